import PyProof.Rows.All
import Wide.All
import OpenK.AllK
import Wide.FinOn
import Lean
import PyProof.EqAt
import PyProof.EqKinds
import PyProof.TupleCall
import PyProof.NeKinds
import PyProof.SumWalkG
import PySem.Challenge.RW_markscale_k47_scales_of_colour_and_size
set_option Elab.async false
set_option linter.all false
set_option maxRecDepth 100000
/-! THE HAND LAYER, for ints, bools, texts, own classes, LISTS and tuples (index, slices, in, append, pop ..), calls, loops. Paste it whole ahead of your own text; what your proof does not reach may be deleted. -/
namespace L2
open PySem PySem.Spec PyProof.Rows

/-- a key: an int or a str -/
abbrev Key := Sum Int Str
def keyIs : Key → Value → Bool
  | .inl k, v => Value.isInt k v
  | .inr x, v => Value.isStrOf x v
def keyH (w : World) : Key → Int
  | .inl k => hashInt k
  | .inr x => hashStr w x
theorem keyIs_shape : ∀ {k : Key} {v : Value}, keyIs k v = true → (∃ i t, k = Sum.inl i ∧ v = Value.int i t) ∨ (∃ x t, k = Sum.inr x ∧ v = Value.str x t)
  | .inl i, v, h => by
    obtain ⟨t, e⟩ := Value.isInt_shape (k := i) (v := v) h
    exact .inl ⟨i, t, rfl, e⟩
  | .inr x, v, h => by
    obtain ⟨t, e⟩ := Value.isStrOf_shape (x := x) (v := v) h
    exact .inr ⟨x, t, rfl, e⟩
theorem keyIs_int (i : Int) (t : Tok) : keyIs (.inl i) (.int i t) = true := by simp [keyIs, Value.isInt]
theorem keyIs_str (x : Str) (t : Tok) : keyIs (.inr x) (.str x t) = true := by simp [keyIs, Value.isStrOf]
theorem key_ll (a b : Int) : decide ((Sum.inl a : Key) = Sum.inl b) = (a == b) := by
  by_cases e : a = b
  · subst e; simp
  · have h : ¬ (Sum.inl a : Key) = Sum.inl b := fun q => e (Sum.inl.inj q)
    rw [decide_eq_false h]
    exact (beq_eq_false_iff_ne.mpr e).symm
theorem key_rr (a b : Str) : decide ((Sum.inr a : Key) = Sum.inr b) = decide (a = b) := by
  by_cases e : a = b
  · subst e; simp
  · have h : ¬ (Sum.inr a : Key) = Sum.inr b := fun q => e (Sum.inr.inj q)
    rw [decide_eq_false h, decide_eq_false e]
theorem key_lr (a : Int) (b : Str) : decide ((Sum.inl a : Key) = Sum.inr b) = false := decide_eq_false (fun q => nomatch q)
theorem key_rl (a : Str) (b : Int) : decide ((Sum.inr a : Key) = Sum.inl b) = false := decide_eq_false (fun q => nomatch q)

def mixKind (prog : Program) (w : World) : PySem.KeyKind prog w Key where
  is := keyIs
  hash := keyH w
  inj := fun v a b ha hb => by
    rcases keyIs_shape ha with ⟨i, t, rfl, rfl⟩ | ⟨x, t, rfl, rfl⟩
    · rcases keyIs_shape hb with ⟨j, u, rfl, e⟩ | ⟨y, u, rfl, e⟩
      · injection e with e1 _; rw [e1]
      · exact nomatch e
    · rcases keyIs_shape hb with ⟨j, u, rfl, e⟩ | ⟨y, u, rfl, e⟩
      · exact nomatch e
      · injection e with e1 _; rw [e1]
  byValue := fun k v h => by
    rcases keyIs_shape h with ⟨i, t, rfl, rfl⟩ | ⟨x, t, rfl, rfl⟩ <;> rfl
  pyHash := fun hv h => by
    rcases keyIs_shape hv with ⟨i, t, rfl, rfl⟩ | ⟨x, t, rfl, rfl⟩
    · exact wpAny_pyHash_int h
    · exact wpAny_pyHash_str h
  eqBool := fun hu hv h => by
    rcases keyIs_shape hu with ⟨i, t, rfl, rfl⟩ | ⟨x, t, rfl, rfl⟩
    · rcases keyIs_shape hv with ⟨j, u, rfl, rfl⟩ | ⟨y, u, rfl, rfl⟩
      · rw [key_ll] at h; exact wpAny_eqBool_int h
      · rw [key_lr] at h; exact SeqAt.EqAt.int_str i t y u _ _ _ _ h
    · rcases keyIs_shape hv with ⟨j, u, rfl, rfl⟩ | ⟨y, u, rfl, rfl⟩
      · rw [key_rl] at h; exact SeqAt.EqAt.str_int x t j u _ _ _ _ h
      · rw [key_rr] at h; exact wpAny_eqBool_str h
  «strs» := fun k x t v h => by
    rcases keyIs_shape h with ⟨i, u, rfl, e⟩ | ⟨y, u, rfl, e⟩
    · exact nomatch e
    · injection e with e1 _
      subst e1
      cases v <;> rfl

theorem mixKind_int (prog : Program) (w : World) (i : Int) (t : Tok) : (mixKind prog w).is (.inl i) (.int i t) = true := keyIs_int i t
theorem mixKind_str (prog : Program) (w : World) (x : Str) (t : Tok) : (mixKind prog w).is (.inr x) (.str x t) = true := keyIs_str x t
end L2

namespace L2
open PySem PySem.Spec PyProof.Rows

/-- a value, without the heap -/
inductive V where
  | non | bl (b : Bool) | int (i : Int) | str (x : Str) | byt (b : Array UInt8) | flt (b : UInt64) | ref (a : Addr) | ty (n : String)
  deriving DecidableEq

def RelV : V → Value → Prop
  | .non, u => u = Value.none
  | .bl b, u => u = Value.bool b
  | .int i, u => ∃ t, u = Value.int i t
  | .str x, u => ∃ t, u = Value.str x t
  | .byt b, u => ∃ t, u = Value.bytes b t
  | .flt b, u => ∃ t, u = Value.float b t
  | .ref a, u => u = Value.ref a
  | .ty n, u => u = Value.type n

abbrev Vals : List V → List Value → Prop := Paired RelV
theorem Vals.length {xs : List V} {us : List Value} (r : Vals xs us) : xs.length = us.length := Paired.length r
theorem Vals.get : ∀ {xs : List V} {us : List Value} {i : Nat} {x : V}, Vals xs us → xs[i]? = some x → ∃ u, us[i]? = some u ∧ RelV x u
  | _, _, _, _, .nil, e => by simp at e
  | _, _, 0, _, .cons r _, e => by simp at e; subst e; exact ⟨_, rfl, r⟩
  | _, _, i + 1, x, .cons _ t, e => by
    obtain ⟨u, h1, h2⟩ := Vals.get (i := i) (x := x) t (by simpa using e)
    exact ⟨u, by simpa using h1, h2⟩
theorem Vals.set {x : V} {u : Value} (r : RelV x u) : ∀ {xs : List V} {us : List Value} (i : Nat), Vals xs us → Vals (xs.set i x) (us.set i u)
  | _, _, _, .nil => .nil
  | _, _, 0, .cons _ t => .cons r t
  | _, _, i + 1, .cons q t => .cons q (Vals.set r i t)
theorem Vals.append : ∀ {xs ys : List V} {us ws : List Value}, Vals xs us → Vals ys ws → Vals (xs ++ ys) (us ++ ws)
  | _, _, _, _, .nil, s => s
  | _, _, _, _, .cons r t, s => .cons r (Vals.append t s)
theorem Vals.take : ∀ {xs : List V} {us : List Value} (n : Nat), Vals xs us → Vals (xs.take n) (us.take n)
  | _, _, 0, _ => .nil
  | _, _, _ + 1, .nil => .nil
  | _, _, n + 1, .cons r t => .cons r (Vals.take n t)
theorem Vals.drop : ∀ {xs : List V} {us : List Value} (n : Nat), Vals xs us → Vals (xs.drop n) (us.drop n)
  | _, _, 0, r => r
  | _, _, _ + 1, .nil => .nil
  | _, _, n + 1, .cons _ t => Vals.drop n t
def RelO : Option V → Option Value → Prop
  | some v, some u => RelV v u
  | none, none => True
  | _, _ => False
def KV {κ : Type} : List (κ × V) → List (κ × Value) → Prop := Paired fun (p : κ × V) (q : κ × Value) => p.1 = q.1 ∧ RelV p.2 q.2

/-- a key of a dict (00_mix): an int or a text -/
def kV : Key → V
  | .inl i => .int i
  | .inr x => .str x

/-- what stands at a tracked address -/
inductive HO where
  /-- a list -/
  | lst (xs : List V)
  /-- a tuple (never changes) -/
  | tup (xs : List V)
  /-- a dict whose keys are ints and texts; one whose keys are tuples of ints and texts (the empty one is both) -/
  | dK (kvs : List (Key × V)) | dT (kvs : List (List Key × V))
  /-- a set of ints: its members, its size -/
  | set (S : Int → Bool) (n : Nat)
  /-- an instance of the class at C, its dict at dx, its attributes -/
  | ins (C dx : Addr) (fs : List (Str × V))
  /-- the dict of the instance at x -/
  | own (x : Addr)
  /-- the dict of an exception -/
  | xd (fs : List (Str × V))
  /-- a bound method, f of x -/
  | met (f x : Addr)
  /-- a range object lo, lo + 1, .. below hi -/
  | rng (lo hi : Int)
  /-- a thing that is known to the object (the script; a dict while a loop walks it): read, never written while it is so -/
  | frz (o : Obj) (u : HO)
  /-- a code object's table -/
  | tbl (ps : Array Value)
  /-- any other thing, by what is true of its one object (a def of one's own: SetO a S n := HO.ext fun h => ..) -/
  | ext (φ : Heap → Prop)

abbrev Hp := Addr → Option HO
def upd (H : Hp) (a : Addr) (o : HO) : Hp := fun b => if b = a then some o else H b
theorem upd_same {H : Hp} {a : Addr} {o : HO} : upd H a o a = some o := by unfold upd; rw [if_pos rfl]
theorem upd_ne {H : Hp} {a b : Addr} {o : HO} (h : b ≠ a) : upd H a o b = H b := by unfold upd; rw [if_neg h]
theorem ne_of_none {H : Hp} {a b : Addr} {o : HO} (h : H a = some o) (h' : H b = none) : a ≠ b := by
  intro e; subst e; rw [h] at h'; cases h'

section
variable (P : Program) (w : World)
def ObjOk (H : Hp) (h : Heap) (a : Addr) : HO → Prop
  | .lst xs => xs.length ≤ sizeLine ∧ ∃ (its : List Value) (n : Nat), Vals xs its ∧ h.get? a = some { cls := .type "list", data := .seq its.toArray n }
  | .tup xs => xs.length ≤ sizeLine ∧ ∃ its : List Value, Vals xs its ∧ IsTup h a its.toArray
  | .dK kvs => kvs.length ≤ sizeLine ∧ (a == sysModules) = false ∧ ∃ vs, KV kvs vs ∧ h.DictOf (mixKind P w) a vs
  | .dT kvs => kvs.length ≤ sizeLine ∧ (a == sysModules) = false ∧ ∃ xs : List (List Key × Addr × Value),
      Paired (fun (p : List Key × V) (q : List Key × Addr × Value) => p.1 = q.1 ∧ H q.2.1 = some (.tup (p.1.map kV)) ∧ RelV p.2 q.2.2) kvs xs ∧
      ∃ o es ep, h.get? a = some o ∧ o.ExactDict ∧ o.data = .dict es ep ∧ es.toList = xs.map (entryOfKey (tupleKind (mixKind P w))) ∧ (xs.map (·.1)).Nodup
  | .set S n => h.SetOf (intKind P w) a S n
  | .ins C dx fs => H dx = some (.own a) ∧ fs.length ≤ 1000 ∧ dx ≠ a ∧ h.get? a = some (PySem.W.instObj C dx) ∧
      ∃ mA, h.Ns1 dx mA ∧ (∀ f, RelO (fs.lookup f) (mA f)) ∧ PySem.Within mA (fs.map (·.1))
  | .own _ => ∃ o, h.get? a = some o
  | .xd fs => ∃ mA, h.Ns1 a mA ∧ ∀ f, RelO (fs.lookup f) (mA f)
  | .rng lo hi => ∃ t u v, h.get? a = some { cls := .type "range", data := .fields #[.int lo t, .int hi u, .int 1 v] }
  | .frz o u => h.get? a = some o ∧ ObjOk H h a u
  | .tbl ps => h.get? a = some { cls := .none, data := .fields ps }
  | .met f x => h.get? a = some (PySem.W.methodObj (.ref f) (.ref x))
  | .ext φ => φ h ∧ (∃ o, h.get? a = some o) ∧ ∀ h1 h2 : Heap, φ h1 → (∀ o, h1.get? a = some o → h2.get? a = some o) → φ h2
/-- the abstract heap is held -/
def HOk (H : Hp) (h : Heap) : Prop := ∀ a o, H a = some o → ObjOk P w H h a o
end

section
variable {P : Program} {w : World} {H H' : Hp} {h h' : Heap} {a : Addr} {o : HO}
theorem ObjOk.lt (x : ObjOk P w H h a o) : a < h.objs.size := by
  cases o with
  | lst xs => obtain ⟨_, _, _, _, e⟩ := x; exact Heap.lt_size e
  | tup xs => obtain ⟨_, _, _, p⟩ := x; exact p.lt
  | dK kvs => obtain ⟨_, _, _, _, o, _, _, e, _⟩ := x; exact Heap.lt_size e
  | dT kvs => obtain ⟨_, _, _, _, o, _, _, e, _⟩ := x; exact Heap.lt_size e
  | set S n => obtain ⟨o, _, _, _, e, _⟩ := x; exact Heap.lt_size e
  | ins C dx fs => obtain ⟨_, _, _, e, _⟩ := x; exact Heap.lt_size e
  | own y => obtain ⟨_, e⟩ := x; exact Heap.lt_size e
  | xd fs => obtain ⟨_, ⟨_, _, _, e, _⟩, _⟩ := x; exact Heap.lt_size e
  | rng lo hi => obtain ⟨_, _, _, e⟩ := x; exact Heap.lt_size e
  | frz ob u => obtain ⟨e, _⟩ := x; exact Heap.lt_size e
  | tbl ps => exact Heap.lt_size (show h.get? a = some _ from x)
  | met f y => exact Heap.lt_size (show h.get? a = some _ from x)
  | ext φ => obtain ⟨_, ⟨_, e⟩, _⟩ := x; exact Heap.lt_size e
theorem Paired.mapP {α β : Type} {F G : α → β → Prop} : ∀ {l₁ : List α} {l₂ : List β}, Paired F l₁ l₂ → (∀ a b, F a b → G a b) → Paired G l₁ l₂
  | _, _, .nil, _ => .nil
  | _, _, .cons r t, f => .cons (f _ _ r) (Paired.mapP t f)
/-- what an object's description leans on: its own object, its own dict, the tuples -/
theorem ObjOk.stay (x : ObjOk P w H h a o) (k : ∀ b u, (b = a ∨ H b = some (.own a)) → h.get? b = some u → h'.get? b = some u)
    (ho : ∀ b, H b = some (.own a) → H' b = some (.own a)) (ht : ∀ b xs, H b = some (.tup xs) → H' b = some (.tup xs)) : ObjOk P w H' h' a o := by
  induction o with
  | lst xs => obtain ⟨z, its, n, r, e⟩ := x; exact ⟨z, its, n, r, k _ _ (.inl rfl) e⟩
  | tup xs => obtain ⟨z, its, r, ob, e, c⟩ := x; exact ⟨z, its, r, ob, k _ _ (.inl rfl) e, c⟩
  | dK kvs => obtain ⟨z, y, vs, r, ob, es, ep, e, c⟩ := x; exact ⟨z, y, vs, r, ob, es, ep, k _ _ (.inl rfl) e, c⟩
  | dT kvs =>
    obtain ⟨z, y, xs, r, ob, es, ep, e, c⟩ := x
    exact ⟨z, y, xs, Paired.mapP r fun p q z => ⟨z.1, ht _ _ z.2.1, z.2.2⟩, ob, es, ep, k _ _ (.inl rfl) e, c⟩
  | set S n => obtain ⟨ob, es, ep, t, e, c⟩ := x; exact ⟨ob, es, ep, t, k _ _ (.inl rfl) e, c⟩
  | ins C dx fs =>
    obtain ⟨d, z, ne, e, mA, ⟨od, es, ep, e2, c⟩, r⟩ := x
    exact ⟨ho _ d, z, ne, k _ _ (.inl rfl) e, mA, ⟨od, es, ep, k _ _ (.inr d) e2, c⟩, r⟩
  | own y => obtain ⟨ob, e⟩ := x; exact ⟨ob, k _ _ (.inl rfl) e⟩
  | xd fs => obtain ⟨mA, ⟨od, es, ep, e, c⟩, r⟩ := x; exact ⟨mA, ⟨od, es, ep, k _ _ (.inl rfl) e, c⟩, r⟩
  | rng lo hi => obtain ⟨t, u, v, e⟩ := x; exact ⟨t, u, v, k _ _ (.inl rfl) e⟩
  | frz ob u ih => obtain ⟨e, q⟩ := x; exact ⟨k _ _ (.inl rfl) e, ih q⟩
  | tbl ps =>
    have e : h.get? a = some { cls := .none, data := .fields ps } := x
    show h'.get? a = some { cls := .none, data := .fields ps }
    exact k a _ (.inl rfl) e
  | met f y =>
    have e : h.get? a = some (PySem.W.methodObj (.ref f) (.ref y)) := x
    show h'.get? a = some (PySem.W.methodObj (.ref f) (.ref y))
    exact k a _ (.inl rfl) e
  | ext φ => obtain ⟨p, ⟨o, e⟩, st⟩ := x; exact ⟨st _ _ p fun o q => k _ _ (.inl rfl) q, ⟨o, k _ _ (.inl rfl) e⟩, st⟩
theorem HOk.lt (x : HOk P w H h) (e : H a = some o) : a < h.objs.size := (x a o e).lt
theorem HOk.fresh (x : HOk P w H h) (e : h.objs.size ≤ a) : H a = none := by
  cases q : H a with
  | none => rfl
  | some u => exact absurd (Nat.lt_of_lt_of_le (x.lt q) e) (Nat.lt_irrefl _)
/-- every object of the heap is kept -/
theorem HOk.kept (x : HOk P w H h) (k : ∀ b u, h.get? b = some u → h'.get? b = some u) : HOk P w H h' := fun a o e =>
  (x a o e).stay (fun b u _ q => k b u q) (fun _ q => q) fun _ _ q => q
/-- a new object is laid and tracked -/
theorem HOk.laid (x : HOk P w H h) (k : ∀ b u, h.get? b = some u → h'.get? b = some u) (hp : h.objs.size ≤ a) (new : ObjOk P w (upd H a o) h' a o) : HOk P w (upd H a o) h' := fun b u e => by
  have hn := x.fresh hp
  by_cases hb : b = a
  · subst hb; rw [upd_same] at e; cases e; exact new
  · rw [upd_ne hb] at e
    exact (x b u e).stay (fun c v _ q => k c v q) (fun c q => by rw [upd_ne (ne_of_none q hn)]; exact q) fun c xs q => by rw [upd_ne (ne_of_none q hn)]; exact q
end

/-- what may be read as u: it is u, or a known u -/
def Rd (H : Hp) (a : Addr) (u : HO) : Prop := H a = some u ∨ ∃ o, H a = some (.frz o u)
theorem Rd.of {H : Hp} {a : Addr} {u : HO} (h : H a = some u) : Rd H a u := .inl h
theorem Rd.ok {P : Program} {w : World} {H : Hp} {h : Heap} {a : Addr} {u : HO} (r : Rd H a u) (x : HOk P w H h) : ObjOk P w H h a u := by
  rcases r with r | ⟨o, r⟩
  · exact x a u r
  · obtain ⟨_, q⟩ := x a _ r
    exact q
/-- what may be written -/
def Mut : Option HO → Prop
  | some (.lst _) => True
  | some (.dK _) => True
  | some (.dT _) => True
  | some (.set _ _) => True
  | some (.ins _ _ _) => True
  | some (.ext _) => True
  | _ => False
section
variable {P : Program} {w : World} {H : Hp} {h h' : Heap} {x e : Addr} {o' : HO}
/-- the object at e is changed: x itself, or the dict of the instance x -/
theorem HOk.write (ok : HOk P w H h) (mu : Mut (H x)) (he : e = x ∨ H e = some (.own x)) (k : ∀ b u, b ≠ e → h.get? b = some u → h'.get? b = some u) (heo : ∃ u, h'.get? e = some u)
    (new : ObjOk P w (upd H x o') h' x o') : HOk P w (upd H x o') h' := fun b u q => by
  have nown : ∀ c y, H c = some (.own y) → c ≠ x := fun c y r z => by subst z; rw [r] at mu; exact mu
  have ntup : ∀ c xs, H c = some (.tup xs) → c ≠ x := fun c xs r z => by subst z; rw [r] at mu; exact mu
  by_cases hb : b = x
  · subst hb; rw [upd_same] at q; cases q; exact new
  · rw [upd_ne hb] at q
    by_cases hbe : b = e
    · have q' : H b = some (.own x) := by
        rcases he with z | z
        · exact absurd (hbe.trans z) hb
        · rw [hbe]; exact z
      rw [q] at q'; cases q'
      obtain ⟨v, hv⟩ := heo
      exact ⟨v, by rw [hbe]; exact hv⟩
    · refine (ok b u q).stay (fun c v hc r => k c v ?_ r) (fun c r => by rw [upd_ne (nown c b r)]; exact r) fun c xs r => by rw [upd_ne (ntup c xs r)]; exact r
      rcases hc with rfl | hc
      · exact hbe
      · rintro rfl
        rcases he with z | z
        · exact nown c b hc z
        · rw [hc] at z; cases z; exact hb rfl
end

/-! ### kept unless tracked; of the frames at fs (the callers') the slots may change (an exception that passes writes there); of the records at ex (iterators) nothing is said -/
structure Un (fs ex : List Addr) (H H' : Hp) (h h' : Heap) : Prop where
  keep : ∀ b o, h.get? b = some o → H b = none → b ∉ fs → b ∉ ex → h'.get? b = some o
  slot : ∀ b o, h.get? b = some o → H b = none → b ∈ fs → b ∉ ex → ∃ sl, h'.get? b = some { o with slots := sl }
  free : ∀ b o, h.get? b = some o → H b = none → b ∉ ex → H' b = none
  there : ∀ b o, h.get? b = some o → b ∉ ex → ∃ o', h'.get? b = some o'
  tups : ∀ b xs, H b = some (.tup xs) → H' b = some (.tup xs)
  frzs : ∀ b o u, H b = some (.frz o u) → H' b = some (.frz o u)
  tbls : ∀ b ps, H b = some (.tbl ps) → ∃ more, H' b = some (.tbl (ps ++ more))
section
variable {fs fs' ex ex' : List Addr} {H H1 H2 : Hp} {h h1 h2 h' : Heap} {a x e : Addr} {o : HO}
theorem Un.any (u : Un fs ex H H1 h h1) {b : Addr} {ob : Obj} (q : h.get? b = some ob) (n : H b = none) (hx : b ∉ ex) : ∃ sl, h1.get? b = some { ob with slots := sl } := by
  by_cases hb : b ∈ fs
  · exact u.slot b ob q n hb hx
  · exact ⟨ob.slots, u.keep b ob q n hb hx⟩
theorem Un.trans (a : Un fs ex H H1 h h1) (b : Un fs ex H1 H2 h1 h2) : Un fs ex H H2 h h2 where
  keep := fun c ob q n hc hx => b.keep c ob (a.keep c ob q n hc hx) (a.free c ob q n hx) hc hx
  slot := fun c ob q n hc hx => by
    obtain ⟨sl, e1⟩ := a.slot c ob q n hc hx
    obtain ⟨sl', e2⟩ := b.slot c _ e1 (a.free c ob q n hx) hc hx
    exact ⟨sl', e2⟩
  free := fun c ob q n hx => by
    obtain ⟨o', e1⟩ := a.there c ob q hx
    exact b.free c o' e1 (a.free c ob q n hx) hx
  there := fun c ob q hx => by
    obtain ⟨o', e1⟩ := a.there c ob q hx
    exact b.there c o' e1 hx
  tups := fun c xs q => b.tups c xs (a.tups c xs q)
  frzs := fun c ob xs q => b.frzs c ob xs (a.frzs c ob xs q)
  tbls := fun c ps q => by
    obtain ⟨m1, e1⟩ := a.tbls c ps q
    obtain ⟨m2, e2⟩ := b.tbls c _ e1
    exact ⟨m1 ++ m2, by rw [e2, Array.append_assoc]⟩
theorem Un.kept (k : ∀ b u, h.get? b = some u → h'.get? b = some u) : Un fs ex H H h h' :=
  ⟨fun b ob q _ _ _ => k b ob q, fun b ob q _ _ _ => ⟨ob.slots, k b ob q⟩, fun _ _ _ n _ => n, fun b ob q _ => ⟨ob, k b ob q⟩, fun _ _ q => q, fun _ _ _ q => q, fun _ ps q => ⟨#[], by rw [q]; simp⟩⟩
theorem Un.refl : Un fs ex H H h h := Un.kept fun _ _ q => q
theorem Un.laid (k : ∀ b u, h.get? b = some u → h'.get? b = some u) (hp : h.objs.size ≤ a) (hn : H a = none) : Un fs ex H (upd H a o) h h' where
  keep := fun b u q _ _ _ => k b u q
  slot := fun b u q _ _ _ => ⟨u.slots, k b u q⟩
  free := fun b u q n _ => by rw [upd_ne (Nat.ne_of_lt (Nat.lt_of_lt_of_le (Heap.lt_size q) hp))]; exact n
  there := fun b u q _ => ⟨u, k b u q⟩
  tups := fun b xs q => by rw [upd_ne (ne_of_none q hn)]; exact q
  frzs := fun b u xs q => by rw [upd_ne (ne_of_none q hn)]; exact q
  tbls := fun b ps q => ⟨#[], by rw [upd_ne (ne_of_none q hn), q]; simp⟩
theorem Un.write (mu : Mut (H x)) (he : e = x ∨ H e = some (.own x)) (k : ∀ b u, b ≠ e → h.get? b = some u → h'.get? b = some u) (heo : ∃ u, h'.get? e = some u) : Un fs ex H (upd H x o) h h' := by
  have hx : ∀ b, H b = none → b ≠ x := fun b n z => by subst z; rw [n] at mu; exact mu
  have hb : ∀ b, H b = none → b ≠ e := fun b n z => by
    subst z
    rcases he with r | r
    · exact hx b n r
    · rw [n] at r; cases r
  have hm : ∀ b u, H b = some u → ¬ Mut (some u) → b ≠ x := fun b u q nm z => by subst z; rw [q] at mu; exact nm mu
  refine ⟨fun b u q n _ _ => k b u (hb b n) q, fun b u q n _ _ => ⟨u.slots, k b u (hb b n) q⟩, fun b u q n _ => by rw [upd_ne (hx b n)]; exact n, fun b u q _ => ?_,
    fun b xs q => by rw [upd_ne (hm b _ q fun z => z)]; exact q, fun b u xs q => by rw [upd_ne (hm b _ q fun z => z)]; exact q, fun b ps q => ⟨#[], by rw [upd_ne (hm b _ q fun z => z), q]; simp⟩⟩
  by_cases hbe : b = e
  · subst hbe; exact heo
  · exact ⟨u, k b u hbe q⟩
theorem Un.mono (u : Un fs ex H H1 h h1) (hs : ∀ b ∈ fs, b ∈ fs') (hx : ∀ b ∈ ex, b ∈ ex') : Un fs' ex' H H1 h h1 :=
  ⟨fun b ob q n hb he => u.keep b ob q n (fun z => hb (hs b z)) fun z => he (hx b z), fun _ _ q n _ he => u.any q n fun z => he (hx _ z), fun b ob q n he => u.free b ob q n fun z => he (hx b z), fun b ob q he => u.there b ob q fun z => he (hx b z), u.tups, u.frzs, u.tbls⟩
end

/-! ### the heap without what is tracked -/
def trk (h : Heap) (H : Hp) : List Addr := (List.range h.objs.size).filter fun a => (H a).isSome
def hidT (h : Heap) (H : Hp) : Heap := PySem.W.hideAll h (trk h H)
theorem hidT_size (h : Heap) (H : Hp) : (hidT h H).objs.size = h.objs.size := PySem.W.hideAll_size _ _
theorem hidT_get {h : Heap} {H : Hp} {b : Addr} {o : Obj} (e : h.get? b = some o) (n : H b = none) : (hidT h H).get? b = some o :=
  PySem.W.hideAll_get _ e fun hm => by
    have q : (H b).isSome = true := (List.mem_filter.mp hm).2
    rw [n] at q; simp at q
theorem of_hidT {h : Heap} {H : Hp} {b : Addr} {o : Obj} (e : (hidT h H).get? b = some o) : h.get? b = some o ∧ H b = none := by
  have e' : h.get? b = some o := PySem.W.of_hideAll (trk h H) e
  refine ⟨e', ?_⟩
  cases q : H b with
  | none => rfl
  | some x =>
    have hm : b ∈ trk h H := List.mem_filter.mpr ⟨List.mem_range.mpr (Heap.lt_size e'), by simp [q]⟩
    have z : (hidT h H).get? b = none := PySem.W.hideAll_none (trk h H) hm
    rw [z] at e; cases e

/-! ### OpenK's ledger, filled with every new object but one -/
def allNews (g h : Heap) (L : Addr) : List (Addr × Obj) := (List.range h.objs.size).filterMap fun a => if a = L ∨ (g.get? a).isSome = true then none else (h.get? a).map fun o => (a, o)
def rest (g h : Heap) (L d : Addr) : List (Addr × Obj) := (allNews g h L).filter fun p => decide (p.1 ≠ d)
end L2

namespace L2
open PySem PySem.Spec PyProof.Rows

/-- the module's facts, over the base: the heap at the law's entry without what is tracked there -/
structure Mod (K : PySem.W.Frag) (mg : Str → Option Value) (base : Heap) : Prop where
  kin : K.In base
  glob : base.Ns mainGlobals mg
  blt : ∃ mb, base.Ns builtinsNs mb ∧ ∀ x : Str, x ≠ "__name__" → mb x = bootBuiltins x
  nolimit : base.NoLimit

/-- the context: a def's body (or a comprehension's block) running. base: fixed through the whole law; s₀, H₀: the entry; outer: the frames whose slots others may change (a def's callers); stack: all frames that run;
   ex: iterators that were made ahead of the entry and are walked here (a comprehension's); fn: the names whose cells were made at the entry (a def: all; a comprehension's block: its own); calm: not within an except suite; pn: pins that every state bears; xe: what is wanted of an exception that leaves the code -/
structure Cx where
  prog : Program
  w : World
  K : PySem.W.Frag
  mg : Str → Option Value
  base : Heap
  A : Around
  N : List Str
  s₀ : Shared
  H₀ : Hp
  env : Env
  outer : List Env
  stack : List Env
  ex : List Addr
  fn : Str → Bool
  calm : Bool
  pn : List (Addr × Obj)
  xe : Value → Shared → Prop
/-- the callers' frames -/
def frs (l : List Env) : List Addr := l.filterMap (·.frame)
abbrev Cx.fs (X : Cx) : List Addr := frs X.outer

def Vis (sc : Scope) (x : Str) : Prop := sc.names.lookup x = some .local ∨ sc.names.lookup x = some .cell ∨ sc.names.lookup x = some .free
def Loc (sc : Scope) (x : Str) : Prop := sc.names.lookup x = some .local ∨ sc.names.lookup x = some .cell
def Look (env : Env) (h : Heap) (m : Str → Option Value) (x : Str) (u : Value) : Prop :=
  (env.kindOf x = some .local ∧ m x = some u) ∨ ((env.kindOf x = some .cell ∨ env.kindOf x = some .free) ∧ ∃ c, env.cells.lookup x = some c ∧ h.IsCell c (some u))

structure Cx.Ok (X : Cx) : Prop where
  mod : Mod X.K X.mg X.base
  kind : X.env.scope.kind = .function
  glob : X.env.globals = mainGlobals
  blt : X.env.builtins = builtinsNs
  above : X.s₀.heap.objs.size ≤ X.env.locals
  inj : ∀ x y c, X.env.cells.lookup x = some c → X.env.cells.lookup y = some c → x = y
  has : ∀ x, (X.env.kindOf x = some .cell ∨ X.env.kindOf x = some .free) → ∃ c, X.env.cells.lookup x = some c
  cab : ∀ x c, X.fn x = true → X.env.cells.lookup x = some c → X.s₀.heap.objs.size ≤ c
  hd : X.calm = true → X.A.handled = none
  frames : X.A.frames = some X.stack
  stk : X.stack = X.outer ∨ (X.stack = X.env :: X.outer ∧ X.env.frame = some X.env.locals)
  exf : ∀ b ∈ X.ex, b ≠ X.env.locals ∧ ∀ x c, X.env.cells.lookup x = some c → c ≠ b
  bs : ∀ b o, X.base.get? b = some o → X.s₀.heap.get? b = some o ∧ X.H₀ b = none
  bsz : X.base.objs.size ≤ X.s₀.heap.objs.size
  noex : ∀ b o, X.base.get? b = some o → b ∉ X.ex
  exfs : ∀ b ∈ X.ex, b ∉ X.fs
  funs : X.s₀.heap.FunFrames X.base X.outer
  frf : ∀ b ∈ X.fs, X.H₀ b = none

structure Inv (X : Cx) (pins : List (Addr × Obj)) (σ : List (Option V)) (H : Hp) (s : Shared) : Prop where
  ok : X.Ok
  os : s.os = X.s₀.os
  bare : AllBare s.gens
  base : Un X.fs X.ex X.H₀ H X.s₀.heap s.heap
  loc : ∃ m, s.heap.Ns X.env.locals m ∧ ∀ (i : Nat) (x : Str) (v : V), X.N[i]? = some x → σ[i]? = some (some v) → Vis X.env.scope x → ∃ u, RelV v u ∧ Look X.env s.heap m x u
  cell : ∀ x c, X.env.cells.lookup x = some c → ∃ v, s.heap.IsCell c v
  free : H X.env.locals = none
  freeC : ∀ x c, X.env.cells.lookup x = some c → H c = none
  pin : ∀ p ∈ X.pn ++ pins, s.heap.get? p.1 = some p.2 ∧ H p.1 = none ∧ p.1 ≠ X.env.locals ∧ p.1 ∉ X.fs ∧ ∀ v, p.2.data ≠ .cell v
  hok : HOk X.prog X.w H s.heap
  len : σ.length = X.N.length

section
variable {X : Cx} {pins : List (Addr × Obj)} {σ : List (Option V)} {H H' : Hp} {s : Shared} {h' : Heap}

theorem Cx.Ok.nofr (ok : X.Ok) {b : Addr} {o : Obj} (e : X.base.get? b = some o) : b ∉ X.fs := fun hb => by
  have := (ok.funs.mem hb).1
  rw [e] at this; cases this
theorem Inv.bs (I : Inv X pins σ H s) : ∀ b o, X.base.get? b = some o → s.heap.get? b = some o ∧ H b = none := fun b o e =>
  ⟨I.base.keep b o (I.ok.bs b o e).1 (I.ok.bs b o e).2 (I.ok.nofr e) (I.ok.noex b o e), I.base.free b o (I.ok.bs b o e).1 (I.ok.bs b o e).2 (I.ok.noex b o e)⟩
theorem Inv.bk (I : Inv X pins σ H s) : ∀ b o, X.base.get? b = some o → s.heap.get? b = some o := fun b o e => (I.bs b o e).1
theorem Inv.mod (I : Inv X pins σ H s) : Mod X.K X.mg X.base := I.ok.mod
theorem Inv.kIn (I : Inv X pins σ H s) : X.K.In s.heap := I.ok.mod.kin.keeps I.bk
theorem Inv.nolimit (I : Inv X pins σ H s) : s.heap.NoLimit := I.ok.mod.nolimit.keeps I.bk
/-- the frame over the base: for OpenK's rules (K.In X.base is I.mod.kin) -/
theorem Inv.fr (I : Inv X pins σ H s) : ∃ m, Fr X.base X.env.locals s.heap m :=
  let ⟨m, hn, _⟩ := I.loc
  ⟨m, hn, I.bk, Nat.le_trans I.ok.bsz I.ok.above⟩
theorem Inv.lt (I : Inv X pins σ H s) : X.env.locals < s.heap.objs.size := let ⟨_, hn, _⟩ := I.loc; hn.lt
theorem Inv.sz (I : Inv X pins σ H s) : X.s₀.heap.objs.size ≤ s.heap.objs.size := Nat.le_trans I.ok.above (Nat.le_of_lt I.lt)
theorem Inv.nofs (I : Inv X pins σ H s) {a : Addr} (h : s.heap.objs.size ≤ a) : a ∉ X.fs := fun hb => by
  obtain ⟨_, o, ho, _⟩ := I.ok.funs.mem hb
  exact absurd (Nat.lt_of_lt_of_le (Heap.lt_size ho) (Nat.le_trans I.sz h)) (Nat.lt_irrefl _)
theorem Inv.cne (I : Inv X pins σ H s) : ∀ x c, X.env.cells.lookup x = some c → c ≠ X.env.locals := fun x c e z => by
  obtain ⟨v, o, ho, hd⟩ := I.cell x c e
  obtain ⟨m, ⟨o', es, ep, ho', hd', _⟩, _⟩ := I.loc
  rw [z, ho'] at ho; cases ho; rw [hd'] at hd; cases hd
theorem Inv.funs (I : Inv X pins σ H s) : s.heap.FunFrames X.base X.outer := by
  have all : ∀ (l : List Env), (∀ b ∈ frs l, b ∈ X.fs) → X.s₀.heap.FunFrames X.base l → s.heap.FunFrames X.base l := by
    intro l
    induction l with
    | nil => intro _ _; trivial
    | cons env r ih =>
      intro hs hl
      obtain ⟨hk, ⟨L, o, hf, hn, ho, hd⟩, hr⟩ := hl
      have hL : L ∈ X.fs := hs L (by unfold frs; rw [List.filterMap_cons, hf]; exact List.mem_cons_self)
      obtain ⟨sl, e⟩ := I.base.slot L o ho (I.ok.frf L hL) hL fun z => I.ok.exfs L z hL
      exact ⟨hk, ⟨L, _, hf, hn, e, hd⟩, ih (fun b hb => hs b (by unfold frs; rw [List.filterMap_cons, hf]; exact List.mem_cons_of_mem _ hb)) hr⟩
  exact all X.outer (fun _ hb => hb) I.ok.funs

/-- the frames that run, for a call -/
theorem Inv.stack (I : Inv X pins σ H s) : s.heap.FunFrames X.base X.stack := by
  rcases I.ok.stk with e | ⟨e, hf⟩
  · rw [e]; exact I.funs
  · rw [e]
    obtain ⟨m, hn, _⟩ := I.loc
    refine .cons (by rw [I.ok.kind]; decide) hf hn ?_ I.funs
    exact Heap.get?_none_of_le (Nat.le_trans I.ok.bsz I.ok.above)
theorem Inv.stkSub (I : Inv X pins σ H s) : ∀ b ∈ frs X.stack, b ∈ X.env.locals :: X.fs := fun b hb => by
  rcases I.ok.stk with e | ⟨e, hf⟩
  · rw [e] at hb; exact List.mem_cons_of_mem _ hb
  · rw [e] at hb
    unfold frs at hb
    rw [List.filterMap_cons, hf] at hb
    exact hb
theorem Inv.stkFree (I : Inv X pins σ H s) : ∀ b ∈ frs X.stack, H b = none := fun b hb => by
  rcases List.mem_cons.mp (I.stkSub b hb) with e | hb
  · rw [e]; exact I.free
  · obtain ⟨_, o, ho, _⟩ := I.ok.funs.mem hb
    exact I.base.free b o ho (I.ok.frf b hb) fun z => I.ok.exfs b z hb

/-- THE STEP: the untracked objects but the frame and the records at ch are kept (the callers' frames up to slots), the frame's map is kept, the new abstract heap is held -/
theorem Inv.step {g' : Array GenState} {t' : Nat} {d' : Drawn} {ch : List Addr} (I : Inv X pins σ H s)
    (hch : ∀ b ∈ ch, (b ∈ X.ex ∨ X.s₀.heap.objs.size ≤ b) ∧ b ≠ X.env.locals ∧ (∀ x c, X.env.cells.lookup x = some c → c ≠ b) ∧ ∀ p ∈ X.pn ++ pins, p.1 ≠ b)
    (keep : ∀ b o, b ≠ X.env.locals → b ∉ X.fs → b ∉ ch → s.heap.get? b = some o → H b = none → h'.get? b = some o)
    (slot : ∀ b o, b ≠ X.env.locals → b ∈ X.fs → b ∉ ch → s.heap.get? b = some o → H b = none → ∃ sl, h'.get? b = some { o with slots := sl }) (free : ∀ b o, b ∉ ch → s.heap.get? b = some o → H b = none → H' b = none)
    (there : ∀ b o, b ∉ ch → s.heap.get? b = some o → ∃ o', h'.get? b = some o')
    (tups : ∀ b xs, H b = some (.tup xs) → H' b = some (.tup xs)) (frzs : ∀ b o u, H b = some (.frz o u) → H' b = some (.frz o u)) (tbls : ∀ b ps, H b = some (.tbl ps) → ∃ more, H' b = some (.tbl (ps ++ more)))
    (ns : ∀ m, s.heap.Ns X.env.locals m → h'.Ns X.env.locals m) (hok : HOk X.prog X.w H' h') (hg : AllBare g') :
    Inv X pins σ H' { s with heap := h', gens := g', drawn := d', toks := t' } := by
  have neL : ∀ b o, X.s₀.heap.get? b = some o → b ≠ X.env.locals := fun b o e => Nat.ne_of_lt (Nat.lt_of_lt_of_le (Heap.lt_size e) I.ok.above)
  have neC : ∀ b o, X.s₀.heap.get? b = some o → b ∉ X.ex → b ∉ ch := fun b o e hx hb => by
    rcases (hch b hb).1 with z | z
    · exact hx z
    · exact absurd (Nat.lt_of_lt_of_le (Heap.lt_size e) z) (Nat.lt_irrefl _)
  have cellK : ∀ x c, X.env.cells.lookup x = some c → ∀ v, s.heap.IsCell c v → h'.IsCell c v := fun x c e v ⟨o, ho, hd⟩ => by
    have nch : c ∉ ch := fun z => (hch c z).2.2.1 x c e rfl
    by_cases hc : c ∈ X.fs
    · obtain ⟨sl, q⟩ := slot c o (I.cne x c e) hc nch ho (I.freeC x c e)
      exact ⟨_, q, hd⟩
    · exact ⟨o, keep c o (I.cne x c e) hc nch ho (I.freeC x c e), hd⟩
  refine ⟨I.ok, I.os, hg, ⟨fun b o e n hb hx => ?_, fun b o e n hb hx => ?_, fun b o e n hx => ?_, fun b o e hx => ?_, fun b xs e => tups b xs (I.base.tups b xs e), fun b o xs e => frzs b o xs (I.base.frzs b o xs e), fun b ps e => ?_⟩, ?_, fun x c e => ?_, ?_, fun x c e => ?_, fun p hp => ?_, hok, I.len⟩
  · exact keep b o (neL b o e) hb (neC b o e hx) (I.base.keep b o e n hb hx) (I.base.free b o e n hx)
  · obtain ⟨sl, e1⟩ := I.base.slot b o e n hb hx
    obtain ⟨sl', e2⟩ := slot b _ (neL b o e) hb (neC b o e hx) e1 (I.base.free b o e n hx)
    exact ⟨sl', e2⟩
  · obtain ⟨o', e1⟩ := I.base.there b o e hx
    exact free b o' (neC b o e hx) e1 (I.base.free b o e n hx)
  · obtain ⟨o', e1⟩ := I.base.there b o e hx
    exact there b o' (neC b o e hx) e1
  · obtain ⟨m1, e1⟩ := I.base.tbls b ps e
    obtain ⟨m2, e2⟩ := tbls b _ e1
    exact ⟨m1 ++ m2, by rw [e2, Array.append_assoc]⟩
  · obtain ⟨m, hn, hl⟩ := I.loc
    refine ⟨m, ns m hn, fun i x v e1 e2 e3 => ?_⟩
    obtain ⟨u, r, l⟩ := hl i x v e1 e2 e3
    refine ⟨u, r, ?_⟩
    rcases l with l | ⟨k, c, e, z⟩
    · exact .inl l
    · exact .inr ⟨k, c, e, cellK x c e _ z⟩
  · obtain ⟨v, z⟩ := I.cell x c e
    exact ⟨v, cellK x c e v z⟩
  · obtain ⟨m, ⟨o, _, _, ho, _⟩, _⟩ := I.loc
    exact free _ o (fun z => (hch _ z).2.1 rfl) ho I.free
  · obtain ⟨v, o, ho, hd⟩ := I.cell x c e
    exact free c o (fun z => (hch c z).2.2.1 x c e rfl) ho (I.freeC x c e)
  · obtain ⟨e, n, ne, nf, d⟩ := I.pin p hp
    have nch : p.1 ∉ ch := fun z => (hch p.1 z).2.2.2 p hp rfl
    exact ⟨keep p.1 p.2 ne nf nch e n, free p.1 p.2 nch e n, ne, nf, d⟩
/-- .. where the frame's own object is kept too -/
theorem Inv.un {t' : Nat} (I : Inv X pins σ H s) (u : Un X.fs [] H H' s.heap h') (hok : HOk X.prog X.w H' h') : Inv X pins σ H' { s with heap := h', toks := t' } := by
  obtain ⟨m, ⟨o, es, ep, ho, r⟩, _⟩ := id I.loc
  obtain ⟨sl, hL⟩ := u.any ho I.free (by simp)
  exact I.step (g' := s.gens) (d' := s.drawn) (ch := []) (fun _ z => nomatch z) (fun b o _ hb _ e n => u.keep b o e n hb (by simp)) (fun b o _ hb _ e n => u.slot b o e n hb (by simp)) (fun b o _ e n => u.free b o e n (by simp)) (fun b o _ e => u.there b o e (by simp)) u.tups u.frzs u.tbls (fun m' hm => by
    obtain ⟨o', es', ep', ho', r'⟩ := hm
    rw [ho] at ho'; cases ho'
    exact ⟨_, es', ep', hL, r'⟩) hok I.bare
/-- behind a call (or a comprehension's block): the slots of this frame may have changed too, the records at ch may have turned -/
theorem Inv.call {g' : Array GenState} {t' : Nat} {d' : Drawn} {ch : List Addr} (I : Inv X pins σ H s) (u : Un (frs X.stack) ch H H' s.heap h') (hok : HOk X.prog X.w H' h') (hg : AllBare g')
    (hch : ∀ b ∈ ch, (b ∈ X.ex ∨ X.s₀.heap.objs.size ≤ b) ∧ b ≠ X.env.locals ∧ (∀ x c, X.env.cells.lookup x = some c → c ≠ b) ∧ ∀ p ∈ X.pn ++ pins, p.1 ≠ b) :
    Inv X pins σ H' { s with heap := h', gens := g', drawn := d', toks := t' } := by
  obtain ⟨m, ⟨o, es, ep, ho, r⟩, _⟩ := id I.loc
  obtain ⟨sl, hL⟩ := u.any ho I.free fun z => (hch _ z).2.1 rfl
  exact I.step (ch := ch) hch (fun b o hL hb hc e n => u.keep b o e n (fun z => (List.mem_cons.mp (I.stkSub b z)).elim hL hb) hc) (fun b o _ _ hc e n => u.any e n hc) (fun b o hc e n => u.free b o e n hc) (fun b o hc e => u.there b o e hc) u.tups u.frzs u.tbls (fun m' hm => by
    obtain ⟨o', es', ep', ho', r'⟩ := hm
    rw [ho] at ho'; cases ho'
    exact ⟨_, es', ep', hL, r'⟩) hok hg
/-- an untracked record of ours (an iterator) has turned -/
theorem Inv.turned {t' : Nat} {it : Addr} (I : Inv X pins σ H s) (k : ∀ b o, b ≠ it → s.heap.get? b = some o → h'.get? b = some o) (hn : H it = none) (hL : it ≠ X.env.locals)
    (h1 : it ∈ X.ex ∨ X.s₀.heap.objs.size ≤ it) (h2 : ∀ x c, X.env.cells.lookup x = some c → c ≠ it) (h3 : ∀ p ∈ X.pn ++ pins, p.1 ≠ it) : Inv X pins σ H { s with heap := h', toks := t' } := by
  have nit : ∀ b u, H b = some u → b ≠ it := fun b u e z => by rw [z, hn] at e; cases e
  refine I.step (g' := s.gens) (d' := s.drawn) (ch := [it]) (fun b hb => ?_) (fun b o _ _ hc e _ => k b o (fun z => hc (by simp [z])) e) (fun b o _ _ hc e _ => ⟨o.slots, k b o (fun z => hc (by simp [z])) e⟩) (fun _ _ _ _ n => n)
    (fun b o hc e => ⟨o, k b o (fun z => hc (by simp [z])) e⟩) (fun _ _ e => e) (fun _ _ _ e => e) (fun b ps e => ⟨#[], by rw [e]; simp⟩) (fun m hm => ?_) (fun b u e => ?_) I.bare
  · have e : b = it := by simpa using hb
    subst e
    exact ⟨h1, hL, h2, h3⟩
  · obtain ⟨o, es, ep, ho, r⟩ := hm
    exact ⟨o, es, ep, k _ o (Ne.symm hL) ho, r⟩
  · refine (I.hok b u e).stay (fun c v hc q => k c v ?_ q) (fun _ q => q) fun _ _ q => q
    rcases hc with z | z
    · rw [z]; exact nit b u e
    · exact nit c _ z
theorem Inv.tok (I : Inv X pins σ H s) (t : Nat) : Inv X pins σ H { s with toks := t } := I.un (h' := s.heap) (t' := t) Un.refl I.hok
/-- all objects kept -/
theorem Inv.kept {t' : Nat} (I : Inv X pins σ H s) (k : ∀ b u, s.heap.get? b = some u → h'.get? b = some u) : Inv X pins σ H { s with heap := h', toks := t' } := I.un (Un.kept k) (I.hok.kept k)
/-- a new object laid and tracked -/
theorem Inv.laid {a : Addr} {o : HO} {t' : Nat} (I : Inv X pins σ H s) (k : ∀ b u, s.heap.get? b = some u → h'.get? b = some u) (hp : s.heap.objs.size ≤ a) (new : ObjOk X.prog X.w (upd H a o) h' a o) :
    Inv X pins σ (upd H a o) { s with heap := h', toks := t' } := I.un (Un.laid k hp (I.hok.fresh hp)) (I.hok.laid k hp new)
/-- an object written -/
theorem Inv.write {x e : Addr} {o : HO} {t' : Nat} (I : Inv X pins σ H s) (mu : Mut (H x)) (he : e = x ∨ H e = some (.own x)) (k : ∀ b u, b ≠ e → s.heap.get? b = some u → h'.get? b = some u) (heo : ∃ u, h'.get? e = some u)
    (new : ObjOk X.prog X.w (upd H x o) h' x o) : Inv X pins σ (upd H x o) { s with heap := h', toks := t' } := I.un (Un.write mu he k heo) (I.hok.write mu he k heo new)
theorem Inv.pins_of {pins' : List (Addr × Obj)} (I : Inv X pins σ H s) (h : ∀ p ∈ pins', s.heap.get? p.1 = some p.2 ∧ H p.1 = none ∧ p.1 ≠ X.env.locals ∧ p.1 ∉ X.fs ∧ ∀ v, p.2.data ≠ .cell v) : Inv X pins' σ H s :=
  ⟨I.ok, I.os, I.bare, I.base, I.loc, I.cell, I.free, I.freeC, fun p hp => (List.mem_append.mp hp).elim (fun z => I.pin p (List.mem_append_left _ z)) (h p), I.hok, I.len⟩

theorem nodup_ix {N : List Str} (hN : N.Nodup) {i j : Nat} {x : Str} (a : N[i]? = some x) (b : N[j]? = some x) : i = j := by
  obtain ⟨h1, e1⟩ := List.getElem?_eq_some_iff.mp a
  obtain ⟨h2, e2⟩ := List.getElem?_eq_some_iff.mp b
  exact (List.getElem_inj hN).mp (e1.trans e2.symm)

/-- a name is stored; what changed -/
theorem store_ok2 {M : Model} {A : Around} {E : Value → Shared → Prop} {i : Nat} {x : Str} {v : V} {u : Value} {Q : Unit → Shared → Prop} (I : Inv X pins σ H s) (hN : X.N.Nodup) (hi : X.N[i]? = some x) (hx : Loc X.env.scope x) (r : RelV v u)
    (h : ∀ s', Inv X pins (σ.set i (some v)) H s' → (∃ a, Heap.SameBut a s.heap s'.heap ∧ (a = X.env.locals ∨ X.env.cells.lookup x = some a)) → Q () s') (hf : X.fn x = true ∨ X.env.scope.names.lookup x = some .local := by first | exact .inl rfl | exact .inr rfl | assumption) : wpAny M A (storeName X.env x u) Q E s := by
  obtain ⟨m, hn, hl⟩ := id I.loc
  have hcls : (X.env.scope.kind == .class || (X.env.scope.kind == .module && X.env.locals != X.env.globals)) = false := by rw [I.ok.kind]; rfl
  have hiσ : i < σ.length := by rw [I.len]; exact (List.getElem?_eq_some_iff.mp hi).1
  have cne := I.cne
  have tracked : ∀ {a : Addr} {h' : Heap}, (∃ o, s.heap.get? a = some o ∧ H a = none) → Heap.SameBut a s.heap h' → HOk X.prog X.w H h' := fun {a h'} ha hs b ob e => by
    obtain ⟨_, _, hfree⟩ := ha
    refine (I.hok b ob e).stay (fun c w' hc q => (hs.2 c ?_).trans q) (fun _ q => q) fun _ _ q => q
    rintro rfl
    rcases hc with rfl | hc
    · rw [hfree] at e; cases e
    · rw [hfree] at hc; cases hc
  rcases hx with hk | hk
  · refine wpAny_storeName_local hk hn (fun h' hn' hs => ?_) hcls
    obtain ⟨oL, _, _, hoL, _⟩ := id hn
    refine h _ ⟨I.ok, I.os, I.bare, ⟨fun b o e n hb hx => ?_, fun b o e n hb hx => ?_, I.base.free, fun b o e hx => ?_, I.base.tups, I.base.frzs, I.base.tbls⟩, ⟨_, hn', fun j y v' e1 e2 e3 => ?_⟩, fun y c e => ?_, I.free, I.freeC, fun p hp => ?_, tracked ⟨oL, hoL, I.free⟩ hs, by simpa using I.len⟩ ⟨_, hs, .inl rfl⟩
    · exact (hs.2 b (Nat.ne_of_lt (Nat.lt_of_lt_of_le (Heap.lt_size e) I.ok.above))).trans (I.base.keep b o e n hb hx)
    · obtain ⟨sl, e1⟩ := I.base.slot b o e n hb hx
      exact ⟨sl, (hs.2 b (Nat.ne_of_lt (Nat.lt_of_lt_of_le (Heap.lt_size e) I.ok.above))).trans e1⟩
    · obtain ⟨o', e1⟩ := I.base.there b o e hx
      exact ⟨o', (hs.2 b (Nat.ne_of_lt (Nat.lt_of_lt_of_le (Heap.lt_size e) I.ok.above))).trans e1⟩
    · by_cases hj : j = i
      · subst hj
        rw [hi] at e1; cases e1
        rw [List.getElem?_set_self hiσ] at e2
        cases e2
        exact ⟨u, r, .inl ⟨hk, by simp⟩⟩
      · rw [List.getElem?_set_ne (Ne.symm hj)] at e2
        obtain ⟨u', r', q⟩ := hl j y v' e1 e2 e3
        refine ⟨u', r', ?_⟩
        rcases q with ⟨k, e⟩ | ⟨k, c, e, z⟩
        · refine .inl ⟨k, ?_⟩
          have : y ≠ x := fun e => hj (nodup_ix hN e1 (e ▸ hi))
          simp [this, e]
        · exact .inr ⟨k, c, e, z.sameBut hs (cne y c e)⟩
    · obtain ⟨w', z⟩ := I.cell y c e
      exact ⟨w', z.sameBut hs (cne y c e)⟩
    · obtain ⟨e, n, ne, nf, d⟩ := I.pin p hp
      exact ⟨(hs.2 p.1 ne).trans e, n, ne, nf, d⟩
  · have hfn : X.fn x = true := by
      rcases hf with z | z
      · exact z
      · rw [z] at hk; cases hk
    obtain ⟨c, hc⟩ := I.ok.has x (.inl hk)
    obtain ⟨w', z⟩ := I.cell x c hc
    refine wpAny_storeName_cell I.ok.kind hk hc z (fun h' hc' hs => ?_)
    obtain ⟨oc, hoc, hocd⟩ := id z
    refine h { s with heap := h' } ⟨I.ok, I.os, I.bare, ⟨fun b o e n hb hx => ?_, fun b o e n hb hx => ?_, I.base.free, fun b o e hx => ?_, I.base.tups, I.base.frzs, I.base.tbls⟩, ⟨m, hn.sameBut hs (Ne.symm (cne x c hc)), fun j y v' e1 e2 e3 => ?_⟩, fun y c' e => ?_, I.free, I.freeC, fun p hp => ?_, tracked ⟨oc, hoc, I.freeC x c hc⟩ hs, by simpa using I.len⟩ ⟨c, hs, .inr hc⟩
    · exact (hs.2 b (Nat.ne_of_lt (Nat.lt_of_lt_of_le (Heap.lt_size e) (I.ok.cab x c hfn hc)))).trans (I.base.keep b o e n hb hx)
    · obtain ⟨sl, e1⟩ := I.base.slot b o e n hb hx
      exact ⟨sl, (hs.2 b (Nat.ne_of_lt (Nat.lt_of_lt_of_le (Heap.lt_size e) (I.ok.cab x c hfn hc)))).trans e1⟩
    · obtain ⟨o', e1⟩ := I.base.there b o e hx
      exact ⟨o', (hs.2 b (Nat.ne_of_lt (Nat.lt_of_lt_of_le (Heap.lt_size e) (I.ok.cab x c hfn hc)))).trans e1⟩
    · by_cases hj : j = i
      · subst hj
        rw [hi] at e1; cases e1
        rw [List.getElem?_set_self hiσ] at e2
        cases e2
        exact ⟨u, r, .inr ⟨.inl hk, c, hc, hc'⟩⟩
      · rw [List.getElem?_set_ne (Ne.symm hj)] at e2
        obtain ⟨u', r', q⟩ := hl j y v' e1 e2 e3
        refine ⟨u', r', ?_⟩
        rcases q with q | ⟨k, c', e, z'⟩
        · exact .inl q
        · refine .inr ⟨k, c', e, z'.sameBut hs ?_⟩
          rintro rfl
          exact hj (nodup_ix hN e1 (I.ok.inj _ _ _ e hc ▸ hi))
    · by_cases hcc : c' = c
      · subst hcc; exact ⟨_, hc'⟩
      · obtain ⟨w2, z2⟩ := I.cell y c' e
        exact ⟨w2, z2.sameBut hs hcc⟩
    · obtain ⟨e, n, ne, nf, d⟩ := I.pin p hp
      refine ⟨(hs.2 p.1 ?_).trans e, n, ne, nf, d⟩
      intro q
      rw [q, hoc] at e
      have q' : oc = p.2 := Option.some.inj e
      exact d w' (by rw [← q']; exact hocd)
theorem store_ok {M : Model} {A : Around} {E : Value → Shared → Prop} {i : Nat} {x : Str} {v : V} {u : Value} {Q : Unit → Shared → Prop} (I : Inv X pins σ H s) (hN : X.N.Nodup) (hi : X.N[i]? = some x) (hx : Loc X.env.scope x) (r : RelV v u)
    (h : ∀ s', Inv X pins (σ.set i (some v)) H s' → Q () s') (hf : X.fn x = true ∨ X.env.scope.names.lookup x = some .local := by first | exact .inl rfl | exact .inr rfl | assumption) : wpAny M A (storeName X.env x u) Q E s :=
  store_ok2 I hN hi hx r (fun s' I' _ => h s' I') hf
end

/-! ### the judgements -/
/-- an exception: its class, its own dict's address (where it has one), the abstract heap behind it -/
abbrev XK := Value → Option Addr → Hp → Prop
abbrev St := List (Option V)
abbrev VK := V → Hp → Prop
/-- an expression's reading; a test's; an argument list's -/
abbrev TE := St → Hp → VK → Prop
abbrev TT := St → Hp → (Bool → Hp → Prop) → Prop
abbrev TA := St → Hp → (List V → Hp → Prop) → Prop
/-- what is wanted behind a statement -/
structure Ends where
  nx : St → Hp → Prop
  rt : VK
  bk : St → Hp → Prop := fun _ _ => False
  ct : St → Hp → Prop := fun _ _ => False
abbrev TS := Ends → St → Hp → Prop

def EP (X : Cx) (pins : List (Addr × Obj)) (σ : St) (Q : VK) (u : Value) (s' : Shared) : Prop := ∃ v H', Inv X pins σ H' s' ∧ RelV v u ∧ Q v H'
def TP (X : Cx) (pins : List (Addr × Obj)) (σ : St) (Q : Bool → Hp → Prop) (b : Bool) (s' : Shared) : Prop := ∃ H', Inv X pins σ H' s' ∧ Q b H'
def AP (X : Cx) (pins : List (Addr × Obj)) (σ : St) (Q : List V → Hp → Prop) (us : List Value) (s' : Shared) : Prop := ∃ vs H', Inv X pins σ H' s' ∧ Vals vs us ∧ Q vs H'
def SP (X : Cx) (pins : List (Addr × Obj)) (D : Ends) (f : Flow) (s' : Shared) : Prop :=
  match f with
  | .next => ∃ σ' H', Inv X pins σ' H' s' ∧ D.nx σ' H'
  | .brk => ∃ σ' H', Inv X pins σ' H' s' ∧ D.bk σ' H'
  | .cont => ∃ σ' H', Inv X pins σ' H' s' ∧ D.ct σ' H'
  | .ret u => ∃ v σ' H', Inv X pins σ' H' s' ∧ RelV v u ∧ D.rt v H'

def PE (X : Cx) (e : Expr) (t : TE) : Prop :=
  ∀ (pins : List (Addr × Obj)) (s : Shared) (σ : St) (H : Hp) (Q : VK), Inv X pins σ H s → t σ H Q → wpAny (model X.prog X.w) X.A (eval e X.env) (EP X pins σ Q) X.xe s
def PT (X : Cx) (e : Expr) (t : TT) : Prop :=
  ∀ (pins : List (Addr × Obj)) (s : Shared) (σ : St) (H : Hp) (Q : Bool → Hp → Prop), Inv X pins σ H s → t σ H Q → wpAny (model X.prog X.w) X.A (isTrue e X.env (eval e X.env)) (TP X pins σ Q) X.xe s
/-- a test whatever its 'whole' is (and, or) -/
def PW (X : Cx) (e : Expr) (t : TT) : Prop :=
  ∀ (whole : Sem Value) (pins : List (Addr × Obj)) (s : Shared) (σ : St) (H : Hp) (Q : Bool → Hp → Prop), Inv X pins σ H s → t σ H Q → wpAny (model X.prog X.w) X.A (isTrue e X.env whole) (TP X pins σ Q) X.xe s
theorem PW.pt {X : Cx} {e : Expr} {t : TT} (h : PW X e t) : PT X e t := h _
/-- an argument list (no star), from the left -/
def PA (X : Cx) (es : List Expr) (t : TA) : Prop :=
  ∀ (pos : Pos) (pins : List (Addr × Obj)) (s : Shared) (σ : St) (H : Hp) (Q : List V → Hp → Prop), Inv X pins σ H s → t σ H Q → wpAny (model X.prog X.w) X.A (spliced (backTo pos (starEach es X.env))) (AP X pins σ Q) X.xe s
def PS (X : Cx) (st : Stmt) (t : TS) : Prop :=
  ∀ (pins : List (Addr × Obj)) (s : Shared) (σ : St) (H : Hp) (D : Ends), Inv X pins σ H s → t D σ H → wpAny (model X.prog X.w) X.A (exec st X.env) (SP X pins D) X.xe s
def PSs (X : Cx) (st : List Stmt) (t : TS) : Prop :=
  ∀ (pins : List (Addr × Obj)) (s : Shared) (σ : St) (H : Hp) (D : Ends), Inv X pins σ H s → t D σ H → wpAny (model X.prog X.w) X.A (execs st X.env) (SP X pins D) X.xe s
/-- weaken the end -/
theorem thn {α : Type} {t : Sem α} {Q Q' : α → Shared → Prop} {M : Model} {A : Around} {E : Value → Shared → Prop} {s : Shared} (h : wpAny M A t Q E s) (hQ : ∀ a s, Q a s → Q' a s) : wpAny M A t Q' E s := wpAny_mono h hQ fun _ _ x => x
end L2

namespace L2
open PySem PySem.Spec PyProof.Rows
section
variable {X : Cx}

/-! ### names and constants -/
def tVar (i : Nat) : TE := fun σ H Q => ∃ v, σ[i]? = some (some v) ∧ Q v H
def tC (v : V) : TE := fun _ H Q => Q v H
theorem pe_var {i : Nat} {x : Str} {pos : Pos} (hN : X.N[i]? = some x) (hv : Vis X.env.scope x) (hd : (x == ("__debug__" : Str)) = false := by decide) (hcd : (x == ("__classdict__" : Str)) = false := by decide) : PE X (.Name x pos) (tVar i) := by
  intro pins s σ H Q I h
  obtain ⟨v, e, h⟩ := h
  obtain ⟨m, hn, hl⟩ := I.loc
  obtain ⟨u, r, l⟩ := hl i x v hN e hv
  have fin : EP X pins σ Q u s := ⟨v, H, I, r, h⟩
  rcases l with ⟨hk, hm⟩ | ⟨hk, c, hc, hcell⟩
  · exact wpAny_Name (wpAny_loadName_local I.ok.kind hk hn hm fin) hd
  · rcases hk with hk | hk
    · exact wpAny_Name (wpAny_loadName_cell I.ok.kind hk hc hcell fin) hd
    · exact wpAny_Name (wpAny_loadName_free I.ok.kind hk hc hcell fin hcd) hd
theorem pe_int {i j pos} : PE X (.Constant (.int i) j pos) (tC (.int i)) := fun _ _ _ H _ I h => wpAny_Constant_int ⟨.int i, H, I.tok _, ⟨_, rfl⟩, h⟩
theorem pe_bl {b j pos} : PE X (.Constant (.bool b) j pos) (tC (.bl b)) := fun _ _ _ H _ I h => Constant_bool ⟨.bl b, H, I, rfl, h⟩
theorem pe_non {j pos} : PE X (.Constant .none j pos) (tC .non) := fun _ _ _ H _ I h => Constant_none ⟨.non, H, I, rfl, h⟩
theorem pe_str {x j pos} : PE X (.Constant (.str x) j pos) (tC (.str x)) := fun _ _ _ H _ I h => Calls.Constant_str ⟨.str x, H, I.tok _, ⟨_, rfl⟩, h⟩

/-- a global name of the def -/
def Gl (X : Cx) (x : Str) : Prop := X.env.kindOf x = some .globalImplicit
theorem ld_glob {E : Value → Shared → Prop} {pins : List (Addr × Obj)} {s : Shared} {σ : St} {H : Hp} {x : Str} {u : Value} {pos : Pos} {Q : Value → Shared → Prop} (I : Inv X pins σ H s) (hg : Gl X x) (hm : X.mg x = some u) (h : Q u s)
    (hd : (x == ("__debug__" : Str)) = false := by decide) : wpAny (model X.prog X.w) X.A (eval (.Name x pos) X.env) Q E s :=
  Calls.Name_function_global I.ok.kind hg (Calls.loadGlobal_global (by rw [I.ok.glob]; exact I.mod.glob.keeps I.bk) hm h) hd
theorem ld_blt {E : Value → Shared → Prop} {pins : List (Addr × Obj)} {s : Shared} {σ : St} {H : Hp} {x : Str} {u : Value} {pos : Pos} {Q : Value → Shared → Prop} (I : Inv X pins σ H s) (hg : Gl X x) (hm : X.mg x = none) (hv : bootBuiltins x = some u) (h : Q u s)
    (hn : x ≠ "__name__" := by decide) (hd : (x == ("__debug__" : Str)) = false := by decide) : wpAny (model X.prog X.w) X.A (eval (.Name x pos) X.env) Q E s := by
  obtain ⟨mb, h1, h2⟩ := I.mod.blt
  exact Calls.Name_function_global I.ok.kind hg (Calls.loadGlobal_builtin (by rw [I.ok.glob]; exact I.mod.glob.keeps I.bk) hm (by rw [I.ok.blt]; exact h1.keeps I.bk) ((h2 x hn).trans hv) h) hd
/-- a module's constant, a class, a function, as a value -/
theorem pe_glob {x : Str} {v : V} {u : Value} {pos : Pos} (hg : Gl X x) (hm : X.mg x = some u) (r : RelV v u) (hd : (x == ("__debug__" : Str)) = false := by decide) : PE X (.Name x pos) (tC v) :=
  fun _ _ _ H _ I h => ld_glob I hg hm ⟨v, H, I, r, h⟩ hd
theorem pe_bltn {x : Str} {v : V} {u : Value} {pos : Pos} (hg : Gl X x) (hm : X.mg x = none) (hv : bootBuiltins x = some u) (r : RelV v u) (hn : x ≠ "__name__" := by decide) (hd : (x == ("__debug__" : Str)) = false := by decide) : PE X (.Name x pos) (tC v) :=
  fun _ _ _ H _ I h => ld_blt I hg hm hv ⟨v, H, I, r, h⟩ hn hd

/-! ### arithmetic -/
/-- two ints -/
def t2I (ta tb : TE) (k : Int → Int → Hp → Prop) : St → Hp → Prop := fun σ H => ta σ H fun x H1 => tb σ H1 fun y H2 => ∃ i j, x = .int i ∧ y = .int j ∧ k i j H2
def tAdd (ta tb : TE) : TE := fun σ H Q => t2I ta tb (fun i j H2 => Q (.int (i + j)) H2) σ H
def tSub (ta tb : TE) : TE := fun σ H Q => t2I ta tb (fun i j H2 => Q (.int (i - j)) H2) σ H
/-- the left factor below 2^64 -/
def tMul (ta tb : TE) : TE := fun σ H Q => t2I ta tb (fun i j H2 => (-(2 ^ 64) < i ∧ i < 2 ^ 64) ∧ Q (.int (i * j)) H2) σ H
variable {a b : Expr} {ta tb : TE} {pos : Pos}
/-! ### comparisons -/
def PC (X : Cx) (op : CmpOp) (a b : Expr) (t : TE) : Prop :=
  ∀ (pins : List (Addr × Obj)) (s : Shared) (σ : St) (H : Hp) (Q : VK), Inv X pins σ H s → t σ H Q →
    wpAny (model X.prog X.w) X.A (eval a X.env) (fun v s₁ => wpAny (model X.prog X.w) X.A (eval b X.env) (fun u s₂ => wpAny (model X.prog X.w) X.A (compareOp op v u) (EP X pins σ Q) X.xe s₂) X.xe s₁) X.xe s
def tCmp (p : Int → Int → Bool) (ta tb : TE) : TE := fun σ H Q => t2I ta tb (fun i j H2 => Q (.bl (p i j)) H2) σ H
abbrev tLt : TE → TE → TE := tCmp fun i j => decide (i < j)
abbrev tLe : TE → TE → TE := tCmp fun i j => decide (i ≤ j)
abbrev tGt : TE → TE → TE := tCmp fun i j => decide (j < i)
abbrev tGe : TE → TE → TE := tCmp fun i j => decide (j ≤ i)
abbrev tEqI : TE → TE → TE := tCmp fun i j => decide (i = j)
abbrev tNeI : TE → TE → TE := tCmp fun i j => !decide (i = j)
/-- is None -/
def tIsN (ta : TE) : TE := fun σ H Q => ta σ H fun x H1 => Q (.bl (decide (x = .non))) H1
def tNotN (ta : TE) : TE := fun σ H Q => ta σ H fun x H1 => Q (.bl (!decide (x = .non))) H1
/-- a comparison as a value, as a test -/
def tB (t : TE) : TT := fun σ H Q => t σ H fun x H1 => ∃ c, x = .bl c ∧ Q c H1
/-- an expression whose value is a bool, as a test -/
theorem pt_val {e : Expr} {t : TE} (h : PE X e t) (he : ∀ whole, isTrue e X.env whole = (do let v ← whole; standAt e.pos; holding [v] (truthy v)) := by intro _; rfl) : PT X e (tB t) := by
  intro pins s σ H Q I hw
  refine isTrue_plain (thn (h pins s σ H _ I hw) fun v s1 ⟨x, H1, I1, r1, q1⟩ => ?_) (he _)
  obtain ⟨d, rfl, q⟩ := q1
  cases r1
  exact wpAny_truthy_bool ⟨H1, I1, q⟩

/-! ### and, or, not -/
variable {tA tB' : TT} {rest : List Expr}
def tAnd (t u : TT) : TT := fun σ H Q => t σ H fun c H1 => if c = true then u σ H1 Q else Q false H1
def tOr (t u : TT) : TT := fun σ H Q => t σ H fun c H1 => if c = true then Q true H1 else u σ H1 Q
def tNot (t : TT) : TT := fun σ H Q => t σ H fun c H1 => Q (!c) H1
theorem pw_and1 (ha : PT X a tA) : PW X (.BoolOp .And [a] pos) tA := by
  intro wh pins s σ H Q I h
  refine isTrue_and (thn (ha pins s σ H Q I h) fun c s1 e => ?_)
  cases c with
  | true => exact isTrue_and_nil e
  | false => exact e
theorem pw_or1 (ha : PT X a tA) : PW X (.BoolOp .Or [a] pos) tA := by
  intro wh pins s σ H Q I h
  refine isTrue_or (thn (ha pins s σ H Q I h) fun c s1 e => ?_)
  cases c with
  | false => exact isTrue_or_nil e
  | true => exact e
theorem pw_and (ha : PT X a tA) (hb : PW X (.BoolOp .And (b :: rest) pos) tB') : PW X (.BoolOp .And (a :: b :: rest) pos) (tAnd tA tB') := by
  intro wh pins s σ H Q I h
  refine isTrue_and (thn (ha pins s σ H _ I h) fun c s1 ⟨H1, I1, q1⟩ => ?_)
  cases c with
  | true => exact hb wh pins s1 σ H1 Q I1 q1
  | false => exact ⟨H1, I1, q1⟩
theorem pw_or (ha : PT X a tA) (hb : PW X (.BoolOp .Or (b :: rest) pos) tB') : PW X (.BoolOp .Or (a :: b :: rest) pos) (tOr tA tB') := by
  intro wh pins s σ H Q I h
  refine isTrue_or (thn (ha pins s σ H _ I h) fun c s1 ⟨H1, I1, q1⟩ => ?_)
  cases c with
  | true => exact ⟨H1, I1, q1⟩
  | false => exact hb wh pins s1 σ H1 Q I1 q1
theorem pt_not (ha : PT X a tA) : PT X (.UnaryOp .Not a pos) (tNot tA) := by
  intro pins s σ H Q I h
  exact isTrue_not (ha pins s σ H (fun c H1 => Q (!c) H1) I h)
/-- .. as values (bools) -/
def tAndV (ta tb : TE) : TE := fun σ H Q => ta σ H fun x H1 => ∃ c, x = .bl c ∧ if c = true then tb σ H1 Q else Q (.bl false) H1
def tOrV (ta tb : TE) : TE := fun σ H Q => ta σ H fun x H1 => ∃ c, x = .bl c ∧ if c = true then Q (.bl true) H1 else tb σ H1 Q
def tNotV (ta : TE) : TE := fun σ H Q => ta σ H fun x H1 => ∃ c, x = .bl c ∧ Q (.bl (!c)) H1
theorem pe_one {op} {t : TE} (h : PE X a t) : PE X (.BoolOp op [a] pos) t := fun pins s σ H Q I hw => BoolOp_one (h pins s σ H Q I hw)
theorem pe_and (ha : PE X a ta) (hb : PE X (.BoolOp .And (b :: rest) pos) tb) : PE X (.BoolOp .And (a :: b :: rest) pos) (tAndV ta tb) := by
  intro pins s σ H Q I h
  refine BoolOp_and (thn (ha pins s σ H _ I h) fun v s1 ⟨x, H1, I1, r1, q1⟩ => ?_)
  obtain ⟨c, rfl, q1⟩ := q1
  cases r1
  refine wpAny_truthy_bool ?_
  cases c with
  | true => exact hb pins s1 σ H1 Q I1 q1
  | false => exact ⟨.bl false, H1, I1, rfl, q1⟩
theorem pe_not (ha : PE X a ta) : PE X (.UnaryOp .Not a pos) (tNotV ta) := by
  intro pins s σ H Q I h
  refine UnaryOp_ (thn (ha pins s σ H _ I h) fun v s1 ⟨x, H1, I1, r1, q1⟩ => ?_)
  obtain ⟨c, rfl, q1⟩ := q1
  cases r1
  exact not_of (wpAny_truthy_bool ⟨.bl (!c), H1, I1, rfl, q1⟩)
/-- a if t else b -/
def tIf (t : TT) (ta tb : TE) : TE := fun σ H Q => t σ H fun c H1 => if c = true then ta σ H1 Q else tb σ H1 Q
theorem pe_ifExp {c : Expr} (hc : PT X c tA) (ha : PE X a ta) (hb : PE X b tb) : PE X (.IfExp c a b pos) (tIf tA ta tb) := by
  intro pins s σ H Q I h
  refine wpAny_IfExp (thn (hc pins s σ H _ I h) fun d s1 ⟨H1, I1, q1⟩ => ?_)
  cases d with
  | true => exact ha pins s1 σ H1 Q I1 q1
  | false => exact hb pins s1 σ H1 Q I1 q1
end
end L2

namespace L2
open PySem PySem.Spec PyProof.Rows

/-! ### a list, a tuple that is read: tracked, frozen, or an object of the module -/
def SqL (K : PySem.W.Frag) (H : Hp) (a : Addr) (xs : List V) : Prop :=
  Rd H a (.lst xs) ∨
    ∃ (o : Obj) (its : Array Value) (n : Nat), K.lookup a = some o ∧ o.cls = .type "list" ∧ o.dict = none ∧ o.data = .seq its n ∧ its.size ≤ sizeLine ∧ Vals xs its.toList
def SqT (K : PySem.W.Frag) (H : Hp) (a : Addr) (xs : List V) : Prop :=
  Rd H a (.tup xs) ∨
    ∃ (o : Obj) (its : Array Value) (n : Nat), K.lookup a = some o ∧ o.cls = .type "tuple" ∧ o.data = .seq its n ∧ its.size ≤ sizeLine ∧ Vals xs its.toList
def absV : Value → Option V
  | .none => some .non
  | .bool b => some (.bl b)
  | .int i _ => some (.int i)
  | .str x _ => some (.str x)
  | .bytes b _ => some (.byt b)
  | .float b _ => some (.flt b)
  | .ref a => some (.ref a)
  | .type n => some (.ty n)
  | _ => none
theorem RelV.abs {x : V} {u : Value} (r : RelV x u) : absV u = some x := by
  cases x with
  | non => cases r; rfl
  | bl _ => cases r; rfl
  | int _ => obtain ⟨t, rfl⟩ := r; rfl
  | str _ => obtain ⟨t, rfl⟩ := r; rfl
  | byt _ => obtain ⟨t, rfl⟩ := r; rfl
  | flt _ => obtain ⟨t, rfl⟩ := r; rfl
  | ref _ => cases r; rfl
  | ty _ => cases r; rfl
theorem RelV.inj {x y : V} {u : Value} (r : RelV x u) (q : RelV y u) : x = y := Option.some.inj (r.abs.symm.trans q.abs)
theorem Vals.inj : ∀ {xs ys : List V} {us : List Value}, Vals xs us → Vals ys us → xs = ys
  | _, _, _, .nil, .nil => rfl
  | _, _, _, .cons r t, .cons r' t' => by rw [r.inj r', Vals.inj t t']
section
variable {X : Cx} {pins : List (Addr × Obj)} {σ : St} {H : Hp} {s : Shared} {a : Addr} {xs ys : List V}
theorem SqL.of {K : PySem.W.Frag} (h : H a = some (.lst xs)) : SqL K H a xs := .inl (.inl h)
theorem SqT.of {K : PySem.W.Frag} (h : H a = some (.tup xs)) : SqT K H a xs := .inl (.inl h)
theorem Inv.list (I : Inv X pins σ H s) (h : SqL X.K H a xs) : ∃ its : List Value, Vals xs its ∧ PlainL s.heap a its.toArray ∧ xs.length ≤ sizeLine := by
  rcases h with h | ⟨o, its, n, hk, hc, hd, hs, hz, r⟩
  · obtain ⟨z, its, n, r, e⟩ := h.ok I.hok
    exact ⟨its, r, ⟨_, n, e, rfl, rfl, rfl⟩, z⟩
  · refine ⟨its.toList, r, ⟨o, n, I.kIn a o hk, hc, hd, by simpa using hs⟩, ?_⟩
    have e := r.length
    simp only [Array.length_toList] at e
    omega
theorem Inv.tuple (I : Inv X pins σ H s) (h : SqT X.K H a xs) : ∃ its : List Value, Vals xs its ∧ IsTup s.heap a its.toArray ∧ xs.length ≤ sizeLine := by
  rcases h with h | ⟨o, its, n, hk, hc, hs, hz, r⟩
  · obtain ⟨z, its, r, p⟩ := h.ok I.hok
    exact ⟨its, r, p, z⟩
  · refine ⟨its.toList, r, ⟨o, I.kIn a o hk, hc, n, by simpa using hs⟩, ?_⟩
    have e := r.length
    simp only [Array.length_toList] at e
    omega
theorem Inv.list_inj (I : Inv X pins σ H s) (h : SqL X.K H a xs) (h' : SqL X.K H a ys) : xs = ys := by
  obtain ⟨its, r, ⟨o, n, e, _, _, d⟩, _⟩ := I.list h
  obtain ⟨its', r', ⟨o', n', e', _, _, d'⟩, _⟩ := I.list h'
  rw [e] at e'; cases e'
  rw [d] at d'
  injection d' with d1 _
  have : its = its' := by simpa using congrArg Array.toList d1
  subst this
  exact r.inj r'
end

/-! ### another wish about exceptions -/
abbrev Cx.wish (X : Cx) (E : Value → Shared → Prop) : Cx := { X with xe := E }
/-- no exception leaves -/
abbrev Cx.nox (X : Cx) : Cx := X.wish fun _ _ => False
theorem Cx.Ok.wish {X : Cx} (ok : X.Ok) (E : Value → Shared → Prop) : (X.wish E).Ok :=
  ⟨ok.mod, ok.kind, ok.glob, ok.blt, ok.above, ok.inj, ok.has, ok.cab, ok.hd, ok.frames, ok.stk, ok.exf, ok.bs, ok.bsz, ok.noex, ok.exfs, ok.funs, ok.frf⟩
theorem Cx.Ok.unwish {X : Cx} {E : Value → Shared → Prop} (ok : (X.wish E).Ok) : X.Ok :=
  ⟨ok.mod, ok.kind, ok.glob, ok.blt, ok.above, ok.inj, ok.has, ok.cab, ok.hd, ok.frames, ok.stk, ok.exf, ok.bs, ok.bsz, ok.noex, ok.exfs, ok.funs, ok.frf⟩
section
variable {X : Cx} {pins : List (Addr × Obj)} {σ : St} {H : Hp} {s : Shared} {E : Value → Shared → Prop}
theorem Inv.wish (I : Inv X pins σ H s) (E : Value → Shared → Prop) : Inv (X.wish E) pins σ H s := ⟨I.ok.wish E, I.os, I.bare, I.base, I.loc, I.cell, I.free, I.freeC, I.pin, I.hok, I.len⟩
theorem Inv.unwish (I : Inv (X.wish E) pins σ H s) : Inv X pins σ H s := ⟨I.ok.unwish, I.os, I.bare, I.base, I.loc, I.cell, I.free, I.freeC, I.pin, I.hok, I.len⟩
theorem SP.unwish {D : Ends} {f : Flow} {s' : Shared} (h : SP (X.wish E) pins D f s') : SP X pins D f s' := by
  cases f with
  | next => obtain ⟨σ', H', I, q⟩ := h; exact ⟨σ', H', I.unwish, q⟩
  | brk => obtain ⟨σ', H', I, q⟩ := h; exact ⟨σ', H', I.unwish, q⟩
  | cont => obtain ⟨σ', H', I, q⟩ := h; exact ⟨σ', H', I.unwish, q⟩
  | ret u => obtain ⟨v, σ', H', I, r, q⟩ := h; exact ⟨v, σ', H', I.unwish, r, q⟩
theorem PE.nox {e : Expr} {t : TE} (h : PE X.nox e t) : PE X e t := fun pins s σ H Q I hw =>
  wpAny_mono (h pins s σ H Q (I.wish _) hw) (fun _ _ ⟨v, H', I', r, q⟩ => ⟨v, H', I'.unwish, r, q⟩) fun _ _ z => False.elim z
theorem PT.nox {e : Expr} {t : TT} (h : PT X.nox e t) : PT X e t := fun pins s σ H Q I hw =>
  wpAny_mono (h pins s σ H Q (I.wish _) hw) (fun _ _ ⟨H', I', q⟩ => ⟨H', I'.unwish, q⟩) fun _ _ z => False.elim z
theorem PSs.nox {st : List Stmt} {t : TS} (h : PSs X.nox st t) : PSs X st t := fun pins s σ H D I hw =>
  wpAny_mono (h pins s σ H D (I.wish _) hw) (fun _ _ q => q.unwish) fun _ _ z => False.elim z
end

/-! ### blocks and small statements -/
section
variable {X : Cx} {st : Stmt} {rest : List Stmt} {t u : TS} {e : Expr} {te : TE} {pos : Pos}
def tNext : TS := fun D σ H => D.nx σ H
def tSeq (t u : TS) : TS := fun D σ H => t { D with nx := u D } σ H
theorem pss_nil : PSs X [] tNext := fun _ _ σ H _ I h => wpAny_execs_nil ⟨σ, H, I, h⟩
theorem pss_cons (h1 : PS X st t) (h2 : PSs X rest u) : PSs X (st :: rest) (tSeq t u) := by
  intro pins s σ H D I h
  refine wpAny_execs_cons (thn (h1 pins s σ H { D with nx := u D } I h) fun f s1 q => ?_)
  cases f with
  | next =>
    obtain ⟨σ', H', I', q⟩ := q
    exact h2 pins s1 σ' H' D I' q
  | ret v => exact q
  | brk => exact q
  | cont => exact q
theorem pss_one (h1 : PS X st t) : PSs X [st] t := by
  intro pins s σ H D I h
  refine wpAny_execs_cons (thn (h1 pins s σ H D I h) fun f s1 q => ?_)
  cases f with
  | next => exact wpAny_execs_nil q
  | ret v => exact q
  | brk => exact q
  | cont => exact q
def tBreak : TS := fun D σ H => D.bk σ H
def tCont : TS := fun D σ H => D.ct σ H
/-- in a def's body nothing is shown -/
theorem Inv.quiet {pins : List (Addr × Obj)} {σ : St} {H : Hp} {s : Shared} (I : Inv X pins σ H s) : interactive X.env = false := by simp [interactive, I.ok.kind]
/-- an expression whose value is dropped -/
def tDrop (te : TE) : TS := fun D σ H => te σ H fun _ H1 => D.nx σ H1
theorem ps_expr (he : PE X e te) (hs : swapsWith e none pos.line X.env = pure false := by rfl) : PS X (.Expr e pos) (tDrop te) := by
  intro pins s σ H D I h
  exact wpAny_Expr_any (thn (he pins s σ H _ I h) fun v s1 ⟨x, H1, I1, r1, q1⟩ => ⟨σ, H1, I1, q1⟩) I.quiet hs
def tRet (te : TE) : TS := fun D σ H => te σ H D.rt
theorem ps_ret (he : PE X e te) : PS X (.Return (some e) pos) (tRet te) := by
  intro pins s σ H D I h
  exact wpAny_Return_some (thn (he pins s σ H _ I h) fun v s1 ⟨x, H1, I1, r1, q1⟩ => ⟨x, σ, H1, I1, r1, q1⟩)
def tRetN : TS := fun D _ H => D.rt .non H
def tIfS (c : TT) (t u : TS) : TS := fun D σ H => c σ H fun b H1 => if b = true then t D σ H1 else u D σ H1
theorem ps_if {c : Expr} {a b : List Stmt} {tc : TT} (hc : PT X c tc) (ha : PSs X a t) (hb : PSs X b u) : PS X (.If c a b pos) (tIfS tc t u) := by
  intro pins s σ H D I h
  refine wpAny_If (thn (hc pins s σ H _ I h) fun d s1 ⟨H1, I1, q1⟩ => ?_)
  cases d with
  | true => exact ha pins s1 σ H1 D I1 q1
  | false => exact hb pins s1 σ H1 D I1 q1
/-- code that the proof never comes to -/
def tNever : TS := fun _ _ _ => False
theorem ps_never : PS X st tNever := fun _ _ _ _ _ _ h => h.elim
end

/-! ### targets -/
abbrev TG := V → St → Hp → (St → Hp → Prop) → Prop
abbrev TGs := List V → St → Hp → (St → Hp → Prop) → Prop
def PG (X : Cx) (target : Expr) (t : TG) : Prop :=
  ∀ (pins : List (Addr × Obj)) (s : Shared) (σ : St) (H : Hp) (v : V) (u : Value) (Q : St → Hp → Prop), Inv X pins σ H s → RelV v u → t v σ H Q →
    wpAny (model X.prog X.w) X.A (assign target X.env u) (fun _ s' => ∃ σ' H', Inv X pins σ' H' s' ∧ Q σ' H') X.xe s
/-- several targets, one after another -/
def PGs (X : Cx) (ts : List Expr) (t : TGs) : Prop :=
  ∀ (pins : List (Addr × Obj)) (s : Shared) (σ : St) (H : Hp) (vs : List V) (us : List Value) (Q : St → Hp → Prop), Inv X pins σ H s → Vals vs us → t vs σ H Q →
    wpAny (model X.prog X.w) X.A (assignInOrder ((assignEach ts X.env).map (·.2)) us) (fun _ s' => ∃ σ' H', Inv X pins σ' H' s' ∧ Q σ' H') X.xe s
/-- o[i] = v, by values -/
abbrev TSet := V → V → V → Hp → (Hp → Prop) → Prop
def PSet (X : Cx) (t : TSet) : Prop :=
  ∀ (pins : List (Addr × Obj)) (s : Shared) (σ : St) (H : Hp) (o i v : V) (ov iv u : Value) (Q : Hp → Prop), Inv X pins σ H s → RelV o ov → RelV i iv → RelV v u → t o i v H Q →
    wpAny (model X.prog X.w) X.A (setItem ov iv u) (fun _ s' => ∃ H', Inv X pins σ H' s' ∧ Q H') X.xe s
/-- a op= b, by values -/
abbrev TIp := V → V → Hp → VK → Prop
def PIp (X : Cx) (op : Operator) (t : TIp) : Prop :=
  ∀ (pins : List (Addr × Obj)) (s : Shared) (σ : St) (H : Hp) (x y : V) (v u : Value) (Q : VK), Inv X pins σ H s → RelV x v → RelV y u → t x y H Q →
    wpAny (model X.prog X.w) X.A (inplaceOp op v u) (EP X pins σ Q) X.xe s
section
variable {X : Cx} {pos : Pos}
def gName (i : Nat) : TG := fun v σ H Q => Q (σ.set i (some v)) H
theorem pg_name {i : Nat} {x : Str} (hN : X.N.Nodup) (hi : X.N[i]? = some x) (hx : Loc X.env.scope x) (hf : X.fn x = true ∨ X.env.scope.names.lookup x = some .local := by first | exact .inl rfl | exact .inr rfl | assumption) : PG X (.Name x pos) (gName i) := by
  intro pins s σ H v u Q I r h
  exact wpAny_assign_Name (store_ok I hN hi hx r (fun s' I' => ⟨_, H, I', h⟩) hf)
def gNil : TGs := fun vs σ H Q => vs = [] ∧ Q σ H
def gCons (t : TG) (u : TGs) : TGs := fun vs σ H Q => ∃ v r, vs = v :: r ∧ t v σ H fun σ' H' => u r σ' H' Q
theorem pgs_nil : PGs X [] gNil := by
  intro pins s σ H vs us Q I r h
  obtain ⟨e, h⟩ := h
  subst e
  cases r
  exact assignInOrder_nil ⟨σ, H, I, h⟩
theorem pgs_cons {e : Expr} {es : List Expr} {t : TG} {u : TGs} (h1 : PG X e t) (h2 : PGs X es u)
    (hs : (assignEach (e :: es) X.env).map (·.2) = assign e X.env :: (assignEach es X.env).map (·.2) := by rfl) : PGs X (e :: es) (gCons t u) := by
  intro pins s σ H vs us Q I r h
  obtain ⟨v, vr, e1, h⟩ := h
  subst e1
  cases r with
  | cons r rr =>
    rw [hs]
    refine assignInOrder_cons (thn (h1 pins s σ H _ _ _ I r h) fun _ s1 ⟨σ1, H1, I1, q1⟩ => ?_)
    exact h2 pins s1 σ1 H1 _ _ Q I1 rr q1
/-- (a, b, ..) = a tuple of that length -/
def gTup (K : PySem.W.Frag) (n : Nat) (t : TGs) : TG := fun v σ H Q => ∃ a xs, v = .ref a ∧ SqT K H a xs ∧ xs.length = n ∧ t xs σ H Q
theorem pg_tup {es : List Expr} {k : Nat} {t : TGs} {n : Nat} (hc : X.calm = true) (h : PGs X es t)
    (hn : (assignEach es X.env).length = n := by rfl) (hst : (assignEach es X.env).findIdx? (·.1) = none := by rfl) : PG X (.Tuple es k pos) (gTup X.K n t) := by
  intro pins s σ H v u Q I r hw
  obtain ⟨a, xs, e1, hq, hl, hw⟩ := hw
  subst e1
  cases r
  obtain ⟨its, rv, ht, hz⟩ := I.tuple hq
  refine assign_Tuple_tuple (I.ok.hd hc) ht (by simp [hn, ← hl, rv.length]) hst fun h' hx => ?_
  have I1 : Inv X pins σ H { s with heap := h' } := I.kept (t' := s.toks) fun b o e => hx b o (Nat.ne_of_lt (Heap.lt_size e)) e
  exact h pins _ σ H xs _ Q I1 (by simpa using rv) hw
/-- o[i] = .. -/
def gSub (to ti : TE) (t : TSet) : TG := fun v σ H Q => to σ H fun o H1 => ti σ H1 fun i H2 => t o i v H2 fun H3 => Q σ H3
/-- target = value -/
def tAsg (te : TE) (g : TG) : TS := fun D σ H => te σ H fun x H1 => g x σ H1 D.nx
/-- name = value -/
theorem ps_set {i : Nat} {x : Str} {e : Expr} {te : TE} {pos' : Pos} (hN : X.N.Nodup) (hi : X.N[i]? = some x) (hx : Loc X.env.scope x) (he : PE X e te) (hs : swapsWith e (some (.Name x pos')) pos.line X.env = pure false := by rfl) (hf : X.fn x = true ∨ X.env.scope.names.lookup x = some .local := by first | exact .inl rfl | exact .inr rfl | assumption) :
    PS X (.Assign [.Name x pos'] e pos) (tAsg te (gName i)) := by
  intro pins s σ H D I h
  refine wpAny_Assign_Name (thn (he pins s σ H _ I h) fun v s1 ⟨y, H1, I1, r1, q1⟩ => ?_) hs
  exact store_ok I1 hN hi hx r1 (fun s2 I2 => ⟨_, H1, I2, q1⟩) hf
/-- a, b = x, y with plain local names: stored from the right; the pair itself is not tracked (the opening rows as in PyProof/Rows/TupAssign.lean:23) -/
def tPar (i j : Nat) (ta : TA) : TS := fun D σ H => ta σ H fun vs H1 => ∃ v w, vs = [v, w] ∧ D.nx ((σ.set i (some v)).set j (some w)) H1
theorem ps_par {i j : Nat} {x y : Str} {a b : Expr} {ta : TA} {px py pt : Pos} {kt k2 pt2} (hc : X.calm = true) (hN : X.N.Nodup) (hi : X.N[i]? = some x) (hj : X.N[j]? = some y) (hij : i ≠ j)
    (hx : X.env.scope.names.lookup x = some .local) (hy : X.env.scope.names.lookup y = some .local) (ha : PA X [a, b] ta)
    (hw : swappedStores [.Tuple [.Name x px, .Name y py] kt pt] (.Tuple [a, b] k2 pt2) X.env = pure (some [x, y]))
    (hs : swapsWithSole [.Tuple [.Name x px, .Name y py] kt pt] (.Tuple [a, b] k2 pt2) pos.line X.env = pure false := by rfl) :
    PS X (.Assign [.Tuple [.Name x px, .Name y py] kt pt] (.Tuple [a, b] k2 pt2) pos) (tPar i j ta) := by
  intro pins s σ H D I h
  rw [exec_Assign_arm]
  refine wpAny_bind (wpAny_standAt ?_)
  rw [hs]
  refine wpAny_bind (wpAny_pure ?_)
  rw [if_neg (by decide)]
  refine wpAny_bind (Tuple_ (thn (ha _ pins s σ H _ I h) fun us s1 ⟨vs, H1, I1, r1, q1⟩ => ?_))
  obtain ⟨v, w, e1, q1⟩ := q1
  subst e1
  obtain ⟨u1, u2, rfl, rv, rw'⟩ : ∃ u1 u2, us = [u1, u2] ∧ RelV v u1 ∧ RelV w u2 := by
    cases r1 with
    | cons p q =>
      cases q with
      | cons p' q' =>
        cases q'
        exact ⟨_, _, rfl, p, p'⟩
  refine wpAny_newObj_type ?_ (by show 2 ≤ sizeLine; decide)
  have I2 : Inv X pins σ H1 { s1 with heap := s1.heap.push { cls := .type "tuple", data := .seq [u1, u2].toArray } } := I1.kept (t' := s1.toks) fun b o e => Heap.get?_push_of_some _ e
  rw [hw]
  refine wpAny_bind (wpAny_pure ?_)
  show wpAny (model X.prog X.w) X.A (do rule "assign.swapped-stores"; let items ← unpackItems (.ref s1.heap.objs.size) 2 none; assignInOrder [fun v => bindName X.env y v, fun v => bindName X.env x v] items.reverse; pure Flow.next) _ _ _
  refine wpAny_bind (wpAny_rule (wpAny_bind (unpackItems_tuple (items := #[u1, u2]) (I.ok.hd hc) (IsTup.new s1.heap _) fun h' hx' => ?_)))
  have I3 := I2.kept (h' := h') (t' := s1.toks) fun b o e => hx' b o (Nat.ne_of_lt (Heap.lt_size e)) e
  show wpAny _ _ (assignInOrder [fun v => bindName X.env y v, fun v => bindName X.env x v] [u2, u1] >>= fun _ => pure Flow.next) _ _ _
  refine wpAny_bind (assignInOrder_cons (wpAny_bindName (store_ok I3 hN hj (.inl hy) rw' (fun s2 I4 => ?_) (.inr hy))))
  refine assignInOrder_cons (wpAny_bindName (store_ok I4 hN hi (.inl hx) rv (fun s3 I5 => assignInOrder_nil (wpAny_pure ?_)) (.inr hx)))
  rw [List.set_comm _ _ (Ne.symm hij)] at I5
  exact ⟨_, H1, I5, q1⟩
/-- name op= e -/
def tAug (i : Nat) (te : TE) (ti : TIp) : TS := fun D σ H => ∃ x, σ[i]? = some (some x) ∧ te σ H fun y H1 => ti x y H1 fun z H2 => D.nx (σ.set i (some z)) H2
/-- o[i] op= e -/
def tAugS (to ti te : TE) (tget : V → V → Hp → VK → Prop) (tip : TIp) (tset : TSet) : TS := fun D σ H => to σ H fun o H1 => ti σ H1 fun i H2 => tget o i H2 fun x H3 => te σ H3 fun y H4 => tip x y H4 fun z H5 => tset o i z H5 fun H6 => D.nx σ H6
/-- o[i], by values -/
def PGet (X : Cx) (t : V → V → Hp → VK → Prop) : Prop :=
  ∀ (pins : List (Addr × Obj)) (s : Shared) (σ : St) (H : Hp) (o i : V) (ov iv : Value) (Q : VK), Inv X pins σ H s → RelV o ov → RelV i iv → t o i H Q →
    wpAny (model X.prog X.w) X.A (getItem ov iv) (EP X pins σ Q) X.xe s
/-- ints -/
def ipI (f : Int → Int → Int) : TIp := fun x y H Q => ∃ i j, x = .int i ∧ y = .int j ∧ Q (.int (f i j)) H
end

/-! ### while -/
section
variable {X : Cx} {pos : Pos}
/-- the invariant W with its measure -/
def tWhile (c : TT) (tb : TS) : TS := fun D σ H => ∃ W : Nat → St → Hp → Prop, (∃ m, W m σ H) ∧ ∀ m σ H, W m σ H →
  c σ H fun b H1 => if b = true then ∃ N : St → Hp → Prop, (∀ σ' H', N σ' H' → ∃ m', m' < m ∧ W m' σ' H') ∧ tb { D with nx := N, ct := N, bk := D.nx } σ H1 else D.nx σ H1
theorem ps_while {c : Expr} {body : List Stmt} {tc : TT} {tb : TS} (hp : PassesOwn (model X.prog X.w) X.A X.env X.xe) (hc : PT X c tc) (hb : PSs X body tb) : PS X (.While c body [] pos) (tWhile tc tb) := by
  intro pins s σ H D I h
  obtain ⟨W, ⟨m0, w0⟩, turn⟩ := h
  refine wpAny_While (codeAny_whileLoop (fun n s' => ∃ σ' H', Inv X pins σ' H' s' ∧ W n σ' H') ?_ m0 ⟨σ, H, I, w0⟩)
  rintro n s1 ⟨σ1, H1, I1, w1⟩
  refine wpAny_passesOwn hp (thn (hc pins s1 σ1 H1 _ I1 (turn n σ1 H1 w1)) fun b s2 ⟨H2, I2, q2⟩ => ?_)
  cases b with
  | true =>
    obtain ⟨N, hN, q2⟩ := q2
    rw [if_pos rfl]
    refine wpAny_passesOwn hp (thn (hb pins s2 σ1 H2 _ I2 q2) fun f s3 q3 => ?_)
    cases f with
    | next =>
      obtain ⟨σ3, H3, I3, n3⟩ := q3
      obtain ⟨m', hm, w3⟩ := hN σ3 H3 n3
      exact ⟨m', hm, σ3, H3, I3, w3⟩
    | cont =>
      obtain ⟨σ3, H3, I3, n3⟩ := q3
      obtain ⟨m', hm, w3⟩ := hN σ3 H3 n3
      exact ⟨m', hm, σ3, H3, I3, w3⟩
    | brk => exact q3
    | ret v => exact q3
  | false =>
    rw [if_neg Bool.false_ne_true]
    exact wpAny_execs_nil ⟨σ1, H2, I2, q2⟩
end

/-! ### what a loop or a comprehension walks -/
/-- at turn i: it yields x (the heap may grow), or it stops -/
structure It where
  go : Nat → Hp → Prop
  yld : Nat → Hp → V → Hp → Prop
  stop : Nat → Hp → Prop
/-- the iterator's own objects may turn: they are not the frame's, not pinned, younger than the entry (or a comprehension's own) -/
def FpOk (X : Cx) (pins : List (Addr × Obj)) (H : Hp) (b : Addr) : Prop :=
  H b = none ∧ b ≠ X.env.locals ∧ b ∉ X.fs ∧ (b ∈ X.ex ∨ X.s₀.heap.objs.size ≤ b) ∧ (∀ x c, X.env.cells.lookup x = some c → c ≠ b) ∧ ∀ p ∈ X.pn ++ pins, p.1 ≠ b
theorem Inv.fpOk {X : Cx} {pins : List (Addr × Obj)} {σ : St} {H H' : Hp} {s : Shared} {b : Addr} (I : Inv X pins σ H s) (hb : s.heap.objs.size ≤ b) (hn : H' b = none) : FpOk X pins H' b := by
  refine ⟨hn, Nat.ne_of_gt (Nat.lt_of_lt_of_le I.lt hb), I.nofs hb, .inr (Nat.le_trans I.sz hb), fun x c e z => ?_, fun p hp z => ?_⟩
  · obtain ⟨v, q⟩ := I.cell x c e
    exact absurd (Nat.lt_of_lt_of_le q.lt (by rw [z]; exact hb)) (Nat.lt_irrefl _)
  · exact absurd (Nat.lt_of_lt_of_le (Heap.lt_size (I.pin p hp).1) (by rw [z]; exact hb)) (Nat.lt_irrefl _)
structure Turn (P : Program) (w : World) (K : PySem.W.Frag) (tg : Expr) (J : It) (fp : List Addr) (it : Addr) (tn : Nat → Heap → Prop) : Prop where
  mem : it ∈ fp
  obj : ∀ i h, tn i h → ∀ b ∈ fp, ∃ o, h.get? b = some o ∧ ∀ v, o.data ≠ .cell v
  keep : ∀ i h h', tn i h → (∀ b ∈ fp, ∀ o, h.get? b = some o → h'.get? b = some o) → tn i h'
  item : ∀ (X : Cx), X.prog = P → X.w = w → X.K = K → X.calm = true → ∀ (i : Nat) (pins : List (Addr × Obj)) (s : Shared) (σ : St) (H : Hp) (E : Value → Shared → Prop), Inv X pins σ H s → (∀ b ∈ fp, FpOk X pins H b) → tn i s.heap → J.go i H →
    wpAny (model P w) X.A (pyNext (.ref it)) (fun r s1 => ∃ u, r = some u ∧
      wpAny (model P w) X.A (letOwnedTupleGo tg (.ref it) u) (fun _ s2 => ∃ x H', Inv X pins σ H' s2 ∧ RelV x u ∧ J.yld i H x H' ∧ tn (i + 1) s2.heap ∧ ∀ b ∈ fp, H' b = none) E s1) E s
  done : ∀ (X : Cx), X.prog = P → X.w = w → X.K = K → X.calm = true → ∀ (i : Nat) (pins : List (Addr × Obj)) (s : Shared) (σ : St) (H : Hp) (E : Value → Shared → Prop), Inv X pins σ H s → (∀ b ∈ fp, FpOk X pins H b) → tn i s.heap → J.stop i H →
    wpAny (model P w) X.A (pyNext (.ref it)) (fun r s1 => r = none ∧ Inv X pins σ H s1) E s
  self : ∀ (A : Around) (i : Nat) (s : Shared) (Q : Value → Shared → Prop) (E : Value → Shared → Prop), tn i s.heap → Q (.ref it) s → wpAny (model P w) A (pyIter (.ref it)) Q E s
abbrev TI := St → Hp → (It → Hp → Prop) → Prop
/-- an iterator has come -/
def PIE (X : Cx) (pins : List (Addr × Obj)) (σ : St) (tg : Expr) (R : It → Hp → Prop) (itv : Value) (s2 : Shared) : Prop :=
  ∃ (it : Addr) (fp : List Addr) (tn : Nat → Heap → Prop) (J : It) (H' : Hp), itv = .ref it ∧ Inv X pins σ H' s2 ∧ Turn X.prog X.w X.K tg J fp it tn ∧ tn 0 s2.heap ∧ (∀ b ∈ fp, FpOk X pins H' b) ∧ R J H'
def PI (X : Cx) (tg iter : Expr) (wi : TI) : Prop :=
  ∀ (pins : List (Addr × Obj)) (s : Shared) (σ : St) (H : Hp) (R : It → Hp → Prop), Inv X pins σ H s → wi σ H R →
    wpAny (model X.prog X.w) X.A (eval iter X.env) (fun v s1 => wpAny (model X.prog X.w) X.A (pyIter v) (PIE X pins σ tg R) X.xe s1) X.xe s

/-- the step ahead of the store is nothing for an iterator that keeps no tuple -/
theorem go_of {M : Model} {A : Around} {E : Value → Shared → Prop} {s : Shared} {tg : Expr} {it : Addr} {u : Value} {o : Obj} {n : String} {vs : Array Value} {Q : Unit → Shared → Prop} (ho : s.heap.get? it = some o) (hc : o.cls = .type n) (hd : o.data = .fields vs)
    (hn : ["enumerate", "zip", "dict_itemiterator", "dict_reverseitemiterator", "odict_iterator", "itertools.zip_longest", "itertools.pairwise"].contains n = false) (hQ : Q () s) : wpAny M A (letOwnedTupleGo tg (.ref it) u) Q E s := by
  unfold letOwnedTupleGo
  cases tg <;> first
    | exact wpAny_pure hQ
    | (cases u <;> first
        | exact wpAny_pure hQ
        | (refine wpAny_bind (wpAny_load ho ?_)
           rw [hc, hd]
           show wpAny M A (if (["enumerate", "zip", "dict_itemiterator", "dict_reverseitemiterator", "odict_iterator", "itertools.zip_longest", "itertools.pairwise"].contains n && vs[0]? == some (rawInt _)) = true then _ else _) Q E s
           rw [if_neg (by intro h; rw [hn, Bool.false_and] at h; cases h)]
           exact wpAny_pure hQ))

/-- the list at a, as it stands at each turn (a loop may append to it) -/
def Itl (K : PySem.W.Frag) (a : Addr) : It :=
  ⟨fun i H => ∃ xs x, SqL K H a xs ∧ xs[i]? = some x, fun i H x H' => H' = H ∧ ∀ xs, SqL K H a xs → xs[i]? = some x, fun i H => ∃ xs, SqL K H a xs ∧ xs.length ≤ i⟩
def Itt (K : PySem.W.Frag) (a : Addr) : It :=
  ⟨fun i H => ∃ xs x, SqT K H a xs ∧ xs[i]? = some x, fun i H x H' => H' = H ∧ ∀ xs, SqT K H a xs → xs[i]? = some x, fun i H => ∃ xs, SqT K H a xs ∧ xs.length ≤ i⟩
/-- lo, lo + 1, .. (n of them) -/
def Itr (lo : Int) (n : Nat) : It := ⟨fun i _ => i < n, fun i H x H' => H' = H ∧ x = .int (lo + i), fun i _ => n ≤ i⟩
theorem turn_list {P : Program} {w : World} {K : PySem.W.Frag} {tg : Expr} (a it : Addr) : Turn P w K tg (Itl K a) [it] it (fun i h => h.IsListIter it a i) where
  mem := by simp
  obj := fun i h st b hb => by
    have e : b = it := by simpa using hb
    subst e
    obtain ⟨o, e, c, d⟩ := st
    exact ⟨o, e, fun v z => by rw [d] at z; cases z⟩
  keep := fun i h h' st k => st.at fun o e => k it (by simp) o e
  item := by
    intro X hP hw hK hc i pins s σ H E I hf st hg
    subst hP hw hK
    obtain ⟨xs, x, hq, hx⟩ := hg
    obtain ⟨its, rv, p, hz⟩ := I.list hq
    obtain ⟨u, hu, ru⟩ := rv.get hx
    obtain ⟨f0, f1, f2, f3, f4, f5⟩ := hf it (by simp)
    refine wpAny_pyNext_list_item st p.isList (x := u) (by simpa using hu) fun h' st' sb => ?_
    have I1 : Inv X pins σ H { s with heap := h' } := I.turned (t' := s.toks) (fun b o hb e => (sb.2 b hb).trans e) f0 f1 f3 f4 f5
    obtain ⟨o, e, c, d⟩ := id st'
    exact ⟨u, rfl, go_of (s := { s with heap := h' }) e c d (by decide) ⟨x, H, I1, ru, ⟨rfl, fun ys hy => by rw [I.list_inj hy hq]; exact hx⟩, st', fun b hb => (hf b hb).1⟩⟩
  done := by
    intro X hP hw hK hc i pins s σ H E I hf st hg
    subst hP hw hK
    obtain ⟨xs, hq, hx⟩ := hg
    obtain ⟨its, rv, p, hz⟩ := I.list hq
    obtain ⟨f0, f1, f2, f3, f4, f5⟩ := hf it (by simp)
    have hl := rv.length
    exact wpAny_pyNext_list_end (I.ok.hd hc) st p.isList (by simp; omega) fun h' eb => ⟨rfl, I.turned (t' := s.toks) (fun b o hb e => eb b o hb e) f0 f1 f3 f4 f5⟩
  self := fun _ _ _ _ _ st h => wpAny_pyIter_listiter st h
theorem turn_range {P : Program} {w : World} {K : PySem.W.Frag} {tg : Expr} (it : Addr) (lo : Int) (n : Nat) : Turn P w K tg (Itr lo n) [it] it (fun i h => IsRangeIter h it (lo + (i : Nat) * 1) ((n : Int) - (i : Nat)) 1) where
  mem := by simp
  obj := fun i h st b hb => by
    have e : b = it := by simpa using hb
    subst e
    exact ⟨_, st, fun v z => by
      have z' : Data.fields _ = Data.cell v := z
      cases z'⟩
  keep := fun i h h' st k => k it (by simp) _ st
  item := by
    intro X hP hw hK hc i pins s σ H E I hf st hg
    subst hP hw hK
    obtain ⟨f0, f1, f2, f3, f4, f5⟩ := hf it (by simp)
    have W := Walks.range (prog := X.prog) (w := X.w) (I.ok.hd hc) it lo 1 n
    refine W.item i s _ _ hg st fun v h' tk hv st' kk => ?_
    obtain ⟨t, rfl⟩ := hv
    have I1 : Inv X pins σ H { s with heap := h', toks := tk } := I.turned (fun b o hb e => kk b o (by simpa using hb) e) f0 f1 f3 f4 f5
    refine ⟨_, rfl, go_of (s := { s with heap := h', toks := tk }) (n := "range_iterator") st' rfl rfl (by decide) ⟨.int (lo + i), H, I1, ⟨t, ?_⟩, ⟨rfl, rfl⟩, st', fun b hb => (hf b hb).1⟩⟩
    rw [Int.mul_one]
  done := by
    intro X hP hw hK hc i pins s σ H E I hf st hg
    subst hP hw hK
    obtain ⟨f0, f1, f2, f3, f4, f5⟩ := hf it (by simp)
    exact wpAny_pyNext_range_end (I.ok.hd hc) st (by have : n ≤ i := hg; omega) fun h' eb => ⟨rfl, I.turned (t' := s.toks) (fun b o hb e => eb b o hb e) f0 f1 f3 f4 f5⟩
  self := fun _ _ _ _ _ st h => wpAny_pyIter_rangeiter st h
end L2

namespace L2
open PySem PySem.Spec PyProof.Rows
section
variable {X : Cx} {tg : Expr}
def iList (K : PySem.W.Frag) (tl : TE) : TI := fun σ H R => tl σ H fun x H1 => ∃ a, x = .ref a ∧ (∃ xs, SqL K H1 a xs) ∧ R (Itl K a) H1
def iTup (K : PySem.W.Frag) (tl : TE) : TI := fun σ H R => tl σ H fun x H1 => ∃ a, x = .ref a ∧ (∃ xs, SqT K H1 a xs) ∧ R (Itt K a) H1
theorem pi_list {l : Expr} {tl : TE} (hl : PE X l tl) : PI X tg l (iList X.K tl) := by
  intro pins s σ H R I h
  refine thn (hl pins s σ H _ I h) fun v s1 ⟨x, H1, I1, r1, q1⟩ => ?_
  obtain ⟨a, e, ⟨xs, hq⟩, q⟩ := q1
  subst e
  cases r1
  obtain ⟨its, rv, p, hz⟩ := I1.list hq
  refine wpAny_pyIter_list p.isList ?_
  refine ⟨s1.heap.objs.size, [s1.heap.objs.size], _, _, H1, rfl, I1.kept (t' := s1.toks) fun b o e => Heap.get?_push_of_some _ e, turn_list a _, ⟨_, Heap.get?_push_size _ rfl, rfl, rfl⟩, fun b hb => ?_, q⟩
  have e : b = s1.heap.objs.size := by simpa using hb
  subst e
  exact I1.fpOk (Nat.le_refl _) (I1.hok.fresh (Nat.le_refl _))
/-- a range object just made, walked -/
theorem range_it {pins : List (Addr × Obj)} {σ : St} {H : Hp} {s : Shared} {R : It → Hp → Prop} {E : Value → Shared → Prop} {lo hi : Int} {t u v : Tok} {tk : Nat} (I : Inv X pins σ H s) (h1 : -(2 ^ 62) ≤ lo) (h2 : lo < 2 ^ 62) (h3 : -(2 ^ 62) ≤ hi) (h4 : hi < 2 ^ 62)
    (q : R (Itr lo (hi - lo).toNat) H) : wpAny (model X.prog X.w) X.A (pyIter (.ref s.heap.objs.size)) (PIE X pins σ tg R) E { s with heap := s.heap.push { cls := .type "range", data := .fields #[.int lo t, .int hi u, .int 1 v] }, toks := tk } := by
  refine wpAny_pyIter_range (IsRange.new ..) (small_one h1 h2 h3 h4) ?_
  have I1 : Inv X pins σ H { s with heap := s.heap.push { cls := .type "range", data := .fields #[.int lo t, .int hi u, .int 1 v] }, toks := tk } := I.kept fun b o e => Heap.get?_push_of_some _ e
  refine ⟨(s.heap.push { cls := .type "range", data := .fields #[.int lo t, .int hi u, .int 1 v] }).objs.size, [(s.heap.push { cls := .type "range", data := .fields #[.int lo t, .int hi u, .int 1 v] }).objs.size], _, _, H, rfl,
    I1.kept (t' := tk) fun b o e => Heap.get?_push_of_some _ e, turn_range _ lo (hi - lo).toNat, ?_, fun b hb => ?_, q⟩
  · have e1 : lo + ((0 : Nat) : Int) * 1 = lo := by simp
    have e2 : (((hi - lo).toNat : Nat) : Int) - ((0 : Nat) : Int) = Builtin.Range.rangeSize lo hi 1 := by rw [rangeSize_one]; split <;> omega
    show IsRangeIter _ _ (lo + ((0 : Nat) : Int) * 1) ((((hi - lo).toNat : Nat) : Int) - ((0 : Nat) : Int)) 1
    rw [e1, e2]
    exact Heap.get?_push_size _ rfl
  · have e : b = (s.heap.push { cls := .type "range", data := .fields #[.int lo t, .int hi u, .int 1 v] }).objs.size := by simpa using hb
    subst e
    exact I1.fpOk (Nat.le_refl _) (I1.hok.fresh (Nat.le_refl _))
def iRng1 (ta : TA) : TI := fun σ H R => ta σ H fun vs H1 => ∃ j : Int, vs = [.int j] ∧ -(2 ^ 62) ≤ j ∧ j < 2 ^ 62 ∧ R (Itr 0 j.toNat) H1
def iRng2 (ta : TA) : TI := fun σ H R => ta σ H fun vs H1 => ∃ i j : Int, vs = [.int i, .int j] ∧ (-(2 ^ 62) ≤ i ∧ i < 2 ^ 62 ∧ -(2 ^ 62) ≤ j ∧ j < 2 ^ 62) ∧ R (Itr i (j - i).toNat) H1
theorem pi_range1 {a : Expr} {ta : TA} {p pos : Pos} (hg : Gl X "range") (hm : X.mg "range" = none) (ha : PA X [a] ta) (hs : starEach [a] X.env = [(false, eval a X.env)] := by rfl) : PI X tg (.Call (.Name "range" p) [a] [] pos) (iRng1 ta) := by
  intro pins s σ H R I h
  refine Call_ (ld_blt I hg hm boot_range (PyProof.Rows.callWith_type1 (thn (ha pos pins s σ H _ I h) fun us s1 ⟨vs, H1, I1, r1, q1⟩ => ?_) hs rfl))
  obtain ⟨j, e, q1, q2, q⟩ := q1
  subst e
  cases r1 with
  | cons r rr =>
    cases rr
    obtain ⟨t, rfl⟩ := r
    exact call_range_1 (range_it I1 (by omega) (by omega) q1 q2 (by simpa using q))
theorem pi_range2 {a b : Expr} {ta : TA} {p pos : Pos} (hg : Gl X "range") (hm : X.mg "range" = none) (ha : PA X [a, b] ta) (hs : starEach [a, b] X.env = [(false, eval a X.env), (false, eval b X.env)] := by rfl) (hs2 : starEach [b] X.env = [(false, eval b X.env)] := by rfl) :
    PI X tg (.Call (.Name "range" p) [a, b] [] pos) (iRng2 ta) := by
  intro pins s σ H R I h
  refine Call_ (ld_blt I hg hm boot_range (PyProof.Rows.callWith_type1 (thn (ha pos pins s σ H _ I h) fun us s1 ⟨vs, H1, I1, r1, q1⟩ => ?_) (by rw [hs, hs2]) (by rw [hs2]; rfl)))
  obtain ⟨i, j, e, ⟨q1, q2, q3, q4⟩, q⟩ := q1
  subst e
  cases r1 with
  | cons r rr =>
    cases rr with
    | cons r' rr =>
      cases rr
      obtain ⟨t, rfl⟩ := r
      obtain ⟨t', rfl⟩ := r'
      exact call_range_2 (range_it I1 q1 q2 q3 q4 q)

/-! ### for -/
/-- W: the invariant by the turn and a measure; N: what the body is to reach -/
def tFor (wi : TI) (g : TG) (tb : TS) : TS := fun D σ H => wi σ H fun J H1 => ∃ W : Nat → Nat → St → Hp → Prop, (∃ m, W 0 m σ H1) ∧ ∀ i m σ H, W i m σ H →
  (J.stop i H ∧ D.nx σ H) ∨ (J.go i H ∧ ∃ N : St → Hp → Prop, (∀ σ' H', N σ' H' → ∃ m', m' < m ∧ W (i + 1) m' σ' H') ∧ ∀ x H', J.yld i H x H' → g x σ H' fun σ2 H2 => tb { D with nx := N, ct := N, bk := D.nx } σ2 H2)
/-- the records at fp as they stand -/
def pinsAt (fp : List Addr) (h : Heap) : List (Addr × Obj) := fp.filterMap fun b => (h.get? b).map fun o => (b, o)
theorem mem_pinsAt {fp : List Addr} {h : Heap} {b : Addr} {o : Obj} (hb : b ∈ fp) (e : h.get? b = some o) : (b, o) ∈ pinsAt fp h := List.mem_filterMap.mpr ⟨b, hb, by rw [e]; rfl⟩
theorem of_pinsAt {fp : List Addr} {h : Heap} {p : Addr × Obj} (hp : p ∈ pinsAt fp h) : p.1 ∈ fp ∧ h.get? p.1 = some p.2 := by
  obtain ⟨b, hb, e⟩ := List.mem_filterMap.mp hp
  cases q : h.get? b with
  | none => rw [q] at e; cases e
  | some o =>
    rw [q] at e
    have e' : (b, o) = p := Option.some.inj e
    subst e'
    exact ⟨hb, q⟩
theorem Inv.pinned {pins : List (Addr × Obj)} {σ : St} {H : Hp} {s : Shared} {fp : List Addr} (I : Inv X pins σ H s) (hf : ∀ b ∈ fp, FpOk X pins H b) (ho : ∀ b ∈ fp, ∃ o, s.heap.get? b = some o ∧ ∀ v, o.data ≠ .cell v) : Inv X (pins ++ pinsAt fp s.heap) σ H s :=
  I.pins_of fun p hp => (List.mem_append.mp hp).elim (fun z => I.pin p (List.mem_append_right _ z)) fun z => by
    obtain ⟨hb, e⟩ := of_pinsAt z
    obtain ⟨f0, f1, f2, _⟩ := hf p.1 hb
    obtain ⟨o, e', d⟩ := ho p.1 hb
    rw [e] at e'; cases e'
    exact ⟨e, f0, f1, f2, d⟩
theorem Inv.unpinned {pins pl : List (Addr × Obj)} {σ : St} {H : Hp} {s : Shared} (I : Inv X (pins ++ pl) σ H s) : Inv X pins σ H s := I.pins_of fun p hp => I.pin p (List.mem_append_right _ (List.mem_append_left _ hp))
theorem ps_for {iter : Expr} {body : List Stmt} {wi : TI} {g : TG} {tb : TS} {pos : Pos} (hp : PassesOwn (model X.prog X.w) X.A X.env X.xe) (hc : X.calm = true) (hi : PI X tg iter wi) (hg : PG X tg g) (hb : PSs X body tb)
    (hs : ∀ x, foldedSetIterable iter X.env x = pure x := by intro _; rfl) : PS X (.For tg iter body [] pos) (tFor wi g tb) := by
  intro pins s σ H D I h
  refine wpAny_For (thn (hi pins s σ H _ I h) fun v s1 h1 => thn h1 fun itv s2 h2 => ?_) hs
  obtain ⟨it, fp, tn, J, H2, e, I2, T, st2, f2, W, ⟨m0, w0⟩, turn⟩ := h2
  subst e
  -- what stays true of the iterator's objects through the loop
  have stat : ∀ {H' : Hp}, (∀ b ∈ fp, H' b = none) → ∀ b ∈ fp, FpOk X pins H' b := fun hn b hb => ⟨hn b hb, (f2 b hb).2⟩
  refine codeAny_forLoop_any (fun n s' => ∃ i σ' H', Inv X pins σ' H' s' ∧ tn i s'.heap ∧ (∀ b ∈ fp, H' b = none) ∧ W i n σ' H') ?_ m0 ⟨0, σ, H2, I2, st2, fun b hb => (f2 b hb).1, w0⟩
  rintro n s3 ⟨i, σ3, H3, I3, st3, fr3, w3⟩
  rcases turn i n σ3 H3 w3 with ⟨stop, qn⟩ | ⟨go, N, hN, step⟩
  · refine wpAny_passesOwn hp (thn (T.done X rfl rfl rfl hc i pins s3 σ3 H3 X.xe I3 (stat fr3) st3 stop) fun r s4 ⟨hr, I4⟩ => ?_)
    subst hr
    exact wpAny_execs_nil ⟨σ3, H3, I4, qn⟩
  · refine wpAny_passesOwn hp (thn (T.item X rfl rfl rfl hc i pins s3 σ3 H3 X.xe I3 (stat fr3) st3 go) fun r s4 ⟨u, hr, h4⟩ => ?_)
    subst hr
    refine wpAny_passesOwn hp (thn h4 fun _ s5 ⟨x, H5, I5, r5, y5, st5, fr5⟩ => ?_)
    have I5' := I5.pinned (stat fr5) (T.obj _ _ st5)
    refine wpAny_passesOwn hp (thn (hg _ s5 σ3 H5 x u _ I5' r5 (step x H5 y5)) fun _ s6 ⟨σ6, H6, I6, q6⟩ => ?_)
    refine wpAny_passesOwn hp (thn (hb _ s6 σ6 H6 _ I6 q6) fun f s7 q7 => ?_)
    have again : ∀ {σ7 : St} {H7 : Hp}, Inv X (pins ++ pinsAt fp s5.heap) σ7 H7 s7 → N σ7 H7 → ∃ m, m < n ∧ ∃ i σ' H', Inv X pins σ' H' s7 ∧ tn i s7.heap ∧ (∀ b ∈ fp, H' b = none) ∧ W i m σ' H' := fun {σ7 H7} I7 n7 => by
      obtain ⟨m', hm, w7⟩ := hN σ7 H7 n7
      refine ⟨m', hm, i + 1, σ7, H7, I7.unpinned, T.keep _ _ _ st5 fun b hb o e => (I7.pin (b, o) (List.mem_append_right _ (List.mem_append_right _ (mem_pinsAt hb e)))).1, fun b hb => ?_, w7⟩
      obtain ⟨o, e, d⟩ := T.obj _ _ st5 b hb
      exact (I7.pin (b, o) (List.mem_append_right _ (List.mem_append_right _ (mem_pinsAt hb e)))).2.1
    cases f with
    | next => obtain ⟨σ7, H7, I7, n7⟩ := q7; exact again I7 n7
    | cont => obtain ⟨σ7, H7, I7, n7⟩ := q7; exact again I7 n7
    | brk => obtain ⟨σ7, H7, I7, q7⟩ := q7; exact ⟨σ7, H7, I7.unpinned, q7⟩
    | ret v => obtain ⟨x7, σ7, H7, I7, r7, q7⟩ := q7; exact ⟨x7, σ7, H7, I7.unpinned, r7, q7⟩
end

/-! ### the forms one uses -/
/-- over a list that the body leaves as it is -/
theorem for_list {K : PySem.W.Frag} {a : Addr} {xs : List V} {g : TG} {tb : TS} {D : Ends} {σ : St} {H : Hp} (Pv : Nat → St → Hp → Prop) (h0 : Pv 0 σ H) (hl : ∀ i σ H, i ≤ xs.length → Pv i σ H → SqL K H a xs)
    (hs : ∀ i x σ H, xs[i]? = some x → Pv i σ H → g x σ H fun σ2 H2 => tb { D with nx := Pv (i + 1), ct := Pv (i + 1), bk := D.nx } σ2 H2) (hd : ∀ σ H, Pv xs.length σ H → D.nx σ H) :
    ∃ W : Nat → Nat → St → Hp → Prop, (∃ m, W 0 m σ H) ∧ ∀ i m σ H, W i m σ H →
      ((Itl K a).stop i H ∧ D.nx σ H) ∨ ((Itl K a).go i H ∧ ∃ N : St → Hp → Prop, (∀ σ' H', N σ' H' → ∃ m', m' < m ∧ W (i + 1) m' σ' H') ∧ ∀ x H', (Itl K a).yld i H x H' → g x σ H' fun σ2 H2 => tb { D with nx := N, ct := N, bk := D.nx } σ2 H2) := by
  refine ⟨fun i m σ H => m = xs.length - i ∧ i ≤ xs.length ∧ Pv i σ H, ⟨xs.length, by simp, Nat.zero_le _, h0⟩, ?_⟩
  rintro i m σ H ⟨rfl, hi, p⟩
  have q := hl i σ H hi p
  by_cases hlt : i < xs.length
  · refine .inr ⟨⟨xs, xs[i], q, by simp [hlt]⟩, Pv (i + 1), fun σ' H' p' => ⟨xs.length - (i + 1), by omega, rfl, hlt, p'⟩, fun x H' y => ?_⟩
    obtain ⟨e, y⟩ := y
    subst e
    exact hs i x σ _ (y xs q) p
  · have e : i = xs.length := by omega
    subst e
    exact .inl ⟨⟨xs, q, Nat.le_refl _⟩, hd σ H p⟩
theorem for_range {lo : Int} {n : Nat} {g : TG} {tb : TS} {D : Ends} {σ : St} {H : Hp} (Pv : Nat → St → Hp → Prop) (h0 : Pv 0 σ H)
    (hs : ∀ i σ H, i < n → Pv i σ H → g (.int (lo + i)) σ H fun σ2 H2 => tb { D with nx := Pv (i + 1), ct := Pv (i + 1), bk := D.nx } σ2 H2) (hd : ∀ σ H, Pv n σ H → D.nx σ H) :
    ∃ W : Nat → Nat → St → Hp → Prop, (∃ m, W 0 m σ H) ∧ ∀ i m σ H, W i m σ H →
      ((Itr lo n).stop i H ∧ D.nx σ H) ∨ ((Itr lo n).go i H ∧ ∃ N : St → Hp → Prop, (∀ σ' H', N σ' H' → ∃ m', m' < m ∧ W (i + 1) m' σ' H') ∧ ∀ x H', (Itr lo n).yld i H x H' → g x σ H' fun σ2 H2 => tb { D with nx := N, ct := N, bk := D.nx } σ2 H2) := by
  refine ⟨fun i m σ H => m = n - i ∧ i ≤ n ∧ Pv i σ H, ⟨n, by simp, Nat.zero_le _, h0⟩, ?_⟩
  rintro i m σ H ⟨rfl, hi, p⟩
  by_cases hlt : i < n
  · refine .inr ⟨hlt, Pv (i + 1), fun σ' H' p' => ⟨n - (i + 1), by omega, rfl, hlt, p'⟩, fun x H' y => ?_⟩
    obtain ⟨e, y⟩ := y
    subst e y
    exact hs i σ _ hlt p
  · have e : i = n := by omega
    subst e
    exact .inl ⟨Nat.le_refl _, hd σ H p⟩
/-- while, by a word and a measure of the state -/
theorem while_by {c : TT} {tb : TS} {D : Ends} {σ : St} {H : Hp} (Pv : St → Hp → Prop) (μ : St → Hp → Nat) (h0 : Pv σ H)
    (hs : ∀ σ H, Pv σ H → c σ H fun b H1 => if b = true then tb { D with nx := fun σ' H' => Pv σ' H' ∧ μ σ' H' < μ σ H, ct := fun σ' H' => Pv σ' H' ∧ μ σ' H' < μ σ H, bk := D.nx } σ H1 else D.nx σ H1)
    (mono : ∀ σ H Q Q', (∀ b H1, Q b H1 → Q' b H1) → c σ H Q → c σ H Q') : tWhile c tb D σ H := by
  refine ⟨fun m σ H => m = μ σ H ∧ Pv σ H, ⟨_, rfl, h0⟩, ?_⟩
  rintro m σ H ⟨rfl, p⟩
  refine mono σ H _ _ (fun b H1 q => ?_) (hs σ H p)
  cases b with
  | true => exact ⟨_, fun σ' H' ⟨p', l⟩ => ⟨_, l, rfl, p'⟩, q⟩
  | false => exact q
end L2

namespace L2
open PySem PySem.Spec PyProof.Rows

abbrev R2 := V → V → Hp → VK → Prop
/-- a two-place operation on values: f is binaryOp op, inplaceOp op or compareOp op -/
def OpR (X : Cx) (f : Value → Value → Sem Value) (r : R2) : Prop :=
  ∀ (pins : List (Addr × Obj)) (s : Shared) (σ : St) (H : Hp) (x y : V) (v u : Value) (Q : VK), Inv X pins σ H s → RelV x v → RelV y u → r x y H Q →
    wpAny (model X.prog X.w) X.A (f v u) (EP X pins σ Q) X.xe s
/-- a one-place operation -/
def UnR (X : Cx) (f : Value → Sem Value) (r : V → Hp → VK → Prop) : Prop :=
  ∀ (pins : List (Addr × Obj)) (s : Shared) (σ : St) (H : Hp) (x : V) (v : Value) (Q : VK), Inv X pins σ H s → RelV x v → r x H Q →
    wpAny (model X.prog X.w) X.A (f v) (EP X pins σ Q) X.xe s
/-- a call of a value that is known (a builtin, a type) with values -/
def CallR (X : Cx) (f : Value) (r : List V → Hp → VK → Prop) : Prop :=
  ∀ (pins : List (Addr × Obj)) (s : Shared) (σ : St) (H : Hp) (xs : List V) (us : List Value) (Q : VK), Inv X pins σ H s → Vals xs us → r xs H Q →
    wpAny (model X.prog X.w) X.A (call f us) (EP X pins σ Q) X.xe s
/-- a value's truth -/
def TruR (X : Cx) (r : V → Hp → (Bool → Hp → Prop) → Prop) : Prop :=
  ∀ (pins : List (Addr × Obj)) (s : Shared) (σ : St) (H : Hp) (x : V) (v : Value) (Q : Bool → Hp → Prop), Inv X pins σ H s → RelV x v → r x H Q →
    wpAny (model X.prog X.w) X.A (truthy v) (TP X pins σ Q) X.xe s

def tOp (r : R2) (ta tb : TE) : TE := fun σ H Q => ta σ H fun x H1 => tb σ H1 fun y H2 => r x y H2 Q
def tUn (r : V → Hp → VK → Prop) (ta : TE) : TE := fun σ H Q => ta σ H fun x H1 => r x H1 Q
/-- ints in, under C, and a value out -/
def rI (C : Int → Int → Prop) (g : Int → Int → V) : R2 := fun x y H Q => ∃ i j, x = .int i ∧ y = .int j ∧ C i j ∧ Q (g i j) H
def rI0 (g : Int → Int → V) : R2 := fun x y H Q => ∃ i j, x = .int i ∧ y = .int j ∧ Q (g i j) H
def rU (g : Int → V) : V → Hp → VK → Prop := fun x H Q => ∃ i, x = .int i ∧ Q (g i) H

section
variable {X : Cx} {a b c : Expr} {ta tb tc : TE} {pos : Pos}

theorem binT (ha : PE X a ta) (hb : PE X b tb) {pins : List (Addr × Obj)} {s : Shared} {σ : St} {H : Hp} {R : V → V → Hp → Prop} (I : Inv X pins σ H s)
    (h : ta σ H fun x H1 => tb σ H1 fun y H2 => R x y H2) {Q : Value → Shared → Prop} {f : Value → Value → Sem Value}
    (hf : ∀ v u s2 x y H2, Inv X pins σ H2 s2 → RelV x v → RelV y u → R x y H2 → wpAny (model X.prog X.w) X.A (f v u) Q X.xe s2) :
    wpAny (model X.prog X.w) X.A (eval a X.env) (fun v s₁ => wpAny (model X.prog X.w) X.A (eval b X.env) (fun u s₂ => wpAny (model X.prog X.w) X.A (f v u) Q X.xe s₂) X.xe s₁) X.xe s := by
  refine thn (ha pins s σ H _ I h) fun v s1 ⟨x, H1, I1, r1, q1⟩ => ?_
  refine thn (hb pins s1 σ H1 _ I1 q1) fun u s2 ⟨y, H2, I2, r2, q2⟩ => ?_
  exact hf v u s2 x y H2 I2 r1 r2 q2

theorem pe_op {op : Operator} {r : R2} (ho : OpR X (binaryOp op) r) (ha : PE X a ta) (hb : PE X b tb) : PE X (.BinOp a op b pos) (tOp r ta tb) := by
  intro pins s σ H Q I h
  exact wpAny_BinOp (binT ha hb I h fun v u s2 x y H2 I2 rx ry q => ho pins s2 σ H2 x y v u Q I2 rx ry q)
theorem pe_un {op : UnaryOp} {r : V → Hp → VK → Prop} (ho : UnR X (unaryOp op) r) (ha : PE X a ta) : PE X (.UnaryOp op a pos) (tUn r ta) := by
  intro pins s σ H Q I h
  exact UnaryOp_ (thn (ha pins s σ H _ I h) fun v s1 ⟨x, H1, I1, r1, q1⟩ => ho pins s1 σ H1 x v Q I1 r1 q1)
/-! ### ints -/
theorem opI {f : Value → Value → Sem Value} {C : Int → Int → Prop} {g : Int → Int → Int}
    (rule : ∀ (i j : Int) (t u : Tok) (s : Shared) (Q : Value → Shared → Prop) (E : Value → Shared → Prop), C i j → Q (.int (g i j) s.toks) { s with toks := s.toks + 1 } → wpAny (model X.prog X.w) X.A (f (.int i t) (.int j u)) Q E s) :
    OpR X f (rI C fun i j => .int (g i j)) := by
  intro pins s σ H x y v u Q I rx ry h
  obtain ⟨i, j, rfl, rfl, hc, q⟩ := h
  obtain ⟨t, rfl⟩ := rx
  obtain ⟨t', rfl⟩ := ry
  exact rule i j t t' s _ _ hc ⟨.int (g i j), H, I.tok _, ⟨_, rfl⟩, q⟩
theorem opI0 {f : Value → Value → Sem Value} {g : Int → Int → Int}
    (rule : ∀ (i j : Int) (t u : Tok) (s : Shared) (Q : Value → Shared → Prop) (E : Value → Shared → Prop), Q (.int (g i j) s.toks) { s with toks := s.toks + 1 } → wpAny (model X.prog X.w) X.A (f (.int i t) (.int j u)) Q E s) :
    OpR X f (rI0 fun i j => .int (g i j)) := by
  intro pins s σ H x y v u Q I rx ry h
  obtain ⟨i, j, rfl, rfl, q⟩ := h
  obtain ⟨t, rfl⟩ := rx
  obtain ⟨t', rfl⟩ := ry
  exact rule i j t t' s _ _ ⟨.int (g i j), H, I.tok _, ⟨_, rfl⟩, q⟩
theorem opB0 {f : Value → Value → Sem Value} {g : Int → Int → Bool}
    (rule : ∀ (i j : Int) (t u : Tok) (s : Shared) (Q : Value → Shared → Prop) (E : Value → Shared → Prop), Q (.bool (g i j)) s → wpAny (model X.prog X.w) X.A (f (.int i t) (.int j u)) Q E s) :
    OpR X f (rI0 fun i j => .bl (g i j)) := by
  intro pins s σ H x y v u Q I rx ry h
  obtain ⟨i, j, rfl, rfl, q⟩ := h
  obtain ⟨t, rfl⟩ := rx
  obtain ⟨t', rfl⟩ := ry
  exact rule i j t t' s _ _ ⟨.bl (g i j), H, I, rfl, q⟩

def CDiv (i j : Int) : Prop := 0 < j ∧ j < 1073741824
def CDivN (i j : Int) : Prop := j ≠ 0 ∧ j.natAbs < 1073741824
def CPow (i j : Int) : Prop := 0 ≤ j ∧ j ≤ 1000000 ∧ i.natAbs < 2 ^ 64
def CMul (i j : Int) : Prop := (-(2 ^ 64) < i ∧ i < 2 ^ 64) ∨ (-(2 ^ 64) < j ∧ j < 2 ^ 64)
theorem CMul.ok {i j : Int} (h : CMul i j) : IntMulOk i j := by
  rcases h with ⟨h1, h2⟩ | ⟨h1, h2⟩
  · exact .of_left (intBits_le_64 h1 h2)
  · exact .of_right (intBits_le_64 h1 h2)
theorem op_add : OpR X (binaryOp .Add) (rI0 fun i j => .int (i + j)) := opI0 fun _ _ _ _ _ _ _ q => add_int q
theorem op_sub : OpR X (binaryOp .Sub) (rI0 fun i j => .int (i - j)) := opI0 fun _ _ _ _ _ _ _ q => sub_int q
/-- % by a positive divisor of any size -/
theorem op_mod : OpR X (binaryOp .Mod) (rI (fun _ j => 0 < j) fun i j => .int (i % j)) := opI fun i j _ _ _ _ _ hc q => by
  have h1 : (0 : Int) < j := hc
  exact mod_int' (by omega) (by rw [Int.fmod_eq_emod_of_nonneg i (by omega)]; exact q)
theorem op_pow : OpR X (binaryOp .Pow) (rI CPow fun i j => .int (i ^ j.toNat)) := opI fun _ _ _ _ _ _ _ hc q => pow_int_small hc.1 hc.2.1 hc.2.2 q
theorem unI {f : Value → Sem Value} {g : Int → Int}
    (rule : ∀ (i : Int) (t : Tok) (s : Shared) (Q : Value → Shared → Prop) (E : Value → Shared → Prop), Q (.int (g i) s.toks) { s with toks := s.toks + 1 } → wpAny (model X.prog X.w) X.A (f (.int i t)) Q E s) :
    UnR X f (rU fun i => .int (g i)) := by
  intro pins s σ H x v Q I rx h
  obtain ⟨i, rfl, q⟩ := h
  obtain ⟨t, rfl⟩ := rx
  exact rule i t s _ _ ⟨.int (g i), H, I.tok _, ⟨_, rfl⟩, q⟩
theorem un_neg : UnR X (unaryOp .USub) (rU fun i => .int (-i)) := unI fun _ _ _ _ _ q => neg_int q
/-! ### bools among ints: n += (a < b) -/
end

/-! ### comparisons -/
/-- the scalars that == tells apart as data does -/
def scal : V → V → Bool
  | .non, .non => true | .non, .int _ => true | .int _, .non => true | .non, .bl _ => true | .bl _, .non => true | .non, .str _ => true | .str _, .non => true
  | .int _, .int _ => true | .bl _, .bl _ => true | .str _, .str _ => true | .byt _, .byt _ => true
  | .int _, .str _ => true | .str _, .int _ => true | .bl _, .str _ => true | .str _, .bl _ => true
  | _, _ => false
def rEq : R2 := fun x y H Q => scal x y = true ∧ Q (.bl (decide (x = y))) H
def rNe : R2 := fun x y H Q => scal x y = true ∧ Q (.bl (!decide (x = y))) H

theorem dec_int {i j : Int} : decide (V.int i = V.int j) = (i == j) := by
  rw [Bool.eq_iff_iff]
  simp
theorem dec_bl {i j : Bool} : decide (V.bl i = V.bl j) = (i == j) := by
  rw [Bool.eq_iff_iff]
  simp
theorem dec_str {i j : Str} : decide (V.str i = V.str j) = (i == j) := by
  rw [Bool.eq_iff_iff]
  simp
theorem dec_byt {i j : Array UInt8} : decide (V.byt i = V.byt j) = (i.toList == j.toList) := by
  rw [Bool.eq_iff_iff]
  cases i
  cases j
  simp

section
variable {X : Cx} {a b c : Expr} {ta tb tc : TE} {pos : Pos}
theorem fin_bl {pins : List (Addr × Obj)} {σ : St} {H : Hp} {s : Shared} {Q : VK} {k k' : Bool} (I : Inv X pins σ H s) (q : Q (.bl k) H) (e : k = k') : EP X pins σ Q (.bool k') s := by
  subst e
  exact ⟨.bl k, H, I, rfl, q⟩
theorem op_eq : OpR X (compareOp .Eq) rEq := by
  intro pins s σ H x y v u Q I rx ry h
  obtain ⟨hs, q⟩ := h
  cases x with
  | non =>
    cases rx
    cases y with
    | non => cases ry; exact PySem.EqNone.eq_none_none (fin_bl I q (by simp))
    | bl j => cases ry; exact PySem.EqNone.eq_none_bool (fin_bl I q (by simp))
    | int j => obtain ⟨t', rfl⟩ := ry; exact PySem.EqNone.eq_none_int (fin_bl I q (by simp))
    | str j => obtain ⟨t', rfl⟩ := ry; exact PySem.EqNone.eq_none_str (fin_bl I q (by simp))
    | _ => exact absurd (show false = true from hs) Bool.false_ne_true
  | bl i =>
    cases rx
    cases y with
    | non => cases ry; exact PySem.EqNone.eq_bool_none (fin_bl I q (by simp))
    | bl j => cases ry; exact eq_bool (fin_bl I q dec_bl)
    | str j => obtain ⟨t', rfl⟩ := ry; exact PySem.EqMixed.eq_bool_str (fin_bl I q (by simp))
    | _ => exact absurd (show false = true from hs) Bool.false_ne_true
  | int i =>
    obtain ⟨t, rfl⟩ := rx
    cases y with
    | non => cases ry; exact PySem.EqNone.eq_int_none (fin_bl I q (by simp))
    | int j => obtain ⟨t', rfl⟩ := ry; exact eq_int (fin_bl I q dec_int)
    | str j => obtain ⟨t', rfl⟩ := ry; exact PySem.EqMixed.eq_int_str (fin_bl I q (by simp))
    | _ => exact absurd (show false = true from hs) Bool.false_ne_true
  | str i =>
    obtain ⟨t, rfl⟩ := rx
    cases y with
    | non => cases ry; exact PySem.EqNone.eq_str_none (fin_bl I q (by simp))
    | bl j => cases ry; exact PySem.EqMixed.eq_str_bool (fin_bl I q (by simp))
    | int j => obtain ⟨t', rfl⟩ := ry; exact PySem.EqMixed.eq_str_int (fin_bl I q (by simp))
    | str j => obtain ⟨t', rfl⟩ := ry; exact eq_str (fin_bl I q dec_str)
    | _ => exact absurd (show false = true from hs) Bool.false_ne_true
  | byt i =>
    obtain ⟨t, rfl⟩ := rx
    cases y with
    | byt j => obtain ⟨t', rfl⟩ := ry; exact PySem.W.eq_bytes (fin_bl I q dec_byt)
    | _ => exact absurd (show false = true from hs) Bool.false_ne_true
  | _ => cases y <;> exact absurd (show false = true from hs) Bool.false_ne_true
theorem op_ne : OpR X (compareOp .NotEq) rNe := by
  intro pins s σ H x y v u Q I rx ry h
  obtain ⟨hs, q⟩ := h
  cases x with
  | non =>
    cases rx
    cases y with
    | non => cases ry; exact PySem.EqNone.ne_none_none (fin_bl I q (by simp))
    | bl j => cases ry; exact PySem.EqNone.ne_none_bool (fin_bl I q (by simp))
    | int j => obtain ⟨t', rfl⟩ := ry; exact PySem.EqNone.ne_none_int (fin_bl I q (by simp))
    | str j => obtain ⟨t', rfl⟩ := ry; exact PySem.EqNone.ne_none_str (fin_bl I q (by simp))
    | _ => exact absurd (show false = true from hs) Bool.false_ne_true
  | bl i =>
    cases rx
    cases y with
    | non => cases ry; exact PySem.EqNone.ne_bool_none (fin_bl I q (by simp))
    | bl j => cases ry; exact ne_bool (fin_bl I q (congrArg not dec_bl))
    | str j => obtain ⟨t', rfl⟩ := ry; exact PySem.EqMixed.ne_bool_str (fin_bl I q (by simp))
    | _ => exact absurd (show false = true from hs) Bool.false_ne_true
  | int i =>
    obtain ⟨t, rfl⟩ := rx
    cases y with
    | non => cases ry; exact PySem.EqNone.ne_int_none (fin_bl I q (by simp))
    | int j => obtain ⟨t', rfl⟩ := ry; exact ne_int (fin_bl I q (congrArg not dec_int))
    | str j => obtain ⟨t', rfl⟩ := ry; exact PySem.EqMixed.ne_int_str (fin_bl I q (by simp))
    | _ => exact absurd (show false = true from hs) Bool.false_ne_true
  | str i =>
    obtain ⟨t, rfl⟩ := rx
    cases y with
    | non => cases ry; exact PySem.EqNone.ne_str_none (fin_bl I q (by simp))
    | bl j => cases ry; exact PySem.EqMixed.ne_str_bool (fin_bl I q (by simp))
    | int j => obtain ⟨t', rfl⟩ := ry; exact PySem.EqMixed.ne_str_int (fin_bl I q (by simp))
    | str j => obtain ⟨t', rfl⟩ := ry; exact ne_str (fin_bl I q (congrArg not dec_str))
    | _ => exact absurd (show false = true from hs) Bool.false_ne_true
  | byt i =>
    obtain ⟨t, rfl⟩ := rx
    cases y with
    | byt j => obtain ⟨t', rfl⟩ := ry; exact PySem.W.ne_bytes (fin_bl I q (congrArg not dec_byt))
    | _ => exact absurd (show false = true from hs) Bool.false_ne_true
  | _ => cases y <;> exact absurd (show false = true from hs) Bool.false_ne_true

theorem op_lt : OpR X (compareOp .Lt) (rI0 fun i j => .bl (decide (i < j))) := opB0 fun _ _ _ _ _ _ _ q => lt_int q
theorem op_gt : OpR X (compareOp .Gt) (rI0 fun i j => .bl (decide (j < i))) := opB0 fun _ _ _ _ _ _ _ q => gt_int q
theorem op_ge : OpR X (compareOp .GtE) (rI0 fun i j => .bl (decide (j ≤ i))) := opB0 fun _ _ _ _ _ _ _ q => ge_int q
theorem op_lt_str : OpR X (compareOp .Lt) (fun x y H Q => ∃ i j, x = .str i ∧ y = .str j ∧ Q (.bl (decide (i.cps.toList < j.cps.toList))) H) := by
  intro pins s σ H x y v u Q I rx ry h
  obtain ⟨i, j, rfl, rfl, q⟩ := h
  obtain ⟨t, rfl⟩ := rx
  obtain ⟨t', rfl⟩ := ry
  exact lt_str (fin_bl I q rfl)
/-- is None, is not None: the right side a value none -/
theorem op_isN : OpR X (compareOp .Is) (fun x y H Q => y = .non ∧ Q (.bl (decide (x = .non))) H) := by
  intro pins s σ H x y v u Q I rx ry h
  obtain ⟨rfl, q⟩ := h
  cases ry
  refine is_none_gen (fin_bl I q ?_)
  cases x <;> first
    | (cases rx; rfl)
    | (obtain ⟨t, rfl⟩ := rx; rfl)
theorem op_notN : OpR X (compareOp .IsNot) (fun x y H Q => y = .non ∧ Q (.bl (!decide (x = .non))) H) := by
  intro pins s σ H x y v u Q I rx ry h
  obtain ⟨rfl, q⟩ := h
  cases ry
  refine isnot_none_gen (fin_bl I q ?_)
  cases x <;> first
    | (cases rx; rfl)
    | (obtain ⟨t, rfl⟩ := rx; rfl)

/-- is, is not of two objects that are tracked lists or instances -/
def isObj : HO → Bool
  | .lst _ => true
  | .ins _ _ _ => true
  | _ => false
/-- two rules for one operation: by cases -/
theorem OpR.or {f : Value → Value → Sem Value} {r r' : R2} (h : OpR X f r) (h' : OpR X f r') : OpR X f (fun x y H Q => r x y H Q ∨ r' x y H Q) := by
  intro pins s σ H x y v u Q I rx ry q
  rcases q with q | q
  · exact h pins s σ H x y v u Q I rx ry q
  · exact h' pins s σ H x y v u Q I rx ry q

theorem nomark (b : Expr) {op : CmpOp} (h : op ≠ .In := by decide) (h2 : op ≠ .NotIn := by decide) : behindInMarks op b = false := by
  have e1 : (op == CmpOp.In) = false := by cases op <;> first | rfl | exact absurd rfl h
  have e2 : (op == CmpOp.NotIn) = false := by cases op <;> first | rfl | exact absurd rfl h2
  cases b <;> simp [behindInMarks, e1, e2]
/-- a comparison as a value; hm: nomark b, or (for in, not in) by with_unfolding_all rfl -/
theorem pe_cmpR {op : CmpOp} {r : R2} (ho : OpR X (compareOp op) r) (ha : PE X a ta) (hb : PE X b tb) (hm : behindInMarks op b = false) : PE X (.Compare a [op] [b] pos) (tOp r ta tb) := by
  intro pins s σ H Q I h
  exact wpAny_Compare1 (binT ha hb I h fun v u s2 x y H2 I2 rx ry q => ho pins s2 σ H2 x y v u Q I2 rx ry q) hm
/-- a reading of a value as a test -/
def tTest (t : TE) : TT := fun σ H Q => t σ H fun x H' => ∃ k, x = .bl k ∧ Q k H'
theorem pt_cmpR {op : CmpOp} {r : R2} (ho : OpR X (compareOp op) r) (ha : PE X a ta) (hb : PE X b tb) (hm : behindInMarks op b = false) : PT X (.Compare a [op] [b] pos) (tTest (tOp r ta tb)) := by
  intro pins s σ H Q I h
  refine wpAny_isTrue_Compare1 (thn (ha pins s σ H _ I h) fun v s1 ⟨x, H1, I1, r1, q1⟩ => thn (hb pins s1 σ H1 _ I1 q1) fun u s2 ⟨y, H2, I2, r2, q2⟩ =>
    thn (ho pins s2 σ H2 x y v u _ I2 r1 r2 q2) fun c s3 ⟨z, H3, I3, r3, k, e, q3⟩ => ?_) hm
  subst e
  cases r3
  exact wpAny_truthy_bool ⟨H3, I3, q3⟩
/-- a op1 b op2 c -/
def tChain (r r' : R2) (ta tb tc : TE) : TE := fun σ H Q => ta σ H fun x H1 => tb σ H1 fun y H2 => r x y H2 fun z H3 => ∃ k, z = .bl k ∧
  (if k = true then tc σ H3 fun w' H4 => r' y w' H4 Q else Q (.bl false) H3)
/-! ### truth -/
/-- a value's truth by the abstract heap -/
def TruV (K : PySem.W.Frag) (x : V) (H : Hp) (k : Bool) : Prop :=
  match x with
  | .non => k = false
  | .bl b => k = b
  | .int i => k = (i != 0)
  | .str y => y.length ≤ sizeLine ∧ k = ((y.length : Int) != 0)
  | .byt y => y.size ≤ sizeLine ∧ k = ((y.size : Int) != 0)
  | .ref p => (∃ xs, SqL K H p xs ∧ k = !xs.isEmpty) ∨ (∃ xs, SqT K H p xs ∧ k = !xs.isEmpty) ∨ ∃ kvs, H p = some (.dK kvs) ∧ k = !kvs.isEmpty
  | _ => False
theorem isEmpty_kv {κ : Type} {kvs : List (κ × V)} {vs : List (κ × Value)} (r : KV kvs vs) : (!vs.isEmpty) = !kvs.isEmpty := by
  cases r <;> rfl
theorem isEmpty_of {xs : List V} {its : List Value} (r : Vals xs its) : (!its.toArray.isEmpty) = !xs.isEmpty := by
  cases r <;> simp
theorem line63 : (sizeLine : Nat) < 2 ^ 63 := by rw [sizeLine_eq]; decide
theorem tru_ok : TruR X (fun x H Q => ∃ k, TruV X.K x H k ∧ Q k H) := by
  intro pins s σ H x v Q I rx h
  obtain ⟨k, e, q⟩ := h
  have hl := line63
  have hs : sizeLine = 16777216 := sizeLine_eq
  cases x with
  | non =>
    cases rx
    have e' : k = false := e
    subst e'
    exact truthy_none ⟨H, I, q⟩
  | bl b =>
    cases rx
    have e' : k = b := e
    subst e'
    exact wpAny_truthy_bool ⟨H, I, q⟩
  | int i =>
    obtain ⟨t, rfl⟩ := rx
    have e' : k = (i != 0) := e
    subst e'
    exact PySem.P.truthy_int ⟨H, I, q⟩
  | str y =>
    obtain ⟨t, rfl⟩ := rx
    obtain ⟨hy, e'⟩ : y.length ≤ sizeLine ∧ k = ((y.length : Int) != 0) := e
    subst e'
    exact PySem.P.truthy_str (by omega) ⟨H, I.tok _, q⟩
  | byt y =>
    obtain ⟨t, rfl⟩ := rx
    obtain ⟨hy, e'⟩ : y.size ≤ sizeLine ∧ k = ((y.size : Int) != 0) := e
    subst e'
    exact PySem.W.truthy_bytes (by omega) ⟨H, I.tok _, q⟩
  | ref p =>
    cases rx
    have e' : (∃ xs, SqL X.K H p xs ∧ k = !xs.isEmpty) ∨ (∃ xs, SqT X.K H p xs ∧ k = !xs.isEmpty) ∨ ∃ kvs, H p = some (.dK kvs) ∧ k = !kvs.isEmpty := e
    rcases e' with ⟨xs, hx, e'⟩ | ⟨xs, hx, e'⟩ | ⟨kvs, hx, e'⟩
    · subst e'
      obtain ⟨its, r, pl, hz⟩ := I.list hx
      have hlen := r.length
      exact wpAny_truthy_list pl.isList (by simp only [List.size_toArray]; omega) ⟨H, I.tok _, by rw [isEmpty_of r]; exact q⟩
    · subst e'
      obtain ⟨its, r, pl, hz⟩ := I.tuple hx
      have hlen := r.length
      exact truthy_tuple pl (by simp only [List.size_toArray]; omega) ⟨H, I.tok _, by rw [isEmpty_of r]; exact q⟩
    · subst e'
      obtain ⟨hz, hS, vs, r, m⟩ : kvs.length ≤ sizeLine ∧ (p == sysModules) = false ∧ ∃ vs, KV kvs vs ∧ s.heap.DictOf (mixKind X.prog X.w) p vs := I.hok p _ hx
      have hlen : kvs.length = vs.length := Paired.length r
      exact wpAny_truthy_dict hS m (by omega) ⟨H, I.tok _, by rw [isEmpty_kv r]; exact q⟩
  | _ => exact (show False from e).elim
/-- any expression whose test is its value's truth (a name, a call, a subscript, a field ..: he by fun _ => rfl) -/
theorem pt_truth (ha : PE X a ta) (he : ∀ whole, isTrue a X.env whole = (do let v ← whole; standAt a.pos; holding [v] (truthy v))) :
    PT X a (fun σ H Q => ta σ H fun x H' => ∃ k, TruV X.K x H' k ∧ Q k H') := by
  intro pins s σ H Q I h
  exact isTrue_plain (thn (ha pins s σ H _ I h) fun v s1 ⟨x, H1, I1, r1, q1⟩ => tru_ok pins s1 σ H1 x v Q I1 r1 q1) (he _)

/-! ### strs and bytes -/
theorem op_add_str : OpR X (binaryOp .Add) (fun x y H Q => ∃ i j, x = .str i ∧ y = .str j ∧ i.length + j.length ≤ sizeLine ∧ Q (.str (i ++ j)) H) := by
  intro pins s σ H x y v u Q I rx ry h
  obtain ⟨i, j, rfl, rfl, hz, q⟩ := h
  obtain ⟨t, rfl⟩ := rx
  obtain ⟨t', rfl⟩ := ry
  exact add_str (fun t' tk => ⟨.str (i ++ j), H, I.tok _, ⟨_, rfl⟩, q⟩) hz
def PlainIxT (b : Expr) : Prop := ∀ o i, subscripted b false o i = operate [o, i] (getItem o i)
/-! ### scalar builtins, by CallR -/
theorem vals1 {x : V} {us : List Value} (r : Vals [x] us) : ∃ u, us = [u] ∧ RelV x u := by
  cases r with
  | cons r1 r2 => cases r2; exact ⟨_, rfl, r1⟩
theorem vals2 {x y : V} {us : List Value} (r : Vals [x, y] us) : ∃ u w', us = [u, w'] ∧ RelV x u ∧ RelV y w' := by
  cases r with
  | cons r1 r2 =>
    cases r2 with
    | cons r3 r4 => cases r4; exact ⟨_, _, rfl, r1, r3⟩
theorem call_abs : CallR X (.builtin "abs") (fun xs H Q => ∃ i, xs = [.int i] ∧ Q (.int (if i < 0 then -i else i)) H) := by
  intro pins s σ H xs us Q I r h
  obtain ⟨i, rfl, q⟩ := h
  obtain ⟨u, rfl, t, rfl⟩ := vals1 r
  exact call_abs_int fun u tk => ⟨.int (if i < 0 then -i else i), H, I.tok _, ⟨_, rfl⟩, q⟩
theorem call_min2 (hc : X.calm = true) : CallR X (.builtin "min") (fun xs H Q => ∃ i j, xs = [.int i, .int j] ∧ Q (.int (if j < i then j else i)) H) := by
  intro pins s σ H xs us Q I r h
  obtain ⟨i, j, rfl, q⟩ := h
  obtain ⟨u, w', rfl, ⟨t, rfl⟩, ⟨t', rfl⟩⟩ := vals2 r
  refine min_two_ints (I.ok.hd hc) fun h' tk k => ⟨_, H, I.kept k, ?_, q⟩
  by_cases hj : j < i
  · rw [if_pos hj, if_pos hj]; exact ⟨_, rfl⟩
  · rw [if_neg hj, if_neg hj]; exact ⟨_, rfl⟩
theorem call_int1 : CallR X (.type "int") (fun xs H Q => (∃ i, xs = [.int i] ∧ Q (.int i) H) ∨ ∃ k, xs = [.bl k] ∧ Q (.int (if k then 1 else 0)) H) := by
  intro pins s σ H xs us Q I r h
  rcases h with ⟨i, rfl, q⟩ | ⟨k, rfl, q⟩
  · obtain ⟨u, rfl, t, rfl⟩ := vals1 r
    exact call_int_int ⟨.int i, H, I, ⟨_, rfl⟩, q⟩
  · obtain ⟨u, rfl, r1⟩ := vals1 r
    cases r1
    exact call_int_bool ⟨.int (if k then 1 else 0), H, I.tok _, ⟨_, rfl⟩, q⟩
/-- len of a str, a bytes, a list, a tuple -/
def LenV (K : PySem.W.Frag) (x : V) (H : Hp) (n : Nat) : Prop :=
  match x with
  | .str y => y.length ≤ sizeLine ∧ n = y.length
  | .byt y => y.size ≤ sizeLine ∧ n = y.size
  | .ref p => (∃ xs, SqL K H p xs ∧ n = xs.length) ∨ ∃ xs, SqT K H p xs ∧ n = xs.length
  | _ => False
end
end L2

namespace L2
open PySem PySem.Spec PyProof.Rows

/-! ### an instance, its attributes a map -/
structure ObjM (h : Heap) (x dx C : Addr) (mA : Str → Option Value) : Prop where
  obj : h.get? x = some (PySem.W.instObj C dx)
  ns : h.Ns1 dx mA
  ne : dx ≠ x

section
variable {prog : Program} {w : World} {A : Around} {E : Value → Shared → Prop} {s : Shared} {K : PySem.W.Frag} {x dx C f : Addr} {mA : Str → Option Value} {name : Str} {v : Value}

end

/-! ### the attributes as a list of pairs -/
def putF (f : Str) (v : V) : List (Str × V) → List (Str × V)
  | [] => [(f, v)]
  | (g, x) :: r => if g = f then (g, v) :: r else (g, x) :: putF f v r
theorem RelO.some_of {v : V} {o : Option Value} (r : RelO (some v) o) : ∃ u, o = some u ∧ RelV v u := by
  cases o with
  | none => exact (show False from r).elim
  | some u => exact ⟨u, rfl, r⟩
section
variable {P : Program} {w : World} {H H' : Hp} {h h' : Heap} {a C dx : Addr} {fs fs' : List (Str × V)}
end

/-! ### what of the text a class must have -/
structure Cls (K : PySem.W.Frag) (C : Addr) : Prop where
  pg : PySem.W.plainGet K C Str.empty = true
  hd : PySem.W.hasDictIn K C = true
  po : PySem.W.plainOver K C = true
  sa : PySem.W.findIn K (.ref C) "__setattr__" = some (some (.builtin "object.__setattr__"))
theorem Cls.get {K : PySem.W.Frag} {C : Addr} (c : Cls K C) (f : Str) : PySem.W.plainGet K C f = true := c.pg
/-- no class of it has the name -/
def NoAttr (K : PySem.W.Frag) (C : Addr) (f : Str) : Prop := PySem.W.findIn K (.ref C) f = some none
/-- a constant of the class -/
structure Con (K : PySem.W.Frag) (C : Addr) (f : Str) (v : V) (u : Value) : Prop where
  at_ : PySem.W.findIn K (.ref C) f = some (some u)
  rel : RelV v u
  get : PySem.W.specialIn K u "__get__" = some none
  cp : PySem.W.copiedNames.contains f = false
/-- a method: a plain def of the class or of one above it -/
structure Meth (K : PySem.W.Frag) (C : Addr) (m : Str) (f : Addr) : Prop where
  at_ : PySem.W.findIn K (.ref C) m = some (some (.ref f))
  fn : PySem.W.isFn K (.ref f) = true
  kp : PySem.W.keepIn K (.ref f) = true

section
variable {X : Cx} {pins : List (Addr × Obj)} {σ : St} {H : Hp} {s : Shared} {a C dx : Addr} {fs : List (Str × V)} {f : Str} {v : V} {A : Around} {E : Value → Shared → Prop}

end

/-! ### readings and rules -/
/-- e.f, an attribute of the instance -/
def tFld (K : PySem.W.Frag) (ta : TE) (f : Str) : TE := fun σ H Q => ta σ H fun x H1 => ∃ a C dx fs v, x = .ref a ∧ H1 a = some (.ins C dx fs) ∧ Cls K C ∧ NoAttr K C f ∧ fs.lookup f = some v ∧ Q v H1
/-- e.f, a constant of the class -/
def tCon (K : PySem.W.Frag) (ta : TE) (f : Str) : TE := fun σ H Q => ta σ H fun x H1 => ∃ a C dx fs v u, x = .ref a ∧ H1 a = some (.ins C dx fs) ∧ Cls K C ∧ Con K C f v u ∧ fs.lookup f = none ∧ Q v H1
/-- e.f = value -/
def sFld (K : PySem.W.Frag) (ta tv : TE) (f : Str) : TS := fun D σ H => tv σ H fun y H1 => ta σ H1 fun x H2 => ∃ a C dx fs, x = .ref a ∧ H2 a = some (.ins C dx fs) ∧ Cls K C ∧ NoAttr K C f ∧ fs.length < 1000 ∧
  D.nx σ (upd H2 a (.ins C dx (putF f y fs)))
/-- an augmented operator on two values -/
def InOp (X : Cx) (op : Operator) (rd : V → V → Hp → VK → Prop) : Prop :=
  ∀ (pins : List (Addr × Obj)) (s : Shared) (σ : St) (H : Hp) (x y : V) (u v : Value) (Q : VK), Inv X pins σ H s → RelV x u → RelV y v → rd x y H Q → wpAny (model X.prog X.w) X.A (inplaceOp op u v) (EP X pins σ Q) X.xe s
/-- e.f op= value -/
def sFldAug (K : PySem.W.Frag) (ta tv : TE) (rd : V → V → Hp → VK → Prop) (f : Str) : TS := fun D σ H => ta σ H fun x H1 => ∃ a C dx fs v, x = .ref a ∧ H1 a = some (.ins C dx fs) ∧ Cls K C ∧ NoAttr K C f ∧ fs.lookup f = some v ∧
  tv σ H1 fun y H2 => rd v y H2 fun z H3 => ∃ dx' fs', H3 a = some (.ins C dx' fs') ∧ fs'.length < 1000 ∧ D.nx σ (upd H3 a (.ins C dx' (putF f z fs')))

section
variable {X : Cx} {o e value : Expr} {f : Str} {pos pos' tpos : Pos} {ta tv : TE}
def rAdd : V → V → Hp → VK → Prop := fun x y H Q => ∃ i j, x = .int i ∧ y = .int j ∧ Q (.int (i + j)) H
def rSub : V → V → Hp → VK → Prop := fun x y H Q => ∃ i j, x = .int i ∧ y = .int j ∧ Q (.int (i - j)) H
end

/-! ### isinstance -/
section
variable {X : Cx} {pins : List (Addr × Obj)} {σ : St} {H : Hp} {s : Shared} {A : Around} {E : Value → Shared → Prop} {Q : Value → Shared → Prop} {c : Value} {b : Bool}
/-- the type of a value, as the fragment's deciders take it; for an instance its class -/
inductive TyOf (K : PySem.W.Frag) (H : Hp) : V → Value → Prop where
  | non : TyOf K H .non (.type "NoneType")
  | bl (x : Bool) : TyOf K H (.bl x) (.type "bool")
  | int (i : Int) : TyOf K H (.int i) (.type "int")
  | str (x : Str) : TyOf K H (.str x) (.type "str")
  | flt (x : UInt64) : TyOf K H (.flt x) (.type "float")
  | lst {a : Addr} {xs : List V} (e : H a = some (.lst xs)) : TyOf K H (.ref a) (.type "list")
  | frz {a : Addr} {o : Obj} {xs : List V} (e : H a = some (.frz o (.lst xs))) : TyOf K H (.ref a) (.type "list")
  | tup {a : Addr} {xs : List V} (e : H a = some (.tup xs)) : TyOf K H (.ref a) (.type "tuple")
  | dK {a : Addr} {kvs : List (Key × V)} (e : H a = some (.dK kvs)) : TyOf K H (.ref a) (.type "dict")
  | dT {a : Addr} {kvs : List (List Key × V)} (e : H a = some (.dT kvs)) : TyOf K H (.ref a) (.type "dict")
  | ins {a C dx : Addr} {fs : List (Str × V)} (e : H a = some (.ins C dx fs)) (cl : Cls K C) (ha : PySem.W.findIn K (.ref C) "__class__" = some (some (.builtin "object.__class__")))
      (hn : PySem.W.specialIn K (.builtin "object.__class__") "__get__" = some (some (.builtin "getset_descriptor.__get__"))) (htk : PySem.W.takesIn K (.builtin "object.__class__") = some true)
      (hm : PySem.W.mroIn K C (.type "object") = some true) : TyOf K H (.ref a) (.ref C)
end
end L2

namespace L2
open PySem PySem.Spec PyProof.Rows

/-! ### room -/
structure Room (k : Nat) (A : Around) : Prop where
  hd : A.handled = none
  dp : A.depth + 3 * k + 5 < recursionLimit
  un : A.units + 16 * k + 200 < cLine
theorem Room.mono {j k : Nat} {A : Around} (r : Room k A) (h : j ≤ k) : Room j A := ⟨r.hd, by have := r.dp; omega, by have := r.un; omega⟩
theorem Room.deeper {k : Nat} {A : Around} (r : Room (k + 1) A) (env : Env) : Room k (A.deeper env) :=
  ⟨r.hd, by have := r.dp; show A.depth + 1 + 3 * k + 5 < _; omega, by have := r.un; show A.units + 3 + 16 * k + 200 < _; omega⟩
theorem Room.depth {k : Nat} {A : Around} (r : Room k A) : A.depth < recursionLimit := by have := r.dp; omega
theorem Room.units {k : Nat} {A : Around} (r : Room k A) : A.units + 64 < cLine := by have := r.un; omega
theorem Room.units0 {k : Nat} {A : Around} (r : Room k A) : A.units < cLine := by have := r.un; omega

/-! ### argument lists and displays -/
def tNil : TA := fun _ H Q => Q [] H
def tCons (ta : TE) (tr : TA) : TA := fun σ H Q => ta σ H fun x H1 => tr σ H1 fun xs H2 => Q (x :: xs) H2
section
variable {X : Cx} {e : Expr} {es : List Expr} {te : TE} {t : TA} {pos : Pos}
theorem pa_nil : PA X [] tNil := fun _ _ _ _ H Q I h => Calls.spliced_nil ⟨[], H, I, .nil, h⟩
theorem pa_cons (ha : PE X e te) (hr : PA X es t) (hs : starEach (e :: es) X.env = (false, eval e X.env) :: starEach es X.env := by rfl) : PA X (e :: es) (tCons te t) := by
  intro pos pins s σ H Q I h
  rw [hs]
  show wpAny _ _ (spliced ((false, eval e X.env) :: backTo pos (starEach es X.env))) _ _ s
  refine Calls.spliced_cons (thn (ha pins s σ H _ I h) fun u s1 ⟨x, H1, I1, r1, q1⟩ => ?_)
  exact thn (hr pos pins s1 σ H1 _ I1 q1) fun us s2 ⟨xs, H2, I2, r2, q2⟩ => ⟨x :: xs, H2, I2, .cons r1 r2, q2⟩

/-- a tuple, a list of written items -/
def tTup (t : TA) : TE := fun σ H Q => t σ H fun xs H1 => xs.length ≤ sizeLine ∧ ∀ p, H1 p = none → Q (.ref p) (upd H1 p (.tup xs))
def tLst (t : TA) : TE := fun σ H Q => t σ H fun xs H1 => xs.length ≤ sizeLine ∧ ∀ p, H1 p = none → Q (.ref p) (upd H1 p (.lst xs))
theorem pe_tup {x1} (h : PA X es t) : PE X (.Tuple es x1 pos) (tTup t) := by
  intro pins s σ H Q I hq
  refine wpAny_Tuple_spliced (thn (h pos pins s σ H _ I hq) fun us s1 ⟨xs, H1, I1, r, z, q⟩ => ⟨by rw [← r.length]; exact z, ?_⟩)
  have hf : H1 s1.heap.objs.size = none := I1.hok.fresh (Nat.le_refl _)
  refine ⟨.ref s1.heap.objs.size, upd H1 s1.heap.objs.size (.tup xs), I1.laid (t' := s1.toks) (fun b u e => Heap.get?_push_of_some _ e) (Nat.le_refl _) ?_, rfl, q _ hf⟩
  exact ⟨z, us, r, ⟨_, Heap.get?_push_size _ rfl, rfl, _, rfl⟩⟩
theorem pe_lst (h : PA X es t) : PE X (.List es pos) (tLst t) := by
  intro pins s σ H Q I hq
  refine wpAny_List_spliced (thn (h pos pins s σ H _ I hq) fun us s1 ⟨xs, H1, I1, r, z, q⟩ => ⟨by rw [← r.length]; exact z, ?_⟩)
  have hf : H1 s1.heap.objs.size = none := I1.hok.fresh (Nat.le_refl _)
  refine ⟨.ref s1.heap.objs.size, upd H1 s1.heap.objs.size (.lst xs), I1.laid (t' := s1.toks) (fun b u e => Heap.get?_push_of_some _ e) (Nat.le_refl _) ?_, rfl, q _ hf⟩
  exact ⟨z, us, 0, r, Heap.get?_push_size _ rfl⟩
end

/-! ### what a def promises -/
/-- a def's promise: the bound arguments in the parameters' order, the heap, the wanted end, the wanted exception -/
abbrev Sp := List V → Hp → VK → XK → Prop
/-- how an exception lies behind a call (file 08 gives it): the callers' frames, abstract heap and state ahead of the call, the wish, the exception, the state -/
abbrev CXT := List Env → Hp → Shared → XK → Value → Shared → Prop

/-- the state at a call -/
structure Env0 (P : Program) (w : World) (K : PySem.W.Frag) (mg : Str → Option Value) (base : Heap) (A : Around) (outer : List Env) (s : Shared) (H : Hp) : Prop where
  frames : A.frames = some outer
  mod : Mod K mg base
  bs : ∀ b o, base.get? b = some o → s.heap.get? b = some o ∧ H b = none
  bsz : base.objs.size ≤ s.heap.objs.size
  funs : s.heap.FunFrames base outer
  frf : ∀ b ∈ frs outer, H b = none
  hok : HOk P w H s.heap
  bare : AllBare s.gens
/-- a call's end -/
def CE (outer : List Env) (P : Program) (w : World) (H : Hp) (s : Shared) (Q : VK) (u : Value) (s' : Shared) : Prop :=
  ∃ v H', s'.os = s.os ∧ AllBare s'.gens ∧ Un (frs outer) [] H H' s.heap s'.heap ∧ HOk P w H' s'.heap ∧ RelV v u ∧ Q v H'
def CR (CX : CXT) (outer : List Env) (P : Program) (w : World) (H : Hp) (s : Shared) (Q : VK) (E : XK) (r : Result) (s' : Shared) : Prop :=
  match r with
  | .ok (.ret u) => CE outer P w H s Q u s'
  | .ok _ => False
  | .error e => CX outer H s E e s'
structure FnOk (P : Program) (w : World) (K : PySem.W.Frag) (mg : Str → Option Value) (base : Heap) (CX : CXT) (k : Nat) (f : Addr) (fd : FuncData) (ps : List Str) (sp : Sp) : Prop where
  len : ∀ vs H Q E, sp vs H Q E → vs.length = ps.length
  run : ∀ (A : Around) (outer : List Env) (s : Shared) (H : Hp) (args : Args) (us : List Value) (vs : List V) (Q : VK) (E : XK), Room k A → Env0 P w K mg base A outer s H → BindsTo s fd args (ps.zip us) → Vals vs us → sp vs H Q E →
    codeAny (model P w) A (.call (.ref f) args) (CR CX outer P w H s Q E) s
theorem FnOk.mono {P : Program} {w : World} {K : PySem.W.Frag} {mg : Str → Option Value} {base : Heap} {CX : CXT} {j k : Nat} {f : Addr} {fd : FuncData} {ps : List Str} {sp : Sp} (F : FnOk P w K mg base CX j f fd ps sp) (h : j ≤ k) :
    FnOk P w K mg base CX k f fd ps sp := ⟨F.len, fun A outer s H args us vs Q E hr => F.run A outer s H args us vs Q E (hr.mono h)⟩
section
variable {X : Cx} {pins : List (Addr × Obj)} {σ : St} {H : Hp} {s s' : Shared}
/-- from a body: what a callee wants -/
theorem Inv.env0 (I : Inv X pins σ H s) : Env0 X.prog X.w X.K X.mg X.base X.A X.stack s H :=
  ⟨I.ok.frames, I.ok.mod, I.bs, Nat.le_trans I.ok.bsz I.sz, I.stack, I.stkFree, I.hok, I.bare⟩
/-- behind a call -/
theorem Inv.after {Q : VK} {u : Value} (I : Inv X pins σ H s) (h : CE X.stack X.prog X.w H s Q u s') : EP X pins σ Q u s' := by
  obtain ⟨v, H', os, bare, un, hok, r, q⟩ := h
  obtain ⟨hh, g, d, t, os'⟩ := s'
  obtain rfl : os' = s.os := os
  exact ⟨v, H', I.call (h' := hh) (g' := g) (d' := d) (t' := t) (ch := []) un hok bare (fun b z => absurd z (by simp)), r, q⟩
end

/-! ### calls -/
/-- f(..): the written arguments, then the defaults dvs; E: what is wanted of an exception -/
def tCall (sp : Sp) (dvs : List V) (E : XK) (t : TA) : TE := fun σ H Q => t σ H fun vs H1 => sp (vs ++ dvs) H1 Q E
/-- o.m(..) of an instance of the class at C -/
def tMeth (C : Addr) (m : Str) (sp : Sp) (dvs : List V) (E : XK) (ta : TE) (t : TA) : TE := fun σ H Q => ta σ H fun x H1 => ∃ a dx fs, x = .ref a ∧ H1 a = some (.ins C dx fs) ∧ fs.lookup m = none ∧
  t σ H1 fun vs H2 => sp (x :: (vs ++ dvs)) H2 Q E
/-- C(..): a new instance and its dict, then __init__ -/
def tMake (C : Addr) (sp : Sp) (dvs : List V) (E : XK) (t : TA) : TE := fun σ H Q => t σ H fun vs H1 => ∀ x dx, H1 x = none → H1 dx = none → dx ≠ x →
  sp (.ref x :: (vs ++ dvs)) (upd (upd H1 dx (.own x)) x (.ins C dx [])) (fun v H2 => v = .non ∧ Q (.ref x) H2) E

/-- how the parameters are bound: us the positional arguments, kw the keywords' values by name, ds the defaults that fill up -/
def Binds (K : PySem.W.Frag) (fd : FuncData) (ps : List Str) (ds : List Value) : Prop :=
  ∀ (s : Shared) (us : List Value), K.In s.heap → (us ++ ds).length = ps.length → BindsTo s fd ⟨us, []⟩ (ps.zip (us ++ ds))
/-- every parameter is given -/
theorem Binds.all {K : PySem.W.Frag} {fd : FuncData} {ps : List Str} (h : ∀ us : List Value, us.length = ps.length → bindArgs fd ⟨us, []⟩ = pure (ps.zip us)) : Binds K fd ps [] := fun s us _ hl => by
  rw [List.append_nil] at hl ⊢
  exact .of_eq (h us hl)

/-- an exception of a callee reaches what this body wants of exceptions -/
def Passes (CX : CXT) (X : Cx) (E : XK) : Prop := ∀ (pins : List (Addr × Obj)) (σ : St) (H : Hp) (s : Shared) (e : Value) (s' : Shared), Inv X pins σ H s → CX X.stack H s E e s' → X.xe e s'

section
variable {X : Cx} {CX : CXT} {k : Nat} {f C : Addr} {fd : FuncData} {ps : List Str} {sp : Sp} {dvs : List V} {ds : List Value} {E : XK} {x m : Str} {p pos apos : Pos} {e o : Expr} {es : List Expr} {ta : TE} {t : TA}

/-- the callee runs -/
theorem run_fn {pins : List (Addr × Obj)} {σ : St} {H : Hp} {s : Shared} {Q : VK} {us : List Value} {vs : List V} (F : FnOk X.prog X.w X.K X.mg X.base CX k f fd ps sp) (hr : Room k X.A) (hb : Binds X.K fd ps ds) (hd : Vals dvs ds) (hx : Passes CX X E)
    (I : Inv X pins σ H s) (r : Vals vs us) (h : sp (vs ++ dvs) H Q E) : wpAny (model X.prog X.w) X.A (call (.ref f) us) (EP X pins σ Q) X.xe s := by
  have r2 : Vals (vs ++ dvs) (us ++ ds) := r.append hd
  have hl : (us ++ ds).length = ps.length := by rw [← r2.length]; exact F.len _ _ _ _ h
  refine wpAny_call (codeAny_mono (F.run X.A X.stack s H ⟨us, []⟩ (us ++ ds) (vs ++ dvs) Q E hr I.env0 (hb s us I.kIn hl) r2 h) fun r s' hq => ?_)
  cases r with
  | error e => exact hx pins σ H s e s' I hq
  | ok fl =>
    cases fl with
    | ret u => exact I.after hq
    | next => exact False.elim hq
    | brk => exact False.elim hq
    | cont => exact False.elim hq

theorem pe_call (F : FnOk X.prog X.w X.K X.mg X.base CX k f fd ps sp) (hr : Room k X.A) (hg : Gl X x) (hm : X.mg x = some (.ref f)) (hk : PySem.W.keepIn X.K (.ref f) = true) (hb : Binds X.K fd ps ds) (hd : Vals dvs ds) (hx : Passes CX X E)
    (ha : PA X (e :: es) t) (hdb : (x == ("__debug__" : Str)) = false := by decide) (he : starEach (e :: es) X.env = (false, eval e X.env) :: starEach es X.env := by rfl) (hpl : (backTo pos (starEach es X.env)).any (·.1) = false := by rfl) :
    PE X (.Call (.Name x p) (e :: es) [] pos) (tCall sp dvs E t) := by
  intro pins s σ H Q I h
  refine wpAny_Call_Name_kw (ld_glob I hg hm ?_ hdb)
  refine PySem.W.callWith_K (h₀ := X.base) I.ok.mod.kin hk (thn (ha pos pins s σ H _ I h) fun us s1 ⟨vs, H1, I1, r, q⟩ => ⟨I1.kIn, ?_⟩) he hpl
  exact run_fn F hr hb hd hx I1 r q
/-- what a class must have to be made -/
structure Mk (K : PySem.W.Frag) (C f : Addr) : Prop where
  makes : PySem.W.makesIn K C = true
  init : PySem.W.findIn K (.ref C) "__init__" = some (some (.ref f))
  fn : PySem.W.isFn K (.ref f) = true
  kp : PySem.W.keepIn K (.ref C) = true

end

/-! ### keywords -/
/-- the values of the keywords, from the left -/
def PK (X : Cx) (kws : List Keyword) (t : TA) : Prop :=
  ∀ (pos : Pos) (pins : List (Addr × Obj)) (s : Shared) (σ : St) (H : Hp) (Q : List V → Hp → Prop), Inv X pins σ H s → t σ H Q → wpAny (model X.prog X.w) X.A (evalAll ((backToKw pos (keywordEach kws X.env)).map (·.2))) (AP X pins σ Q) X.xe s
section
variable {X : Cx} {CX : CXT} {k : Nat} {f C : Addr} {fd : FuncData} {ps ks : List Str} {sp : Sp} {E : XK} {x m : Str} {p pos apos kpos : Pos} {e o : Expr} {es : List Expr} {kws : List Keyword} {te ta : TE} {t tk : TA} {nm : Option Str}
/-- how a call with keywords binds: g puts the positional values us and the keywords' values ws (names ks) in the parameters' order, defaults among them -/
structure KBinds (K : PySem.W.Frag) (fd : FuncData) (ps ks : List Str) (g : List Value → List Value → List Value) (gV : List V → List V → List V) : Prop where
  to : ∀ (s : Shared) (us ws : List Value), K.In s.heap → (g us ws).length = ps.length → BindsTo s fd ⟨us, ks.zip ws⟩ (ps.zip (g us ws))
  rel : ∀ {vs : List V} {us : List Value} {zs : List V} {ws : List Value}, Vals vs us → Vals zs ws → Vals (gV vs zs) (g us ws)
def tCallK (sp : Sp) (gV : List V → List V → List V) (E : XK) (t tk : TA) : TE := fun σ H Q => t σ H fun vs H1 => tk σ H1 fun zs H2 => sp (gV vs zs) H2 Q E
variable {g : List Value → List Value → List Value} {gV : List V → List V → List V}
end

/-! ### a def's body keeps its promise -/
/-- names: the parameters first -/
structure FnScope (N P : List Str) (sc : Scope) : Prop where
  kind : sc.kind = .function
  co : sc.isCoroutine = false
  gen : sc.isGenerator = false
  nd : N.Nodup
  pre : N.take P.length = P
  par : ∀ x ∈ P, sc.names.lookup x = some .local ∨ sc.names.lookup x = some .cell
  nofree : ∀ y ∈ sc.names, y.2 ≠ .free

theorem bindL_out {kindOf : Str → Option NameKind} {x : Str} : ∀ {binds : List (Str × Value)} {m : Str → Option Value}, (∀ v, (x, v) ∉ binds) → bindL kindOf binds m x = m x
  | [], _, _ => rfl
  | (n, v) :: r, m, h => by
    unfold bindL
    rw [bindL_out fun w hw => h w (List.mem_cons_of_mem _ hw)]
    split
    · have : x ≠ n := by rintro rfl; exact h v List.mem_cons_self
      simp [this]
    · rfl
theorem bindC_out {kindOf : Str → Option NameKind} {x : Str} : ∀ {binds : List (Str × Value)} {m : Str → Option Value}, (∀ v, (x, v) ∉ binds) → bindC kindOf binds m x = m x
  | [], _, _ => rfl
  | (n, v) :: r, m, h => by
    unfold bindC
    rw [bindC_out fun w hw => h w (List.mem_cons_of_mem _ hw)]
    split
    · rfl
    · have : x ≠ n := by rintro rfl; exact h v List.mem_cons_self
      simp [this]
theorem bindL_get {kindOf : Str → Option NameKind} {x : Str} {v : Value} : ∀ {P : List Str} {vs : List Value} {i : Nat} {m : Str → Option Value}, P.Nodup → P[i]? = some x → vs[i]? = some v → kindOf x = some .local →
    bindL kindOf (P.zip vs) m x = some v
  | [], _, _, _, _, h, _, _ => by simp at h
  | _ :: _, [], _, _, _, _, h, _ => by simp at h
  | p :: P, w :: vs, 0, m, nd, h1, h2, hk => by
    simp at h1 h2; subst h1; subst h2
    show bindL kindOf ((p, w) :: P.zip vs) m p = _
    unfold bindL
    rw [bindL_out fun v hv => (List.nodup_cons.mp nd).1 (List.of_mem_zip hv).1, if_pos hk]
    simp
  | p :: P, w :: vs, i + 1, m, nd, h1, h2, hk => by
    show bindL kindOf ((p, w) :: P.zip vs) m x = _
    unfold bindL
    exact bindL_get (i := i) (List.nodup_cons.mp nd).2 (by simpa using h1) (by simpa using h2) hk
theorem bindC_get {kindOf : Str → Option NameKind} {x : Str} {v : Value} : ∀ {P : List Str} {vs : List Value} {i : Nat} {m : Str → Option Value}, P.Nodup → P[i]? = some x → vs[i]? = some v → kindOf x ≠ some .local →
    bindC kindOf (P.zip vs) m x = some v
  | [], _, _, _, _, h, _, _ => by simp at h
  | _ :: _, [], _, _, _, _, h, _ => by simp at h
  | p :: P, w :: vs, 0, m, nd, h1, h2, hk => by
    simp at h1 h2; subst h1; subst h2
    show bindC kindOf ((p, w) :: P.zip vs) m p = _
    unfold bindC
    rw [bindC_out fun v hv => (List.nodup_cons.mp nd).1 (List.of_mem_zip hv).1, if_neg hk]
    simp
  | p :: P, w :: vs, i + 1, m, nd, h1, h2, hk => by
    show bindC kindOf ((p, w) :: P.zip vs) m x = _
    unfold bindC
    exact bindC_get (i := i) (List.nodup_cons.mp nd).2 (by simpa using h1) (by simpa using h2) hk

/-- the names' values at the entry -/
def start (N : List Str) (vs : List V) : St := vs.map some ++ List.replicate (N.length - vs.length) none

/-- the context of a def's body, at its entry; an exception leaves the frame, then lies as CX says -/
def cxOf (CX : CXT) (P : Program) (w : World) (K : PySem.W.Frag) (mg : Str → Option Value) (base : Heap) (N : List Str) (qual : Str) (scope : Scope) (f : Addr) (cd : Value) (A : Around) (outer : List Env) (s : Shared) (H : Hp) (E : XK) : Cx where
  prog := P
  w := w
  K := K
  mg := mg
  base := base
  A := A.deeper (envOfC qual scope s.heap.objs.size f cd)
  N := N
  s₀ := s
  H₀ := H
  env := envOfC qual scope s.heap.objs.size f cd
  outer := outer
  stack := envOfC qual scope s.heap.objs.size f cd :: outer
  ex := []
  calm := true
  fn := fun _ => true
  pn := []
  xe := fun e s' => wpAny (model P w) (A.deeper (envOfC qual scope s.heap.objs.size f cd)) (leaving (envOfC qual scope s.heap.objs.size f cd) e) (fun _ s'' => CX outer H s E e s'') (fun e' s'' => CX outer H s E e' s'') s'

theorem cell_has {sc : Scope} {n : Nat} {x : Str} (h : sc.names.lookup x = some .cell) : ∃ c, (cellsFrom n sc.names []).lookup x = some c := by
  have q := PySem.W.cellsFrom_some sc.names n [] (.inl h)
  exact Option.isSome_iff_exists.mp q

theorem inv_start {CX : CXT} {P : Program} {w : World} {K : PySem.W.Frag} {mg : Str → Option Value} {base : Heap} {N ps : List Str} {qual : Str} {scope : Scope} {f : Addr} {cd : Value} {A : Around} {outer : List Env} {s s1 : Shared} {H : Hp} {E : XK} {us : List Value} {vs : List V}
    (S : FnScope N ps scope) (hd : A.handled = none) (e0 : Env0 P w K mg base A outer s H) (hl : vs.length = ps.length) (r : Vals vs us)
    (x : InCallC s s.heap.objs.size (bindL (envOfC qual scope s.heap.objs.size f cd).kindOf (ps.zip us) fun _ => none) (cellsFrom (s.heap.objs.size + 1) scope.names []) (bindC (envOfC qual scope s.heap.objs.size f cd).kindOf (ps.zip us) fun _ => none) s1) :
    Inv (cxOf CX P w K mg base N qual scope f cd A outer s H E) [] (start N vs) H s1 := by
  have hpl : ps.length ≤ N.length := by have := congrArg List.length S.pre; rw [List.length_take] at this; omega
  obtain ⟨h1, tk, rfl, hk⟩ := x.done
  have noA : ∀ b : Addr, b ∉ (cxOf CX P w K mg base N qual scope f cd A outer s H E).ex := fun b z => absurd (show b ∈ ([] : List Addr) from z) (by simp)
  refine ⟨⟨e0.mod, S.kind, rfl, rfl, Nat.le_refl _, fun y z c h1 h2 => ?_, fun y hy => ?_, fun y c _ h => ?_, fun _ => hd, Around.frames_deeper e0.frames, .inr ⟨rfl, rfl⟩, fun b z => absurd z (noA b), e0.bs, e0.bsz, fun b _ _ => noA b, fun b z => absurd z (noA b), e0.funs, e0.frf⟩,
    rfl, e0.bare, Un.kept hk, ⟨_, x.toInCall.ns, fun i y v h1 h2 h3 => ?_⟩, fun y c h => ⟨_, x.cell y c h⟩, e0.hok.fresh (Nat.le_refl _), fun y c h => ?_, fun p hp => absurd (show p ∈ ([] : List (Addr × Obj)) from hp) (by simp), e0.hok.kept hk, ?_⟩
  · exact name_of_addr x.apart (PySem.mem_of_lookup h1) (PySem.mem_of_lookup h2)
  · have hy : scope.names.lookup y = some .cell ∨ scope.names.lookup y = some .free := hy
    rcases hy with hy | hy
    · exact cell_has hy
    · exact absurd rfl (S.nofree _ (PySem.mem_of_lookup hy))
  · exact Nat.le_of_lt (x.above y c (PySem.mem_of_lookup h))
  · have hi : i < vs.length := by
      unfold start at h2
      by_cases hi : i < vs.length
      · exact hi
      · rw [List.getElem?_append_right (by simpa using hi)] at h2
        rw [List.getElem?_replicate] at h2
        split at h2 <;> cases h2
    have ha : vs[i]? = some v := by
      unfold start at h2
      rw [List.getElem?_append_left (by simpa using hi), List.getElem?_map] at h2
      cases e : vs[i]? with
      | none => rw [e] at h2; cases h2
      | some a => rw [e] at h2; cases h2; rfl
    obtain ⟨u, hu, rv⟩ := r.get ha
    have hp : ps[i]? = some y := by
      rw [← S.pre, List.getElem?_take_of_lt (by omega)]; exact h1
    have ndP : ps.Nodup := by rw [← S.pre]; exact S.nd.sublist (List.take_sublist _ _)
    refine ⟨u, rv, ?_⟩
    rcases S.par y (List.mem_of_getElem? hp) with k | k
    · exact .inl ⟨k, bindL_get ndP hp hu k⟩
    · obtain ⟨c, e⟩ := cell_has (n := s.heap.objs.size + 1) k
      refine .inr ⟨.inl k, c, e, ?_⟩
      have q := x.cell y c e
      rw [bindC_get ndP hp hu (by show scope.names.lookup y ≠ _; rw [k]; decide)] at q
      exact q
  · exact e0.hok.fresh (Nat.le_of_lt (x.above y c (PySem.mem_of_lookup h)))
  · unfold start
    show _ = N.length
    rw [List.length_append, List.length_map, List.length_replicate]
    omega

/-- THE RULE: a def (or a method) of the text, by its body. The body's reading t is chosen for each entry; it is run at the parameters' values -/
theorem fn_of {CX : CXT} {P : Program} {w : World} {K : PySem.W.Frag} {mg : Str → Option Value} {base : Heap} {k : Nat} {f : Addr} {name qual : Str} {params : Arguments} {body : List Stmt} {scope : Scope} {dV kV doc pm cdv ct oc : Value} {an od : Option Addr}
    {osl : Array (Option Value)} {N ps : List Str} {sp : Sp} (lk : K.lookup f = some ⟨oc, od, .func (PySem.W.fnOf name qual params body scope dV kV doc pm an cdv ct), osl⟩) (hcd : PySem.W.codeIn K cdv qual = true) (S : FnScope N ps scope)
    (len : ∀ vs H Q E, sp vs H Q E → vs.length = ps.length)
    (hbody : ∀ (A : Around) (outer : List Env) (s : Shared) (H : Hp) (vs : List V) (Q : VK) (E : XK), Room k (A.deeper (envOfC qual scope s.heap.objs.size f cdv)) → sp vs H Q E →
      ∃ t, PSs (cxOf CX P w K mg base N qual scope f cdv A outer s H E) body t ∧ t { nx := fun _ H' => Q .non H', rt := Q } (start N vs) H) :
    FnOk P w K mg base CX (k + 1) f (PySem.W.fnOf name qual params body scope dV kV doc pm an cdv ct) ps sp := by
  refine ⟨len, fun A outer s H args us vs Q E hr e0 hb r hsp => ?_⟩
  have hl := len _ _ _ _ hsp
  have KX : K.In s.heap := e0.mod.kin.keeps fun b o e => (e0.bs b o e).1
  have lim : s.heap.NoLimit := e0.mod.nolimit.keeps fun b o e => (e0.bs b o e).1
  have hkind : ∀ y ∈ ps.zip us, scope.names.lookup y.1 = some .local ∨ (scope.names.lookup y.1 = some .cell ∧ ((cellsFrom (s.heap.objs.size + 1) scope.names []).lookup y.1).isSome = true) := fun ⟨n, v⟩ hy => by
    rcases S.par n (List.of_mem_zip hy).1 with q | q
    · exact .inl q
    · exact .inr ⟨q, PySem.W.cellsFrom_some _ _ _ (.inl q)⟩
  refine codeAny_call_function hr.depth (KX _ _ lk) rfl S.co S.gen rfl (PySem.W.codeRec_of KX hcd) (hb _ _ _ _ ?_)
  refine wpAny_newFunctionEnv_cells S.kind hkind fun env he s1 x => ?_
  subst he
  refine ⟨lim.keeps x.toInCall.keep, codeAny_func ?_⟩
  obtain ⟨t, ht, hq⟩ := hbody A outer s H vs Q E (hr.deeper _) hsp
  have I : Inv (cxOf CX P w K mg base N qual scope f cdv A outer s H E) [] (start N vs) H s1 := inv_start S hr.hd e0 hl r x
  refine wpAny_mono (ht [] s1 (start N vs) H _ I hq) (fun fl s' hs => ?_) fun e s' hs => hs
  have fin : ∀ {σ' : St} {H' : Hp} {v : V} {u : Value}, Inv (cxOf CX P w K mg base N qual scope f cdv A outer s H E) [] σ' H' s' → RelV v u → Q v H' → CE outer P w H s Q u s' :=
    fun {σ' H' v u} J rv q => ⟨v, H', J.os, J.bare, J.base, J.hok, rv, q⟩
  cases fl with
  | ret u =>
    obtain ⟨v, σ', H', J, rv, q⟩ := hs
    exact fin J rv q
  | next =>
    obtain ⟨σ', H', J, q⟩ := hs
    exact fin (v := V.non) (u := Value.none) J rfl q
  | brk =>
    obtain ⟨_, _, _, q⟩ := hs
    exact False.elim q
  | cont =>
    obtain ⟨_, _, _, q⟩ := hs
    exact False.elim q
end L2

namespace L2
open PySem PySem.Spec PyProof.Rows
section
variable {X : Cx} {x : Str} {p pos : Pos} {e : Expr} {es : List Expr} {t : TA} {id T : String} {r : List V → Hp → VK → Prop}

def tCB (r : List V → Hp → VK → Prop) (t : TA) : TE := fun σ H Q => t σ H fun vs H1 => r vs H1 Q
/-- f(e, ..), f a built-in function -/
theorem pe_callB (hc : CallR X (.builtin id) r) (hg : Gl X x) (hm : X.mg x = none) (hv : bootBuiltins x = some (.builtin id)) (ha : PA X (e :: es) t) (hn : x ≠ "__name__" := by decide) (hdb : (x == ("__debug__" : Str)) = false := by decide)
    (he : starEach (e :: es) X.env = (false, eval e X.env) :: starEach es X.env := by rfl) (hpl : (backTo pos (starEach es X.env)).any (·.1) = false := by rfl) : PE X (.Call (.Name x p) (e :: es) [] pos) (tCB r t) := by
  intro pins s σ H Q I h
  refine wpAny_Call_Name_kw (ld_blt I hg hm hv ?_ hn hdb)
  exact PyProof.Rows.callWith_builtin1 (thn (ha pos pins s σ H _ I h) fun us s1 ⟨vs, H1, I1, r1, q1⟩ => hc pins s1 σ H1 vs us Q I1 r1 q1) he hpl
/-- T(e, ..), T a built-in type -/
theorem pe_callTy (hc : CallR X (.type T) r) (hg : Gl X x) (hm : X.mg x = none) (hv : bootBuiltins x = some (.type T)) (ha : PA X (e :: es) t) (hn : x ≠ "__name__" := by decide) (hdb : (x == ("__debug__" : Str)) = false := by decide)
    (he : starEach (e :: es) X.env = (false, eval e X.env) :: starEach es X.env := by rfl) (hpl : (backTo pos (starEach es X.env)).any (·.1) = false := by rfl) : PE X (.Call (.Name x p) (e :: es) [] pos) (tCB r t) := by
  intro pins s σ H Q I h
  refine wpAny_Call_Name_kw (ld_blt I hg hm hv ?_ hn hdb)
  exact PyProof.Rows.callWith_type1 (thn (ha pos pins s σ H _ I h) fun us s1 ⟨vs, H1, I1, r1, q1⟩ => hc pins s1 σ H1 vs us Q I1 r1 q1) he hpl
end
end L2

namespace HT
open PySem PyProof.Rows

/-- t < u of tuples of ints -/
def lexLt : List Int → List Int → Bool
  | [], [] => false
  | [], _ :: _ => true
  | _ :: _, [] => false
  | x :: xs, y :: ys => if x = y then lexLt xs ys else decide (x < y)
section
open PySem.SeqAt
open PySem.AutoSeq1 (wpAny_loadPart')
open PySem.MeetsSeq PySem.MeetsSeq2 PySem.MeetsSeq3

end

section
variable {prog : Program} {w : World} {A : Around} {E : Value → Shared → Prop} {s : Shared}

/-! ### t[a:b], not the whole -/
/-- a slice's bound as a place among n (d where it is left out) -/
def sIx (n d : Nat) : Option Int → Nat
  | none => d
  | some v => if v < 0 then (v + (n : Int)).toNat else min v.toNat n
theorem sIx_none (n d : Nat) : sIx n d none = d := rfl
theorem sIx_nat (n d k : Nat) : sIx n d (some (k : Int)) = min k n := by
  show (if (k : Int) < 0 then ((k : Int) + (n : Int)).toNat else min (k : Int).toNat n) = min k n
  rw [if_neg (by omega), Int.toNat_natCast]
theorem sIx_le (n d : Nat) (hd : d ≤ n) (o : Option Int) : sIx n d o ≤ n := by
  cases o with
  | none => exact hd
  | some v =>
    show (if v < 0 then (v + (n : Int)).toNat else min v.toNat n) ≤ n
    by_cases hv : v < 0
    · rw [if_pos hv]; omega
    · rw [if_neg hv]; exact Nat.min_le_right _ _
theorem clip_eq (v : Int) (n d : Nat) : (if v < 0 then max (v + (n : Int)) 0 else min v (n : Int)) = ((sIx n d (some v) : Nat) : Int) := by
  show (if v < 0 then max (v + (n : Int)) 0 else min v (n : Int)) = (((if v < 0 then (v + (n : Int)).toNat else min v.toNat n) : Nat) : Int)
  by_cases hv : v < 0
  · simp only [if_pos hv]; omega
  · simp only [if_neg hv]; omega
theorem adjust_gen (lo hi : Option Int) (n : Nat) : Builtin.Slice.sliceAdjust lo hi 1 (n : Int) = (((sIx n 0 lo : Nat) : Int), ((sIx n n hi : Nat) : Int)) := by
  have h1 : ¬ ((1 : Int) < 0) := by omega
  unfold Builtin.Slice.sliceAdjust
  simp only [h1, if_false]
  refine Prod.ext ?_ ?_
  · cases lo with
    | none => rfl
    | some v => exact clip_eq v n 0
  · cases hi with
    | none => rfl
    | some v => exact clip_eq v n n
theorem places_gen (i j : Nat) : Builtin.Slice.slicePlaces (i : Int) (j : Int) 1 = j - i := by
  unfold Builtin.Slice.slicePlaces
  have h1 : (1 : Int) > 0 := by omega
  simp only [h1, if_true, Int.ediv_one]
  split <;> omega
theorem slicePart_ {v : Value} {o : Option Int} {Q : Option Int → Shared → Prop} (p : IsPart v o) (h : Q o s) : wpAny (model prog w) A (Builtin.Slice.slicePartIndex v) Q E s := by
  cases p with
  | none => exact slicePart_none h
  | int i t => exact slicePart_int h
theorem sliceApplied_gen {sl : Addr} {vl vu : Value} {lo hi : Option Int} {n : Nat} {Q : Int × Int × Nat → Shared → Prop} (hs : s.heap.IsSliceOf sl vl vu .none) (pl : IsPart vl lo) (pu : IsPart vu hi)
    (h : Q (((sIx n 0 lo : Nat) : Int), 1, sIx n n hi - sIx n 0 lo) s) : wpAny (model prog w) A (Builtin.Slice.sliceApplied (.ref sl) (pure (n : Int))) Q E s := by
  obtain ⟨os, hos, hcs, hds⟩ := id hs
  unfold Builtin.Slice.sliceApplied Builtin.Slice.sliceFields
  refine wpAny_bind (wpAny_bind (wpAny_field hos hds (x := vl) rfl (wpAny_bind (wpAny_field hos hds (x := vu) rfl (wpAny_bind (wpAny_field hos hds (x := .none) rfl (wpAny_pure ?_)))))))
  refine wpAny_bind (slicePart_none ?_)
  show wpAny _ _ (if ((1 : Int) == 0) = true then _ else _) _ _ s
  rw [if_neg (by decide)]
  refine wpAny_bind (slicePart_ pl (wpAny_bind (slicePart_ pu (wpAny_bind (wpAny_pure ?_)))))
  show wpAny _ _ (match Builtin.Slice.sliceAdjust lo hi 1 (n : Int) with | (lo, hi) => pure (lo, (1 : Int), Builtin.Slice.slicePlaces lo hi 1)) _ _ s
  rw [adjust_gen lo hi n]
  show wpAny _ _ (pure (((sIx n 0 lo : Nat) : Int), (1 : Int), Builtin.Slice.slicePlaces ((sIx n 0 lo : Nat) : Int) ((sIx n n hi : Nat) : Int) 1)) _ _ s
  rw [places_gen]
  exact wpAny_pure h
theorem pick_gen (xs : Array Value) (i k : Nat) : ((List.range k).filterMap fun (m : Nat) => xs[((i : Int) + (m : Int) * 1).toNat]?).toArray = ((xs.toList.drop i).take k).toArray := by
  have e : (fun (m : Nat) => xs[((i : Int) + (m : Int) * 1).toNat]?) = fun m => xs[i + m]? := by
    funext m
    have : ((i : Int) + (m : Int) * 1).toNat = i + m := by omega
    rw [this]
  rw [e]
  have := pick_run xs i k
  rw [List.filterMap_map] at this
  have e2 : ((fun x => xs[x]?) ∘ fun x => i + x) = fun m => xs[i + m]? := rfl
  rw [e2] at this
  rw [this]

theorem getItem_tuple_cut {t sl : Addr} {items : Array Value} {vl vu : Value} {lo hi : Option Int} {Q : Value → Shared → Prop} (ht : IsTup s.heap t items) (hs : s.heap.IsSliceOf sl vl vu .none) (pl : IsPart vl lo) (pu : IsPart vu hi)
    (hw : ¬ (sIx items.size 0 lo = 0 ∧ sIx items.size items.size hi = items.size))
    (h : Q (.ref s.heap.objs.size) { s with heap := s.heap.push { cls := .type "tuple", data := .seq ((items.toList.drop (sIx items.size 0 lo)).take (sIx items.size items.size hi - sIx items.size 0 lo)).toArray } })
    (hsz : items.size ≤ sizeLine) : wpAny (model prog w) A (getItem (.ref t) (.ref sl)) Q E s := by
  have htake : sizeOk (.seq ((items.toList.drop (sIx items.size 0 lo)).take (sIx items.size items.size hi - sIx items.size 0 lo)).toArray) := by
    show ((items.toList.drop (sIx items.size 0 lo)).take (sIx items.size items.size hi - sIx items.size 0 lo)).toArray.size ≤ sizeLine
    rw [List.size_toArray, List.length_take, List.length_drop, Array.length_toList]
    omega
  have hj : sIx items.size items.size hi ≤ items.size := sIx_le _ _ (Nat.le_refl _) hi
  obtain ⟨os, hos, hcs, hds⟩ := id hs
  have hTs : s.TypeIs (.ref sl) "slice" := ⟨os, hos, hcs⟩
  unfold getItem
  try with_reducible refine wpAny_holding ?_
  first | refine wpAny_bind (wpAny_pure ?_) | skip
  refine wpAny_bind (wpAny_sequenceKey ht.typeIs (by decide) ?_)
  refine wpAny_bind (wpAny_callSpecial?_slot (name := Str.ofString "__getitem__") ht.typeIs PyProof.Rows.slot_tuple_getitem
    (wpAny_call_entry PyProof.Rows.slot_tuple_getitem ht.typeIs entry_tuple_getitem ?_ (args_tuple_getitem _ _)))
  show wpAny _ _ (Builtin.Tuple.tupleItemsOf (.ref t) >>= _) _ _ s
  refine wpAny_bind (tupleItemsOf_ ht ?_)
  refine wpAny_bind (wpAny_typeOf hTs ?_)
  rw [if_pos (by decide)]
  refine wpAny_bind (sliceApplied_gen hs pl pu ?_)
  have hno : ¬ ((((sIx items.size 0 lo : Nat) : Int) == 0 && (1 : Int) == 1 && (sIx items.size items.size hi - sIx items.size 0 lo) == items.size) = true) := by
    intro q
    rw [Bool.and_eq_true, Bool.and_eq_true] at q
    have q1 : ((sIx items.size 0 lo : Nat) : Int) = 0 := eq_of_beq q.1.1
    have q2 : sIx items.size items.size hi - sIx items.size 0 lo = items.size := eq_of_beq q.2
    exact hw ⟨by omega, by omega⟩
  show wpAny _ _ (if (((sIx items.size 0 lo : Nat) : Int) == 0 && (1 : Int) == 1 && (sIx items.size items.size hi - sIx items.size 0 lo) == items.size) = true then _ else _) _ _ s
  rw [if_neg hno, pick_gen]
  first
    | exact wpAny_bind (m := Builtin.Tuple.tupleExact _) (wpAny_newObj_type (wpAny_pure ⟨_, rfl, wpAny_pure h⟩) htake)
    | exact wpAny_bind (m := Builtin.Tuple.tupleExact _) (wpAny_newObj_type (wpAny_bind (wpAny_pure (wpAny_pure ⟨_, rfl, wpAny_pure h⟩))) htake)
    | exact wpAny_bind (wpAny_bind (m := Builtin.Tuple.tupleExact _) (wpAny_newObj_type (wpAny_pure (wpAny_pure ⟨_, rfl, wpAny_pure h⟩)) htake))
    | exact wpAny_bind (wpAny_bind (m := Builtin.Tuple.tupleExact _) (wpAny_newObj_type (wpAny_pure ⟨_, rfl, wpAny_pure h⟩) htake))
end
end HT

namespace L2
open PySem PySem.Spec PyProof.Rows

/-! ### the parts of a slice -/
abbrev TO := St → Hp → (Option Int → Hp → Prop) → Prop
/-- a slice's part (left out, or an int) -/
def PO (X : Cx) (e : Option Expr) (t : TO) : Prop :=
  ∀ (pins : List (Addr × Obj)) (s : Shared) (σ : St) (H : Hp) (Q : Option Int → Hp → Prop), Inv X pins σ H s → t σ H Q →
    wpAny (model X.prog X.w) X.A (evalPart e X.env) (fun u s' => ∃ o H', Inv X pins σ H' s' ∧ IsPart u o ∧ Q o H') X.xe s
def tNoPart : TO := fun _ H Q => Q none H
def tPart (t : TE) : TO := fun σ H Q => t σ H fun x H1 => ∃ i, x = .int i ∧ Q (some i) H1

theorem intsAre_of {ns : List Int} : ∀ {us : List Value}, Vals (ns.map V.int) us → IntsAre us ns := by
  induction ns with
  | nil => intro us r; rw [List.map_nil] at r; cases r; exact .nil
  | cons n ns ih =>
    intro us r
    rw [List.map_cons] at r
    cases r with
    | cons r1 r2 =>
      obtain ⟨t, e⟩ := r1
      subst e
      exact .cons n t (ih r2)

section
variable {X : Cx} {e : Expr} {te : TE} {lo hi : Option Expr} {tl th : TO} {pos p2 : Pos}

theorem po_none : PO X none tNoPart := by
  intro pins s σ H Q I h
  rw [evalPart_none]
  exact wpAny_pure ⟨none, H, I, .none, h⟩
theorem po_some (h : PE X e te) : PO X (some e) (tPart te) := by
  intro pins s σ H Q I hw
  rw [evalPart_some]
  refine thn (h pins s σ H _ I hw) fun u s1 ⟨x, H1, I1, r1, q1⟩ => ?_
  obtain ⟨i, rfl, q⟩ := q1
  obtain ⟨t, rfl⟩ := r1
  exact ⟨some i, H1, I1, .int i t, q⟩

/-- what a slice of a value is, by values: the slice object stands at sl -/
def SlR (X : Cx) (r : V → Option Int → Option Int → Hp → VK → Prop) : Prop :=
  ∀ (pins : List (Addr × Obj)) (s : Shared) (σ : St) (H : Hp) (x : V) (v vl vu : Value) (lo hi : Option Int) (sl : Addr) (Q : VK), Inv X pins σ H s → RelV x v → s.heap.IsSliceOf sl vl vu .none → IsPart vl lo → IsPart vu hi → r x lo hi H Q →
    ∃ T id, typeLookup (.type T) "__getitem__" = pure (some (.builtin id)) ∧ s.TypeIs v T ∧ wpAny (model X.prog X.w) X.A (getItem v (.ref sl)) (EP X pins σ Q) X.xe s
theorem SlR.or {r r' : V → Option Int → Option Int → Hp → VK → Prop} (h : SlR X r) (h' : SlR X r') : SlR X (fun x lo hi H Q => r x lo hi H Q ∨ r' x lo hi H Q) := by
  intro pins s σ H x v vl vu lo hi sl Q I rx hs pl pu q
  rcases q with q | q
  · exact h pins s σ H x v vl vu lo hi sl Q I rx hs pl pu q
  · exact h' pins s σ H x v vl vu lo hi sl Q I rx hs pl pu q
def tSl (r : V → Option Int → Option Int → Hp → VK → Prop) (te : TE) (tl th : TO) : TE := fun σ H Q => te σ H fun x H1 => tl σ H1 fun l H2 => th σ H2 fun u H3 => r x l u H3 Q
/-- a[lo:hi], any a -/
theorem pe_slice {r : V → Option Int → Option Int → Hp → VK → Prop} (hr : SlR X r) (he : PE X e te) (hl : PO X lo tl) (hu : PO X hi th) : PE X (.Subscript e (.Slice lo hi none p2) pos) (tSl r te tl th) := by
  intro pins s σ H Q I h
  refine Subscript_ (thn (he pins s σ H _ I h) fun v s1 ⟨x, H1, I1, r1, q1⟩ => ?_)
  refine wpAny_Slice (thn (hl pins s1 σ H1 _ I1 q1) fun vl s2 ⟨l, H2, I2, pl, q2⟩ => thn (hu pins s2 σ H2 _ I2 q2) fun vu s3 ⟨u, H3, I3, pu, q3⟩ => ?_)
  rw [evalPart_none]
  refine wpAny_pure ?_
  have I4 : Inv X pins σ H3 { s3 with heap := s3.heap.push { cls := .type "slice", data := .fields #[vl, vu, .none] } } := I3.kept (t' := s3.toks) fun b ob q => Heap.get?_push_of_some _ q
  obtain ⟨T, id, hT, ht, hg⟩ := hr pins { s3 with heap := s3.heap.push { cls := .type "slice", data := .fields #[vl, vu, .none] } } σ H3 x v vl vu l u s3.heap.objs.size Q I4 r1 (Heap.IsSliceOf.new ..) pl pu q3
  show wpAny (model X.prog X.w) X.A (subscriptTail e (.Slice lo hi none p2) v (.ref s3.heap.objs.size)) (EP X pins σ Q) X.xe { s3 with heap := s3.heap.push { cls := .type "slice", data := .fields #[vl, vu, .none] } }
  exact tail_any (ops := [.ref s3.heap.objs.size, v]) ht hT hg (by with_unfolding_all rfl)

/-- the items of xs[lo:hi] -/
def cutV (xs : List V) (lo hi : Option Int) : List V := (xs.drop (HT.sIx xs.length 0 lo)).take (HT.sIx xs.length xs.length hi - HT.sIx xs.length 0 lo)
theorem cutV_length (xs : List V) (lo hi : Option Int) : (cutV xs lo hi).length ≤ xs.length := by
  unfold cutV
  rw [List.length_take, List.length_drop]
  omega
/-- t[lo:hi], not the whole of it (the whole would be t itself) -/
def rSlT (K : PySem.W.Frag) : V → Option Int → Option Int → Hp → VK → Prop := fun x lo hi H Q => ∃ a xs, x = .ref a ∧ SqT K H a xs ∧
  ¬ (HT.sIx xs.length 0 lo = 0 ∧ HT.sIx xs.length xs.length hi = xs.length) ∧ ∀ p, H p = none → Q (.ref p) (upd H p (.tup (cutV xs lo hi)))
theorem sl_tup : SlR X (rSlT X.K) := by
  intro pins s σ H x v vl vu lo hi sl Q I rx hs pl pu h
  obtain ⟨a, xs, rfl, hx, hw, q⟩ := h
  cases rx
  obtain ⟨its, r, ht, hz⟩ := I.tuple hx
  have hlen : its.toArray.size = xs.length := by rw [List.size_toArray]; exact r.length.symm
  refine ⟨"tuple", _, PyProof.Rows.slot_tuple_getitem.lookup, ht.typeIs, ?_⟩
  refine HT.getItem_tuple_cut ht hs pl pu (by rw [hlen]; exact hw) ?_ (by rw [hlen]; exact hz)
  rw [hlen]
  refine ⟨.ref s.heap.objs.size, _, I.laid (t' := s.toks) (o := .tup (cutV xs lo hi)) (fun b ob q => Heap.get?_push_of_some _ q) (Nat.le_refl _) ?_, rfl, q _ (I.hok.fresh (Nat.le_refl _))⟩
  exact ⟨Nat.le_trans (cutV_length xs lo hi) hz, _, (r.drop (HT.sIx xs.length 0 lo)).take (HT.sIx xs.length xs.length hi - HT.sIx xs.length 0 lo), IsTup.new _ _⟩

/-! ### t < u, t + u -/
def rLtT (K : PySem.W.Frag) : R2 := fun x y H Q => ∃ a b ns ms, x = .ref a ∧ y = .ref b ∧ SqT K H a (ns.map V.int) ∧ SqT K H b (ms.map V.int) ∧ Q (.bl (HT.lexLt ns ms)) H
/-- t + u, t not empty: u empty gives t itself -/
def rCatT (K : PySem.W.Frag) : R2 := fun x y H Q => ∃ a b xs ys, x = .ref a ∧ y = .ref b ∧ SqT K H a xs ∧ SqT K H b ys ∧ xs ≠ [] ∧ xs.length + ys.length ≤ sizeLine ∧
  (ys = [] → Q (.ref a) H) ∧ (ys ≠ [] → ∀ p, H p = none → Q (.ref p) (upd H p (.tup (xs ++ ys))))
end
end L2

namespace L2
open PySem PySem.Spec PyProof.Rows

/-! ### places -/
/-- the place that an index of any sign means -/
def ixN (n : Nat) (i : Int) : Option Nat := if 0 ≤ i then (if i < n then some i.toNat else none) else if -(n : Int) ≤ i then some (i + n).toNat else none
def atI {α : Type} (xs : List α) (i : Int) : Option α := (ixN xs.length i).bind fun j => xs[j]?
theorem ixN_seq {n : Nat} {i : Int} {j : Nat} (h : ixN n i = some j) : seqIndex? i n = some j ∧ j < n ∧ -(n : Int) ≤ i ∧ i < n := by
  unfold ixN at h
  by_cases h0 : 0 ≤ i
  · rw [if_pos h0] at h
    by_cases h1 : i < n
    · rw [if_pos h1] at h
      have e : i.toNat = j := Option.some.inj h
      exact ⟨by rw [seqIndex_of h0 h1, e], by omega, by omega, h1⟩
    · rw [if_neg h1] at h; cases h
  · rw [if_neg h0] at h
    by_cases h1 : -(n : Int) ≤ i
    · rw [if_pos h1] at h
      have e : (i + n).toNat = j := Option.some.inj h
      exact ⟨by rw [seqIndex_neg (by omega) h1, e], by omega, h1, by omega⟩
    · rw [if_neg h1] at h; cases h
theorem atI_get {α : Type} {xs : List α} {i : Int} {v : α} (h : atI xs i = some v) : ∃ j, seqIndex? i xs.length = some j ∧ xs[j]? = some v ∧ j < xs.length ∧ -(xs.length : Int) ≤ i ∧ i < xs.length := by
  unfold atI at h
  cases e : ixN xs.length i with
  | none => rw [e] at h; cases h
  | some j =>
    rw [e] at h
    obtain ⟨h1, h2, h3, h4⟩ := ixN_seq e
    exact ⟨j, h1, h, h2, h3, h4⟩
theorem atI_nat {α : Type} {xs : List α} {j : Nat} {v : α} (h : xs[j]? = some v) : atI xs (j : Int) = some v := by
  have hj : j < xs.length := (List.getElem?_eq_some_iff.mp h).1
  have e : ixN xs.length (j : Int) = some j := by
    unfold ixN
    rw [if_pos (by omega), if_pos (by omega)]; simp
  unfold atI; rw [e]; exact h
/-! ### what may be subscripted -/
/-- what stands as an index of a plain subscript -/
def PlainIx (b : Expr) : Prop := ∀ o i, subscripted b false o i = operate [o, i] (getItem o i)
/-- a subscript by values -/
def IxR (X : Cx) (r : R2) : Prop :=
  ∀ (value slice : Expr) (pins : List (Addr × Obj)) (s : Shared) (σ : St) (H : Hp) (x y : V) (v u : Value) (Q : VK), Inv X pins σ H s → RelV x v → RelV y u → r x y H Q →
    subscripted slice false v u = operate [v, u] (getItem v u) → wpAny (model X.prog X.w) X.A (subscriptTail value slice v u) (EP X pins σ Q) X.xe s
/-- a call of a builtin's method by values: the receiver, the arguments -/
def MtR (X : Cx) (id : String) (r : V → List V → Hp → VK → Prop) : Prop :=
  ∀ (pins : List (Addr × Obj)) (s : Shared) (σ : St) (H : Hp) (x : V) (xs : List V) (v : Value) (us : List Value) (Q : VK), Inv X pins σ H s → RelV x v → Vals xs us → r x xs H Q →
    wpAny (model X.prog X.w) X.A (call (.builtin id) (v :: us)) (EP X pins σ Q) X.xe s
section
variable {X : Cx} {a b : Expr} {ta tb : TE} {pos : Pos}
theorem IxR.or {r r' : R2} (h : IxR X r) (h' : IxR X r') : IxR X (fun x y H Q => r x y H Q ∨ r' x y H Q) := by
  intro value slice pins s σ H x y v u Q I rx ry q hs
  rcases q with q | q
  · exact h value slice pins s σ H x y v u Q I rx ry q hs
  · exact h' value slice pins s σ H x y v u Q I rx ry q hs
theorem MtR.or {id : String} {r r' : V → List V → Hp → VK → Prop} (h : MtR X id r) (h' : MtR X id r') : MtR X id (fun x xs H Q => r x xs H Q ∨ r' x xs H Q) := by
  intro pins s σ H x xs v us Q I rx rs q
  rcases q with q | q
  · exact h pins s σ H x xs v us Q I rx rs q
  · exact h' pins s σ H x xs v us Q I rx rs q
/-- a[b] -/
theorem pe_ix {r : R2} (hr : IxR X r) (ha : PE X a ta) (hb : PE X b tb) (hs : PlainIx b) : PE X (.Subscript a b pos) (tOp r ta tb) := by
  intro pins s σ H Q I h
  exact Subscript_ (binT ha hb I h fun v u s2 x y H2 I2 rx ry q => hr a b pins s2 σ H2 x y v u Q I2 rx ry q (hs _ _))

def rIxL (K : PySem.W.Frag) : R2 := fun x y H Q => ∃ p xs i v, x = .ref p ∧ y = .int i ∧ SqL K H p xs ∧ atI xs i = some v ∧ Q v H
def rIxT (K : PySem.W.Frag) : R2 := fun x y H Q => ∃ p xs i v, x = .ref p ∧ y = .int i ∧ SqT K H p xs ∧ atI xs i = some v ∧ Q v H
def rIxS : R2 := fun x y H Q => ∃ z i c, x = .str z ∧ y = .int i ∧ z.length ≤ sizeLine ∧ atI z.cps.toList i = some c ∧ Q (.str ⟨#[c]⟩) H
theorem ix_list : IxR X (rIxL X.K) := by
  intro value slice pins s σ H x y v u Q I rx ry h hs
  obtain ⟨p, xs, i, z, rfl, rfl, hq, he, q⟩ := h
  cases rx
  obtain ⟨t, rfl⟩ := ry
  obtain ⟨its, r, pl, hz⟩ := I.list hq
  obtain ⟨j, h1, h2, h3, h4, h5⟩ := atI_get he
  obtain ⟨w, ew, rw'⟩ := r.get h2
  have hl := r.length
  have hn := line63
  have fin : EP X pins σ Q w s := ⟨z, H, I, rw', q⟩
  by_cases h0 : 0 ≤ i
  · have hj : i.toNat = j := by
      rw [seqIndex_of h0 h5] at h1
      exact Option.some.inj h1
    exact item_listR pl.isList h0 (by omega) (by rw [hj]; simpa using ew) fin hs
  · have hj : (i + (its.toArray.size : Int)).toNat = j := by
      rw [seqIndex_neg (by omega) h4] at h1
      rw [List.size_toArray, ← hl]
      exact Option.some.inj h1
    exact subscriptTail_builtinR (x := w) pl.isList.typeIs slot_list_getitem.lookup
      (wpAny_getItem_list_neg (Q := fun r s' => r = w ∧ EP X pins σ Q r s') pl.isList (by omega) (by rw [List.size_toArray] <;> omega) (by omega) (by rw [hj]; simpa using ew) ⟨rfl, fin⟩) hs
theorem ix_tup : IxR X (rIxT X.K) := by
  intro value slice pins s σ H x y v u Q I rx ry h hs
  obtain ⟨p, xs, i, z, rfl, rfl, hq, he, q⟩ := h
  cases rx
  obtain ⟨t, rfl⟩ := ry
  obtain ⟨its, r, pl, hz⟩ := I.tuple hq
  obtain ⟨j, h1, h2, h3, h4, h5⟩ := atI_get he
  obtain ⟨w, ew, rw'⟩ := r.get h2
  have hl := r.length
  have hn := line63
  have fin : EP X pins σ Q w s := ⟨z, H, I, rw', q⟩
  exact subscriptTail_builtinR (x := w) pl.typeIs slot_tuple_getitem.lookup
    (getItem_tuple (j := j) (Q := fun r s' => r = w ∧ EP X pins σ Q r s') pl (by omega) (by omega) (by rw [List.size_toArray, ← hl]; exact h1) (by simpa using ew) ⟨rfl, fin⟩) hs
theorem ix_str : IxR X rIxS := by
  intro value slice pins s σ H x y v u Q I rx ry h hs
  obtain ⟨z, i, c, rfl, rfl, hz, he, q⟩ := h
  obtain ⟨t, rfl⟩ := rx
  obtain ⟨t', rfl⟩ := ry
  obtain ⟨j, h1, h2, h3, h4, h5⟩ := atI_get he
  have hl : z.cps.toList.length = z.length := by simp [Str.length]
  rw [hl] at h1 h4 h5
  have hn := line63
  exact tail_any (typeIs_str s z t) slot_str_getitem.lookup (getItem_str (c := c) (by
    have e1 : decide (i < -(2 ^ 63 : Int)) = false := decide_eq_false (by omega)
    have e2 : decide (i ≥ 2 ^ 63) = false := decide_eq_false (by omega)
    rw [e1, e2, Bool.or_false]) (by rw [h1]; simpa using h2) ⟨.str ⟨#[c]⟩, H, I.tok _, ⟨_, rfl⟩, q⟩) hs
/-- list, tuple or str -/
def rIx (K : PySem.W.Frag) : R2 := fun x y H Q => rIxL K x y H Q ∨ rIxT K x y H Q ∨ rIxS x y H Q
/-! ### xs[i] = v, any sign -/
theorem Inv.lst {pins : List (Addr × Obj)} {σ : St} {H : Hp} {s : Shared} {p : Addr} {xs : List V} (I : Inv X pins σ H s) (h : H p = some (.lst xs)) :
    ∃ (its : List Value) (n : Nat), Vals xs its ∧ s.heap.get? p = some { cls := .type "list", data := .seq its.toArray n } ∧ xs.length ≤ sizeLine := by
  obtain ⟨z, its, n, r, e⟩ := I.hok p _ h
  exact ⟨its, n, r, e, z⟩
def rSetL : V → V → V → Hp → (Hp → Prop) → Prop := fun o i v H Q => ∃ p xs k j, o = .ref p ∧ i = .int k ∧ H p = some (.lst xs) ∧ ixN xs.length k = some j ∧ Q (upd H p (.lst (xs.set j v)))
/-! ### slices -/
theorem slice_bounds (lo hi : Option Int) (n : Nat) : (sliceBounds lo hi none n).1 = ((HT.sIx n 0 lo : Nat) : Int) ∧ (sliceBounds lo hi none n).2.1 = ((HT.sIx n n hi : Nat) : Int) ∧ (sliceBounds lo hi none n).2.2 = 1 := by
  refine ⟨?_, ?_, rfl⟩
  · cases lo with
    | none => simp [sliceBounds, HT.sIx]
    | some i =>
      simp only [sliceBounds, HT.sIx, Option.getD_none, show (1 : Int) > 0 by decide, if_true]
      by_cases h : i < 0
      · simp only [h, if_true] <;> omega
      · simp only [h, if_false] <;> omega
  · cases hi with
    | none => simp [sliceBounds, HT.sIx]
    | some i =>
      simp only [sliceBounds, HT.sIx, Option.getD_none, show (1 : Int) > 0 by decide, if_true]
      by_cases h : i < 0
      · simp only [h, if_true] <;> omega
      · simp only [h, if_false] <;> omega
theorem slicePick_cut (its : List Value) (lo hi : Option Int) : slicePick its.toArray lo hi none = ((its.drop (HT.sIx its.length 0 lo)).take (HT.sIx its.length its.length hi - HT.sIx its.length 0 lo)).toArray := by
  obtain ⟨h1, h2, h3⟩ := slice_bounds lo hi its.toArray.size
  unfold slicePick
  rw [h1, h2, h3]
  simp only [sliceRange_one, pick_run, List.size_toArray] <;> rfl
/-- xs[lo:hi] of a list: a new list -/
def rSlL (K : PySem.W.Frag) : V → Option Int → Option Int → Hp → VK → Prop := fun x lo hi H Q => ∃ a xs, x = .ref a ∧ SqL K H a xs ∧ ∀ p, H p = none → Q (.ref p) (upd H p (.lst (cutV xs lo hi)))
theorem sl_list : SlR X (rSlL X.K) := by
  intro pins s σ H x v vl vu lo hi sl Q I rx hs pl pu h
  obtain ⟨a, xs, rfl, hx, q⟩ := h
  cases rx
  obtain ⟨its, r, ht, hz⟩ := I.list hx
  have hlen := r.length
  refine ⟨"list", _, slot_list_getitem.lookup, ht.isList.typeIs, ?_⟩
  refine wpAny_getItem_list_slice ht.isList hs pl pu .none (by simp) ?_ (by rw [List.size_toArray] <;> omega)
  rw [slicePick_cut, ← hlen]
  refine ⟨.ref s.heap.objs.size, _, I.laid (t' := s.toks) (o := .lst (cutV xs lo hi)) (fun b ob q => Heap.get?_push_of_some _ q) (Nat.le_refl _) ?_, rfl, q _ (I.hok.fresh (Nat.le_refl _))⟩
  exact ⟨Nat.le_trans (cutV_length xs lo hi) hz, _, 0, (r.drop (HT.sIx xs.length 0 lo)).take (HT.sIx xs.length xs.length hi - HT.sIx xs.length 0 lo), Heap.get?_push_size _ rfl⟩

/-! ### in, not in: flat items -/
def flatV : V → Bool
  | .non => true
  | .bl _ => true
  | .int _ => true
  | .str _ => true
  | _ => false
/-- == of flat values -/
def eqV : V → V → Bool
  | .non, .non => true
  | .bl a, .bl b => a == b
  | .bl a, .int b => (if a then 1 else 0) == b
  | .int a, .bl b => a == (if b then 1 else 0)
  | .int a, .int b => a == b
  | .str a, .str b => a == b
  | _, _ => false
theorem eqAt_V {A : Around} {s : Shared} {y x : V} {u v : Value} (ry : RelV y u) (rx : RelV x v) (fy : flatV y = true) (fx : flatV x = true) : SeqAt.EqAt A s u v (eqV y x) := by
  cases y with
  | non =>
    cases ry
    cases x with
    | non => cases rx; exact SeqAt.EqAt.same _
    | bl b => cases rx; exact SeqAt.EqAt.none_bool b
    | int b => obtain ⟨t, rfl⟩ := rx; exact SeqAt.EqAt.none_int b t
    | str b => obtain ⟨t, rfl⟩ := rx; exact SeqAt.EqAt.none_str b t
    | _ => exact absurd (show false = true from fx) Bool.false_ne_true
  | bl a =>
    cases ry
    cases x with
    | non => cases rx; exact SeqAt.EqAt.bool_none a
    | bl b => cases rx; exact SeqAt.EqAt.bool_bool a b
    | int b => obtain ⟨t, rfl⟩ := rx; exact SeqAt.EqAt.bool_int a b t
    | str b => obtain ⟨t, rfl⟩ := rx; exact SeqAt.EqAt.bool_str a b t
    | _ => exact absurd (show false = true from fx) Bool.false_ne_true
  | int a =>
    obtain ⟨t', rfl⟩ := ry
    cases x with
    | non => cases rx; exact SeqAt.EqAt.int_none a t'
    | bl b => cases rx; exact SeqAt.EqAt.int_bool a t' b
    | int b => obtain ⟨t, rfl⟩ := rx; exact SeqAt.EqAt.int_int a t' b t
    | str b => obtain ⟨t, rfl⟩ := rx; exact SeqAt.EqAt.int_str a t' b t
    | _ => exact absurd (show false = true from fx) Bool.false_ne_true
  | str a =>
    obtain ⟨t', rfl⟩ := ry
    cases x with
    | non => cases rx; exact SeqAt.EqAt.str_none a t'
    | bl b => cases rx; exact SeqAt.EqAt.str_bool a t' b
    | int b => obtain ⟨t, rfl⟩ := rx; exact SeqAt.EqAt.str_int a t' b t
    | str b => obtain ⟨t, rfl⟩ := rx; exact SeqAt.EqAt.str_str a t' b t
    | _ => exact absurd (show false = true from fx) Bool.false_ne_true
  | _ => exact absurd (show false = true from fy) Bool.false_ne_true
/-- the items' answers, read off the values (a value's own answer does not lean on its token) -/
def eqU (x : V) (u : Value) : Bool := match u with
  | .none => eqV .non x
  | .bool b => eqV (.bl b) x
  | .int i _ => eqV (.int i) x
  | .str z _ => eqV (.str z) x
  | _ => false
theorem eqU_of {x y : V} {u : Value} (r : RelV y u) (f : flatV y = true) : eqU x u = eqV y x := by
  cases y with
  | non => cases r; rfl
  | bl b => cases r; rfl
  | int i => obtain ⟨t, rfl⟩ := r; rfl
  | str z => obtain ⟨t, rfl⟩ := r; rfl
  | _ => exact absurd (show false = true from f) Bool.false_ne_true
theorem mem_eqAt {A : Around} {s : Shared} {x : V} {v : Value} (rx : RelV x v) (fx : flatV x = true) : ∀ {xs : List V} {us : List Value}, Vals xs us → xs.all flatV = true → ∀ u ∈ us, SeqAt.EqAt A s u v (eqU x u)
  | _, _, .nil, _ => fun u hu => by cases hu
  | y :: xs, u :: us, .cons r t, f => fun u' hu => by
    rw [List.all_cons, Bool.and_eq_true] at f
    rcases List.mem_cons.mp hu with rfl | hu
    · rw [eqU_of r f.1]; exact eqAt_V r rx f.1 fx
    · exact mem_eqAt rx fx t f.2 u' hu
def inV (x : V) (xs : List V) : Bool := xs.any fun y => eqV y x
/-- x in a list or tuple of flat items -/
def rIn (K : PySem.W.Frag) (neg : Bool) : R2 := fun x y H Q => ∃ p xs, y = .ref p ∧ (SqL K H p xs ∨ SqT K H p xs) ∧ flatV x = true ∧ xs.all flatV = true ∧ Q (.bl (if neg then !inV x xs else inV x xs)) H
/-! ### len, list(x), tuple(x) of any list or tuple that is read -/
theorem call_len_seq : CallR X (.builtin "len") (fun xs H Q => ∃ p ys, xs = [.ref p] ∧ (SqL X.K H p ys ∨ SqT X.K H p ys) ∧ Q (.int ys.length) H) := by
  intro pins s σ H xs us Q I r h
  obtain ⟨p, ys, rfl, hq, q⟩ := h
  obtain ⟨u, rfl, rx⟩ := vals1 r
  cases rx
  have hn := line63
  rcases hq with hq | hq
  · obtain ⟨its, r', pl, hz⟩ := I.list hq
    have hlen := r'.length
    exact Calls.call_len_list pl.isList (by simp only [List.size_toArray] <;> omega) ⟨.int ys.length, H, I.tok _, ⟨s.toks + 1, by rw [List.size_toArray, hlen]⟩, q⟩
  · obtain ⟨its, r', pl, hz⟩ := I.tuple hq
    have hlen := r'.length
    exact len_tuple pl (by simp only [List.size_toArray] <;> omega) ⟨.int ys.length, H, I.tok _, ⟨s.toks + 1, by rw [List.size_toArray, hlen]⟩, q⟩
theorem CallR.or {f : Value} {r r' : List V → Hp → VK → Prop} (h : CallR X f r) (h' : CallR X f r') : CallR X f (fun xs H Q => r xs H Q ∨ r' xs H Q) := by
  intro pins s σ H xs us Q I rs q
  rcases q with q | q
  · exact h pins s σ H xs us Q I rs q
  · exact h' pins s σ H xs us Q I rs q
theorem call_list_of : CallR X (.type "list") (fun xs H Q => ∃ p ys, xs = [.ref p] ∧ (SqL X.K H p ys ∨ SqT X.K H p ys) ∧ ∀ l, H l = none → Q (.ref l) (upd H l (.lst ys))) := by
  intro pins s σ H xs us Q I r h
  obtain ⟨p, ys, rfl, hq, q⟩ := h
  obtain ⟨u, rfl, rx⟩ := vals1 r
  cases rx
  have fin : ∀ (its : List Value), Vals ys its → ys.length ≤ sizeLine → ∀ (h' : Heap) (c' : Nat), (∀ b o', s.heap.get? b = some o' → h'.get? b = some o') →
      h'.get? s.heap.objs.size = some { cls := .type "list", dict := none, data := .seq its.toArray c', slots := #[] } → EP X pins σ Q (.ref s.heap.objs.size) { s with heap := h' } := fun its r' hz h' c' kp e =>
    ⟨.ref s.heap.objs.size, _, I.laid (t' := s.toks) kp (Nat.le_refl _) (show ObjOk X.prog X.w _ h' _ (.lst ys) from ⟨hz, its, c', r', e⟩), rfl, q _ (I.hok.fresh (Nat.le_refl _))⟩
  rcases hq with hq | hq
  · obtain ⟨its, r', pl, hz⟩ := I.list hq
    have hlen := r'.length
    obtain ⟨o, ho, hc, n, hd⟩ := pl.isList
    exact call_list_seq p (.inl rfl) ho hc hd (fun h' c' kp e => fin its r' hz h' c' kp e) (by simp only [List.size_toArray] <;> omega)
  · obtain ⟨its, r', pl, hz⟩ := I.tuple hq
    have hlen := r'.length
    obtain ⟨o, ho, hc, n, hd⟩ := pl
    exact call_list_seq p (.inr rfl) ho hc hd (fun h' c' kp e => fin its r' hz h' c' kp e) (by simp only [List.size_toArray] <;> omega)
theorem call_tuple_of : CallR X (.type "tuple") (fun xs H Q => ∃ p ys, xs = [.ref p] ∧ ((SqL X.K H p ys ∧ ∀ l, H l = none → Q (.ref l) (upd H l (.tup ys))) ∨ (SqT X.K H p ys ∧ Q (.ref p) H))) := by
  intro pins s σ H xs us Q I r h
  obtain ⟨p, ys, rfl, h⟩ := h
  obtain ⟨u, rfl, rx⟩ := vals1 r
  cases rx
  rcases h with ⟨hq, q⟩ | ⟨hq, q⟩
  · obtain ⟨its, r', pl, hz⟩ := I.list hq
    have hlen := r'.length
    refine call_tuple_list pl.isList (fun h' kp => ?_) (by simp only [List.size_toArray] <;> omega)
    have I1 : Inv X pins σ H { s with heap := h' } := I.kept (t' := s.toks) kp
    have I2 : Inv X pins σ (upd H h'.objs.size (.tup ys)) { s with heap := h'.push { cls := .type "tuple", data := .seq its.toArray } } :=
      I1.laid (t' := s.toks) (fun b o e => Heap.get?_push_of_some _ e) (Nat.le_refl _) (show ObjOk X.prog X.w _ _ _ (.tup ys) from ⟨hz, its, r', IsTup.new _ _⟩)
    exact ⟨.ref h'.objs.size, _, I2, rfl, q _ (I1.hok.fresh (Nat.le_refl _))⟩
  · obtain ⟨its, r', pl, hz⟩ := I.tuple hq
    exact call_tuple_same pl ⟨.ref p, H, I, rfl, q⟩

/-! ### the call of a builtin's method: o.m(..) -/
/-- the value is of that builtin type -/
def tyV (K : PySem.W.Frag) (T : String) (x : V) (H : Hp) : Prop := match x with
  | .str _ => T = "str"
  | .int _ => T = "int"
  | .ref p => (T = "list" ∧ ∃ xs, SqL K H p xs) ∨ (T = "tuple" ∧ ∃ o, K.lookup p = some o ∧ o.cls = .type "tuple" ∧ o.dict = none) ∨
      (T = "dict" ∧ ((∃ kvs, H p = some (.dK kvs)) ∨ ∃ kvs, H p = some (.dT kvs))) ∨ (T = "set" ∧ ∃ S n, H p = some (.set S n))
  | _ => False
theorem tyV_is {pins : List (Addr × Obj)} {σ : St} {H : Hp} {s : Shared} {T : String} {x : V} {v : Value} (I : Inv X pins σ H s) (r : RelV x v) (ty : tyV X.K T x H) :
    s.TypeIs v T ∧ ∀ a, v = .ref a → ∃ ob, s.heap.get? a = some ob ∧ ob.dict = none := by
  cases x with
  | str z =>
    obtain ⟨t, rfl⟩ := r
    cases (show T = "str" from ty)
    exact ⟨typeIs_str s z t, fun _ e => nomatch e⟩
  | int i =>
    obtain ⟨t, rfl⟩ := r
    cases (show T = "int" from ty)
    exact ⟨typeIs_int s i t, fun _ e => nomatch e⟩
  | ref p =>
    cases r
    rcases ty with ⟨rfl, xs, hq⟩ | ⟨rfl, o, hk, hc, hd⟩ | ⟨rfl, hk⟩ | ⟨rfl, S, n, hk⟩
    · obtain ⟨its, _, pl, _⟩ := I.list hq
      refine ⟨pl.isList.typeIs, fun a e => ?_⟩
      cases e
      obtain ⟨o, n, e, c, hd, _⟩ := pl
      exact ⟨o, e, hd⟩
    · refine ⟨⟨o, I.kIn p o hk, hc⟩, fun a e => ?_⟩
      cases e
      exact ⟨o, I.kIn _ o hk, hd⟩
    · have z : ∃ o, s.heap.get? p = some o ∧ o.ExactDict := by
        rcases hk with ⟨kvs, hk⟩ | ⟨kvs, hk⟩
        · obtain ⟨_, _, _, _, o, _, _, e, ex, _⟩ := I.hok p _ hk
          exact ⟨o, e, ex⟩
        · obtain ⟨_, _, _, _, o, _, _, e, ex, _⟩ := I.hok p _ hk
          exact ⟨o, e, ex⟩
      obtain ⟨o, e, ex⟩ := z
      refine ⟨⟨o, e, ex.1⟩, fun a e2 => ?_⟩
      cases e2
      exact ⟨o, e, ex.2.1⟩
    · obtain ⟨o, _, _, _, e, ex, _⟩ := I.hok p _ hk
      refine ⟨⟨o, e, ex.1⟩, fun a e2 => ?_⟩
      cases e2
      exact ⟨o, e, ex.2.1⟩
  | _ => exact False.elim ty
def tBM0 (K : PySem.W.Frag) (T : String) (r : V → List V → Hp → VK → Prop) (to : TE) : TE := fun σ H Q => to σ H fun x H1 => tyV K T x H1 ∧ r x [] H1 Q
def tBM (K : PySem.W.Frag) (T : String) (r : V → List V → Hp → VK → Prop) (to : TE) (t : TA) : TE := fun σ H Q => to σ H fun x H1 => tyV K T x H1 ∧ t σ H1 fun xs H2 => r x xs H2 Q
variable {o e : Expr} {es : List Expr} {to : TE} {t : TA} {name : Str} {apos cpos : Pos} {T id : String} {r : V → List V → Hp → VK → Prop}
theorem pe_bm (pa : PlainAttrs T) (slot : Slot T name id) (hty : typeOf (.builtin id) = pure (.type "method_descriptor")) (hm : MtR X id r) (ho : PE X o to) (ha : PA X (e :: es) t)
    (hbase : attributeBase o name X.env (eval o X.env) = eval o X.env := by rfl)
    (hfew : ((backTo cpos (starEach (e :: es) X.env)).all (fun x => !x.1) && (backToKw cpos (keywordEach [] X.env)).all (fun x => x.1.isSome)
      && decide ((e :: es).length + ([] : List Keyword).length + (if ([] : List Keyword).isEmpty then 0 else 1) < 30)) = true := by rfl)
    (hline : (apos.endLine == cpos.line) = true := by rfl) (hs : starEach (e :: es) X.env = (false, eval e X.env) :: starEach es X.env := by rfl) (hplain : (backTo cpos (starEach es X.env)).any (·.1) = false := by rfl) :
    PE X (.Call (.Attribute o name apos) (e :: es) [] cpos) (tBM X.K T r to t) := by
  intro pins s σ H Q I h
  refine wpAny_Call_method_late hbase hfew hline rfl (thn (ho pins s σ H _ I h) fun v s1 ⟨x, H1, I1, r1, ty, q1⟩ => ?_)
  obtain ⟨h1, h2⟩ := tyV_is I1 r1 ty
  refine ⟨T, id, pa, slot, hty, h1, h2, ?_⟩
  have hA := ha cpos pins s1 σ H1 _ I1 q1
  rw [hs] at hA ⊢
  refine Calls.callWith_builtin (by show (false || (backTo cpos (starEach es X.env)).any (·.1)) = false; rw [hplain] <;> rfl) (Calls.evalArgs_plain ?_)
  exact thn hA fun us s2 ⟨vs, H2, I2, r2, q2⟩ => hm pins s2 σ H2 x vs v us Q I2 r1 r2 q2
/- xs.append(e), list.index on a module's tuple .. are MtR facts of 06m -/
end
end L2

namespace L2
open PySem PySem.Spec PyProof.Rows

def MtM (X : Cx) (id : String) (r : V → List V → Hp → VK → Prop) : Prop :=
  ∀ (pins : List (Addr × Obj)) (s : Shared) (σ : St) (H : Hp) (x : V) (xs : List V) (v : Value) (us : List Value) (Q : VK), Inv X pins σ H s → RelV x v → Vals xs us → r x xs H Q →
    wpAny (model X.prog X.w) X.A (call (.builtin id) (v :: us)) (EP X pins σ Q) X.xe s

/-! ### lists of values -/
theorem Vals.one : ∀ {x : V} {us : List Value}, Vals [x] us → ∃ u, us = [u] ∧ RelV x u
  | _, _, .cons r .nil => ⟨_, rfl, r⟩
theorem Vals.zero : ∀ {us : List Value}, Vals [] us → us = []
  | _, .nil => rfl
theorem Vals.dropLast {xs : List V} {us : List Value} (h : Vals xs us) : Vals xs.dropLast us.dropLast := by
  induction h with
  | nil => exact .nil
  | cons r t ih =>
    cases t with
    | nil => exact .nil
    | cons q t' => exact .cons r ih
theorem Vals.eraseIdx : ∀ {xs : List V} {us : List Value} (i : Nat), Vals xs us → Vals (xs.eraseIdx i) (us.eraseIdx i)
  | _, _, _, .nil => .nil
  | _, _, 0, .cons _ t => t
  | _, _, i + 1, .cons r t => .cons r (Vals.eraseIdx i t)
theorem Vals.reverse {xs : List V} {us : List Value} (h : Vals xs us) : Vals xs.reverse us.reverse := by
  induction h with
  | nil => exact .nil
  | cons r t ih => rw [List.reverse_cons, List.reverse_cons]; exact Vals.append ih (.cons r .nil)
section
variable {X : Cx} {pins : List (Addr × Obj)} {σ : St} {H : Hp} {s : Shared} {l b : Addr} {xs ys zs : List V}

/-! ### the two steps: a tracked list is rewritten, a new list is laid -/
theorem Inv.lset {its its' : List Value} {n : Nat} {f : Array Value → Array Value} {t' : Nat} (I : Inv X pins σ H s) (hH : H l = some (.lst xs))
    (e : s.heap.get? l = some { cls := .type "list", data := .seq its.toArray n }) (hf : f its.toArray = its'.toArray) (hv : Vals ys its') (hz : ys.length ≤ sizeLine) :
    Inv X pins σ (upd H l (.lst ys)) { s with heap := s.heap.update l (Obj.mapSeq f), toks := t' } := by
  have q := PySem.IsL.update e f
  rw [hf] at q
  refine I.write (x := l) (e := l) (by rw [hH]; exact trivial) (.inl rfl) (fun b' u hb hu => (Heap.get?_update_other s.heap (Obj.mapSeq f) (Ne.symm hb)).trans hu) ⟨_, q⟩ ?_
  exact ⟨hz, its', _, hv, q⟩
theorem Inv.lnew {its : List Value} {t' : Nat} (I : Inv X pins σ H s) (hv : Vals ys its) (hz : ys.length ≤ sizeLine) :
    Inv X pins σ (upd H s.heap.objs.size (.lst ys)) { s with heap := s.heap.push { cls := .type "list", data := .seq its.toArray }, toks := t' } :=
  I.laid (fun _ _ q => Heap.get?_push_of_some _ q) (Nat.le_refl _) ⟨hz, its, 0, hv, Heap.get?_push_size _ rfl⟩
theorem Inv.fresh (I : Inv X pins σ H s) : H s.heap.objs.size = none := I.hok.fresh (Nat.le_refl _)
theorem Inv.lstM (I : Inv X pins σ H s) (hH : H l = some (.lst xs)) : xs.length ≤ sizeLine ∧ ∃ (its : List Value) (n : Nat), Vals xs its ∧ xs.length = its.length ∧ s.heap.get? l = some { cls := .type "list", data := .seq its.toArray n } := by
  obtain ⟨z, its, n, r, e⟩ := I.hok l _ hH
  exact ⟨z, its, n, r, r.length, e⟩

end

section
variable {X : Cx}

/-! ### methods -/
def rAppend : V → List V → Hp → VK → Prop := fun x vs H Q => ∃ l xs y, x = .ref l ∧ vs = [y] ∧ H l = some (.lst xs) ∧ xs.length < sizeLine ∧ Q .non (upd H l (.lst (xs ++ [y])))
theorem mt_append : MtM X "list.append" rAppend := by
  intro pins s σ H x vs v us Q I rx rv h
  obtain ⟨l, xs, y, rfl, rfl, hH, hz, q⟩ := h
  cases rx
  obtain ⟨u, rfl, ru⟩ := rv.one
  obtain ⟨z, its, n, r, hl, e⟩ := I.lstM hH
  refine call_meets F.slot_list_append ⟨_, e, rfl⟩ F.entry_list_append (F.args_list_append_2 _ _) (PySem.list_append l its.toArray n u (by rw [List.size_toArray]; omega)) ⟨e, ?_⟩
  refine ⟨.non, _, I.lset (its' := its ++ [u]) hH e (by simp) (r.append (.cons ru .nil)) ?_, rfl, q⟩
  rw [List.length_append, List.length_singleton]
  omega

def rExtend : V → List V → Hp → VK → Prop := fun x vs H Q => ∃ l b xs zs, x = .ref l ∧ vs = [.ref b] ∧ H l = some (.lst xs) ∧ H b = some (.lst zs) ∧ xs.length + zs.length ≤ sizeLine ∧ Q .non (upd H l (.lst (xs ++ zs)))
def rPop : V → List V → Hp → VK → Prop := fun x vs H Q => ∃ l xs y, x = .ref l ∧ vs = [] ∧ H l = some (.lst xs) ∧ xs[xs.length - 1]? = some y ∧ Q y (upd H l (.lst xs.dropLast))
def rPopAt : V → List V → Hp → VK → Prop := fun x vs H Q => ∃ l xs i k y, x = .ref l ∧ vs = [.int i] ∧ H l = some (.lst xs) ∧ -(2 ^ 63) ≤ i ∧ i < 2 ^ 63 ∧ seqIndex? i xs.length = some k ∧ xs[k]? = some y ∧ Q y (upd H l (.lst (xs.eraseIdx k)))
def rReverse : V → List V → Hp → VK → Prop := fun x vs H Q => ∃ l xs, x = .ref l ∧ vs = [] ∧ H l = some (.lst xs) ∧ Q .non (upd H l (.lst xs.reverse))
def rClear : V → List V → Hp → VK → Prop := fun x vs H Q => ∃ l xs, x = .ref l ∧ vs = [] ∧ H l = some (.lst xs) ∧ Q .non (upd H l (.lst []))
/-! ### list + list, list += list, list * int -/
def rCat : R2 := fun x y H Q => ∃ l b xs zs, x = .ref l ∧ y = .ref b ∧ H l = some (.lst xs) ∧ H b = some (.lst zs) ∧ xs.length + zs.length ≤ sizeLine ∧ ∀ p, H p = none → Q (.ref p) (upd H p (.lst (xs ++ zs)))
theorem op_cat : OpR X (binaryOp .Add) rCat := by
  intro pins s σ H x y v u Q I rx ry h
  obtain ⟨l, b, xs, zs, rfl, rfl, hH, hB, hz, q⟩ := h
  cases rx
  cases ry
  obtain ⟨z, its, n, r, hl, e⟩ := I.lstM hH
  obtain ⟨z2, its2, n2, r2, hl2, e2⟩ := I.lstM hB
  refine PySem.P.add_list e e2 ?_ (by rw [List.size_toArray, List.size_toArray]; omega)
  have ea : its.toArray ++ its2.toArray = (its ++ its2).toArray := by simp
  rw [ea]
  exact ⟨.ref _, _, I.lnew (t' := s.toks) (r.append r2) (by rw [List.length_append]; omega), rfl, q _ I.fresh⟩
/-- a list times an int (a negative one is nothing) -/
def rRep : R2 := fun x y H Q => ∃ l k xs, x = .ref l ∧ y = .int k ∧ H l = some (.lst xs) ∧ -(2 ^ 63) ≤ k ∧ k < 2 ^ 63 ∧ xs.length * k.toNat ≤ sizeLine ∧
  ∀ p, H p = none → Q (.ref p) (upd H p (.lst (List.replicate k.toNat xs).flatten))
/-! ### del xs[i] -/
end

/-! ### xs[a:b] = ys -/
section
variable {prog : Program} {w : World} {A : Around} {E : Value → Shared → Prop} {s : Shared}
set_option maxRecDepth 100000 in
end

section
variable {X : Cx}
end
end L2

namespace Att
open PySem PySem.W PySem.Calls PyProof.Rows

/-! ### the script -/
theorem ints_of_wellAll {P : Params} {h : Heap} : ∀ (ns : List Int) (vs : List Value), WellAll P h vs (ns.map WData.int) → IntsAre vs ns := by
  intro ns
  induction ns with
  | nil =>
    intro vs w
    rw [List.map_nil] at w
    cases w
    exact .nil
  | cons n ns ih =>
    intro vs w
    rw [List.map_cons] at w
    cases w with
    | cons a b =>
      cases a
      exact .cons _ _ (ih _ b)

theorem script_of {l : OpenLaw} {n : Nat} (hn : l.most = some n) {P : Params} {h : Heap} {args : List WData} {vals : List Value}
    (hpre : l.row.toRowW.claim.pre args = true) (hwl : WellAll P h vals args) :
    ∃ a vs ns, vals = [Value.ref a] ∧ args = [WData.list (ns.map WData.int)] ∧ h.get? a = some { cls := .type "list", data := .seq vs.toArray } ∧ IntsAre vs ns ∧ ns.length ≤ n := by
  have hsh : WShape.hasAll [] args [.list .int] = true := (pre_splitW hpre).1
  have hc : l.pre.holds [] { args := args } = true := (pre_splitW hpre).2
  obtain ⟨d, r, rfl, h1, h2⟩ := hasAllW_cons hsh
  obtain rfl := hasAllW_nil h2
  obtain ⟨xs, rfl, h3⟩ := hasW_list h1
  obtain ⟨ns, rfl⟩ := items_int h3
  have hlen : ns.length ≤ n := by
    unfold OpenLaw.pre at hc
    have h4 : (WTm.not (.lt (.lit (.int (n : Int))) (.len (.arg 0)))).holds [] { args := [.list (ns.map .int)] } = true := by
      have h4 := (holds_andW hc).1
      rw [hn] at h4
      exact h4
    have h5 := condW_of h4 (w_not (w_lt w_lit (w_len_list (w_arg rfl))))
    rw [List.length_map] at h5
    refine Nat.le_of_not_lt fun q => ?_
    have q' : (n : Int) < ((ns.length : Nat) : Int) := by omega
    first
      | (rw [decide_eq_true q'] at h5; exact absurd h5 (by decide))
      | (simp at h5; omega)
  cases hwl with
  | cons w1 w2 =>
    cases w2
    cases w1 with
    | list ho hall => exact ⟨_, _, ns, rfl, rfl, ho, ints_of_wellAll ns _ hall, hlen⟩

theorem post_true (l : OpenLaw) (args : List WData) : l.row.toRowW.claim.post args (.bool true) args = true :=
  postW_of (r := l.row.toRowW) (X := (true == true))
    (show WShape.has [] (.bool true) .bool = true by first | rfl | decide | simp [WShape.has, WShape.arms, WShape.armsAll])
    (show (WTm.eq .res (.lit (.bool true))).value [] { args := args, res := some (.bool true), after := args } = some (.bool (true == true)) from w_eq_bool (w_res rfl) w_lit) rfl

/-! ### the attachment: holds_open's last premise (the goal 'hc' behind k_head) from a wpAny of the law's body -/
/-- the same from a codeAny of the CALL (for a layer whose function contracts speak of calls) -/
theorem attach_call {l : OpenLaw} {n : Nat} {q : Program} {loose : List Str} {XP : (Str → Option Value) → Heap → Prop} {YP : World → Heap → Prop} {d : DefRec}
    (hn : l.most = some n) (hdf : d.params.defaults = [])
    (call : ∀ (w : World) (s₀ s₁ : Shared) (mg mb : Str → Option Value) (fa : Addr) (o : Obj) (pm cd doc : Value) (a : Addr) (vs : List Value) (ns : List Int),
      Ground q loose [] XP w s₀ mg mb s₁.heap → YP w s₁.heap →
      s₁.heap.get? fa = some o → o.data = .func (docDef d.name d.params d.body d.scope pm cd doc) → s₁.heap.CodeRec cd d.name → mg d.name = some (.ref fa) →
      s₁.heap.get? a = some { cls := .type "list", data := .seq vs.toArray } → IntsAre vs ns → ns.length ≤ n → s₁.gens = #[] →
      codeAny (model l.prog w) callerA (.call (.ref fa) ⟨[.ref a], []⟩) (fun r s' => r = .ok (.ret (.bool true)) ∧ OldK s₁.heap s'.heap ∧ s'.os = s₁.os ∧ AllBare s'.gens) s₁) :
    WalkO q loose XP YP l.row.toRowW d [] (fun f vs => PySem.call f vs) := by
  intro w s₀ s₁ mg mb G Y fa o pm cd doc dV kV ho hd hcd hD hmg hg args vals as hpre hlay hrd hwl hlo
  obtain rfl : dV = .none := Dflts.none hD hdf
  obtain rfl : kV = .none := Dflts.noKw hD
  obtain ⟨a, vs, ns, rfl, rfl, hobj, hints, hlen⟩ := script_of hn hpre hwl
  refine enter_call (codeAny_mono (call w s₀ s₁ mg mb fa o pm cd doc a vs ns G Y ho (fd_plain hd) hcd hmg hobj hints hlen hg) fun r s' hq => ?_)
  obtain ⟨rfl, h2, h3, h4⟩ := hq
  exact ⟨.inl ⟨.bool true, .bool true, [], rfl, fun _ => rfl, .bool true, post_true l _, fun _ => ⟨List.Pairwise.nil, fun _ hm => (nomatch hm)⟩⟩, h2, h3, h4⟩

/-! ### rules over ANY heap (no ledger) from facts about the written part K: the library's own take a ledger (News) for what they write -/
section
variable {prog : Program} {w : World} {A : Around} {E : Value → Shared → Prop} {s : Shared} {K : Frag}

/-! the whole heap as the ledger: makes every rule that writes through a ledger a rule over any heap -/
def noObjs (h : Heap) : Heap := { h with objs := #[] }
def ledger (h : Heap) (L d : Addr) : List (Addr × Obj) := (List.range h.objs.size).filterMap fun a => if a = L ∨ a = d then none else (h.get? a).map fun o => (a, o)
end
end Att

namespace L2
open PySem PySem.Spec PyProof.Rows

theorem vals_ints : ∀ {vs : List Value} {ns : List Int}, IntsAre vs ns → Vals (ns.map V.int) vs
  | _, _, .nil => .nil
  | _, _, .cons n t h => .cons ⟨t, rfl⟩ (vals_ints h)

/-- nothing is tracked but the script, known to the object (or it is an object of the module) -/
def Only (H : Hp) : Prop := ∀ b, H b = none ∨ ∃ o xs, H b = some (.frz o (.lst xs))

/-- THE HEAD: the law's promise, at the heap behind the top. F, the promise of the law's def, may use that base is part of the heap (so K.In base, base.Ns mainGlobals mg stand in Mod) -/
theorem law_call {P : Program} {w : World} {K : PySem.W.Frag} {mg mb : Str → Option Value} {CX : CXT} {k : Nat} {fa a : Addr} {fd : FuncData} {x : Str} {sp : Sp} {s₁ : Shared} {vs : List Value} {ns : List Int}
    (KX : K.In s₁.heap) (hns : s₁.heap.Ns mainGlobals mg) (hb : s₁.heap.Ns builtinsNs mb) (hbb : ∀ x : Str, x ≠ "__name__" → mb x = bootBuiltins x) (hlim : s₁.heap.NoLimit) (hg : s₁.gens = #[])
    (ha : s₁.heap.get? a = some { cls := .type "list", data := .seq vs.toArray }) (hi : IntsAre vs ns) (hl : ns.length ≤ sizeLine) (hr : Room k callerA)
    (F : ∀ base : Heap, K.In base → base.Ns mainGlobals mg → FnOk P w K mg base CX k fa fd [x] sp) (hbind : ∀ (s : Shared) (u : Value), BindsTo s fd ⟨[u], []⟩ [(x, u)])
    (hsp : ∀ H : Hp, Only H → SqL K H a (ns.map V.int) → sp [.ref a] H (fun v _ => v = .bl true) fun _ _ _ => False)
    (hCX : ∀ H e s', CX [] H s₁ (fun _ _ _ => False) e s' → False) :
    codeAny (model P w) callerA (.call (.ref fa) ⟨[.ref a], []⟩) (fun r s' => r = .ok (.ret (.bool true)) ∧ OldK s₁.heap s'.heap ∧ s'.os = s₁.os ∧ AllBare s'.gens) s₁ := by
  have rv := vals_ints hi
  have lenV := hi.length
  -- from an abstract heap in which nothing but the script may be tracked
  have core : ∀ H : Hp, Only H → SqL K H a (ns.map V.int) → HOk P w H s₁.heap → (∀ b, H b ≠ none → b = a) → (H a ≠ none → K.lookup a = none) →
      codeAny (model P w) callerA (.call (.ref fa) ⟨[.ref a], []⟩) (fun r s' => r = .ok (.ret (.bool true)) ∧ OldK s₁.heap s'.heap ∧ s'.os = s₁.os ∧ AllBare s'.gens) s₁ := by
    intro H hO hS hok hA hK
    have base_of : ∀ {b : Addr} {o : Obj}, s₁.heap.get? b = some o → H b = none → (hidT s₁.heap H).get? b = some o := fun e n => hidT_get e n
    have noA : ∀ {b : Addr} {o : Obj} {es : Array DictEntry} {ep : Nat}, s₁.heap.get? b = some o → o.data = .dict es ep → H b = none := fun {b o es ep} e d => by
      cases q : H b with
      | none => rfl
      | some u =>
        have e' : b = a := hA b (by rw [q]; simp)
        subst e'
        rw [ha] at e; cases e
        have d' : Data.seq vs.toArray _ = Data.dict es ep := d
        cases d'
    have nsK : ∀ {b : Addr} {m : Str → Option Value}, s₁.heap.Ns b m → (hidT s₁.heap H).Ns b m := fun {b m} ⟨o, es, ep, e, d, r⟩ => ⟨o, es, ep, base_of e (noA e d), d, r⟩
    have hKb : K.In (hidT s₁.heap H) := fun b o e => base_of (KX b o e) (by
      cases q : H b with
      | none => rfl
      | some u =>
        have e' : b = a := hA b (by rw [q]; simp)
        subst e'
        rw [hK (by rw [q]; simp)] at e; cases e)
    have hM : Mod K mg (hidT s₁.heap H) := ⟨hKb, nsK hns, ⟨mb, nsK hb, hbb⟩, let ⟨mc, h1, h2⟩ := hlim; ⟨mc, nsK h1, h2⟩⟩
    have e0 : Env0 P w K mg (hidT s₁.heap H) callerA [] s₁ H := ⟨rfl, hM, fun b o e => of_hidT e, Nat.le_of_eq (hidT_size _ _), trivial, fun b hb => absurd (show b ∈ ([] : List Addr) from hb) (by simp), hok, .of_eq hg⟩
    refine codeAny_mono ((F _ hKb (nsK hns)).run callerA [] s₁ H ⟨[.ref a], []⟩ [.ref a] [.ref a] _ _ hr e0 (hbind s₁ (.ref a)) (.cons rfl .nil) (hsp H hO hS)) fun r s' h => ?_
    cases r with
    | error e => exact (hCX H e s' h).elim
    | ok fl =>
      cases fl with
      | next => exact False.elim h
      | brk => exact False.elim h
      | cont => exact False.elim h
      | ret u =>
        obtain ⟨v, H', os, bare, un, hok', r', q⟩ := h
        have q' : v = .bl true := q
        subst q'
        obtain rfl : u = Value.bool true := r'
        refine ⟨rfl, OldK.of_keep fun b o e => ?_, os, bare⟩
        cases q : H b with
        | none => exact un.keep b o e q (by intro z; exact absurd (show b ∈ ([] : List Addr) from z) (by simp)) (by simp)
        | some u =>
          rcases hO b with z | ⟨ob, xs, z⟩
          · rw [q] at z; cases z
          · have z2 := un.frzs b ob _ z
            obtain ⟨e1, _⟩ := hok b _ z
            obtain ⟨e2, _⟩ := hok' b _ z2
            rw [e] at e1; cases e1
            exact e2
  cases hk : K.lookup a with
  | some o =>
    -- the script is one of the module's own objects
    have e := KX a o hk
    rw [ha] at e
    cases e
    refine core (fun _ => none) (fun _ => .inl rfl) (.inr ⟨_, vs.toArray, _, hk, rfl, rfl, rfl, by rw [List.size_toArray, lenV]; exact hl, by simpa using rv⟩) (fun b u z => by have z' : (none : Option HO) = some u := z; cases z') (fun b z => absurd rfl z) fun z => absurd rfl z
  | none =>
    refine core (fun b => if b = a then some (.frz { cls := .type "list", data := .seq vs.toArray } (.lst (ns.map V.int))) else none) (fun b => ?_) (.inl (.inr ⟨{ cls := .type "list", data := .seq vs.toArray }, if_pos rfl⟩)) (fun b u z => ?_) (fun b z => ?_) fun _ => hk
    · by_cases hb : b = a
      · exact .inr ⟨_, _, if_pos hb⟩
      · exact .inl (if_neg hb)
    · by_cases hb : b = a
      · have z' := (if_pos hb).symm.trans z
        cases z'
        subst hb
        exact ⟨ha, by rw [List.length_map]; exact hl, vs, _, rv, ha⟩
      · have z' := (if_neg hb).symm.trans z
        cases z'
    · by_cases hb : b = a
      · exact hb
      · exact absurd (if_neg hb) z
end L2

namespace L2
open PySem PySem.Spec PyProof.Rows

abbrev KOf {K : PySem.W.Frag} {h : Heap} (_ : K.In h) : PySem.W.Frag := K

/-- the goal that k_head leaves (case hc), from the law's promise. F gives the function object fd (K's own) once, then the promise over every base -/
theorem walk_of {l : PySem.W.OpenLaw} {n k : Nat} {q : Program} {loose : List Str} {XP : (Str → Option Value) → Heap → Prop} {YP : World → Heap → Prop} {d : DefRec} {K : Params → PySem.W.Frag} {CX : World → CXT} {sp : World → Sp} {x : Str}
    (hn : l.most = some n) (hn2 : n ≤ sizeLine) (hdf : d.params.defaults = []) (hr : Room k callerA)
    (hY : ∀ (w : World) (h : Heap), YP w h → (K w.params).In h)
    (F : ∀ (w : World) (mg : Str → Option Value) (fa : Addr) (h : Heap), (K w.params).In h → h.Ns mainGlobals mg → mg d.name = some (.ref fa) →
      ∃ fd : FuncData, (∀ (s : Shared) (u : Value), BindsTo s fd ⟨[u], []⟩ [(x, u)]) ∧
        ∀ base : Heap, (K w.params).In base → base.Ns mainGlobals mg → FnOk l.prog w (K w.params) mg base (CX w) k fa fd [x] (sp w))
    (hsp : ∀ (w : World) (H : Hp) (a : Addr) (ns : List Int), ns.length ≤ n → Only H → SqL (K w.params) H a (ns.map V.int) → sp w [.ref a] H (fun v _ => v = .bl true) fun _ _ _ => False)
    (hCX : ∀ (w : World) (H : Hp) (s : Shared) (e : Value) (s' : Shared), CX w [] H s (fun _ _ _ => False) e s' → False) :
    PySem.W.WalkO q loose XP YP l.row.toRowW d [] (fun f vs => PySem.call f vs) := by
  refine Att.attach_call hn hdf fun w s₀ s₁ mg mb fa o pm cd doc a vs ns G Y ho hd hcd hmg hobj hints hlen hg => ?_
  have KX := hY w _ Y
  obtain ⟨fd, hb, hF⟩ := F w mg fa _ KX G.T.g hmg
  exact law_call KX G.T.g G.T.b G.T.builtins G.T.nolimit hg hobj hints (Nat.le_trans hlen hn2) hr hF hb (fun H hO hS => hsp w H a ns hlen hO hS) fun H e s' => hCX w H s₁ e s'
end L2

/- THE LAST THEOREM (shape; LID, My.* are yours):
   My.Adr: a structure of the addresses that your layer names (classes, functions); My.Txt K t: a structure (Prop) of the equations over K;
   My.txt_mk : {K} {implicit addresses ..} (e1 : nsIn K mainGlobals "law" = some (some (.ref f))) (e2 : K.lookup f = some ⟨oc, od, .func (fnOf "law" "law" params body scope dV kV doc pm an cdv ct), sl⟩) (e3 : codeIn K cdv "law" = true) .. : ∃ t, My.Txt K t

set_option maxRecDepth 100000 in
set_option maxHeartbeats 0 in
theorem PySem.Challenge.cw_LID_holds : PySem.Challenge.rw_LID.Holds := by
  w_on; o_law; k_head; (case hw => w_witness2)
  k_fill
  refine L2.walk_of (l := PySem.Challenge.rw_LID) (n := 63) (k := 40) (x := "script") (CX := fun w => ..) (sp := fun _ => My.sp_law) rfl (by decide) rfl ⟨rfl, by decide, by decide⟩ (fun w h Y => PySem.W.kIn_of Y) ?F ?S ?C
  case F =>
    intro w mg fa h KX G hmg
    have T : ∃ t, My.Txt (L2.KOf KX) t := by
      dsimp only [L2.KOf]                          -- K must stand as «<heap const> w.params» for k_is
      refine' My.txt_mk ?e1 ?e2 ?e3 ..
      (case e1 => PySem.W.k_is)                    -- in the order: a name -> its address -> its object -> its parts
      (case e2 => PySem.W.k_is)
      ..
    obtain ⟨t, T⟩ := T
    have e0 := hmg.symm.trans (PySem.W.mg_of KX G T.law)
    cases e0                                       -- fa is the law's own address
    exact ⟨_, fun s u => .of_eq rfl, fun base kb nb => My.law_fn T kb nb⟩     -- if «.of_eq rfl» comes too early: refine' ⟨_, ?b, fun base kb nb => My.law_fn T kb nb⟩; exact fun s u => .of_eq rfl
  case S => exact fun w H a ns hl hO hS => ..
  case C => exact ..
(the tactic k_is has no namespace: write k_is) -/

/-! SHORT WORDS over the layer: a def of the text, its body, what a loop and a test want. -/
namespace L2
open PySem PySem.Spec PyProof.Rows

/-! ### the text by places -/
/-- the j-th statement of a class's body -/
def inClass (s : Stmt) (j : Nat) : Stmt := match s with
  | .ClassDef _ _ _ body _ _ _ _ _ _ _ => body.getD j (.Pass ⟨0, 0, 0, 0⟩)
  | _ => .Pass ⟨0, 0, 0, 0⟩
def defArgs (s : Stmt) : Arguments := match s with
  | .FunctionDef _ a _ _ _ _ _ _ _ _ => a
  | _ => { posonlyargs := [], args := [], vararg := none, kwonlyargs := [], kw_defaults := [], kwarg := none, defaults := [] }
def defBody (s : Stmt) : List Stmt := match s with
  | .FunctionDef _ _ b _ _ _ _ _ _ _ => b
  | _ => []
def defScope (s : Stmt) : Scope := match s with
  | .FunctionDef _ _ _ _ _ _ sc _ _ _ => sc
  | _ => { kind := .function, names := [], isGenerator := false, isCoroutine := false }

/-! ### no exception leaves a def -/
abbrev CX0 : CXT := fun _ _ _ _ _ _ => False
abbrev E0 : XK := fun _ _ _ => False
theorem pass0 {X : Cx} : Passes CX0 X E0 := fun _ _ _ _ _ _ _ h => h.elim

/-! ### a def (or method) of the text as it stands behind the top -/
structure Fun (K : PySem.W.Frag) (x qual : Str) (st : Stmt) (f : Addr) (fd : FuncData) : Prop where
  ex : ∃ (oc : Value) (od : Option Addr) (kV doc pm : Value) (an : Option Addr) (cdv ct : Value) (osl : Array (Option Value)),
    fd = PySem.W.fnOf x qual (defArgs st) (defBody st) (defScope st) .none kV doc pm an cdv ct ∧ K.lookup f = some ⟨oc, od, .func fd, osl⟩ ∧ PySem.W.codeIn K cdv qual = true
  kp : PySem.W.keepIn K (.ref f) = true
section
variable {P : Program} {w : World} {K : PySem.W.Frag} {mg : Str → Option Value} {base : Heap}
/-- THE RULE for a def: its body as a term of rules, and the reading of that term -/
theorem Fun.ok {x qual : Str} {st : Stmt} {f : Addr} {fd : FuncData} {N ps : List Str} {k : Nat} {sp : Sp} (F : Fun K x qual st f fd) (S : FnScope N ps (defScope st)) (len : ∀ vs H Q E, sp vs H Q E → vs.length = ps.length)
    (hbody : ∀ (cdv : Value) (A : Around) (outer : List Env) (s : Shared) (H : Hp) (vs : List V) (Q : VK) (E : XK), Room k (A.deeper (envOfC qual (defScope st) s.heap.objs.size f cdv)) → sp vs H Q E →
      ∃ t, PSs (cxOf CX0 P w K mg base N qual (defScope st) f cdv A outer s H E).nox (defBody st) t ∧ t { nx := fun _ H' => Q .non H', rt := Q } (start N vs) H) : FnOk P w K mg base CX0 (k + 1) f fd ps sp := by
  obtain ⟨oc, od, kV, doc, pm, an, cdv, ct, osl, rfl, lk, hcd⟩ := F.ex
  refine fn_of lk hcd S len fun A outer s H vs Q E hr hsp => ?_
  obtain ⟨t, h, q⟩ := hbody cdv A outer s H vs Q E hr hsp
  exact ⟨t, h.nox, q⟩
/-- how its arguments bind (no defaults): h is «fun _ _ _ _ _ _ us hl => match us, hl with | [_, _], _ => rfl», one _ a parameter -/
theorem Fun.binds {x qual : Str} {st : Stmt} {f : Addr} {fd : FuncData} {ps : List Str} (F : Fun K x qual st f fd)
    (h : ∀ (kV doc pm : Value) (an : Option Addr) (cdv ct : Value) (us : List Value), us.length = ps.length → bindArgs (PySem.W.fnOf x qual (defArgs st) (defBody st) (defScope st) .none kV doc pm an cdv ct) ⟨us, []⟩ = pure (ps.zip us)) : Binds K fd ps [] := by
  obtain ⟨oc, od, kV, doc, pm, an, cdv, ct, osl, rfl, lk, hcd⟩ := F.ex
  exact .all (h kV doc pm an cdv ct)
theorem fun_mk {x qual : Str} {st : Stmt} {f : Addr} {oc : Value} {od an : Option Addr} {osl : Array (Option Value)} {kV doc pm cdv ct : Value} (l : K.lookup f = some ⟨oc, od, .func (PySem.W.fnOf x qual (defArgs st) (defBody st) (defScope st) .none kV doc pm an cdv ct), osl⟩)
    (c : PySem.W.codeIn K cdv qual = true) (k : PySem.W.keepIn K (.ref f) = true) : Fun K x qual st f (PySem.W.fnOf x qual (defArgs st) (defBody st) (defScope st) .none kV doc pm an cdv ct) := ⟨⟨oc, od, kV, doc, pm, an, cdv, ct, osl, rfl, l, c⟩, k⟩
end
/-! ### expressions in short: the name that stands in the i-th slot -/
section
variable {X : Cx}
theorem pv (i : Nat) {x : Str} {pos : Pos} (hN : X.N[i]? = some x := by rfl) (hv : Vis X.env.scope x := by first | exact Or.inl rfl | exact Or.inr (Or.inl rfl) | exact Or.inr (Or.inr rfl)) (hd : (x == ("__debug__" : Str)) = false := by decide)
    (hcd : (x == ("__classdict__" : Str)) = false := by decide) : PE X (.Name x pos) (tVar i) := pe_var hN hv hd hcd
end

/-! ### tests -/
theorem iteF {A B : Prop} (h : B) : if false = true then A else B := by
  rw [if_neg Bool.false_ne_true]
  exact h
theorem iteT {A B : Prop} (h : A) : if true = true then A else B := by
  rw [if_pos rfl]
  exact h
theorem ite2 {c A B : Prop} [Decidable c] (h1 : c → A) (h2 : ¬ c → B) : if c then A else B := by
  by_cases h : c
  · rw [if_pos h]
    exact h1 h
  · rw [if_neg h]
    exact h2 h
/-! ### heaps -/
/-- all that was tracked is as it was -/
def Same (H H' : Hp) : Prop := ∀ b o, H b = some o → H' b = some o
theorem Same.refl (H : Hp) : Same H H := fun _ _ h => h
theorem Same.trans {H H1 H2 : Hp} (a : Same H H1) (b : Same H1 H2) : Same H H2 := fun c o h => b c o (a c o h)
theorem Same.free {H H' : Hp} (e : Same H H') {l : Addr} (h : H' l = Option.none) : H l = Option.none := by
  cases q : H l with
  | none => rfl
  | some o =>
    rw [e l o q] at h
    cases h
theorem Same.seq {K : PySem.W.Frag} {H H' : Hp} {a : Addr} {xs : List V} (e : Same H H') (h : SqL K H a xs) : SqL K H' a xs := by
  rcases h with (h | ⟨o, h⟩) | h
  · exact .inl (.inl (e _ _ h))
  · exact .inl (.inr ⟨o, e _ _ h⟩)
  · exact .inr h

end L2

set_option maxHeartbeats 4000000
namespace My
def Bd (n : Nat) (x : Int) : Prop := x.natAbs < 2 ^ n
theorem Bd.mono {m n : Nat} {x : Int} (h : Bd m x) (hn : m ≤ n) : Bd n x := Nat.lt_of_lt_of_le h (Nat.pow_le_pow_right (by decide) hn)
theorem Bd.neg {n : Nat} {x : Int} (h : Bd n x) : Bd n (-x) := by unfold Bd at *; rw [Int.natAbs_neg]; exact h
theorem Bd.mul {m n : Nat} {x y : Int} (h : Bd m x) (g : Bd n y) : Bd (m + n) (x * y) := by
  unfold Bd at *
  rw [Int.natAbs_mul, Nat.pow_add]
  exact Nat.mul_lt_mul'' h g
theorem Bd.add {n : Nat} {x y : Int} (h : Bd n x) (g : Bd n y) : Bd (n + 1) (x + y) := by
  unfold Bd at *
  rw [Nat.pow_succ]
  have := Int.natAbs_add_le x y
  omega
theorem Bd.sub {n : Nat} {x y : Int} (h : Bd n x) (g : Bd n y) : Bd (n + 1) (x - y) := by
  rw [Int.sub_eq_add_neg]; exact h.add g.neg
theorem Bd.mod {n : Nat} {x y : Int} (hy : 0 < y) (g : Bd n y) : Bd n (x % y) := by
  unfold Bd at *
  have h1 := Int.emod_nonneg x (Int.ne_of_gt hy)
  have h2 := Int.emod_lt_of_pos x hy
  omega
theorem Bd.of_le {n : Nat} {x y : Int} (g : Bd n y) (h0 : 0 ≤ x) (h : x ≤ y) : Bd n x := by
  unfold Bd at *
  omega
theorem div_bounds (x y : Int) (hy : 0 < y) : y * (x / y) ≤ x ∧ x < y * (x / y) + y := by
  have h1 := Int.mul_ediv_add_emod x y
  have h2 := Int.emod_nonneg x (Int.ne_of_gt hy)
  have h3 := Int.emod_lt_of_pos x hy
  omega
theorem Bd.div {n : Nat} {x y : Int} (hy : 0 < y) (g : Bd n x) : Bd n (x / y) := by
  unfold Bd at *
  refine Nat.lt_of_le_of_lt ?_ g
  obtain ⟨h1, h2⟩ := div_bounds x y hy
  rcases Int.lt_or_le (x / y) 0 with h | h
  · -- q < 0: x < y q + y = y (q + 1) <= q + 1
    have h3 : y * (x / y + 1) ≤ 1 * (x / y + 1) := Int.mul_le_mul_of_nonpos_right (by omega) (by omega)
    rw [Int.mul_add, Int.mul_one, Int.one_mul] at h3
    omega
  · have h3 : 1 * (x / y) ≤ y * (x / y) := Int.mul_le_mul_of_nonneg_right (by omega) h
    rw [Int.one_mul] at h3
    omega
theorem gcd_step (a b : Int) : Int.gcd b (a % b) = Int.gcd a b := by
  apply Nat.dvd_antisymm
  · apply Int.dvd_gcd
    · have h1 : ((Int.gcd b (a % b) : Nat) : Int) ∣ b := Int.gcd_dvd_left ..
      have h2 : ((Int.gcd b (a % b) : Nat) : Int) ∣ a % b := Int.gcd_dvd_right ..
      have h3 := Int.mul_ediv_add_emod a b
      have h4 := Int.dvd_add (Int.dvd_trans h1 (Int.dvd_mul_right b (a / b))) h2
      rw [h3] at h4
      exact h4
    · exact Int.gcd_dvd_left ..
  · apply Int.dvd_gcd
    · exact Int.gcd_dvd_right ..
    · have h1 : ((Int.gcd a b : Nat) : Int) ∣ a := Int.gcd_dvd_left ..
      have h2 : ((Int.gcd a b : Nat) : Int) ∣ b := Int.gcd_dvd_right ..
      have h3 := Int.mul_ediv_add_emod a b
      have h4 : a % b = a - b * (a / b) := by omega
      rw [h4]
      exact Int.dvd_sub h1 (Int.dvd_trans h2 (Int.dvd_mul_right b (a / b)))
theorem gcd_pos {a b : Int} (hb : 0 < b) : 0 < ((Int.gcd a b : Nat) : Int) := by
  have : 0 < Int.gcd a b := Int.gcd_pos_of_ne_zero_right a (Int.ne_of_gt hb)
  omega
theorem gcd_le {a b : Int} (hb : 0 < b) : ((Int.gcd a b : Nat) : Int) ≤ b :=
  Int.le_of_dvd hb (Int.gcd_dvd_right ..)
end My

namespace My
/-- what number tells of t by m, m not 0 -/
def sg (t m : Int) : Int := if m < 0 then -((Int.gcd t m : Nat) : Int) else ((Int.gcd t m : Nat) : Int)
theorem sg_ne {t m : Int} (hm : m ≠ 0) : sg t m ≠ 0 := by
  have h : 0 < Int.gcd t m := Int.gcd_pos_of_ne_zero_right t hm
  unfold sg
  split <;> omega
theorem sg_dvd_left (t m : Int) : sg t m ∣ t := by
  unfold sg
  split
  · exact Int.neg_dvd.mpr (Int.gcd_dvd_left ..)
  · exact Int.gcd_dvd_left ..
theorem sg_dvd_right (t m : Int) : sg t m ∣ m := by
  unfold sg
  split
  · exact Int.neg_dvd.mpr (Int.gcd_dvd_right ..)
  · exact Int.gcd_dvd_right ..
theorem fdiv_mul {a b : Int} (hb : b ≠ 0) (h : b ∣ a) : a.fdiv b * b = a := Int.fdiv_mul_cancel h
theorem natAbs_sg (t m : Int) : (sg t m).natAbs = Int.gcd t m := by
  unfold sg
  split
  · rw [Int.natAbs_neg, Int.natAbs_natCast]
  · rw [Int.natAbs_natCast]
/-- the four facts of a number made -/
structure Made (t m a b : Int) : Prop where
  pos : 0 < b
  low : Int.gcd a b = 1
  same : a * m = t * b
  ba : a.natAbs ≤ t.natAbs
  bb : b.natAbs ≤ m.natAbs
theorem made_of {t m : Int} (hm : m ≠ 0) : Made t m (t.fdiv (sg t m)) (m.fdiv (sg t m)) := by
  have hs := sg_ne (t := t) hm
  have e1 := fdiv_mul hs (sg_dvd_left t m)
  have e2 := fdiv_mul hs (sg_dvd_right t m)
  have hg : 0 < Int.gcd t m := Int.gcd_pos_of_ne_zero_right t hm
  generalize ha : t.fdiv (sg t m) = a at *
  generalize hb : m.fdiv (sg t m) = b at *
  have n1 : a.natAbs * Int.gcd t m = t.natAbs := by rw [← natAbs_sg, ← Int.natAbs_mul, e1]
  have n2 : b.natAbs * Int.gcd t m = m.natAbs := by rw [← natAbs_sg, ← Int.natAbs_mul, e2]
  refine ⟨?_, ?_, ?_, ?_, ?_⟩
  · -- sign
    unfold sg at e2
    by_cases h : m < 0
    · rw [if_pos h, Int.mul_neg] at e2
      rcases Int.lt_or_le 0 b with q | q
      · exact q
      · have := Int.mul_nonpos_of_nonpos_of_nonneg q (show (0 : Int) ≤ ((Int.gcd t m : Nat) : Int) by omega)
        omega
    · rw [if_neg h] at e2
      rcases Int.lt_or_le 0 b with q | q
      · exact q
      · have := Int.mul_nonpos_of_nonpos_of_nonneg q (show (0 : Int) ≤ ((Int.gcd t m : Nat) : Int) by omega)
        omega
  · have q : Int.gcd a b * Int.gcd t m = Int.gcd t m := by
      have h := Nat.gcd_mul_right a.natAbs (Int.gcd t m) b.natAbs
      rw [n1, n2] at h
      exact h.symm
    exact Nat.eq_of_mul_eq_mul_right hg (by rw [q, Nat.one_mul])
  · have q : a * m = a * (b * sg t m) := by rw [e2]
    have q2 : t * b = a * sg t m * b := by rw [e1]
    rw [q, q2, Int.mul_assoc, Int.mul_comm b]
  · rw [← n1]; exact Nat.le_mul_of_pos_right _ hg
  · rw [← n2]; exact Nat.le_mul_of_pos_right _ hg
theorem Bd.of_natAbs {n : Nat} {x y : Int} (h : x.natAbs ≤ y.natAbs) (g : Bd n y) : Bd n x := Nat.lt_of_le_of_lt h g
theorem natAbs_abs (i : Int) : (if i < 0 then -i else i) = ((i.natAbs : Nat) : Int) := by split <;> omega
end My

/-! more rules over the layer: numbers of known size, a range by steps, isinstance -/
namespace L2
open PySem PySem.Spec PyProof.Rows


abbrev Mid (x : Int) : Prop := My.Bd 4000 x
section
variable {X : Cx}
theorem op_mulB : OpR X (binaryOp .Mult) (rI (fun i j => Mid i ∧ Mid j) fun i j => .int (i * j)) := opI fun _ _ _ _ _ _ _ hc q =>
  mul_int q (IntMulOk.of_le (PySem.intBits_le_iff.mpr hc.1) (PySem.intBits_le_iff.mpr hc.2) (by decide))
theorem log2_of_Mid {j : Int} (h : Mid j) : j.natAbs.log2 < 9000 := by
  by_cases h0 : j.natAbs = 0
  · rw [h0]; decide +kernel
  · have h1 : j.natAbs.log2 < 4000 := (Nat.log2_lt h0).mpr h
    omega
theorem op_fdivB : OpR X (binaryOp .FloorDiv) (rI (fun _ j => 0 < j ∧ Mid j) fun i j => .int (i / j)) := opI fun i j _ _ _ _ _ hc q => by
  have h1 : (0 : Int) < j := hc.1
  exact floordiv_int (by omega) (by rw [Int.fdiv_eq_ediv_of_nonneg i (by omega)]; exact q) (.inl (PyProof.noPylong_of_log2 (log2_of_Mid hc.2)))
end

theorem bt_int : bootBuiltins "int" = some (.type "int") := by decide +kernel
theorem bt_bool : bootBuiltins "bool" = some (.type "bool") := by decide +kernel
theorem bt_list : bootBuiltins "list" = some (.type "list") := by decide +kernel
theorem bt_tuple : bootBuiltins "tuple" = some (.type "tuple") := by decide +kernel
theorem bt_abs : bootBuiltins "abs" = some (.builtin "abs") := by decide +kernel
theorem bt_isinstance : bootBuiltins "isinstance" = some (.builtin "isinstance") := by decide +kernel
/-! ### isinstance of a value of a known kind -/
inductive Tg where
  | non | bl | int | str | tup | lst | dic
def tgIs (K : PySem.W.Frag) (H : Hp) : V → Tg → Prop
  | .non, .non => True
  | .bl _, .bl => True
  | .int _, .int => True
  | .str _, .str => True
  | .ref a, .tup => ∃ xs, SqT K H a xs
  | .ref a, .lst => ∃ xs, SqL K H a xs
  | .ref a, .dic => ∃ kvs, H a = some (.dK kvs)
  | _, _ => False
def Tg.isInt : Tg → Bool
  | .int => true | .bl => true | _ => false
def Tg.isBool : Tg → Bool
  | .bl => true | _ => false
def Tg.isStr : Tg → Bool
  | .str => true | _ => false
def Tg.isTup : Tg → Bool
  | .tup => true | _ => false
def Tg.isLst : Tg → Bool
  | .lst => true | _ => false
def rIsi (K : PySem.W.Frag) (n : String) (f : Tg → Bool) : List V → Hp → VK → Prop := fun xs H Q => ∃ x g, xs = [x, .ty n] ∧ tgIs K H x g ∧ Q (.bl (f g)) H
section
variable {X : Cx}
theorem isi_of {n : String} {f : Tg → Bool}
    (h1 : ∀ {A : Around} {E : Value → Shared → Prop} {s : Shared} {Q : Value → Shared → Prop}, (∀ t, Q (.bool (f .non)) { s with toks := t }) → wpAny (model X.prog X.w) A (call (.builtin "isinstance") [.none, .type n]) Q E s)
    (h2 : ∀ {A : Around} {E : Value → Shared → Prop} {s : Shared} {Q : Value → Shared → Prop} {b : Bool}, (∀ t, Q (.bool (f .bl)) { s with toks := t }) → wpAny (model X.prog X.w) A (call (.builtin "isinstance") [.bool b, .type n]) Q E s)
    (h3 : ∀ {A : Around} {E : Value → Shared → Prop} {s : Shared} {Q : Value → Shared → Prop} {b : Int} {u : Tok}, (∀ t, Q (.bool (f .int)) { s with toks := t }) → wpAny (model X.prog X.w) A (call (.builtin "isinstance") [.int b u, .type n]) Q E s)
    (h4 : ∀ {A : Around} {E : Value → Shared → Prop} {s : Shared} {Q : Value → Shared → Prop} {b : Str} {u : Tok}, (∀ t, Q (.bool (f .str)) { s with toks := t }) → wpAny (model X.prog X.w) A (call (.builtin "isinstance") [.str b u, .type n]) Q E s)
    (h5 : ∀ {A : Around} {E : Value → Shared → Prop} {s : Shared} {Q : Value → Shared → Prop} {a : Addr} {o : Obj}, s.heap.get? a = some o → o.cls = .type "tuple" → (∀ t, Q (.bool (f .tup)) { s with toks := t }) → wpAny (model X.prog X.w) A (call (.builtin "isinstance") [.ref a, .type n]) Q E s)
    (h6 : ∀ {A : Around} {E : Value → Shared → Prop} {s : Shared} {Q : Value → Shared → Prop} {a : Addr} {o : Obj}, s.heap.get? a = some o → o.cls = .type "list" → (∀ t, Q (.bool (f .lst)) { s with toks := t }) → wpAny (model X.prog X.w) A (call (.builtin "isinstance") [.ref a, .type n]) Q E s)
    (h7 : ∀ {A : Around} {E : Value → Shared → Prop} {s : Shared} {Q : Value → Shared → Prop} {a : Addr} {o : Obj}, s.heap.get? a = some o → o.cls = .type "dict" → (∀ t, Q (.bool (f .dic)) { s with toks := t }) → wpAny (model X.prog X.w) A (call (.builtin "isinstance") [.ref a, .type n]) Q E s) :
    CallR X (.builtin "isinstance") (rIsi X.K n f) := by
  intro pins s σ H xs us Q I r h
  obtain ⟨x, g, rfl, e, q⟩ := h
  obtain ⟨u, w, rfl, rx, rw'⟩ := vals2 r
  cases rw'
  have fin : ∀ k : Bool, Q (.bl k) H → ∀ t, EP X pins σ Q (.bool k) { s with toks := t } := fun k q t => ⟨.bl k, H, I.tok t, rfl, q⟩
  cases x with
  | non => cases g <;> first | exact (show False from e).elim | (cases rx; exact h1 (fin _ q))
  | bl b => cases g <;> first | exact (show False from e).elim | (cases rx; exact h2 (fin _ q))
  | int i => cases g <;> first | exact (show False from e).elim | (obtain ⟨t, rfl⟩ := rx; exact h3 (fin _ q))
  | str y => cases g <;> first | exact (show False from e).elim | (obtain ⟨t, rfl⟩ := rx; exact h4 (fin _ q))
  | ref a =>
    cases rx
    cases g with
    | tup =>
      obtain ⟨xs, hx⟩ := (show ∃ xs, SqT X.K H a xs from e)
      obtain ⟨its, _, ⟨o, ho, hc, _⟩, _⟩ := I.tuple hx
      exact h5 ho hc (fin _ q)
    | lst =>
      obtain ⟨xs, hx⟩ := (show ∃ xs, SqL X.K H a xs from e)
      obtain ⟨its, _, ⟨o, n, ho, hc, _⟩, _⟩ := I.list hx
      exact h6 ho hc (fin _ q)
    | dic =>
      obtain ⟨kvs, hx⟩ := (show ∃ kvs, H a = some (.dK kvs) from e)
      obtain ⟨_, _, vs, _, o, es, ep, ho, hc, _⟩ := (show ObjOk X.prog X.w H s.heap a (.dK kvs) from I.hok a _ hx)
      exact h7 ho hc.1 (fin _ q)
    | non => exact (show False from e).elim
    | bl => exact (show False from e).elim
    | int => exact (show False from e).elim
    | str => exact (show False from e).elim
  | _ => exact (show False from e).elim
theorem isi_int : CallR X (.builtin "isinstance") (rIsi X.K "int" Tg.isInt) := isi_of (fun q => IsiPair.NoneType_int (q _)) (fun q => IsiPair.bool_int (q _)) (fun q => IsiPair.int_int (q _)) (fun q => IsiPair.str_int (q _))
  (fun ho hc q => call_isinstance (isinstance_false_tuple (by decide) PySem.F.isi_meta_int PySem.F.sub_tuple_int) ⟨⟨_, ho, hc⟩, q _⟩) (fun ho hc q => call_isinstance (isinstance_false_list (by decide) PySem.F.isi_meta_int PySem.F.sub_list_int) ⟨⟨_, ho, hc⟩, q _⟩) (fun ho hc q => call_isinstance (isinstance_false_dict (by decide) PySem.F.isi_meta_int PySem.F.sub_dict_int) ⟨⟨_, ho, hc⟩, q _⟩)
theorem isi_bool : CallR X (.builtin "isinstance") (rIsi X.K "bool" Tg.isBool) := isi_of (fun q => IsiPair.NoneType_bool (q _)) (fun q => IsiPair.bool_bool (q _)) (fun q => IsiPair.int_bool (q _)) (fun q => IsiPair.str_bool (q _))
  (fun ho hc q => call_isinstance (isinstance_false_tuple (by decide) PySem.F.isi_meta_bool PySem.F.sub_tuple_bool) ⟨⟨_, ho, hc⟩, q _⟩) (fun ho hc q => call_isinstance (isinstance_false_list (by decide) PySem.F.isi_meta_bool PySem.F.sub_list_bool) ⟨⟨_, ho, hc⟩, q _⟩) (fun ho hc q => call_isinstance (isinstance_false_dict (by decide) PySem.F.isi_meta_bool PySem.F.sub_dict_bool) ⟨⟨_, ho, hc⟩, q _⟩)
theorem isi_tuple : CallR X (.builtin "isinstance") (rIsi X.K "tuple" Tg.isTup) := isi_of (fun q => IsiPair.NoneType_tuple (q _)) (fun q => IsiPair.bool_tuple (q _)) (fun q => IsiPair.int_tuple (q _)) (fun q => IsiPair.str_tuple (q _))
  (fun ho hc q => call_isinstance (isinstance_true (Tx := "tuple") PySem.F.isi_meta_tuple PySem.F.sub_tuple_tuple) ⟨⟨_, ho, hc⟩, q _⟩) (fun ho hc q => call_isinstance (isinstance_false_list (by decide) PySem.F.isi_meta_tuple PySem.F.sub_list_tuple) ⟨⟨_, ho, hc⟩, q _⟩) (fun ho hc q => call_isinstance (isinstance_false_dict (by decide) PySem.F.isi_meta_tuple PySem.F.sub_dict_tuple) ⟨⟨_, ho, hc⟩, q _⟩)
/-- isinstance(e, T) of a built-in type -/
theorem pe_isi {e : Expr} {te : TE} {n : Str} {T : String} {f : Tg → Bool} {p p2 pos : Pos} (hc : CallR X (.builtin "isinstance") (rIsi X.K T f)) (hg : Gl X "isinstance") (hg2 : Gl X n) (hm : X.mg "isinstance" = none) (hm2 : X.mg n = none) (hb : bootBuiltins n = some (.type T)) (he : PE X e te)
    (hn : n ≠ "__name__" := by decide) (hd : (n == ("__debug__" : Str)) = false := by decide)
    (hs1 : starEach [e, .Name n p2] X.env = (false, eval e X.env) :: starEach [.Name n p2] X.env := by rfl) (hs2 : starEach [.Name n p2] X.env = (false, eval (.Name n p2) X.env) :: starEach [] X.env := by rfl)
    (hpl : (backTo pos (starEach [.Name n p2] X.env)).any (·.1) = false := by rfl) :
    PE X (.Call (.Name "isinstance" p) [e, .Name n p2] [] pos) (tCB (rIsi X.K T f) (tCons te (tCons (tC (.ty T)) tNil))) :=
  pe_callB hc hg hm bt_isinstance (pa_cons he (pa_cons (pe_bltn (v := .ty T) hg2 hm2 hb rfl hn hd) pa_nil hs2) hs1) (by decide) (by decide) hs1 hpl
end

/-! ### range(lo, hi, step), step above 0 -/
def Itr3 (lo c : Int) (n : Nat) : It := ⟨fun i _ => i < n, fun i H x H' => H' = H ∧ x = .int (lo + (i : Nat) * c), fun i _ => n ≤ i⟩
def rngN (i j c : Int) : Nat := (Builtin.Range.rangeSize i j c).toNat
def iRng3 (ta : TA) : TI := fun σ H R => ta σ H fun vs H1 => ∃ i j c : Int, vs = [.int i, .int j, .int c] ∧ 0 < c ∧ c < 1073741824 ∧ Builtin.Range.small i j c = true ∧ R (Itr3 i c (rngN i j c)) H1
section
variable {X : Cx} {tg : Expr}
end
theorem Same.new {H : Hp} {p : Addr} (h : H p = none) (o : HO) : Same H (upd H p o) := fun b u q => by rw [upd_ne (ne_of_none q h)]; exact q
theorem Same.tup {K : PySem.W.Frag} {H H' : Hp} {a : Addr} {xs : List V} (e : Same H H') (h : SqT K H a xs) : SqT K H' a xs := by
  rcases h with (h | ⟨o, h⟩) | h
  · exact .inl (.inl (e _ _ h))
  · exact .inl (.inr ⟨o, e _ _ h⟩)
  · exact .inr h
/-- a def with defaults -/
structure FunD (K : PySem.W.Frag) (x qual : Str) (st : Stmt) (f : Addr) (fd : FuncData) : Prop where
  ex : ∃ (oc : Value) (od : Option Addr) (dV kV doc pm : Value) (an : Option Addr) (cdv ct : Value) (osl : Array (Option Value)),
    fd = PySem.W.fnOf x qual (defArgs st) (defBody st) (defScope st) dV kV doc pm an cdv ct ∧ K.lookup f = some ⟨oc, od, .func fd, osl⟩ ∧ PySem.W.codeIn K cdv qual = true
  kp : PySem.W.keepIn K (.ref f) = true
theorem fun_mkD {K : PySem.W.Frag} {x qual : Str} {st : Stmt} {f : Addr} {oc : Value} {od an : Option Addr} {osl : Array (Option Value)} {dV kV doc pm cdv ct : Value} (l : K.lookup f = some ⟨oc, od, .func (PySem.W.fnOf x qual (defArgs st) (defBody st) (defScope st) dV kV doc pm an cdv ct), osl⟩)
    (c : PySem.W.codeIn K cdv qual = true) (k : PySem.W.keepIn K (.ref f) = true) : FunD K x qual st f (PySem.W.fnOf x qual (defArgs st) (defBody st) (defScope st) dV kV doc pm an cdv ct) := ⟨⟨oc, od, dV, kV, doc, pm, an, cdv, ct, osl, rfl, l, c⟩, k⟩
section
variable {X : Cx}
theorem op_fdivNB : OpR X (binaryOp .FloorDiv) (rI (fun _ j => j ≠ 0 ∧ Mid j) fun i j => .int (i.fdiv j)) := opI fun _ _ _ _ _ _ _ hc q => floordiv_int hc.1 q (.inl (PyProof.noPylong_of_log2 (log2_of_Mid hc.2)))
end
end L2

/-! exceptions over the layer: a flying exception behind a call, raise, try around one call -/
namespace L2
open PySem PySem.Spec PyProof.Rows

/-- how an exception lies behind a call: B holds all that stays as it is while the exception flies -/
def CXe (P : Program) (w : World) : CXT := fun outer H s E e s' => ∃ (a C : Addr) (a0 : Value) (H' : Hp) (B : Heap),
  e = .ref a ∧ s'.os = s.os ∧ AllBare s'.gens ∧ Un (frs outer) [] H H' s.heap s'.heap ∧ HOk P w H' B ∧ Heap.FlyingW B outer a (.ref C) a0 s'.heap ∧
  (∀ b o, s.heap.get? b = some o → H b = none → b ∉ frs outer → B.get? b = some o) ∧ (∀ b o, s.heap.get? b = some o → b ∉ frs outer → ∃ o', B.get? b = some o') ∧ E (.ref C) none H'

/-- no exception is wished: none comes -/
theorem passE0 {P : Program} {w : World} {X : Cx} : Passes (CXe P w) X E0 := fun _ _ _ _ _ _ _ h => by
  obtain ⟨_, _, _, _, _, _, _, _, _, _, _, _, _, q⟩ := h
  exact q.elim

section
variable {P : Program} {w : World} {K : PySem.W.Frag} {mg : Str → Option Value} {base : Heap} {N : List Str} {qual : Str} {scope : Scope} {f : Addr} {cd : Value} {A : Around} {outer : List Env} {s : Shared} {H : Hp} {E : XK}
  {pins : List (Addr × Obj)} {σ : St} {H1 : Hp} {s1 : Shared}
theorem frs_own {CX : CXT} {b : Addr} : b ∈ frs (cxOf CX P w K mg base N qual scope f cd A outer s H E).stack ↔ b = s.heap.objs.size ∨ b ∈ frs outer := by
  show b ∈ (envOfC qual scope s.heap.objs.size f cd :: outer).filterMap (·.frame) ↔ _
  rw [List.filterMap_cons]
  exact List.mem_cons
/-- an exception just made in the body leaves the def -/
theorem raises_cx {h' : Heap} {e C : Addr} {vs : List Value} (I : Inv (cxOf (CXe P w) P w K mg base N qual scope f cd A outer s H E) pins σ H1 s1) (hx : Heap.MadeExcOf s1.heap h' e (.ref C) vs) (q : E (.ref C) none H1) :
    (cxOf (CXe P w) P w K mg base N qual scope f cd A outer s H E).xe (.ref e) { s1 with heap := h' } := by
  have hin : ∀ env ∈ (cxOf (CXe P w) P w K mg base N qual scope f cd A outer s H E).stack, ∀ b, env.frame = some b → b ∈ frs (cxOf (CXe P w) P w K mg base N qual scope f cd A outer s H E).stack := fun env he b hb => List.mem_filterMap.mpr ⟨env, he, hb⟩
  have toB : ∀ b o, s1.heap.get? b = some o → b ∉ frs (cxOf (CXe P w) P w K mg base N qual scope f cd A outer s H E).stack → (PySem.W.hideAll s1.heap (frs (cxOf (CXe P w) P w K mg base N qual scope f cd A outer s H E).stack)).get? b = some o := fun b o e n => PySem.W.hideAll_get _ e n
  have hl := PySem.W.funFrames_hide (as := frs (cxOf (CXe P w) P w K mg base N qual scope f cd A outer s H E).stack) I.stack hin
  have nstk : ∀ b o, s.heap.get? b = some o → b ∉ frs outer → b ∉ frs (cxOf (CXe P w) P w K mg base N qual scope f cd A outer s H E).stack := fun b o e n z => by
    rcases frs_own.mp z with z | z
    · rw [z] at e
      exact absurd (Heap.lt_size e) (Nat.lt_irrefl _)
    · exact n z
  have hB : HOk P w H1 (PySem.W.hideAll s1.heap (frs (cxOf (CXe P w) P w K mg base N qual scope f cd A outer s H E).stack)) := fun b u eu => (I.hok b u eu).stay (fun c v hc q => toB c v q fun z => by
    have n := I.stkFree c z
    rcases hc with hc | hc
    · rw [hc, eu] at n; cases n
    · rw [hc] at n; cases n) (fun _ q => q) fun _ _ q => q
  refine wpAny_leaves_madeW (base := PySem.W.hideAll s1.heap (frs (cxOf (CXe P w) P w K mg base N qual scope f cd A outer s H E).stack)) (h := s1.heap) (s := { s1 with heap := h' }) I.ok.frames rfl (fun b o q => PySem.W.of_hideAll _ q) hl hx fun h2 t fl tup ht us => ?_
  refine ⟨e, C, .ref t, H1, _, rfl, I.os, I.bare, ?_, hB, fl, ?_, ?_, q⟩
  · have cs : ∀ b ∈ frs outer, ∀ o, s1.heap.get? b = some o → ∃ sl, h2.get? b = some { o with slots := sl } := fun b hb o e => by
      obtain ⟨_, o', e', hd⟩ := I.funs.mem hb
      rw [e] at e'; cases e'
      exact us b o (hx.keeps b o e) hd
    exact {
      keep := fun b o e n hb _ => fl.1 b o (toB b o (I.base.keep b o e n hb (by exact fun z => nomatch z)) (nstk b o e hb))
      slot := fun b o e n hb _ => by
        obtain ⟨sl, e1⟩ := I.base.slot b o e n hb (by exact fun z => nomatch z)
        obtain ⟨sl', e2⟩ := cs b hb _ e1
        exact ⟨sl', e2⟩
      free := fun b o e n _ => I.base.free b o e n (by exact fun z => nomatch z)
      there := fun b o e _ => by
        obtain ⟨o', e1⟩ := I.base.there b o e (by exact fun z => nomatch z)
        by_cases hb : b ∈ frs outer
        · obtain ⟨sl, e2⟩ := cs b hb _ e1
          exact ⟨_, e2⟩
        · exact ⟨o', fl.1 b o' (toB b o' e1 (nstk b o e hb))⟩
      tups := I.base.tups
      frzs := I.base.frzs
      tbls := I.base.tbls }
  · exact fun b o e n hb => toB b o (I.base.keep b o e n hb (by exact fun z => nomatch z)) (nstk b o e hb)
  · intro b o e hb
    obtain ⟨o', e1⟩ := I.base.there b o e (by exact fun z => nomatch z)
    exact ⟨o', toB b o' e1 (nstk b o e hb)⟩
/-- THE RULE for a def that may raise -/
theorem FunD.okE {x qual : Str} {st : Stmt} {f : Addr} {fd : FuncData} {N ps : List Str} {k : Nat} {sp : Sp} (F : FunD K x qual st f fd) (S : FnScope N ps (defScope st)) (len : ∀ vs H Q E, sp vs H Q E → vs.length = ps.length)
    (hbody : ∀ (cdv : Value) (A : Around) (outer : List Env) (s : Shared) (H : Hp) (vs : List V) (Q : VK) (E : XK), Room k (A.deeper (envOfC qual (defScope st) s.heap.objs.size f cdv)) → sp vs H Q E →
      ∃ t, PSs (cxOf (CXe P w) P w K mg base N qual (defScope st) f cdv A outer s H E) (defBody st) t ∧ t { nx := fun _ H' => Q .non H', rt := Q } (start N vs) H) : FnOk P w K mg base (CXe P w) (k + 1) f fd ps sp := by
  obtain ⟨oc, od, dV, kV, doc, pm, an, cdv, ct, osl, rfl, lk, hcd⟩ := F.ex
  exact fn_of lk hcd S len fun A outer s H vs Q E hr hsp => hbody cdv A outer s H vs Q E hr hsp
end

/-! ### raise C(..) of an own class under ValueError -/
abbrev bmVE : List Value := [.type "ValueError", .type "Exception", .type "BaseException", .type "object"]
theorem topRead_any {p : Program} {mg mb : Str → Option Value} {h : Heap} (g : h.Ns mainGlobals mg) (b : h.Ns builtinsNs mb) (nl : h.NoLimit) (bl : ∀ x : Str, x ≠ "__name__" → mb x = bootBuiltins x) :
    ∃ loose, PySem.W.TopRead p loose mg mb h := by
  obtain ⟨o, es, ep, ho, hd, hk, hm⟩ := id g
  refine ⟨es.toList.filterMap (fun (e : DictEntry) => match e.key with | .str n _ => some n | _ => none), ⟨g, b, nl, bl, fun x _ hx _ _ _ => ?_⟩⟩
  rw [← hm x]
  unfold nsFind findBy
  rw [Option.map_eq_none_iff, Array.find?_eq_none]
  intro e he hs
  obtain ⟨n, t, hn⟩ := hk e he
  apply hx
  refine List.mem_filterMap.mpr ⟨e, Array.mem_toList_iff.mpr he, ?_⟩
  rw [hn] at hs ⊢
  have e2 : n = x := by simpa [Value.isStr] using hs
  rw [e2]
def tRaise (C : Addr) (E : XK) (t : TA) : TS := fun _ σ H => t σ H fun vs H1 => vs.length ≤ sizeLine ∧ E (.ref C) none H1
/-- an exception of the class at C, just made, is as E wishes -/
def Raises (X : Cx) (C : Addr) (E : XK) : Prop := ∀ (pins : List (Addr × Obj)) (σ : St) (H : Hp) (s : Shared) (h' : Heap) (e : Addr) (vs : List Value), Inv X pins σ H s → Heap.MadeExcOf s.heap h' e (.ref C) vs → E (.ref C) none H → X.xe (.ref e) { s with heap := h' }
theorem raisesE {P : Program} {w : World} {K : PySem.W.Frag} {mg : Str → Option Value} {base : Heap} {N : List Str} {qual : Str} {scope : Scope} {f C : Addr} {cd : Value} {A : Around} {outer : List Env} {s : Shared} {H : Hp} {E : XK} :
    Raises (cxOf (CXe P w) P w K mg base N qual scope f cd A outer s H E) C E := fun _ _ _ _ _ _ _ I me q => raises_cx I me q
section
variable {X : Cx} {E : XK} {x : Str} {np cpos pos : Pos} {e0 : Expr} {es : List Expr} {t : TA} {C : Addr}
theorem ps_raise (hc : X.calm = true) (O : PySem.W.excIn X.K C bmVE "ValueError.__new__" = true) (hn : PySem.W.nsIn X.K mainGlobals x = some (some (.ref C))) (hm : X.mg x = some (.ref C)) (hg : Gl X x) (hx : Raises X C E) (ha : PA X (e0 :: es) t)
    (hd : (x == ("__debug__" : Str)) = false := by decide) (he : starEach (e0 :: es) X.env = (false, eval e0 X.env) :: starEach es X.env := by rfl) (hpl : (backTo cpos (starEach es X.env)).any (·.1) = false := by rfl) :
    PS X (.Raise (some (.Call (.Name x np) (e0 :: es) [] cpos)) none pos) (tRaise C E t) := by
  intro pins s σ H D I h
  obtain ⟨mb, b1, b2⟩ := I.mod.blt
  obtain ⟨loose, TR⟩ := topRead_any (p := X.prog) I.mod.glob b1 I.mod.nolimit b2
  have OC := PySem.W.own_of_in I.mod.kin TR hn O
  obtain ⟨tl, Nn, nm, qq, bs, hdct, sn, sub, ab, col, dd, k0, k1, k2, k3, k5, mN, oC, oN, oi, oT⟩ := OC.obj
  have hp2 : (backTo cpos (starEach (e0 :: es) X.env)).any (·.1) = false := by
    rw [he]
    show (false || (backTo cpos (starEach es X.env)).any (·.1)) = false
    rw [hpl]
    rfl
  refine wpAny_Raise_call_subU (C := C) (nm := nm) (q := qq) (N := Nn) (bs := bs) (bm := tl) (hdct := hdct) (sn := sn) (sub := sub) (ab := ab) (col := col) (dd := dd) (k0 := k0) (k1 := k1) (k2 := k2) (k3 := k3) (k5 := k5)
    PySem.F.excBase_ValueError (by decide) PySem.F.excBase_ValueError (mN := mN) (oT.hasType PySem.F.excBase_ValueError.hasBase) (I.ok.hd hc) hp2 oi (ld_glob I hg hm ⟨rfl, ?_⟩ hd)
  have hA := ha cpos pins s σ H _ I h
  rw [he] at hA ⊢
  refine Calls.evalArgs_plain (thn hA fun us s2 ⟨vs, H2, I2, r2, hl, q⟩ => ⟨rfl, by rw [← r2.length]; exact hl, I2.bk _ _ oC, oN.keeps I2.bk, oT.keeps I2.bk, fun h' e me => hx pins σ H2 s2 h' e us I2 me q⟩)
end

/-! ### try around one call -/
abbrev Cx.marked (X : Cx) (a : Addr) : Cx := { X with A := X.A.mark (some (.ref a)), calm := false }
section
variable {X : Cx} {pins : List (Addr × Obj)} {σ : St} {H H' : Hp} {s s' : Shared}
theorem Cx.Ok.marked (ok : X.Ok) (a : Addr) : (X.marked a).Ok :=
  ⟨ok.mod, ok.kind, ok.glob, ok.blt, ok.above, ok.inj, ok.has, ok.cab, (fun z => nomatch z), ok.frames, ok.stk, ok.exf, ok.bs, ok.bsz, ok.noex, ok.exfs, ok.funs, ok.frf⟩
theorem Inv.marked (I : Inv X pins σ H s) (a : Addr) : Inv (X.marked a) pins σ H s := ⟨I.ok.marked a, I.os, I.bare, I.base, I.loc, I.cell, I.free, I.freeC, I.pin, I.hok, I.len⟩
end
/-- the class at C is met by the name x, whose class is at T -/
structure Meets1 (X : Cx) (x : Str) (T : Addr) (C : Addr) (b : Bool) : Prop where
  gl : Gl X x
  m : X.mg x = some (.ref T)
  ex : PySem.W.exmOne X.K (.ref C) (.ref T) = some b
  db : (x == ("__debug__" : Str)) = false
section
variable {X : Cx} {pins : List (Addr × Obj)} {σ : St} {H : Hp} {s s' : Shared} {E : XK} {ex : Value} {x : Str} {T : Addr} {np hpos : Pos} {b0 : Stmt} {suite : List Stmt} {ts : TS} {D : Ends} {Q0 : Hp → Prop}
end
/-- x = f(..) within try, one class caught, no name -/
def tTryA (i : Nat) (sp : Sp) (dvs : List V) (T : Addr) (Mt : Addr → Prop) (t : TA) (ts : TS) : TS := fun D σ H => t σ H fun vs H1 => sp (vs ++ dvs) H1 (fun v H2 => D.nx (σ.set i (some v)) H2) fun cls _ H2 => ∃ C, cls = .ref C ∧ Mt C ∧ ts D σ H2
section
variable {X : Cx} {k : Nat} {f : Addr} {fd : FuncData} {ps : List Str} {sp : Sp} {dvs : List V} {ds : List Value} {fx x cx : Str} {p cpos px apos np hpos pos : Pos} {e : Expr} {es : List Expr} {t : TA} {T : Addr} {b0 : Stmt} {suite : List Stmt} {ts : TS} {i : Nat}
end
end L2

/-! list comprehensions over the layer: the block has a namespace of its own, the def's names come in by their cells -/
namespace L2
open PySem PySem.Spec PyProof.Rows

section
variable {prog : Program} {w : World} {A : Around} {R : Result → Shared → Prop} {s : Shared}
abbrev NB (prog : Program) (w : World) (A : Around) (env : Env) (R : Result → Shared → Prop) : Value → Shared → Prop := notedBy (model prog w) A env fun e s' => R (.error e) s'
theorem comp_loop {elt tg iter : Expr} {scope : Scope} {pos : Pos} {itv acc : Value} {env : Env} (J : Nat → Shared → Prop)
    (turn : ∀ n s, J n s → wpAny (model prog w) A (pyNext itv) (fun r s1 => match r with
      | none => R (.ok .next) s1
      | some v => wpAny (model prog w) A (letOwnedTupleGo tg itv v) (fun _ s2 => wpAny (model prog w) A (assign tg env v) (fun _ s3 => wpAny (model prog w) A (eval elt env) (fun x s4 =>
          wpAny (model prog w) A (call (.builtin "list.append") [acc, x]) (fun _ s5 => ∃ m, m < n ∧ J m s5) (NB prog w A env R) s4) (NB prog w A env R) s3) (NB prog w A env R) s2) (NB prog w A env R) s1) (NB prog w A env R) s)
    (n : Nat) (h : J n s) : codeAny (model prog w) A (.compLoop (.ListComp elt [⟨tg, iter, [], 0⟩] scope pos) 0 itv acc env) R s := by
  refine codeAny_loop rfl J (fun n s hJ => ?_) n h
  show wpAny _ _ ((compTurn (.ListComp elt [⟨tg, iter, [], 0⟩] scope pos) 0 itv acc env).onRaise (fun x => do noteFrame x env; theTreesLotGoes x)) _ _ s
  refine wpAny_noted ?_
  rw [compTurn_list1]
  refine wpAny_bind (wpAny_standAt (wpAny_bind (wpAny_mono (turn n s hJ) (fun r s1 z => ?_) fun _ _ q => q)))
  match r, z with
  | none, z => exact wpAny_pure z
  | some v, z =>
    exact wpAny_bind (wpAny_mono z (fun _ s2 z => wpAny_bind (wpAny_mono z (fun _ s3 z => wpAny_bind (wpAny_bind (wpAny_mono z (fun x s4 z =>
      wpAny_bind (wpAny_mono z (fun _ s5 z => wpAny_pure (wpAny_pure ⟨rfl, z⟩)) fun _ _ q => q)) fun _ _ q => q))) fun _ _ q => q)) fun _ _ q => q)
end

/-! ### the names that the block takes in -/
theorem closure_from {env : Env} : ∀ (names : List (Str × NameKind)) (acc : List (Str × Addr)), (∀ y ∈ names, y.2 = .free → ∃ c, env.cells.lookup y.1 = some c) → (∀ x c, acc.lookup x = some c → env.cells.lookup x = some c) →
    ∃ cl, (forIn names acc (fun (x : Str × NameKind) cs => if (x.2 == NameKind.free) = true then (do let __do_lift ← cellOf env x.1; pure (ForInStep.yield ((x.1, __do_lift) :: cs))) else pure (ForInStep.yield cs)) : Sem (List (Str × Addr))) = pure cl ∧
      (∀ x c, cl.lookup x = some c → env.cells.lookup x = some c) ∧ (∀ x, (∃ c, acc.lookup x = some c) → ∃ c, cl.lookup x = some c) ∧ ∀ y ∈ names, y.2 = .free → ∃ c, cl.lookup y.1 = some c
  | [], acc, _, ha => ⟨acc, rfl, ha, fun _ h => h, fun _ h => nomatch h⟩
  | y :: r, acc, hn, ha => by
    by_cases hf : y.2 = .free
    · obtain ⟨c, hc⟩ := hn y List.mem_cons_self hf
      obtain ⟨cl, e, h1, h2, h3⟩ := closure_from r ((y.1, c) :: acc) (fun z hz => hn z (List.mem_cons_of_mem _ hz)) (fun x d e => by
        rw [List.lookup_cons] at e
        cases q : x == y.1 with
        | true => rw [q] at e; cases e; rw [eq_of_beq q]; exact hc
        | false => rw [q] at e; exact ha x d e)
      refine ⟨cl, ?_, h1, fun x ⟨d, hd⟩ => h2 x ?_, fun z hz zf => ?_⟩
      · rw [List.forIn_cons, if_pos (by rw [hf]; rfl)]
        have ec : cellOf env y.1 = pure c := by unfold cellOf; rw [hc]
        rw [ec]
        exact e
      · rw [List.lookup_cons]
        cases q : x == y.1 with
        | true => exact ⟨c, rfl⟩
        | false => exact ⟨d, hd⟩
      · rcases List.mem_cons.mp hz with z1 | z1
        · subst z1
          exact h2 z.1 ⟨c, by rw [List.lookup_cons, beq_self_eq_true]⟩
        · exact h3 z z1 zf
    · obtain ⟨cl, e, h1, h2, h3⟩ := closure_from r acc (fun z hz => hn z (List.mem_cons_of_mem _ hz)) ha
      refine ⟨cl, ?_, h1, h2, fun z hz zf => ?_⟩
      · rw [List.forIn_cons, if_neg (by simpa using hf)]
        exact e
      · rcases List.mem_cons.mp hz with z1 | z1
        · subst z1; exact absurd zf hf
        · exact h3 z z1 zf
theorem closure_of {env : Env} {sc : Scope} (h : ∀ y ∈ sc.names, y.2 = .free → ∃ c, env.cells.lookup y.1 = some c) :
    ∃ cl, closureFor sc env = pure cl ∧ (∀ x c, cl.lookup x = some c → env.cells.lookup x = some c) ∧ ∀ y ∈ sc.names, y.2 = .free → ∃ c, cl.lookup y.1 = some c := by
  obtain ⟨cl, e, h1, _, h3⟩ := closure_from sc.names [] h (fun x c e => by simp at e)
  refine ⟨cl, ?_, h1, h3⟩
  unfold closureFor
  simp only [e]
  rfl

/-- what must be seen of a comprehension's scope: sc the block's, fr the def's names that it uses, each with its slot -/
structure CompOk (X : Cx) (tg : Str) (sc : Scope) (fr : List (Str × Nat)) : Prop where
  kind : sc.kind = .function
  nocell : ∀ y ∈ sc.names, y.2 ≠ .cell
  locs : ∀ y ∈ sc.names, y.2 = .local → sc.names.lookup y.1 = some .local
  tgl : sc.names.lookup tg = some .local
  fre : ∀ y ∈ sc.names, y.2 = .free → X.env.scope.names.lookup y.1 = some .cell ∨ X.env.scope.names.lookup y.1 = some .free
  nd : (tg :: fr.map (·.1)).Nodup
  vis : ∀ p ∈ fr, X.N[p.2]? = some p.1 ∧ (X.env.scope.names.lookup p.1 = some .cell ∨ X.env.scope.names.lookup p.1 = some .free) ∧ sc.names.lookup p.1 = some .free
/-- the block's context -/
abbrev Cx.blk (X : Cx) (Nc : List Str) (sc : Scope) (cl : List (Str × Addr)) (C : Addr) (s3 : Shared) (H3 : Hp) (fp : List Addr) : Cx :=
  { X with N := Nc, s₀ := s3, H₀ := H3, env := compEnvC sc cl C X.env, outer := X.stack, ex := fp, fn := fun _ => false, pn := [], xe := fun _ _ => False }
theorem relabel_free {env : Env} : ∀ {names : List (Str × NameKind)} {x : Str} {k : NameKind}, (∀ y ∈ names, y.2 ≠ .cell) → (k = .cell ∨ k = .free) →
    (names.map fun (n, k) => if (k == NameKind.free && env.scope.kind == .function && env.kindOf n == some .cell) then (n, NameKind.cell) else (n, k)).lookup x = some k → ∃ y ∈ names, y.1 = x ∧ y.2 = .free
  | [], _, _, _, _, e => by simp at e
  | (n, k') :: r, x, k, hn, hk, e => by
    have ih := @relabel_free env r x k (fun y hy => hn y (List.mem_cons_of_mem _ hy)) hk
    rw [List.map_cons] at e
    by_cases hc : (k' == NameKind.free && env.scope.kind == .function && env.kindOf n == some .cell) = true
    · simp only [hc, if_true, List.lookup_cons] at e
      cases q : x == n with
      | true =>
        have hf : k' = .free := by
          simp only [Bool.and_eq_true, beq_iff_eq] at hc
          exact hc.1.1
        exact ⟨(n, k'), List.mem_cons_self, (eq_of_beq q).symm, hf⟩
      | false =>
        rw [q] at e
        obtain ⟨y, h1, h2⟩ := ih e
        exact ⟨y, List.mem_cons_of_mem _ h1, h2⟩
    · simp only [hc, Bool.false_eq_true, if_false, List.lookup_cons] at e
      cases q : x == n with
      | true =>
        rw [q] at e
        have ek : k' = k := Option.some.inj e
        rcases hk with z | z
        · exact absurd (ek.trans z) (hn (n, k') List.mem_cons_self)
        · exact ⟨(n, k'), List.mem_cons_self, (eq_of_beq q).symm, ek.trans z⟩
      | false =>
        rw [q] at e
        obtain ⟨y, h1, h2⟩ := ih e
        exact ⟨y, List.mem_cons_of_mem _ h1, h2⟩
theorem relabel_seen {env : Env} : ∀ {names : List (Str × NameKind)} {x : Str}, names.lookup x = some .free →
    (names.map fun (n, k) => if (k == NameKind.free && env.scope.kind == .function && env.kindOf n == some .cell) then (n, NameKind.cell) else (n, k)).lookup x = some .cell ∨
    (names.map fun (n, k) => if (k == NameKind.free && env.scope.kind == .function && env.kindOf n == some .cell) then (n, NameKind.cell) else (n, k)).lookup x = some .free
  | [], _, e => by simp at e
  | (n, k') :: r, x, e => by
    have ih := @relabel_seen env r x
    rw [List.map_cons]
    rw [List.lookup_cons] at e
    by_cases hc : (k' == NameKind.free && env.scope.kind == .function && env.kindOf n == some .cell) = true
    · simp only [hc, if_true, List.lookup_cons]
      cases q : x == n with
      | true => exact .inl rfl
      | false => rw [q] at e; exact ih e
    · simp only [hc, Bool.false_eq_true, if_false, List.lookup_cons]
      cases q : x == n with
      | true => rw [q] at e; exact .inr e
      | false => rw [q] at e; exact ih e
section
variable {X : Cx} {pins : List (Addr × Obj)} {σ : St} {H : Hp} {s3 s4 : Shared} {tg : Str} {sc : Scope} {fr : List (Str × Nat)} {fp : List Addr} {cl : List (Str × Addr)}
def inSt (σ : St) (fr : List (Str × Nat)) : St := fr.map fun p => (σ[p.2]?).join
/-- the block begins -/
theorem blk_start (ok : CompOk X tg sc fr) (I : Inv X pins σ H s3) (hf : ∀ b ∈ fp, FpOk X pins H b) (hfo : ∀ b ∈ fp, ∃ o, s3.heap.get? b = some o) (hk : ∀ x c, cl.lookup x = some c → X.env.cells.lookup x = some c) (hc : ∀ y ∈ sc.names, y.2 = .free → ∃ c, cl.lookup y.1 = some c)
    {h4 : Heap} {t4 : Nat} (hns : ∃ m, h4.Ns s3.heap.objs.size m) (hkeep : ∀ b o, s3.heap.get? b = some o → h4.get? b = some o) :
    Inv (X.blk (tg :: fr.map (·.1)) sc cl s3.heap.objs.size s3 H fp) [] (none :: inSt σ fr) H { s3 with heap := h4, toks := t4 } := by
  have hasc : ∀ x, ((relabel sc X.env).names.lookup x = some .cell ∨ (relabel sc X.env).names.lookup x = some .free) → ∃ c, cl.lookup x = some c := fun x hx => by
    obtain ⟨y, h1, h2, h3⟩ : ∃ y ∈ sc.names, y.1 = x ∧ y.2 = .free := by
      rcases hx with z | z
      · exact relabel_free ok.nocell (.inl rfl) z
      · exact relabel_free ok.nocell (.inr rfl) z
    subst h2
    exact hc y h1 h3
  have cell4 : ∀ x c, cl.lookup x = some c → ∀ v, s3.heap.IsCell c v → h4.IsCell c v := fun x c _ v ⟨o, ho, hd⟩ => ⟨o, hkeep c o ho, hd⟩
  have fresh : H s3.heap.objs.size = none := I.hok.fresh (Nat.le_refl _)
  refine ⟨⟨I.mod, ok.kind, I.ok.glob, I.ok.blt, Nat.le_refl _, fun x y c e1 e2 => I.ok.inj x y c (hk x c e1) (hk y c e2), hasc, (fun x c e => nomatch e), I.ok.hd, I.ok.frames, .inl rfl, fun b hb => ?_, I.bs, Nat.le_trans I.ok.bsz I.sz, fun b o e hb => ?_, fun b hb z => ?_, I.stack, I.stkFree⟩,
    rfl, I.bare, Un.kept hkeep, ?_, fun x c e => ?_, fresh, fun x c e => I.freeC x c (hk x c e), (fun p hp => nomatch hp), I.hok.kept hkeep, ?_⟩
  · obtain ⟨f0, f1, f2, f3, f4, f5⟩ := hf b hb
    refine ⟨fun z => ?_, fun x c e => f4 x c (hk x c e)⟩
    obtain ⟨o, eo⟩ := hfo b hb
    have z' : b = s3.heap.objs.size := z
    rw [z'] at eo
    exact absurd (Heap.lt_size eo) (Nat.lt_irrefl _)
  · obtain ⟨f0, f1, f2, f3, f4, f5⟩ := hf b hb
    rcases f3 with z | z
    · exact I.ok.noex b o e z
    · exact absurd (Nat.lt_of_lt_of_le (Nat.lt_of_lt_of_le (Heap.lt_size e) I.ok.bsz) z) (Nat.lt_irrefl _)
  · obtain ⟨f0, f1, f2, f3, f4, f5⟩ := hf b hb
    rcases List.mem_cons.mp (I.stkSub b z) with q | q
    · exact f1 q
    · exact f2 q
  · obtain ⟨m, hn⟩ := hns
    obtain ⟨m0, _, hl0⟩ := I.loc
    refine ⟨m, hn, fun i x v e1 e2 _ => ?_⟩
    cases i with
    | zero => cases e2
    | succ i =>
      have e2' : ((fr.map fun p => (σ[p.2]?).join))[i]? = some (some v) := e2
      have e1' : (fr.map (·.1))[i]? = some x := e1
      rw [List.getElem?_map] at e1' e2'
      cases q : fr[i]? with
      | none => rw [q] at e1'; cases e1'
      | some p =>
        rw [q] at e1' e2'
        have ex : p.1 = x := Option.some.inj e1'
        have ev : (σ[p.2]?).join = some v := Option.some.inj e2'
        obtain ⟨g1, g2, g3⟩ := ok.vis p (List.mem_of_getElem? q)
        have ev' : σ[p.2]? = some (some v) := by
          cases z : σ[p.2]? with
          | none => rw [z] at ev; cases ev
          | some w => rw [z] at ev; exact congrArg some ev
        have gv : Vis X.env.scope p.1 := g2.elim (fun z => .inr (.inl z)) fun z => .inr (.inr z)
        obtain ⟨u, ru, lk⟩ := hl0 p.2 p.1 v g1 ev' gv
        subst ex
        refine ⟨u, ru, .inr ⟨relabel_seen g3, ?_⟩⟩
        rcases lk with ⟨k1, _⟩ | ⟨_, c, ec, hcell⟩
        · rcases g2 with z | z
          · have k2 : X.env.scope.names.lookup p.1 = some .local := k1
            rw [z] at k2; cases k2
          · have k2 : X.env.scope.names.lookup p.1 = some .local := k1
            rw [z] at k2; cases k2
        · obtain ⟨c', ec'⟩ := hasc p.1 (relabel_seen g3)
          have e3 := hk _ _ ec'
          rw [ec] at e3
          cases e3
          exact ⟨c, ec', cell4 _ c ec' _ hcell⟩
  · obtain ⟨v, z⟩ := I.cell x c (hk x c e)
    exact ⟨v, cell4 x c e v z⟩
  · show (none :: inSt σ fr).length = (tg :: fr.map (·.1)).length
    simp [inSt]
end

/-- [elt for x in iter]: W the invariant by the turn and a measure -/
def tLC (fr : List (Str × Nat)) (wi : TI) (te : TE) : TE := fun σ H Q => wi σ H fun J H1 => ∀ acc, H1 acc = none → ∃ W : Nat → Nat → Hp → Prop, (∃ m, W 0 m (upd H1 acc (.lst []))) ∧ ∀ i m H2, W i m H2 →
  (J.stop i H2 ∧ Q (.ref acc) H2) ∨ (J.go i H2 ∧ ∀ x H3, J.yld i H2 x H3 → te (some x :: inSt σ fr) H3 fun v H4 => ∃ xs m', H4 acc = some (.lst xs) ∧ xs.length < sizeLine ∧ m' < m ∧ W (i + 1) m' (upd H4 acc (.lst (xs ++ [v]))))
section
variable {X : Cx} {elt iter : Expr} {x : Str} {px pos : Pos} {sc : Scope} {fr : List (Str × Nat)} {wi : TI} {te : TE}
theorem pe_lc (hc : X.calm = true) (ok : CompOk X x sc fr) (hi : PI X (.Name x px) iter wi) (he : ∀ cl C s3 H3 fp, PE (X.blk (x :: fr.map (·.1)) sc cl C s3 H3 fp) elt te) (hs : ∀ x, foldedSetIterable iter X.env x = pure x := by intro _; rfl) :
    PE X (.ListComp elt [⟨.Name x px, iter, [], 0⟩] sc pos) (tLC fr wi te) := by
  intro pins s σ H Q I h
  obtain ⟨cl, ecl, hk, hcx⟩ := closure_of (env := X.env) (sc := sc) (fun y hy yf => I.ok.has y.1 (ok.fre y hy yf))
  rw [eval_ListComp]
  refine wpAny_comprehension_free (use := none) rfl hs ecl ok.kind ok.locs (thn (hi pins s σ H _ I h) fun v s1 h1 => thn h1 fun itv s2 h2 => ?_)
  obtain ⟨it, fp, tn, J, H2, e, I2, T, st2, f2, q⟩ := h2
  subst e
  have hacc : H2 s2.heap.objs.size = none := I2.hok.fresh (Nat.le_refl _)
  obtain ⟨W, ⟨m0, w0⟩, turn⟩ := q s2.heap.objs.size hacc
  refine wpAny_newObj_type ?_
  have I3 := I2.laid (a := s2.heap.objs.size) (o := .lst []) (h' := s2.heap.push { cls := .type "list", data := .seq ([] : List Value).toArray }) (t' := s2.toks) (fun b u e => Heap.get?_push_of_some _ e) (Nat.le_refl _) ⟨Nat.zero_le _, [], 0, .nil, Heap.get?_push_size _ rfl⟩
  refine wpAny_newFunctionEnv ok.nocell (by intro y hy; simp at hy) (fun h4 hns4 hsb4 => ?_) ok.kind
  generalize hs3 : ({ s2 with heap := s2.heap.push { cls := .type "list", data := .seq ([] : List Value).toArray } } : Shared) = s3 at *
  have keep4 : ∀ b o, s3.heap.get? b = some o → h4.get? b = some o := fun b o e => hsb4.extBut b o (Nat.ne_of_lt (Heap.lt_size e)) (Heap.get?_push_of_some _ e)
  have keep3 : ∀ b o, s2.heap.get? b = some o → s3.heap.get? b = some o := fun b o e => by rw [← hs3]; exact Heap.get?_push_of_some _ e
  have hfo : ∀ b ∈ fp, ∃ o, s3.heap.get? b = some o := fun b hb => by
    obtain ⟨o, eo, _⟩ := T.obj 0 _ st2 b hb
    exact ⟨o, keep3 b o eo⟩
  have f3 : ∀ b ∈ fp, FpOk X pins (upd H2 s2.heap.objs.size (.lst [])) b := fun b hb => by
    obtain ⟨o, eo, _⟩ := T.obj 0 _ st2 b hb
    exact ⟨by rw [upd_ne (Nat.ne_of_lt (Heap.lt_size eo))]; exact (f2 b hb).1, (f2 b hb).2⟩
  have I4 := blk_start (t4 := s3.toks + ([] : List (Str × Value)).length) ok I3 f3 hfo hk hcx ⟨_, hns4⟩ keep4
  have st4 : tn 0 h4 := T.keep 0 s2.heap h4 st2 fun b hb o e => keep4 b o (keep3 b o e)
  have stat : ∀ {H' : Hp}, (∀ b ∈ fp, H' b = none) → ∀ b ∈ fp, FpOk (X.blk (x :: fr.map (·.1)) sc cl s3.heap.objs.size s3 (upd H2 s2.heap.objs.size (.lst [])) fp) [] H' b := fun hn b hb =>
    ⟨hn b hb, (I4.ok.exf b hb).1, I4.ok.exfs b hb, .inl hb, (I4.ok.exf b hb).2, fun p hp => nomatch hp⟩
  have lk : (relabel sc X.env).names.lookup x = some .local := lookup_relabel_local ok.tgl
  have loop : codeAny (model X.prog X.w) X.A (.compLoop (.ListComp elt [⟨.Name x px, iter, [], 0⟩] sc pos) 0 (.ref it) (.ref s2.heap.objs.size) (compEnvC sc cl s3.heap.objs.size X.env))
      (compPost (model X.prog X.w) X.A X.xe none (EP X pins σ Q) (.ref s2.heap.objs.size) s3.heap.objs.size) { s3 with heap := h4, toks := s3.toks + ([] : List (Str × Value)).length } := by
    refine comp_loop (fun n s' => ∃ i x0 H', Inv (X.blk (x :: fr.map (·.1)) sc cl s3.heap.objs.size s3 (upd H2 s2.heap.objs.size (.lst [])) fp) [] (x0 :: inSt σ fr) H' s' ∧ tn i s'.heap ∧ (∀ b ∈ fp, H' b = none) ∧ W i n H') ?_ m0
      ⟨0, none, _, I4, st4, fun b hb => (f3 b hb).1, w0⟩
    rintro n s5 ⟨i, x0, H5, I5, st5, fr5, w5⟩
    rcases turn i n H5 w5 with ⟨stop, qq⟩ | ⟨go, step⟩
    · refine thn (T.done (X.blk (x :: fr.map (·.1)) sc cl s3.heap.objs.size s3 (upd H2 s2.heap.objs.size (.lst [])) fp) rfl rfl rfl hc i [] s5 _ H5 _ I5 (stat fr5) st5 stop) fun r s6 ⟨hr, I6⟩ => ?_
      subst hr
      obtain ⟨m6, hn6, _⟩ := I6.loc
      refine ⟨m6, hn6, fun h7 hsb7 => ?_⟩
      have ne : ∀ b o, s3.heap.get? b = some o → b ≠ s3.heap.objs.size := fun b o e => Nat.ne_of_lt (Heap.lt_size e)
      have u6 : Un (frs X.stack) fp (upd H2 s2.heap.objs.size (.lst [])) H5 s3.heap s6.heap := I6.base
      have u7 : Un (frs X.stack) fp (upd H2 s2.heap.objs.size (.lst [])) H5 s3.heap h7 := {
        keep := fun b o e n hb hx => hsb7.extBut b o (ne b o e) (u6.keep b o e n hb hx)
        slot := fun b o e n hb hx => by
          obtain ⟨sl, e1⟩ := u6.slot b o e n hb hx
          exact ⟨sl, hsb7.extBut b _ (ne b o e) e1⟩
        free := u6.free
        there := fun b o e hx => by
          obtain ⟨o', e1⟩ := u6.there b o e hx
          exact ⟨o', hsb7.extBut b _ (ne b o e) e1⟩
        tups := u6.tups
        frzs := u6.frzs
        tbls := u6.tbls }
      have hok7 : HOk X.prog X.w H5 h7 := fun b u eu => (I6.hok b u eu).stay (fun c v hcx q => hsb7.extBut c v (fun z => by
        have nf := I6.free
        have z' : H5 s3.heap.objs.size = none := nf
        rw [← z] at z'
        rcases hcx with y | y
        · rw [y, eu] at z'; cases z'
        · rw [y] at z'; cases z') q) (fun _ q => q) fun _ _ q => q
      have os6 : s6.os = s3.os := I6.os
      have bare6 := I6.bare
      obtain ⟨hh, g, d, t, os'⟩ := s6
      obtain rfl : os' = s3.os := os6
      refine ⟨.ref s2.heap.objs.size, H5, ?_, rfl, qq⟩
      show Inv X pins σ H5 { s3 with heap := h7, gens := g, drawn := d, toks := t }
      exact I3.call (h' := h7) (g' := g) (d' := d) (t' := t) (ch := fp) u7 hok7 bare6 fun b hb => ⟨(f3 b hb).2.2.2.1, (f3 b hb).2.1, (f3 b hb).2.2.2.2.1, (f3 b hb).2.2.2.2.2⟩
    · refine thn (T.item (X.blk (x :: fr.map (·.1)) sc cl s3.heap.objs.size s3 (upd H2 s2.heap.objs.size (.lst [])) fp) rfl rfl rfl hc i [] s5 _ H5 _ I5 (stat fr5) st5 go) fun r s6 ⟨u, hr, h6⟩ => ?_
      subst hr
      refine thn h6 fun _ s7 ⟨y, H7, I7, r7, y7, st7, fr7⟩ => ?_
      have I7' := I7.pinned (stat fr7) (T.obj _ _ st7)
      refine wpAny_mono (pg_name (X := X.blk (x :: fr.map (·.1)) sc cl s3.heap.objs.size s3 (upd H2 s2.heap.objs.size (.lst [])) fp) (i := 0) (pos := px) ok.nd rfl (Or.inl lk) (.inr lk) _ s7 _ H7 y u (fun σ' H' => σ' = some y :: inSt σ fr ∧ H' = H7) I7' r7 ⟨rfl, rfl⟩) (fun _ s8 z => ?_) (fun e s z => (show False from z).elim)
      obtain ⟨σ8, H8, I8, e8, e8'⟩ := z
      subst e8 e8'
      refine wpAny_mono (he cl s3.heap.objs.size s3 (upd H2 s2.heap.objs.size (.lst [])) fp _ s8 _ H8 _ I8 (step y H8 y7)) (fun v s9 z => ?_) (fun e s z => (show False from z).elim)
      obtain ⟨z, H9, I9, r9, xs, m', ha, hl, hm, w9⟩ := z
      refine wpAny_mono (mt_append (X := X.blk (x :: fr.map (·.1)) sc cl s3.heap.objs.size s3 (upd H2 s2.heap.objs.size (.lst [])) fp) _ s9 _ H9 (.ref s2.heap.objs.size) [z] (.ref s2.heap.objs.size) [v] (fun _ H' => H' = upd H9 s2.heap.objs.size (.lst (xs ++ [z]))) I9 rfl (.cons r9 .nil) ⟨_, xs, z, rfl, rfl, ha, hl, rfl⟩) (fun _ s10 z => ?_) (fun e s z => (show False from z).elim)
      obtain ⟨_, H10, I10, _, e10⟩ := z
      subst e10
      refine ⟨m', hm, i + 1, some y, _, I10.unpinned, T.keep _ _ _ st7 fun b hb o e => (I10.pin (b, o) (List.mem_append_right _ (List.mem_append_right _ (mem_pinsAt hb e)))).1, fun b hb => ?_, w9⟩
      obtain ⟨o, e, d⟩ := T.obj _ _ st7 b hb
      exact (I10.pin (b, o) (List.mem_append_right _ (List.mem_append_right _ (mem_pinsAt hb e)))).2.1
  exact codeAny_compStart_list loop (T.self X.A 0 _ _ _ st4 loop)
end
end L2

/-! more rules: sum of a list of ints, tuples of ints compared, a name set to a comprehension -/
namespace L2
open PySem PySem.Spec PyProof.Rows
section
variable {X : Cx}
theorem ints_at {vs : List Value} {ns : List Int} (h : IntsAre vs ns) : ∀ {j : Nat} {v : Value}, vs[j]? = some v → ∃ n t, ns[j]? = some n ∧ v = .int n t := by
  induction h with
  | nil => intro j v e; simp at e
  | cons n t h ih =>
    intro j v e
    cases j with
    | zero => exact ⟨n, t, rfl, (Option.some.inj e).symm⟩
    | succ j => exact ih e
/-- two tuples of ints -/
theorem tup_all {ns ms : List Int} {e : Nat → Bool} (he : ∀ j, j < ns.length → j < ms.length → e j = decide (ns[j]? = ms[j]?)) : ((List.range (min ns.length ms.length)).all e && ns.length == ms.length) = decide (ns = ms) := by
  by_cases h : ns = ms
  · subst h
    rw [decide_eq_true rfl, Nat.min_self, beq_self_eq_true, Bool.and_true, List.all_eq_true]
    intro j hj
    have := List.mem_range.mp hj
    rw [he j this this, decide_eq_true rfl]
  · rw [decide_eq_false h]
    by_cases hl : ns.length = ms.length
    · rw [hl, Nat.min_self, beq_self_eq_true, Bool.and_true, Bool.eq_false_iff]
      intro z
      rw [List.all_eq_true] at z
      apply h
      apply List.ext_getElem? 
      intro j
      by_cases hj : j < ms.length
      · have q := z j (List.mem_range.mpr hj)
        rw [he j (by omega) hj] at q
        exact of_decide_eq_true q
      · rw [List.getElem?_eq_none (by omega), List.getElem?_eq_none (by omega)]
    · have : (ns.length == ms.length) = false := by simpa using hl
      rw [this, Bool.and_false]
def rEqT (K : PySem.W.Frag) (f : Bool → Bool) : R2 := fun x y H Q => ∃ (a b : Addr) (ns ms : List Int), x = .ref a ∧ y = .ref b ∧ SqT K H a (ns.map V.int) ∧ SqT K H b (ms.map V.int) ∧ Q (.bl (f (decide (ns = ms)))) H
end
/-- y = [elt for x in iter], y in slot iy -/
def tSetLC (iy : Nat) (fr : List (Str × Nat)) (wi : TI) (te : TE) : TS := fun D σ H => tLC fr wi te σ H fun v H' => D.nx (σ.set iy (some v)) H'
section
variable {X : Cx} {elt iter : Expr} {x : Str} {px pos : Pos} {sc : Scope} {fr : List (Str × Nat)} {wi : TI} {te : TE}
theorem ps_setLC {y : Str} {py spos : Pos} {iy : Nat} (hN : X.N.Nodup) (hi' : X.N[iy]? = some y) (hy : Loc X.env.scope y) (hc : X.calm = true) (ok : CompOk X x sc fr) (hi : PI X (.Name x px) iter wi) (he : ∀ cl C s3 H3 fp, PE (X.blk (x :: fr.map (·.1)) sc cl C s3 H3 fp) elt te) (hs : ∀ x, foldedSetIterable iter X.env x = pure x := by intro _; rfl)
    (hsw : swapsWith (.ListComp elt [⟨.Name x px, iter, [], 0⟩] sc pos) (some (.Name y py)) spos.line X.env = pure true := by rfl) (hfn : X.fn y = true ∨ X.env.scope.names.lookup y = some .local := by first | exact .inl rfl | exact .inr rfl | assumption) :
    PS X (.Assign [.Name y py] (.ListComp elt [⟨.Name x px, iter, [], 0⟩] sc pos) spos) (tSetLC iy fr wi te) := by
  intro pins s σ H D I h
  obtain ⟨cl, ecl, hk, hcx⟩ := closure_of (env := X.env) (sc := sc) (fun y hy yf => I.ok.has y.1 (ok.fre y hy yf))
  rw [exec_Assign_Name_used _ _ _ _ hsw]
  refine wpAny_bind (wpAny_standAt (wpAny_bind ?_))
  show wpAny _ X.A (do let _ ← comprehension (.ListComp elt [⟨.Name x px, iter, [], 0⟩] sc pos) sc X.env _ (newList []) false (eval iter X.env) (some (assign (.Name y py) X.env))) _ _ s
  refine wpAny_bind (wpAny_mono (wpAny_comprehension_free (use := some (assign (.Name y py) X.env)) (Q := fun _ s' => SP X pins D .next s') rfl hs ecl ok.kind ok.locs ?_) (fun _ s' z => wpAny_pure (wpAny_pure z)) fun _ _ z => z)
  refine (thn (hi pins s σ H _ I h) fun v s1 h1 => thn h1 fun itv s2 h2 => ?_)
  obtain ⟨it, fp, tn, J, H2, e, I2, T, st2, f2, q⟩ := h2
  subst e
  have hacc : H2 s2.heap.objs.size = none := I2.hok.fresh (Nat.le_refl _)
  obtain ⟨W, ⟨m0, w0⟩, turn⟩ := q s2.heap.objs.size hacc
  refine wpAny_newObj_type ?_
  have I3 := I2.laid (a := s2.heap.objs.size) (o := .lst []) (h' := s2.heap.push { cls := .type "list", data := .seq ([] : List Value).toArray }) (t' := s2.toks) (fun b u e => Heap.get?_push_of_some _ e) (Nat.le_refl _) ⟨Nat.zero_le _, [], 0, .nil, Heap.get?_push_size _ rfl⟩
  refine wpAny_newFunctionEnv ok.nocell (by intro y hy; simp at hy) (fun h4 hns4 hsb4 => ?_) ok.kind
  generalize hs3 : ({ s2 with heap := s2.heap.push { cls := .type "list", data := .seq ([] : List Value).toArray } } : Shared) = s3 at *
  have keep4 : ∀ b o, s3.heap.get? b = some o → h4.get? b = some o := fun b o e => hsb4.extBut b o (Nat.ne_of_lt (Heap.lt_size e)) (Heap.get?_push_of_some _ e)
  have keep3 : ∀ b o, s2.heap.get? b = some o → s3.heap.get? b = some o := fun b o e => by rw [← hs3]; exact Heap.get?_push_of_some _ e
  have hfo : ∀ b ∈ fp, ∃ o, s3.heap.get? b = some o := fun b hb => by
    obtain ⟨o, eo, _⟩ := T.obj 0 _ st2 b hb
    exact ⟨o, keep3 b o eo⟩
  have f3 : ∀ b ∈ fp, FpOk X pins (upd H2 s2.heap.objs.size (.lst [])) b := fun b hb => by
    obtain ⟨o, eo, _⟩ := T.obj 0 _ st2 b hb
    exact ⟨by rw [upd_ne (Nat.ne_of_lt (Heap.lt_size eo))]; exact (f2 b hb).1, (f2 b hb).2⟩
  have I4 := blk_start (t4 := s3.toks + ([] : List (Str × Value)).length) ok I3 f3 hfo hk hcx ⟨_, hns4⟩ keep4
  have st4 : tn 0 h4 := T.keep 0 s2.heap h4 st2 fun b hb o e => keep4 b o (keep3 b o e)
  have stat : ∀ {H' : Hp}, (∀ b ∈ fp, H' b = none) → ∀ b ∈ fp, FpOk (X.blk (x :: fr.map (·.1)) sc cl s3.heap.objs.size s3 (upd H2 s2.heap.objs.size (.lst [])) fp) [] H' b := fun hn b hb =>
    ⟨hn b hb, (I4.ok.exf b hb).1, I4.ok.exfs b hb, .inl hb, (I4.ok.exf b hb).2, fun p hp => nomatch hp⟩
  have lk : (relabel sc X.env).names.lookup x = some .local := lookup_relabel_local ok.tgl
  have loop : codeAny (model X.prog X.w) X.A (.compLoop (.ListComp elt [⟨.Name x px, iter, [], 0⟩] sc pos) 0 (.ref it) (.ref s2.heap.objs.size) (compEnvC sc cl s3.heap.objs.size X.env))
      (compPost (model X.prog X.w) X.A X.xe (some (assign (.Name y py) X.env)) (fun _ s' => SP X pins D .next s') (.ref s2.heap.objs.size) s3.heap.objs.size) { s3 with heap := h4, toks := s3.toks + ([] : List (Str × Value)).length } := by
    refine comp_loop (fun n s' => ∃ i x0 H', Inv (X.blk (x :: fr.map (·.1)) sc cl s3.heap.objs.size s3 (upd H2 s2.heap.objs.size (.lst [])) fp) [] (x0 :: inSt σ fr) H' s' ∧ tn i s'.heap ∧ (∀ b ∈ fp, H' b = none) ∧ W i n H') ?_ m0
      ⟨0, none, _, I4, st4, fun b hb => (f3 b hb).1, w0⟩
    rintro n s5 ⟨i, x0, H5, I5, st5, fr5, w5⟩
    rcases turn i n H5 w5 with ⟨stop, qq⟩ | ⟨go, step⟩
    · refine thn (T.done (X.blk (x :: fr.map (·.1)) sc cl s3.heap.objs.size s3 (upd H2 s2.heap.objs.size (.lst [])) fp) rfl rfl rfl hc i [] s5 _ H5 _ I5 (stat fr5) st5 stop) fun r s6 ⟨hr, I6⟩ => ?_
      subst hr
      obtain ⟨m6, hn6, _⟩ := I6.loc
      have u6 : Un (frs X.stack) fp (upd H2 s2.heap.objs.size (.lst [])) H5 s3.heap s6.heap := I6.base
      have hok6 : HOk X.prog X.w H5 s6.heap := I6.hok
      have os6 : s6.os = s3.os := I6.os
      have bare6 := I6.bare
      have free6 : H5 s3.heap.objs.size = none := I6.free
      have IX : Inv X pins σ H5 s6 := by
        obtain ⟨hh, g, d, t, os'⟩ := s6
        obtain rfl : os' = s3.os := os6
        show Inv X pins σ H5 { s3 with heap := hh, gens := g, drawn := d, toks := t }
        exact I3.call (h' := hh) (g' := g) (d' := d) (t' := t) (ch := fp) u6 hok6 bare6 fun b hb => ⟨(f3 b hb).2.2.2.1, (f3 b hb).2.1, (f3 b hb).2.2.2.2.1, (f3 b hb).2.2.2.2.2⟩
      obtain ⟨oC, es, ep, hoC, hdC, rC⟩ := hn6
      have hfC : FpOk X pins H5 s3.heap.objs.size := I3.fpOk (Nat.le_refl _) free6
      have IX' : Inv X (pins ++ [(s3.heap.objs.size, oC)]) σ H5 s6 := IX.pins_of fun p hp => by
        rcases List.mem_append.mp hp with z | z
        · exact IX.pin p (List.mem_append_right _ z)
        · have z' := List.mem_singleton.mp z
          subst z'
          exact ⟨hoC, free6, hfC.2.1, hfC.2.2.1, fun v z => by
            have z2 : oC.data = .cell v := z
            rw [hdC] at z2; cases z2⟩
      refine thn (pg_name (X := X) (i := iy) (pos := py) hN hi' hy hfn _ s6 σ H5 (.ref s2.heap.objs.size) (.ref s2.heap.objs.size) (fun σ' H' => σ' = σ.set iy (some (.ref s2.heap.objs.size)) ∧ H' = H5) IX' rfl ⟨rfl, rfl⟩) fun _ s7 z => ?_
      obtain ⟨σ7, H7, I7, e7, e7'⟩ := z
      subst e7 e7'
      have pC := I7.pin (s3.heap.objs.size, oC) (List.mem_append_right _ (List.mem_append_right _ (List.mem_singleton.mpr rfl)))
      refine ⟨m6, ⟨oC, es, ep, pC.1, hdC, rC⟩, fun h8 hsb8 => ?_⟩
      have I7u : Inv X pins (σ.set iy (some (.ref s2.heap.objs.size))) H7 s7 := I7.unpinned
      refine ⟨_, H7, ?_, qq⟩
      exact I7u.turned (it := s3.heap.objs.size) (t' := s7.toks) (fun b o hb e => hsb8.extBut b o hb e) free6 hfC.2.1 hfC.2.2.2.1 hfC.2.2.2.2.1 hfC.2.2.2.2.2
    · refine thn (T.item (X.blk (x :: fr.map (·.1)) sc cl s3.heap.objs.size s3 (upd H2 s2.heap.objs.size (.lst [])) fp) rfl rfl rfl hc i [] s5 _ H5 _ I5 (stat fr5) st5 go) fun r s6 ⟨u, hr, h6⟩ => ?_
      subst hr
      refine thn h6 fun _ s7 ⟨y, H7, I7, r7, y7, st7, fr7⟩ => ?_
      have I7' := I7.pinned (stat fr7) (T.obj _ _ st7)
      refine wpAny_mono (pg_name (X := X.blk (x :: fr.map (·.1)) sc cl s3.heap.objs.size s3 (upd H2 s2.heap.objs.size (.lst [])) fp) (i := 0) (pos := px) ok.nd rfl (Or.inl lk) (.inr lk) _ s7 _ H7 y u (fun σ' H' => σ' = some y :: inSt σ fr ∧ H' = H7) I7' r7 ⟨rfl, rfl⟩) (fun _ s8 z => ?_) (fun e s z => (show False from z).elim)
      obtain ⟨σ8, H8, I8, e8, e8'⟩ := z
      subst e8 e8'
      refine wpAny_mono (he cl s3.heap.objs.size s3 (upd H2 s2.heap.objs.size (.lst [])) fp _ s8 _ H8 _ I8 (step y H8 y7)) (fun v s9 z => ?_) (fun e s z => (show False from z).elim)
      obtain ⟨z, H9, I9, r9, xs, m', ha, hl, hm, w9⟩ := z
      refine wpAny_mono (mt_append (X := X.blk (x :: fr.map (·.1)) sc cl s3.heap.objs.size s3 (upd H2 s2.heap.objs.size (.lst [])) fp) _ s9 _ H9 (.ref s2.heap.objs.size) [z] (.ref s2.heap.objs.size) [v] (fun _ H' => H' = upd H9 s2.heap.objs.size (.lst (xs ++ [z]))) I9 rfl (.cons r9 .nil) ⟨_, xs, z, rfl, rfl, ha, hl, rfl⟩) (fun _ s10 z => ?_) (fun e s z => (show False from z).elim)
      obtain ⟨_, H10, I10, _, e10⟩ := z
      subst e10
      refine ⟨m', hm, i + 1, some y, _, I10.unpinned, T.keep _ _ _ st7 fun b hb o e => (I10.pin (b, o) (List.mem_append_right _ (List.mem_append_right _ (mem_pinsAt hb e)))).1, fun b hb => ?_, w9⟩
      obtain ⟨o, e, d⟩ := T.obj _ _ st7 b hb
      exact (I10.pin (b, o) (List.mem_append_right _ (List.mem_append_right _ (mem_pinsAt hb e)))).2.1
  exact codeAny_compStart_list loop (T.self X.A 0 _ _ _ st4 loop)
end
end L2

/-! a comprehension's scope seen by reckoning -/
namespace L2
open PySem PySem.Spec PyProof.Rows
def compOkB (osc : Scope) (N : List Str) (tg : Str) (sc : Scope) (fr : List (Str × Nat)) : Bool :=
  decide (sc.kind = .function) && (sc.names.all fun y => decide (y.2 ≠ .cell)) && (sc.names.all fun y => decide (y.2 ≠ .local) || decide (sc.names.lookup y.1 = some .local)) && decide (sc.names.lookup tg = some .local) &&
  (sc.names.all fun y => decide (y.2 ≠ .free) || decide (osc.names.lookup y.1 = some .cell) || decide (osc.names.lookup y.1 = some .free)) && decide ((tg :: fr.map (·.1)).Nodup) &&
  (fr.all fun p => decide (N[p.2]? = some p.1) && (decide (osc.names.lookup p.1 = some .cell) || decide (osc.names.lookup p.1 = some .free)) && decide (sc.names.lookup p.1 = some .free))
theorem compOk_of {X : Cx} {tg : Str} {sc : Scope} {fr : List (Str × Nat)} {osc : Scope} {N : List Str} (ho : X.env.scope = osc) (hN : X.N = N) (h : compOkB osc N tg sc fr = true) : CompOk X tg sc fr := by
  subst ho hN
  unfold compOkB at h
  simp only [Bool.and_eq_true, decide_eq_true_eq, List.all_eq_true, Bool.or_eq_true] at h
  obtain ⟨⟨⟨⟨⟨⟨h1, h2⟩, h3⟩, h4⟩, h5⟩, h6⟩, h7⟩ := h
  refine ⟨h1, h2, fun y hy e => ?_, h4, fun y hy e => ?_, h6, fun p hp => ?_⟩
  · rcases h3 y hy with z | z
    · exact absurd e z
    · exact z
  · rcases h5 y hy with (z | z) | z
    · exact absurd e z
    · exact .inl z
    · exact .inr z
  · obtain ⟨⟨a, b⟩, c⟩ := h7 p hp
    exact ⟨a, b, c⟩
end L2

namespace L2
open PySem
end L2

namespace L2
open PySem
theorem pa_consI {X : Cx} {es : List Expr} {t : TA} {i : Int} {j} {pos : Pos} (hr : PA X es t) : PA X (.Constant (.int i) j pos :: es) (tCons (tC (.int i)) t) := pa_cons pe_int hr rfl
end L2

namespace L2
open PySem
def intsOf : List Expr → Option (List Int)
  | [] => some []
  | .Constant (.int i) _ _ :: es => (intsOf es).map (i :: ·)
  | _ :: _ => none
def tInts (ns : List Int) : TA := fun _ H Q => Q (ns.map V.int) H
theorem pa_ints {X : Cx} {es : List Expr} (ns : List Int) (h : intsOf es = some ns) : PA X es (tInts ns) := by
  induction es generalizing ns with
  | nil =>
    have e : ns = [] := (Option.some.inj h).symm
    subst e
    exact pa_nil
  | cons e es ih =>
    unfold intsOf at h
    split at h
    · rename_i he; cases he
    · rename_i i j pos es' he
      obtain ⟨rfl, rfl⟩ := List.cons.inj he
      cases hr : intsOf es with
      | none => rw [hr] at h; cases h
      | some ms =>
        rw [hr] at h
        have e : ns = i :: ms := (Option.some.inj h).symm
        subst e
        exact pa_consI (j := j) (pos := pos) (ih ms hr)
    · cases h
end L2

/-! comprehensions with any target and a test: the block's own names stand first, then the def's names that it uses -/
namespace L2
open PySem PySem.Spec PyProof.Rows
section
variable {prog : Program} {w : World} {A : Around} {R : Result → Shared → Prop} {s : Shared}
abbrev testsOf (ifs : List Expr) (env : Env) : Sem Bool := forIn ifs true fun c r => if r = true then do let ok ← isTrue c env (eval c env); pure (ForInStep.yield ok) else pure (ForInStep.yield r)
theorem comp_loopG {elt tg iter : Expr} {ifs : List Expr} {scope : Scope} {pos : Pos} {itv acc : Value} {env : Env} (J : Nat → Shared → Prop)
    (turn : ∀ n s, J n s → wpAny (model prog w) A (pyNext itv) (fun r s1 => match r with
      | none => R (.ok .next) s1
      | some v => wpAny (model prog w) A (letOwnedTupleGo tg itv v) (fun _ s2 => wpAny (model prog w) A (assign tg env v) (fun _ s3 => wpAny (model prog w) A (testsOf ifs env) (fun ok s4 =>
          if ok = true then wpAny (model prog w) A (eval elt env) (fun x s5 => wpAny (model prog w) A (call (.builtin "list.append") [acc, x]) (fun _ s6 => ∃ m, m < n ∧ J m s6) (NB prog w A env R) s5) (NB prog w A env R) s4
          else ∃ m, m < n ∧ J m s4) (NB prog w A env R) s3) (NB prog w A env R) s2) (NB prog w A env R) s1) (NB prog w A env R) s)
    (n : Nat) (h : J n s) : codeAny (model prog w) A (.compLoop (.ListComp elt [⟨tg, iter, ifs, 0⟩] scope pos) 0 itv acc env) R s := by
  refine codeAny_loop rfl J (fun n s hJ => ?_) n h
  show wpAny _ _ ((compTurn (.ListComp elt [⟨tg, iter, ifs, 0⟩] scope pos) 0 itv acc env).onRaise (fun x => do noteFrame x env; theTreesLotGoes x)) _ _ s
  refine wpAny_noted ?_
  rw [compTurn_list]
  refine wpAny_bind (wpAny_standAt (wpAny_bind (wpAny_mono (turn n s hJ) (fun r s1 z => ?_) fun _ _ q => q)))
  match r, z with
  | none, z => exact wpAny_pure z
  | some v, z =>
    refine wpAny_bind (wpAny_mono z (fun _ s2 z => wpAny_bind (wpAny_mono z (fun _ s3 z => wpAny_bind (wpAny_mono z (fun ok s4 z => ?_) fun _ _ q => q)) fun _ _ q => q)) fun _ _ q => q)
    cases ok with
    | true =>
      have z' := (if_pos rfl).mp z
      exact wpAny_bind (wpAny_bind (wpAny_mono z' (fun x s5 z => wpAny_bind (wpAny_mono z (fun _ s6 z => wpAny_pure (wpAny_pure ⟨rfl, z⟩)) fun _ _ q => q)) fun _ _ q => q))
    | false =>
      have z' := (if_neg Bool.false_ne_true).mp z
      exact wpAny_bind (wpAny_pure (wpAny_pure ⟨rfl, z'⟩))
end
/-- what must be seen of a comprehension's scope: tgs its own names, fr the def's names that it uses, each with its slot -/
structure CompOkG (X : Cx) (tgs : List Str) (sc : Scope) (fr : List (Str × Nat)) : Prop where
  kind : sc.kind = .function
  nocell : ∀ y ∈ sc.names, y.2 ≠ .cell
  locs : ∀ y ∈ sc.names, y.2 = .local → sc.names.lookup y.1 = some .local
  fre : ∀ y ∈ sc.names, y.2 = .free → X.env.scope.names.lookup y.1 = some .cell ∨ X.env.scope.names.lookup y.1 = some .free
  nd : (tgs ++ fr.map (·.1)).Nodup
  vis : ∀ p ∈ fr, X.N[p.2]? = some p.1 ∧ (X.env.scope.names.lookup p.1 = some .cell ∨ X.env.scope.names.lookup p.1 = some .free) ∧ sc.names.lookup p.1 = some .free
/-- the tests of a comprehension -/
def PIF (X : Cx) (ifs : List Expr) (t : TT) : Prop :=
  ∀ (pins : List (Addr × Obj)) (s : Shared) (σ : St) (H : Hp) (Q : Bool → Hp → Prop), Inv X pins σ H s → t σ H Q → wpAny (model X.prog X.w) X.A (testsOf ifs X.env) (TP X pins σ Q) X.xe s
def tYes : TT := fun _ H Q => Q true H
theorem pif_nil {X : Cx} : PIF X [] tYes := fun _ _ _ H _ I h => wpAny_tests_nil ⟨H, I, h⟩
theorem pif_one {X : Cx} {c : Expr} {t : TT} (h : PT X c t) : PIF X [c] t := fun pins s σ H Q I q => wpAny_tests_one (h pins s σ H Q I q)
section
variable {X : Cx} {pins : List (Addr × Obj)} {σ : St} {H : Hp} {s3 s4 : Shared} {tgs : List Str} {sc : Scope} {fr : List (Str × Nat)} {fp : List Addr} {cl : List (Str × Addr)}
/-- the block begins -/
theorem blk_startG (ok : CompOkG X tgs sc fr) (I : Inv X pins σ H s3) (hf : ∀ b ∈ fp, FpOk X pins H b) (hfo : ∀ b ∈ fp, ∃ o, s3.heap.get? b = some o) (hk : ∀ x c, cl.lookup x = some c → X.env.cells.lookup x = some c) (hc : ∀ y ∈ sc.names, y.2 = .free → ∃ c, cl.lookup y.1 = some c)
    {h4 : Heap} {t4 : Nat} (hns : ∃ m, h4.Ns s3.heap.objs.size m) (hkeep : ∀ b o, s3.heap.get? b = some o → h4.get? b = some o) :
    Inv (X.blk (tgs ++ fr.map (·.1)) sc cl s3.heap.objs.size s3 H fp) [] (List.replicate tgs.length none ++ inSt σ fr) H { s3 with heap := h4, toks := t4 } := by
  have hasc : ∀ x, ((relabel sc X.env).names.lookup x = some .cell ∨ (relabel sc X.env).names.lookup x = some .free) → ∃ c, cl.lookup x = some c := fun x hx => by
    obtain ⟨y, h1, h2, h3⟩ : ∃ y ∈ sc.names, y.1 = x ∧ y.2 = .free := by
      rcases hx with z | z
      · exact relabel_free ok.nocell (.inl rfl) z
      · exact relabel_free ok.nocell (.inr rfl) z
    subst h2
    exact hc y h1 h3
  have cell4 : ∀ x c, cl.lookup x = some c → ∀ v, s3.heap.IsCell c v → h4.IsCell c v := fun x c _ v ⟨o, ho, hd⟩ => ⟨o, hkeep c o ho, hd⟩
  have fresh : H s3.heap.objs.size = none := I.hok.fresh (Nat.le_refl _)
  refine ⟨⟨I.mod, ok.kind, I.ok.glob, I.ok.blt, Nat.le_refl _, fun x y c e1 e2 => I.ok.inj x y c (hk x c e1) (hk y c e2), hasc, (fun x c e => nomatch e), I.ok.hd, I.ok.frames, .inl rfl, fun b hb => ?_, I.bs, Nat.le_trans I.ok.bsz I.sz, fun b o e hb => ?_, fun b hb z => ?_, I.stack, I.stkFree⟩,
    rfl, I.bare, Un.kept hkeep, ?_, fun x c e => ?_, fresh, fun x c e => I.freeC x c (hk x c e), (fun p hp => nomatch hp), I.hok.kept hkeep, ?_⟩
  · obtain ⟨f0, f1, f2, f3, f4, f5⟩ := hf b hb
    refine ⟨fun z => ?_, fun x c e => f4 x c (hk x c e)⟩
    obtain ⟨o, eo⟩ := hfo b hb
    have z' : b = s3.heap.objs.size := z
    rw [z'] at eo
    exact absurd (Heap.lt_size eo) (Nat.lt_irrefl _)
  · obtain ⟨f0, f1, f2, f3, f4, f5⟩ := hf b hb
    rcases f3 with z | z
    · exact I.ok.noex b o e z
    · exact absurd (Nat.lt_of_lt_of_le (Nat.lt_of_lt_of_le (Heap.lt_size e) I.ok.bsz) z) (Nat.lt_irrefl _)
  · obtain ⟨f0, f1, f2, f3, f4, f5⟩ := hf b hb
    rcases List.mem_cons.mp (I.stkSub b z) with q | q
    · exact f1 q
    · exact f2 q
  · obtain ⟨m, hn⟩ := hns
    obtain ⟨m0, _, hl0⟩ := I.loc
    refine ⟨m, hn, fun i x v e1 e2 _ => ?_⟩
    have hge : tgs.length ≤ i := by
      rcases Nat.lt_or_ge i tgs.length with z | z
      · rw [List.getElem?_append_left (by rw [List.length_replicate]; exact z), List.getElem?_replicate, if_pos z] at e2
        cases e2
      · exact z
    have e1x : (tgs ++ fr.map (·.1))[i]? = some x := e1
    rw [List.getElem?_append_right hge] at e1x
    rw [List.getElem?_append_right (by rw [List.length_replicate]; exact hge), List.length_replicate] at e2
    generalize i - tgs.length = i at *
    · have e2' : ((fr.map fun p => (σ[p.2]?).join))[i]? = some (some v) := e2
      have e1' : (fr.map (·.1))[i]? = some x := e1x
      rw [List.getElem?_map] at e1' e2'
      cases q : fr[i]? with
      | none => rw [q] at e1'; cases e1'
      | some p =>
        rw [q] at e1' e2'
        have ex : p.1 = x := Option.some.inj e1'
        have ev : (σ[p.2]?).join = some v := Option.some.inj e2'
        obtain ⟨g1, g2, g3⟩ := ok.vis p (List.mem_of_getElem? q)
        have ev' : σ[p.2]? = some (some v) := by
          cases z : σ[p.2]? with
          | none => rw [z] at ev; cases ev
          | some w => rw [z] at ev; exact congrArg some ev
        have gv : Vis X.env.scope p.1 := g2.elim (fun z => .inr (.inl z)) fun z => .inr (.inr z)
        obtain ⟨u, ru, lk⟩ := hl0 p.2 p.1 v g1 ev' gv
        subst ex
        refine ⟨u, ru, .inr ⟨relabel_seen g3, ?_⟩⟩
        rcases lk with ⟨k1, _⟩ | ⟨_, c, ec, hcell⟩
        · rcases g2 with z | z
          · have k2 : X.env.scope.names.lookup p.1 = some .local := k1
            rw [z] at k2; cases k2
          · have k2 : X.env.scope.names.lookup p.1 = some .local := k1
            rw [z] at k2; cases k2
        · obtain ⟨c', ec'⟩ := hasc p.1 (relabel_seen g3)
          have e3 := hk _ _ ec'
          rw [ec] at e3
          cases e3
          exact ⟨c, ec', cell4 _ c ec' _ hcell⟩
  · obtain ⟨v, z⟩ := I.cell x c (hk x c e)
    exact ⟨v, cell4 x c e v z⟩
  · show (List.replicate tgs.length none ++ inSt σ fr).length = (tgs ++ fr.map (·.1)).length
    simp [inSt]
end


/-- [elt for target in iter if test]: W the invariant by the turn, a measure and the block's names -/
def tLCG (k : Nat) (fr : List (Str × Nat)) (wi : TI) (g : TG) (tc : TT) (te : TE) : TE := fun σ H Q => wi σ H fun J H1 => ∀ acc, H1 acc = none → ∃ W : Nat → Nat → St → Hp → Prop, (∃ m, W 0 m (List.replicate k none ++ inSt σ fr) (upd H1 acc (.lst []))) ∧ ∀ i m σb H2, W i m σb H2 →
  (J.stop i H2 ∧ Q (.ref acc) H2) ∨ (J.go i H2 ∧ ∀ x H3, J.yld i H2 x H3 → g x σb H3 fun σ2 H4 => tc σ2 H4 fun b H5 =>
    if b = true then te σ2 H5 fun v H6 => ∃ xs m', H6 acc = some (.lst xs) ∧ xs.length < sizeLine ∧ m' < m ∧ W (i + 1) m' σ2 (upd H6 acc (.lst (xs ++ [v]))) else ∃ m', m' < m ∧ W (i + 1) m' σ2 H5)
section
variable {X : Cx} {elt iter tg : Expr} {ifs : List Expr} {tgs : List Str} {pos : Pos} {sc : Scope} {fr : List (Str × Nat)} {wi : TI} {te : TE} {g : TG} {tc : TT}
theorem pe_lcG (hc : X.calm = true) (ok : CompOkG X tgs sc fr) (hi : PI X tg iter wi) (hg : ∀ cl C s3 H3 fp, PG (X.blk (tgs ++ fr.map (·.1)) sc cl C s3 H3 fp) tg g) (ht : ∀ cl C s3 H3 fp, PIF (X.blk (tgs ++ fr.map (·.1)) sc cl C s3 H3 fp) ifs tc) (he : ∀ cl C s3 H3 fp, PE (X.blk (tgs ++ fr.map (·.1)) sc cl C s3 H3 fp) elt te) (hs : ∀ x, foldedSetIterable iter X.env x = pure x := by intro _; rfl) :
    PE X (.ListComp elt [⟨tg, iter, ifs, 0⟩] sc pos) (tLCG tgs.length fr wi g tc te) := by
  intro pins s σ H Q I h
  obtain ⟨cl, ecl, hk, hcx⟩ := closure_of (env := X.env) (sc := sc) (fun y hy yf => I.ok.has y.1 (ok.fre y hy yf))
  rw [eval_ListComp]
  refine wpAny_comprehension_free (use := none) rfl hs ecl ok.kind ok.locs (thn (hi pins s σ H _ I h) fun v s1 h1 => thn h1 fun itv s2 h2 => ?_)
  obtain ⟨it, fp, tn, J, H2, e, I2, T, st2, f2, q⟩ := h2
  subst e
  have hacc : H2 s2.heap.objs.size = none := I2.hok.fresh (Nat.le_refl _)
  obtain ⟨W, ⟨m0, w0⟩, turn⟩ := q s2.heap.objs.size hacc
  refine wpAny_newObj_type ?_
  have I3 := I2.laid (a := s2.heap.objs.size) (o := .lst []) (h' := s2.heap.push { cls := .type "list", data := .seq ([] : List Value).toArray }) (t' := s2.toks) (fun b u e => Heap.get?_push_of_some _ e) (Nat.le_refl _) ⟨Nat.zero_le _, [], 0, .nil, Heap.get?_push_size _ rfl⟩
  refine wpAny_newFunctionEnv ok.nocell (by intro y hy; simp at hy) (fun h4 hns4 hsb4 => ?_) ok.kind
  generalize hs3 : ({ s2 with heap := s2.heap.push { cls := .type "list", data := .seq ([] : List Value).toArray } } : Shared) = s3 at *
  have keep4 : ∀ b o, s3.heap.get? b = some o → h4.get? b = some o := fun b o e => hsb4.extBut b o (Nat.ne_of_lt (Heap.lt_size e)) (Heap.get?_push_of_some _ e)
  have keep3 : ∀ b o, s2.heap.get? b = some o → s3.heap.get? b = some o := fun b o e => by rw [← hs3]; exact Heap.get?_push_of_some _ e
  have hfo : ∀ b ∈ fp, ∃ o, s3.heap.get? b = some o := fun b hb => by
    obtain ⟨o, eo, _⟩ := T.obj 0 _ st2 b hb
    exact ⟨o, keep3 b o eo⟩
  have f3 : ∀ b ∈ fp, FpOk X pins (upd H2 s2.heap.objs.size (.lst [])) b := fun b hb => by
    obtain ⟨o, eo, _⟩ := T.obj 0 _ st2 b hb
    exact ⟨by rw [upd_ne (Nat.ne_of_lt (Heap.lt_size eo))]; exact (f2 b hb).1, (f2 b hb).2⟩
  have I4 := blk_startG (t4 := s3.toks + ([] : List (Str × Value)).length) ok I3 f3 hfo hk hcx ⟨_, hns4⟩ keep4
  have st4 : tn 0 h4 := T.keep 0 s2.heap h4 st2 fun b hb o e => keep4 b o (keep3 b o e)
  have stat : ∀ {H' : Hp}, (∀ b ∈ fp, H' b = none) → ∀ b ∈ fp, FpOk (X.blk (tgs ++ fr.map (·.1)) sc cl s3.heap.objs.size s3 (upd H2 s2.heap.objs.size (.lst [])) fp) [] H' b := fun hn b hb =>
    ⟨hn b hb, (I4.ok.exf b hb).1, I4.ok.exfs b hb, .inl hb, (I4.ok.exf b hb).2, fun p hp => nomatch hp⟩
  have loop : codeAny (model X.prog X.w) X.A (.compLoop (.ListComp elt [⟨tg, iter, ifs, 0⟩] sc pos) 0 (.ref it) (.ref s2.heap.objs.size) (compEnvC sc cl s3.heap.objs.size X.env))
      (compPost (model X.prog X.w) X.A X.xe none (EP X pins σ Q) (.ref s2.heap.objs.size) s3.heap.objs.size) { s3 with heap := h4, toks := s3.toks + ([] : List (Str × Value)).length } := by
    refine comp_loopG (fun n s' => ∃ i σb H', Inv (X.blk (tgs ++ fr.map (·.1)) sc cl s3.heap.objs.size s3 (upd H2 s2.heap.objs.size (.lst [])) fp) [] σb H' s' ∧ tn i s'.heap ∧ (∀ b ∈ fp, H' b = none) ∧ W i n σb H') ?_ m0
      ⟨0, _, _, I4, st4, fun b hb => (f3 b hb).1, w0⟩
    rintro n s5 ⟨i, σb, H5, I5, st5, fr5, w5⟩
    rcases turn i n σb H5 w5 with ⟨stop, qq⟩ | ⟨go, step⟩
    · refine thn (T.done (X.blk (tgs ++ fr.map (·.1)) sc cl s3.heap.objs.size s3 (upd H2 s2.heap.objs.size (.lst [])) fp) rfl rfl rfl hc i [] s5 _ H5 _ I5 (stat fr5) st5 stop) fun r s6 ⟨hr, I6⟩ => ?_
      subst hr
      obtain ⟨m6, hn6, _⟩ := I6.loc
      refine ⟨m6, hn6, fun h7 hsb7 => ?_⟩
      have ne : ∀ b o, s3.heap.get? b = some o → b ≠ s3.heap.objs.size := fun b o e => Nat.ne_of_lt (Heap.lt_size e)
      have u6 : Un (frs X.stack) fp (upd H2 s2.heap.objs.size (.lst [])) H5 s3.heap s6.heap := I6.base
      have u7 : Un (frs X.stack) fp (upd H2 s2.heap.objs.size (.lst [])) H5 s3.heap h7 := {
        keep := fun b o e n hb hx => hsb7.extBut b o (ne b o e) (u6.keep b o e n hb hx)
        slot := fun b o e n hb hx => by
          obtain ⟨sl, e1⟩ := u6.slot b o e n hb hx
          exact ⟨sl, hsb7.extBut b _ (ne b o e) e1⟩
        free := u6.free
        there := fun b o e hx => by
          obtain ⟨o', e1⟩ := u6.there b o e hx
          exact ⟨o', hsb7.extBut b _ (ne b o e) e1⟩
        tups := u6.tups
        frzs := u6.frzs
        tbls := u6.tbls }
      have hok7 : HOk X.prog X.w H5 h7 := fun b u eu => (I6.hok b u eu).stay (fun c v hcx q => hsb7.extBut c v (fun z => by
        have nf := I6.free
        have z' : H5 s3.heap.objs.size = none := nf
        rw [← z] at z'
        rcases hcx with y | y
        · rw [y, eu] at z'; cases z'
        · rw [y] at z'; cases z') q) (fun _ q => q) fun _ _ q => q
      have os6 : s6.os = s3.os := I6.os
      have bare6 := I6.bare
      obtain ⟨hh, g, d, t, os'⟩ := s6
      obtain rfl : os' = s3.os := os6
      refine ⟨.ref s2.heap.objs.size, H5, ?_, rfl, qq⟩
      show Inv X pins σ H5 { s3 with heap := h7, gens := g, drawn := d, toks := t }
      exact I3.call (h' := h7) (g' := g) (d' := d) (t' := t) (ch := fp) u7 hok7 bare6 fun b hb => ⟨(f3 b hb).2.2.2.1, (f3 b hb).2.1, (f3 b hb).2.2.2.2.1, (f3 b hb).2.2.2.2.2⟩
    · refine thn (T.item (X.blk (tgs ++ fr.map (·.1)) sc cl s3.heap.objs.size s3 (upd H2 s2.heap.objs.size (.lst [])) fp) rfl rfl rfl hc i [] s5 _ H5 _ I5 (stat fr5) st5 go) fun r s6 ⟨u, hr, h6⟩ => ?_
      subst hr
      refine thn h6 fun _ s7 ⟨y, H7, I7, r7, y7, st7, fr7⟩ => ?_
      have I7' := I7.pinned (stat fr7) (T.obj _ _ st7)
      refine wpAny_mono (hg cl s3.heap.objs.size s3 (upd H2 s2.heap.objs.size (.lst [])) fp _ s7 _ H7 y u _ I7' r7 (step y H7 y7)) (fun _ s8 z => ?_) (fun e s z => (show False from z).elim)
      obtain ⟨σ8, H8, I8, q8⟩ := z
      refine wpAny_mono (ht cl s3.heap.objs.size s3 (upd H2 s2.heap.objs.size (.lst [])) fp _ s8 σ8 H8 _ I8 q8) (fun b s8' z => ?_) (fun e s z => (show False from z).elim)
      obtain ⟨H8', I8', q8'⟩ := z
      have goOn : ∀ {s10 : Shared} {H10 : Hp} {m' : Nat}, Inv (X.blk (tgs ++ fr.map (·.1)) sc cl s3.heap.objs.size s3 (upd H2 s2.heap.objs.size (.lst [])) fp) _ σ8 H10 s10 → m' < n → W (i + 1) m' σ8 H10 → ∃ m, m < n ∧ ∃ i σb H', Inv (X.blk (tgs ++ fr.map (·.1)) sc cl s3.heap.objs.size s3 (upd H2 s2.heap.objs.size (.lst [])) fp) [] σb H' s10 ∧ tn i s10.heap ∧ (∀ b ∈ fp, H' b = none) ∧ W i m σb H' := fun {s10 H10 m'} I10 hm w9 => by
        refine ⟨m', hm, i + 1, σ8, _, I10.unpinned, T.keep _ _ _ st7 fun b hb o e => (I10.pin (b, o) (List.mem_append_right _ (List.mem_append_right _ (mem_pinsAt hb e)))).1, fun b hb => ?_, w9⟩
        obtain ⟨o, e, d⟩ := T.obj _ _ st7 b hb
        exact (I10.pin (b, o) (List.mem_append_right _ (List.mem_append_right _ (mem_pinsAt hb e)))).2.1
      cases b with
      | false =>
        obtain ⟨m', hm, w9⟩ := (if_neg Bool.false_ne_true).mp q8'
        exact (if_neg Bool.false_ne_true).mpr (goOn I8' hm w9)
      | true =>
        refine (if_pos rfl).mpr ?_
        refine wpAny_mono (he cl s3.heap.objs.size s3 (upd H2 s2.heap.objs.size (.lst [])) fp _ s8' _ H8' _ I8' ((if_pos rfl).mp q8')) (fun v s9 z => ?_) (fun e s z => (show False from z).elim)
        obtain ⟨z, H9, I9, r9, xs, m', ha, hl, hm, w9⟩ := z
        refine wpAny_mono (mt_append (X := X.blk (tgs ++ fr.map (·.1)) sc cl s3.heap.objs.size s3 (upd H2 s2.heap.objs.size (.lst [])) fp) _ s9 _ H9 (.ref s2.heap.objs.size) [z] (.ref s2.heap.objs.size) [v] (fun _ H' => H' = upd H9 s2.heap.objs.size (.lst (xs ++ [z]))) I9 rfl (.cons r9 .nil) ⟨_, xs, z, rfl, rfl, ha, hl, rfl⟩) (fun _ s10 z => ?_) (fun e s z => (show False from z).elim)
        obtain ⟨_, H10, I10, _, e10⟩ := z
        subst e10
        exact goOn I10 hm w9
  exact codeAny_compStart_list loop (T.self X.A 0 _ _ _ st4 loop)
end
end L2

/-! two rules more: names set to a list's items, tuples of ints alike -/
namespace L2
open PySem PySem.Spec PyProof.Rows
section
variable {X : Cx}
theorem op_eqT (hu : X.A.units < cLine) : OpR X (compareOp .Eq) (rEqT X.K (fun b => b)) := by
  intro pins s σ H x y v u Q I rx ry h
  obtain ⟨a, b, ns, ms, rfl, rfl, ha, hb, q⟩ := h
  cases rx
  cases ry
  obtain ⟨its, r1, p1, _⟩ := I.tuple ha
  obtain ⟨its2, r2, p2, _⟩ := I.tuple hb
  have i1 : IntsAre its ns := intsAre_of r1
  have i2 : IntsAre its2 ms := intsAre_of r2
  have l1 : its.length = ns.length := i1.length
  have l2 : its2.length = ms.length := i2.length
  have key := SeqAt.RcAt.tuples (A := X.A) (s := s) (l := a) (b := b) (items := its.toArray) (items2 := its2.toArray) (e := fun j => decide (ns[j]? = ms[j]?)) p1 p2 hu (fun j h1 h2 => by
    have h1' : j < its.length := by simpa using h1
    have h2' : j < its2.length := by simpa using h2
    obtain ⟨n, t, en, ev⟩ := ints_at i1 (List.getElem?_eq_getElem h1')
    obtain ⟨m, t', em, ew⟩ := ints_at i2 (List.getElem?_eq_getElem h2')
    have g1 : its.toArray[j] = .int n t := by rw [← ev]; simp
    have g2 : its2.toArray[j] = .int m t' := by rw [← ew]; simp
    rw [g1, g2, en, em]
    have e : decide (some n = some m) = (n == m) := by
      by_cases z : n = m
      · subst z; simp
      · simp [z]
    rw [e]
    exact SeqAt.EqAt.int_int n t m t')
  have e2 : ((List.range (min its.toArray.size its2.toArray.size)).all (fun j => decide (ns[j]? = ms[j]?)) && its.toArray.size == its2.toArray.size) = decide (ns = ms) := by
    rw [List.size_toArray, List.size_toArray, l1, l2, tup_all (fun j _ _ => rfl)]
  rw [e2] at key
  exact key _ _ _ _ ⟨.bl (decide (ns = ms)), H, I, rfl, q⟩
/-- (a, b, ..) = a list of that length -/
def gLst (K : PySem.W.Frag) (n : Nat) (t : TGs) : TG := fun v σ H Q => ∃ a xs, v = .ref a ∧ SqL K H a xs ∧ xs.length = n ∧ t xs σ H Q
end
end L2

/-! numbers as rationals -/
namespace My
def qv (a b : Int) : Rat := (a : Rat) / (b : Rat)
theorem cast_ne {b : Int} (h : b ≠ 0) : (b : Rat) ≠ 0 := fun z => h (Rat.intCast_inj.mp z)
theorem qv_eq {a b t m : Int} (hb : b ≠ 0) (hm : m ≠ 0) (h : a * m = t * b) : qv a b = qv t m := by
  have hb' := cast_ne hb
  have hm' := cast_ne hm
  have h' : (a : Rat) * m = t * b := by rw [← Rat.intCast_mul, ← Rat.intCast_mul, h]
  unfold qv
  grind
theorem eq_of_qv {a b t m : Int} (hb : b ≠ 0) (hm : m ≠ 0) (h : qv a b = qv t m) : a * m = t * b := by
  have hb' := cast_ne hb
  have hm' := cast_ne hm
  unfold qv at h
  refine Rat.intCast_inj.mp ?_
  rw [Rat.intCast_mul, Rat.intCast_mul]
  grind
theorem low_unique {a b c d : Int} (hb : 0 < b) (hd : 0 < d) (h1 : Int.gcd a b = 1) (h2 : Int.gcd c d = 1) (h : a * d = c * b) : a = c ∧ b = d := by
  have n : a.natAbs * d.natAbs = c.natAbs * b.natAbs := by rw [← Int.natAbs_mul, ← Int.natAbs_mul, h]
  have e1 : b.natAbs ∣ d.natAbs := by
    have q : b.natAbs ∣ a.natAbs * d.natAbs := ⟨c.natAbs, by rw [n, Nat.mul_comm]⟩
    exact Nat.Coprime.dvd_of_dvd_mul_left (Nat.Coprime.symm h1) q
  have e2 : d.natAbs ∣ b.natAbs := by
    have q : d.natAbs ∣ c.natAbs * b.natAbs := ⟨a.natAbs, by rw [← n, Nat.mul_comm]⟩
    exact Nat.Coprime.dvd_of_dvd_mul_left (Nat.Coprime.symm h2) q
  have e3 : b.natAbs = d.natAbs := Nat.dvd_antisymm e1 e2
  have e4 : b = d := by omega
  subst e4
  exact ⟨Int.eq_of_mul_eq_mul_right (by omega) h, rfl⟩
theorem qv_plus {a b c d : Int} (hb : b ≠ 0) (hd : d ≠ 0) : qv (a * d + c * b) (b * d) = qv a b + qv c d := by
  have hb' := cast_ne hb
  have hd' := cast_ne hd
  unfold qv
  rw [Rat.intCast_add, Rat.intCast_mul, Rat.intCast_mul, Rat.intCast_mul]
  grind
end My

/-! numbers as rationals: order -/
namespace My
theorem mul_pos {x y : Rat} (hx : 0 < x) (hy : 0 < y) : 0 < x * y := Rat.mul_pos hx hy
end My

namespace My
def leap (y : Int) : Bool := if y % 4 = 0 then (if y % 100 = 0 then decide (y % 400 = 0) else true) else false
def mls : List Int := [31, 28, 31, 30, 31, 30, 31, 31, 30, 31, 30, 31]
/-- days of month m (from 1 on), L: a leap year -/
def ml (L : Bool) (m : Int) : Int := if m = 2 ∧ L = true then 29 else mls.getD (m - 1).toNat 0
def mlen (y m : Int) : Int := ml (leap y) m
/-- days ahead of month m -/
def bf (L : Bool) (m : Int) : Int := ((List.range (m - 1).toNat).map fun i : Nat => ml L (1 + i)).sum
def ybeg (y : Int) : Int := 365 * (y - 1) + (y - 1) / 4 - (y - 1) / 100 + (y - 1) / 400
def ylen (L : Bool) : Int := if L then 366 else 365
theorem ybeg_next (y : Int) : ybeg (y + 1) = ybeg y + ylen (leap y) := by
  unfold ybeg ylen leap
  by_cases h4 : y % 4 = 0
  · rw [if_pos h4]
    by_cases h1 : y % 100 = 0
    · rw [if_pos h1]
      by_cases h3 : y % 400 = 0
      · rw [decide_eq_true h3, if_pos rfl]; omega
      · rw [decide_eq_false h3, if_neg (by decide)]; omega
    · rw [if_neg h1, if_pos rfl]; omega
  · rw [if_neg h4, if_neg (by decide)]; omega
theorem m_cases {m : Int} (h1 : 1 ≤ m) (h2 : m ≤ 12) : m = 1 ∨ m = 2 ∨ m = 3 ∨ m = 4 ∨ m = 5 ∨ m = 6 ∨ m = 7 ∨ m = 8 ∨ m = 9 ∨ m = 10 ∨ m = 11 ∨ m = 12 := by omega
theorem bf_next {L : Bool} {m : Int} (h1 : 1 ≤ m) (h2 : m ≤ 12) : bf L (m + 1) = bf L m + ml L m := by
  cases L <;> rcases m_cases h1 h2 with h | h | h | h | h | h | h | h | h | h | h | h <;> subst h <;> decide
theorem bf_first (L : Bool) : bf L 1 = 0 := by cases L <;> decide
theorem bf_last (L : Bool) : bf L 13 = ylen L := by cases L <;> decide
theorem ml_pos {L : Bool} {m : Int} (h1 : 1 ≤ m) (h2 : m ≤ 12) : 28 ≤ ml L m ∧ ml L m ≤ 31 := by
  cases L <;> rcases m_cases h1 h2 with h | h | h | h | h | h | h | h | h | h | h | h <;> subst h <;> decide
def dayOf (y m e : Int) : Int := ybeg y + bf (leap y) m + e - 1
structure Valid (y m e : Int) : Prop where
  y1 : 1 ≤ y
  y2 : y ≤ 9999
  m1 : 1 ≤ m
  m2 : m ≤ 12
  e1 : 1 ≤ e
  e2 : e ≤ mlen y m
theorem bf_mono {L : Bool} {m n : Int} (h1 : 1 ≤ m) (h : m < n) (h2 : n ≤ 13) : bf L m + ml L m ≤ bf L n := by
  have key : ∀ (k : Nat) (n : Int), n = m + 1 + k → n ≤ 13 → bf L m + ml L m ≤ bf L n := by
    intro k
    induction k with
    | zero =>
      intro n hn hn2
      have e : n = m + 1 := by omega
      rw [e, bf_next h1 (by omega)]
      exact Int.le_refl _
    | succ k ih =>
      intro n hn hn2
      have q := ih (n - 1) (by omega) (by omega)
      have e := bf_next (L := L) (m := n - 1) (by omega) (by omega)
      rw [Int.sub_add_cancel] at e
      have p := (ml_pos (L := L) (m := n - 1) (by omega) (by omega)).1
      omega
  exact key (n - m - 1).toNat n (by omega) h2
theorem Valid.range {y m e : Int} (v : Valid y m e) : ybeg y ≤ dayOf y m e ∧ dayOf y m e < ybeg (y + 1) := by
  have h1 : 0 ≤ bf (leap y) m := by
    by_cases h : m = 1
    · rw [h, bf_first]; exact Int.le_refl _
    · have q := bf_mono (L := leap y) (m := 1) (n := m) (by omega) (by have := v.m1; omega) (by have := v.m2; omega)
      have p := (ml_pos (L := leap y) (m := 1) (by omega) (by omega)).1
      rw [bf_first] at q
      omega
  have h2 := bf_mono (L := leap y) (m := m) (n := 13) v.m1 (by have := v.m2; omega) (by omega)
  rw [bf_last] at h2
  have h3 := ybeg_next y
  have h4 := v.e2
  have h5 := v.e1
  unfold mlen at h4
  unfold dayOf
  omega
theorem ybeg_mono {y z : Int} (h : y ≤ z) : ybeg y ≤ ybeg z := by unfold ybeg; omega
theorem Valid.inj {y m e y' m' e' : Int} (v : Valid y m e) (v' : Valid y' m' e') (h : dayOf y m e = dayOf y' m' e') : y = y' ∧ m = m' ∧ e = e' := by
  have r := v.range
  have r' := v'.range
  have hy : y = y' := by
    rcases Int.lt_trichotomy y y' with q | q | q
    · have := ybeg_mono (show y + 1 ≤ y' by omega); omega
    · exact q
    · have := ybeg_mono (show y' + 1 ≤ y by omega); omega
  subst hy
  have a := v.e2; have a' := v'.e2; have b := v.e1; have b' := v'.e1
  unfold mlen at a a'
  unfold dayOf at h
  have hm : m = m' := by
    rcases Int.lt_trichotomy m m' with q | q | q
    · have := bf_mono (L := leap y) v.m1 q (by have := v'.m2; omega); omega
    · exact q
    · have := bf_mono (L := leap y) v'.m1 q (by have := v.m2; omega); omega
  subst hm
  refine ⟨rfl, rfl, by omega⟩
/-- the year of a day, as year_of reckons it -/
def yearOf (d : Int) : Int := if ybeg (d * 400 / 146097 + 1 + 1) ≤ d then d * 400 / 146097 + 1 + 1 else d * 400 / 146097 + 1
def nxt (y m e : Int) : List Int := if e < mlen y m then [y, m, e + 1] else if m < 12 then [y, m + 1, 1] else [y + 1, 1, 1]
end My

/-! the engine: one rule a construct, by the form alone -/
namespace L2
open PySem PySem.Spec PyProof.Rows
def rIsN : R2 := fun x y H Q => y = .non ∧ Q (.bl (decide (x = .non))) H
def rNotN : R2 := fun x y H Q => y = .non ∧ Q (.bl (!decide (x = .non))) H
theorem op_isN' {X : Cx} : OpR X (compareOp .Is) rIsN := op_isN
theorem op_notN' {X : Cx} : OpR X (compareOp .IsNot) rNotN := op_notN
/-- a new tuple, a new list -/
def MkT (xs : List V) (H : Hp) (Q : VK) : Prop := xs.length ≤ sizeLine ∧ ∀ p, H p = none → Q (.ref p) (upd H p (.tup xs))
def MkL (xs : List V) (H : Hp) (Q : VK) : Prop := xs.length ≤ sizeLine ∧ ∀ p, H p = none → Q (.ref p) (upd H p (.lst xs))
inductive SetTo : St → Nat → Option V → St → Prop
  | here {x : Option V} {r : St} {v : Option V} : SetTo (x :: r) 0 v (v :: r)
  | next {x : Option V} {r : St} {v : Option V} {i : Nat} {r' : St} : SetTo r i v r' → SetTo (x :: r) (i + 1) v (x :: r')
theorem SetTo.eq {σ σ' : St} {i : Nat} {v : Option V} (h : SetTo σ i v σ') : σ.set i v = σ' := by
  induction h with
  | here => rfl
  | next _ ih => rw [List.set_cons_succ, ih]
inductive GetTo : St → Nat → V → Prop
  | here {v : V} {r : St} : GetTo (some v :: r) 0 v
  | next {x : Option V} {r : St} {v : V} {i : Nat} : GetTo r i v → GetTo (x :: r) (i + 1) v
theorem GetTo.eq {σ : St} {i : Nat} {v : V} (h : GetTo σ i v) : σ[i]? = some (some v) := by
  induction h with
  | here => rfl
  | next _ ih => rw [List.getElem?_cons_succ, ih]
section
variable {σ σ' : St} {H : Hp} {Q : VK} {i j : Int} {k : Nat} {v x y : V} {te ta tb tc : TE} {t u : TS} {nx bk ct : St → Hp → Prop} {rt : VK} {c d : TT} {R : Bool → Hp → Prop} {r r' : R2} {b : Bool}
theorem z_var (h : GetTo σ k v) (q : Q v H) : tVar k σ H Q := ⟨v, h.eq, q⟩
theorem z_c (q : Q v H) : tC v σ H Q := q
theorem z_op (h : ta σ H fun x H1 => tb σ H1 fun y H2 => r x y H2 Q) : tOp r ta tb σ H Q := h
theorem z_un {r : V → Hp → VK → Prop} (h : ta σ H fun x H1 => r x H1 Q) : tUn r ta σ H Q := h
theorem z_I {C : Int → Int → Prop} {g : Int → Int → V} (hc : C i j) (q : Q (g i j) H) : rI C g (.int i) (.int j) H Q := ⟨i, j, rfl, rfl, hc, q⟩
theorem z_I0 {g : Int → Int → V} (q : Q (g i j) H) : rI0 g (.int i) (.int j) H Q := ⟨i, j, rfl, rfl, q⟩
theorem z_U {g : Int → V} (q : Q (g i) H) : rU g (.int i) H Q := ⟨i, rfl, q⟩
theorem zdec_int : decide (V.int i = V.int j) = decide (i = j) := by
  by_cases h : i = j
  · subst h; simp
  · rw [decide_eq_false h, decide_eq_false (fun z => h (V.int.inj z))]
theorem zdec_str {a b : Str} : decide (V.str a = V.str b) = decide (a = b) := by
  by_cases h : a = b
  · subst h; simp
  · rw [decide_eq_false h, decide_eq_false (fun z => h (V.str.inj z))]
theorem z_EqI (q : Q (.bl (decide (i = j))) H) : rEq (.int i) (.int j) H Q := ⟨rfl, by rw [zdec_int]; exact q⟩
theorem z_NeI (q : Q (.bl (!decide (i = j))) H) : rNe (.int i) (.int j) H Q := ⟨rfl, by rw [zdec_int]; exact q⟩
theorem z_EqS {a b : Str} (q : Q (.bl (decide (a = b))) H) : rEq (.str a) (.str b) H Q := ⟨rfl, by rw [zdec_str]; exact q⟩
theorem z_NeS {a b : Str} (q : Q (.bl (!decide (a = b))) H) : rNe (.str a) (.str b) H Q := ⟨rfl, by rw [zdec_str]; exact q⟩
theorem z_test (h : te σ H fun x H' => ∃ k, x = .bl k ∧ R k H') : tTest te σ H R := h
theorem z_tB (h : te σ H fun x H' => ∃ k, x = .bl k ∧ R k H') : tB te σ H R := h
theorem z_ebl {S : Bool → Prop} (q : S b) : ∃ k, V.bl b = .bl k ∧ S k := ⟨b, rfl, q⟩
theorem z_and (h : c σ H fun k H1 => if k = true then d σ H1 R else R false H1) : tAnd c d σ H R := h
theorem z_or (h : c σ H fun k H1 => if k = true then R true H1 else d σ H1 R) : tOr c d σ H R := h
theorem z_not (h : c σ H fun k H1 => R (!k) H1) : tNot c σ H R := h
theorem z_andV (h : ta σ H fun x H1 => ∃ c, x = .bl c ∧ if c = true then tb σ H1 Q else Q (.bl false) H1) : tAndV ta tb σ H Q := h
theorem z_orV (h : ta σ H fun x H1 => ∃ c, x = .bl c ∧ if c = true then Q (.bl true) H1 else tb σ H1 Q) : tOrV ta tb σ H Q := h
theorem z_notV (h : ta σ H fun x H1 => ∃ c, x = .bl c ∧ Q (.bl (!c)) H1) : tNotV ta σ H Q := h
theorem z_if (h : c σ H fun k H1 => if k = true then ta σ H1 Q else tb σ H1 Q) : tIf c ta tb σ H Q := h
theorem z_chain (h : ta σ H fun x H1 => tb σ H1 fun y H2 => r x y H2 fun z H3 => ∃ k, z = .bl k ∧ (if k = true then tc σ H3 fun w' H4 => r' y w' H4 Q else Q (.bl false) H3)) : tChain r r' ta tb tc σ H Q := h
theorem z_nil {S : List V → Hp → Prop} (q : S [] H) : tNil σ H S := q
theorem z_cons {S : List V → Hp → Prop} {tr : TA} (h : ta σ H fun x H1 => tr σ H1 fun xs H2 => S (x :: xs) H2) : tCons ta tr σ H S := h
theorem z_seq (h : t ⟨u ⟨nx, rt, bk, ct⟩, rt, bk, ct⟩ σ H) : tSeq t u ⟨nx, rt, bk, ct⟩ σ H := h
theorem z_next (h : nx σ H) : tNext ⟨nx, rt, bk, ct⟩ σ H := h
theorem z_drop (h : te σ H fun _ H1 => nx σ H1) : tDrop te ⟨nx, rt, bk, ct⟩ σ H := h
theorem z_ret (h : te σ H rt) : tRet te ⟨nx, rt, bk, ct⟩ σ H := h
theorem z_ifs (h : c σ H fun b H1 => if b = true then t ⟨nx, rt, bk, ct⟩ σ H1 else u ⟨nx, rt, bk, ct⟩ σ H1) : tIfS c t u ⟨nx, rt, bk, ct⟩ σ H := h
theorem z_asg {g : TG} (h : te σ H fun x H1 => g x σ H1 nx) : tAsg te g ⟨nx, rt, bk, ct⟩ σ H := h
theorem z_name {S : St → Hp → Prop} (h : SetTo σ k (some v) σ') (q : S σ' H) : gName k v σ H S := by
  show S (σ.set k (some v)) H
  rw [h.eq]; exact q
theorem z_par {i j : Nat} {tA : TA} (h : tA σ H fun vs H1 => ∃ v w, vs = [v, w] ∧ nx ((σ.set i (some v)).set j (some w)) H1) : tPar i j tA ⟨nx, rt, bk, ct⟩ σ H := h
theorem z_par2 {i j : Nat} {v w : V} {σ2 : St} (h1 : SetTo σ i (some v) σ') (h2 : SetTo σ' j (some w) σ2) (q : nx σ2 H) : ∃ v' w', [v, w] = [v', w'] ∧ nx ((σ.set i (some v')).set j (some w')) H := ⟨v, w, rfl, by rw [h1.eq, h2.eq]; exact q⟩
theorem z_iteD {c A B : Prop} [Decidable c] (h1 : c → A) (h2 : ¬ c → B) : if decide c = true then A else B := by
  by_cases h : c
  · rw [decide_eq_true h]; exact iteT (h1 h)
  · rw [decide_eq_false h]; exact iteF (h2 h)
theorem z_iteNb {b : Bool} {A B : Prop} (h : if b = true then B else A) : if (!b) = true then A else B := by
  cases b with
  | true => exact iteF h
  | false => exact iteT h
theorem z_call0 {sp : Sp} {E : XK} {tA : TA} (h : tA σ H fun vs H1 => sp vs H1 Q E) : tCall sp [] E tA σ H Q := by
  unfold tCall
  simpa using h
theorem z_callD {sp : Sp} {E : XK} {tA : TA} {w : V} (h : tA σ H fun vs H1 => sp (vs ++ [w]) H1 Q E) : tCall sp [w] E tA σ H Q := h
theorem z_cb {rr : List V → Hp → VK → Prop} {tA : TA} (h : tA σ H fun vs H1 => rr vs H1 Q) : tCB rr tA σ H Q := h
theorem z_e1 {S : Int → Prop} (q : S i) : ∃ i', [V.int i] = [.int i'] ∧ S i' := ⟨i, rfl, q⟩
theorem z_e2 {S : Int → Int → Prop} (q : S i j) : ∃ i' j', [V.int i, V.int j] = [.int i', .int j'] ∧ S i' j' := ⟨i, j, rfl, q⟩
theorem z_tup {tA : TA} (h : tA σ H fun xs H1 => MkT xs H1 Q) : tTup tA σ H Q := h
theorem z_mkt {xs : List V} (hl : xs.length ≤ 100) (q : ∀ p H', H p = none → Same H H' → H' p = some (.tup xs) → Q (.ref p) H') : MkT xs H Q :=
  ⟨Nat.le_trans hl (by decide), fun p hp => q p _ hp (Same.new hp _) upd_same⟩
theorem z_ixT {K : PySem.W.Frag} {p : Addr} {xs : List V} (hs : SqT K H p xs) (ha : atI xs i = some v) (q : Q v H) : rIxT K (.ref p) (.int i) H Q := ⟨p, xs, i, v, rfl, rfl, hs, ha, q⟩
theorem z_ixL {K : PySem.W.Frag} {p : Addr} {xs : List V} (hs : SqL K H p xs) (ha : atI xs i = some v) (q : Q v H) : rIxL K (.ref p) (.int i) H Q := ⟨p, xs, i, v, rfl, rfl, hs, ha, q⟩
theorem z_nonN (q : Q (.bl true) H) : rIsN .non .non H Q := ⟨rfl, q⟩
theorem z_nonI (q : Q (.bl false) H) : rIsN (.int i) .non H Q := ⟨rfl, q⟩
theorem z_nonS {a : Str} (q : Q (.bl false) H) : rIsN (.str a) .non H Q := ⟨rfl, q⟩
theorem z_nonR {p : Addr} (q : Q (.bl false) H) : rIsN (.ref p) .non H Q := ⟨rfl, q⟩
theorem z_notN (q : Q (.bl false) H) : rNotN .non .non H Q := ⟨rfl, q⟩
theorem z_notI (q : Q (.bl true) H) : rNotN (.int i) .non H Q := ⟨rfl, q⟩
theorem z_notS {a : Str} (q : Q (.bl true) H) : rNotN (.str a) .non H Q := ⟨rfl, q⟩
theorem z_notR {p : Addr} (q : Q (.bl true) H) : rNotN (.ref p) .non H Q := ⟨rfl, q⟩
/-! len, list(..), int(..) -/
theorem z_len {K : PySem.W.Frag} {p : Addr} {ys : List V} {S : List V → Prop} (hs : SqL K H p ys ∨ SqT K H p ys) (q : S ys) : ∃ p' ys', [V.ref p] = [V.ref p'] ∧ (SqL K H p' ys' ∨ SqT K H p' ys') ∧ S ys' := ⟨p, ys, rfl, hs, q⟩
theorem z_toI {S1 S2 : Int → Prop} {S3 : Bool → Prop} (q : S1 i) : (∃ i', [V.int i] = [.int i'] ∧ S1 i') ∨ ∃ k, [V.int i] = [.bl k] ∧ S3 k := .inl ⟨i, rfl, q⟩
theorem z_toB {S1 : Int → Prop} {S3 : Bool → Prop} (q : S3 b) : (∃ i', [V.bl b] = [.int i'] ∧ S1 i') ∨ ∃ k, [V.bl b] = [.bl k] ∧ S3 k := .inr ⟨b, rfl, q⟩
/-! unpacking -/
theorem z_gtup {K : PySem.W.Frag} {p : Addr} {n : Nat} {tg : TGs} {xs : List V} {S : St → Hp → Prop} (hs : SqT K H p xs) (hl : xs.length = n) (q : tg xs σ H S) : gTup K n tg (.ref p) σ H S := ⟨p, xs, rfl, hs, hl, q⟩
theorem z_gnil {S : St → Hp → Prop} (q : S σ H) : gNil [] σ H S := ⟨rfl, q⟩
theorem z_gcons {g : TG} {tg : TGs} {v : V} {r : List V} {S : St → Hp → Prop} (q : g v σ H fun σ' H' => tg r σ' H' S) : gCons g tg (v :: r) σ H S := ⟨v, r, rfl, q⟩
/-! slices -/
theorem z_sl {r : V → Option Int → Option Int → Hp → VK → Prop} {tl th : TO} (h : te σ H fun x H1 => tl σ H1 fun l H2 => th σ H2 fun u H3 => r x l u H3 Q) : tSl r te tl th σ H Q := h
theorem z_noP {S : Option Int → Hp → Prop} (q : S none H) : tNoPart σ H S := q
theorem z_part {S : Option Int → Hp → Prop} (h : te σ H fun x H1 => ∃ i, x = .int i ∧ S (some i) H1) : tPart te σ H S := h
theorem z_eint {S : Int → Prop} (q : S i) : ∃ i', V.int i = .int i' ∧ S i' := ⟨i, rfl, q⟩
/-! lists -/
theorem z_lst {tA : TA} (h : tA σ H fun xs H1 => MkL xs H1 Q) : tLst tA σ H Q := h
theorem z_mkl {xs : List V} (hl : xs.length ≤ 100) (q : ∀ p H', H p = none → Same H H' → H' p = some (.lst xs) → Q (.ref p) H') : MkL xs H Q :=
  ⟨Nat.le_trans hl (by decide), fun p hp => q p _ hp (Same.new hp _) upd_same⟩
theorem z_bm {K : PySem.W.Frag} {T : String} {rr : V → List V → Hp → VK → Prop} {tA : TA} (h : te σ H fun x H1 => tyV K T x H1 ∧ tA σ H1 fun xs H2 => rr x xs H2 Q) : tBM K T rr te tA σ H Q := h
end
theorem sm2 {A B C : Hp} (g : Same B C) (h : Same A B) : Same A C := h.trans g
/-- all but the list at l is as it was -/
def But (l : Addr) (H H' : Hp) : Prop := ∀ b o, b ≠ l → H b = some o → H' b = some o
theorem But.upd {H : Hp} {l : Addr} {o : HO} : But l H (upd H l o) := fun b u hb q => by rw [upd_ne hb]; exact q
theorem But.tup {K : PySem.W.Frag} {H H' : Hp} {l a : Addr} {xs ys : List V} (e : But l H H') (hl : H l = some (.lst ys)) (h : SqT K H a xs) : SqT K H' a xs := by
  rcases h with (h | ⟨o, h⟩) | h
  · exact .inl (.inl (e _ _ (fun z => by rw [z, hl] at h; cases h) h))
  · exact .inl (.inr ⟨o, e _ _ (fun z => by rw [z, hl] at h; cases h) h⟩)
  · exact .inr h
theorem But.seq {K : PySem.W.Frag} {H H' : Hp} {l a : Addr} {xs : List V} (e : But l H H') (hne : a ≠ l) (h : SqL K H a xs) : SqL K H' a xs := by
  rcases h with (h | ⟨o, h⟩) | h
  · exact .inl (.inl (e _ _ hne h))
  · exact .inl (.inr ⟨o, e _ _ hne h⟩)
  · exact .inr h
section
variable {σ σ' : St} {H : Hp} {Q : VK}
theorem z_append {l : Addr} {xs : List V} {v : V} (h : H l = some (.lst xs)) (hl : xs.length < sizeLine) (q : ∀ H', But l H H' → H' l = some (.lst (xs ++ [v])) → Q .non H') : rAppend (.ref l) [v] H Q :=
  ⟨l, xs, v, rfl, rfl, h, hl, q _ But.upd upd_same⟩
end
/-! loops -/
section
variable {σ : St} {H : Hp} {te : TE} {tb : TS} {g : TG} {nx bk ct : St → Hp → Prop} {rt : VK} {wi : TI} {K : PySem.W.Frag} {a : Addr} {xs : List V}
def FW (J : It) (g : TG) (tb : TS) (nx : St → Hp → Prop) (rt : VK) (σ : St) (H : Hp) : Prop := ∃ W : Nat → Nat → St → Hp → Prop, (∃ m, W 0 m σ H) ∧ ∀ i m σ H, W i m σ H →
  (J.stop i H ∧ nx σ H) ∨ (J.go i H ∧ ∃ N : St → Hp → Prop, (∀ σ' H', N σ' H' → ∃ m', m' < m ∧ W (i + 1) m' σ' H') ∧ ∀ x H', J.yld i H x H' → g x σ H' fun σ2 H2 => tb ⟨N, rt, nx, N⟩ σ2 H2)
theorem z_for (h : wi σ H fun J H1 => FW J g tb nx rt σ H1) : tFor wi g tb ⟨nx, rt, bk, ct⟩ σ H := h
theorem z_iL {R : It → Hp → Prop} (h : te σ H fun x H1 => ∃ a, x = .ref a ∧ (∃ xs, SqL K H1 a xs) ∧ R (Itl K a) H1) : iList K te σ H R := h
theorem z_iT {R : It → Hp → Prop} (h : te σ H fun x H1 => ∃ a, x = .ref a ∧ (∃ xs, SqT K H1 a xs) ∧ R (Itt K a) H1) : iTup K te σ H R := h
theorem z_iL2 {S : Addr → Prop} (hs : SqL K H a xs) (q : S a) : ∃ a', V.ref a = .ref a' ∧ (∃ xs, SqL K H a' xs) ∧ S a' := ⟨a, rfl, ⟨xs, hs⟩, q⟩
theorem z_iT2 {S : Addr → Prop} (hs : SqT K H a xs) (q : S a) : ∃ a', V.ref a = .ref a' ∧ (∃ xs, SqT K H a' xs) ∧ S a' := ⟨a, rfl, ⟨xs, hs⟩, q⟩
theorem z_iR1 {tA : TA} {R : It → Hp → Prop} (h : tA σ H fun vs H1 => ∃ j : Int, vs = [.int j] ∧ -(2 ^ 62) ≤ j ∧ j < 2 ^ 62 ∧ R (Itr 0 j.toNat) H1) : iRng1 tA σ H R := h
theorem z_iR2 {tA : TA} {R : It → Hp → Prop} (h : tA σ H fun vs H1 => ∃ i j : Int, vs = [.int i, .int j] ∧ (-(2 ^ 62) ≤ i ∧ i < 2 ^ 62 ∧ -(2 ^ 62) ≤ j ∧ j < 2 ^ 62) ∧ R (Itr i (j - i).toNat) H1) : iRng2 tA σ H R := h
theorem z_iR3 {tA : TA} {R : It → Hp → Prop} (h : tA σ H fun vs H1 => ∃ i j c : Int, vs = [.int i, .int j, .int c] ∧ 0 < c ∧ c < 1073741824 ∧ Builtin.Range.small i j c = true ∧ R (Itr3 i c (rngN i j c)) H1) : iRng3 tA σ H R := h
theorem z_r1c {J : It} {j : Int} (h1 : -(2 ^ 62) ≤ j) (h2 : j < 2 ^ 62) (q : FW J g tb nx rt σ H) : -(2 ^ 62) ≤ j ∧ j < 2 ^ 62 ∧ FW J g tb nx rt σ H := ⟨h1, h2, q⟩
theorem z_r2c {J : It} {i j : Int} (h1 : -(2 ^ 62) ≤ i) (h2 : i < 2 ^ 62) (h3 : -(2 ^ 62) ≤ j) (h4 : j < 2 ^ 62) (q : FW J g tb nx rt σ H) : (-(2 ^ 62) ≤ i ∧ i < 2 ^ 62 ∧ -(2 ^ 62) ≤ j ∧ j < 2 ^ 62) ∧ FW J g tb nx rt σ H := ⟨⟨h1, h2, h3, h4⟩, q⟩
theorem f_list (Pv : Nat → St → Hp → Prop) (h0 : Pv 0 σ H) (hl : ∀ i σ H, i ≤ xs.length → Pv i σ H → SqL K H a xs)
    (hs : ∀ i x σ H, xs[i]? = some x → Pv i σ H → g x σ H fun σ2 H2 => tb ⟨Pv (i + 1), rt, nx, Pv (i + 1)⟩ σ2 H2) (hd : ∀ σ H, Pv xs.length σ H → nx σ H) : FW (Itl K a) g tb nx rt σ H := for_list (D := ⟨nx, rt, nx, nx⟩) Pv h0 hl hs hd
theorem f_range {lo : Int} {n : Nat} (Pv : Nat → St → Hp → Prop) (h0 : Pv 0 σ H)
    (hs : ∀ i σ H, i < n → Pv i σ H → g (.int (lo + i)) σ H fun σ2 H2 => tb ⟨Pv (i + 1), rt, nx, Pv (i + 1)⟩ σ2 H2) (hd : ∀ σ H, Pv n σ H → nx σ H) : FW (Itr lo n) g tb nx rt σ H := for_range (D := ⟨nx, rt, nx, nx⟩) Pv h0 hs hd
/-- while: W by a measure -/
theorem z_while {c : TT} (W : Nat → St → Hp → Prop) (m0 : Nat) (h0 : W m0 σ H)
    (hs : ∀ m σ H, W m σ H → c σ H fun b H1 => if b = true then ∃ N : St → Hp → Prop, (∀ σ' H', N σ' H' → ∃ m', m' < m ∧ W m' σ' H') ∧ tb ⟨N, rt, nx, N⟩ σ H1 else nx σ H1) : tWhile c tb ⟨nx, rt, bk, ct⟩ σ H := ⟨W, ⟨m0, h0⟩, hs⟩
theorem z_whN {W : Nat → St → Hp → Prop} {m : Nat} (h : tb ⟨fun σ' H' => ∃ m', m' < m ∧ W m' σ' H', rt, nx, fun σ' H' => ∃ m', m' < m ∧ W m' σ' H'⟩ σ H) : ∃ N : St → Hp → Prop, (∀ σ' H', N σ' H' → ∃ m', m' < m ∧ W m' σ' H') ∧ tb ⟨N, rt, nx, N⟩ σ H := ⟨_, fun _ _ z => z, h⟩
end
/-! isinstance by kinds -/
def IsiG (K : PySem.W.Frag) (n : String) (f : Tg → Bool) (xs : List V) (H : Hp) (Q : VK) : Prop := rIsi K n f xs H Q
theorem z_isi0 {K : PySem.W.Frag} {n : String} {f : Tg → Bool} {xs : List V} {H : Hp} {Q : VK} (h : IsiG K n f xs H Q) : rIsi K n f xs H Q := h
section
variable {H : Hp} {Q : VK} {K : PySem.W.Frag} {i : Int} {a : Str} {b : Bool} {p : Addr} {xs : List V}
theorem z_isN_int (q : Q (.bl false) H) : IsiG K "int" Tg.isInt [.non, .ty "int"] H Q := ⟨_, .non, rfl, True.intro, q⟩
theorem z_isB_int (q : Q (.bl true) H) : IsiG K "int" Tg.isInt [.bl b, .ty "int"] H Q := ⟨_, .bl, rfl, True.intro, q⟩
theorem z_isI_int (q : Q (.bl true) H) : IsiG K "int" Tg.isInt [.int i, .ty "int"] H Q := ⟨_, .int, rfl, True.intro, q⟩
theorem z_isS_int (q : Q (.bl false) H) : IsiG K "int" Tg.isInt [.str a, .ty "int"] H Q := ⟨_, .str, rfl, True.intro, q⟩
theorem z_isT_int (hs : SqT K H p xs) (q : Q (.bl false) H) : IsiG K "int" Tg.isInt [.ref p, .ty "int"] H Q := ⟨_, .tup, rfl, ⟨xs, hs⟩, q⟩
theorem z_isL_int (hs : SqL K H p xs) (q : Q (.bl false) H) : IsiG K "int" Tg.isInt [.ref p, .ty "int"] H Q := ⟨_, .lst, rfl, ⟨xs, hs⟩, q⟩
theorem z_isN_bool (q : Q (.bl false) H) : IsiG K "bool" Tg.isBool [.non, .ty "bool"] H Q := ⟨_, .non, rfl, True.intro, q⟩
theorem z_isB_bool (q : Q (.bl true) H) : IsiG K "bool" Tg.isBool [.bl b, .ty "bool"] H Q := ⟨_, .bl, rfl, True.intro, q⟩
theorem z_isI_bool (q : Q (.bl false) H) : IsiG K "bool" Tg.isBool [.int i, .ty "bool"] H Q := ⟨_, .int, rfl, True.intro, q⟩
theorem z_isS_bool (q : Q (.bl false) H) : IsiG K "bool" Tg.isBool [.str a, .ty "bool"] H Q := ⟨_, .str, rfl, True.intro, q⟩
theorem z_isT_bool (hs : SqT K H p xs) (q : Q (.bl false) H) : IsiG K "bool" Tg.isBool [.ref p, .ty "bool"] H Q := ⟨_, .tup, rfl, ⟨xs, hs⟩, q⟩
theorem z_isL_bool (hs : SqL K H p xs) (q : Q (.bl false) H) : IsiG K "bool" Tg.isBool [.ref p, .ty "bool"] H Q := ⟨_, .lst, rfl, ⟨xs, hs⟩, q⟩
theorem z_isN_str (q : Q (.bl false) H) : IsiG K "str" Tg.isStr [.non, .ty "str"] H Q := ⟨_, .non, rfl, True.intro, q⟩
theorem z_isB_str (q : Q (.bl false) H) : IsiG K "str" Tg.isStr [.bl b, .ty "str"] H Q := ⟨_, .bl, rfl, True.intro, q⟩
theorem z_isI_str (q : Q (.bl false) H) : IsiG K "str" Tg.isStr [.int i, .ty "str"] H Q := ⟨_, .int, rfl, True.intro, q⟩
theorem z_isS_str (q : Q (.bl true) H) : IsiG K "str" Tg.isStr [.str a, .ty "str"] H Q := ⟨_, .str, rfl, True.intro, q⟩
theorem z_isT_str (hs : SqT K H p xs) (q : Q (.bl false) H) : IsiG K "str" Tg.isStr [.ref p, .ty "str"] H Q := ⟨_, .tup, rfl, ⟨xs, hs⟩, q⟩
theorem z_isL_str (hs : SqL K H p xs) (q : Q (.bl false) H) : IsiG K "str" Tg.isStr [.ref p, .ty "str"] H Q := ⟨_, .lst, rfl, ⟨xs, hs⟩, q⟩
theorem z_isN_tuple (q : Q (.bl false) H) : IsiG K "tuple" Tg.isTup [.non, .ty "tuple"] H Q := ⟨_, .non, rfl, True.intro, q⟩
theorem z_isB_tuple (q : Q (.bl false) H) : IsiG K "tuple" Tg.isTup [.bl b, .ty "tuple"] H Q := ⟨_, .bl, rfl, True.intro, q⟩
theorem z_isI_tuple (q : Q (.bl false) H) : IsiG K "tuple" Tg.isTup [.int i, .ty "tuple"] H Q := ⟨_, .int, rfl, True.intro, q⟩
theorem z_isS_tuple (q : Q (.bl false) H) : IsiG K "tuple" Tg.isTup [.str a, .ty "tuple"] H Q := ⟨_, .str, rfl, True.intro, q⟩
theorem z_isT_tuple (hs : SqT K H p xs) (q : Q (.bl true) H) : IsiG K "tuple" Tg.isTup [.ref p, .ty "tuple"] H Q := ⟨_, .tup, rfl, ⟨xs, hs⟩, q⟩
theorem z_isL_tuple (hs : SqL K H p xs) (q : Q (.bl false) H) : IsiG K "tuple" Tg.isTup [.ref p, .ty "tuple"] H Q := ⟨_, .lst, rfl, ⟨xs, hs⟩, q⟩
theorem z_isN_list (q : Q (.bl false) H) : IsiG K "list" Tg.isLst [.non, .ty "list"] H Q := ⟨_, .non, rfl, True.intro, q⟩
theorem z_isB_list (q : Q (.bl false) H) : IsiG K "list" Tg.isLst [.bl b, .ty "list"] H Q := ⟨_, .bl, rfl, True.intro, q⟩
theorem z_isI_list (q : Q (.bl false) H) : IsiG K "list" Tg.isLst [.int i, .ty "list"] H Q := ⟨_, .int, rfl, True.intro, q⟩
theorem z_isS_list (q : Q (.bl false) H) : IsiG K "list" Tg.isLst [.str a, .ty "list"] H Q := ⟨_, .str, rfl, True.intro, q⟩
theorem z_isT_list (hs : SqT K H p xs) (q : Q (.bl false) H) : IsiG K "list" Tg.isLst [.ref p, .ty "list"] H Q := ⟨_, .tup, rfl, ⟨xs, hs⟩, q⟩
theorem z_isL_list (hs : SqL K H p xs) (q : Q (.bl true) H) : IsiG K "list" Tg.isLst [.ref p, .ty "list"] H Q := ⟨_, .lst, rfl, ⟨xs, hs⟩, q⟩
end
theorem bd_mul {m n : Nat} {x y : Int} (h : My.Bd m x) (g : My.Bd n y) : My.Bd (m + n) (x * y) := h.mul g
theorem bd_add {m n : Nat} {x y : Int} (h : My.Bd m x) (g : My.Bd n y) : My.Bd (max m n + 1) (x + y) := (h.mono (show m ≤ max m n by omega)).add (g.mono (show n ≤ max m n by omega))
theorem bd_sub {m n : Nat} {x y : Int} (h : My.Bd m x) (g : My.Bd n y) : My.Bd (max m n + 1) (x - y) := (h.mono (show m ≤ max m n by omega)).sub (g.mono (show n ≤ max m n by omega))
theorem bd_60 {n : Int} (h1 : -1152921504606846976 < n) (h2 : n < 1152921504606846976) : My.Bd 60 n := by unfold My.Bd; omega
theorem bt_min : bootBuiltins "min" = some (.builtin "min") := by decide +kernel
theorem Same.but {H H2 H3 : Hp} {l : Addr} (s : Same H H2) (n : H l = none) (b : But l H2 H3) : Same H H3 := fun c o e => b c o (fun z => by rw [z, n] at e; cases e) (s c o e)
theorem z_tyL {K : PySem.W.Frag} {l : Addr} {xs : List V} {H : Hp} {S : Prop} (h : SqL K H l xs) (q : S) : tyV K "list" (.ref l) H ∧ S := ⟨.inl ⟨rfl, xs, h⟩, q⟩
/-- if c: x = e, for an int's name -/
theorem z_joinI {c : TT} {te : TE} {k : Nat} {σ σ' : St} {H : Hp} {R bk ct : St → Hp → Prop} {rt : VK} (b : Bool) (i1 i2 : Int) (hc : ∀ S : Bool → Hp → Prop, S b H → c σ H S) (h1 : b = true → ∀ S : V → Hp → Prop, S (.int i1) H → te σ H S) (hold : GetTo σ k (.int i2)) (hs : SetTo σ k (some (.int (if b = true then i1 else i2))) σ') (q : R σ' H) :
    tIfS c (tAsg te (gName k)) tNext ⟨R, rt, bk, ct⟩ σ H := by
  refine hc _ ?_
  cases b with
  | true =>
    refine iteT (h1 rfl _ ?_)
    show R (σ.set k (some (.int i1))) H
    have := hs.eq
    rw [if_pos rfl] at this
    rw [this]; exact q
  | false =>
    refine iteF ?_
    show R σ H
    have e := hs.eq
    rw [if_neg Bool.false_ne_true] at e
    have e2 : σ.set k (some (.int i2)) = σ := by
      apply List.ext_getElem?
      intro j
      rw [List.getElem?_set]
      split
      · next z =>
        subst z
        have := hold.eq
        rw [this]
        split
        · rfl
        · next y => rw [List.getElem?_eq_none (by omega)] at this; cases this
      · rfl
    rw [← e2, e]; exact q
theorem z_go {N : List Str} {vs : List V} {σ : St} {t : TS} {D : Ends} {H : Hp} (h : start N vs = σ) (q : t D σ H) : t D (start N vs) H := by rw [h]; exact q
end L2

/-! comprehensions with a test, for use -/
namespace L2
open PySem PySem.Spec PyProof.Rows
def compOkGB (osc : Scope) (N : List Str) (tg : Str) (sc : Scope) (fr : List (Str × Nat)) : Bool := compOkB osc N tg sc fr
theorem compOkG_of {X : Cx} {tg : Str} {sc : Scope} {fr : List (Str × Nat)} {osc : Scope} {N : List Str} (ho : X.env.scope = osc) (hN : X.N = N) (h : compOkB osc N tg sc fr = true) : CompOkG X [tg] sc fr ∧ sc.names.lookup tg = some .local := by
  have o := compOk_of ho hN h
  exact ⟨⟨o.kind, o.nocell, o.locs, o.fre, o.nd, o.vis⟩, o.tgl⟩
theorem pe_lcIf {X : Cx} {elt iter c : Expr} {tg : Str} {ps pos : Pos} {sc : Scope} {fr : List (Str × Nat)} {wi : TI} {te : TE} {tc : TT} (hc : X.calm = true) (ok : CompOkG X [tg] sc fr ∧ sc.names.lookup tg = some .local) (hi : PI X (.Name tg ps) iter wi)
    (ht : ∀ cl C s3 H3 fp, PT (X.blk ([tg] ++ fr.map (·.1)) sc cl C s3 H3 fp) c tc) (he : ∀ cl C s3 H3 fp, PE (X.blk ([tg] ++ fr.map (·.1)) sc cl C s3 H3 fp) elt te) (hs : ∀ x, foldedSetIterable iter X.env x = pure x := by intro _; rfl) :
    PE X (.ListComp elt [⟨.Name tg ps, iter, [c], 0⟩] sc pos) (tLCG 1 fr wi (gName 0) tc te) :=
  pe_lcG (tgs := [tg]) hc ok.1 hi (fun _ _ _ _ _ => pg_name ok.1.nd rfl (.inl (lookup_relabel_local ok.2)) (.inr (lookup_relabel_local ok.2))) (fun _ _ _ _ _ => pif_one (ht _ _ _ _ _)) he hs
/-- the loop of it -/
def LCW (k : Nat) (st : St) (J : It) (g : TG) (tc : TT) (te : TE) (H1 : Hp) (Q : VK) : Prop := ∀ acc, H1 acc = none → ∃ W : Nat → Nat → St → Hp → Prop, (∃ m, W 0 m (List.replicate k none ++ st) (upd H1 acc (.lst []))) ∧ ∀ i m σb H2, W i m σb H2 →
  (J.stop i H2 ∧ Q (.ref acc) H2) ∨ (J.go i H2 ∧ ∀ x H3, J.yld i H2 x H3 → g x σb H3 fun σ2 H4 => tc σ2 H4 fun b H5 =>
    if b = true then te σ2 H5 fun v H6 => ∃ xs m', H6 acc = some (.lst xs) ∧ xs.length < sizeLine ∧ m' < m ∧ W (i + 1) m' σ2 (upd H6 acc (.lst (xs ++ [v]))) else ∃ m', m' < m ∧ W (i + 1) m' σ2 H5)
theorem z_lcg {k : Nat} {fr : List (Str × Nat)} {wi : TI} {g : TG} {tc : TT} {te : TE} {σ : St} {H : Hp} {Q : VK} (h : wi σ H fun J H1 => LCW k (inSt σ fr) J g tc te H1 Q) : tLCG k fr wi g tc te σ H Q := h
def picked (p : Nat → Bool) (f : Nat → V) (n : Nat) : List V := ((List.range n).filter p).map f
theorem picked_le (p : Nat → Bool) (f : Nat → V) (n : Nat) : (picked p f n).length ≤ n := by
  unfold picked
  rw [List.length_map]
  exact Nat.le_trans (List.length_filter_le _ _) (by rw [List.length_range]; exact Nat.le_refl _)
theorem picked_succ (p : Nat → Bool) (f : Nat → V) (n : Nat) : picked p f (n + 1) = if p n = true then picked p f n ++ [f n] else picked p f n := by
  unfold picked
  rw [List.range_succ, List.filter_append, List.map_append]
  by_cases h : p n = true
  · rw [if_pos h, List.filter_cons_of_pos h]; rfl
  · rw [if_neg h, List.filter_cons_of_neg h]; simp
theorem lcw {J : It} {st : St} {tc : TT} {te : TE} {H1 : Hp} {Q : VK} (n : Nat) (it f : Nat → V) (p : Nat → Bool) (hn : n ≤ sizeLine)
    (hgo : ∀ i H2, Same H1 H2 → i < n → J.go i H2 ∧ ∀ x H3, J.yld i H2 x H3 → H3 = H2 ∧ x = it i) (hstop : ∀ H2, Same H1 H2 → J.stop n H2)
    (ht : ∀ i H2 (S : Bool → Hp → Prop), i < n → Same H1 H2 → (∀ H3, Same H2 H3 → S (p i) H3) → tc (some (it i) :: st) H2 S)
    (he : ∀ i H2 (S : V → Hp → Prop), i < n → p i = true → Same H1 H2 → (∀ H3, Same H2 H3 → S (f i) H3) → te (some (it i) :: st) H2 S)
    (fin : ∀ acc H2, H1 acc = none → Same H1 H2 → H2 acc = some (.lst (picked p f n)) → Q (.ref acc) H2) : LCW 1 st J (gName 0) tc te H1 Q := by
  intro acc hacc
  refine ⟨fun i m σb H2 => m = n - i ∧ i ≤ n ∧ Same H1 H2 ∧ H2 acc = some (.lst (picked p f i)) ∧ ∃ u, σb = u :: st, ⟨n, by simp, Nat.zero_le _, Same.new hacc _, upd_same, none, rfl⟩, ?_⟩
  rintro i m σb H2 ⟨rfl, hi, sH, ha, u, rfl⟩
  by_cases hlt : i < n
  · obtain ⟨g1, g2⟩ := hgo i H2 sH hlt
    refine .inr ⟨g1, fun x H3 y => ?_⟩
    obtain ⟨rfl, rfl⟩ := g2 x H3 y
    show tc (some (it i) :: st) H3 _
    refine ht i H3 _ hlt sH (fun H5 s5 => ?_)
    have ps := picked_succ p f i
    by_cases hp : p i = true
    · rw [if_pos hp] at ps ⊢
      refine he i H5 _ hlt hp (sH.trans s5) (fun H6 s6 => ?_)
      refine ⟨picked p f i, n - (i + 1), s6 _ _ (s5 _ _ ha), Nat.lt_of_le_of_lt (picked_le p f i) (by omega), by omega, rfl, hlt, ?_, by rw [upd_same, ps], _, rfl⟩
      exact Same.but (sH.trans (s5.trans s6)) hacc But.upd
    · rw [if_neg hp] at ps ⊢
      exact ⟨n - (i + 1), by omega, rfl, hlt, sH.trans s5, by rw [ps]; exact s5 _ _ ha, _, rfl⟩
  · have e : i = n := by omega
    subst e
    exact .inl ⟨hstop H2 sH, fin acc H2 hacc sH ha⟩
theorem lcw_list {K : PySem.W.Frag} {a : Addr} {xs : List V} {st : St} {tc : TT} {te : TE} {H1 : Hp} {Q : VK} (f : Nat → V) (p : Nat → Bool) (hs : SqL K H1 a xs) (hn : xs.length ≤ sizeLine)
    (ht : ∀ i x H2 (S : Bool → Hp → Prop), xs[i]? = some x → Same H1 H2 → (∀ H3, Same H2 H3 → S (p i) H3) → tc (some x :: st) H2 S)
    (he : ∀ i x H2 (S : V → Hp → Prop), xs[i]? = some x → p i = true → Same H1 H2 → (∀ H3, Same H2 H3 → S (f i) H3) → te (some x :: st) H2 S)
    (fin : ∀ acc H2, H1 acc = none → Same H1 H2 → H2 acc = some (.lst (picked p f xs.length)) → Q (.ref acc) H2) : LCW 1 st (Itl K a) (gName 0) tc te H1 Q := by
  have at_ : ∀ i, i < xs.length → xs[i]? = some (xs.getD i .non) := fun i hi => by rw [List.getElem?_eq_getElem hi, List.getD_eq_getElem?_getD, List.getElem?_eq_getElem hi]; rfl
  refine lcw xs.length (fun i => xs.getD i .non) f p hn (fun i H2 s2 hi => ⟨⟨xs, _, s2.seq hs, at_ i hi⟩, fun x H3 y => ⟨y.1, ?_⟩⟩) (fun H2 s2 => ⟨xs, s2.seq hs, Nat.le_refl _⟩)
    (fun i H2 S hi s2 k => ht i _ H2 S (at_ i hi) s2 k) (fun i H2 S hi hp s2 k => he i _ H2 S (at_ i hi) hp s2 k) fin
  have := y.2 xs (s2.seq hs)
  rw [at_ i hi] at this
  exact (Option.some.inj this).symm
end L2

/-! y = [elt for target in iter if test] -/
namespace L2
open PySem PySem.Spec PyProof.Rows
section
variable {X : Cx} {elt iter tg : Expr} {ifs : List Expr} {tgs : List Str} {pos : Pos} {sc : Scope} {fr : List (Str × Nat)} {wi : TI} {te : TE} {g : TG} {tc : TT}
theorem ps_setLCG {y : Str} {py spos : Pos} {iy : Nat} (hN : X.N.Nodup) (hi' : X.N[iy]? = some y) (hy : Loc X.env.scope y) (hc : X.calm = true) (ok : CompOkG X tgs sc fr) (hi : PI X tg iter wi) (hg : ∀ cl C s3 H3 fp, PG (X.blk (tgs ++ fr.map (·.1)) sc cl C s3 H3 fp) tg g) (ht : ∀ cl C s3 H3 fp, PIF (X.blk (tgs ++ fr.map (·.1)) sc cl C s3 H3 fp) ifs tc) (he : ∀ cl C s3 H3 fp, PE (X.blk (tgs ++ fr.map (·.1)) sc cl C s3 H3 fp) elt te) (hs : ∀ x, foldedSetIterable iter X.env x = pure x := by intro _; rfl)
    (hsw : swapsWith (.ListComp elt [⟨tg, iter, ifs, 0⟩] sc pos) (some (.Name y py)) spos.line X.env = pure true := by rfl) (hfn : X.fn y = true ∨ X.env.scope.names.lookup y = some .local := by first | exact .inl rfl | exact .inr rfl | assumption) :
    PS X (.Assign [.Name y py] (.ListComp elt [⟨tg, iter, ifs, 0⟩] sc pos) spos) (tAsg (tLCG tgs.length fr wi g tc te) (gName iy)) := by
  intro pins s σ H D I h
  obtain ⟨cl, ecl, hk, hcx⟩ := closure_of (env := X.env) (sc := sc) (fun y hy yf => I.ok.has y.1 (ok.fre y hy yf))
  rw [exec_Assign_Name_used _ _ _ _ hsw]
  refine wpAny_bind (wpAny_standAt (wpAny_bind ?_))
  show wpAny _ X.A (do let _ ← comprehension (.ListComp elt [⟨tg, iter, ifs, 0⟩] sc pos) sc X.env _ (newList []) false (eval iter X.env) (some (assign (.Name y py) X.env))) _ _ s
  refine wpAny_bind (wpAny_mono (wpAny_comprehension_free (use := some (assign (.Name y py) X.env)) (Q := fun _ s' => SP X pins D .next s') rfl hs ecl ok.kind ok.locs ?_) (fun _ s' z => wpAny_pure (wpAny_pure z)) fun _ _ z => z)
  refine (thn (hi pins s σ H _ I h) fun v s1 h1 => thn h1 fun itv s2 h2 => ?_)
  obtain ⟨it, fp, tn, J, H2, e, I2, T, st2, f2, q⟩ := h2
  subst e
  have hacc : H2 s2.heap.objs.size = none := I2.hok.fresh (Nat.le_refl _)
  obtain ⟨W, ⟨m0, w0⟩, turn⟩ := q s2.heap.objs.size hacc
  refine wpAny_newObj_type ?_
  have I3 := I2.laid (a := s2.heap.objs.size) (o := .lst []) (h' := s2.heap.push { cls := .type "list", data := .seq ([] : List Value).toArray }) (t' := s2.toks) (fun b u e => Heap.get?_push_of_some _ e) (Nat.le_refl _) ⟨Nat.zero_le _, [], 0, .nil, Heap.get?_push_size _ rfl⟩
  refine wpAny_newFunctionEnv ok.nocell (by intro y hy; simp at hy) (fun h4 hns4 hsb4 => ?_) ok.kind
  generalize hs3 : ({ s2 with heap := s2.heap.push { cls := .type "list", data := .seq ([] : List Value).toArray } } : Shared) = s3 at *
  have keep4 : ∀ b o, s3.heap.get? b = some o → h4.get? b = some o := fun b o e => hsb4.extBut b o (Nat.ne_of_lt (Heap.lt_size e)) (Heap.get?_push_of_some _ e)
  have keep3 : ∀ b o, s2.heap.get? b = some o → s3.heap.get? b = some o := fun b o e => by rw [← hs3]; exact Heap.get?_push_of_some _ e
  have hfo : ∀ b ∈ fp, ∃ o, s3.heap.get? b = some o := fun b hb => by
    obtain ⟨o, eo, _⟩ := T.obj 0 _ st2 b hb
    exact ⟨o, keep3 b o eo⟩
  have f3 : ∀ b ∈ fp, FpOk X pins (upd H2 s2.heap.objs.size (.lst [])) b := fun b hb => by
    obtain ⟨o, eo, _⟩ := T.obj 0 _ st2 b hb
    exact ⟨by rw [upd_ne (Nat.ne_of_lt (Heap.lt_size eo))]; exact (f2 b hb).1, (f2 b hb).2⟩
  have I4 := blk_startG (t4 := s3.toks + ([] : List (Str × Value)).length) ok I3 f3 hfo hk hcx ⟨_, hns4⟩ keep4
  have st4 : tn 0 h4 := T.keep 0 s2.heap h4 st2 fun b hb o e => keep4 b o (keep3 b o e)
  have stat : ∀ {H' : Hp}, (∀ b ∈ fp, H' b = none) → ∀ b ∈ fp, FpOk (X.blk (tgs ++ fr.map (·.1)) sc cl s3.heap.objs.size s3 (upd H2 s2.heap.objs.size (.lst [])) fp) [] H' b := fun hn b hb =>
    ⟨hn b hb, (I4.ok.exf b hb).1, I4.ok.exfs b hb, .inl hb, (I4.ok.exf b hb).2, fun p hp => nomatch hp⟩
  have loop : codeAny (model X.prog X.w) X.A (.compLoop (.ListComp elt [⟨tg, iter, ifs, 0⟩] sc pos) 0 (.ref it) (.ref s2.heap.objs.size) (compEnvC sc cl s3.heap.objs.size X.env))
      (compPost (model X.prog X.w) X.A X.xe (some (assign (.Name y py) X.env)) (fun _ s' => SP X pins D .next s') (.ref s2.heap.objs.size) s3.heap.objs.size) { s3 with heap := h4, toks := s3.toks + ([] : List (Str × Value)).length } := by
    refine comp_loopG (fun n s' => ∃ i σb H', Inv (X.blk (tgs ++ fr.map (·.1)) sc cl s3.heap.objs.size s3 (upd H2 s2.heap.objs.size (.lst [])) fp) [] σb H' s' ∧ tn i s'.heap ∧ (∀ b ∈ fp, H' b = none) ∧ W i n σb H') ?_ m0
      ⟨0, _, _, I4, st4, fun b hb => (f3 b hb).1, w0⟩
    rintro n s5 ⟨i, σb, H5, I5, st5, fr5, w5⟩
    rcases turn i n σb H5 w5 with ⟨stop, qq⟩ | ⟨go, step⟩
    · refine thn (T.done (X.blk (tgs ++ fr.map (·.1)) sc cl s3.heap.objs.size s3 (upd H2 s2.heap.objs.size (.lst [])) fp) rfl rfl rfl hc i [] s5 _ H5 _ I5 (stat fr5) st5 stop) fun r s6 ⟨hr, I6⟩ => ?_
      subst hr
      obtain ⟨m6, hn6, _⟩ := I6.loc
      have u6 : Un (frs X.stack) fp (upd H2 s2.heap.objs.size (.lst [])) H5 s3.heap s6.heap := I6.base
      have hok6 : HOk X.prog X.w H5 s6.heap := I6.hok
      have os6 : s6.os = s3.os := I6.os
      have bare6 := I6.bare
      have free6 : H5 s3.heap.objs.size = none := I6.free
      have IX : Inv X pins σ H5 s6 := by
        obtain ⟨hh, g, d, t, os'⟩ := s6
        obtain rfl : os' = s3.os := os6
        show Inv X pins σ H5 { s3 with heap := hh, gens := g, drawn := d, toks := t }
        exact I3.call (h' := hh) (g' := g) (d' := d) (t' := t) (ch := fp) u6 hok6 bare6 fun b hb => ⟨(f3 b hb).2.2.2.1, (f3 b hb).2.1, (f3 b hb).2.2.2.2.1, (f3 b hb).2.2.2.2.2⟩
      obtain ⟨oC, es, ep, hoC, hdC, rC⟩ := hn6
      have hfC : FpOk X pins H5 s3.heap.objs.size := I3.fpOk (Nat.le_refl _) free6
      have IX' : Inv X (pins ++ [(s3.heap.objs.size, oC)]) σ H5 s6 := IX.pins_of fun p hp => by
        rcases List.mem_append.mp hp with z | z
        · exact IX.pin p (List.mem_append_right _ z)
        · have z' := List.mem_singleton.mp z
          subst z'
          exact ⟨hoC, free6, hfC.2.1, hfC.2.2.1, fun v z => by
            have z2 : oC.data = .cell v := z
            rw [hdC] at z2; cases z2⟩
      refine thn (pg_name (X := X) (i := iy) (pos := py) hN hi' hy hfn _ s6 σ H5 (.ref s2.heap.objs.size) (.ref s2.heap.objs.size) (fun σ' H' => σ' = σ.set iy (some (.ref s2.heap.objs.size)) ∧ H' = H5) IX' rfl ⟨rfl, rfl⟩) fun _ s7 z => ?_
      obtain ⟨σ7, H7, I7, e7, e7'⟩ := z
      subst e7 e7'
      have pC := I7.pin (s3.heap.objs.size, oC) (List.mem_append_right _ (List.mem_append_right _ (List.mem_singleton.mpr rfl)))
      refine ⟨m6, ⟨oC, es, ep, pC.1, hdC, rC⟩, fun h8 hsb8 => ?_⟩
      have I7u : Inv X pins (σ.set iy (some (.ref s2.heap.objs.size))) H7 s7 := I7.unpinned
      refine ⟨_, H7, ?_, qq⟩
      exact I7u.turned (it := s3.heap.objs.size) (t' := s7.toks) (fun b o hb e => hsb8.extBut b o hb e) free6 hfC.2.1 hfC.2.2.2.1 hfC.2.2.2.2.1 hfC.2.2.2.2.2
    · refine thn (T.item (X.blk (tgs ++ fr.map (·.1)) sc cl s3.heap.objs.size s3 (upd H2 s2.heap.objs.size (.lst [])) fp) rfl rfl rfl hc i [] s5 _ H5 _ I5 (stat fr5) st5 go) fun r s6 ⟨u, hr, h6⟩ => ?_
      subst hr
      refine thn h6 fun _ s7 ⟨y, H7, I7, r7, y7, st7, fr7⟩ => ?_
      have I7' := I7.pinned (stat fr7) (T.obj _ _ st7)
      refine wpAny_mono (hg cl s3.heap.objs.size s3 (upd H2 s2.heap.objs.size (.lst [])) fp _ s7 _ H7 y u _ I7' r7 (step y H7 y7)) (fun _ s8 z => ?_) (fun e s z => (show False from z).elim)
      obtain ⟨σ8, H8, I8, q8⟩ := z
      refine wpAny_mono (ht cl s3.heap.objs.size s3 (upd H2 s2.heap.objs.size (.lst [])) fp _ s8 σ8 H8 _ I8 q8) (fun b s8' z => ?_) (fun e s z => (show False from z).elim)
      obtain ⟨H8', I8', q8'⟩ := z
      have goOn : ∀ {s10 : Shared} {H10 : Hp} {m' : Nat}, Inv (X.blk (tgs ++ fr.map (·.1)) sc cl s3.heap.objs.size s3 (upd H2 s2.heap.objs.size (.lst [])) fp) _ σ8 H10 s10 → m' < n → W (i + 1) m' σ8 H10 → ∃ m, m < n ∧ ∃ i σb H', Inv (X.blk (tgs ++ fr.map (·.1)) sc cl s3.heap.objs.size s3 (upd H2 s2.heap.objs.size (.lst [])) fp) [] σb H' s10 ∧ tn i s10.heap ∧ (∀ b ∈ fp, H' b = none) ∧ W i m σb H' := fun {s10 H10 m'} I10 hm w9 => by
        refine ⟨m', hm, i + 1, σ8, _, I10.unpinned, T.keep _ _ _ st7 fun b hb o e => (I10.pin (b, o) (List.mem_append_right _ (List.mem_append_right _ (mem_pinsAt hb e)))).1, fun b hb => ?_, w9⟩
        obtain ⟨o, e, d⟩ := T.obj _ _ st7 b hb
        exact (I10.pin (b, o) (List.mem_append_right _ (List.mem_append_right _ (mem_pinsAt hb e)))).2.1
      cases b with
      | false =>
        obtain ⟨m', hm, w9⟩ := (if_neg Bool.false_ne_true).mp q8'
        exact (if_neg Bool.false_ne_true).mpr (goOn I8' hm w9)
      | true =>
        refine (if_pos rfl).mpr ?_
        refine wpAny_mono (he cl s3.heap.objs.size s3 (upd H2 s2.heap.objs.size (.lst [])) fp _ s8' _ H8' _ I8' ((if_pos rfl).mp q8')) (fun v s9 z => ?_) (fun e s z => (show False from z).elim)
        obtain ⟨z, H9, I9, r9, xs, m', ha, hl, hm, w9⟩ := z
        refine wpAny_mono (mt_append (X := X.blk (tgs ++ fr.map (·.1)) sc cl s3.heap.objs.size s3 (upd H2 s2.heap.objs.size (.lst [])) fp) _ s9 _ H9 (.ref s2.heap.objs.size) [z] (.ref s2.heap.objs.size) [v] (fun _ H' => H' = upd H9 s2.heap.objs.size (.lst (xs ++ [z]))) I9 rfl (.cons r9 .nil) ⟨_, xs, z, rfl, rfl, ha, hl, rfl⟩) (fun _ s10 z => ?_) (fun e s z => (show False from z).elim)
        obtain ⟨_, H10, I10, _, e10⟩ := z
        subst e10
        exact goOn I10 hm w9
  exact codeAny_compStart_list loop (T.self X.A 0 _ _ _ st4 loop)
end
theorem ps_setLCIf {X : Cx} {elt iter c : Expr} {tg : Str} {ps pos : Pos} {sc : Scope} {fr : List (Str × Nat)} {wi : TI} {te : TE} {tc : TT} {y : Str} {py spos : Pos} {iy : Nat} (hN : X.N.Nodup) (hi' : X.N[iy]? = some y) (hy : Loc X.env.scope y) (hc : X.calm = true) (ok : CompOkG X [tg] sc fr ∧ sc.names.lookup tg = some .local) (hi : PI X (.Name tg ps) iter wi)
    (ht : ∀ cl C s3 H3 fp, PT (X.blk ([tg] ++ fr.map (·.1)) sc cl C s3 H3 fp) c tc) (he : ∀ cl C s3 H3 fp, PE (X.blk ([tg] ++ fr.map (·.1)) sc cl C s3 H3 fp) elt te) (hs : ∀ x, foldedSetIterable iter X.env x = pure x := by intro _; rfl)
    (hsw : swapsWith (.ListComp elt [⟨.Name tg ps, iter, [c], 0⟩] sc pos) (some (.Name y py)) spos.line X.env = pure true := by rfl) (hfn : X.fn y = true ∨ X.env.scope.names.lookup y = some .local := by first | exact .inl rfl | exact .inr rfl | assumption) :
    PS X (.Assign [.Name y py] (.ListComp elt [⟨.Name tg ps, iter, [c], 0⟩] sc pos) spos) (tAsg (tLCG 1 fr wi (gName 0) tc te) (gName iy)) :=
  ps_setLCG (tgs := [tg]) hN hi' hy hc ok.1 hi (fun _ _ _ _ _ => pg_name ok.1.nd rfl (.inl (lookup_relabel_local ok.2)) (.inr (lookup_relabel_local ok.2))) (fun _ _ _ _ _ => pif_one (ht _ _ _ _ _)) he hs hsw hfn
/-- len, with a relation that has a name -/
def rLen (K : PySem.W.Frag) : List V → Hp → VK → Prop := fun xs H Q => ∃ p ys, xs = [.ref p] ∧ (SqL K H p ys ∨ SqT K H p ys) ∧ Q (.int ys.length) H
end L2

/-! two nested values that are alike: == is True, != False -/
namespace L2
open PySem PySem.Spec PyProof.Rows
inductive Alike (K : PySem.W.Frag) (H : Hp) : Nat → V → V → Prop
  | int {n : Nat} {i : Int} : Alike K H n (.int i) (.int i)
  | str {n : Nat} {x : Str} : Alike K H n (.str x) (.str x)
  | bl {n : Nat} {b : Bool} : Alike K H n (.bl b) (.bl b)
  | non {n : Nat} : Alike K H n .non .non
  | ref {n : Nat} {a : Addr} : Alike K H n (.ref a) (.ref a)
  | tup {n : Nat} {p q : Addr} {xs ys : List V} (h1 : SqT K H p xs) (h2 : SqT K H q ys) (hl : xs.length = ys.length) (he : ∀ (j : Nat) (x y : V), xs[j]? = some x → ys[j]? = some y → Alike K H n x y) : Alike K H (n + 1) (.ref p) (.ref q)
  | lst {n : Nat} {p q : Addr} {xs ys : List V} (h1 : SqL K H p xs) (h2 : SqL K H q ys) (hl : xs.length = ys.length) (he : ∀ (j : Nat) (x y : V), xs[j]? = some x → ys[j]? = some y → Alike K H n x y) : Alike K H (n + 1) (.ref p) (.ref q)
theorem vals_at {xs : List V} {us : List Value} (h : Vals xs us) : ∀ {j : Nat} {u : Value}, us[j]? = some u → ∃ x, xs[j]? = some x ∧ RelV x u := by
  induction h with
  | nil => intro j u e; simp at e
  | cons r rr ih =>
    intro j u e
    cases j with
    | zero => exact ⟨_, rfl, by rw [List.getElem?_cons_zero] at e; cases e; exact r⟩
    | succ j => exact ih (by rw [List.getElem?_cons_succ] at e; exact e)
theorem all_true {n : Nat} : (List.range n).all (fun _ => true) = true := by rw [List.all_eq_true]; intro _ _; rfl
section
variable {X : Cx} {pins : List (Addr × Obj)} {σ : St} {H : Hp} {s : Shared}
theorem Inv.alike (I : Inv X pins σ H s) {n : Nat} {x y : V} (h : Alike X.K H n x y) : ∀ {A : Around} {u v : Value}, A.units + n < cLine → RelV x u → RelV y v → SeqAt.EqAt A s u v true := by
  induction h with
  | @int n i =>
    intro A u v hu r1 r2
    obtain ⟨t, rfl⟩ := r1
    obtain ⟨t', rfl⟩ := r2
    have := SeqAt.EqAt.int_int (A := A) (s := s) i t i t'
    rw [beq_self_eq_true] at this
    exact this
  | @str n x =>
    intro A u v hu r1 r2
    obtain ⟨t, rfl⟩ := r1
    obtain ⟨t', rfl⟩ := r2
    have := SeqAt.EqAt.str_str (A := A) (s := s) x t x t'
    rw [beq_self_eq_true] at this
    exact this
  | bl => intro A u v hu r1 r2; cases r1; cases r2; exact SeqAt.EqAt.same _
  | non => intro A u v hu r1 r2; cases r1; cases r2; exact SeqAt.EqAt.same _
  | ref => intro A u v hu r1 r2; cases r1; cases r2; exact SeqAt.EqAt.same _
  | @tup n p q xs ys h1 h2 hl he ih =>
    intro A u v hu r1 r2
    cases r1
    cases r2
    by_cases e : p = q
    · subst e; exact SeqAt.EqAt.same _
    · refine SeqAt.EqAt.of_refs e ?_
      obtain ⟨its, v1, p1, _⟩ := I.tuple h1
      obtain ⟨its2, v2, p2, _⟩ := I.tuple h2
      have l1 := v1.length
      have l2 := v2.length
      have key := SeqAt.RcAt.tuples (A := A) (s := s) (l := p) (b := q) (items := its.toArray) (items2 := its2.toArray) (e := fun _ => true) p1 p2 (by omega) (fun j g1 g2 => by
        have g1' : j < its.length := by simpa using g1
        have g2' : j < its2.length := by simpa using g2
        obtain ⟨x, ex, rx⟩ := vals_at v1 (List.getElem?_eq_getElem g1')
        obtain ⟨y, ey, ry⟩ := vals_at v2 (List.getElem?_eq_getElem g2')
        have w1 : its.toArray[j] = its[j] := by simp
        have w2 : its2.toArray[j] = its2[j] := by simp
        rw [w1, w2]
        exact ih j x y ex ey (by show A.units + 1 + n < cLine; omega) rx ry)
      have e2 : ((List.range (min its.toArray.size its2.toArray.size)).all (fun _ => true) && its.toArray.size == its2.toArray.size) = true := by
        rw [all_true, Bool.true_and, List.size_toArray, List.size_toArray, ← l1, ← l2, hl, beq_self_eq_true]
      rw [e2] at key
      exact key
  | @lst n p q xs ys h1 h2 hl he ih =>
    intro A u v hu r1 r2
    cases r1
    cases r2
    by_cases e : p = q
    · subst e; exact SeqAt.EqAt.same _
    · refine SeqAt.EqAt.of_refs e ?_
      obtain ⟨its, v1, p1, _⟩ := I.list h1
      obtain ⟨its2, v2, p2, _⟩ := I.list h2
      have l1 := v1.length
      have l2 := v2.length
      have key := SeqAt.RcAt.lists (A := A) (s := s) (l := p) (b := q) (items := its.toArray) (items2 := its2.toArray) (e := fun _ => true) p1.isList p2.isList (by rw [List.size_toArray, List.size_toArray, ← l1, ← l2, hl]) (by omega) (fun j g1 g2 => by
        have g1' : j < its.length := by simpa using g1
        have g2' : j < its2.length := by simpa using g2
        obtain ⟨x, ex, rx⟩ := vals_at v1 (List.getElem?_eq_getElem g1')
        obtain ⟨y, ey, ry⟩ := vals_at v2 (List.getElem?_eq_getElem g2')
        have w1 : its.toArray[j] = its[j] := by simp
        have w2 : its2.toArray[j] = its2[j] := by simp
        rw [w1, w2]
        exact ih j x y ex ey (by show A.units + 1 + n < cLine; omega) rx ry)
      rw [all_true] at key
      exact key
/-- both are tuples, or both lists, alike item by item -/
def AlikeS (K : PySem.W.Frag) (H : Hp) (p q : Addr) : Prop := ∃ (n : Nat) (xs ys : List V), n ≤ 100 ∧ ((SqT K H p xs ∧ SqT K H q ys) ∨ (SqL K H p xs ∧ SqL K H q ys)) ∧ xs.length = ys.length ∧ ∀ (j : Nat) (x y : V), xs[j]? = some x → ys[j]? = some y → Alike K H n x y
def rAlk (K : PySem.W.Frag) (b : Bool) : R2 := fun x y H Q => ∃ p q, x = .ref p ∧ y = .ref q ∧ AlikeS K H p q ∧ Q (.bl b) H
theorem z_alk {K : PySem.W.Frag} {H : Hp} {Q : VK} {b : Bool} {p q : Addr} (h : AlikeS K H p q) (k : Q (.bl b) H) : rAlk K b (.ref p) (.ref q) H Q := ⟨p, q, rfl, rfl, h, k⟩
theorem op_eqA (hu : X.A.units + 150 < cLine) : OpR X (compareOp .Eq) (rAlk X.K true) := by
  intro pins s σ H x y v u Q I rx ry h
  obtain ⟨p, q, rfl, rfl, ⟨n, xs, ys, hn, hs, hl, he⟩, k⟩ := h
  cases rx
  cases ry
  rcases hs with ⟨h1, h2⟩ | ⟨h1, h2⟩
  · obtain ⟨its, v1, p1, _⟩ := I.tuple h1
    obtain ⟨its2, v2, p2, _⟩ := I.tuple h2
    have l1 := v1.length
    have l2 := v2.length
    have key := SeqAt.RcAt.tuples (A := X.A) (s := s) (l := p) (b := q) (items := its.toArray) (items2 := its2.toArray) (e := fun _ => true) p1 p2 (by omega) (fun j g1 g2 => by
      have g1' : j < its.length := by simpa using g1
      have g2' : j < its2.length := by simpa using g2
      obtain ⟨x, ex, rx⟩ := vals_at v1 (List.getElem?_eq_getElem g1')
      obtain ⟨y, ey, ry⟩ := vals_at v2 (List.getElem?_eq_getElem g2')
      have w1 : its.toArray[j] = its[j] := by simp
      have w2 : its2.toArray[j] = its2[j] := by simp
      rw [w1, w2]
      exact I.alike (he j x y ex ey) (by show X.A.units + 1 + n < cLine; omega) rx ry)
    have e2 : ((List.range (min its.toArray.size its2.toArray.size)).all (fun _ => true) && its.toArray.size == its2.toArray.size) = true := by
      rw [all_true, Bool.true_and, List.size_toArray, List.size_toArray, ← l1, ← l2, hl, beq_self_eq_true]
    rw [e2] at key
    exact key _ _ _ _ ⟨.bl true, H, I, rfl, k⟩
  · obtain ⟨its, v1, p1, _⟩ := I.list h1
    obtain ⟨its2, v2, p2, _⟩ := I.list h2
    have l1 := v1.length
    have l2 := v2.length
    have key := SeqAt.RcAt.lists (A := X.A) (s := s) (l := p) (b := q) (items := its.toArray) (items2 := its2.toArray) (e := fun _ => true) p1.isList p2.isList (by rw [List.size_toArray, List.size_toArray, ← l1, ← l2, hl]) (by omega) (fun j g1 g2 => by
      have g1' : j < its.length := by simpa using g1
      have g2' : j < its2.length := by simpa using g2
      obtain ⟨x, ex, rx⟩ := vals_at v1 (List.getElem?_eq_getElem g1')
      obtain ⟨y, ey, ry⟩ := vals_at v2 (List.getElem?_eq_getElem g2')
      have w1 : its.toArray[j] = its[j] := by simp
      have w2 : its2.toArray[j] = its2[j] := by simp
      rw [w1, w2]
      exact I.alike (he j x y ex ey) (by show X.A.units + 1 + n < cLine; omega) rx ry)
    rw [all_true] at key
    exact key _ _ _ _ ⟨.bl true, H, I, rfl, k⟩
end
theorem Room.un150 {k : Nat} {A : Around} (r : Room k A) : A.units + 150 < cLine := by have := r.un; omega
end L2

/-! the head for a law that multiplies a script's own numbers: a script has at most 2 ^ 20 bits -/
namespace L2
open PySem PySem.Spec PyProof.Rows PySem.W PySem.Calls
theorem bits_of_script : ∀ {ns : List Int}, WData.weightAll (ns.map WData.int) ≤ 2 ^ 20 → ∀ x ∈ ns, My.Bd 1048576 x
  | y :: r, h, x, hx => by
    have h' : WData.weight (.int y) + 1 + WData.weightAll (r.map WData.int) ≤ 2 ^ 20 := h
    rcases List.mem_cons.mp hx with e | e
    · subst e
      have w : WData.weight (.int x) = (if x == 0 then 0 else x.natAbs.log2 + 1) := by
        first | rfl | simp [WData.weight]
      unfold My.Bd
      by_cases z : x = 0
      · subst z
        exact Nat.two_pow_pos _
      · have zb : (x == 0) = false := by simpa using z
        rw [w, zb] at h'
        have h2 : x.natAbs.log2 < 1048576 := by
          have e20 : (2 : Nat) ^ 20 = 1048576 := by decide
          rw [e20] at h'
          simp only [Bool.false_eq_true, if_false] at h'
          omega
        exact (Nat.log2_lt (by omega)).mp h2
    · exact bits_of_script (by omega) x e
theorem attach_callB {l : OpenLaw} {n : Nat} {q : Program} {loose : List Str} {XP : (Str → Option Value) → Heap → Prop} {YP : World → Heap → Prop} {d : DefRec}
    (hn : l.most = some n) (hdf : d.params.defaults = [])
    (call : ∀ (w : World) (s₀ s₁ : Shared) (mg mb : Str → Option Value) (fa : Addr) (o : Obj) (pm cd doc : Value) (a : Addr) (vs : List Value) (ns : List Int),
      Ground q loose [] XP w s₀ mg mb s₁.heap → YP w s₁.heap →
      s₁.heap.get? fa = some o → o.data = .func (docDef d.name d.params d.body d.scope pm cd doc) → s₁.heap.CodeRec cd d.name → mg d.name = some (.ref fa) →
      s₁.heap.get? a = some { cls := .type "list", data := .seq vs.toArray } → IntsAre vs ns → ns.length ≤ n → (∀ x ∈ ns, My.Bd 1048576 x) → s₁.gens = #[] →
      codeAny (model l.prog w) callerA (.call (.ref fa) ⟨[.ref a], []⟩) (fun r s' => r = .ok (.ret (.bool true)) ∧ OldK s₁.heap s'.heap ∧ s'.os = s₁.os ∧ AllBare s'.gens) s₁) :
    WalkO q loose XP YP l.row.toRowW d [] (fun f vs => PySem.call f vs) := by
  intro w s₀ s₁ mg mb G Y fa o pm cd doc dV kV ho hd hcd hD hmg hg args vals as hpre hlay hrd hwl hlo
  obtain rfl : dV = .none := Dflts.none hD hdf
  obtain rfl : kV = .none := Dflts.noKw hD
  obtain ⟨a, vs, ns, rfl, rfl, hobj, hints, hlen⟩ := Att.script_of hn hpre hwl
  have hb : ∀ x ∈ ns, My.Bd 1048576 x := by
    have h1 : (WData.list (ns.map WData.int)).layable = true := by
      have h2 : ([WData.list (ns.map WData.int)].all WData.layable) = true := hlay
      simpa using h2
    obtain ⟨_, _, h3⟩ := layableW_iff.mp h1
    refine bits_of_script ?_
    have e : WData.weight (.list (ns.map WData.int)) = WData.weightAll (ns.map WData.int) := by
      first | rfl | simp [WData.weight]
    rw [e] at h3
    exact h3
  refine enter_call (codeAny_mono (call w s₀ s₁ mg mb fa o pm cd doc a vs ns G Y ho (fd_plain hd) hcd hmg hobj hints hlen hb hg) fun r s' hq => ?_)
  obtain ⟨rfl, h2, h3, h4⟩ := hq
  exact ⟨.inl ⟨.bool true, .bool true, [], rfl, fun _ => rfl, .bool true, Att.post_true l _, fun _ => ⟨List.Pairwise.nil, fun _ hm => (nomatch hm)⟩⟩, h2, h3, h4⟩
theorem walk_ofB {l : PySem.W.OpenLaw} {n k : Nat} {q : Program} {loose : List Str} {XP : (Str → Option Value) → Heap → Prop} {YP : World → Heap → Prop} {d : DefRec} {K : Params → PySem.W.Frag} {CX : World → CXT} {sp : World → Sp} {x : Str}
    (hn : l.most = some n) (hn2 : n ≤ sizeLine) (hdf : d.params.defaults = []) (hr : Room k callerA)
    (hY : ∀ (w : World) (h : Heap), YP w h → (K w.params).In h)
    (F : ∀ (w : World) (mg : Str → Option Value) (fa : Addr) (h : Heap), (K w.params).In h → h.Ns mainGlobals mg → mg d.name = some (.ref fa) →
      ∃ fd : FuncData, (∀ (s : Shared) (u : Value), BindsTo s fd ⟨[u], []⟩ [(x, u)]) ∧
        ∀ base : Heap, (K w.params).In base → base.Ns mainGlobals mg → FnOk l.prog w (K w.params) mg base (CX w) k fa fd [x] (sp w))
    (hsp : ∀ (w : World) (H : Hp) (a : Addr) (ns : List Int), ns.length ≤ n → (∀ x ∈ ns, My.Bd 1048576 x) → Only H → SqL (K w.params) H a (ns.map V.int) → sp w [.ref a] H (fun v _ => v = .bl true) fun _ _ _ => False)
    (hCX : ∀ (w : World) (H : Hp) (s : Shared) (e : Value) (s' : Shared), CX w [] H s (fun _ _ _ => False) e s' → False) :
    PySem.W.WalkO q loose XP YP l.row.toRowW d [] (fun f vs => PySem.call f vs) := by
  refine attach_callB hn hdf fun w s₀ s₁ mg mb fa o pm cd doc a vs ns G Y ho hd hcd hmg hobj hints hlen hbits hg => ?_
  have KX := hY w _ Y
  obtain ⟨fd, hb, hF⟩ := F w mg fa _ KX G.T.g hmg
  exact law_call KX G.T.g G.T.b G.T.builtins G.T.nolimit hg hobj hints (Nat.le_trans hlen hn2) hr hF hb (fun H hO hS => hsp w H a ns hlen hbits hO hS) fun H e s' => hCX w H s₁ e s'
end L2

/-! methods of lists and texts: index, join -/
namespace L2
open PySem PySem.Spec PyProof.Rows
def rIndex (K : PySem.W.Frag) : V → List V → Hp → VK → Prop := fun x vs H Q => ∃ (l : Addr) (xs : List V) (y z : V) (j : Nat), x = .ref l ∧ vs = [y] ∧ SqL K H l xs ∧ flatV y = true ∧ xs.all flatV = true ∧ xs[j]? = some z ∧ eqV z y = true ∧ (∀ (i : Nat) (u : V), i < j → xs[i]? = some u → eqV u y = false) ∧ Q (.int j) H
def rJoin (K : PySem.W.Frag) : V → List V → Hp → VK → Prop := fun x vs H Q => ∃ (l : Addr) (sep : Str) (ts : List Str), x = .str sep ∧ vs = [.ref l] ∧ SqL K H l (ts.map V.str) ∧ JoinOk sep ts = true ∧ Q (.str (Txt.join sep ts)) H
section
variable {X : Cx}
theorem flat_at {xs : List V} (h : xs.all flatV = true) {j : Nat} {x : V} (hx : xs[j]? = some x) : flatV x = true := List.all_eq_true.mp h x (List.mem_of_getElem? hx)
theorem mt_index : MtM X "list.index" (rIndex X.K) := by
  intro pins s σ H x vs v us Q I rx rv h
  obtain ⟨l, xs, y, z, j, rfl, rfl, hq, fy, fs, hz, hit, hno, q⟩ := h
  cases rx
  obtain ⟨u, rfl, ru⟩ := rv.one
  obtain ⟨its, r, pl, hsz⟩ := I.list hq
  have hlen := r.length
  have hj : j < xs.length := by
    rcases Nat.lt_or_ge j xs.length with c | c
    · exact c
    · rw [List.getElem?_eq_none c] at hz; cases hz
  have h63 := line63
  obtain ⟨⟨cls, dd, data, sl⟩, n, ho, hc, _, hd⟩ := id pl
  simp only at hc hd
  subst hc hd
  have at_ : ∀ (i : Nat) (hi : i < its.length), ∃ w, xs[i]? = some w ∧ eqU y its[i] = eqV w y := fun i hi => by
    obtain ⟨w, hw, rw'⟩ : ∃ w, xs[i]? = some w ∧ RelV w its[i] := by
      have : ∀ {xs : List V} {us : List Value}, Vals xs us → ∀ {i : Nat} {u : Value}, us[i]? = some u → ∃ x, xs[i]? = some x ∧ RelV x u := by
        intro xs us h
        induction h with
        | nil => intro i u e; simp at e
        | cons r rr ih =>
          intro i u e
          cases i with
          | zero => exact ⟨_, rfl, by rw [List.getElem?_cons_zero] at e; cases e; exact r⟩
          | succ i => exact ih (by rw [List.getElem?_cons_succ] at e; exact e)
      exact this r (List.getElem?_eq_getElem hi)
    exact ⟨w, hw, eqU_of rw' (flat_at fs hw)⟩
  refine call_meets PySem.F.slot_list_index ⟨_, ho, rfl⟩ PySem.F.entry_list_index (PySem.F.args_list_index_2 _ _)
    (SeqAt.list_indexAt l its.toArray n dd sl u (eqU y) j (by simpa [← hlen] using hj) (by omega) ?_ ?_) ⟨ho, fun w hw => mem_eqAt ru fy r fs w (by simpa using hw), ⟨.int j, H, I.tok _, ⟨_, rfl⟩, q⟩⟩
  · obtain ⟨w, hw, e⟩ := at_ j (by omega)
    rw [hz] at hw
    cases hw
    show eqU y its.toArray[j] = true
    rw [show its.toArray[j]'(by simpa [← hlen] using hj) = its[j]'(by omega) by simp, e]
    exact hit
  · intro i hi hlt
    have hi' : i < its.length := by simpa using hi
    obtain ⟨w, hw, e⟩ := at_ i hi'
    show eqU y its.toArray[i] = false
    rw [show its.toArray[i] = its[i] by simp, e]
    exact hno i w hlt hw
theorem strs_of : ∀ {ts : List Str} {us : List Value}, Vals (ts.map V.str) us → ∃ l : List (Str × Tok), strValues l = us ∧ l.map (·.1) = ts
  | [], _, .nil => ⟨[], rfl, rfl⟩
  | x :: r, _, .cons h t => by
    obtain ⟨tk, rfl⟩ := h
    obtain ⟨l, e1, e2⟩ := strs_of (ts := r) t
    exact ⟨(x, tk) :: l, by rw [← e1]; rfl, by rw [← e2]; rfl⟩
theorem mt_join : MtM X "str.join" (rJoin X.K) := by
  intro pins s σ H x vs v us Q I rx rv h
  obtain ⟨l, sep, ts, rfl, rfl, hq, hok, q⟩ := h
  obtain ⟨t, rfl⟩ := rx
  obtain ⟨u, rfl, ru⟩ := rv.one
  cases ru
  obtain ⟨its, r, pl, hsz⟩ := I.list hq
  obtain ⟨ll, e1, e2⟩ := strs_of r
  refine SC.join (l := ll) (texts := ts) (by rw [e1]; exact pl.isList) e2 hok (fun t' k => ⟨.str _, H, I.tok _, ⟨_, rfl⟩, q⟩)
/-- a text's slice -/
def rSlS : V → Option Int → Option Int → Hp → VK → Prop := fun x lo hi H Q => ∃ z : Str, x = .str z ∧ z.length ≤ sizeLine ∧ Q (.str (Txt.slice z lo hi)) H
theorem sl_str : SlR X rSlS := by
  intro pins s σ H x v vl vu lo hi sl Q I rx hs pl pu h
  obtain ⟨z, rfl, hz, q⟩ := h
  obtain ⟨t, rfl⟩ := rx
  have fin : ∀ (l u : Option (Int × Tok)), s.heap.IsSlice sl l u none → Q (.str (Txt.slice z (l.map (·.1)) (u.map (·.1)))) H → wpAny (model X.prog X.w) X.A (getItem (.str z t) (.ref sl)) (EP X pins σ Q) X.xe s := fun l u hs q =>
    wpAny_getItem_str_slice (l := l) (u := u) (st := none) hs rfl (post_val_or_str ⟨Nat.le_trans (Txt.slice_le z _ _) hz, fun t' k => ⟨.str _, H, I.tok _, ⟨_, rfl⟩, q⟩⟩)
  refine ⟨"str", _, PySem.F.slot_str_getitem.lookup, typeIs_str _ _ _, ?_⟩
  cases pl with
  | none =>
    cases pu with
    | none => exact fin none none hs q
    | int j tj => exact fin none (some (j, tj)) hs q
  | int i ti =>
    cases pu with
    | none => exact fin (some (i, ti)) none hs q
    | int j tj => exact fin (some (i, ti)) (some (j, tj)) hs q
/-- a list held against the empty one -/
def rEqE (K : PySem.W.Frag) (f : Bool → Bool) : R2 := fun x y H Q => ∃ (p q : Addr) (xs : List V), x = .ref p ∧ y = .ref q ∧ SqL K H p xs ∧ SqL K H q [] ∧ Q (.bl (f xs.isEmpty)) H
theorem op_eqE (hu : X.A.units < cLine) : OpR X (compareOp .Eq) (rEqE X.K (fun b => b)) := by
  intro pins s σ H x y v u Q I rx ry h
  obtain ⟨p, q, xs, rfl, rfl, h1, h2, k⟩ := h
  cases rx
  cases ry
  obtain ⟨its, v1, p1, _⟩ := I.list h1
  obtain ⟨its2, v2, p2, _⟩ := I.list h2
  have l1 := v1.length
  have l2 := v2.length
  cases xs with
  | nil =>
    have e1 : its.length = 0 := by rw [← l1]; rfl
    have e2 : its2.length = 0 := by rw [← l2]; rfl
    have key := SeqAt.RcAt.lists (A := X.A) (s := s) (l := p) (b := q) (items := its.toArray) (items2 := its2.toArray) (e := fun _ => true) p1.isList p2.isList (by rw [List.size_toArray, List.size_toArray, e1, e2]) hu (fun j g1 g2 => by
      have g1' : j < its.length := by simpa using g1
      omega)
    have e3 : (List.range its.toArray.size).all (fun _ => true) = true := by rw [List.all_eq_true]; intro _ _; rfl
    rw [e3] at key
    exact key _ _ _ _ ⟨.bl true, H, I, rfl, k⟩
  | cons y r =>
    have e1 : its.length = r.length + 1 := by rw [← l1]; rfl
    have e2 : its2.length = 0 := by rw [← l2]; rfl
    have key := SeqAt.RcAt.lists_lengths (A := X.A) (s := s) (l := p) (b := q) (items := its.toArray) (items2 := its2.toArray) p1.isList p2.isList (by rw [List.size_toArray, List.size_toArray, e1, e2]; rfl) hu
    exact key _ _ _ _ ⟨.bl false, H, I, rfl, k⟩
def rAddS : R2 := fun x y H Q => ∃ i j, x = .str i ∧ y = .str j ∧ i.length + j.length ≤ sizeLine ∧ Q (.str (i ++ j)) H
theorem op_addS : OpR X (binaryOp .Add) rAddS := op_add_str
end
section
variable {σ : St} {H : Hp} {Q : VK} {K : PySem.W.Frag} {p q : Addr} {xs : List V} {f : Bool → Bool}
theorem z_addS {a b : Str} (h : a.length + b.length ≤ sizeLine) (k : Q (.str (a ++ b)) H) : rAddS (.str a) (.str b) H Q := ⟨a, b, rfl, rfl, h, k⟩
theorem z_eqE (h1 : SqL K H p xs) (h2 : SqL K H q []) (k : Q (.bl (f xs.isEmpty)) H) : rEqE K f (.ref p) (.ref q) H Q := ⟨p, q, xs, rfl, rfl, h1, h2, k⟩
theorem z_slS {z : Str} {lo hi : Option Int} (h : z.length ≤ sizeLine) (k : Q (.str (Txt.slice z lo hi)) H) : rSlS (.str z) lo hi H Q := ⟨z, rfl, h, k⟩
theorem z_ixS {z : Str} {i : Int} {c : Nat} (h : z.length ≤ sizeLine) (ha : atI z.cps.toList i = some c) (k : Q (.str ⟨#[c]⟩) H) : rIxS (.str z) (.int i) H Q := ⟨z, i, c, rfl, rfl, h, ha, k⟩
theorem z_index {y z : V} {j : Nat} (h : SqL K H p xs) (fy : flatV y = true) (fs : xs.all flatV = true) (hz : xs[j]? = some z) (hit : eqV z y = true) (hno : ∀ (i : Nat) (u : V), i < j → xs[i]? = some u → eqV u y = false) (k : Q (.int j) H) : rIndex K (.ref p) [y] H Q := ⟨p, xs, y, z, j, rfl, rfl, h, fy, fs, hz, hit, hno, k⟩
theorem z_join {sep : Str} {ts : List Str} (h : SqL K H p (ts.map V.str)) (ok : JoinOk sep ts = true) (k : Q (.str (Txt.join sep ts)) H) : rJoin K (.str sep) [.ref p] H Q := ⟨p, sep, ts, rfl, rfl, h, ok, k⟩
theorem z_tyS {z : Str} {S : Prop} (q : S) : tyV K "str" (.str z) H ∧ S := ⟨rfl, q⟩
end
end L2

/-! the greatest of a list of ints -/
namespace L2
open PySem PySem.Spec PyProof.Rows
def IsMax (ns : List Int) (m : Int) : Prop := m ∈ ns ∧ ∀ n ∈ ns, n ≤ m
def rMax (K : PySem.W.Frag) : List V → Hp → VK → Prop := fun xs H Q => ∃ (p : Addr) (ns : List Int) (m : Int), xs = [.ref p] ∧ SqL K H p (ns.map V.int) ∧ IsMax ns m ∧ Q (.int m) H
/-! max with keywords: the loop carries them along -/
section
variable {prog : Program} {w : World} {A : Around} {R : Result → Shared → Prop} {I : Addr} {fp wr : List Addr} {n : Nat} {P : Nat → Value → Prop} {St : Nat → Heap → Prop} {kw : List (Str × Value)}
end
section
variable {X : Cx}
def tMaxD (K : PySem.W.Frag) (t td : TA) : TE := fun σ H Q => t σ H fun vs H1 => td σ H1 fun ds H2 => ∃ (p : Addr) (ns : List Int) (d : V), vs = [.ref p] ∧ ds = [d] ∧ SqL K H2 p (ns.map V.int) ∧ ((ns = [] ∧ Q d H2) ∨ ∃ m, IsMax ns m ∧ Q (.int m) H2)
end
end L2

/-! `is True`, o[i] = v, comprehensions whose element changes the heap -/
namespace L2
open PySem PySem.Spec PyProof.Rows
def rIsB : R2 := fun x y H Q => ∃ a b : Bool, x = .bl a ∧ y = .bl b ∧ Q (.bl (a == b)) H
section
variable {σ : St} {H : Hp} {Q : VK}
theorem z_isB {a b : Bool} (q : Q (.bl (a == b)) H) : rIsB (.bl a) (.bl b) H Q := ⟨a, b, rfl, rfl, q⟩
end
/-- the loop of a comprehension without a test -/
def LCN (st : St) (J : It) (te : TE) (H1 : Hp) (Q : VK) : Prop := ∀ acc, H1 acc = none → ∃ W : Nat → Nat → Hp → Prop, (∃ m, W 0 m (upd H1 acc (.lst []))) ∧ ∀ i m H2, W i m H2 →
  (J.stop i H2 ∧ Q (.ref acc) H2) ∨ (J.go i H2 ∧ ∀ x H3, J.yld i H2 x H3 → te (some x :: st) H3 fun v H4 => ∃ xs m', H4 acc = some (.lst xs) ∧ xs.length < sizeLine ∧ m' < m ∧ W (i + 1) m' (upd H4 acc (.lst (xs ++ [v]))))
theorem z_lcn {fr : List (Str × Nat)} {wi : TI} {te : TE} {σ : St} {H : Hp} {Q : VK} (h : wi σ H fun J H1 => LCN (inSt σ fr) J te H1 Q) : tLC fr wi te σ H Q := h
theorem z_r1N {J : It} {j : Int} {st : St} {te : TE} {H : Hp} {Q : VK} (h1 : -(2 ^ 62) ≤ j) (h2 : j < 2 ^ 62) (q : LCN st J te H Q) : -(2 ^ 62) ≤ j ∧ j < 2 ^ 62 ∧ LCN st J te H Q := ⟨h1, h2, q⟩
/-- Pv by the turn, the list so far, and the heap; it may not speak of the new list itself -/
theorem lcn_range {lo : Int} {n : Nat} {st : St} {te : TE} {H1 : Hp} {Q : VK} (Pv : Nat → List V → Hp → Prop) (hn : n ≤ sizeLine) (h0 : Pv 0 [] H1)
    (hup : ∀ i xs H2 acc o, H1 acc = none → Pv i xs H2 → Pv i xs (upd H2 acc o))
    (step : ∀ i xs acc H2 (S : V → Hp → Prop), i < n → H1 acc = none → Pv i xs H2 → H2 acc = some (.lst xs) → (∀ v H3, Pv (i + 1) (xs ++ [v]) H3 → H3 acc = some (.lst xs) → S v H3) → te (some (.int (lo + (i : Nat))) :: st) H2 S)
    (fin : ∀ acc xs H2, H1 acc = none → xs.length = n → Pv n xs H2 → H2 acc = some (.lst xs) → Q (.ref acc) H2) : LCN st (Itr lo n) te H1 Q := by
  intro acc hacc
  refine ⟨fun i m H2 => ∃ xs, m = n - i ∧ i ≤ n ∧ xs.length = i ∧ Pv i xs H2 ∧ H2 acc = some (.lst xs), ⟨n, [], by simp, Nat.zero_le _, rfl, hup _ _ _ _ _ hacc h0, upd_same⟩, ?_⟩
  rintro i m H2 ⟨xs, rfl, hi, hx, pv, ha⟩
  by_cases hlt : i < n
  · refine .inr ⟨hlt, fun x H3 y => ?_⟩
    obtain ⟨e, y⟩ := y
    subst e y
    refine step i xs acc _ _ hlt hacc pv ha fun v H4 pv4 e4 => ⟨xs, n - (i + 1), e4, by omega, by omega, xs ++ [v], rfl, hlt, by rw [List.length_append, hx]; rfl, hup _ _ _ _ _ hacc pv4, upd_same⟩
  · have e : i = n := by omega
    subst e
    exact .inl ⟨Nat.le_refl _, fin acc xs H2 hacc hx pv ha⟩
/-- a comprehension over a list, each item by itself -/
theorem lcn_list {K : PySem.W.Frag} {a : Addr} {xs : List V} {st : St} {te : TE} {H1 : Hp} {Q : VK} (g : V → V) (hs : SqL K H1 a xs) (hn : xs.length ≤ sizeLine)
    (step : ∀ x H2 (S : V → Hp → Prop), x ∈ xs → Same H1 H2 → (∀ H3, Same H2 H3 → S (g x) H3) → te (some x :: st) H2 S)
    (fin : ∀ acc H2, H1 acc = none → Same H1 H2 → H2 acc = some (.lst (xs.map g)) → Q (.ref acc) H2) : LCN st (Itl K a) te H1 Q := by
  intro acc hacc
  refine ⟨fun i m H2 => m = xs.length - i ∧ i ≤ xs.length ∧ Same H1 H2 ∧ H2 acc = some (.lst ((xs.take i).map g)), ⟨xs.length, by simp, Nat.zero_le _, Same.new hacc _, by rw [upd_same]; rfl⟩, ?_⟩
  rintro i m H2 ⟨rfl, hi, sH, ha⟩
  by_cases hlt : i < xs.length
  · have hx : xs[i]? = some xs[i] := List.getElem?_eq_getElem hlt
    refine .inr ⟨⟨xs, _, sH.seq hs, hx⟩, fun x H3 y => ?_⟩
    have e := y.2 xs (sH.seq hs)
    rw [hx] at e
    cases e
    rw [y.1]
    refine step _ _ _ (List.getElem_mem hlt) sH fun H4 s4 => ⟨_, xs.length - (i + 1), s4 _ _ ha, ?_, by omega, rfl, hlt, fun b o e => ?_, ?_⟩
    · rw [List.length_map, List.length_take]; omega
    · rw [upd_ne (fun z => by rw [z, hacc] at e; cases e)]
      exact s4 _ _ (sH _ _ e)
    · rw [upd_same, List.take_succ, hx, List.map_append]; rfl
  · have e : i = xs.length := by omega
    subst e
    refine .inl ⟨⟨xs, sH.seq hs, Nat.le_refl _⟩, fin acc H2 hacc sH ?_⟩
    rw [ha, List.take_length]
theorem z_EqB {H : Hp} {Q : VK} {a b : Bool} (q : Q (.bl (decide (a = b))) H) : rEq (.bl a) (.bl b) H Q := by
  refine ⟨rfl, ?_⟩
  have e : decide (V.bl a = V.bl b) = decide (a = b) := by
    by_cases h : a = b
    · subst h; simp
    · rw [decide_eq_false h, decide_eq_false (fun z => h (V.bl.inj z))]
  rw [e]; exact q
end L2

/-! texts: split, partition, startswith, all, int of a text, f-strings of ints, a text's signs one by one -/
namespace L2
open PySem PySem.Spec PyProof.Rows PySem.Builtin PySem.Builtin.Str
section
variable {X : Cx}
def rSplit : V → List V → Hp → VK → Prop := fun x vs H Q => ∃ z y : Str, x = .str z ∧ vs = [.str y] ∧ (y.length == 0) = false ∧ z.length + 2 ≤ sizeLine ∧ ∀ p, H p = none → Q (.ref p) (upd H p (.lst ((Txt.split z y).map V.str)))
def rPart : V → List V → Hp → VK → Prop := fun x vs H Q => ∃ z y : Str, x = .str z ∧ vs = [.str y] ∧ (y.length == 0) = false ∧ z.length ≤ sizeLine ∧ ∀ p, H p = none → Q (.ref p) (upd H p (.tup [.str (Txt.partition z y).1, .str (Txt.partition z y).2.1, .str (Txt.partition z y).2.2]))
def rStarts : V → List V → Hp → VK → Prop := fun x vs H Q => ∃ z y : Str, x = .str z ∧ vs = [.str y] ∧ Q (.bl (Txt.startswith z y)) H
def rAll (K : PySem.W.Frag) : List V → Hp → VK → Prop := fun xs H Q => ∃ (p : Addr) (bs : List Bool), xs = [.ref p] ∧ SqL K H p (bs.map V.bl) ∧ Q (.bl (bs.all fun b => b)) H
def rIntT : List V → Hp → VK → Prop := fun xs H Q => ∃ (z : Str) (n : Int), xs = [.str z] ∧ PySem.intText? z = some n ∧ z.length ≤ 640 ∧ Q (.int n) H
/-! f-strings -/
def tFv (te : TE) : TE := fun σ H Q => te σ H fun x H1 => ∃ i : Int, x = .int i ∧ i.natAbs.log2 < 1920 ∧ Q (.str (Str.ofString (toString i))) H1
def tFs : List TE → Str → TE
  | [], acc => fun _ H Q => Q (.str acc) H
  | t :: r, acc => fun σ H Q => t σ H fun x H1 => ∃ a : Str, x = .str a ∧ (acc ++ a).length ≤ sizeLine ∧ tFs r (acc ++ a) σ H1 Q
inductive PFs (X : Cx) : List Expr → List TE → Prop
  | nil : PFs X [] []
  | cons {e : Expr} {t : TE} {es : List Expr} {ts : List TE} : PE X e t → PFs X es ts → PFs X (e :: es) (t :: ts)
/-! a text's signs -/
def Its (z : Str) : It := ⟨fun i _ => i < z.cps.size, fun i H x H' => H' = H ∧ ∃ c, z.cps.toList[i]? = some c ∧ x = .str ⟨#[c]⟩, fun i _ => z.cps.size ≤ i⟩
def iStr (te : TE) : TI := fun σ H R => te σ H fun x H1 => ∃ z : Str, x = .str z ∧ R (Its z) H1
end
section
variable {σ : St} {H : Hp} {Q : VK} {te : TE}
theorem z_starts {z y : Str} (q : Q (.bl (Txt.startswith z y)) H) : rStarts (.str z) [.str y] H Q := ⟨z, y, rfl, rfl, q⟩
theorem z_fv (h : te σ H fun x H1 => ∃ i : Int, x = .int i ∧ i.natAbs.log2 < 1920 ∧ Q (.str (Str.ofString (toString i))) H1) : tFv te σ H Q := h
theorem z_fsn {acc : Str} (q : Q (.str acc) H) : tFs [] acc σ H Q := q
theorem z_fsc {acc : Str} {r : List TE} (h : te σ H fun x H1 => ∃ a : Str, x = .str a ∧ (acc ++ a).length ≤ sizeLine ∧ tFs r (acc ++ a) σ H1 Q) : tFs (te :: r) acc σ H Q := h
theorem z_iS {R : It → Hp → Prop} (h : te σ H fun x H1 => ∃ z : Str, x = .str z ∧ R (Its z) H1) : iStr te σ H R := h
theorem z_iS2 {z : Str} {S : Str → Prop} (q : S z) : ∃ z' : Str, V.str z = .str z' ∧ S z' := ⟨z, rfl, q⟩
theorem z_inS {i j : Str} {S : Str → Str → Prop} (q : S i j) : ∃ i' j' : Str, V.str i = .str i' ∧ V.str j = .str j' ∧ S i' j' := ⟨i, j, rfl, rfl, q⟩
end
end L2

/-! zfill -/
namespace L2
open PySem PySem.Spec PyProof.Rows PySem.Builtin PySem.Builtin.Str
section
variable {X : Cx}
def rZfill : V → List V → Hp → VK → Prop := fun x vs H Q => ∃ (z : Str) (i : Int), x = .str z ∧ vs = [.int i] ∧ PadOk i = true ∧ Q (.str (Txt.zfill z i)) H
/-- two lists of ints -/
def rNeL (K : PySem.W.Frag) : R2 := fun x y H Q => ∃ (a b : Addr) (ns ms : List Int), x = .ref a ∧ y = .ref b ∧ SqL K H a (ns.map V.int) ∧ SqL K H b (ms.map V.int) ∧ Q (.bl (!decide (ns = ms))) H
end
end L2

/-! numbers as texts -/
namespace My
open PySem PySem.NumText
def dg (n : Nat) : List Nat := (Nat.toDigits 10 n).map Char.toNat
/-- an int's text -/
def txt (n : Int) : List Nat := if n < 0 then 45 :: dg n.natAbs else dg n.natAbs
def hd (A : List Nat) : List Nat := if A.head? = some 45 then A.tail else A
def val (A : List Nat) : Int := if A.head? = some 45 then -((digitsVal A.tail : Nat) : Int) else ((digitsVal A : Nat) : Int)
def plain (cs : List Nat) : Prop := cs ≠ [] ∧ cs.length ≤ 60 ∧ ¬ (cs.head? = some 48 ∧ cs ≠ [48]) ∧ AllDigits cs
def figs (cs : List Nat) : Prop := cs ≠ [] ∧ AllDigits cs ∧ cs.length ≤ 60
def ok0 (A : List Nat) : Prop := plain (hd A) ∧ A ≠ [45, 48]
theorem plain.figs {cs : List Nat} (h : plain cs) : figs cs := ⟨h.1, h.2.2.2, h.2.1⟩
/-- what a text writes -/
def DueOk (cs : List Nat) (t b : Int) : Prop := (47 ∉ cs ∧ ok0 cs ∧ t = val cs ∧ b = 1) ∨
  ∃ A B, cs = A ++ 47 :: B ∧ 47 ∉ A ∧ ok0 A ∧ plain B ∧ 2 ≤ digitsVal B ∧ Int.gcd (val A) ((digitsVal B : Nat) : Int) = 1 ∧ t = val A ∧ b = ((digitsVal B : Nat) : Int)
/-- a number's text -/
def shw (t b : Int) : List Nat := if b = 1 then txt t else txt t ++ 47 :: txt b
end My

/-! texts of the model and their signs -/
namespace My
open PySem PySem.NumText PySem.StrLaws
abbrev cs (z : Str) : List Nat := z.cps.toList
theorem cs_len (z : Str) : (cs z).length = z.length := by simp [Str.length]
theorem cs_app (a b : Str) : cs (a ++ b) = cs a ++ cs b := by
  show (a.cps ++ b.cps).toList = _
  rw [Array.toList_append]
def digB (c : List Nat) : Bool := !c.isEmpty && c.all fun x => decide (48 ≤ x ∧ x ≤ 57)
def figB (c : List Nat) : Bool := digB c && decide (c.length ≤ 60)
end My

/-! figures with noughts ahead -/
namespace My
open PySem PySem.NumText
/-- four figures, two figures -/
def pad4 (n : Nat) : List Nat := [48 + n / 1000, 48 + n / 100 % 10, 48 + n / 10 % 10, 48 + n % 10]
def pad2 (n : Nat) : List Nat := [48 + n / 10, 48 + n % 10]
/-- a day's text -/
def dtx (y m e : Nat) : List Nat := pad4 y ++ 45 :: (pad2 m ++ 45 :: pad2 e)
end My

/-! slices of texts by their signs; days' texts -/
namespace My
open PySem PySem.NumText PySem.StrLaws PySem.Builtin PySem.Builtin.Str
/-- figures and their number -/
theorem pad4_dig (n : Nat) (h : n < 10000) : AllDigits (pad4 n) := by
  intro c hc
  unfold pad4 at hc
  simp only [List.mem_cons, List.not_mem_nil, or_false] at hc
  rcases hc with e | e | e | e <;> omega
theorem pad2_dig (n : Nat) (h : n < 100) : AllDigits (pad2 n) := by
  intro c hc
  unfold pad2 at hc
  simp only [List.mem_cons, List.not_mem_nil, or_false] at hc
  rcases hc with e | e <;> omega
theorem pad4_val {n : Nat} (h : n < 10000) : digitsVal (pad4 n) = n := by
  show ((((0 * 10 + (48 + n / 1000 - 48)) * 10 + (48 + n / 100 % 10 - 48)) * 10 + (48 + n / 10 % 10 - 48)) * 10 + (48 + n % 10 - 48)) = n
  omega
theorem pad2_val {n : Nat} (h : n < 100) : digitsVal (pad2 n) = n := by
  show ((0 * 10 + (48 + n / 10 - 48)) * 10 + (48 + n % 10 - 48)) = n
  omega
/-- what a text writes as a day -/
def DueDay (c : List Nat) (y m e : Int) : Prop := Valid y m e ∧ c = dtx y.toNat m.toNat e.toNat
theorem Valid.bd {y m e : Int} (v : Valid y m e) : y.toNat < 10000 ∧ m.toNat < 100 ∧ e.toNat < 100 := by
  have v1 := v.y2
  have v2 := v.m2
  have v3 := v.e2
  have v4 : mlen y m ≤ 31 := (ml_pos (L := leap y) v.m1 v.m2).2
  omega
theorem DueDay.parts {c : List Nat} {y m e : Int} (d : DueDay c y m e) : ∃ A B C, c = A ++ 45 :: (B ++ 45 :: C) ∧ A.length = 4 ∧ AllDigits A ∧ B.length = 2 ∧ AllDigits B ∧ C.length = 2 ∧ AllDigits C ∧ y = (digitsVal A : Nat) ∧ m = (digitsVal B : Nat) ∧ e = (digitsVal C : Nat) := by
  obtain ⟨v, rfl⟩ := d
  obtain ⟨w1, w2, w3⟩ := v.bd
  have y1 := v.y1
  have m1 := v.m1
  have z1 := v.e1
  exact ⟨_, _, _, rfl, rfl, pad4_dig _ w1, rfl, pad2_dig _ w2, rfl, pad2_dig _ w3, by rw [pad4_val w1]; omega, by rw [pad2_val w2]; omega, by rw [pad2_val w3]; omega⟩
end My

/-! more of the engine: joins, `is not True`, != of bools -/
namespace L2
open PySem PySem.Spec PyProof.Rows
def rNotB : R2 := fun x y H Q => ∃ a b : Bool, x = .bl a ∧ y = .bl b ∧ Q (.bl (a != b)) H
theorem z_notB {H : Hp} {Q : VK} {a b : Bool} (q : Q (.bl (a != b)) H) : rNotB (.bl a) (.bl b) H Q := ⟨a, b, rfl, rfl, q⟩
theorem z_NeB {H : Hp} {Q : VK} {a b : Bool} (q : Q (.bl (!decide (a = b))) H) : rNe (.bl a) (.bl b) H Q := by
  refine ⟨rfl, ?_⟩
  have e : decide (V.bl a = V.bl b) = decide (a = b) := by cases a <;> cases b <;> rfl
  rw [e]; exact q
/-- what comes behind a statement, by a predicate -/
theorem z_cut {t : TS} {σ : St} {H : Hp} {U bk ct : St → Hp → Prop} {rt : VK} (J : St → Hp → Prop) (h : ∀ U' : St → Hp → Prop, (∀ σ' H', J σ' H' → U' σ' H') → t ⟨U', rt, bk, ct⟩ σ H) (q : ∀ σ' H', J σ' H' → U σ' H') : t ⟨U, rt, bk, ct⟩ σ H := h U q
theorem z_ints {is : List Int} {σ : St} {H : Hp} {S : List V → Hp → Prop} (q : S (is.map V.int) H) : tInts is σ H S := q
/-- a comprehension over a range, each item of a kind -/
theorem lcn_rangeP {lo : Int} {n : Nat} {st : St} {te : TE} {H1 : Hp} {Q : VK} (P : Nat → V → Prop) (hn : n ≤ sizeLine)
    (step : ∀ i H2 (S : V → Hp → Prop), i < n → Same H1 H2 → (∀ v H3, Same H2 H3 → P i v → S v H3) → te (some (.int (lo + (i : Nat))) :: st) H2 S)
    (fin : ∀ acc xs H2, H1 acc = none → xs.length = n → (∀ i v, xs[i]? = some v → P i v) → Same H1 H2 → H2 acc = some (.lst xs) → Q (.ref acc) H2) : LCN st (Itr lo n) te H1 Q := by
  refine lcn_range (fun i xs H2 => xs.length = i ∧ Same H1 H2 ∧ ∀ i v, xs[i]? = some v → P i v) hn ⟨rfl, Same.refl _, fun i v h => by cases h⟩ ?_ ?_ ?_
  · rintro i xs H2 acc o hacc ⟨h1, h2, h3⟩
    exact ⟨h1, fun b u e => by rw [upd_ne (fun z => by rw [z, hacc] at e; cases e)]; exact h2 b u e, h3⟩
  · rintro i xs acc H2 S hi hacc ⟨h1, h2, h3⟩ ha k
    refine step i H2 S hi h2 fun v H3 s3 hv => k v H3 ⟨by rw [List.length_append, h1]; rfl, h2.trans s3, fun j u e => ?_⟩ (s3 _ _ ha)
    rcases Nat.lt_or_ge j xs.length with q | q
    · rw [List.getElem?_append_left q] at e
      exact h3 j u e
    · rw [List.getElem?_append_right q] at e
      have := (List.getElem?_eq_some_iff.mp e).1
      simp at this
      have ej : j = i := by omega
      subst ej
      rw [show j - xs.length = 0 by omega] at e
      cases e
      exact hv
  · rintro acc xs H2 hacc hx ⟨_, h2, h3⟩ ha
    exact fin acc xs H2 hacc hx h3 h2 ha
theorem z_catn {H : Hp} {Q : VK} {l m : Addr} {xs zs : List V} (h1 : H l = some (.lst xs)) (h2 : H m = some (.lst zs)) (hl : xs.length + zs.length ≤ 1000) (q : ∀ p H', H p = none → Same H H' → H' p = some (.lst (xs ++ zs)) → Q (.ref p) H') : rCat (.ref l) (.ref m) H Q :=
  ⟨l, m, xs, zs, rfl, rfl, h1, h2, Nat.le_trans hl (by decide), fun p hp => q p _ hp (Same.new hp _) upd_same⟩
theorem z_slLm {K : PySem.W.Frag} {H : Hp} {Q : VK} {p : Addr} {xs : List V} {lo hi : Option Int} (hs : SqL K H p xs) (q : ∀ p' H', H p' = none → Same H H' → H' p' = some (.lst (cutV xs lo hi)) → Q (.ref p') H') : rSlL K (.ref p) lo hi H Q := ⟨p, xs, rfl, hs, fun p' hp => q p' _ hp (Same.new hp _) upd_same⟩
theorem cut_nn (xs : List V) (a b : Nat) : cutV xs (some (a : Int)) (some (b : Int)) = (xs.drop a).take (b - a) := by
  unfold cutV
  rw [HT.sIx_nat, HT.sIx_nat]
  by_cases h : a ≤ xs.length
  · rw [Nat.min_eq_left h]
    by_cases g : b ≤ xs.length
    · rw [Nat.min_eq_left g]
    · rw [Nat.min_eq_right (by omega), List.take_of_length_le (by rw [List.length_drop]; omega), List.take_of_length_le (by rw [List.length_drop]; omega)]
  · rw [List.drop_of_length_le (by omega), List.drop_of_length_le (by omega), List.take_nil, List.take_nil]
theorem cut_n0 (xs : List V) (a : Nat) : cutV xs (some (a : Int)) none = xs.drop a := by
  unfold cutV
  rw [HT.sIx_nat, HT.sIx_none]
  by_cases h : a ≤ xs.length
  · rw [Nat.min_eq_left h, List.take_of_length_le (by rw [List.length_drop]; omega)]
  · rw [List.drop_of_length_le (by omega), List.drop_of_length_le (by omega), List.take_nil]
end L2
namespace L2
open PySem PySem.Spec PyProof.Rows
/-- a + b of lists, any that can be read -/
def rCatL (K : PySem.W.Frag) : R2 := fun x y H Q => ∃ l m xs zs, x = .ref l ∧ y = .ref m ∧ SqL K H l xs ∧ SqL K H m zs ∧ xs.length + zs.length ≤ sizeLine ∧ ∀ p, H p = none → Q (.ref p) (upd H p (.lst (xs ++ zs)))
end L2

/-! enumerate of a list, its pairs taken apart -/
namespace L2
open PySem PySem.Spec PyProof.Rows
section
variable {X : Cx} {pins : List (Addr × Obj)} {σ : St} {H : Hp} {s : Shared} {h' : Heap}
/-- untracked records of ours have turned -/
theorem Inv.turnedL {t' : Nat} {fp : List Addr} (I : Inv X pins σ H s) (k : ∀ b o, b ∉ fp → s.heap.get? b = some o → h'.get? b = some o) (hf : ∀ b ∈ fp, FpOk X pins H b) : Inv X pins σ H { s with heap := h', toks := t' } := by
  have nit : ∀ b u, H b = some u → b ∉ fp := fun b u e z => by rw [(hf b z).1] at e; cases e
  refine I.step (g' := s.gens) (d' := s.drawn) (ch := fp) (fun b hb => ?_) (fun b o _ _ hc e _ => k b o hc e) (fun b o _ _ hc e _ => ⟨o.slots, k b o hc e⟩) (fun _ _ _ _ n => n)
    (fun b o hc e => ⟨o, k b o hc e⟩) (fun _ _ e => e) (fun _ _ _ e => e) (fun b ps e => ⟨#[], by rw [e]; simp⟩) (fun m hm => ?_) (fun b u e => ?_) I.bare
  · obtain ⟨_, f1, _, f3, f4, f5⟩ := hf b hb
    exact ⟨f3, f1, f4, f5⟩
  · obtain ⟨o, es, ep, ho, r⟩ := hm
    exact ⟨o, es, ep, k _ o (fun z => (hf _ z).2.1 rfl) ho, r⟩
  · refine (I.hok b u e).stay (fun c v hc q => k c v ?_ q) (fun _ q => q) fun _ _ q => q
    rcases hc with z | z
    · rw [z]; exact nit b u e
    · exact nit c _ z
end
def Ite (K : PySem.W.Frag) (a : Addr) : It :=
  ⟨fun i H => ∃ xs x, SqL K H a xs ∧ xs[i]? = some x, fun i H v H' => ∃ p x, v = .ref p ∧ H p = none ∧ (∀ xs, SqL K H a xs → xs[i]? = some x) ∧ H' = upd H p (.tup [.int i, x]), fun i H => ∃ xs, SqL K H a xs ∧ xs.length ≤ i⟩
theorem turn_enum {P : Program} {w : World} {K : PySem.W.Frag} {elts : List Expr} {x1 : _} {pos : Pos} (a e it : Addr) (hne : e ≠ it) : Turn P w K (.Tuple elts x1 pos) (Ite K a) [e, it] e (fun i h => (∃ old, IsEnum h e it i old) ∧ h.IsListIter it a i) where
  mem := by simp
  obj := fun i h st b hb => by
    obtain ⟨⟨old, he⟩, o, ho, c, d⟩ := st
    have hb' : b = e ∨ b = it := by simpa using hb
    rcases hb' with rfl | rfl
    · exact ⟨_, he, fun v z => by cases z⟩
    · exact ⟨o, ho, fun v z => by rw [d] at z; cases z⟩
  keep := fun i h h' st k => by
    obtain ⟨⟨old, he⟩, hi⟩ := st
    exact ⟨⟨old, k e (by simp) _ he⟩, hi.at fun o e' => k it (by simp) o e'⟩
  item := by
    intro X hP hw hK hc i pins s σ H E I hf st hg
    subst hP hw hK
    obtain ⟨xs, x, hq, hx⟩ := hg
    obtain ⟨⟨old, he⟩, hit⟩ := st
    obtain ⟨its, rv, p, hz⟩ := I.list hq
    obtain ⟨u, hu, ru⟩ := rv.get hx
    have hel := Heap.lt_size he
    have hil : it < s.heap.objs.size := by obtain ⟨o, ho, _⟩ := hit; exact Heap.lt_size ho
    refine wpAny_pyNext_enum_item he hit p.isList (x := u) (by simpa using hu) hne fun h1 ho hit1 htup hsz kk => ?_
    refine ⟨.ref s.heap.objs.size, rfl, wpAny_letOwnedTupleGo_enum ho fun h2 he2 sb => ?_⟩
    have sb2 : ∀ b, b ≠ e → h2.get? b = h1.get? b := sb.2
    have hfr : H s.heap.objs.size = none := I.hok.fresh (Nat.le_refl _)
    have I1 : Inv X pins σ (upd H s.heap.objs.size (.tup [.int i, x])) { s with heap := s.heap.push { cls := .type "tuple", data := .seq #[.int i s.toks, u] }, toks := s.toks + 1 } :=
      I.laid (fun b o e => Heap.get?_push_of_some _ e) (Nat.le_refl _) ⟨by show 2 ≤ sizeLine; decide, [.int i s.toks, u], .cons ⟨_, rfl⟩ (.cons ru .nil), _, Heap.get?_push_size _ rfl, rfl, _, rfl⟩
    have hf2 : ∀ b ∈ [e, it], FpOk X pins (upd H s.heap.objs.size (.tup [.int i, x])) b := fun b hb => by
      obtain ⟨f0, f1, f2, f3, f4, f5⟩ := hf b hb
      have hb' : b = e ∨ b = it := by simpa using hb
      have hlt : b < s.heap.objs.size := by rcases hb' with rfl | rfl <;> assumption
      exact ⟨by rw [upd_ne (Nat.ne_of_lt hlt)]; exact f0, f1, f2, f3, f4, f5⟩
    have I2 := Inv.turnedL (h' := h2) (t' := s.toks + 1) (fp := [e, it]) I1 (fun b o hb e' => by
      have hbe : b ≠ e := fun z => hb (by simp [z])
      have hbi : b ≠ it := fun z => hb (by simp [z])
      rw [sb2 b hbe]
      rcases Heap.get?_push_cases e' with ⟨z1, z2⟩ | z
      · rw [z1, z2]; exact htup
      · exact kk b o hbe hbi z) hf2
    refine ⟨.ref s.heap.objs.size, _, I2, rfl, ⟨_, x, rfl, hfr, fun ys hy => by rw [I.list_inj hy hq]; exact hx, rfl⟩, ⟨⟨u, by simpa using he2⟩, ?_⟩, fun b hb => (hf2 b hb).1⟩
    obtain ⟨o, ho', r⟩ := hit1
    exact ⟨o, (sb2 it (Ne.symm hne)).trans ho', r⟩
  done := by
    intro X hP hw hK hc i pins s σ H E I hf st hg
    subst hP hw hK
    obtain ⟨xs, hq, hx⟩ := hg
    obtain ⟨⟨old, he⟩, hit⟩ := st
    obtain ⟨its, rv, p, hz⟩ := I.list hq
    obtain ⟨f0, f1, f2, f3, f4, f5⟩ := hf it (by simp)
    have hl := rv.length
    exact wpAny_pyNext_enum_end (I.ok.hd hc) he hit p.isList (by simp; omega) fun h' eb => ⟨rfl, I.turned (t' := s.toks) (fun b o hb e => eb b o hb e) f0 f1 f3 f4 f5⟩
  self := fun _ _ _ _ _ st h => by
    obtain ⟨⟨old, he⟩, _⟩ := st
    exact wpAny_pyIter_enum he h
section
variable {X : Cx}
def iEnum (K : PySem.W.Frag) (ta : TA) : TI := fun σ H R => ta σ H fun vs H1 => ∃ a, vs = [.ref a] ∧ (∃ xs, SqL K H1 a xs) ∧ R (Ite K a) H1
theorem pi_enum {l : Expr} {ta : TA} {elts : List Expr} {x1 : _} {p pos pos' : Pos} (hg : Gl X "enumerate") (hm : X.mg "enumerate" = none) (ha : PA X [l] ta) (hs : starEach [l] X.env = [(false, eval l X.env)] := by rfl) :
    PI X (.Tuple elts x1 pos') (.Call (.Name "enumerate" p) [l] [] pos) (iEnum X.K ta) := by
  intro pins s σ H R I h
  refine Call_ (ld_blt I hg hm PyProof.Rows.boot_enumerate (PyProof.Rows.callWith_type1 (thn (ha pos pins s σ H _ I h) fun us s1 ⟨vs, H1, I1, r1, q1⟩ => ?_) hs rfl))
  obtain ⟨a, e, ⟨xs, hq⟩, q⟩ := q1
  subst e
  cases r1 with
  | cons r rr =>
    cases rr
    cases r
    obtain ⟨its, rv, p, hz⟩ := I1.list hq
    refine call_enumerate_list p.isList fun h' he hit hsz kk => ?_
    have I2 : Inv X pins σ H1 { s1 with heap := h' } := I1.kept (t' := s1.toks) kk
    refine wpAny_pyIter_enum he ⟨s1.heap.objs.size + 1, [s1.heap.objs.size + 1, s1.heap.objs.size], _, _, H1, rfl, I2, turn_enum a _ _ (Nat.succ_ne_self _), ⟨⟨_, he⟩, hit⟩, fun b hb => ?_, q⟩
    have hb' : b = s1.heap.objs.size + 1 ∨ b = s1.heap.objs.size := by simpa using hb
    rcases hb' with rfl | rfl
    · exact I1.fpOk (Nat.le_succ _) (I1.hok.fresh (Nat.le_succ _))
    · exact I1.fpOk (Nat.le_refl _) (I1.hok.fresh (Nat.le_refl _))
end
section
variable {σ : St} {H : Hp} {g : TG} {tb : TS} {nx : St → Hp → Prop} {rt : VK} {K : PySem.W.Frag} {a : Addr} {xs : List V}
theorem z_iE {ta : TA} {R : It → Hp → Prop} (h : ta σ H fun vs H1 => ∃ a, vs = [.ref a] ∧ (∃ xs, SqL K H1 a xs) ∧ R (Ite K a) H1) : iEnum K ta σ H R := h
theorem z_iE2 {S : Addr → Prop} (hs : SqL K H a xs) (q : S a) : ∃ a', [V.ref a] = [.ref a'] ∧ (∃ xs, SqL K H a' xs) ∧ S a' := ⟨a, rfl, ⟨xs, hs⟩, q⟩
theorem f_enum (Pv : Nat → St → Hp → Prop) (h0 : Pv 0 σ H) (hl : ∀ i σ H, i ≤ xs.length → Pv i σ H → SqL K H a xs)
    (hs : ∀ i x σ H, xs[i]? = some x → Pv i σ H → ∀ p H', Same H H' → H' p = some (.tup [.int i, x]) → g (.ref p) σ H' fun σ2 H2 => tb ⟨Pv (i + 1), rt, nx, Pv (i + 1)⟩ σ2 H2) (hd : ∀ σ H, Pv xs.length σ H → nx σ H) : FW (Ite K a) g tb nx rt σ H := by
  refine ⟨fun i m σ H => Pv i σ H ∧ i ≤ xs.length ∧ m = xs.length - i, ⟨_, h0, Nat.zero_le _, rfl⟩, fun i m σ H ⟨hp, hi, hm⟩ => ?_⟩
  rcases Nat.lt_or_ge i xs.length with hlt | hge
  · obtain ⟨x, hx⟩ : ∃ x, xs[i]? = some x := ⟨_, List.getElem?_eq_getElem hlt⟩
    refine .inr ⟨⟨xs, x, hl i σ H hi hp, hx⟩, Pv (i + 1), fun σ' H' h => ⟨xs.length - (i + 1), by omega, h, by omega, rfl⟩, ?_⟩
    rintro v H' ⟨p, y, rfl, hn, hy, rfl⟩
    have e := hy _ (hl i σ H hi hp)
    rw [hx] at e
    cases e
    exact hs i x σ H hx hp p _ (Same.new hn _) upd_same
  · have e : i = xs.length := by omega
    subst e
    exact .inl ⟨⟨xs, hl _ σ H hi hp, Nat.le_refl _⟩, hd σ H hp⟩
end
end L2

namespace L2
open PySem PySem.Spec PyProof.Rows

/-! ### lists of pairs as tables -/
section
variable {κ : Type} [DecidableEq κ]
def valV (kvs : List (κ × V)) (k : κ) : Option V := (kvs.find? fun kv => decide (kv.1 = k)).map (·.2)
/-- in its place, or at the end -/
def putK (kvs : List (κ × V)) (k : κ) (v : V) : List (κ × V) :=
  if (kvs.any fun kv => decide (kv.1 = k)) = true then kvs.map (fun kv => if kv.1 = k then (kv.1, v) else kv) else kvs ++ [(k, v)]
def dropK (kvs : List (κ × V)) (k : κ) : List (κ × V) := kvs.filter fun kv => decide (kv.1 ≠ k)

theorem valV_pos {p : κ × V} {r : List (κ × V)} {k : κ} (e : p.1 = k) : valV (p :: r) k = some p.2 := by simp [valV, List.find?_cons, e]
theorem valV_neg {p : κ × V} {r : List (κ × V)} {k : κ} (e : ¬ p.1 = k) : valV (p :: r) k = valV r k := by simp [valV, List.find?_cons, e]
theorem valV_any (k : κ) : ∀ kvs : List (κ × V), (kvs.any fun kv => decide (kv.1 = k)) = (valV kvs k).isSome
  | [] => rfl
  | p :: r => by
    rw [List.any_cons]
    by_cases e : p.1 = k
    · simp only [valV_pos e, decide_eq_true e, Bool.true_or, Option.isSome_some]
    · rw [valV_neg e, decide_eq_false e, Bool.false_or]; exact valV_any k r
theorem valV_map (k j : κ) (y : V) : ∀ kvs : List (κ × V), valV (kvs.map fun kv => if kv.1 = k then (kv.1, y) else kv) j = (valV kvs j).map fun x => if j = k then y else x
  | [] => rfl
  | p :: r => by
    have ih := valV_map k j y r
    rw [List.map_cons]
    by_cases h : p.1 = k
    · rw [if_pos h]
      by_cases e : p.1 = j
      · rw [valV_pos (p := (p.1, y)) e, valV_pos e, Option.map_some, if_pos (e.symm.trans h)]
      · rw [valV_neg (p := (p.1, y)) e, valV_neg e, ih]
    · rw [if_neg h]
      by_cases e : p.1 = j
      · rw [valV_pos (p := p) e, valV_pos e, Option.map_some, if_neg (fun z => h (e.trans z))]
      · rw [valV_neg (p := p) e, valV_neg e, ih]
theorem valV_snoc (k j : κ) (y : V) : ∀ kvs : List (κ × V), valV kvs k = none → valV (kvs ++ [(k, y)]) j = if j = k then some y else valV kvs j
  | [], _ => by
    by_cases e : k = j
    · rw [if_pos e.symm]; exact valV_pos (p := (k, y)) e
    · rw [if_neg (fun z => e z.symm)]; exact valV_neg (p := (k, y)) e
  | p :: r, hn => by
    rw [List.cons_append]
    have hk : ¬ p.1 = k := fun z => by rw [valV_pos z] at hn; cases hn
    rw [valV_neg hk] at hn
    have ih := valV_snoc k j y r hn
    by_cases e : p.1 = j
    · rw [valV_pos e, valV_pos e, if_neg (fun z => hk (e.trans z))]
    · rw [valV_neg e, valV_neg e, ih]
theorem valV_put (kvs : List (κ × V)) (k j : κ) (y : V) : valV (putK kvs k y) j = if j = k then some y else valV kvs j := by
  unfold putK
  by_cases a : (kvs.any fun kv => decide (kv.1 = k)) = true
  · rw [if_pos a, valV_map]
    rw [valV_any] at a
    by_cases e : j = k
    · obtain ⟨x, hx⟩ := Option.isSome_iff_exists.mp a
      rw [if_pos e, e, hx, Option.map_some, if_pos rfl]
    · rw [if_neg e]
      cases valV kvs j with
      | none => rfl
      | some x => rw [Option.map_some, if_neg e]
  · rw [if_neg a]
    refine valV_snoc k j y kvs ?_
    rw [valV_any] at a
    cases q : valV kvs k with
    | none => rfl
    | some x => rw [q] at a; exact (a rfl).elim
theorem length_putK (kvs : List (κ × V)) (k : κ) (v : V) : (putK kvs k v).length ≤ kvs.length + 1 := by
  unfold putK
  split
  · rw [List.length_map]; omega
  · rw [List.length_append, List.length_cons, List.length_nil]; omega
theorem RelO.isSome_eq {o : Option V} {u : Option Value} (r : RelO o u) : o.isSome = u.isSome := by
  cases o with
  | none => cases u with
    | none => rfl
    | some _ => exact (show False from r).elim
  | some _ => cases u with
    | none => exact (show False from r).elim
    | some _ => rfl
theorem RelO.getD {o : Option V} {u : Option Value} {d : V} {d' : Value} (r : RelO o u) (rd : RelV d d') : RelV (o.getD d) (u.getD d') := by
  cases o with
  | none => cases u with
    | none => exact rd
    | some _ => exact (show False from r).elim
  | some _ => cases u with
    | none => exact (show False from r).elim
    | some _ => exact r

/-- raw tables of the same keys -/
theorem KV.val {kvs : List (κ × V)} {vs : List (κ × Value)} (r : KV kvs vs) (k : κ) : RelO (valV kvs k) (valueAt vs k) := by
  unfold KV at r
  induction r with
  | nil => exact True.intro
  | @cons p q ps qs h t ih =>
    obtain ⟨h1, h2⟩ := h
    by_cases e : p.1 = k
    · have e' : q.1 = k := h1.symm.trans e
      have b : valueAt (q :: qs) k = some q.2 := by simp [valueAt, List.find?_cons, e']
      rw [valV_pos e, b]; exact h2
    · have e' : ¬ q.1 = k := fun z => e (h1.trans z)
      have b : valueAt (q :: qs) k = valueAt qs k := by simp [valueAt, List.find?_cons, e']
      rw [valV_neg e, b]; exact ih
theorem KV.any {kvs : List (κ × V)} {vs : List (κ × Value)} (r : KV kvs vs) (k : κ) : (kvs.any fun kv => decide (kv.1 = k)) = vs.any fun kv => decide (kv.1 = k) := by
  unfold KV at r
  induction r with
  | nil => rfl
  | cons h t ih => rw [List.any_cons, List.any_cons, ih, h.1]
theorem KV.repl {kvs : List (κ × V)} {vs : List (κ × Value)} (r : KV kvs vs) (k : κ) {y : V} {u : Value} (ry : RelV y u) :
    KV (kvs.map fun kv => if kv.1 = k then (kv.1, y) else kv) (vs.map fun kv => if kv.1 = k then (kv.1, u) else kv) := by
  unfold KV at r ⊢
  induction r with
  | nil => exact .nil
  | @cons p q ps qs h t ih =>
    rw [List.map_cons, List.map_cons]
    refine .cons ?_ ih
    obtain ⟨h1, h2⟩ := h
    by_cases e : p.1 = k
    · rw [if_pos e, if_pos (h1.symm.trans e)]; exact ⟨h1, ry⟩
    · rw [if_neg e, if_neg (fun z => e (h1.trans z))]; exact ⟨h1, h2⟩
theorem KV.put {kvs : List (κ × V)} {vs : List (κ × Value)} (r : KV kvs vs) (k : κ) {y : V} {u : Value} (ry : RelV y u) : KV (putK kvs k y) (stored vs k u) := by
  unfold putK stored
  rw [r.any k]
  by_cases e : (vs.any fun kv => decide (kv.1 = k)) = true
  · rw [if_pos e, if_pos e]; exact r.repl k ry
  · rw [if_neg e, if_neg e]; exact Paired.snoc r ⟨rfl, ry⟩
theorem KV.drop {kvs : List (κ × V)} {vs : List (κ × Value)} (r : KV kvs vs) (k : κ) : KV (dropK kvs k) (without vs k) := by
  unfold KV at r ⊢
  unfold dropK without
  induction r with
  | nil => exact .nil
  | @cons p q ps qs h t ih =>
    obtain ⟨h1, h2⟩ := h
    rw [List.filter_cons, List.filter_cons]
    by_cases e : p.1 = k
    · have a : ¬ decide (p.1 ≠ k) = true := by simp [e]
      have b : ¬ decide (q.1 ≠ k) = true := by simp [h1.symm.trans e]
      rw [if_neg a, if_neg b]; exact ih
    · have e' : ¬ q.1 = k := fun z => e (h1.trans z)
      have a : decide (p.1 ≠ k) = true := by simp [e]
      have b : decide (q.1 ≠ k) = true := by simp [e']
      rw [if_pos a, if_pos b]; exact .cons ⟨h1, h2⟩ ih
theorem KV.keys {kvs : List (κ × V)} {vs : List (κ × Value)} (r : KV kvs vs) : kvs.map (·.1) = vs.map (·.1) := by
  unfold KV at r
  induction r with
  | nil => rfl
  | cons h t ih => rw [List.map_cons, List.map_cons, ih, h.1]
theorem KV.length {kvs : List (κ × V)} {vs : List (κ × Value)} (r : KV kvs vs) : kvs.length = vs.length := Paired.length r
end


/-! ### a tracked dict, its keys ints and texts or tuples of these -/
theorem kV_is {P : Program} {w : World} {k : Key} {u : Value} (r : RelV (kV k) u) : (mixKind P w).is k u = true := by
  cases k with
  | inl i => obtain ⟨t, e⟩ := (show ∃ t, u = Value.int i t from r); subst e; exact mixKind_int P w i t
  | inr x => obtain ⟨t, e⟩ := (show ∃ t, u = Value.str x t from r); subst e; exact mixKind_str P w x t
theorem items_are {P : Program} {w : World} : ∀ {ks : List Key} {us : List Value}, Vals (ks.map kV) us → ItemsAre (mixKind P w) ks us
  | [], _, r => by rw [List.map_nil] at r; cases r; exact .nil
  | k :: ks, _, r => by
    rw [List.map_cons] at r
    cases r with
    | cons h t => exact .cons (kV_is h) (items_are t)

/-- raw entries of a dict with tuple keys -/
abbrev KT (H : Hp) : List (List Key × V) → List (List Key × Addr × Value) → Prop := Paired fun p q => p.1 = q.1 ∧ H q.2.1 = some (.tup (p.1.map kV)) ∧ RelV p.2 q.2.2
theorem KT.val {H : Hp} {kvs : List (List Key × V)} {xs : List (List Key × Addr × Value)} (r : KT H kvs xs) (k : List Key) : RelO (valV kvs k) ((atKey xs k).map (·.2)) := by
  induction r with
  | nil => exact True.intro
  | @cons p q ps qs h t ih =>
    obtain ⟨h1, _, h2⟩ := h
    by_cases e : p.1 = k
    · have e' : q.1 = k := h1.symm.trans e
      have b : atKey (q :: qs) k = some q.2 := by simp [atKey, List.find?_cons, e']
      rw [valV_pos e, b]; exact h2
    · have e' : ¬ q.1 = k := fun z => e (h1.trans z)
      have b : atKey (q :: qs) k = atKey qs k := by simp [atKey, List.find?_cons, e']
      rw [valV_neg e, b]; exact ih
theorem KT.repl {H : Hp} {kvs : List (List Key × V)} {xs : List (List Key × Addr × Value)} (r : KT H kvs xs) (k : List Key) {y : V} {u : Value} (ry : RelV y u) :
    KT H (kvs.map fun kv => if kv.1 = k then (kv.1, y) else kv) (xs.map (putAt k u)) := by
  induction r with
  | nil => exact .nil
  | @cons p q ps qs h t ih =>
    rw [List.map_cons, List.map_cons]
    refine .cons ?_ ih
    obtain ⟨h1, h2, h3⟩ := h
    unfold putAt
    by_cases e : p.1 = k
    · rw [if_pos e, if_pos (h1.symm.trans e)]; exact ⟨h1, h2, ry⟩
    · rw [if_neg e, if_neg (fun z => e (h1.trans z))]; exact ⟨h1, h2, h3⟩
theorem KT.put {H : Hp} {kvs : List (List Key × V)} {xs : List (List Key × Addr × Value)} (r : KT H kvs xs) (k : List Key) {b : Addr} {y : V} {u : Value} (hb : H b = some (.tup (k.map kV))) (ry : RelV y u) :
    KT H (putK kvs k y) (storedH xs k b u) := by
  have e : (kvs.any fun kv => decide (kv.1 = k)) = (atKey xs k).isSome := by
    rw [valV_any, (r.val k).isSome_eq, Option.isSome_map]
  unfold putK storedH
  rw [e]
  by_cases q : (atKey xs k).isSome = true
  · rw [if_pos q, if_pos q]; exact r.repl k ry
  · rw [if_neg q, if_neg q]; exact Paired.snoc r ⟨rfl, hb, ry⟩
theorem KT.keeps {H H' : Hp} {kvs : List (List Key × V)} {xs : List (List Key × Addr × Value)} (r : KT H kvs xs) (ht : ∀ b ys, H b = some (.tup ys) → H' b = some (.tup ys)) : KT H' kvs xs :=
  Paired.mapP r fun _ _ z => ⟨z.1, ht _ _ z.2.1, z.2.2⟩

section
variable {P : Program} {w : World} {H : Hp} {h : Heap} {a : Addr}
theorem rd_of {u : HO} (ok : HOk P w H h) (e : Rd H a u) : ObjOk P w H h a u := e.ok ok
theorem dk_rd {kvs : List (Key × V)} (ok : HOk P w H h) (e : Rd H a (.dK kvs)) : kvs.length ≤ sizeLine ∧ (a == sysModules) = false ∧ ∃ vs, KV kvs vs ∧ h.DictOf (mixKind P w) a vs :=
  show ObjOk P w H h a (.dK kvs) from rd_of ok e
theorem dk_of {kvs : List (Key × V)} (ok : HOk P w H h) (e : H a = some (.dK kvs)) : kvs.length ≤ sizeLine ∧ (a == sysModules) = false ∧ ∃ vs, KV kvs vs ∧ h.DictOf (mixKind P w) a vs := dk_rd ok (.inl e)
/-- a tracked tuple of ints and texts is a key -/
theorem key_of {ks : List Key} (ok : HOk P w H h) (e : H a = some (.tup (ks.map kV))) : (tupleKind (mixKind P w)).is h ks a := by
  obtain ⟨_, its, r, o, h1, h2, n, h3⟩ := (show ObjOk P w H h a (.tup (ks.map kV)) from ok a _ e)
  exact ⟨o, its.toArray, n, h1, h2, h3, by simpa using items_are r⟩
theorem dt_rd {kvs : List (List Key × V)} (ok : HOk P w H h) (e : Rd H a (.dT kvs)) : kvs.length ≤ sizeLine ∧ (a == sysModules) = false ∧
    ∃ xs, KT H kvs xs ∧ h.DictOfH (tupleKind (mixKind P w)) a xs := by
  obtain ⟨z, y, xs, r, o, es, ep, h1, h2, h3, h4, h5⟩ := (show ObjOk P w H h a (.dT kvs) from rd_of ok e)
  refine ⟨z, y, xs, r, o, es, ep, h1, h2, h3, h4, fun x hx => ?_, h5⟩
  have all : ∀ {l : List (List Key × V)} {m : List (List Key × Addr × Value)}, KT H l m → ∀ x ∈ m, (tupleKind (mixKind P w)).is h x.1 x.2.1 := by
    intro l m q
    induction q with
    | nil => intro x hx; exact nomatch hx
    | @cons p q ps qs hq t ih =>
      intro x hx
      rcases List.mem_cons.mp hx with e | hx
      · subst e
        exact key_of ok (by rw [← hq.1]; exact hq.2.1)
      · exact ih x hx
  exact all r x hx
end

/-- what the dict at a holds at the key y -/
def DGet (H : Hp) (a : Addr) (y : V) (r : Option V) : Prop :=
  (∃ kvs k, Rd H a (.dK kvs) ∧ y = kV k ∧ r = valV kvs k) ∨ ∃ kvs k b, Rd H a (.dT kvs) ∧ y = .ref b ∧ H b = some (.tup (k.map kV)) ∧ r = valV kvs k
/-- the heap behind a[y] = v -/
def DPut (H : Hp) (a : Addr) (y v : V) (H' : Hp) : Prop :=
  (∃ kvs k, H a = some (.dK kvs) ∧ y = kV k ∧ kvs.length < sizeLine ∧ H' = upd H a (.dK (putK kvs k v))) ∨
  ∃ kvs k b, H a = some (.dT kvs) ∧ y = .ref b ∧ H b = some (.tup (k.map kV)) ∧ kvs.length < sizeLine ∧ H' = upd H a (.dT (putK kvs k v))
theorem DGet.k {H : Hp} {a : Addr} {kvs : List (Key × V)} {k : Key} (e : H a = some (.dK kvs)) : DGet H a (kV k) (valV kvs k) := .inl ⟨kvs, k, .inl e, rfl, rfl⟩
theorem DGet.t {H : Hp} {a b : Addr} {kvs : List (List Key × V)} {k : List Key} (e : H a = some (.dT kvs)) (eb : H b = some (.tup (k.map kV))) : DGet H a (.ref b) (valV kvs k) := .inr ⟨kvs, k, b, .inl e, rfl, eb, rfl⟩
theorem DPut.k {H : Hp} {a : Addr} {kvs : List (Key × V)} {k : Key} {v : V} (e : H a = some (.dK kvs)) (hl : kvs.length < sizeLine) : DPut H a (kV k) v (upd H a (.dK (putK kvs k v))) := .inl ⟨kvs, k, e, rfl, hl, rfl⟩
theorem DPut.t {H : Hp} {a b : Addr} {kvs : List (List Key × V)} {k : List Key} {v : V} (e : H a = some (.dT kvs)) (eb : H b = some (.tup (k.map kV))) (hl : kvs.length < sizeLine) :
    DPut H a (.ref b) v (upd H a (.dT (putK kvs k v))) := .inr ⟨kvs, k, b, e, rfl, eb, hl, rfl⟩


section
variable {X : Cx} {pins : List (Addr × Obj)} {σ : St} {H : Hp} {s : Shared} {a : Addr} {y v : V} {u r : Value} {o : Option V} {A : Around} {E : Value → Shared → Prop}

theorem Inv.big (I : Inv X pins σ H s) : sysModules < s.heap.objs.size := by
  have h : mainGlobals < s.heap.objs.size := (I.mod.glob.keeps I.bk).lt
  exact Nat.lt_trans (by decide) h

/-- d[y], there -/
theorem d_getItem {Q : Value → Shared → Prop} (hu : A.units + 1 < cLine) (I : Inv X pins σ H s) (g : DGet H a y (some v)) (ry : RelV y u) (h : ∀ w' s', Inv X pins σ H s' → RelV v w' → Q w' s') :
    wpAny (model X.prog X.w) A (getItem (.ref a) u) Q E s := by
  rcases g with ⟨kvs, k, e, ey, l⟩ | ⟨kvs, k, b, e, ey, eb, l⟩
  · subst ey
    obtain ⟨z, hd, vs, rel, dd⟩ := dk_rd I.hok e
    obtain ⟨w', hw, rw'⟩ := RelO.some_of (v := v) (o := valueAt vs k) (by rw [l]; exact rel.val k)
    exact wpAny_getItem_of (kV_is ry) dd.mapOf hw (h w' _ (I.tok _) rw')
  · subst ey
    cases (show u = Value.ref b from ry)
    obtain ⟨z, hd, xs, rel, dd⟩ := dt_rd I.hok e
    obtain ⟨w', hw, rw'⟩ := RelO.some_of (v := v) (o := (atKey xs k).map (·.2)) (by rw [l]; exact rel.val k)
    obtain ⟨p, hp, hp2⟩ := Option.map_eq_some_iff.mp hw
    refine wpAny_getItem_heap (tupleKind_room_in1 hu) (key_of I.hok eb) dd hp ?_
    rw [hp2]
    exact h w' _ (I.tok _) rw'
/-- a dict's object is replaced -/
theorem d_write {h' : Heap} {t' : Nat} {ob : HO} (I : Inv X pins σ H s) (mu : Mut (H a)) (hs : Heap.SameBut a s.heap h') (he : ∃ q, h'.get? a = some q) (new : ObjOk X.prog X.w (upd H a ob) h' a ob) :
    Inv X pins σ (upd H a ob) { s with heap := h', toks := t' } :=
  I.write (x := a) (e := a) mu (.inl rfl) (fun b q hb z => (hs.2 b hb).trans z) he new
theorem dk_new {P : Program} {w : World} {H' : Hp} {h' : Heap} {kvs : List (Key × V)} {vs : List (Key × Value)} (z : kvs.length ≤ sizeLine) (hd : (a == sysModules) = false) (rel : KV kvs vs) (dd : h'.DictOf (mixKind P w) a vs) :
    ObjOk P w H' h' a (.dK kvs) := ⟨z, hd, vs, rel, dd⟩
end

section
variable {X : Cx} {pins : List (Addr × Obj)} {σ : St} {H : Hp} {s : Shared} {a : Addr} {kvs : List (Key × V)} {k : Key} {u : Value} {A : Around} {E : Value → Shared → Prop}
end


/-! ### readings and rules -/
/-- the element of a subscription, not a slice -/
def NoSl (i : Expr) : Prop := ∀ ov iv, subscripted i false ov iv = operate [ov, iv] (getItem ov iv)
theorem subD_of {prog : Program} {w : World} {A : Around} {E : Value → Shared → Prop} {s : Shared} {env : Env} {value slice : Expr} {pos : Pos} {T id : String} {Q : Value → Shared → Prop}
    (hl : typeLookup (.type T) "__getitem__" = pure (some (.builtin id))) (hs : NoSl slice)
    (h : wpAny (model prog w) A (eval value env) (fun o s₁ => wpAny (model prog w) A (eval slice env) (fun i s₂ => s₂.TypeIs o T ∧ wpAny (model prog w) A (getItem o i) Q E s₂) E s₁) E s) :
    wpAny (model prog w) A (eval (.Subscript value slice pos) env) Q E s := by
  refine Subscript_ (wpAny_mono h (fun o s₁ h₁ => wpAny_mono h₁ (fun i s₂ h₂ => ?_) fun _ _ x => x) fun _ _ x => x)
  obtain ⟨hT, h₂⟩ := h₂
  unfold subscriptTail
  refine wpAny_bind ?_
  rw [getitemInPython_of_ne hT.not_modules]
  refine wpAny_bind (wpAny_specialOf hT hl ?_)
  have fin : wpAny (model prog w) A (subscripted slice false o i) (fun r s₃ => wpAny (model prog w) A (letTemporaryGo value o r >>= fun _ => pure r) Q E s₃) E s₂ := by
    rw [hs o i]
    exact wpAny_operating (wpAny_mono h₂ (fun r s₃ h₃ => wpAny_bind (wpAny_letTemporaryGo (wpAny_pure h₃))) fun _ _ x => x)
  first
    | exact wpAny_pure (wpAny_bind fin)
    | exact wpAny_bind (wpAny_pure (wpAny_bind fin))
    | exact wpAny_bind fin

theorem dict_typeIs {X : Cx} {pins : List (Addr × Obj)} {σ : St} {H : Hp} {s : Shared} {a : Addr} {y : V} {o : Option V} (I : Inv X pins σ H s) (g : DGet H a y o) : s.TypeIs (.ref a) "dict" := by
  rcases g with ⟨kvs, k, e, _, _⟩ | ⟨kvs, k, b, e, _, _, _⟩
  · obtain ⟨_, _, vs, _, dd⟩ := dk_rd I.hok e
    exact dd.typeIs
  · obtain ⟨_, _, xs, _, dd⟩ := dt_rd I.hok e
    exact dd.typeIs
/-- d[y] -/
def tDGet (td ty : TE) : TE := fun σ H Q => td σ H fun x H1 => ty σ H1 fun y H2 => ∃ a v, x = .ref a ∧ DGet H2 a y (some v) ∧ Q v H2
/-- y in d, y not in d -/
def tDIn (ty td : TE) : TE := fun σ H Q => ty σ H fun y H1 => td σ H1 fun x H2 => ∃ a o, x = .ref a ∧ DGet H2 a y o ∧ Q (.bl o.isSome) H2
def tDNotIn (ty td : TE) : TE := fun σ H Q => ty σ H fun y H1 => td σ H1 fun x H2 => ∃ a o, x = .ref a ∧ DGet H2 a y o ∧ Q (.bl (!o.isSome)) H2
/-- d[y] = v -/
def sDPut (td ty tv : TE) : TS := fun D σ H => tv σ H fun v H1 => td σ H1 fun x H2 => ty σ H2 fun y H3 => ∃ a H4, x = .ref a ∧ DPut H3 a y v H4 ∧ D.nx σ H4
/-- d[y] op= v -/
def sDAug (td ty tv : TE) (rd : V → V → Hp → VK → Prop) : TS := fun D σ H => td σ H fun x H1 => ty σ H1 fun y H2 => ∃ a v, x = .ref a ∧ DGet H2 a y (some v) ∧
  tv σ H2 fun y2 H3 => rd v y2 H3 fun z H4 => ∃ H5, DPut H4 a y z H5 ∧ D.nx σ H5
/-- del d[y] -/
def sDDel (td ty : TE) : TS := fun D σ H => td σ H fun x H1 => ty σ H1 fun y H2 => ∃ a kvs k, x = .ref a ∧ H2 a = some (.dK kvs) ∧ y = kV k ∧ (valV kvs k).isSome = true ∧ D.nx σ (upd H2 a (.dK (dropK kvs k)))

section
variable {X : Cx} {o i e value : Expr} {pos pos' tpos : Pos} {td ty tv : TE}
theorem pe_dget (hu : X.A.units + 1 < cLine) (ho : PE X o td) (hi : PE X i ty) (hs : NoSl i) : PE X (.Subscript o i pos) (tDGet td ty) := by
  intro pins s σ H Q I h
  refine subD_of PySem.F.slot_dict_getitem.lookup hs (thn (ho pins s σ H _ I h) fun u s1 ⟨x, H1, I1, rx, q1⟩ => thn (hi pins s1 σ H1 _ I1 q1) fun iv s2 ⟨y, H2, I2, ry, a, v, ex, g, q2⟩ => ?_)
  subst ex
  obtain rfl : u = Value.ref a := rx
  exact ⟨dict_typeIs I2 g, d_getItem hu I2 g ry fun w' s3 I3 rw' => ⟨v, H2, I3, rw', q2⟩⟩
end


/-! ### displays -/
theorem dk_empty {P : Program} {w : World} {H : Hp} (h : Heap) (hb : sysModules < h.objs.size) : ObjOk P w H (h.push { cls := .type "dict", data := .dict #[] }) h.objs.size (.dK []) :=
  ⟨Nat.zero_le _, beq_eq_false_iff_ne.mpr (Ne.symm (Nat.ne_of_lt hb)), [], .nil, Heap.DictOf.new h⟩
/-- {}, to be a dict of the kind that is wanted -/
def tDNewK : TE := fun _ H Q => ∀ p, H p = none → Q (.ref p) (upd H p (.dK []))
def tDNewT : TE := fun _ H Q => ∀ p, H p = none → Q (.ref p) (upd H p (.dT []))
section
variable {X : Cx} {pos : Pos}
end

/-- the pairs of a display, from the left -/
def tPairs : List (TE × TE) → St → Hp → (List (V × V) → Hp → Prop) → Prop
  | [], _, H, Q => Q [] H
  | (tk, tv) :: r, σ, H, Q => tk σ H fun x H1 => tv σ H1 fun y H2 => tPairs r σ H2 fun ps H3 => Q ((x, y) :: ps) H3
abbrev VV : List (V × V) → List (Value × Value) → Prop := Paired fun p q => RelV p.1 q.1 ∧ RelV p.2 q.2
def PPs (X : Cx) (pos : Pos) (keys : List (Option Expr)) (values : List Expr) (trs : List (TE × TE)) : Prop :=
  ∀ (pins : List (Addr × Obj)) (s : Shared) (σ : St) (H : Hp) (Q : List (V × V) → Hp → Prop), Inv X pins σ H s → tPairs trs σ H Q →
    wpAny (model X.prog X.w) X.A (evalPairs (pairTrees keys values X.env pos)) (fun vs s' => ∃ ps H', Inv X pins σ H' s' ∧ VV ps vs ∧ Q ps H') X.xe s
theorem pps_nil {X : Cx} {pos : Pos} : PPs X pos [] [] [] := fun pins s σ H Q I h => pairTrees_nil_walk ⟨[], H, I, .nil, h⟩
theorem pps_cons {X : Cx} {pos : Pos} {k v : Expr} {ks : List (Option Expr)} {vs : List Expr} {tk tv : TE} {trs : List (TE × TE)} (hk : PE X k tk) (hv : PE X v tv) (hr : PPs X pos ks vs trs) :
    PPs X pos (some k :: ks) (v :: vs) ((tk, tv) :: trs) := fun pins s σ H Q I h =>
  pairTrees_cons_walk (thn (hk pins s σ H _ I h) fun u s1 ⟨x, H1, I1, rx, q1⟩ => thn (hv pins s1 σ H1 _ I1 q1) fun w2 s2 ⟨y, H2, I2, ry, q2⟩ =>
    thn (hr pins s2 σ H2 _ I2 q2) fun ws s3 ⟨ps, H3, I3, rel, q3⟩ => ⟨(x, y) :: ps, H3, I3, .cons ⟨rx, ry⟩ rel, q3⟩)

def mergeK (kvs more : List (Key × V)) : List (Key × V) := more.foldl (fun acc kv => putK acc kv.1 kv.2) kvs
theorem KV.merge : ∀ {more : List (Key × V)} {rs : List (Key × Value)} {kvs : List (Key × V)} {vs : List (Key × Value)}, KV more rs → KV kvs vs → KV (mergeK kvs more) (merged vs rs) := by
  intro more rs kvs vs r
  unfold KV at r
  induction r generalizing kvs vs with
  | nil => intro q; exact q
  | @cons p q ps qs h t ih =>
    intro r0
    have e : KV (putK kvs p.1 p.2) (stored vs q.1 q.2) := by
      have := r0.put p.1 h.2
      rw [← h.1]; exact this
    exact ih e
theorem length_mergeK : ∀ (more kvs : List (Key × V)), (mergeK kvs more).length ≤ kvs.length + more.length
  | [], kvs => by show kvs.length ≤ kvs.length + 0; omega
  | p :: r, kvs => by
    have h1 := length_mergeK r (putK kvs p.1 p.2)
    have h2 := length_putK kvs p.1 p.2
    show (mergeK (putK kvs p.1 p.2) r).length ≤ _
    rw [List.length_cons]; omega
theorem carries_of {P : Program} {w : World} : ∀ {kvs : List (Key × V)} {ws : List (Value × Value)}, VV (kvs.map fun kv => (kV kv.1, kv.2)) ws → ∃ rs, Carries (mixKind P w) ws rs ∧ KV kvs rs
  | [], _, r => by rw [List.map_nil] at r; cases r; exact ⟨[], True.intro, .nil⟩
  | p :: kvs, _, r => by
    rw [List.map_cons] at r
    cases r with
    | @cons a b as bs h t =>
      obtain ⟨rs, c, q⟩ := carries_of (P := P) (w := w) t
      obtain ⟨b1, b2⟩ := b
      exact ⟨(p.1, b2) :: rs, ⟨kV_is h.1, rfl, c⟩, .cons ⟨rfl, h.2⟩ q⟩
/-- {k: v, ..} with keys ints and texts; the new dict stands empty while the pairs are made -/
def tDisp (trs : List (TE × TE)) : TE := fun σ H Q => ∀ p, H p = none → tPairs trs σ (upd H p (.dK [])) fun ps H2 => H2 p = some (.dK []) ∧ ∃ kvs : List (Key × V), ps = kvs.map (fun kv => (kV kv.1, kv.2)) ∧ kvs.length ≤ 15 ∧ Q (.ref p) (upd H2 p (.dK (mergeK [] kvs)))
theorem pe_disp {X : Cx} {pos : Pos} {keys : List (Option Expr)} {values : List Expr} {trs : List (TE × TE)} (h : PPs X pos keys values trs) (hall : keys.all (·.isSome) = true) (hl : keys.length = values.length) (h0 : keys ≠ [])
    (h15 : keys.length ≤ 15) : PE X (.Dict keys values pos) (tDisp trs) := by
  intro pins s σ H Q I q
  have hn := I.hok.fresh (Nat.le_refl s.heap.objs.size)
  have I1 := I.laid (a := s.heap.objs.size) (o := .dK []) (h' := s.heap.push { cls := .type "dict", data := .dict #[] }) (t' := s.toks) (fun _ _ q => Heap.get?_push_of_some _ q) (Nat.le_refl _) (dk_empty s.heap I.big)
  refine wpAny_Dict_walk (knd := mixKind X.prog X.w) hall hl h0 h15 (thn (h pins _ σ _ _ I1 (q _ hn)) fun ws s2 ⟨ps, H2, I2, rel, e, kvs, ep, lk, q2⟩ => ?_)
  subst ep
  obtain ⟨rs, c, rk⟩ := carries_of (P := X.prog) (w := X.w) rel
  obtain ⟨z, hd, vs0, r0, dd⟩ := dk_of I2.hok e
  cases r0
  refine ⟨rs, c, dd, fun h' dd' hs => ⟨.ref s.heap.objs.size, _, ?_, rfl, q2⟩⟩
  have hz : (mergeK [] kvs).length ≤ sizeLine := by
    have h1 := length_mergeK kvs []
    rw [List.length_nil] at h1
    rw [sizeLine_eq]; omega
  have he : ∃ q, h'.get? s.heap.objs.size = some q := let ⟨q, _, _, hq, _⟩ := dd'; ⟨q, hq⟩
  exact d_write I2 (by rw [e]; exact True.intro) hs he (dk_new hz hd (rk.merge .nil) dd')


/-! ### methods -/
/-- a method call o.m(e) of a built-in, with one argument: what must be seen of the text -/
structure M1 (X : Cx) (o : Expr) (m : Str) (apos : Pos) (e : Expr) (cpos : Pos) : Prop where
  base : attributeBase o m X.env (eval o X.env) = eval o X.env
  few : ((backTo cpos (starEach [e] X.env)).all (fun x => !x.1) && (backToKw cpos (keywordEach [] X.env)).all (fun x => x.1.isSome)
    && decide (([e] : List Expr).length + ([] : List Keyword).length + (if ([] : List Keyword).isEmpty then 0 else 1) < 30)) = true
  line : (apos.endLine == cpos.line) = true
  trees : backTo cpos (starEach [e] X.env) = [(false, eval e X.env)]
structure M2 (X : Cx) (o : Expr) (m : Str) (apos : Pos) (e f : Expr) (cpos : Pos) : Prop where
  base : attributeBase o m X.env (eval o X.env) = eval o X.env
  few : ((backTo cpos (starEach [e, f] X.env)).all (fun x => !x.1) && (backToKw cpos (keywordEach [] X.env)).all (fun x => x.1.isSome)
    && decide (([e, f] : List Expr).length + ([] : List Keyword).length + (if ([] : List Keyword).isEmpty then 0 else 1) < 30)) = true
  line : (apos.endLine == cpos.line) = true
  trees : backTo cpos (starEach [e, f] X.env) = [(false, eval e X.env), (false, eval f X.env)]

/-- a is a dict, whatever its keys -/
def IsD (H : Hp) (a : Addr) : Prop := (∃ kvs, Rd H a (.dK kvs)) ∨ ∃ kvs, Rd H a (.dT kvs)
section
variable {X : Cx} {pins : List (Addr × Obj)} {σ : St} {H : Hp} {s : Shared} {a : Addr} {y d : V} {u r : Value} {o : Option V} {A : Around} {E : Value → Shared → Prop}
end

def tDGet1 (td ty : TE) : TE := fun σ H Q => td σ H fun x H1 => ∃ a, x = .ref a ∧ IsD H1 a ∧ ty σ H1 fun y H2 => ∃ o, DGet H2 a y o ∧ Q (o.getD .non) H2
def tDGet2 (td ty tx : TE) : TE := fun σ H Q => td σ H fun x H1 => ∃ a, x = .ref a ∧ IsD H1 a ∧ ty σ H1 fun y H2 => tx σ H2 fun z H3 => ∃ o, DGet H3 a y o ∧ Q (o.getD z) H3
/-- d.pop(k): there; d.pop(k, x): there or not -/
def tDPop1 (td ty : TE) : TE := fun σ H Q => td σ H fun x H1 => ∃ a, x = .ref a ∧ IsD H1 a ∧ ty σ H1 fun y H2 => ∃ kvs k v, H2 a = some (.dK kvs) ∧ y = kV k ∧ valV kvs k = some v ∧ Q v (upd H2 a (.dK (dropK kvs k)))
def tDPop2 (td ty tx : TE) : TE := fun σ H Q => td σ H fun x H1 => ∃ a, x = .ref a ∧ IsD H1 a ∧ ty σ H1 fun y H2 => tx σ H2 fun z H3 => ∃ kvs k, H3 a = some (.dK kvs) ∧ y = kV k ∧
  (∀ v, valV kvs k = some v → Q v (upd H3 a (.dK (dropK kvs k)))) ∧ (valV kvs k = none → Q z H3)
section
variable {X : Cx} {o e f : Expr} {apos cpos : Pos} {td ty tx : TE}
end

/-! ### dict(d): a copy -/
section
variable {X : Cx} {pins : List (Addr × Obj)} {σ : St} {H : Hp} {s : Shared} {a : Addr} {kvs : List (Key × V)} {A : Around} {E : Value → Shared → Prop}
end


section
variable {X : Cx} {pins : List (Addr × Obj)} {σ : St} {H : Hp} {s : Shared} {a : Addr} {y : V} {u : Value} {A : Around} {E : Value → Shared → Prop}
end
end L2


namespace L2
open PySem PySem.Spec PyProof.Rows
section
variable {X : Cx}
end
/-! ### a dict's pairs: keys that differ -/
section
variable {κ : Type} [DecidableEq κ]
end
end L2

/-! lists: insert, tuple(list), comprehensions that take pairs apart -/
namespace L2
open PySem PySem.Spec PyProof.Rows PySem.Builtin
section
variable {X : Cx}
def rInsert : V → List V → Hp → VK → Prop := fun x vs H Q => ∃ (l : Addr) (xs : List V) (i : Int) (v : V), x = .ref l ∧ vs = [.int i, v] ∧ H l = some (.lst xs) ∧ 0 ≤ i ∧ i ≤ xs.length ∧ xs.length < sizeLine ∧ Q .non (upd H l (.lst (xs.take i.toNat ++ v :: xs.drop i.toNat)))
theorem mt_insert : MtM X "list.insert" rInsert := by
  intro pins s σ H x vs v us Q I rx rv h
  obtain ⟨l, xs, i, y, rfl, rfl, hH, h0, h1, hz, q⟩ := h
  cases rx
  obtain ⟨u1, u2, rfl, r1, r2⟩ := vals2 rv
  obtain ⟨t, rfl⟩ := r1
  obtain ⟨z, its, n, r, hl, e⟩ := I.lstM hH
  have hfit : ¬ (!Builtin.List.listFitsIndex i) = true := by
    have h2 : (sizeLine : Int) < 2 ^ 62 := by decide
    rw [fitsIndex_both (by omega) (by omega)]
    decide
  refine call_meets F.slot_list_insert ⟨_, e, rfl⟩ F.entry_list_insert (F.args_list_insert_3 _ _ _) (AutoSeq1.list_insert_list_int_val_1 l its.toArray n i t u2 hfit (by rw [List.size_toArray]; omega)) ⟨e, ?_⟩
  refine ⟨.non, _, I.lset (its' := its.take i.toNat ++ u2 :: its.drop i.toNat) hH e ?_ ((r.take _).append (.cons r2 (r.drop _))) ?_, rfl, q⟩
  · have hk : (if i < 0 then (i + ((its.toArray.size : Nat) : Int)).toNat else min i.toNat its.toArray.size) = i.toNat := by
      rw [if_neg (by omega), List.size_toArray]; omega
    show (its.toArray.extract 0 (if i < 0 then (i + ((its.toArray.size : Nat) : Int)).toNat else min i.toNat its.toArray.size)).push u2 ++ its.toArray.extract (if i < 0 then (i + ((its.toArray.size : Nat) : Int)).toNat else min i.toNat its.toArray.size) = _
    rw [hk]
    apply Array.toList_inj.mp
    simp
    exact List.take_of_length_le (by rw [List.length_drop]; exact Nat.le_refl _)
  · rw [List.length_append, List.length_cons, List.length_take, List.length_drop]; omega
end
theorem z_insert {H : Hp} {Q : VK} {l : Addr} {xs : List V} {i : Int} {v : V} (h : H l = some (.lst xs)) (h0 : 0 ≤ i) (h1 : i ≤ xs.length) (hl : xs.length ≤ 900) (q : ∀ H', But l H H' → H' l = some (.lst (xs.take i.toNat ++ v :: xs.drop i.toNat)) → Q .non H') : rInsert (.ref l) [.int i, v] H Q :=
  ⟨l, xs, i, v, rfl, rfl, h, h0, h1, Nat.lt_of_le_of_lt hl (by decide), q _ But.upd upd_same⟩
/-- [elt for a, b in xs]: xs of pairs -/
theorem lct_list {K : PySem.W.Frag} {a : Addr} {xs : List V} {st : St} {te : TE} {H1 : Hp} {Q : VK} (pr : Nat → V × V) (f : Nat → V) (hs : SqL K H1 a xs) (hn : xs.length ≤ sizeLine)
    (hp : ∀ i x, xs[i]? = some x → ∃ p, x = .ref p ∧ SqT K H1 p [(pr i).1, (pr i).2])
    (he : ∀ i H2 (S : V → Hp → Prop), i < xs.length → Same H1 H2 → (∀ H3, Same H2 H3 → S (f i) H3) → te (some (pr i).1 :: some (pr i).2 :: st) H2 S)
    (fin : ∀ acc H2, H1 acc = none → Same H1 H2 → H2 acc = some (.lst ((List.range xs.length).map f)) → Q (.ref acc) H2) :
    LCW 2 st (Itl K a) (gTup K 2 (gCons (gName 0) (gCons (gName 1) gNil))) tYes te H1 Q := by
  intro acc hacc
  refine ⟨fun i m σb H2 => m = xs.length - i ∧ i ≤ xs.length ∧ Same H1 H2 ∧ H2 acc = some (.lst ((List.range i).map f)) ∧ ∃ u v, σb = u :: v :: st, ⟨xs.length, by simp, Nat.zero_le _, Same.new hacc _, upd_same, none, none, rfl⟩, ?_⟩
  rintro i m σb H2 ⟨rfl, hi, sH, ha, u, v, rfl⟩
  by_cases hlt : i < xs.length
  · have hx : xs[i]? = some xs[i] := List.getElem?_eq_getElem hlt
    refine .inr ⟨⟨xs, _, sH.seq hs, hx⟩, fun x H3 y => ?_⟩
    have e := y.2 xs (sH.seq hs)
    obtain ⟨p, rfl, hpt⟩ := hp i x e
    rw [y.1]
    refine ⟨p, _, rfl, sH.tup hpt, rfl, _, _, rfl, _, _, rfl, rfl, ?_⟩
    unfold tYes
    refine iteT ?_
    refine he i H2 _ hlt sH (fun H6 s6 => ⟨_, xs.length - (i + 1), s6 _ _ ha, by rw [List.length_map, List.length_range]; omega, by omega, rfl, hlt, Same.but (sH.trans s6) hacc But.upd, ?_, _, _, rfl⟩)
    rw [upd_same, List.range_succ, List.map_append]
    rfl
  · have e : i = xs.length := by omega
    subst e
    exact .inl ⟨⟨xs, sH.seq hs, Nat.le_refl _⟩, fin acc H2 hacc sH ha⟩
/-- a dict of texts: made at once, asked -/
theorem z_dget {td ty : TE} {σ : St} {H : Hp} {Q : VK} (h : td σ H fun x H1 => ty σ H1 fun y H2 => ∃ a v, x = .ref a ∧ DGet H2 a y (some v) ∧ Q v H2) : tDGet td ty σ H Q := h
theorem z_dgetS {H : Hp} {a : Addr} {kvs : List (Key × V)} {z : Str} {v : V} {S : Addr → V → Prop} (h : H a = some (.dK kvs)) (hv : valV kvs (Sum.inr z) = some v) (q : S a v) : ∃ a' v', V.ref a = .ref a' ∧ DGet H a' (.str z) (some v') ∧ S a' v' :=
  ⟨a, v, rfl, by rw [← hv]; exact DGet.k (k := Sum.inr z) h, q⟩
theorem compOkG2_of {X : Cx} {t1 t2 : Str} {sc : Scope} {fr : List (Str × Nat)} {osc : Scope} {N : List Str} (ho : X.env.scope = osc) (hN : X.N = N) (h1 : compOkB osc N t1 sc fr = true) (h2 : compOkB osc N t2 sc fr = true) (hne : t1 ≠ t2) : CompOkG X [t1, t2] sc fr ∧ sc.names.lookup t1 = some .local ∧ sc.names.lookup t2 = some .local := by
  have o1 := compOk_of ho hN h1
  have o2 := compOk_of ho hN h2
  refine ⟨⟨o1.kind, o1.nocell, o1.locs, o1.fre, ?_, o1.vis⟩, o1.tgl, o2.tgl⟩
  obtain ⟨a1, a2⟩ := List.nodup_cons.mp o1.nd
  exact List.nodup_cons.mpr ⟨fun m => (List.mem_cons.mp m).elim hne a1, o2.nd⟩
theorem pe_lcP {X : Cx} {elt iter : Expr} {t1 t2 : Str} {x1 : _} {p1 p2 p3 pos : Pos} {sc : Scope} {fr : List (Str × Nat)} {wi : TI} {te : TE} (hc : X.calm = true) (ok : CompOkG X [t1, t2] sc fr ∧ sc.names.lookup t1 = some .local ∧ sc.names.lookup t2 = some .local)
    (hi : PI X (.Tuple [.Name t1 p1, .Name t2 p2] x1 p3) iter wi) (he : ∀ cl C s3 H3 fp, PE (X.blk ([t1, t2] ++ fr.map (·.1)) sc cl C s3 H3 fp) elt te) (hs : ∀ x, foldedSetIterable iter X.env x = pure x := by intro _; rfl) :
    PE X (.ListComp elt [⟨.Tuple [.Name t1 p1, .Name t2 p2] x1 p3, iter, [], 0⟩] sc pos) (tLCG 2 fr wi (gTup X.K 2 (gCons (gName 0) (gCons (gName 1) gNil))) tYes te) :=
  pe_lcG (tgs := [t1, t2]) hc ok.1 hi (fun _ _ _ _ _ => pg_tup hc (pgs_cons (pg_name ok.1.nd rfl (.inl (lookup_relabel_local ok.2.1)) (.inr (lookup_relabel_local ok.2.1))) (pgs_cons (pg_name ok.1.nd rfl (.inl (lookup_relabel_local ok.2.2)) (.inr (lookup_relabel_local ok.2.2))) pgs_nil))) (fun _ _ _ _ _ => pif_nil) he hs
theorem op_powB {X : Cx} : OpR X (binaryOp .Pow) (rI (fun i j => 0 ≤ j ∧ j ≤ 1000 ∧ My.Bd 1000 i) fun i j => .int (i ^ j.toNat)) := opI fun i j _ _ _ _ _ hc q => pow_int hc.1 (by
  have h1 : Builtin.Int.intBits i ≤ 1000 := PySem.intBits_le_iff.mpr hc.2.2
  have h2 : ((Builtin.Int.intBits i : Nat) : Int) * j ≤ 1000 * 1000 := Int.mul_le_mul (by omega) hc.2.1 hc.1 (by decide)
  exact Int.le_trans h2 (by decide)) q
end L2

set_option Elab.async false
set_option linter.all false
set_option maxRecDepth 100000
set_option maxHeartbeats 4000000
namespace MyLaw
open PySem L2
def top (i : Nat) : Stmt := PySem.Challenge.pw_markscale_k47_scales_of_colour_and_size.main.body.getD i (.Pass ⟨0, 0, 0, 0⟩)
abbrev s_is_whole : Stmt := top 4
theorem sc_is_whole : FnScope ["thing"] ["thing"] (defScope s_is_whole) := ⟨rfl, rfl, rfl, by decide +kernel, rfl, by decide +kernel, by decide +kernel⟩
abbrev s_divisor_of : Stmt := top 5
theorem sc_divisor_of : FnScope ["one", "other", "high", "low", "rest"] ["one", "other"] (defScope s_divisor_of) := ⟨rfl, rfl, rfl, by decide +kernel, rfl, by decide +kernel, by decide +kernel⟩
abbrev s_number : Stmt := top 6
theorem sc_number : FnScope ["top", "bottom", "divisor"] ["top", "bottom"] (defScope s_number) := ⟨rfl, rfl, rfl, by decide +kernel, rfl, by decide +kernel, by decide +kernel⟩
abbrev s_plus : Stmt := top 7
theorem sc_plus : FnScope ["one", "other"] ["one", "other"] (defScope s_plus) := ⟨rfl, rfl, rfl, by decide +kernel, rfl, by decide +kernel, by decide +kernel⟩
abbrev s_under : Stmt := top 8
theorem sc_under : FnScope ["one", "other"] ["one", "other"] (defScope s_under) := ⟨rfl, rfl, rfl, by decide +kernel, rfl, by decide +kernel, by decide +kernel⟩
abbrev s_column_at : Stmt := top 10
theorem sc_column_at : FnScope ["columns", "name", "at", "column"] ["columns", "name"] (defScope s_column_at) := ⟨rfl, rfl, rfl, by decide +kernel, rfl, by decide +kernel, by decide +kernel⟩
abbrev s_comes_before : Stmt := top 11
theorem sc_comes_before : FnScope ["one", "other"] ["one", "other"] (defScope s_comes_before) := ⟨rfl, rfl, rfl, by decide +kernel, rfl, by decide +kernel, by decide +kernel⟩
abbrev s_least_of : Stmt := top 13
theorem sc_least_of : FnScope ["cells", "least", "cell"] ["cells"] (defScope s_least_of) := ⟨rfl, rfl, rfl, by decide +kernel, rfl, by decide +kernel, by decide +kernel⟩
abbrev s_greatest_of : Stmt := top 14
theorem sc_greatest_of : FnScope ["cells", "greatest", "cell"] ["cells"] (defScope s_greatest_of) := ⟨rfl, rfl, rfl, by decide +kernel, rfl, by decide +kernel, by decide +kernel⟩
abbrev s_straight_ends : Stmt := top 16
theorem sc_straight_ends : FnScope ["numbers", "lo", "hi"] ["numbers"] (defScope s_straight_ends) := ⟨rfl, rfl, rfl, by decide +kernel, rfl, by decide +kernel, by decide +kernel⟩
abbrev s_cells_there : Stmt := top 18
theorem sc_cells_there : FnScope ["columns", "rows", "name", "at"] ["columns", "rows", "name"] (defScope s_cells_there) := ⟨rfl, rfl, rfl, by decide +kernel, rfl, by decide +kernel, by decide +kernel⟩
abbrev s_scale_of : Stmt := top 22
theorem sc_scale_of : FnScope ["channel", "columns", "rows", "length", "wish", "ends"] ["channel", "columns", "rows", "length"] (defScope s_scale_of) := ⟨rfl, rfl, rfl, by decide +kernel, rfl, by decide +kernel, by decide +kernel⟩
abbrev s_colour_scale : Stmt := top 23
theorem sc_colour_scale : FnScope ["telling", "columns", "rows", "colour"] ["telling", "columns", "rows"] (defScope s_colour_scale) := ⟨rfl, rfl, rfl, by decide +kernel, rfl, by decide +kernel, by decide +kernel⟩
abbrev s_size_scale : Stmt := top 24
theorem sc_size_scale : FnScope ["telling", "columns", "rows"] ["telling", "columns", "rows"] (defScope s_size_scale) := ⟨rfl, rfl, rfl, by decide +kernel, rfl, by decide +kernel, by decide +kernel⟩
abbrev s_l_cell_at : Stmt := top 26
theorem sc_l_cell_at : FnScope ["_law_script", "_law_k"] ["_law_script", "_law_k"] (defScope s_l_cell_at) := ⟨rfl, rfl, rfl, by decide +kernel, rfl, by decide +kernel, by decide +kernel⟩
abbrev s_l_draws : Stmt := top 27
theorem sc_l_draws : FnScope ["_law_script", "_law_k", "_law_many", "_law_cell", "_law_rest", "_law_mixed", "_law_found", "_law_j"] ["_law_script", "_law_k", "_law_many"] (defScope s_l_draws) := ⟨rfl, rfl, rfl, by decide +kernel, rfl, by decide +kernel, by decide +kernel⟩
abbrev s_l_low : Stmt := top 28
theorem sc_l_low : FnScope ["_law_top", "_law_bottom", "_law_one", "_law_other"] ["_law_top", "_law_bottom"] (defScope s_l_low) := ⟨rfl, rfl, rfl, by decide +kernel, rfl, by decide +kernel, by decide +kernel⟩
abbrev s_l_number : Stmt := top 29
theorem sc_l_number : FnScope ["_law_d", "_law_size"] ["_law_d"] (defScope s_l_number) := ⟨rfl, rfl, rfl, by decide +kernel, rfl, by decide +kernel, by decide +kernel⟩
abbrev s_l_more : Stmt := top 30
theorem sc_l_more : FnScope ["_law_one", "_law_d"] ["_law_one", "_law_d"] (defScope s_l_more) := ⟨rfl, rfl, rfl, by decide +kernel, rfl, by decide +kernel, by decide +kernel⟩
abbrev s_l_word : Stmt := top 31
theorem sc_l_word : FnScope ["_law_d", "_law_k", "_law_letters", "_law_spot", "_law_rest"] ["_law_d", "_law_k"] (defScope s_l_word) := ⟨rfl, rfl, rfl, by decide +kernel, rfl, by decide +kernel, by decide +kernel⟩
abbrev s_l_wish : Stmt := top 32
theorem sc_l_wish : FnScope ["_law_d", "_law_wanted", "_law_word_here", "_law_lo", "_law_ends", "_law_k"] ["_law_d", "_law_wanted"] (defScope s_l_wish) := ⟨rfl, rfl, rfl, by decide +kernel, rfl, by decide +kernel, by decide +kernel⟩
abbrev s_l_wish_by : Stmt := top 33
theorem sc_l_wish_by : FnScope ["_law_d"] ["_law_d"] (defScope s_l_wish_by) := ⟨rfl, rfl, rfl, by decide +kernel, rfl, by decide +kernel, by decide +kernel⟩
abbrev s_l_due : Stmt := top 34
theorem sc_l_due : FnScope ["_law_wish_here", "_law_cells", "_law_length", "_law_there", "_law_lo", "_law_hi", "_law_cell"] ["_law_wish_here", "_law_cells", "_law_length"] (defScope s_l_due) := ⟨rfl, rfl, rfl, by decide +kernel, rfl, by decide +kernel, by decide +kernel⟩
abbrev s_l_right : Stmt := top 35
theorem sc_l_right : FnScope ["_law_found", "_law_due_here"] ["_law_found", "_law_due_here"] (defScope s_l_right) := ⟨rfl, rfl, rfl, by decide +kernel, rfl, by decide +kernel, by decide +kernel⟩
abbrev s_law : Stmt := top 36
theorem sc_law : FnScope ["_law_script", "_law_d", "_law_names", "_law_shade", "_law_size", "_law_colour", "_law_kind", "_law_columns", "_law_layers", "_law_channel", "_law_telling", "_law_rows", "_law_k", "_law_handed", "_law_at", "_law_by", "_law_e", "_law_j", "_law_one", "_law_other", "_law_cells"] ["_law_script"] (defScope s_law) := ⟨rfl, rfl, rfl, by decide +kernel, rfl, by decide +kernel, by decide +kernel⟩
structure Adr where
  (f_is_whole : Addr) (d_is_whole : FuncData)
  (f_divisor_of : Addr) (d_divisor_of : FuncData)
  (f_number : Addr) (d_number : FuncData)
  (f_plus : Addr) (d_plus : FuncData)
  (f_under : Addr) (d_under : FuncData)
  (f_column_at : Addr) (d_column_at : FuncData)
  (f_comes_before : Addr) (d_comes_before : FuncData)
  (f_least_of : Addr) (d_least_of : FuncData)
  (f_greatest_of : Addr) (d_greatest_of : FuncData)
  (f_straight_ends : Addr) (d_straight_ends : FuncData)
  (f_cells_there : Addr) (d_cells_there : FuncData)
  (f_scale_of : Addr) (d_scale_of : FuncData)
  (f_colour_scale : Addr) (d_colour_scale : FuncData)
  (f_size_scale : Addr) (d_size_scale : FuncData)
  (f_l_cell_at : Addr) (d_l_cell_at : FuncData)
  (f_l_draws : Addr) (d_l_draws : FuncData)
  (f_l_low : Addr) (d_l_low : FuncData)
  (f_l_number : Addr) (d_l_number : FuncData)
  (f_l_more : Addr) (d_l_more : FuncData)
  (f_l_word : Addr) (d_l_word : FuncData)
  (f_l_wish : Addr) (d_l_wish : FuncData)
  (f_l_wish_by : Addr) (d_l_wish_by : FuncData)
  (f_l_due : Addr) (d_l_due : FuncData)
  (f_l_right : Addr) (d_l_right : FuncData)
  (f_law : Addr) (d_law : FuncData)
  (c_NoNumber : Addr)
  (g_COLOUR_LENGTH : Tok)
  (g_SIZE_LENGTH : Tok)
structure Txt (K : PySem.W.Frag) (mg : Str → Option Value) (t : Adr) : Prop where
  F_is_whole : Fun K "is_whole" "is_whole" s_is_whole t.f_is_whole t.d_is_whole
  m_is_whole : mg "is_whole" = some (.ref t.f_is_whole)
  k_is_whole : PySem.W.keepIn K (.ref t.f_is_whole) = true
  b_is_whole : Binds K t.d_is_whole ["thing"] []
  F_divisor_of : Fun K "divisor_of" "divisor_of" s_divisor_of t.f_divisor_of t.d_divisor_of
  m_divisor_of : mg "divisor_of" = some (.ref t.f_divisor_of)
  k_divisor_of : PySem.W.keepIn K (.ref t.f_divisor_of) = true
  b_divisor_of : Binds K t.d_divisor_of ["one", "other"] []
  F_number : FunD K "number" "number" s_number t.f_number t.d_number
  m_number : mg "number" = some (.ref t.f_number)
  k_number : PySem.W.keepIn K (.ref t.f_number) = true
  b_number : Binds K t.d_number ["top", "bottom"] []
  b_number1 : ∃ ds, Vals [V.int 1] ds ∧ Binds K t.d_number ["top", "bottom"] ds
  F_plus : Fun K "plus" "plus" s_plus t.f_plus t.d_plus
  m_plus : mg "plus" = some (.ref t.f_plus)
  k_plus : PySem.W.keepIn K (.ref t.f_plus) = true
  b_plus : Binds K t.d_plus ["one", "other"] []
  F_under : Fun K "under" "under" s_under t.f_under t.d_under
  m_under : mg "under" = some (.ref t.f_under)
  k_under : PySem.W.keepIn K (.ref t.f_under) = true
  b_under : Binds K t.d_under ["one", "other"] []
  F_column_at : Fun K "column_at" "column_at" s_column_at t.f_column_at t.d_column_at
  m_column_at : mg "column_at" = some (.ref t.f_column_at)
  k_column_at : PySem.W.keepIn K (.ref t.f_column_at) = true
  b_column_at : Binds K t.d_column_at ["columns", "name"] []
  F_comes_before : Fun K "comes_before" "comes_before" s_comes_before t.f_comes_before t.d_comes_before
  m_comes_before : mg "comes_before" = some (.ref t.f_comes_before)
  k_comes_before : PySem.W.keepIn K (.ref t.f_comes_before) = true
  b_comes_before : Binds K t.d_comes_before ["one", "other"] []
  F_least_of : Fun K "least_of" "least_of" s_least_of t.f_least_of t.d_least_of
  m_least_of : mg "least_of" = some (.ref t.f_least_of)
  k_least_of : PySem.W.keepIn K (.ref t.f_least_of) = true
  b_least_of : Binds K t.d_least_of ["cells"] []
  F_greatest_of : Fun K "greatest_of" "greatest_of" s_greatest_of t.f_greatest_of t.d_greatest_of
  m_greatest_of : mg "greatest_of" = some (.ref t.f_greatest_of)
  k_greatest_of : PySem.W.keepIn K (.ref t.f_greatest_of) = true
  b_greatest_of : Binds K t.d_greatest_of ["cells"] []
  F_straight_ends : Fun K "straight_ends" "straight_ends" s_straight_ends t.f_straight_ends t.d_straight_ends
  m_straight_ends : mg "straight_ends" = some (.ref t.f_straight_ends)
  k_straight_ends : PySem.W.keepIn K (.ref t.f_straight_ends) = true
  b_straight_ends : Binds K t.d_straight_ends ["numbers"] []
  F_cells_there : Fun K "cells_there" "cells_there" s_cells_there t.f_cells_there t.d_cells_there
  m_cells_there : mg "cells_there" = some (.ref t.f_cells_there)
  k_cells_there : PySem.W.keepIn K (.ref t.f_cells_there) = true
  b_cells_there : Binds K t.d_cells_there ["columns", "rows", "name"] []
  F_scale_of : Fun K "scale_of" "scale_of" s_scale_of t.f_scale_of t.d_scale_of
  m_scale_of : mg "scale_of" = some (.ref t.f_scale_of)
  k_scale_of : PySem.W.keepIn K (.ref t.f_scale_of) = true
  b_scale_of : Binds K t.d_scale_of ["channel", "columns", "rows", "length"] []
  F_colour_scale : Fun K "colour_scale" "colour_scale" s_colour_scale t.f_colour_scale t.d_colour_scale
  m_colour_scale : mg "colour_scale" = some (.ref t.f_colour_scale)
  k_colour_scale : PySem.W.keepIn K (.ref t.f_colour_scale) = true
  b_colour_scale : Binds K t.d_colour_scale ["telling", "columns", "rows"] []
  F_size_scale : Fun K "size_scale" "size_scale" s_size_scale t.f_size_scale t.d_size_scale
  m_size_scale : mg "size_scale" = some (.ref t.f_size_scale)
  k_size_scale : PySem.W.keepIn K (.ref t.f_size_scale) = true
  b_size_scale : Binds K t.d_size_scale ["telling", "columns", "rows"] []
  F_l_cell_at : Fun K "_law_cell_at" "_law_cell_at" s_l_cell_at t.f_l_cell_at t.d_l_cell_at
  m_l_cell_at : mg "_law_cell_at" = some (.ref t.f_l_cell_at)
  k_l_cell_at : PySem.W.keepIn K (.ref t.f_l_cell_at) = true
  b_l_cell_at : Binds K t.d_l_cell_at ["_law_script", "_law_k"] []
  F_l_draws : Fun K "_law_draws" "_law_draws" s_l_draws t.f_l_draws t.d_l_draws
  m_l_draws : mg "_law_draws" = some (.ref t.f_l_draws)
  k_l_draws : PySem.W.keepIn K (.ref t.f_l_draws) = true
  b_l_draws : Binds K t.d_l_draws ["_law_script", "_law_k", "_law_many"] []
  F_l_low : Fun K "_law_low" "_law_low" s_l_low t.f_l_low t.d_l_low
  m_l_low : mg "_law_low" = some (.ref t.f_l_low)
  k_l_low : PySem.W.keepIn K (.ref t.f_l_low) = true
  b_l_low : Binds K t.d_l_low ["_law_top", "_law_bottom"] []
  F_l_number : Fun K "_law_number" "_law_number" s_l_number t.f_l_number t.d_l_number
  m_l_number : mg "_law_number" = some (.ref t.f_l_number)
  k_l_number : PySem.W.keepIn K (.ref t.f_l_number) = true
  b_l_number : Binds K t.d_l_number ["_law_d"] []
  F_l_more : Fun K "_law_more" "_law_more" s_l_more t.f_l_more t.d_l_more
  m_l_more : mg "_law_more" = some (.ref t.f_l_more)
  k_l_more : PySem.W.keepIn K (.ref t.f_l_more) = true
  b_l_more : Binds K t.d_l_more ["_law_one", "_law_d"] []
  F_l_word : Fun K "_law_word" "_law_word" s_l_word t.f_l_word t.d_l_word
  m_l_word : mg "_law_word" = some (.ref t.f_l_word)
  k_l_word : PySem.W.keepIn K (.ref t.f_l_word) = true
  b_l_word : Binds K t.d_l_word ["_law_d", "_law_k"] []
  F_l_wish : Fun K "_law_wish" "_law_wish" s_l_wish t.f_l_wish t.d_l_wish
  m_l_wish : mg "_law_wish" = some (.ref t.f_l_wish)
  k_l_wish : PySem.W.keepIn K (.ref t.f_l_wish) = true
  b_l_wish : Binds K t.d_l_wish ["_law_d", "_law_wanted"] []
  F_l_wish_by : Fun K "_law_wish_by" "_law_wish_by" s_l_wish_by t.f_l_wish_by t.d_l_wish_by
  m_l_wish_by : mg "_law_wish_by" = some (.ref t.f_l_wish_by)
  k_l_wish_by : PySem.W.keepIn K (.ref t.f_l_wish_by) = true
  b_l_wish_by : Binds K t.d_l_wish_by ["_law_d"] []
  F_l_due : Fun K "_law_due" "_law_due" s_l_due t.f_l_due t.d_l_due
  m_l_due : mg "_law_due" = some (.ref t.f_l_due)
  k_l_due : PySem.W.keepIn K (.ref t.f_l_due) = true
  b_l_due : Binds K t.d_l_due ["_law_wish_here", "_law_cells", "_law_length"] []
  F_l_right : Fun K "_law_right" "_law_right" s_l_right t.f_l_right t.d_l_right
  m_l_right : mg "_law_right" = some (.ref t.f_l_right)
  k_l_right : PySem.W.keepIn K (.ref t.f_l_right) = true
  b_l_right : Binds K t.d_l_right ["_law_found", "_law_due_here"] []
  F_law : Fun K "law" "law" s_law t.f_law t.d_law
  m_law : mg "law" = some (.ref t.f_law)
  k_law : PySem.W.keepIn K (.ref t.f_law) = true
  b_law : Binds K t.d_law ["_law_script"] []
  m_NoNumber : mg "NoNumber" = some (.ref t.c_NoNumber)
  n_NoNumber : PySem.W.nsIn K mainGlobals "NoNumber" = some (some (.ref t.c_NoNumber))
  x_NoNumber : PySem.W.excIn K t.c_NoNumber bmVE "ValueError.__new__" = true
  e_NoNumber : PySem.W.exmOne K (.ref t.c_NoNumber) (.ref t.c_NoNumber) = some true
  g_COLOUR_LENGTH : mg "COLOUR_LENGTH" = some (.int 255 t.g_COLOUR_LENGTH)
  g_SIZE_LENGTH : mg "SIZE_LENGTH" = some (.int 18 t.g_SIZE_LENGTH)
  z_isinstance : mg "isinstance" = none
  z_int : mg "int" = none
  z_bool : mg "bool" = none
  z_tuple : mg "tuple" = none
  z_list : mg "list" = none
  z_abs : mg "abs" = none
  z_len : mg "len" = none
  z_range : mg "range" = none
  z_min : mg "min" = none
  z_enumerate : mg "enumerate" = none
theorem at0 {α : Type} (x y : α) : atI [x, y] 0 = some x := rfl
theorem at1 {α : Type} (x y : α) : atI [x, y] 1 = some y := rfl
theorem iteBT {b : Bool} {A B : Prop} (hb : b = true) (h : A) : if b = true then A else B := by
  rw [if_pos hb]; exact h
theorem iteDF {c A B : Prop} [Decidable c] (hc : ¬ c) (h : B) : if decide c = true then A else B := by
  rw [decide_eq_false hc]; exact iteF h
theorem iteDT {c A B : Prop} [Decidable c] (hc : c) (h : A) : if decide c = true then A else B := by
  rw [decide_eq_true hc]; exact iteT h
theorem midB {n : Int} (h1 : 0 ≤ n) (h2 : n < 1152921504606846976) : Mid n := (show My.Bd 60 n by unfold My.Bd; omega).mono (by decide)
def cellAt (ns : List Int) (k : Int) : Int := ns.getD k.toNat 0

def sp_whole (K : PySem.W.Frag) : Sp := fun vs H Q _ => ∃ x g, vs = [x] ∧ tgIs K H x g ∧ Q (.bl (match g with | .int => true | _ => false)) H
def sp_cell (K : PySem.W.Frag) : Sp := fun vs H Q _ => ∃ (a : Addr) (ns : List Int) (k : Int), vs = [.ref a, .int k] ∧ SqL K H a (ns.map V.int) ∧ 0 ≤ k ∧ Q (.int (cellAt ns k)) H
def sp_div : Sp := fun vs H Q _ => ∃ a b : Int, vs = [.int a, .int b] ∧ 0 ≤ b ∧ Q (.int ((Int.gcd a b : Nat) : Int)) H
def sp_law (K : PySem.W.Frag) : Sp := fun vs H Q _ => ∃ (a : Addr) (ns : List Int), vs = [.ref a] ∧ SqL K H a (ns.map V.int) ∧ ns.length ≤ 63 ∧ (∀ x ∈ ns, My.Bd 1048576 x) ∧ ∀ H', Q (.bl true) H'

def sp_gcd : Sp := fun vs H Q _ => ∃ a b : Int, vs = [.int a, .int b] ∧ Q (.int ((Int.gcd a b : Nat) : Int)) H
structure Pr (K : PySem.W.Frag) (H : Hp) (p : Addr) (a b : Int) (n : Nat) : Prop where
  s : SqT K H p [.int a, .int b]
  pos : 0 < b
  ba : My.Bd n a
  bb : My.Bd n b
theorem Pr.ne {K : PySem.W.Frag} {H : Hp} {p : Addr} {a b : Int} {n : Nat} (h : Pr K H p a b n) : b ≠ 0 := Int.ne_of_gt h.pos
theorem Pr.keep {K : PySem.W.Frag} {H H' : Hp} {p : Addr} {a b : Int} {n : Nat} (h : Pr K H p a b n) (e : Same H H') : Pr K H' p a b n := ⟨e.tup h.s, h.pos, h.ba, h.bb⟩
/-- a new number of that value -/
def NewQ (K : PySem.W.Frag) (H : Hp) (Q : VK) (n : Nat) (v : Rat) : Prop := ∀ (p : Addr) (H' : Hp) (x y : Int), Same H H' → Pr K H' p x y n → Int.gcd x y = 1 → My.qv x y = v → Q (.ref p) H'
def sp_number (K : PySem.W.Frag) : Sp := fun vs H Q _ => ∃ (t m : Int) (n : Nat), vs = [.int t, .int m] ∧ My.Bd n t ∧ My.Bd n m ∧ n ≤ 3900 ∧ m ≠ 0 ∧ NewQ K H Q n (My.qv t m)
def sp_two (K : PySem.W.Frag) (f : Rat → Rat → Rat) (ok : Int → Prop) : Sp := fun vs H Q _ => ∃ (p r : Addr) (a b c d : Int) (n1 n2 : Nat), vs = [.ref p, .ref r] ∧ Pr K H p a b n1 ∧ Pr K H r c d n2 ∧ n1 + n2 + 1 ≤ 3900 ∧ ok c ∧ NewQ K H Q (n1 + n2 + 1) (f (My.qv a b) (My.qv c d))
def sp_cmp (K : PySem.W.Frag) (f : Int → Int → Int → Int → V) : Sp := fun vs H Q _ => ∃ (p r : Addr) (a b c d : Int) (n1 n2 : Nat), vs = [.ref p, .ref r] ∧ Pr K H p a b n1 ∧ Pr K H r c d n2 ∧ n1 + n2 ≤ 3900 ∧ Q (f a b c d) H
section
variable {P : Program} {w : World} {K : PySem.W.Frag} {mg : Str → Option Value} {base : Heap} {t : Adr}
theorem ok_is_whole (T : Txt K mg t) : FnOk P w K mg base CX0 1 t.f_is_whole t.d_is_whole ["thing"] (sp_whole K) := by
  refine T.F_is_whole.ok sc_is_whole (fun vs H Q E h => ?_) (fun cdv A outer s H vs Q E hr h => ?_)
  · obtain ⟨x, g, rfl, _⟩ := h
    rfl
  obtain ⟨x, g, rfl, hg, q⟩ := h
  refine ⟨_, (pss_one (ps_ret (pe_and (pe_isi isi_int rfl rfl T.z_isinstance T.z_int bt_int (pv 0)) (pe_one (pe_not (pe_isi isi_bool rfl rfl T.z_isinstance T.z_bool bt_bool (pv 0))))))), ?_⟩
  refine ⟨_, rfl, _, g, rfl, hg, _, rfl, ?_⟩
  cases g with
  | int => exact iteT ⟨_, rfl, _, .int, rfl, hg, _, rfl, q⟩
  | bl => exact iteT ⟨_, rfl, _, .bl, rfl, hg, _, rfl, q⟩
  | non => exact iteF q
  | str => exact iteF q
  | tup => exact iteF q
  | lst => exact iteF q
  | dic => exact iteF q
theorem ok_l_cell_at (T : Txt K mg t) : FnOk P w K mg base CX0 1 t.f_l_cell_at t.d_l_cell_at ["_law_script", "_law_k"] (sp_cell K) := by
  refine T.F_l_cell_at.ok sc_l_cell_at (fun vs H Q E h => ?_) (fun cdv A outer s H vs Q E hr h => ?_)
  · obtain ⟨a, ns, k, rfl, _⟩ := h
    rfl
  obtain ⟨a, ns, k, rfl, hS, h0, q⟩ := h
  refine ⟨_, (pss_cons (ps_if (pt_cmpR op_lt (pv 1) (pe_callB call_len_seq rfl T.z_len PySem.boot_len (pa_cons (pv 0) pa_nil)) (nomark _)) (pss_one (ps_ret (pe_ix ix_list (pv 0) (pv 1) (fun _ _ => rfl)))) pss_nil)
  (pss_one (ps_ret pe_int))), ?_⟩
  have hl : (ns.map V.int).length = ns.length := List.length_map _
  refine ⟨_, rfl, _, rfl, a, _, rfl, .inl hS, _, _, rfl, rfl, _, rfl, ?_⟩
  refine ite2 (fun c => ?_) (fun c => ?_)
  · have c' : k < (((ns.map V.int).length : Nat) : Int) := of_decide_eq_true c
    rw [hl] at c'
    have hk : k.toNat < ns.length := by omega
    have hv : atI (ns.map V.int) k = some (.int (cellAt ns k)) := by
      have ek : k = ((k.toNat : Nat) : Int) := by omega
      have q : atI (ns.map V.int) ((k.toNat : Nat) : Int) = some (.int (cellAt ns k)) := atI_nat (by
        rw [List.getElem?_map, List.getElem?_eq_getElem hk]
        unfold cellAt
        rw [List.getD_eq_getElem?_getD, List.getElem?_eq_getElem hk] <;> rfl)
      rw [← ek] at q
      exact q
    exact ⟨_, rfl, _, rfl, _, _, _, _, rfl, rfl, hS, hv, q⟩
  · have c' : ¬ k < (((ns.map V.int).length : Nat) : Int) := of_decide_eq_false (Bool.eq_false_iff.mpr c)
    rw [hl] at c'
    have e : cellAt ns k = 0 := by
      unfold cellAt
      rw [List.getD_eq_getElem?_getD, List.getElem?_eq_none (by omega)] <;> rfl
    rw [e] at q
    exact q
theorem gcd_abs (a b : Int) : Int.gcd (if a < 0 then -a else a) (if b < 0 then -b else b) = Int.gcd a b := by
  rw [My.natAbs_abs, My.natAbs_abs]
  rfl
theorem ok_divisor_of (T : Txt K mg t) : FnOk P w K mg base CX0 1 t.f_divisor_of t.d_divisor_of ["one", "other"] sp_gcd := by
  refine T.F_divisor_of.ok sc_divisor_of (fun vs H Q E h => ?_) (fun cdv A outer s H vs Q E hr h => ?_)
  · obtain ⟨a, b, rfl, _⟩ := h
    rfl
  obtain ⟨a, b, rfl, q⟩ := h
  refine ⟨_, (pss_cons (ps_set (i := 2) sc_divisor_of.nd rfl (Or.inl rfl) (pe_callB call_abs rfl T.z_abs bt_abs (pa_cons (pv 0) pa_nil)))
  (pss_cons (ps_set (i := 3) sc_divisor_of.nd rfl (Or.inl rfl) (pe_callB call_abs rfl T.z_abs bt_abs (pa_cons (pv 1) pa_nil)))
  (pss_cons (ps_while PassesOwn.never (pt_truth (pv 3) (fun _ => rfl)) (pss_cons (ps_set (i := 4) sc_divisor_of.nd rfl (Or.inl rfl) (pe_op op_mod (pv 2) (pv 3)))
  (pss_cons (ps_set (i := 2) sc_divisor_of.nd rfl (Or.inl rfl) (pv 3))
  (pss_one (ps_set (i := 3) sc_divisor_of.nd rfl (Or.inl rfl) (pv 4))))))
  (pss_one (ps_ret (pv 2)))))), ?_⟩
  refine ⟨_, rfl, _, rfl, ?_⟩
  refine ⟨_, rfl, _, rfl, ?_⟩
  dsimp only [gName, tSeq]
  refine while_by (fun σ H' => ∃ (x y : Int) (r : Option V), σ = [some (.int a), some (.int b), some (.int x), some (.int y), r] ∧ H' = H ∧ 0 ≤ x ∧ 0 ≤ y ∧ Int.gcd x y = Int.gcd a b)
    (fun σ _ => match σ with | [_, _, _, some (.int y), _] => y.toNat | _ => 0) ⟨_, _, none, rfl, rfl, by split <;> omega, by split <;> omega, gcd_abs a b⟩ ?_ ?_
  · rintro σ H' ⟨x, y, r, rfl, rfl, hx, hy, hg⟩
    refine ⟨_, rfl, _, rfl, ?_⟩
    by_cases h0 : y = 0
    · subst h0
      refine iteF ?_
      have e : x = ((Int.gcd a b : Nat) : Int) := by
        rw [← hg, Int.gcd_zero_right]
        omega
      refine ⟨_, rfl, ?_⟩
      rw [e]
      exact q
    · have hb : (y != 0) = true := by simpa using h0
      refine iteBT hb ?_
      have hp : 0 < y := by omega
      have h1 := Int.emod_nonneg x h0
      have h2 := Int.emod_lt_of_pos x hp
      refine ⟨_, rfl, _, rfl, _, _, rfl, rfl, hp, _, rfl, _, rfl, ⟨y, x % y, _, rfl, rfl, hy, h1, ?_⟩, ?_⟩
      · rw [My.gcd_step, hg]
      · show (x % y).toNat < y.toNat
        omega
  · rintro σ H' Q1 Q2 hi ⟨v, e, k, tr, q'⟩
    exact ⟨v, e, k, tr, hi _ _ q'⟩
theorem ok_number (T : Txt K mg t) : FnOk P w K mg base (CXe P w) 2 t.f_number t.d_number ["top", "bottom"] (sp_number K) := by
  have G_is_whole := ok_is_whole (P := P) (w := w) (base := base) T
  have G_divisor_of := ok_divisor_of (P := P) (w := w) (base := base) T
  refine T.F_number.okE sc_number (fun vs H Q E h => ?_) (fun cdv A outer s H vs Q E hr h => ?_)
  · obtain ⟨a, b, n, rfl, _⟩ := h
    rfl
  obtain ⟨tp, m, n, rfl, bt, bm, hn, h0, hQ⟩ := h
  refine ⟨_, (pss_cons (ps_if (PW.pt (pw_or (pt_not (pt_val (pe_call G_is_whole (hr.mono (by decide)) rfl T.m_is_whole T.k_is_whole T.b_is_whole .nil pass0 (pa_cons (pv 0) pa_nil)))) (pw_or1 (pt_not (pt_val (pe_call G_is_whole (hr.mono (by decide)) rfl T.m_is_whole T.k_is_whole T.b_is_whole .nil pass0 (pa_cons (pv 1) pa_nil))))))) (pss_one (ps_raise rfl T.x_NoNumber T.n_NoNumber T.m_NoNumber rfl raisesE (pa_cons pe_str pa_nil))) pss_nil)
  (pss_cons (ps_if (pt_cmpR op_eq (pv 1) pe_int (nomark _)) (pss_one (ps_raise rfl T.x_NoNumber T.n_NoNumber T.m_NoNumber rfl raisesE (pa_cons pe_str pa_nil))) pss_nil)
  (pss_cons (ps_set (i := 2) sc_number.nd rfl (Or.inl rfl) (pe_call G_divisor_of (hr.mono (by decide)) rfl T.m_divisor_of T.k_divisor_of T.b_divisor_of .nil pass0 (pa_cons (pv 0) (pa_cons (pv 1) pa_nil))))
  (pss_cons (ps_if (pt_cmpR op_lt (pv 1) pe_int (nomark _)) (pss_one (ps_set (i := 2) sc_number.nd rfl (Or.inl rfl) (pe_un un_neg (pv 2)))) pss_nil)
  (pss_one (ps_ret (pe_tup (pa_cons (pe_op op_fdivNB (pv 0) (pv 2)) (pa_cons (pe_op op_fdivNB (pv 1) (pv 2)) pa_nil))))))))), ?_⟩
  refine ⟨_, rfl, _, .int, rfl, True.intro, _, rfl, ?_⟩
  refine iteF ?_
  refine ⟨_, rfl, _, .int, rfl, True.intro, _, rfl, ?_⟩
  refine iteF ?_
  refine ⟨_, rfl, rfl, _, rfl, ?_⟩
  refine iteDF (fun z => h0 (V.int.inj z)) ?_
  have M := My.made_of (t := tp) h0
  refine ⟨_, rfl, _, rfl, _, _, rfl, ?_⟩
  refine ⟨_, rfl, _, _, rfl, rfl, _, rfl, ?_⟩
  have hg : 0 < Int.gcd tp m := Int.gcd_pos_of_ne_zero_right tp h0
  have hm : Mid ((Int.gcd tp m : Nat) : Int) := (My.Bd.of_natAbs (x := ((Int.gcd tp m : Nat) : Int)) (y := m) (by
    rw [Int.natAbs_natCast]
    exact Nat.le_of_dvd (by omega) (Nat.gcd_dvd_right tp.natAbs m.natAbs)) bm).mono (by omega)
  by_cases hneg : m < 0
  · refine iteDT hneg ?_
    have e : My.sg tp m = -((Int.gcd tp m : Nat) : Int) := if_pos hneg
    refine ⟨_, rfl, _, rfl, ?_⟩
    refine ⟨_, rfl, _, rfl, _, _, rfl, rfl, ⟨by omega, hm.neg⟩, _, rfl, _, rfl, _, _, rfl, rfl, ⟨by omega, hm.neg⟩, (by show 2 ≤ sizeLine; decide), fun p hp => ?_⟩
    exact hQ p _ _ _ (Same.new hp _) ⟨SqT.of (by rw [e]; exact upd_same), M.pos, My.Bd.of_natAbs M.ba bt, My.Bd.of_natAbs M.bb bm⟩ M.low (My.qv_eq (Int.ne_of_gt M.pos) h0 M.same)
  · refine iteDF hneg ?_
    have e : My.sg tp m = ((Int.gcd tp m : Nat) : Int) := if_neg hneg
    refine ⟨_, rfl, _, rfl, _, _, rfl, rfl, ⟨by omega, hm⟩, _, rfl, _, rfl, _, _, rfl, rfl, ⟨by omega, hm⟩, (by show 2 ≤ sizeLine; decide), fun p hp => ?_⟩
    exact hQ p _ _ _ (Same.new hp _) ⟨SqT.of (by rw [e]; exact upd_same), M.pos, My.Bd.of_natAbs M.ba bt, My.Bd.of_natAbs M.bb bm⟩ M.low (My.qv_eq (Int.ne_of_gt M.pos) h0 M.same)
theorem prod_ne {b d : Int} (hb : 0 < b) (hd : 0 < d) : b * d ≠ 0 := Int.ne_of_gt (Int.mul_pos hb hd)
theorem ok_plus (T : Txt K mg t) : FnOk P w K mg base CX0 3 t.f_plus t.d_plus ["one", "other"] (sp_two K (fun x y => x + y) (fun _ => True)) := by
  have G_number := ok_number (P := P) (w := w) (base := base) T
  refine T.F_plus.ok sc_plus (fun vs H Q E h => ?_) (fun cdv A outer s H vs Q E hr h => ?_)
  · obtain ⟨p, r, a, b, c, d, n1, n2, rfl, _⟩ := h
    rfl
  obtain ⟨p, r, a, b, c, d, n1, n2, rfl, h1, h2, hn, hok, q⟩ := h
  have m1 : Mid a := h1.ba.mono (by omega)
  have m2 : Mid b := h1.bb.mono (by omega)
  have m3 : Mid c := h2.ba.mono (by omega)
  have m4 : Mid d := h2.bb.mono (by omega)
  refine ⟨_, (pss_one (ps_ret (pe_call G_number (hr.mono (by decide)) rfl T.m_number T.k_number T.b_number .nil passE0 (pa_cons (pe_op op_add (pe_op op_mulB (pe_ix ix_tup (pv 0) pe_int (fun _ _ => rfl)) (pe_ix ix_tup (pv 1) pe_int (fun _ _ => rfl))) (pe_op op_mulB (pe_ix ix_tup (pv 1) pe_int (fun _ _ => rfl)) (pe_ix ix_tup (pv 0) pe_int (fun _ _ => rfl)))) (pa_cons (pe_op op_mulB (pe_ix ix_tup (pv 0) pe_int (fun _ _ => rfl)) (pe_ix ix_tup (pv 1) pe_int (fun _ _ => rfl))) pa_nil))))), ?_⟩
  exact ⟨_, rfl, _, _, _, _, rfl, rfl, h1.s, at0 _ _, _, rfl, _, _, _, _, rfl, rfl, h2.s, at1 _ _, _, _, rfl, rfl, ⟨m1, m4⟩, _, rfl, _, _, _, _, rfl, rfl, h2.s, at0 _ _, _, rfl, _, _, _, _, rfl, rfl, h1.s, at1 _ _, _, _, rfl, rfl, ⟨m3, m2⟩, _, _, rfl, rfl, _, rfl, _, _, _, _, rfl, rfl, h1.s, at1 _ _, _, rfl, _, _, _, _, rfl, rfl, h2.s, at1 _ _, _, _, rfl, rfl, ⟨m2, m4⟩, _, _, n1 + n2 + 1, rfl, ((h1.ba.mul h2.bb).add ((h2.ba.mul h1.bb).mono (by omega))).mono (by omega), (h1.bb.mul h2.bb).mono (by omega), hn, prod_ne h1.pos h2.pos, fun p' H' x y s' P g e => q p' H' x y s' P g (e.trans (My.qv_plus h1.ne h2.ne))⟩
theorem ok_under (T : Txt K mg t) : FnOk P w K mg base CX0 1 t.f_under t.d_under ["one", "other"] (sp_cmp K fun a b c d => .bl (decide (a * d < c * b))) := by
  refine T.F_under.ok sc_under (fun vs H Q E h => ?_) (fun cdv A outer s H vs Q E hr h => ?_)
  · obtain ⟨p, r, a, b, c, d, n1, n2, rfl, _⟩ := h
    rfl
  obtain ⟨p, r, a, b, c, d, n1, n2, rfl, h1, h2, hn, q⟩ := h
  have m1 : Mid a := h1.ba.mono (by omega)
  have m2 : Mid b := h1.bb.mono (by omega)
  have m3 : Mid c := h2.ba.mono (by omega)
  have m4 : Mid d := h2.bb.mono (by omega)
  refine ⟨_, (pss_one (ps_ret (pe_cmpR op_lt (pe_op op_mulB (pe_ix ix_tup (pv 0) pe_int (fun _ _ => rfl)) (pe_ix ix_tup (pv 1) pe_int (fun _ _ => rfl))) (pe_op op_mulB (pe_ix ix_tup (pv 1) pe_int (fun _ _ => rfl)) (pe_ix ix_tup (pv 0) pe_int (fun _ _ => rfl))) (nomark _)))), ?_⟩
  exact ⟨_, rfl, _, _, _, _, rfl, rfl, h1.s, at0 _ _, _, rfl, _, _, _, _, rfl, rfl, h2.s, at1 _ _, _, _, rfl, rfl, ⟨m1, m4⟩, _, rfl, _, _, _, _, rfl, rfl, h2.s, at0 _ _, _, rfl, _, _, _, _, rfl, rfl, h1.s, at1 _ _, _, _, rfl, rfl, ⟨m3, m2⟩, _, _, rfl, rfl, q⟩
end
theorem Pr.kp {K : PySem.W.Frag} {H H' : Hp} {p : Addr} {a b : Int} {n : Nat} (e : Same H H') (h : Pr K H p a b n) : Pr K H' p a b n := h.keep e
section
variable {K : PySem.W.Frag} {H : Hp} {Q : VK} {E : XK} {p r : Addr} {a b c d t m : Int} {n1 n2 : Nat} {f : Rat → Rat → Rat} {ok : Int → Prop} {F : Int → Int → Int → Int → V}
theorem a_number (h1 : My.Bd n1 t) (h2 : My.Bd n2 m) (h3 : max n1 n2 ≤ 3900) (h4 : m ≠ 0) (q : ∀ p H' x y, Same H H' → Pr K H' p x y (max n1 n2) → Int.gcd x y = 1 → My.qv x y = My.qv t m → Q (.ref p) H') : sp_number K [.int t, .int m] H Q E :=
  ⟨t, m, max n1 n2, rfl, h1.mono (by omega), h2.mono (by omega), h3, h4, q⟩
theorem a_numberD (h1 : My.Bd n1 t) (h2 : My.Bd n2 m) (h3 : max n1 n2 ≤ 3900) (h4 : m ≠ 0) (q : ∀ p H' x y, Same H H' → Pr K H' p x y (max n1 n2) → Int.gcd x y = 1 → My.qv x y = My.qv t m → Q (.ref p) H') : sp_number K ([.int t] ++ [.int m]) H Q E := a_number h1 h2 h3 h4 q
theorem a_two (h1 : Pr K H p a b n1) (h2 : Pr K H r c d n2) (h3 : n1 + n2 + 1 ≤ 3900) (h4 : ok c) (q : ∀ p' H' x y, Same H H' → Pr K H' p' x y (n1 + n2 + 1) → Int.gcd x y = 1 → My.qv x y = f (My.qv a b) (My.qv c d) → Q (.ref p') H') : sp_two K f ok [.ref p, .ref r] H Q E :=
  ⟨p, r, a, b, c, d, n1, n2, rfl, h1, h2, h3, h4, q⟩
theorem a_cmp (h1 : Pr K H p a b n1) (h2 : Pr K H r c d n2) (h3 : n1 + n2 ≤ 3900) (q : Q (F a b c d) H) : sp_cmp K F [.ref p, .ref r] H Q E := ⟨p, r, a, b, c, d, n1, n2, rfl, h1, h2, h3, q⟩
end
theorem a_cell {K : PySem.W.Frag} {H : Hp} {Q : VK} {E : XK} {a : Addr} {ns : List Int} {k : Int} (hs : SqL K H a (ns.map V.int)) (h0 : 0 ≤ k) (q : Q (.int (cellAt ns k)) H) : sp_cell K [.ref a, .int k] H Q E := ⟨a, ns, k, rfl, hs, h0, q⟩
local macro_rules | `(tactic| walk_at "get") => `(tactic| repeat (first | exact GetTo.here | apply GetTo.next))
local macro_rules | `(tactic| walk_at "set") => `(tactic| repeat (first | exact SetTo.here | apply SetTo.next))
local macro_rules | `(tactic| walk_at "tp") => `(tactic| first | assumption | exact SqT.of (by assumption) | ((apply Same.tup); (focus assumption); (walk_at "tp")) | ((apply But.tup); (focus assumption); (focus assumption); (walk_at "tp")))
local macro_rules | `(tactic| walk_at "lq") => `(tactic| first | assumption | exact SqL.of (by assumption) | ((apply Same.seq); (focus assumption); (walk_at "lq")) | ((apply But.seq); (focus assumption); (focus assumption); (walk_at "lq")))
local macro_rules | `(tactic| walk_at "hl") => `(tactic| first | assumption | exact (show Same _ _ by assumption) _ _ (by walk_at "hl") | exact (show But _ _ _ by assumption) _ _ (by assumption) (by walk_at "hl"))
local macro_rules | `(tactic| walk_at "sm") => `(tactic| first | assumption | exact Same.refl _ | ((apply sm2); (focus assumption); (walk_at "sm")))
local macro_rules | `(tactic| walk_at "isi") => `(tactic| ((with_reducible refine z_isi0 ?_); first | (with_reducible refine z_isI_int ?_) | (with_reducible refine z_isB_int ?_) | (with_reducible refine z_isS_int ?_) | (with_reducible refine z_isN_int ?_) | (with_reducible refine z_isI_bool ?_) | (with_reducible refine z_isB_bool ?_) | (with_reducible refine z_isS_bool ?_) | (with_reducible refine z_isN_bool ?_) | (with_reducible refine z_isI_str ?_) | (with_reducible refine z_isB_str ?_) | (with_reducible refine z_isS_str ?_) | (with_reducible refine z_isN_str ?_) | (with_reducible refine z_isI_tuple ?_) | (with_reducible refine z_isB_tuple ?_) | (with_reducible refine z_isS_tuple ?_) | (with_reducible refine z_isN_tuple ?_) | (with_reducible refine z_isI_list ?_) | (with_reducible refine z_isB_list ?_) | (with_reducible refine z_isS_list ?_) | (with_reducible refine z_isN_list ?_) | ((with_reducible apply z_isT_int); (focus (walk_at "tp"))) | ((with_reducible apply z_isL_int); (focus (walk_at "lq"))) | ((with_reducible apply z_isT_bool); (focus (walk_at "tp"))) | ((with_reducible apply z_isL_bool); (focus (walk_at "lq"))) | ((with_reducible apply z_isT_str); (focus (walk_at "tp"))) | ((with_reducible apply z_isL_str); (focus (walk_at "lq"))) | ((with_reducible apply z_isT_tuple); (focus (walk_at "tp"))) | ((with_reducible apply z_isL_tuple); (focus (walk_at "lq"))) | ((with_reducible apply z_isT_list); (focus (walk_at "tp"))) | ((with_reducible apply z_isL_list); (focus (walk_at "lq")))))
local macro_rules | `(tactic| walk_at "non") => `(tactic| with_reducible (first | refine z_nonR ?_ | refine z_notR ?_ | refine z_nonN ?_ | refine z_notN ?_ | refine z_nonI ?_ | refine z_notI ?_ | refine z_nonS ?_ | refine z_notS ?_))
local macro_rules | `(tactic| walk_at "z1") => `(tactic| (first | ((with_reducible apply z_var); (focus (walk_at "get"))) | with_reducible (first | refine z_c ?_ | refine z_op ?_ | refine z_I0 ?_ | refine z_asg ?_ | refine z_seq ?_ | refine z_EqI ?_ | refine z_NeI ?_ | refine z_EqS ?_ | refine z_NeS ?_ | refine z_test ?_ | refine z_tB ?_ | refine z_ebl ?_ | refine z_ifs ?_ | refine z_ret ?_ | refine z_cons ?_ | refine z_nil ?_ | refine z_call0 ?_ | refine z_callD ?_ | refine z_un ?_ | refine z_U ?_ | refine z_and ?_ | refine z_or ?_ | refine z_not ?_ | refine z_andV ?_ | refine z_orV ?_ | refine z_notV ?_ | refine z_if ?_ | refine z_chain ?_ | refine z_next ?_ | refine z_drop ?_ | refine z_par ?_ | refine z_cb ?_ | refine z_e1 ?_ | refine z_e2 ?_ | refine z_tup ?_ | refine iteT ?_ | refine iteF ?_ | refine z_iteNb ?_ | refine z_eint ?_ | refine z_gcons ?_ | refine z_gnil ?_ | refine z_sl ?_ | refine z_noP ?_ | refine z_part ?_ | refine z_lst ?_ | refine z_bm ?_ | refine z_for ?_ | refine z_iL ?_ | refine z_iT ?_ | refine z_iR1 ?_ | refine z_iR2 ?_ | refine z_iR3 ?_ | refine z_toI ?_ | refine z_toB ?_ | refine z_whN ?_) | ((with_reducible apply z_name); (focus (walk_at "set"))) | ((with_reducible apply z_par2); (focus (walk_at "set")); (focus (walk_at "set"))) | ((with_reducible apply z_mkt); (focus (exact Nat.le_of_ble_eq_true rfl)); (intro p H' n s e))))
local macro_rules | `(tactic| walk_at "z2") => `(tactic| first | ((with_reducible apply z_I); (focus (walk_at "cd"))) | ((with_reducible apply z_ixT); (focus (walk_at "tp")); (focus rfl)) | walk_at "isi" | walk_at "non" | ((with_reducible apply z_len); (focus (first | exact .inl (by walk_at "lq") | exact .inr (by walk_at "tp")))) | ((with_reducible apply z_gtup); (focus (walk_at "tp")); (focus rfl)) | ((with_reducible apply z_iL2); (focus (walk_at "lq"))) | ((with_reducible apply z_iT2); (focus (walk_at "tp"))) | ((with_reducible apply z_r1c); (focus (first | decide | omega)); (focus (first | decide | omega))) | ((with_reducible apply z_r2c); (focus (first | decide | omega)); (focus (first | decide | omega)); (focus (first | decide | omega)); (focus (first | decide | omega))))
local macro_rules | `(tactic| walk_at "bd") => `(tactic| first | assumption | exact Pr.ba (by assumption) | exact Pr.bb (by assumption) | exact (show My.Bd 64 _ by unfold My.Bd; decide) | ((with_reducible apply bd_mul) <;> (walk_at "bd")) | ((with_reducible apply bd_add) <;> (walk_at "bd")) | ((with_reducible apply bd_sub) <;> (walk_at "bd")) | ((with_reducible apply My.Bd.neg); (walk_at "bd")) | ((with_reducible apply My.Bd.mod); (focus (first | decide | omega | assumption)); (walk_at "bd")) | ((with_reducible apply My.Bd.div); (focus (first | decide | omega | assumption)); (walk_at "bd")) | exact bd_60 (by omega) (by omega) | exact (show My.Bd 256 _ by unfold My.Bd; decide))
local macro_rules | `(tactic| walk_at "mid") => `(tactic| first | assumption | ((apply My.Bd.mono); (focus (walk_at "bd")); (first | decide | omega)))
local macro_rules | `(tactic| walk_at "cd") => `(tactic| first | assumption | exact True.intro | decide | omega | exact ⟨by first | decide | omega, by first | decide | omega⟩ | exact ⟨by decide, by decide, by decide⟩ | exact .inl ⟨by first | decide | omega, by first | decide | omega⟩ | exact .inr ⟨by first | decide | omega, by first | decide | omega⟩ | exact ⟨by walk_at "mid", by walk_at "mid"⟩ | exact ⟨by first | decide | omega | assumption, by walk_at "mid"⟩)
local macro_rules | `(tactic| walk_at "pr") => `(tactic| first | assumption | ((apply Pr.kp); (focus assumption); (walk_at "pr")))
local macro_rules | `(tactic| walk_at "sp") => `(tactic| ((with_reducible apply a_number); (focus (walk_at "bd")); (focus (walk_at "bd")); (focus (first | decide | omega)); (focus (first | decide | omega)); (intro p H' x y s R g e)))
local macro_rules | `(tactic| walk_at "sp") => `(tactic| ((with_reducible apply a_numberD); (focus (walk_at "bd")); (focus (walk_at "bd")); (focus (first | decide | omega)); (focus (first | decide | omega)); (intro p H' x y s R g e)))
local macro_rules | `(tactic| walk_at "sp") => `(tactic| ((with_reducible apply a_two); (focus (walk_at "pr")); (focus (walk_at "pr")); (focus (first | decide | omega)); (focus (first | exact True.intro | assumption)); (intro p H' x y s R g e)))
local macro_rules | `(tactic| walk_at "sp") => `(tactic| ((with_reducible apply a_cmp); (focus (walk_at "pr")); (focus (walk_at "pr")); (focus (first | decide | omega))))
local macro_rules | `(tactic| walk_at "ji") => `(tactic| ((with_reducible apply z_joinI); (focus ((intro S q); (walk_at "run"); (exact q))); (focus ((intro hb S q); (walk_at "run"); (exact q))); (focus (walk_at "get")); (focus (walk_at "set"))))
local macro_rules | `(tactic| walk_at "run") => `(tactic| repeat (first | walk_at "ji" | walk_at "z1" | walk_at "z2" | walk_at "sp"))
local macro_rules | `(tactic| walk_at "bd6") => `(tactic| first | assumption | exact bd_60 (by omega) (by omega))
local macro_rules | `(tactic| walk_at "sp") => `(tactic| ((with_reducible apply a_cell); (focus (walk_at "lq")); (focus (first | decide | omega))))
section
variable {P : Program} {w : World} {K : PySem.W.Frag} {mg : Str → Option Value} {base : Heap} {t : Adr}
theorem atI_first {α : Type} {xs : List α} {x : α} (h : xs[0]? = some x) : atI xs 0 = some x := atI_nat (j := 0) h
theorem map_at {α β : Type} {g : α → β} {xs : List α} {j : Nat} {x : α} (h : xs[j]? = some x) : (xs.map g)[j]? = some (g x) := by rw [List.getElem?_map, h]; rfl
theorem of_map_at {α β : Type} {g : α → β} {xs : List α} {j : Nat} {v : β} (h : (xs.map g)[j]? = some v) : ∃ x, xs[j]? = some x ∧ v = g x := by
  rw [List.getElem?_map] at h
  cases q : xs[j]? with
  | none => rw [q] at h; cases h
  | some x => rw [q] at h; exact ⟨x, rfl, (Option.some.inj h).symm⟩
theorem alike_num {K : PySem.W.Frag} {H : Hp} {n : Nat} {p p' : Addr} {a b a' b' : Int} {m m' : Nat} (h : Pr K H p a b m) (h' : Pr K H p' a' b' m') (g : Int.gcd a b = 1) (g' : Int.gcd a' b' = 1) (e : My.qv a b = My.qv a' b') : Alike K H (n + 1) (.ref p) (.ref p') := by
  obtain ⟨q1, q2⟩ := My.low_unique h.pos h'.pos g g' (My.eq_of_qv h.ne h'.ne e)
  subst q1 q2
  refine .tup h.s h'.s rfl (fun j x y hx hy => ?_)
  rw [hx] at hy
  cases hy
  match j, hx with
  | 0, hx => cases hx; exact .int
  | 1, hx => cases hx; exact .int
  | _ + 2, hx => cases hx
/-! k04: numbers written -/
local macro_rules | `(tactic| walk_at "sp") => `(tactic| with_reducible (first | refine z_fv ?_ | refine z_fsn ?_ | refine z_fsc ?_ | refine z_iS ?_ | refine z_iS2 ?_ | refine z_inS ?_ | refine z_tyS ?_ | refine z_starts ?_ | refine z_lcn ?_))
theorem le_size {n : Nat} (h : n ≤ 1000) : n ≤ sizeLine := Nat.le_trans h (by decide)
def sp_digits : Sp := fun vs H Q _ => ∃ z : Str, vs = [.str z] ∧ z.length ≤ 900 ∧ ∀ H', Same H H' → Q (.bl (My.digB (My.cs z))) H'
/-! days, from K06 and K07 -/
def sp_leap : Sp := fun vs H Q _ => ∃ y : Int, vs = [.int y] ∧ Q (.bl (My.leap y)) H
def sp_ml : Sp := fun vs H Q _ => ∃ y m : Int, vs = [.int y, .int m] ∧ 1 ≤ m ∧ m ≤ 12 ∧ Q (.int (My.mlen y m)) H
def sp_long : Sp := fun vs H Q _ => ∃ y m : Int, vs = [.int y, .int m] ∧ 1 ≤ m ∧ m ≤ 12 ∧ ∀ H', Same H H' → Q (.int (My.mlen y m)) H'
def sp_yb : Sp := fun vs H Q _ => ∃ y : Int, vs = [.int y] ∧ Q (.int (My.ybeg y)) H
def sp_count : Sp := fun vs H Q _ => ∃ y m e : Int, vs = [.int y, .int m, .int e] ∧ 1 ≤ m ∧ m ≤ 12 ∧ ∀ H', Same H H' → Q (.int (My.dayOf y m e)) H'
def sp_mixed : Sp := fun vs H Q _ => ∃ c : Int, vs = [.int c] ∧ ∀ r : Int, Q (.int r) H
def valid3 (vs : List V) : Prop := ∃ y m e : Int, vs = [.int y, .int m, .int e] ∧ My.Valid y m e
def sp_dayof6 (K : PySem.W.Frag) (C : Addr) : Sp := fun vs H Q E => ∃ x y z gx gy gz, vs = [x, y, z] ∧ tgIs K H x gx ∧ tgIs K H y gy ∧ tgIs K H z gz ∧ (¬ valid3 [x, y, z] → E (.ref C) none H) ∧
  (∀ a m e : Int, x = .int a → y = .int m → z = .int e → My.Valid a m e → ∀ H', Same H H' → Q (.int (My.dayOf a m e)) H')
theorem tg_same {K : PySem.W.Frag} {H H' : Hp} {x : V} {g : Tg} (s : Same H H') (h : tgIs K H x g) : tgIs K H' x g := by
  cases x <;> cases g <;> first | exact h | (obtain ⟨xs, z⟩ := h; first | exact ⟨xs, s.tup z⟩ | exact ⟨xs, s.seq z⟩ | exact ⟨xs, s _ _ z⟩)
def listIn : List Stmt → List Expr
  | [_, .Return (some (.Subscript (.List es _) _ _)) _] => es
  | _ => []
def putList (es : List Expr) : List Stmt → List Stmt
  | [a, .Return (some (.Subscript (.List _ p) i q)) r] => [a, .Return (some (.Subscript (.List es p) i q)) r]
  | b => b
def sp_yo : Sp := fun vs H Q _ => ∃ d : Int, vs = [.int d] ∧ Q (.int (My.yearOf d)) H
def sp_parts : Sp := fun vs H Q _ => ∃ d : Int, vs = [.int d] ∧ 0 ≤ d ∧ d ≤ 3652058 ∧ ∀ (p : Addr) (H' : Hp) (y m e : Int), Same H H' → H' p = some (.tup [.int y, .int m, .int e]) → My.Valid y m e → My.dayOf y m e = d → Q (.ref p) H'
/-! k08: days written -/
theorem a_parts {H : Hp} {Q : VK} {E : XK} {d : Int} (h0 : 0 ≤ d) (h1 : d ≤ 3652058) (q : ∀ (p : Addr) (H' : Hp) (y m e : Int), Same H H' → H' p = some (.tup [.int y, .int m, .int e]) → My.Valid y m e → My.dayOf y m e = d → Q (.ref p) H') : sp_parts [.int d] H Q E := ⟨d, rfl, h0, h1, q⟩
local macro_rules | `(tactic| walk_at "sp") => `(tactic| ((with_reducible apply a_parts); (focus (first | assumption | omega)); (focus (first | assumption | omega)); (intro p H' y m e s hp vd ed)))
def sp_monthof : Sp := fun vs H Q _ => ∃ y m e : Int, vs = [.int (My.dayOf y m e)] ∧ My.Valid y m e ∧ 0 ≤ My.dayOf y m e ∧ My.dayOf y m e ≤ 3652058 ∧ (∀ y' m' e', My.Valid y' m' e' → My.dayOf y' m' e' = My.dayOf y m e → y' = y ∧ m' = m) ∧ ∀ H', Same H H' → Q (.int (12 * y + m - 1)) H'
def sp_monthbegin : Sp := fun vs H Q _ => ∃ y m : Int, vs = [.int (12 * y + m - 1)] ∧ 1 ≤ m ∧ m ≤ 12 ∧ 1 ≤ y ∧ y ≤ 9999 ∧ ∀ H', Same H H' → Q (.int (My.dayOf y m 1)) H'
def sp_isday (K : PySem.W.Frag) : Sp := fun vs H Q _ => ∃ x g, vs = [x] ∧ tgIs K H x g ∧ (∀ d : Int, x = .int d → Q (.bl (decide (0 ≤ d) && decide (d ≤ 3652058))) H) ∧ ((∀ d : Int, x ≠ .int d) → Q (.bl false) H)
def sp_told (K : PySem.W.Frag) : Sp := fun vs H Q _ => ∃ x g, vs = [x] ∧ tgIs K H x g ∧ (∀ y m e : Int, My.Valid y m e → x = .int (My.dayOf y m e) → 0 ≤ My.dayOf y m e → My.dayOf y m e ≤ 3652058 → ∀ H', Same H H' → Q (.bl (decide (1000 ≤ y) && decide (y ≤ 8999))) H') ∧ ((∀ d : Int, x = .int d → ¬ (0 ≤ d ∧ d ≤ 3652058)) → ∀ H', Same H H' → Q (.bl false) H')
def sp_showday : Sp := fun vs H Q _ => ∃ d : Int, vs = [.int d] ∧ 0 ≤ d ∧ d ≤ 3652058 ∧ ∀ (z : Str) (H' : Hp) (y m e : Int), Same H H' → My.Valid y m e → My.dayOf y m e = d → My.cs z = My.dtx y.toNat m.toNat e.toNat → Q (.str z) H'
/-! k09: words and cells -/
local macro_rules | `(tactic| walk_at "sp") => `(tactic| with_reducible (first | refine z_ints ?_ | refine z_notB ?_ | refine z_NeB ?_ | refine z_isB ?_ | refine z_EqB ?_ | refine z_iE ?_))
local macro_rules | `(tactic| walk_at "sp") => `(tactic| ((with_reducible apply z_iE2); (focus (walk_at "lq"))))
local macro_rules | `(tactic| walk_at "sp") => `(tactic| ((with_reducible apply z_slS); (focus (exact le_size (by omega)))))
local macro_rules | `(tactic| walk_at "z1I") => `(tactic| ((fail_if_success (with_reducible apply z_ifs)); (walk_at "z1")))
local macro_rules | `(tactic| walk_at "runI") => `(tactic| repeat (first | walk_at "ji" | walk_at "z1I" | walk_at "z2" | walk_at "sp"))
local macro_rules | `(tactic| walk_at "z1F") => `(tactic| ((fail_if_success (with_reducible apply z_ifs)); (fail_if_success (with_reducible apply z_for)); (walk_at "z1")))
local macro_rules | `(tactic| walk_at "runF") => `(tactic| repeat (first | walk_at "ji" | walk_at "z1F" | walk_at "z2" | walk_at "sp"))
inductive Pa where
  | int (i : Int) | oth
inductive Pv where
  | non | int (i : Int) | str (z : Str) | tup (l : List Pa) | oth
def RpA (K : PySem.W.Frag) (H : Hp) : V → Pa → Prop
  | v, .int i => v = .int i
  | v, .oth => ∃ g, tgIs K H v g ∧ g ≠ .int
def RpL (K : PySem.W.Frag) (H : Hp) : List V → List Pa → Prop
  | [], [] => True
  | v :: vs, a :: as => RpA K H v a ∧ RpL K H vs as
  | _, _ => False
/-- a thing's form -/
def Rp (K : PySem.W.Frag) (H : Hp) : V → Pv → Prop
  | v, .non => v = .non
  | v, .int i => v = .int i
  | v, .str z => v = .str z ∧ z.length ≤ 900
  | v, .tup l => ∃ p vs, v = .ref p ∧ SqT K H p vs ∧ RpL K H vs l
  | v, .oth => ∃ g, tgIs K H v g ∧ (g = .bl ∨ g = .lst ∨ g = .dic)
theorem RpA.same {K : PySem.W.Frag} {H H' : Hp} {v : V} {a : Pa} (s : Same H H') (h : RpA K H v a) : RpA K H' v a := by
  cases a with
  | int i => exact h
  | oth => obtain ⟨g, hg, ne⟩ := h; exact ⟨g, tg_same s hg, ne⟩
theorem RpL.same {K : PySem.W.Frag} {H H' : Hp} (s : Same H H') : ∀ {vs : List V} {l : List Pa}, RpL K H vs l → RpL K H' vs l
  | [], [], _ => True.intro
  | _ :: _, _ :: _, h => ⟨h.1.same s, RpL.same s h.2⟩
theorem RpL.len {K : PySem.W.Frag} {H : Hp} : ∀ {vs : List V} {l : List Pa}, RpL K H vs l → vs.length = l.length
  | [], [], _ => rfl
  | _ :: _, _ :: _, h => by rw [List.length_cons, List.length_cons, RpL.len h.2]
theorem Rp.same {K : PySem.W.Frag} {H H' : Hp} {v : V} {x : Pv} (s : Same H H') (h : Rp K H v x) : Rp K H' v x := by
  cases x with
  | tup l => obtain ⟨p, vs, e, hs, r⟩ := h; exact ⟨p, vs, e, s.tup hs, r.same s⟩
  | oth => obtain ⟨g, hg, ne⟩ := h; exact ⟨g, tg_same s hg, ne⟩
  | non => exact h
  | int i => exact h
  | str z => exact h
/-- its kind -/
def Pv.isS : Pv → Bool
  | .str _ => true | _ => false
def Pv.isT : Pv → Bool
  | .tup _ => true | _ => false
def Pv.isI : Pv → Bool
  | .int _ => true | _ => false
theorem Rp.non {K : PySem.W.Frag} {H : Hp} {v : V} {x : Pv} (h : Rp K H v x) : v = .non ↔ x = .non := by
  cases x with
  | non => cases h; exact ⟨fun _ => rfl, fun _ => rfl⟩
  | int i => cases h; exact ⟨nofun, nofun⟩
  | str z => obtain ⟨rfl, _⟩ := h; exact ⟨nofun, nofun⟩
  | tup l => obtain ⟨p, vs, rfl, hs, _⟩ := h; exact ⟨nofun, nofun⟩
  | oth =>
    obtain ⟨g, hg, hh⟩ := h
    refine ⟨fun z => ?_, nofun⟩
    subst z
    rcases hh with rfl | rfl | rfl <;> exact (show False from hg).elim
def Pa.isI : Pa → Bool
  | .int _ => true | .oth => false
def isNum : Pv → Bool
  | .tup [.int a, .int b] => decide (1 ≤ b) && decide (Int.gcd a b = 1)
  | _ => false
def absI (i : Int) : Int := if i < 0 then -i else i
def toldN : Pv → Bool
  | .tup [.int a, .int b] => (decide (1 ≤ b) && decide (Int.gcd a b = 1)) && (decide (absI a < 1000000000000000000) && decide (b ≤ 60))
  | _ => false
def sp_isnum (K : PySem.W.Frag) (f : Pv → Bool) : Sp := fun vs H Q _ => ∃ v x, vs = [v] ∧ Rp K H v x ∧ Q (.bl (f x)) H
/-! words -/
def letB (c : Nat) : Bool := decide (97 ≤ c ∧ c ≤ 122)
def wordS (z : Str) : Bool := decide (1 ≤ z.length) && (decide (z.length ≤ 8) && (My.cs z).all letB)
def toldW : Pv → Bool
  | .str z => wordS z
  | _ => false
def sp_isword (K : PySem.W.Frag) : Sp := fun vs H Q _ => ∃ v x, vs = [v] ∧ Rp K H v x ∧ ∀ H', Same H H' → Q (.bl (toldW x)) H'
/-! days -/
def toldD : Pv → Bool
  | .int d => decide (364877 ≤ d) && decide (d ≤ 3286816)
  | _ => false
def sp_toldday (K : PySem.W.Frag) : Sp := fun vs H Q _ => ∃ v x, vs = [v] ∧ Rp K H v x ∧ ∀ H', Same H H' → Q (.bl (toldD x)) H'
/-! cells -/
def toldC (k : Str) (x : Pv) : Bool := match x with
  | .non => true
  | x => if k = "number" then toldN x else if k = "day" then toldD x else decide (k = "word") && toldW x
def sp_iscell (K : PySem.W.Frag) : Sp := fun vs H Q _ => ∃ k v x, vs = [.str k, v] ∧ Rp K H v x ∧ ∀ H', Same H H' → Q (.bl (toldC k x)) H'
theorem z_isNv {x : V} {H : Hp} {Q : VK} (q : Q (.bl (decide (x = .non))) H) : rIsN x .non H Q := ⟨rfl, q⟩
theorem z_notNv {x : V} {H : Hp} {Q : VK} (q : Q (.bl (!decide (x = .non))) H) : rNotN x .non H Q := ⟨rfl, q⟩
/-! the order of cells -/
def sp_before (K : PySem.W.Frag) : Sp := fun vs H Q _ => ∃ x y, vs = [x, y] ∧ ((∃ (p r : Addr) (a b c d : Int) (n1 n2 : Nat), x = .ref p ∧ y = .ref r ∧ Pr K H p a b n1 ∧ Pr K H r c d n2 ∧ n1 + n2 ≤ 3900 ∧ Q (.bl (decide (a * d < c * b))) H) ∨ (∃ i j : Int, x = .int i ∧ y = .int j ∧ Q (.bl (decide (i < j))) H) ∨ ∃ z z' : Str, x = .str z ∧ y = .str z' ∧ Q (.bl (decide (z.cps.toList < z'.cps.toList))) H)
theorem ok_comes_before (T : Txt K mg t) : FnOk P w K mg base CX0 2 t.f_comes_before t.d_comes_before ["one", "other"] (sp_before K) := by
  have G_under := ok_under (P := P) (w := w) (base := base) T
  refine T.F_comes_before.ok sc_comes_before (fun vs H Q E h => ?_) (fun cdv A outer s H vs Q E hr h => ?_)
  · obtain ⟨x, y, rfl, _⟩ := h
    rfl
  obtain ⟨x, y, rfl, h⟩ := h
  refine ⟨_, (pss_cons (ps_if (pt_val (pe_isi isi_tuple rfl rfl T.z_isinstance T.z_tuple bt_tuple (pv 0))) (pss_one (ps_ret (pe_call G_under (hr.mono (by decide)) rfl T.m_under T.k_under T.b_under .nil pass0 (pa_cons (pv 0) (pa_cons (pv 1) pa_nil))))) pss_nil)
  (pss_one (ps_ret (pe_cmpR (op_lt.or op_lt_str) (pv 0) (pv 1) (nomark _))))), z_go (σ := [some _, some _]) rfl ?_⟩
  rcases h with ⟨p, r, a, b, c, d, n1, n2, rfl, rfl, h1, h2, hn, q⟩ | ⟨i, j, rfl, rfl, q⟩ | ⟨z, z', rfl, rfl, q⟩
  · have hs := h1.s
    walk_at "run"
    exact q
  · walk_at "run"
    exact .inl ⟨i, j, rfl, rfl, q⟩
  · walk_at "run"
    exact .inr ⟨z, z', rfl, rfl, q⟩
/-! a column by its name -/
def ixOf (ws : List Str) (z : Str) : Option Nat := ws.findIdx? fun x => decide (x = z)
def Cols (K : PySem.W.Frag) (H : Hp) (xs : List V) (ws : List Str) : Prop := xs.length = ws.length ∧ ∀ (i : Nat) (v : V) (z : Str), xs[i]? = some v → ws[i]? = some z → ∃ p r, v = .ref p ∧ SqT K H p (.str z :: r)
theorem Cols.same {K : PySem.W.Frag} {H H' : Hp} {xs : List V} {ws : List Str} (s : Same H H') (h : Cols K H xs ws) : Cols K H' xs ws := ⟨h.1, fun i v z h1 h2 => by
  obtain ⟨p, r, e, hs⟩ := h.2 i v z h1 h2
  exact ⟨p, r, e, s.tup hs⟩⟩
def sp_colat (K : PySem.W.Frag) : Sp := fun vs H Q _ => ∃ (a : Addr) (z : Str) (xs : List V) (ws : List Str), vs = [.ref a, .str z] ∧ SqL K H a xs ∧ Cols K H xs ws ∧ ∀ H', Same H H' → Q (match ixOf ws z with | some i => .int (i : Nat) | none => .non) H'
theorem ixOf_some {ws : List Str} {z : Str} {i : Nat} (h : ws[i]? = some z) (hb : ∀ j x, j < i → ws[j]? = some x → x ≠ z) : ixOf ws z = some i := by
  obtain ⟨hi, e⟩ := List.getElem?_eq_some_iff.mp h
  unfold ixOf
  rw [List.findIdx?_eq_some_iff_getElem]
  refine ⟨hi, by rw [e]; simp, fun j hj => ?_⟩
  have := hb j _ hj (List.getElem?_eq_getElem (by omega))
  simpa using this
theorem ixOf_none {ws : List Str} {z : Str} (hb : ∀ j x, j < ws.length → ws[j]? = some x → x ≠ z) : ixOf ws z = none := by
  unfold ixOf
  rw [List.findIdx?_eq_none_iff]
  intro x hx
  obtain ⟨j, hj, e⟩ := List.getElem_of_mem hx
  have := hb j x hj (by rw [List.getElem?_eq_getElem hj, e])
  simpa using this
theorem at_cons0 (x : V) (r : List V) : atI (x :: r) 0 = some x := atI_first rfl
theorem ok_column_at (T : Txt K mg t) : FnOk P w K mg base CX0 1 t.f_column_at t.d_column_at ["columns", "name"] (sp_colat K) := by
  refine T.F_column_at.ok sc_column_at (fun vs H Q E h => ?_) (fun cdv A outer s H vs Q E hr h => ?_)
  · obtain ⟨a, z, xs, ws, rfl, _⟩ := h
    rfl
  obtain ⟨a, z, xs, ws, rfl, hS, hC, q⟩ := h
  refine ⟨_, (pss_cons (ps_for PassesOwn.never rfl (pi_enum rfl T.z_enumerate (pa_cons (pv 0) pa_nil)) (pg_tup rfl (pgs_cons (pg_name (i := 2) sc_column_at.nd rfl (Or.inl rfl)) (pgs_cons (pg_name (i := 3) sc_column_at.nd rfl (Or.inl rfl)) pgs_nil))) (pss_one (ps_if (pt_cmpR op_eq (pe_ix ix_tup (pv 3) pe_int (fun _ _ => rfl)) (pv 1) (nomark _)) (pss_one (ps_ret (pv 2))) pss_nil)))
  (pss_one (ps_ret pe_non))), z_go (σ := [some _, some _, none, none]) rfl ?_⟩
  walk_at "run"
  refine f_enum (K := K) (xs := xs) (fun i σ HD => (∃ u1 u2, σ = [some (.ref a), some (.str z), u1, u2]) ∧ Same H HD ∧ ∀ j x, j < i → ws[j]? = some x → x ≠ z) ⟨⟨none, none, rfl⟩, Same.refl _, fun j x hj => absurd hj (Nat.not_lt_zero _)⟩ (fun i σ HD _ ⟨_, sD, _⟩ => sD.seq hS) ?_ ?_
  · rintro i v σ HD hi ⟨⟨u1, u2, rfl⟩, sD, hb⟩ p H1 s1 hp
    have hlt : i < ws.length := by rw [← hC.1]; exact (List.getElem?_eq_some_iff.mp hi).1
    obtain ⟨x, hx⟩ : ∃ x, ws[i]? = some x := ⟨_, List.getElem?_eq_getElem hlt⟩
    obtain ⟨pc, r, rfl, hs⟩ := hC.2 i v x hi hx
    have hs1 := s1.tup (sD.tup hs)
    walk_at "run"
    refine z_ixT hs1 (at_cons0 _ _) ?_
    walk_at "run"
    refine z_iteD (fun h => ?_) (fun h => ?_)
    · subst h
      walk_at "run"
      have q := q _ (sD.trans s1)
      rw [ixOf_some hx hb] at q
      exact q
    · walk_at "run"
      refine ⟨⟨_, _, rfl⟩, sD.trans s1, fun j y hj e => ?_⟩
      rcases Nat.lt_succ_iff_lt_or_eq.mp hj with k | k
      · exact hb j y k e
      · subst k
        rw [hx] at e
        cases e
        exact h
  · rintro σ HD ⟨⟨u1, u2, rfl⟩, sD, hb⟩
    walk_at "run"
    have q := q _ sD
    rw [ixOf_none (fun j x hj e => hb j x (by rw [hC.1]; exact hj) e)] at q
    exact q
/-! the law's own: odd ones -/
theorem sln_sl {z : Str} {n : Nat} {lo hi : Option Int} (h : z.length ≤ n) : (PySem.Txt.slice z lo hi).length ≤ n := Nat.le_trans (PySem.Txt.slice_le z lo hi) h
theorem sln_app {a b : Str} {n m : Nat} (h : a.length ≤ n) (g : b.length ≤ m) : (a ++ b).length ≤ n + m := by rw [Str.length_append]; omega
theorem sln_one (c : Nat) : (⟨#[c]⟩ : Str).length ≤ 1 := Nat.le_refl _
local macro_rules | `(tactic| walk_at "sn") => `(tactic| first | (with_reducible assumption) | (with_reducible exact sln_one _) | ((with_reducible apply sln_sl); (walk_at "sn")) | ((with_reducible apply sln_app) <;> (walk_at "sn")) | (with_reducible exact Nat.le_refl _))
theorem z_addSb {a b : Str} {n m : Nat} {H : Hp} {Q : VK} (h : a.length ≤ n) (g : b.length ≤ m) (hb : n + m ≤ 1000) (k : Q (.str (a ++ b)) H) : rAddS (.str a) (.str b) H Q := z_addS (le_size (by omega)) k
theorem z_slSb {z : Str} {lo hi : Option Int} {n : Nat} {H : Hp} {Q : VK} (h : z.length ≤ n) (hb : n ≤ 1000) (k : Q (.str (PySem.Txt.slice z lo hi)) H) : rSlS (.str z) lo hi H Q := z_slS (le_size (by omega)) k
theorem z_lenS {z : Str} {n : Nat} {S : Str → Prop} (h : z.length ≤ n) (hb : n ≤ 1000) (q : S z) : ∃ z', [V.str z] = [.str z'] ∧ z'.length ≤ sizeLine ∧ S z' := ⟨z, rfl, le_size (by omega), q⟩
theorem z_dnew {σ : St} {H : Hp} {Q : VK} (q : ∀ p H', H p = none → Same H H' → H' p = some (.dK []) → Q (.ref p) H') : tDNewK σ H Q := fun p hp => q p _ hp (Same.new hp _) upd_same
theorem z_log {i : Int} {S : Prop} (h : i.natAbs.log2 < 1920) (q : S) : i.natAbs.log2 < 1920 ∧ S := ⟨h, q⟩
local macro_rules | `(tactic| walk_at "sp") => `(tactic| ((with_reducible apply z_log); (focus assumption)))
local macro_rules | `(tactic| walk_at "sp") => `(tactic| ((with_reducible apply z_addSb); (focus (walk_at "sn")); (focus (walk_at "sn")); (focus (first | decide | omega))))
local macro_rules | `(tactic| walk_at "sp") => `(tactic| ((with_reducible apply z_slSb); (focus (walk_at "sn")); (focus (first | decide | omega))))
local macro_rules | `(tactic| walk_at "sp") => `(tactic| ((with_reducible apply z_lenS); (focus (walk_at "sn")); (focus (first | decide | omega))))
local macro_rules | `(tactic| walk_at "sp") => `(tactic| ((with_reducible apply z_dnew); (intro p H' n s e)))
local macro_rules | `(tactic| walk_at "sp") => `(tactic| ((with_reducible apply z_mkl); (focus (exact Nat.le_of_ble_eq_true rfl)); (intro p H' n s e)))
local macro_rules | `(tactic| walk_at "sp") => `(tactic| ((with_reducible apply z_catn); (focus (walk_at "hl")); (focus (walk_at "hl")); (focus (exact Nat.le_of_ble_eq_true rfl)); (intro p H' n s e)))
local macro_rules | `(tactic| walk_at "sp") => `(tactic| ((with_reducible apply z_tyL); (focus (walk_at "lq"))))
theorem z_appendS {K : PySem.W.Frag} {H : Hp} {Q : VK} {l : Addr} {xs : List V} {v : V} (h : H l = some (.lst xs)) (hl : xs.length ≤ 900) (q : ∀ H', But l H H' → H' l = some (.lst (xs ++ [v])) → Q .non H') : rAppend (.ref l) [v] H Q := z_append h (Nat.lt_of_le_of_lt hl (by decide)) q
def Rx (K : PySem.W.Frag) (H : Hp) (v : V) : Prop := ∃ x, Rp K H v x
def RxA (K : PySem.W.Frag) (H : Hp) (v : V) : Prop := ∃ x, RpA K H v x
theorem rx_int {K : PySem.W.Frag} {H : Hp} {i : Int} : Rx K H (.int i) := ⟨.int i, rfl⟩
theorem rx_non {K : PySem.W.Frag} {H : Hp} : Rx K H .non := ⟨.non, rfl⟩
theorem rx_bl {K : PySem.W.Frag} {H : Hp} {b : Bool} : Rx K H (.bl b) := ⟨.oth, .bl, True.intro, .inl rfl⟩
theorem rx_str {K : PySem.W.Frag} {H : Hp} {z : Str} {n : Nat} (h : z.length ≤ n) (hb : n ≤ 900) : Rx K H (.str z) := ⟨.str z, rfl, by omega⟩
theorem rx_lst {K : PySem.W.Frag} {H : Hp} {p : Addr} {xs : List V} (h : SqL K H p xs) : Rx K H (.ref p) := ⟨.oth, .lst, ⟨xs, h⟩, .inr (.inl rfl)⟩
theorem rx_dic {K : PySem.W.Frag} {H : Hp} {p : Addr} {kvs : List (Key × V)} (h : H p = some (.dK kvs)) : Rx K H (.ref p) := ⟨.oth, .dic, ⟨kvs, h⟩, .inr (.inr rfl)⟩
theorem rpl_of {K : PySem.W.Frag} {H : Hp} : ∀ {vs : List V}, (∀ v ∈ vs, RxA K H v) → ∃ l, RpL K H vs l
  | [], _ => ⟨[], True.intro⟩
  | v :: vs, h => by
    obtain ⟨a, ha⟩ := h v List.mem_cons_self
    obtain ⟨l, hl⟩ := rpl_of (vs := vs) fun y hy => h y (List.mem_cons_of_mem _ hy)
    exact ⟨a :: l, ha, hl⟩
theorem rx_tup {K : PySem.W.Frag} {H : Hp} {p : Addr} {vs : List V} (h : SqT K H p vs) (hv : ∀ v ∈ vs, RxA K H v) : Rx K H (.ref p) := by
  obtain ⟨l, hl⟩ := rpl_of hv
  exact ⟨.tup l, p, vs, rfl, h, hl⟩
theorem ra_int {K : PySem.W.Frag} {H : Hp} {i : Int} : RxA K H (.int i) := ⟨.int i, rfl⟩
theorem ra_non {K : PySem.W.Frag} {H : Hp} : RxA K H .non := ⟨.oth, .non, True.intro, nofun⟩
theorem ra_bl {K : PySem.W.Frag} {H : Hp} {b : Bool} : RxA K H (.bl b) := ⟨.oth, .bl, True.intro, nofun⟩
theorem ra_str {K : PySem.W.Frag} {H : Hp} {z : Str} : RxA K H (.str z) := ⟨.oth, .str, True.intro, nofun⟩
theorem all_nil {P : V → Prop} : ∀ v ∈ ([] : List V), P v := fun v h => absurd h List.not_mem_nil
theorem all_cons {P : V → Prop} {x : V} {r : List V} (h : P x) (t : ∀ v ∈ r, P v) : ∀ v ∈ x :: r, P v := List.forall_mem_cons.mpr ⟨h, t⟩
local macro_rules | `(tactic| walk_at "tpr") => `(tactic| first | (with_reducible assumption) | (with_reducible exact SqT.of (by with_reducible assumption)) | ((with_reducible apply Same.tup); (focus (with_reducible assumption)); (walk_at "tpr")))
local macro_rules | `(tactic| walk_at "lqr") => `(tactic| first | (with_reducible assumption) | (with_reducible exact SqL.of (by with_reducible assumption)) | ((with_reducible apply Same.seq); (focus (with_reducible assumption)); (walk_at "lqr")))
local macro_rules | `(tactic| walk_at "ra") => `(tactic| with_reducible (first | exact ra_int | exact ra_str | exact ra_bl | exact ra_non))
local macro_rules | `(tactic| walk_at "ras") => `(tactic| first | (with_reducible exact all_nil) | ((with_reducible apply all_cons); (focus (walk_at "ra")); (walk_at "ras")))
local macro_rules | `(tactic| walk_at "rx") => `(tactic| first | (with_reducible exact rx_int) | (with_reducible exact rx_non) | (with_reducible exact rx_bl) | ((with_reducible apply rx_str); (focus (walk_at "sn")); (first | decide | omega)) | ((with_reducible apply rx_tup); (focus (walk_at "tpr")); (walk_at "ras")) | ((with_reducible apply rx_lst); (walk_at "lqr")) | ((with_reducible apply rx_dic); (walk_at "hl")))
local macro_rules | `(tactic| walk_at "rxs") => `(tactic| first | (with_reducible exact all_nil) | ((with_reducible apply all_cons); (focus (walk_at "rx")); (walk_at "rxs")))
/-! k47: scales of colour and size -/
/-- a cell: nothing, or a number -/
def Cl (K : PySem.W.Frag) (H : Hp) (v : V) : Option (Int × Int) → Prop
  | none => v = .non
  | some (x, y) => ∃ p, v = .ref p ∧ Pr K H p x y 70 ∧ Int.gcd x y = 1
theorem Cl.same {K : PySem.W.Frag} {H H' : Hp} {v : V} {c : Option (Int × Int)} (s : Same H H') (h : Cl K H v c) : Cl K H' v c := by
  cases c with
  | none => exact h
  | some c => obtain ⟨p, e, r, g⟩ := h; exact ⟨p, e, r.kp s, g⟩
theorem Cl.but {K : PySem.W.Frag} {H H' : Hp} {v : V} {c : Option (Int × Int)} {l : Addr} {ys : List V} (b : But l H H') (hl : H l = some (.lst ys)) (h : Cl K H v c) : Cl K H' v c := by
  cases c with
  | none => exact h
  | some c => obtain ⟨p, e, r, g⟩ := h; exact ⟨p, e, ⟨b.tup hl r.s, r.pos, r.ba, r.bb⟩, g⟩
def Cls (K : PySem.W.Frag) (H : Hp) (vs : List V) (cs : List (Option (Int × Int))) : Prop := vs.length = cs.length ∧ ∀ (i : Nat) (v : V) (c : Option (Int × Int)), vs[i]? = some v → cs[i]? = some c → Cl K H v c
theorem Cls.same {K : PySem.W.Frag} {H H' : Hp} {vs : List V} {cs : List (Option (Int × Int))} (s : Same H H') (h : Cls K H vs cs) : Cls K H' vs cs := ⟨h.1, fun i v c h1 h2 => (h.2 i v c h1 h2).same s⟩
def lessP (a b : Int × Int) : Bool := decide (a.1 * b.2 < b.1 * a.2)
def leastF (l : Int × Int) (c : Int × Int) : Int × Int := if lessP c l = true then c else l
def greatF (l : Int × Int) (c : Int × Int) : Int × Int := if lessP l c = true then c else l
def sp_extreme (K : PySem.W.Frag) (F : Int × Int → Int × Int → Int × Int) : Sp := fun vs H Q _ => ∃ (a : Addr) (xs : List V) (c0 : Int × Int) (cs : List (Int × Int)), vs = [.ref a] ∧ SqL K H a xs ∧ Cls K H xs ((c0 :: cs).map some) ∧ ∀ v, Cl K H v (some ((c0 :: cs).foldl F c0)) → Q v H
theorem fold_take {α β : Type} (F : β → α → β) (b : β) {xs : List α} {i : Nat} {x : α} (h : xs[i]? = some x) : (xs.take (i + 1)).foldl F b = F ((xs.take i).foldl F b) x := by
  rw [List.take_succ, h, List.foldl_append]
  rfl
theorem Cls.at {K : PySem.W.Frag} {H : Hp} {xs : List V} {cs : List (Int × Int)} (h : Cls K H xs (cs.map some)) {i : Nat} {v : V} (hv : xs[i]? = some v) : ∃ c, cs[i]? = some c ∧ Cl K H v (some c) := by
  have hl : i < cs.length := by
    have := (List.getElem?_eq_some_iff.mp hv).1
    rw [h.1, List.length_map] at this
    exact this
  exact ⟨cs[i], List.getElem?_eq_getElem hl, h.2 i v _ hv (by rw [List.getElem?_map, List.getElem?_eq_getElem hl]; rfl)⟩
theorem ok_least_of (T : Txt K mg t) : FnOk P w K mg base CX0 3 t.f_least_of t.d_least_of ["cells"] (sp_extreme K leastF) := by
  have G_comes_before := ok_comes_before (P := P) (w := w) (base := base) T
  refine T.F_least_of.ok sc_least_of (fun vs H Q E h => ?_) (fun cdv A outer s H vs Q E hr h => ?_)
  · obtain ⟨a, xs, c0, cs, rfl, _⟩ := h
    rfl
  obtain ⟨a, xs, c0, cs, rfl, hS, hC, q⟩ := h
  have hlen := hC.1
  rw [List.length_map, List.length_cons] at hlen
  obtain ⟨x0, hx0⟩ : ∃ x0, xs[0]? = some x0 := ⟨_, List.getElem?_eq_getElem (by omega)⟩
  obtain ⟨c, hc, h0⟩ := hC.at hx0
  cases hc
  refine ⟨_, (pss_cons (ps_set (i := 1) sc_least_of.nd rfl (Or.inl rfl) (pe_ix ix_list (pv 0) pe_int (fun _ _ => rfl)))
  (pss_cons (ps_for PassesOwn.never rfl (pi_list (pv 0)) (pg_name (i := 2) sc_least_of.nd rfl (Or.inl rfl)) (pss_one (ps_if (pt_val (pe_call G_comes_before (hr.mono (by decide)) rfl T.m_comes_before T.k_comes_before T.b_comes_before .nil pass0 (pa_cons (pv 2) (pa_cons (pv 1) pa_nil)))) (pss_one (ps_set (i := 1) sc_least_of.nd rfl (Or.inl rfl) (pv 2))) pss_nil)))
  (pss_one (ps_ret (pv 1))))), z_go (σ := [some _, none, none]) rfl ?_⟩
  walk_at "run"
  refine z_ixL hS (atI_first hx0) ?_
  walk_at "run"
  refine f_list (K := K) (xs := xs) (fun i σ HD => ∃ u v, σ = [some (.ref a), some v, u] ∧ HD = H ∧ Cl K H v (some (((c0 :: cs).take i).foldl leastF c0))) ⟨_, x0, rfl, rfl, h0⟩ (fun i σ HD _ ⟨_, _, _, e, _⟩ => by rw [e]; exact hS) ?_ ?_
  · rintro i v σ HD hi ⟨u, lv, rfl, rfl, hlv⟩
    obtain ⟨c, hc, hv⟩ := hC.at hi
    have hf := fold_take leastF c0 hc
    generalize ((c0 :: cs).take i).foldl leastF c0 = L at hf hlv
    obtain ⟨x, y⟩ := c
    obtain ⟨x', y'⟩ := L
    obtain ⟨p, rfl, r, g⟩ := hv
    obtain ⟨p', rfl, r', g'⟩ := hlv
    walk_at "run"
    refine ⟨_, _, rfl, .inl ⟨p, p', x, y, x', y', 70, 70, rfl, rfl, r, r', by decide, ?_⟩⟩
    walk_at "run"
    refine z_iteD (fun h => ?_) (fun h => ?_)
    · walk_at "run"
      refine ⟨_, _, rfl, rfl, ?_⟩
      rw [hf]
      unfold leastF lessP
      rw [decide_eq_true h, if_pos rfl]
      exact ⟨p, rfl, r, g⟩
    · walk_at "run"
      refine ⟨_, _, rfl, rfl, ?_⟩
      rw [hf]
      unfold leastF lessP
      rw [decide_eq_false h, if_neg Bool.false_ne_true]
      exact ⟨p', rfl, r', g'⟩
  · rintro σ HD ⟨u, lv, rfl, rfl, hlv⟩
    walk_at "run"
    rw [hlen, ← List.length_cons (a := c0), List.take_length] at hlv
    exact q _ hlv
theorem ok_greatest_of (T : Txt K mg t) : FnOk P w K mg base CX0 3 t.f_greatest_of t.d_greatest_of ["cells"] (sp_extreme K greatF) := by
  have G_comes_before := ok_comes_before (P := P) (w := w) (base := base) T
  refine T.F_greatest_of.ok sc_greatest_of (fun vs H Q E h => ?_) (fun cdv A outer s H vs Q E hr h => ?_)
  · obtain ⟨a, xs, c0, cs, rfl, _⟩ := h
    rfl
  obtain ⟨a, xs, c0, cs, rfl, hS, hC, q⟩ := h
  have hlen := hC.1
  rw [List.length_map, List.length_cons] at hlen
  obtain ⟨x0, hx0⟩ : ∃ x0, xs[0]? = some x0 := ⟨_, List.getElem?_eq_getElem (by omega)⟩
  obtain ⟨c, hc, h0⟩ := hC.at hx0
  cases hc
  refine ⟨_, (pss_cons (ps_set (i := 1) sc_greatest_of.nd rfl (Or.inl rfl) (pe_ix ix_list (pv 0) pe_int (fun _ _ => rfl)))
  (pss_cons (ps_for PassesOwn.never rfl (pi_list (pv 0)) (pg_name (i := 2) sc_greatest_of.nd rfl (Or.inl rfl)) (pss_one (ps_if (pt_val (pe_call G_comes_before (hr.mono (by decide)) rfl T.m_comes_before T.k_comes_before T.b_comes_before .nil pass0 (pa_cons (pv 1) (pa_cons (pv 2) pa_nil)))) (pss_one (ps_set (i := 1) sc_greatest_of.nd rfl (Or.inl rfl) (pv 2))) pss_nil)))
  (pss_one (ps_ret (pv 1))))), z_go (σ := [some _, none, none]) rfl ?_⟩
  walk_at "run"
  refine z_ixL hS (atI_first hx0) ?_
  walk_at "run"
  refine f_list (K := K) (xs := xs) (fun i σ HD => ∃ u v, σ = [some (.ref a), some v, u] ∧ HD = H ∧ Cl K H v (some (((c0 :: cs).take i).foldl greatF c0))) ⟨_, x0, rfl, rfl, h0⟩ (fun i σ HD _ ⟨_, _, _, e, _⟩ => by rw [e]; exact hS) ?_ ?_
  · rintro i v σ HD hi ⟨u, lv, rfl, rfl, hlv⟩
    obtain ⟨c, hc, hv⟩ := hC.at hi
    have hf := fold_take greatF c0 hc
    generalize ((c0 :: cs).take i).foldl greatF c0 = L at hf hlv
    obtain ⟨x, y⟩ := c
    obtain ⟨x', y'⟩ := L
    obtain ⟨p, rfl, r, g⟩ := hv
    obtain ⟨p', rfl, r', g'⟩ := hlv
    walk_at "run"
    refine ⟨_, _, rfl, .inl ⟨p', p, x', y', x, y, 70, 70, rfl, rfl, r', r, by decide, ?_⟩⟩
    walk_at "run"
    refine z_iteD (fun h => ?_) (fun h => ?_)
    · walk_at "run"
      refine ⟨_, _, rfl, rfl, ?_⟩
      rw [hf]
      unfold greatF lessP
      rw [decide_eq_true h, if_pos rfl]
      exact ⟨p, rfl, r, g⟩
    · walk_at "run"
      refine ⟨_, _, rfl, rfl, ?_⟩
      rw [hf]
      unfold greatF lessP
      rw [decide_eq_false h, if_neg Bool.false_ne_true]
      exact ⟨p', rfl, r', g'⟩
  · rintro σ HD ⟨u, lv, rfl, rfl, hlv⟩
    walk_at "run"
    rw [hlen, ← List.length_cons (a := c0), List.take_length] at hlv
    exact q _ hlv
/-- the ends of a scale by its cells -/
def endsOf : List (Int × Int) → (Int × Int) × (Int × Int)
  | [] => ((0, 1), (1, 1))
  | c0 :: cs => ((c0 :: cs).foldl leastF c0, if (c0 :: cs).foldl leastF c0 = (c0 :: cs).foldl greatF c0 then (((c0 :: cs).foldl leastF c0).1 + ((c0 :: cs).foldl leastF c0).2, ((c0 :: cs).foldl leastF c0).2) else (c0 :: cs).foldl greatF c0)
/-- a number anywhere -/
def Nu (K : PySem.W.Frag) (H : Hp) (v : V) (c : Int × Int) : Prop := ∃ p n, v = .ref p ∧ Pr K H p c.1 c.2 n ∧ n ≤ 400 ∧ Int.gcd c.1 c.2 = 1
theorem Nu.same {K : PySem.W.Frag} {H H' : Hp} {v : V} {c : Int × Int} (s : Same H H') (h : Nu K H v c) : Nu K H' v c := by
  obtain ⟨p, n, e, r, hn, g⟩ := h
  exact ⟨p, n, e, r.kp s, hn, g⟩
theorem Cl.nu {K : PySem.W.Frag} {H : Hp} {v : V} {c : Int × Int} (h : Cl K H v (some c)) : Nu K H v c := by
  obtain ⟨x, y⟩ := c
  obtain ⟨p, e, r, g⟩ := h
  exact ⟨p, 70, e, r, by decide, g⟩
def sp_ends (K : PySem.W.Frag) : Sp := fun vs H Q _ => ∃ (a : Addr) (xs : List V) (cs : List (Int × Int)), vs = [.ref a] ∧ SqL K H a xs ∧ Cls K H xs (cs.map some) ∧ ∀ (p : Addr) (H' : Hp) (v1 v2 : V), Same H H' → H' p = some (.tup [v1, v2]) → Nu K H' v1 (endsOf cs).1 → Nu K H' v2 (endsOf cs).2 → Q (.ref p) H'
theorem one_low {x y k : Int} (hy : 0 < y) (g : Int.gcd x y = 1) (e : My.qv x y = My.qv k 1) : x = k ∧ y = 1 := My.low_unique hy (by decide) g (Int.gcd_one_right ..) (My.eq_of_qv (by omega) (by decide) e)
theorem gcd_add {a b : Int} (h : Int.gcd a b = 1) : Int.gcd (a + b) b = 1 := by
  rw [← h]
  exact Int.gcd_add_self_left ..
theorem ok_straight_ends (T : Txt K mg t) : FnOk P w K mg base CX0 4 t.f_straight_ends t.d_straight_ends ["numbers"] (sp_ends K) := by
  have G_number := ok_number (P := P) (w := w) (base := base) T
  have G_plus := ok_plus (P := P) (w := w) (base := base) T
  have G_least_of := ok_least_of (P := P) (w := w) (base := base) T
  have G_greatest_of := ok_greatest_of (P := P) (w := w) (base := base) T
  obtain ⟨ds_number, DV_number, BD_number⟩ := T.b_number1
  refine T.F_straight_ends.ok sc_straight_ends (fun vs H Q E h => ?_) (fun cdv A outer s H vs Q E hr h => ?_)
  · obtain ⟨a, xs, cs, rfl, _⟩ := h
    rfl
  obtain ⟨a, xs, cs, rfl, hS, hC, q⟩ := h
  have hlen := hC.1
  rw [List.length_map] at hlen
  refine ⟨_, (pss_cons (ps_if (pt_cmpR (op_eqE hr.units0) (pv 0) (pe_lst pa_nil) (nomark _)) (pss_one (ps_ret (pe_tup (pa_cons (pe_call G_number (hr.mono (by decide)) rfl T.m_number T.k_number BD_number DV_number passE0 (pa_cons pe_int pa_nil)) (pa_cons (pe_call G_number (hr.mono (by decide)) rfl T.m_number T.k_number BD_number DV_number passE0 (pa_cons pe_int pa_nil)) pa_nil))))) pss_nil)
  (pss_cons (ps_set (i := 1) sc_straight_ends.nd rfl (Or.inl rfl) (pe_call G_least_of (hr.mono (by decide)) rfl T.m_least_of T.k_least_of T.b_least_of .nil pass0 (pa_cons (pv 0) pa_nil)))
  (pss_cons (ps_set (i := 2) sc_straight_ends.nd rfl (Or.inl rfl) (pe_call G_greatest_of (hr.mono (by decide)) rfl T.m_greatest_of T.k_greatest_of T.b_greatest_of .nil pass0 (pa_cons (pv 0) pa_nil)))
  (pss_one (ps_ret (pe_tup (pa_cons (pv 1) (pa_cons (pe_ifExp (pt_cmpR (op_eqT hr.units0) (pv 1) (pv 2) (nomark _)) (pe_call G_plus (hr.mono (by decide)) rfl T.m_plus T.k_plus T.b_plus .nil pass0 (pa_cons (pv 1) (pa_cons (pe_call G_number (hr.mono (by decide)) rfl T.m_number T.k_number BD_number DV_number passE0 (pa_cons pe_int pa_nil)) pa_nil))) (pv 2)) pa_nil)))))))), z_go (σ := [some _, none, none]) rfl ?_⟩
  walk_at "run"
  rename_i l1 H1 n1 s1 e1
  refine z_eqE (s1.seq hS) (SqL.of e1) ?_
  walk_at "run"
  cases cs with
  | nil =>
    have hx : xs = [] := List.eq_nil_of_length_eq_zero hlen
    subst hx
    refine iteT ?_
    walk_at "run"
    rename_i p2 H2 x2 y2 s2 R2 g2 e2 p3 H3 x3 y3 s3 R3 g3 e3 p4 H4 n4 s4 e4
    obtain ⟨rfl, rfl⟩ := one_low R2.pos g2 e2
    obtain ⟨rfl, rfl⟩ := one_low R3.pos g3 e3
    exact q _ _ _ _ (s1.trans (s2.trans (s3.trans s4))) e4 ⟨_, _, rfl, (R2.kp s3).kp s4, by decide, by decide⟩ ⟨_, _, rfl, R3.kp s4, by decide, by decide⟩
  | cons c0 cs =>
    have hx : xs.isEmpty = false := by
      cases xs with
      | nil => cases hlen
      | cons _ _ => rfl
    rw [hx]
    refine iteF ?_
    walk_at "run"
    refine ⟨a, xs, c0, cs, rfl, s1.seq hS, hC.same s1, fun lo hlo => ?_⟩
    walk_at "run"
    refine ⟨a, xs, c0, cs, rfl, s1.seq hS, hC.same s1, fun hi hhi => ?_⟩
    walk_at "run"
    have q : ∀ (p : Addr) (H' : Hp) (v1 v2 : V), Same H H' → H' p = some (.tup [v1, v2]) → Nu K H' v1 ((c0 :: cs).foldl leastF c0) → Nu K H' v2 (if (c0 :: cs).foldl leastF c0 = (c0 :: cs).foldl greatF c0 then (((c0 :: cs).foldl leastF c0).1 + ((c0 :: cs).foldl leastF c0).2, ((c0 :: cs).foldl leastF c0).2) else (c0 :: cs).foldl greatF c0) → Q (.ref p) H' := q
    generalize (c0 :: cs).foldl leastF c0 = L at *
    generalize (c0 :: cs).foldl greatF c0 = G at *
    obtain ⟨x, y⟩ := L
    obtain ⟨x', y'⟩ := G
    have nlo := hlo.nu
    have nhi := hhi.nu
    obtain ⟨p, rfl, r, g⟩ := hlo
    obtain ⟨p', rfl, r', g'⟩ := hhi
    refine ⟨p, p', [x, y], [x', y'], rfl, rfl, r.s, r'.s, ?_⟩
    walk_at "run"
    refine z_iteD (fun h => ?_) (fun h => ?_)
    · obtain ⟨rfl, rfl⟩ : x = x' ∧ y = y' := by
        simp only [List.cons.injEq, and_true] at h
        exact h
      rw [if_pos rfl] at q
      walk_at "run"
      rename_i p2 H2 x2 y2 s2 R2 g2 e2 p3 H3 x3 y3 s3 R3 g3 e3 p4 H4 n4 s4 e4
      obtain ⟨rfl, rfl⟩ := one_low R2.pos g2 e2
      have ey : My.qv x3 y3 = My.qv (x + y) y := by
        rw [e3]
        have h0 : (y : Int) ≠ 0 := r.ne
        have := My.qv_plus (a := x) (b := y) (c := 1) (d := 1) h0 (by decide)
        rw [← this]
        exact My.qv_eq (by rw [Int.mul_one]; exact h0) h0 (by rw [Int.mul_one, Int.mul_one, Int.one_mul])
      obtain ⟨rfl, rfl⟩ := My.low_unique R3.pos r.pos g3 (gcd_add g) (My.eq_of_qv R3.ne r.ne ey)
      exact q _ _ _ _ (s1.trans (s2.trans (s3.trans s4))) e4 (nlo.same (s2.trans (s3.trans s4))) ⟨_, _, rfl, R3.kp s4, by decide, gcd_add g⟩
    · rw [if_neg (fun e => h (by cases e; rfl))] at q
      walk_at "run"
      rename_i p4 H4 n4 s4 e4
      exact q _ _ _ _ (s1.trans s4) e4 (nlo.same s4) (nhi.same s4)
/-- the cells of a column -/
def rowsC (K : PySem.W.Frag) (H : Hp) (rs : List V) (at_ : Nat) (cs : List (Option (Int × Int))) : Prop := rs.length = cs.length ∧ ∀ (i : Nat) (v : V) (c : Option (Int × Int)), rs[i]? = some v → cs[i]? = some c → ∃ p xs x, v = .ref p ∧ SqT K H p xs ∧ xs[at_]? = some x ∧ Cl K H x c
theorem rowsC.same {K : PySem.W.Frag} {H H' : Hp} {rs : List V} {at_ : Nat} {cs : List (Option (Int × Int))} (s : Same H H') (h : rowsC K H rs at_ cs) : rowsC K H' rs at_ cs := ⟨h.1, fun i v c h1 h2 => by
  obtain ⟨p, xs, x, e, h3, h4, h5⟩ := h.2 i v c h1 h2
  exact ⟨p, xs, x, e, s.tup h3, h4, h5.same s⟩⟩
theorem Cls.cons {K : PySem.W.Frag} {H : Hp} {v : V} {vs : List V} {c : Option (Int × Int)} {cs : List (Option (Int × Int))} (h : Cl K H v c) (t : Cls K H vs cs) : Cls K H (v :: vs) (c :: cs) := ⟨by rw [List.length_cons, List.length_cons, t.1], fun i x d h1 h2 => by
  cases i with
  | zero => cases h1; cases h2; exact h
  | succ i => exact t.2 i x d h1 h2⟩
theorem Cls.head {K : PySem.W.Frag} {H : Hp} {v : V} {vs : List V} {c : Option (Int × Int)} {cs : List (Option (Int × Int))} (h : Cls K H (v :: vs) (c :: cs)) : Cl K H v c ∧ Cls K H vs cs := ⟨h.2 0 v c rfl rfl, by have := h.1; simpa using this, fun i x d h1 h2 => h.2 (i + 1) x d h1 h2⟩
theorem Cls.nil {K : PySem.W.Frag} {H : Hp} : Cls K H [] [] := ⟨rfl, fun i x d h => by cases h⟩
theorem rowsC.cells {K : PySem.W.Frag} {H : Hp} {j : Nat} : ∀ {rs : List V} {cs : List (Option (Int × Int))}, rowsC K H rs j cs → ∃ zs : List V, Cls K H zs cs ∧ zs.length = rs.length ∧ ∀ (i : Nat) (v x : V), rs[i]? = some v → zs[i]? = some x → ∃ p xs, v = .ref p ∧ SqT K H p xs ∧ xs[j]? = some x
  | [], [], _ => ⟨[], Cls.nil, rfl, fun i v x h => by cases h⟩
  | [], _ :: _, h => absurd h.1 (by simp)
  | _ :: _, [], h => absurd h.1 (by simp)
  | r :: rs, c :: cs, h => by
    obtain ⟨p, xs, x, e, h1, h2, h3⟩ := h.2 0 r c rfl rfl
    obtain ⟨zs, z1, z2, z3⟩ := rowsC.cells (rs := rs) (cs := cs) ⟨by have := h.1; simpa using this, fun i v d a b => h.2 (i + 1) v d a b⟩
    refine ⟨x :: zs, z1.cons h3, by rw [List.length_cons, List.length_cons, z2], fun i v y a b => ?_⟩
    cases i with
    | zero => cases a; cases b; exact ⟨p, xs, e, h1, h2⟩
    | succ i => exact z3 i v y a b
def isTh (v : V) : Bool := !decide (v = .non)
theorem Cls.there {K : PySem.W.Frag} {H : Hp} : ∀ {zs : List V} {cs : List (Option (Int × Int))}, Cls K H zs cs → Cls K H (zs.filter isTh) ((cs.filterMap id).map some)
  | [], [], _ => Cls.nil
  | [], _ :: _, h => absurd h.1 (by simp)
  | _ :: _, [], h => absurd h.1 (by simp)
  | z :: zs, c :: cs, h => by
    obtain ⟨h1, h2⟩ := h.head
    have ih := Cls.there h2
    cases c with
    | none =>
      have e : z = .non := h1
      subst e
      exact ih
    | some c =>
      have hz : isTh z = true := by
        obtain ⟨x, y⟩ := c
        obtain ⟨p, rfl, _⟩ := h1
        rfl
      rw [List.filter_cons_of_pos hz]
      exact Cls.cons h1 ih
theorem picked_filter (zs : List V) (q : V → Bool) : picked (fun i => q (zs.getD i .non)) (fun i => zs.getD i .non) zs.length = zs.filter q := by
  have e : (List.range zs.length).map (fun i => zs.getD i .non) = zs := by
    apply List.ext_getElem (by rw [List.length_map, List.length_range])
    intro i h1 h2
    rw [List.getElem_map, List.getElem_range, List.getD_eq_getElem?_getD, List.getElem?_eq_getElem h2]
    rfl
  have e2 := List.filter_map (f := fun i => zs.getD i .non) (p := q) (l := List.range zs.length)
  rw [e] at e2
  rw [e2]
  rfl
def sp_there (K : PySem.W.Frag) : Sp := fun vs H Q _ => ∃ (a b : Addr) (z : Str) (xs rs : List V) (ws : List Str) (j : Nat) (cs : List (Option (Int × Int))), vs = [.ref a, .ref b, .str z] ∧ SqL K H a xs ∧ Cols K H xs ws ∧ ixOf ws z = some j ∧ SqL K H b rs ∧ rowsC K H rs j cs ∧ rs.length ≤ 100 ∧ ∀ (p : Addr) (H' : Hp) (ys : List V), Same H H' → H' p = some (.lst ys) → Cls K H' ys ((cs.filterMap id).map some) → Q (.ref p) H'
theorem a_colat {K : PySem.W.Frag} {H : Hp} {Q : VK} {E : XK} {a : Addr} {z : Str} {xs : List V} {ws : List Str} {j : Nat} (h : SqL K H a xs) (hc : Cols K H xs ws) (hj : ixOf ws z = some j) (h1 : ∀ H', Same H H' → Q (.int (j : Nat)) H') : sp_colat K [.ref a, .str z] H Q E := by
  refine ⟨a, z, xs, ws, rfl, h, hc, fun H' s' => ?_⟩
  rw [hj]
  exact h1 _ s'
theorem ok_cells_there (T : Txt K mg t) : FnOk P w K mg base CX0 2 t.f_cells_there t.d_cells_there ["columns", "rows", "name"] (sp_there K) := by
  have G_column_at := ok_column_at (P := P) (w := w) (base := base) T
  refine T.F_cells_there.ok sc_cells_there (fun vs H Q E h => ?_) (fun cdv A outer s H vs Q E hr h => ?_)
  · obtain ⟨a, b, z, xs, rs, ws, j, cs, rfl, _⟩ := h
    rfl
  obtain ⟨a, b, z, xs, rs, ws, j, cs, rfl, hS, hC, hj, hR, hrow, hrl, q⟩ := h
  refine ⟨_, (pss_cons (ps_set (i := 3) sc_cells_there.nd rfl (Or.inr rfl) (pe_call G_column_at (hr.mono (by decide)) rfl T.m_column_at T.k_column_at T.b_column_at .nil pass0 (pa_cons (pv 0) (pa_cons (pv 2) pa_nil))))
  (pss_one (ps_ret (pe_lcIf (tg := "row") (fr := [("at", 3)]) rfl (compOkG_of (osc := defScope s_cells_there) (N := ["columns", "rows", "name", "at"]) rfl rfl (by decide +kernel)) (pi_list (pv 1)) (fun _ _ _ _ _ => (pt_cmpR op_notN' (pe_ix (r := rIxT K) ix_tup (pv 0) (pv 1) (fun _ _ => rfl)) pe_non (nomark _))) (fun _ _ _ _ _ => (pe_ix (r := rIxT K) ix_tup (pv 0) (pv 1) (fun _ _ => rfl))))))), z_go (σ := [some _, some _, some _, none]) rfl ?_⟩
  walk_at "run"
  refine a_colat hS hC hj (fun H1 s1 => ?_)
  have hR1 := s1.seq hR
  have hrow1 := hrow.same s1
  obtain ⟨zs, z1, z2, z3⟩ := hrow1.cells
  have hat : ∀ (i : Nat) (v : V), rs[i]? = some v → ∃ p xs, v = .ref p ∧ SqT K H1 p xs ∧ atI xs ((j : Nat) : Int) = some (zs.getD i .non) := fun i v hv => by
    have hi : i < zs.length := by rw [z2]; exact (List.getElem?_eq_some_iff.mp hv).1
    obtain ⟨p, xs, e, h1, h2⟩ := z3 i v _ hv (List.getElem?_eq_getElem hi)
    refine ⟨p, xs, e, h1, ?_⟩
    rw [List.getD_eq_getElem?_getD, List.getElem?_eq_getElem hi]
    exact atI_nat h2
  walk_at "run"
  refine z_lcg ?_
  walk_at "run"
  refine lcw_list (K := K) (fun i => zs.getD i .non) (fun i => isTh (zs.getD i .non)) hR1 (le_size (by omega)) (fun i x H2 S hx s2 k => ?_) (fun i x H2 S hx hp s2 k => ?_) (fun acc H2 hacc s2 ha => ?_)
  · obtain ⟨p, xs, rfl, hp, ha⟩ := hat i x hx
    walk_at "run"
    refine z_ixT (s2.tup hp) ha ?_
    walk_at "run"
    refine z_notNv ?_
    walk_at "run"
    exact k _ (Same.refl _)
  · obtain ⟨p, xs, rfl, hp, ha⟩ := hat i x hx
    walk_at "run"
    refine z_ixT (s2.tup hp) ha ?_
    exact k _ (Same.refl _)
  · rw [← z2, picked_filter] at ha
    exact q _ _ _ (s1.trans s2) ha (z1.same s2).there

/-! scales of a channel -/
/-- a wish, straight: none told, or its ends -/
inductive Wsh where
  | free | told (lo hi : Int × Int)
def Wi (K : PySem.W.Frag) (H : Hp) (v : V) : Wsh → Prop
  | .free => ∃ p, v = .ref p ∧ SqT K H p [.str "straight"]
  | .told lo hi => ∃ p a b, v = .ref p ∧ SqT K H p [.str "straight", a, b] ∧ Nu K H a lo ∧ Nu K H b hi
theorem Wi.same {K : PySem.W.Frag} {H H' : Hp} {v : V} {x : Wsh} (s : Same H H') (h : Wi K H v x) : Wi K H' v x := by
  cases x with
  | free => obtain ⟨p, e, h⟩ := h; exact ⟨p, e, s.tup h⟩
  | told lo hi => obtain ⟨p, a, b, e, h, h1, h2⟩ := h; exact ⟨p, a, b, e, s.tup h, h1.same s, h2.same s⟩
def scaleOf (x : Wsh) (cs : List (Option (Int × Int))) : (Int × Int) × (Int × Int) := match x with
  | .free => endsOf (cs.filterMap id)
  | .told lo hi => (lo, hi)
/-- a scale's tuple -/
def Sca (K : PySem.W.Frag) (H : Hp) (v : V) (e : (Int × Int) × (Int × Int)) (len : Int) : Prop := ∃ p a b, v = .ref p ∧ SqT K H p [.str "straight", a, b, .int len] ∧ Nu K H a e.1 ∧ Nu K H b e.2
theorem Sca.same {K : PySem.W.Frag} {H H' : Hp} {v : V} {e : (Int × Int) × (Int × Int)} {len : Int} (s : Same H H') (h : Sca K H v e len) : Sca K H' v e len := by
  obtain ⟨p, a, b, e1, h, h1, h2⟩ := h; exact ⟨p, a, b, e1, s.tup h, h1.same s, h2.same s⟩
theorem z_slT {K : PySem.W.Frag} {H : Hp} {Q : VK} {p : Addr} {xs : List V} {lo hi : Option Int} (hs : SqT K H p xs) (hw : ¬ (HT.sIx xs.length 0 lo = 0 ∧ HT.sIx xs.length xs.length hi = xs.length)) (q : ∀ p' H', H p' = none → Same H H' → H' p' = some (.tup (cutV xs lo hi)) → Q (.ref p') H') : rSlT K (.ref p) lo hi H Q := ⟨p, xs, rfl, hs, hw, fun p' hp => q p' _ hp (Same.new hp _) upd_same⟩
def sp_scale (K : PySem.W.Frag) : Sp := fun vs H Q _ => ∃ (ch a b : Addr) (wv : V) (x : Wsh) (z : Str) (len : Int) (xs rs : List V) (ws : List Str) (j : Nat) (cs : List (Option (Int × Int))), vs = [.ref ch, .ref a, .ref b, .int len] ∧ SqT K H ch [.str z, wv] ∧ Wi K H wv x ∧ SqL K H a xs ∧ Cols K H xs ws ∧ ixOf ws z = some j ∧ SqL K H b rs ∧ rowsC K H rs j cs ∧ rs.length ≤ 100 ∧ ∀ (v : V) (H' : Hp), Same H H' → Sca K H' v (scaleOf x cs) len → Q v H'
theorem ok_scale_of (T : Txt K mg t) : FnOk P w K mg base CX0 5 t.f_scale_of t.d_scale_of ["channel", "columns", "rows", "length"] (sp_scale K) := by
  have G_straight_ends := ok_straight_ends (P := P) (w := w) (base := base) T
  have G_cells_there := ok_cells_there (P := P) (w := w) (base := base) T
  refine T.F_scale_of.ok sc_scale_of (fun vs H Q E h => ?_) (fun cdv A outer s H vs Q E hr h => ?_)
  · obtain ⟨ch, a, b, wv, x, z, len, xs, rs, ws, j, cs, rfl, _⟩ := h
    rfl
  obtain ⟨ch, a, b, wv, x, z, len, xs, rs, ws, j, cs, rfl, hch, hw, hS, hC, hj, hR, hrow, hrl, q⟩ := h
  refine ⟨_, (pss_cons (ps_set (i := 4) sc_scale_of.nd rfl (Or.inl rfl) (pe_ix ix_tup (pv 0) pe_int (fun _ _ => rfl)))
  (pss_cons (ps_set (i := 5) sc_scale_of.nd rfl (Or.inl rfl) (pe_ifExp (pt_cmpR op_eq (pe_callB call_len_seq rfl T.z_len PySem.boot_len (pa_cons (pv 4) pa_nil)) pe_int (nomark _)) (pe_slice sl_tup (pv 4) (po_some pe_int) po_none) (pe_call G_straight_ends (hr.mono (by decide)) rfl T.m_straight_ends T.k_straight_ends T.b_straight_ends .nil pass0 (pa_cons (pe_call G_cells_there (hr.mono (by decide)) rfl T.m_cells_there T.k_cells_there T.b_cells_there .nil pass0 (pa_cons (pv 1) (pa_cons (pv 2) (pa_cons (pe_ix ix_tup (pv 0) pe_int (fun _ _ => rfl)) pa_nil)))) pa_nil))))
  (pss_one (ps_ret (pe_tup (pa_cons pe_str (pa_cons (pe_ix ix_tup (pv 5) pe_int (fun _ _ => rfl)) (pa_cons (pe_ix ix_tup (pv 5) pe_int (fun _ _ => rfl)) (pa_cons (pv 3) pa_nil))))))))), z_go (σ := [some _, some _, some _, some _, none, none]) rfl ?_⟩
  cases x with
  | told lo hi =>
    obtain ⟨p, va, vb, rfl, hp, h1, h2⟩ := hw
    walk_at "run"
    refine z_iteD (fun _ => ?_) (fun h => absurd rfl h)
    walk_at "run"
    refine z_slT hp (fun h => by
      have := h.1
      rw [show (1 : Int) = ((1 : Nat) : Int) from rfl, HT.sIx_nat] at this
      simp at this) (fun p' H1 n1 s1 e1 => ?_)
    have e1 : H1 p' = some (.tup [va, vb]) := by rw [e1]; exact congrArg (fun l => some (HO.tup l)) (cut_n0 _ 1)
    walk_at "run"
    rename_i p2 H2 n2 s2 e2
    exact q _ _ (s1.trans s2) ⟨_, _, _, rfl, SqT.of e2, h1.same (s1.trans s2), h2.same (s1.trans s2)⟩
  | free =>
    obtain ⟨p, rfl, hp⟩ := hw
    walk_at "run"
    refine z_iteD (fun h => absurd h (by decide)) (fun _ => ?_)
    walk_at "run"
    refine ⟨a, b, z, xs, rs, ws, j, cs, rfl, hS, hC, hj, hR, hrow, hrl, fun p' H1 ys s1 e1 h1 => ?_⟩
    walk_at "run"
    refine ⟨p', ys, _, rfl, SqL.of e1, h1, fun p2 H2 v1 v2 s2 e2 n1 n2 => ?_⟩
    walk_at "run"
    rename_i p3 H3 n3 s3 e3
    exact q _ _ (s1.trans (s2.trans s3)) ⟨_, _, _, rfl, SqT.of e3, n1.same s3, n2.same s3⟩
/-- a channel: none, an order, or one that is straight -/
inductive Chan where
  | no | order | on (z : Str) (x : Wsh)
def Ch (K : PySem.W.Frag) (H : Hp) (v : V) : Chan → Prop
  | .no => v = .non
  | .order => ∃ p r q, v = .ref p ∧ SqT K H p [r, .ref q] ∧ ∃ zs, SqT K H q (.str "order" :: zs)
  | .on z x => ∃ p wv, v = .ref p ∧ SqT K H p [.str z, wv] ∧ Wi K H wv x
theorem Ch.same {K : PySem.W.Frag} {H H' : Hp} {v : V} {x : Chan} (s : Same H H') (h : Ch K H v x) : Ch K H' v x := by
  cases x with
  | no => exact h
  | order => obtain ⟨p, r, q, e, h, zs, g⟩ := h; exact ⟨p, r, q, e, s.tup h, zs, s.tup g⟩
  | on z x => obtain ⟨p, wv, e, h, g⟩ := h; exact ⟨p, wv, e, s.tup h, g.same s⟩
def scaleCh (c : Chan) (cs : List (Option (Int × Int))) : Option ((Int × Int) × (Int × Int)) := match c with
  | .no => none
  | .order => none
  | .on _ x => some (scaleOf x cs)
def ScaO (K : PySem.W.Frag) (H : Hp) (v : V) (len : Int) : Option ((Int × Int) × (Int × Int)) → Prop
  | none => v = .non
  | some e => Sca K H v e len
theorem ScaO.same {K : PySem.W.Frag} {H H' : Hp} {v : V} {len : Int} {o : Option ((Int × Int) × (Int × Int))} (s : Same H H') (h : ScaO K H v len o) : ScaO K H' v len o := by
  cases o with
  | none => exact h
  | some e => exact Sca.same s h
def sp_chscale (K : PySem.W.Frag) (at_ : Nat) (len : Int) : Sp := fun vs H Q _ => ∃ (te a b : Addr) (ts : List V) (cv : V) (c : Chan) (xs rs : List V) (ws : List Str) (j : Nat) (cs : List (Option (Int × Int))), vs = [.ref te, .ref a, .ref b] ∧ SqT K H te ts ∧ ts[at_]? = some cv ∧ Ch K H cv c ∧ SqL K H a xs ∧ Cols K H xs ws ∧ SqL K H b rs ∧ (∀ z x, c = .on z x → ixOf ws z = some j ∧ rowsC K H rs j cs) ∧ rs.length ≤ 100 ∧ ∀ (v : V) (H' : Hp), Same H H' → ScaO K H' v len (scaleCh c cs) → Q v H'
def sp_szscale (K : PySem.W.Frag) : Sp := fun vs H Q _ => (∃ (te a b : Addr) (ts : List V) (cv : V) (c : Chan) (xs rs : List V) (ws : List Str) (j : Nat) (cs : List (Option (Int × Int))), vs = [.ref te, .ref a, .ref b] ∧ SqT K H te ts ∧ ts[5]? = some cv ∧ Ch K H cv c ∧ SqL K H a xs ∧ Cols K H xs ws ∧ SqL K H b rs ∧ (∀ z x, c = .on z x → ixOf ws z = some j ∧ rowsC K H rs j cs) ∧ rs.length ≤ 100 ∧ c ≠ .order ∧ ∀ (v : V) (H' : Hp), Same H H' → ScaO K H' v 18 (scaleCh c cs) → Q v H') ∧ True
theorem wi_cons {K : PySem.W.Frag} {H : Hp} {v : V} {x : Wsh} (h : Wi K H v x) : ∃ p r, v = .ref p ∧ SqT K H p (.str "straight" :: r) := by
  cases x with
  | free => obtain ⟨p, e, h⟩ := h; exact ⟨p, _, e, h⟩
  | told lo hi => obtain ⟨p, a, b, e, h, _⟩ := h; exact ⟨p, _, e, h⟩
theorem ok_colour_scale (T : Txt K mg t) : FnOk P w K mg base CX0 6 t.f_colour_scale t.d_colour_scale ["telling", "columns", "rows"] (sp_chscale K 4 255) := by
  have G_scale_of := ok_scale_of (P := P) (w := w) (base := base) T
  refine T.F_colour_scale.ok sc_colour_scale (fun vs H Q E h => ?_) (fun cdv A outer s H vs Q E hr h => ?_)
  · obtain ⟨te, a, b, ts, cv, c, xs, rs, ws, j, cs, rfl, _⟩ := h
    rfl
  obtain ⟨te, a, b, ts, cv, c, xs, rs, ws, j, cs, rfl, hte, hat, hch, hS, hC, hR, hon, hrl, q⟩ := h
  have hat4 : atI ts 4 = some cv := atI_nat (j := 4) hat
  refine ⟨_, (pss_cons (ps_set (i := 3) sc_colour_scale.nd rfl (Or.inl rfl) (pe_ix ix_tup (pv 0) pe_int (fun _ _ => rfl)))
  (pss_cons (ps_if (PW.pt (pw_or (pt_cmpR op_isN' (pv 3) pe_non (nomark _)) (pw_or1 (pt_cmpR op_ne (pe_ix ix_tup (pe_ix ix_tup (pv 3) pe_int (fun _ _ => rfl)) pe_int (fun _ _ => rfl)) pe_str (nomark _))))) (pss_one (ps_ret pe_non)) pss_nil)
  (pss_one (ps_ret (pe_call G_scale_of (hr.mono (by decide)) rfl T.m_scale_of T.k_scale_of T.b_scale_of .nil pass0 (pa_cons (pv 3) (pa_cons (pv 1) (pa_cons (pv 2) (pa_cons (pe_glob (v := .int 255) rfl T.g_COLOUR_LENGTH ⟨_, rfl⟩) pa_nil))))))))), z_go (σ := [some _, some _, some _, none]) rfl ?_⟩
  walk_at "run"
  refine z_ixT hte hat4 ?_
  walk_at "run"
  refine z_isNv ?_
  cases c with
  | no =>
    cases hch
    walk_at "run"
    refine z_iteD (fun _ => ?_) (fun h => absurd rfl h)
    walk_at "run"
    exact q _ _ (Same.refl _) rfl
  | order =>
    obtain ⟨p, r, p2, rfl, hp, zs, hp2⟩ := hch
    walk_at "run"
    refine z_iteD (fun h => absurd h nofun) (fun _ => ?_)
    walk_at "run"
    refine z_ixT hp2 (at_cons0 _ _) ?_
    walk_at "run"
    refine z_iteD (fun h => absurd h (by decide)) (fun _ => ?_)
    walk_at "run"
    exact q _ _ (Same.refl _) rfl
  | on z x =>
    obtain ⟨p, wv, rfl, hp, hw⟩ := hch
    obtain ⟨h1, h2⟩ := hon z x rfl
    obtain ⟨p2, r2, rfl, hp2⟩ := wi_cons hw
    walk_at "run"
    refine z_iteD (fun h => absurd h nofun) (fun _ => ?_)
    walk_at "run"
    refine z_ixT hp2 (at_cons0 _ _) ?_
    walk_at "run"
    refine z_iteD (fun _ => ?_) (fun h => absurd rfl h)
    walk_at "run"
    exact ⟨p, a, b, _, x, z, _, xs, rs, ws, j, cs, rfl, hp, hw, hS, hC, h1, hR, h2, hrl, fun v H' s' h => q v H' s' h⟩
theorem ok_size_scale (T : Txt K mg t) : FnOk P w K mg base CX0 6 t.f_size_scale t.d_size_scale ["telling", "columns", "rows"] (sp_szscale K) := by
  have G_scale_of := ok_scale_of (P := P) (w := w) (base := base) T
  refine T.F_size_scale.ok sc_size_scale (fun vs H Q E h => ?_) (fun cdv A outer s H vs Q E hr h => ?_)
  · obtain ⟨⟨te, a, b, ts, cv, c, xs, rs, ws, j, cs, rfl, _⟩, _⟩ := h
    rfl
  obtain ⟨⟨te, a, b, ts, cv, c, xs, rs, ws, j, cs, rfl, hte, hat, hch, hS, hC, hR, hon, hrl, hno, q⟩, _⟩ := h
  have hat5 : atI ts 5 = some cv := atI_nat (j := 5) hat
  refine ⟨_, (pss_cons (ps_if (pt_cmpR op_isN' (pe_ix ix_tup (pv 0) pe_int (fun _ _ => rfl)) pe_non (nomark _)) (pss_one (ps_ret pe_non)) pss_nil)
  (pss_one (ps_ret (pe_call G_scale_of (hr.mono (by decide)) rfl T.m_scale_of T.k_scale_of T.b_scale_of .nil pass0 (pa_cons (pe_ix ix_tup (pv 0) pe_int (fun _ _ => rfl)) (pa_cons (pv 1) (pa_cons (pv 2) (pa_cons (pe_glob (v := .int 18) rfl T.g_SIZE_LENGTH ⟨_, rfl⟩) pa_nil)))))))), z_go (σ := [some _, some _, some _]) rfl ?_⟩
  walk_at "run"
  refine z_ixT hte hat5 ?_
  walk_at "run"
  refine z_isNv ?_
  cases c with
  | no =>
    cases hch
    walk_at "run"
    refine z_iteD (fun _ => ?_) (fun h => absurd rfl h)
    walk_at "run"
    exact q _ _ (Same.refl _) rfl
  | order => exact absurd rfl hno
  | on z x =>
    obtain ⟨p, wv, rfl, hp, hw⟩ := hch
    obtain ⟨h1, h2⟩ := hon z x rfl
    walk_at "run"
    refine z_iteD (fun h => absurd h nofun) (fun _ => ?_)
    walk_at "run"
    refine z_ixT hte hat5 ?_
    walk_at "run"
    exact ⟨p, a, b, _, x, z, _, xs, rs, ws, j, cs, rfl, hp, hw, hS, hC, h1, hR, h2, hrl, fun v H' s' h => q v H' s' h⟩
/-! the law's own: draws -/
theorem p6' : (10 : Int) ^ (6 : Int).toNat = 1000000 := by decide
theorem p12' : (10 : Int) ^ (12 : Int).toNat = 1000000000000 := by decide
theorem p17' : (10 : Int) ^ (17 : Int).toNat = 100000000000000000 := by decide
theorem p60' : (10 : Int) ^ (60 : Int).toNat = 1000000000000000000000000000000000000000000000000000000000000 := by decide
theorem bdP : My.Bd 200 ((10 : Int) ^ (60 : Int).toNat) := by
  rw [p60']
  unfold My.Bd
  have e2 : (2 : Int) ^ 200 = 1606938044258990275541962092341162602522202993782792835301376 := by decide
  omega
theorem bd8 {x : Int} (h : My.Bd 200 x) : My.Bd 1600 (x ^ (8 : Int).toNat) := by
  have e : x ^ (8 : Int).toNat = x * x * (x * x) * (x * x * (x * x)) := by
    show x ^ 8 = _
    simp only [Int.pow_succ, Int.pow_zero, Int.one_mul, Int.mul_assoc]
  rw [e]
  have h2 := h.mul h
  have h4 := h2.mul h2
  exact h4.mul h4
def sp_draw6 (K : PySem.W.Frag) : Sp := fun vs H Q _ => ∃ (a : Addr) (k m : Int) (ns : List Int), vs = [.ref a, .int k, .int m] ∧ SqL K H a (ns.map V.int) ∧ (0 ≤ k ∧ k ≤ 100) ∧ (0 ≤ m ∧ m ≤ 100) ∧ ∀ (p : Addr) (H' : Hp) (ds : List Int), Same H H' → H p = none → H' p = some (.lst (ds.map V.int)) → ds.length = m.toNat → (∀ d ∈ ds, 0 ≤ d ∧ d < 1000000) → Q (.ref p) H'
theorem ok_l_draws (T : Txt K mg t) : FnOk P w K mg base CX0 2 t.f_l_draws t.d_l_draws ["_law_script", "_law_k", "_law_many"] (sp_draw6 K) := by
  have G_l_cell_at := ok_l_cell_at (P := P) (w := w) (base := base) T
  refine T.F_l_draws.ok sc_l_draws (fun vs H Q E h => ?_) (fun cdv A outer s H vs Q E hr h => ?_)
  · obtain ⟨a, k, m, ns, rfl, _⟩ := h
    rfl
  obtain ⟨a, k, m, ns, rfl, hS, hk, hm, q⟩ := h
  refine ⟨_, (pss_cons (ps_set (i := 3) sc_l_draws.nd rfl (Or.inl rfl) (pe_op op_mod (pe_callB call_abs rfl T.z_abs bt_abs (pa_cons (pe_call G_l_cell_at (hr.mono (by decide)) rfl T.m_l_cell_at T.k_l_cell_at T.b_l_cell_at .nil pass0 (pa_cons (pv 0) (pa_cons (pv 1) pa_nil))) pa_nil)) (pe_op op_powB (pe_op op_pow pe_int pe_int) pe_int)))
  (pss_cons (ps_set (i := 4) sc_l_draws.nd rfl (Or.inl rfl) (pe_op op_mulB (pv 3) (pe_callTy call_int1 rfl T.z_int bt_int (pa_cons (pe_cmpR op_ge (pv 3) (pe_op op_pow pe_int pe_int) (nomark _)) pa_nil))))
  (pss_cons (ps_set (i := 5) sc_l_draws.nd rfl (Or.inl rfl) (pe_op op_add (pe_op op_add (pe_op op_mod (pv 3) pe_int) (pe_op op_mulB pe_int (pv 1))) pe_int))
  (pss_cons (ps_set (i := 6) sc_l_draws.nd rfl (Or.inl rfl) (pe_lst pa_nil))
  (pss_cons (ps_for PassesOwn.never rfl (pi_range1 rfl T.z_range (pa_cons (pv 2) pa_nil)) (pg_name (i := 7) sc_l_draws.nd rfl (Or.inl rfl)) (pss_one (ps_if (pt_cmpR op_gt (pv 4) pe_int (nomark _)) (pss_cons (ps_expr (pe_bm PySem.F.plainAttrs_list PySem.F.slot_list_append PySem.F.type_list_append mt_append (pv 6) (pa_cons (pe_op op_mod (pv 4) (pe_op op_pow pe_int pe_int)) pa_nil)))
  (pss_one (ps_set (i := 4) sc_l_draws.nd rfl (Or.inl rfl) (pe_op op_fdivB (pv 4) (pe_op op_pow pe_int pe_int))))) (pss_cons (ps_set (i := 5) sc_l_draws.nd rfl (Or.inl rfl) (pe_op op_mod (pe_op op_add (pe_op op_add (pe_op op_mulB (pv 5) pe_int) (pe_op op_mulB (pv 7) (pv 7))) (pv 1)) pe_int))
  (pss_one (ps_expr (pe_bm PySem.F.plainAttrs_list PySem.F.slot_list_append PySem.F.type_list_append mt_append (pv 6) (pa_cons (pe_op op_mod (pe_op op_fdivB (pe_op op_mod (pe_op op_mulB (pv 5) (pv 5)) pe_int) pe_int) (pe_op op_pow pe_int pe_int)) pa_nil))))))))
  (pss_one (ps_ret (pv 6)))))))), z_go (σ := [some _, some _, some _, none, none, none, none, none]) rfl ?_⟩
  walk_at "run"
  generalize (if cellAt ns k < 0 then -cellAt ns k else cellAt ns k) = c0
  refine z_I ⟨by decide, by decide, bdP.mono (by decide)⟩ ?_
  have M0 : (0 : Int) < ((10 : Int) ^ (60 : Int).toNat) ^ (8 : Int).toNat := Int.pow_pos (Int.pow_pos (by decide))
  have M1 := bd8 bdP
  generalize ((10 : Int) ^ (60 : Int).toNat) ^ (8 : Int).toNat = M at M0 M1
  have c1 := Int.emod_nonneg c0 (show M ≠ 0 by omega)
  have c2 := Int.emod_lt_of_pos c0 M0
  have cM : Mid (c0 % M) := (My.Bd.of_le M1 c1 (by omega)).mono (by decide)
  walk_at "run"
  generalize c0 % M = c at *
  have bM : ∀ b : Bool, Mid (if b = true then (1 : Int) else 0) := fun b => by cases b <;> exact midB (by decide) (by decide)
  have r0 : 0 ≤ c * (if decide (10 ^ Int.toNat 18 ≤ c) = true then (1 : Int) else 0) := Int.mul_nonneg c1 (by split <;> decide)
  generalize c * (if decide (10 ^ Int.toNat 18 ≤ c) = true then (1 : Int) else 0) = r at r0
  walk_at "run"
  have m1 := Int.emod_nonneg c (show (2305843009213693951 : Int) ≠ 0 by decide)
  have m2 := Int.emod_lt_of_pos c (show (0 : Int) < 2305843009213693951 by decide)
  generalize hmx : c % 2305843009213693951 + 48271 * k + 7 = mx
  have mx0 : 0 ≤ mx := by omega
  have mx1 : mx < 4611686018427387904 := by omega
  rename_i l H1 n1 s1 e1
  refine f_range (fun i σ HD => (∃ (x y : Int) (u : Option V), σ = [some (.ref a), some (.int k), some (.int m), some (.int c), some (.int x), some (.int y), some (.ref l), u] ∧ 0 ≤ x ∧ 0 ≤ y ∧ y < 4611686018427387904) ∧ Same H HD ∧ ∃ ds : List Int, HD l = some (.lst (ds.map V.int)) ∧ ds.length = i ∧ ∀ d ∈ ds, 0 ≤ d ∧ d < 1000000) ⟨⟨_, _, _, rfl, r0, mx0, mx1⟩, s1, [], e1, rfl, fun d h => absurd h List.not_mem_nil⟩ ?_ ?_
  · rintro i σ HD hi ⟨⟨x, y, u, rfl, x0, y0, y1⟩, sD, ds, hds, hdl, hdd⟩
    have dl : (ds.map V.int).length ≤ 900 := by rw [List.length_map]; omega
    have i0 : (i : Int) < 100 := by omega
    have ym : Mid y := (show My.Bd 62 y by unfold My.Bd; omega).mono (by decide)
    have snoc : ∀ d : Int, 0 ≤ d → d < 1000000 → ∀ e ∈ ds ++ [d], 0 ≤ e ∧ e < 1000000 := fun d d0 d1 e he => by
      rcases List.mem_append.mp he with z | z
      · exact hdd e z
      · rw [List.mem_singleton.mp z]; exact ⟨d0, d1⟩
    walk_at "run"
    refine z_iteD (fun hb => ?_) (fun hb => ?_)
    · walk_at "run"
      refine z_appendS (K := K) hds dl (fun H2 b2 hl2 => ?_)
      rw [p6'] at hl2
      walk_at "run"
      rw [p6']
      exact ⟨⟨_, _, _, rfl, by omega, y0, y1⟩, sD.but n1 b2, ds ++ [x % 1000000], by rw [List.map_append]; exact hl2, by simp [hdl], snoc _ (by omega) (by omega)⟩
    · walk_at "run"
      generalize hy2 : (y * 1181783497276652981 + (0 + (i : Int)) * (0 + (i : Int)) + k) % 2305843009213693951 = y2
      have y20 : 0 ≤ y2 := by rw [← hy2]; exact Int.emod_nonneg _ (by decide)
      have y21 : y2 < 2305843009213693951 := by rw [← hy2]; exact Int.emod_lt_of_pos _ (by decide)
      have y2m : Mid y2 := (show My.Bd 62 y2 by unfold My.Bd; omega).mono (by decide)
      walk_at "run"
      refine z_appendS (K := K) hds dl (fun H2 b2 hl2 => ?_)
      rw [p6'] at hl2
      walk_at "run"
      exact ⟨⟨_, _, _, rfl, x0, y20, by omega⟩, sD.but n1 b2, ds ++ [_], by rw [List.map_append]; exact hl2, by simp [hdl], snoc _ (by omega) (by omega)⟩
  · rintro σ HD ⟨⟨x, y, u, rfl, _⟩, sD, ds, hds, hdl, hdd⟩
    walk_at "run"
    exact q _ _ ds sD n1 hds hdl hdd
def sp_low47 : Sp := fun vs H Q _ => ∃ tp bt : Int, vs = [.int tp, .int bt] ∧ 0 < bt ∧ My.Bd 3000 bt ∧ ∀ (p : Addr) (H' : Hp) (x y : Int), Same H H' → H' p = some (.tup [.int x, .int y]) → 0 < y → y ≤ bt → Int.gcd x y = 1 → x.natAbs ≤ tp.natAbs → Q (.ref p) H'
theorem gcd_absl (a b : Int) : Int.gcd (if a < 0 then -a else a) b = Int.gcd a b := by
  split
  · exact Int.neg_gcd
  · rfl
theorem low_okB {tp bt : Int} (hb : 0 < bt) : 0 < bt / ((Int.gcd tp bt : Nat) : Int) ∧ Int.gcd (tp / ((Int.gcd tp bt : Nat) : Int)) (bt / ((Int.gcd tp bt : Nat) : Int)) = 1 ∧ (tp / ((Int.gcd tp bt : Nat) : Int)).natAbs ≤ tp.natAbs ∧ (bt / ((Int.gcd tp bt : Nat) : Int)).natAbs ≤ bt.natAbs := by
  have g0 := My.gcd_pos (a := tp) hb
  have M := My.made_of (t := tp) (m := bt) (by omega)
  have e : My.sg tp bt = ((Int.gcd tp bt : Nat) : Int) := if_neg (by omega)
  have e1 : tp.fdiv (My.sg tp bt) = tp / ((Int.gcd tp bt : Nat) : Int) := by rw [e]; exact Int.fdiv_eq_ediv_of_nonneg _ (by omega)
  have e2 : bt.fdiv (My.sg tp bt) = bt / ((Int.gcd tp bt : Nat) : Int) := by rw [e]; exact Int.fdiv_eq_ediv_of_nonneg _ (by omega)
  rw [e1, e2] at M
  exact ⟨M.pos, M.low, M.ba, M.bb⟩
theorem ok_l_low (T : Txt K mg t) : FnOk P w K mg base CX0 1 t.f_l_low t.d_l_low ["_law_top", "_law_bottom"] (sp_low47) := by
  refine T.F_l_low.ok sc_l_low (fun vs H Q E h => ?_) (fun cdv A outer s H vs Q E hr h => ?_)
  · obtain ⟨tp, bt, rfl, _⟩ := h
    rfl
  obtain ⟨tp, bt, rfl, hb, hB, q⟩ := h
  refine ⟨_, (pss_cons (ps_set (i := 2) sc_l_low.nd rfl (Or.inl rfl) (pe_callB call_abs rfl T.z_abs bt_abs (pa_cons (pv 0) pa_nil)))
  (pss_cons (ps_set (i := 3) sc_l_low.nd rfl (Or.inl rfl) (pv 1))
  (pss_cons (ps_while PassesOwn.never (pt_cmpR op_ne (pv 3) pe_int (nomark _)) (pss_one (ps_par (i := 2) (j := 3) rfl sc_l_low.nd rfl rfl (by decide) rfl rfl (pa_cons (pv 3) (pa_cons (pe_op op_mod (pv 2) (pv 3)) pa_nil)) rfl)))
  (pss_one (ps_ret (pe_tup (pa_cons (pe_op op_fdivB (pv 0) (pv 2)) (pa_cons (pe_op op_fdivB (pv 1) (pv 2)) pa_nil)))))))), z_go (σ := [some _, some _, none, none]) rfl ?_⟩
  walk_at "run"
  refine z_while (fun m σ H2 => ∃ x y : Int, σ = [some (.int tp), some (.int bt), some (.int x), some (.int y)] ∧ H2 = H ∧ 0 ≤ x ∧ 0 ≤ y ∧ m = y.toNat ∧ Int.gcd x y = Int.gcd tp bt) bt.toNat ⟨_, _, rfl, rfl, by split <;> omega, by omega, rfl, gcd_absl tp bt⟩ ?_
  rintro m σ H2 ⟨x, y, rfl, rfl, x0, y0, rfl, hg⟩
  walk_at "run"
  refine z_iteD (fun h => ?_) (fun h => ?_)
  · subst h
    have e : x = ((Int.gcd tp bt : Nat) : Int) := by rw [← hg, Int.gcd_zero_right]; omega
    have g0 := My.gcd_pos (a := tp) hb
    have g1 : ((Int.gcd tp bt : Nat) : Int) ≤ bt := My.gcd_le hb
    have gm : Mid ((Int.gcd tp bt : Nat) : Int) := (My.Bd.of_le hB (by omega) g1).mono (by decide)
    subst e
    obtain ⟨r1, r2, r3, r4⟩ := low_okB (tp := tp) hb
    walk_at "run"
    rename_i p H3 n3 s3 e3
    exact q _ _ _ _ s3 e3 r1 (by omega) r2 r3
  · have yp : 0 < y := by omega
    walk_at "run"
    have e0 := Int.emod_nonneg x (show y ≠ 0 by omega)
    have e1 := Int.emod_lt_of_pos x yp
    exact ⟨_, _, rfl, (x % y).toNat, by omega, _, _, rfl, rfl, y0, e0, rfl, by rw [My.gcd_step, hg]⟩

def sp_num47 (K : PySem.W.Frag) : Sp := fun vs H Q _ => ∃ (l : Addr) (d0 d1 d2 : Int) (ds : List Int), vs = [.ref l] ∧ SqL K H l ((d0 :: d1 :: d2 :: ds).map V.int) ∧ (0 ≤ d0 ∧ d0 < 1000000) ∧ (0 ≤ d1 ∧ d1 < 1000000) ∧ (0 ≤ d2 ∧ d2 < 1000000) ∧ ∀ (v : V) (H' : Hp) (c : Int × Int), Same H H' → Cl K H' v (some c) → Q v H'
theorem ok_l_number (T : Txt K mg t) : FnOk P w K mg base CX0 2 t.f_l_number t.d_l_number ["_law_d"] (sp_num47 K) := by
  have G_l_low := ok_l_low (P := P) (w := w) (base := base) T
  refine T.F_l_number.ok sc_l_number (fun vs H Q E h => ?_) (fun cdv A outer s H vs Q E hr h => ?_)
  · obtain ⟨l, d0, d1, d2, ds, rfl, _⟩ := h
    rfl
  obtain ⟨l, d0, d1, d2, ds, rfl, hL, b0, b1, b2, q⟩ := h
  have a0 : atI ((d0 :: d1 :: d2 :: ds).map V.int) 0 = some (.int d0) := atI_nat (j := 0) rfl
  have a1 : atI ((d0 :: d1 :: d2 :: ds).map V.int) 1 = some (.int d1) := atI_nat (j := 1) rfl
  have a2 : atI ((d0 :: d1 :: d2 :: ds).map V.int) 2 = some (.int d2) := atI_nat (j := 2) rfl
  generalize (d0 :: d1 :: d2 :: ds).map V.int = dd at *
  refine ⟨_, (pss_cons (ps_set (i := 1) sc_l_number.nd rfl (Or.inl rfl) (pe_ix ix_list (pe_lst (pa_cons (pe_op op_sub (pe_op op_mod (pe_ix ix_list (pv 0) pe_int (fun _ _ => rfl)) pe_int) pe_int) (pa_cons (pe_op op_sub (pe_op op_mod (pe_ix ix_list (pv 0) pe_int (fun _ _ => rfl)) pe_int) pe_int) (pa_cons (pe_op op_sub (pe_op op_add (pe_op op_add (pe_op op_mulB (pe_ix ix_list (pv 0) pe_int (fun _ _ => rfl)) (pe_op op_pow pe_int pe_int)) (pe_op op_mulB (pe_ix ix_list (pv 0) pe_int (fun _ _ => rfl)) (pe_op op_pow pe_int pe_int))) (pe_ix ix_list (pv 0) pe_int (fun _ _ => rfl))) (pe_op op_mulB pe_int (pe_op op_pow pe_int pe_int))) pa_nil)))) (pe_op op_fdivB (pe_op op_mod (pe_ix ix_list (pv 0) pe_int (fun _ _ => rfl)) pe_int) pe_int) (fun _ _ => rfl)))
  (pss_one (ps_ret (pe_call G_l_low (hr.mono (by decide)) rfl T.m_l_low T.k_l_low T.b_l_low .nil pass0 (pa_cons (pv 1) (pa_cons (pe_ix ix_list (pe_lst (pa_cons pe_int (pa_cons (pe_op op_add pe_int (pe_op op_mod (pe_ix ix_list (pv 0) pe_int (fun _ _ => rfl)) pe_int)) pa_nil))) (pe_op op_mod (pe_op op_fdivB (pe_ix ix_list (pv 0) pe_int (fun _ _ => rfl)) pe_int) pe_int) (fun _ _ => rfl)) pa_nil)))))), z_go (σ := [some _, none]) rfl ?_⟩
  walk_at "run"
  refine z_ixL hL a0 ?_
  walk_at "run"
  refine z_ixL hL a0 ?_
  walk_at "run"
  refine z_ixL hL a0 ?_
  walk_at "run"
  rw [p12']
  walk_at "run"
  refine z_ixL hL a1 ?_
  walk_at "run"
  rw [p6']
  walk_at "run"
  refine z_ixL hL a2 ?_
  walk_at "run"
  rename_i l1 H1 n1 s1 e1
  rw [p17'] at e1
  refine z_ixL (s1.seq hL) a1 ?_
  walk_at "run"
  obtain ⟨tp, htp, t0, t1⟩ : ∃ tp : Int, atI [V.int (d0 % 21 - 10), .int (d0 % 2001 - 1000), .int (d0 * 1000000000000 + d1 * 1000000 + d2 - 5 * 100000000000000000)] (d1 % 7 / 3) = some (.int tp) ∧ -1000000000000000000 < tp ∧ tp < 1000000000000000000 := by
    rcases (by omega : d1 % 7 / 3 = 0 ∨ d1 % 7 / 3 = 1 ∨ d1 % 7 / 3 = 2) with e | e | e <;> rw [e] <;> exact ⟨_, rfl, by omega, by omega⟩
  refine z_ixL (SqL.of e1) htp ?_
  walk_at "run"
  refine z_ixL (s1.seq hL) a2 ?_
  walk_at "run"
  rename_i l2 H2 n2 s2 e2
  refine z_ixL (s2.seq (s1.seq hL)) a2 ?_
  walk_at "run"
  obtain ⟨bt, hbt, c0, c1⟩ : ∃ bt : Int, atI [V.int 1, .int (1 + d2 % 60)] (d2 / 60 % 2) = some (.int bt) ∧ 1 ≤ bt ∧ bt ≤ 60 := by
    rcases (by omega : d2 / 60 % 2 = 0 ∨ d2 / 60 % 2 = 1) with e | e <;> rw [e] <;> exact ⟨_, rfl, by omega, by omega⟩
  refine z_ixL (SqL.of e2) hbt ?_
  walk_at "run"
  refine ⟨tp, bt, rfl, by omega, (bd_60 (by omega) (by omega)).mono (by decide), fun p H3 x y s3 e3 y0 y1 g xb => ?_⟩
  exact q _ _ (x, y) (s1.trans (s2.trans s3)) ⟨p, rfl, ⟨SqT.of e3, y0, (bd_60 (by omega) (by omega)).mono (by decide), (bd_60 (by omega) (by omega)).mono (by decide)⟩, g⟩
def sp_more47 (K : PySem.W.Frag) : Sp := fun vs H Q _ => ∃ (v : V) (c : Int × Int) (l : Addr) (e0 e1 : Int) (ds : List Int), vs = [v, .ref l] ∧ Cl K H v (some c) ∧ SqL K H l ((e0 :: e1 :: ds).map V.int) ∧ (0 ≤ e0 ∧ e0 < 1000000) ∧ (0 ≤ e1 ∧ e1 < 1000000) ∧ ∀ (v : V) (H' : Hp) (c : Int × Int), Same H H' → Nu K H' v c → Q v H'
theorem ok_l_more (T : Txt K mg t) : FnOk P w K mg base CX0 2 t.f_l_more t.d_l_more ["_law_one", "_law_d"] (sp_more47 K) := by
  have G_l_low := ok_l_low (P := P) (w := w) (base := base) T
  refine T.F_l_more.ok sc_l_more (fun vs H Q E h => ?_) (fun cdv A outer s H vs Q E hr h => ?_)
  · obtain ⟨v, c, l, e0, e1, ds, rfl, _⟩ := h
    rfl
  obtain ⟨v, ⟨x, y⟩, l, e0, e1, ds, rfl, hc, hL, b0, b1, q⟩ := h
  obtain ⟨p, rfl, r, g⟩ := hc
  have hp := r.s
  have a0 : atI ((e0 :: e1 :: ds).map V.int) 0 = some (.int e0) := atI_nat (j := 0) rfl
  have a1 : atI ((e0 :: e1 :: ds).map V.int) 1 = some (.int e1) := atI_nat (j := 1) rfl
  generalize (e0 :: e1 :: ds).map V.int = dd at *
  refine ⟨_, (pss_one (ps_ret (pe_call G_l_low (hr.mono (by decide)) rfl T.m_l_low T.k_l_low T.b_l_low .nil pass0 (pa_cons (pe_op op_add (pe_op op_add (pe_ix ix_tup (pv 0) pe_int (fun _ _ => rfl)) pe_int) (pe_ix ix_list (pe_lst (pa_cons (pe_op op_mod (pe_ix ix_list (pv 1) pe_int (fun _ _ => rfl)) pe_int) (pa_cons (pe_op op_mod (pe_ix ix_list (pv 1) pe_int (fun _ _ => rfl)) pe_int) pa_nil))) (pe_op op_mod (pe_ix ix_list (pv 1) pe_int (fun _ _ => rfl)) pe_int) (fun _ _ => rfl))) (pa_cons (pe_ix ix_tup (pv 0) pe_int (fun _ _ => rfl)) pa_nil))))), z_go (σ := [some _, some _]) rfl ?_⟩
  walk_at "run"
  refine z_ixL hL a0 ?_
  walk_at "run"
  refine z_ixL hL a0 ?_
  walk_at "run"
  rename_i l1 H1 n1 s1 f1
  refine z_ixL (s1.seq hL) a1 ?_
  walk_at "run"
  obtain ⟨k, hk, k0, k1⟩ : ∃ k : Int, atI [V.int (e0 % 9), .int (e0 % 1000)] (e1 % 2) = some (.int k) ∧ 0 ≤ k ∧ k < 1000 := by
    rcases (by omega : e1 % 2 = 0 ∨ e1 % 2 = 1) with e | e <;> rw [e] <;> exact ⟨_, rfl, by omega, by omega⟩
  refine z_ixL (SqL.of f1) hk ?_
  have hp1 := s1.tup hp
  walk_at "run"
  refine ⟨x + 1 + k, y, rfl, r.pos, r.bb.mono (by decide), fun p2 H2 x2 y2 s2 e2 y0 y1 g2 xb => ?_⟩
  have bx : My.Bd 72 (x + 1 + k) := (r.ba.add ((bd_60 (n := 1) (by decide) (by decide)).mono (by decide))).add ((bd_60 (n := k) (by omega) (by omega)).mono (by decide))
  exact q _ _ (x2, y2) (s1.trans s2) ⟨p2, 72, rfl, ⟨SqT.of e2, y0, My.Bd.of_natAbs xb bx, (My.Bd.of_le r.bb (by omega) y1).mono (by decide)⟩, by decide, g2⟩
theorem join0 : ∀ (cs : List Nat), My.cs (Str.join "" (cs.map fun c => (⟨#[c]⟩ : Str))) = cs
  | [] => rfl
  | [c] => rfl
  | c :: d :: r => by
    show My.cs ((⟨#[c]⟩ : Str) ++ "" ++ Str.join "" ((d :: r).map fun c => (⟨#[c]⟩ : Str))) = _
    rw [My.cs_app, My.cs_app, join0 (d :: r)]
    rfl
theorem join_one (cs : List Nat) : My.cs (PySem.Txt.join "" (cs.map fun c => (⟨#[c]⟩ : Str))) = cs := by
  show My.cs (Builtin.Str.glued "" _) = _
  rw [PySem.StrLaws.glued_eq_join]
  exact join0 cs
theorem one_strs : ∀ {xs : List V} {f : Nat → Bool}, (∀ (i : Nat) (v : V), xs[i]? = some v → ∃ c, f c = true ∧ v = V.str ⟨#[c]⟩) → ∃ cs : List Nat, xs = (cs.map fun c => (⟨#[c]⟩ : Str)).map V.str ∧ cs.all f = true
  | [], _, _ => ⟨[], rfl, rfl⟩
  | x :: r, f, h => by
    obtain ⟨c, hc, rfl⟩ := h 0 x rfl
    obtain ⟨cs, rfl, ha⟩ := one_strs (xs := r) (f := f) fun i v e => h (i + 1) v e
    exact ⟨c :: cs, rfl, by rw [List.all_cons, hc, ha]; rfl⟩
theorem joinOk1 (cs : List Nat) (h : cs.length ≤ 1000) : PySem.JoinOk "" (cs.map fun c => (⟨#[c]⟩ : Str)) = true := by
  unfold PySem.JoinOk
  rw [PySem.StrLaws.joinFits (B := 1) (fun x hx => by
    obtain ⟨c, _, rfl⟩ := List.mem_map.mp hx
    exact Nat.le_refl _) (by
    rw [List.length_map, show ("" : Str).length = 0 from rfl]
    omega)]
  rfl
def sp_word47 (K : PySem.W.Frag) : Sp := fun vs H Q _ => ∃ (l : Addr) (d0 d1 d2 k : Int) (ds : List Int), vs = [.ref l, .int k] ∧ SqL K H l ((d0 :: d1 :: d2 :: ds).map V.int) ∧ (0 ≤ d2 ∧ d2 < 1000000) ∧ ∀ (z : Str) (H' : Hp), Same H H' → z.length ≤ 13 → Q (.str z) H'
theorem at26 {d : Int} (h0 : 0 ≤ d) (h1 : d < 26) : ∃ c, atI ("abcdefghijklmnopqrstuvwxyz" : Str).cps.toList d = some c := by
  have e : ("abcdefghijklmnopqrstuvwxyz" : Str).cps.toList.length = 26 := by decide
  obtain ⟨k, rfl⟩ := Int.eq_ofNat_of_zero_le h0
  exact ⟨_, atI_nat (List.getElem?_eq_getElem (by rw [e]; omega))⟩
theorem ok_l_word (T : Txt K mg t) : FnOk P w K mg base CX0 1 t.f_l_word t.d_l_word ["_law_d", "_law_k"] (sp_word47 K) := by
  refine T.F_l_word.ok sc_l_word (fun vs H Q E h => ?_) (fun cdv A outer s H vs Q E hr h => ?_)
  · obtain ⟨l, d0, d1, d2, k, ds, rfl, _⟩ := h
    rfl
  obtain ⟨l, d0, d1, d2, k, ds, rfl, hL, b2, q⟩ := h
  have a0 : atI ((d0 :: d1 :: d2 :: ds).map V.int) 0 = some (.int d0) := atI_nat (j := 0) rfl
  have a1 : atI ((d0 :: d1 :: d2 :: ds).map V.int) 1 = some (.int d1) := atI_nat (j := 1) rfl
  have a2 : atI ((d0 :: d1 :: d2 :: ds).map V.int) 2 = some (.int d2) := atI_nat (j := 2) rfl
  generalize (d0 :: d1 :: d2 :: ds).map V.int = dd at *
  refine ⟨_, (pss_cons (ps_set (i := 2) sc_l_word.nd rfl (Or.inr rfl) pe_str)
  (pss_cons (ps_set (i := 3) sc_l_word.nd rfl (Or.inl rfl) (pe_op op_mod (pe_ix ix_list (pv 0) pe_int (fun _ _ => rfl)) pe_int))
  (pss_cons (ps_set (i := 4) sc_l_word.nd rfl (Or.inl rfl) (pe_bm PySem.F.plainAttrs_str PySem.F.slot_str_join PySem.F.type_str_join mt_join pe_str (pa_cons (pe_lc rfl (compOk_of (fr := [("_law_d", 0), ("_law_letters", 2)]) (osc := defScope s_l_word) (N := ["_law_d", "_law_k", "_law_letters", "_law_spot", "_law_rest"]) rfl rfl (by decide +kernel)) (pi_range1 rfl T.z_range (pa_cons (pe_op op_mod (pe_ix ix_list (pv 0) pe_int (fun _ _ => rfl)) pe_int) pa_nil)) (fun _ _ _ _ _ => (pe_ix (r := rIxS) ix_str (pv 2) (pe_op op_mod (pe_op op_fdivB (pe_ix (r := rIxL K) ix_list (pv 1) pe_int (fun _ _ => rfl)) (pe_ix (r := rIxL K) ix_list (pe_lst (pa_ints [1, 26, 676, 17576, 3, 79] rfl)) (pv 0) (fun _ _ => rfl))) pe_int) (fun _ _ => rfl)))) pa_nil)))
  (pss_one (ps_ret (pe_op op_addS (pe_op op_addS (pe_slice sl_str (pv 4) po_none (po_some (pv 3))) (pe_ix ix_str (pv 2) (pe_op op_mod (pe_op op_add (pe_op op_fdivB (pe_ix ix_list (pv 0) pe_int (fun _ _ => rfl)) pe_int) (pv 1)) pe_int) (fun _ _ => rfl))) (pe_slice sl_str (pv 4) (po_some (pv 3)) po_none))))))), z_go (σ := [some _, some _, none, none, none]) rfl ?_⟩
  walk_at "run"
  refine z_ixL hL a0 ?_
  walk_at "run"
  refine z_ixL hL a2 ?_
  walk_at "run"
  refine z_r1N (by omega) (by omega) ?_
  refine lcn_rangeP (fun _ v => ∃ c, (fun _ => true) c = true ∧ v = .str ⟨#[c]⟩) (le_size (by omega)) ?_ ?_
  · intro i H2 S hi s2 kk
    have hL2 := s2.seq hL
    walk_at "run"
    refine z_ixL hL2 a1 ?_
    walk_at "run"
    rename_i l3 H3 n3 s3 e3
    obtain ⟨m, hm, m0, m1⟩ : ∃ m : Int, atI [V.int 1, .int 26, .int 676, .int 17576, .int 3, .int 79] (0 + (i : Int)) = some (.int m) ∧ 0 < m ∧ m ≤ 17576 := by
      rcases (by omega : i = 0 ∨ i = 1 ∨ i = 2 ∨ i = 3 ∨ i = 4 ∨ i = 5) with e | e | e | e | e | e <;> subst e <;> exact ⟨_, rfl, by decide, by decide⟩
    refine z_ixL (SqL.of e3) hm ?_
    have mm : Mid m := midB (by omega) (by omega)
    walk_at "run"
    obtain ⟨c, hc⟩ := at26 (Int.emod_nonneg (d1 / m) (by decide)) (Int.emod_lt_of_pos (d1 / m) (show (0 : Int) < 26 by decide))
    refine z_ixS (by decide) hc ?_
    exact kk _ _ s3 ⟨c, rfl, rfl⟩
  · intro acc xs H2 hacc hlen hxs s2 ha
    obtain ⟨cs, rfl, _⟩ := one_strs hxs
    rw [List.length_map, List.length_map] at hlen
    have hL2 := s2.seq hL
    walk_at "run"
    refine z_join (SqL.of ha) (joinOk1 cs (by omega)) ?_
    have hj := join_one cs
    have jl : (PySem.Txt.join "" (cs.map fun c => (⟨#[c]⟩ : Str))).length ≤ 6 := by rw [← My.cs_len, hj]; omega
    generalize PySem.Txt.join "" (cs.map fun c => (⟨#[c]⟩ : Str)) = rz at jl
    walk_at "run"
    refine z_ixL hL2 a2 ?_
    walk_at "run"
    obtain ⟨c, hc⟩ := at26 (Int.emod_nonneg (d2 / 7 + k) (by decide)) (Int.emod_lt_of_pos (d2 / 7 + k) (show (0 : Int) < 26 by decide))
    refine z_ixS (by decide) hc ?_
    walk_at "run"
    refine q _ _ s2 (Nat.le_trans (sln_app (sln_app (sln_sl jl) (sln_one c)) (sln_sl jl)) (by decide))

/-! the law's own: wishes -/
def sp_wish47 (K : PySem.W.Frag) : Sp := fun vs H Q _ => ∃ (l m : Addr) (e0 e1 e2 e3 e4 e5 : Int), vs = [.ref l, .ref m] ∧ SqL K H l ([e0, e1, e2, e3, e4, e5].map V.int) ∧ H m = some (.lst [.str "straight"]) ∧ e0 = 0 ∧ e1 % 2 = 1 ∧ (0 ≤ e1 ∧ e1 < 1000000) ∧ (0 ≤ e2 ∧ e2 < 1000000) ∧ (0 ≤ e3 ∧ e3 < 1000000) ∧ (0 ≤ e4 ∧ e4 < 1000000) ∧ (0 ≤ e5 ∧ e5 < 1000000) ∧ ∀ (v : V) (H' : Hp) (lo hi : Int × Int), Same H H' → Wi K H' v (.told lo hi) → Q v H'
theorem ok_l_wish (T : Txt K mg t) : FnOk P w K mg base CX0 3 t.f_l_wish t.d_l_wish ["_law_d", "_law_wanted"] (sp_wish47 K) := by
  have G_l_number := ok_l_number (P := P) (w := w) (base := base) T
  have G_l_more := ok_l_more (P := P) (w := w) (base := base) T
  refine T.F_l_wish.ok sc_l_wish (fun vs H Q E h => ?_) (fun cdv A outer s H vs Q E hr h => ?_)
  · obtain ⟨l, m, e0, e1, e2, e3, e4, e5, rfl, _⟩ := h
    rfl
  obtain ⟨l, m, e0, e1, e2, e3, e4, e5, rfl, hL, hm, h0, hodd, b1, b2, b3, b4, b5, q⟩ := h
  have a0 : atI ([e0, e1, e2, e3, e4, e5].map V.int) 0 = some (.int e0) := rfl
  have a1 : atI ([e0, e1, e2, e3, e4, e5].map V.int) 1 = some (.int e1) := rfl
  have c1 : cutV ([e0, e1, e2, e3, e4, e5].map V.int) (some 1) (some 4) = (e1 :: e2 :: e3 :: []).map V.int := cut_nn _ 1 4
  have c2 : cutV ([e0, e1, e2, e3, e4, e5].map V.int) (some 4) (some 6) = (e4 :: e5 :: []).map V.int := cut_nn _ 4 6
  generalize [e0, e1, e2, e3, e4, e5].map V.int = dd at *
  subst h0
  refine ⟨_, (pss_cons (ps_set (i := 2) sc_l_wish.nd rfl (Or.inl rfl) (pe_ix ix_list (pv 1) (pe_op op_mod (pe_ix ix_list (pv 0) pe_int (fun _ _ => rfl)) (pe_callB call_len_seq rfl T.z_len PySem.boot_len (pa_cons (pv 1) pa_nil))) (fun _ _ => rfl)))
  (pss_cons (ps_set (i := 3) sc_l_wish.nd rfl (Or.inl rfl) (pe_call G_l_number (hr.mono (by decide)) rfl T.m_l_number T.k_l_number T.b_l_number .nil pass0 (pa_cons (pe_slice sl_list (pv 0) (po_some pe_int) (po_some pe_int)) pa_nil)))
  (pss_cons (ps_if (pt_cmpR op_eq (pv 2) pe_str (nomark _)) (pss_one ps_never) pss_nil)
  (pss_cons (ps_if (PW.pt (pw_and (pt_cmpR op_eq (pv 2) pe_str (nomark _)) (pw_and1 (pt_cmpR op_eq (pe_op op_mod (pe_ix ix_list (pv 0) pe_int (fun _ _ => rfl)) pe_int) pe_int (nomark _))))) (pss_one (ps_ret (pe_tup (pa_cons (pv 2) (pa_cons (pv 3) (pa_cons (pe_call G_l_more (hr.mono (by decide)) rfl T.m_l_more T.k_l_more T.b_l_more .nil pass0 (pa_cons (pv 3) (pa_cons (pe_slice sl_list (pv 0) (po_some pe_int) (po_some pe_int)) pa_nil))) pa_nil)))))) pss_nil)
  (pss_cons (ps_if (pt_cmpR op_eq (pv 2) pe_str (nomark _)) (pss_cons ps_never
  (pss_cons ps_never
  (pss_one ps_never))) pss_nil)
  (pss_cons (ps_if (PW.pt (pw_and (pt_cmpR op_eq (pv 2) pe_str (nomark _)) (pw_and1 (pt_cmpR op_eq (pe_op op_mod (pe_ix ix_list (pv 0) pe_int (fun _ _ => rfl)) pe_int) pe_int (nomark _))))) (pss_one ps_never) pss_nil)
  (pss_one (ps_ret (pe_tup (pa_cons (pv 2) pa_nil)))))))))), z_go (σ := [some _, some _, none, none, none, none]) rfl ?_⟩
  walk_at "run"
  refine z_ixL hL a0 ?_
  walk_at "run"
  refine z_ixL (SqL.of hm) (show atI [V.str "straight"] (0 % 1) = some (.str "straight") from rfl) ?_
  walk_at "run"
  refine z_slLm hL (fun l1 H1 n1 s1 f1 => ?_)
  rw [c1] at f1
  walk_at "run"
  refine ⟨l1, e1, e2, e3, [], rfl, SqL.of f1, b1, b2, b3, fun lo H2 cl s2 hlo => ?_⟩
  have hL2 := s2.seq (s1.seq hL)
  walk_at "run"
  refine z_iteD (fun h => absurd h (by decide)) (fun _ => ?_)
  walk_at "run"
  refine z_iteD (fun _ => ?_) (fun h => absurd rfl h)
  walk_at "run"
  refine z_ixL hL2 a1 ?_
  walk_at "run"
  refine z_iteD (fun _ => ?_) (fun h => absurd hodd h)
  walk_at "run"
  refine z_slLm hL2 (fun l3 H3 n3 s3 f3 => ?_)
  rw [c2] at f3
  walk_at "run"
  refine ⟨lo, cl, l3, e4, e5, [], rfl, hlo.same s3, SqL.of f3, b4, b5, fun hi H4 ch s4 hhi => ?_⟩
  walk_at "run"
  rename_i p5 H5 n5 s5 f5
  exact q _ _ cl ch (s1.trans (s2.trans (s3.trans (s4.trans s5)))) ⟨p5, lo, hi, rfl, SqT.of f5, (hlo.nu).same (s3.trans (s4.trans s5)), hhi.same s5⟩
/-- a wish or nothing -/
def WiO (K : PySem.W.Frag) (H : Hp) (v : V) : Option Wsh → Prop
  | none => v = .non
  | some x => Wi K H v x
theorem WiO.same {K : PySem.W.Frag} {H H' : Hp} {v : V} {x : Option Wsh} (s : Same H H') (h : WiO K H v x) : WiO K H' v x := by
  cases x with
  | none => exact h
  | some x => exact Wi.same s h
def sp_wishby (K : PySem.W.Frag) : Sp := fun vs H Q _ => ∃ (l : Addr) (d0 d1 d2 d3 d4 d5 : Int), vs = [.ref l] ∧ SqL K H l ([d0, d1, d2, d3, d4, d5].map V.int) ∧ (0 ≤ d0 ∧ d0 < 1000000) ∧ (0 ≤ d1 ∧ d1 < 1000000) ∧ (0 ≤ d2 ∧ d2 < 1000000) ∧ (0 ≤ d3 ∧ d3 < 1000000) ∧ (0 ≤ d4 ∧ d4 < 1000000) ∧ (0 ≤ d5 ∧ d5 < 1000000) ∧ ∀ (v : V) (H' : Hp) (x : Option Wsh), Same H H' → WiO K H' v x → Q v H'
theorem ok_l_wish_by (T : Txt K mg t) : FnOk P w K mg base CX0 4 t.f_l_wish_by t.d_l_wish_by ["_law_d"] (sp_wishby K) := by
  have G_l_wish := ok_l_wish (P := P) (w := w) (base := base) T
  refine T.F_l_wish_by.ok sc_l_wish_by (fun vs H Q E h => ?_) (fun cdv A outer s H vs Q E hr h => ?_)
  · obtain ⟨l, d0, d1, d2, d3, d4, d5, rfl, _⟩ := h
    rfl
  obtain ⟨l, d0, d1, d2, d3, d4, d5, rfl, hL, b0, b1, b2, b3, b4, b5, q⟩ := h
  have a0 : atI ([d0, d1, d2, d3, d4, d5].map V.int) 0 = some (.int d0) := rfl
  have a1 : atI ([d0, d1, d2, d3, d4, d5].map V.int) 1 = some (.int d1) := rfl
  have c2 : cutV ([d0, d1, d2, d3, d4, d5].map V.int) (some 2) (some 6) = [.int d2, .int d3, .int d4, .int d5] := cut_nn _ 2 6
  generalize [d0, d1, d2, d3, d4, d5].map V.int = dd at *
  refine ⟨_, (pss_cons (ps_if (pt_cmpR op_eq (pe_op op_mod (pe_ix ix_list (pv 0) pe_int (fun _ _ => rfl)) pe_int) pe_int (nomark _)) (pss_one (ps_ret pe_non)) pss_nil)
  (pss_one (ps_ret (pe_ix ix_list (pe_lst (pa_cons (pe_tup (pa_cons pe_str pa_nil)) (pa_cons (pe_call G_l_wish (hr.mono (by decide)) rfl T.m_l_wish T.k_l_wish T.b_l_wish .nil pass0 (pa_cons (pe_op op_cat (pe_op op_cat (pe_lst (pa_cons pe_int pa_nil)) (pe_lst (pa_cons (pe_op op_add (pe_op op_mulB (pe_op op_fdivB (pe_ix ix_list (pv 0) pe_int (fun _ _ => rfl)) pe_int) pe_int) pe_int) pa_nil))) (pe_slice sl_list (pv 0) (po_some pe_int) (po_some pe_int))) (pa_cons (pe_lst (pa_cons pe_str pa_nil)) pa_nil))) pa_nil))) (pe_op op_fdivB (pe_op op_mod (pe_ix ix_list (pv 0) pe_int (fun _ _ => rfl)) pe_int) pe_int) (fun _ _ => rfl))))), z_go (σ := [some _]) rfl ?_⟩
  walk_at "run"
  refine z_ixL hL a0 ?_
  walk_at "run"
  refine z_iteD (fun h => ?_) (fun h => ?_)
  · walk_at "run"
    exact q _ _ none (Same.refl _) rfl
  walk_at "run"
  rename_i p1 H1 n1 s1 f1 l2 H2 n2 s2 f2
  refine z_ixL (s2.seq (s1.seq hL)) a1 ?_
  walk_at "run"
  rename_i l3 H3 n3 s3 f3 l4 H4 n4 s4 f4
  have hL4 := s4.seq (s3.seq (s2.seq (s1.seq hL)))
  refine z_slLm hL4 (fun l5 H5 n5 s5 f5 => ?_)
  rw [c2] at f5
  walk_at "run"
  rename_i l6 H6 n6 s6 f6 l7 H7 n7 s7 f7
  refine ⟨l6, l7, 0, d1 / 2 * 2 + 1, d2, d3, d4, d5, rfl, SqL.of (s7 _ _ f6), f7, rfl, by omega, by omega, b2, b3, b4, b5, fun v H8 lo hi s8 hv => ?_⟩
  have hL8 := s8.seq (s7.seq (s6.seq (s5.seq hL4)))
  have hp8 := s8.tup (s7.tup (s6.tup (s5.tup (s4.tup (s3.tup (s2.tup (SqT.of (K := K) f1)))))))
  have sH8 : Same H H8 := s1.trans (s2.trans (s3.trans (s4.trans (s5.trans (s6.trans (s7.trans s8))))))
  clear f2 f3 f4 f5 f6 f7 f1 s1 s2 s3 s4 s5 s6 s7 s8 n1 n2 n3 n4 n5 n6 n7 hL4
  walk_at "run"
  rename_i l9 H9 n9 s9 f9
  refine z_ixL (s9.seq hL8) a0 ?_
  walk_at "run"
  rcases (by omega : d0 % 5 / 3 = 0 ∨ d0 % 5 / 3 = 1) with e | e
  · rw [e]
    refine z_ixL (SqL.of f9) (show atI [V.ref p1, v] 0 = some (.ref p1) from rfl) ?_
    exact q _ _ (some .free) (sH8.trans s9) ⟨p1, rfl, s9.tup hp8⟩
  · rw [e]
    refine z_ixL (SqL.of f9) (show atI [V.ref p1, v] 1 = some v from rfl) ?_
    exact q _ _ (some (.told lo hi)) (sH8.trans s9) (hv.same s9)
/-! the law's own: what is due -/
/-- what a colour's or a size's wish is -/
inductive Wd7 where
  | no | order | on (x : Wsh)
def Wk (K : PySem.W.Frag) (H : Hp) (v : V) : Wd7 → Prop
  | .no => v = .non
  | .order => ∃ p, v = .ref p ∧ SqT K H p [.str "order"]
  | .on x => Wi K H v x
theorem Wk.same {K : PySem.W.Frag} {H H' : Hp} {v : V} {x : Wd7} (s : Same H H') (h : Wk K H v x) : Wk K H' v x := by
  cases x with
  | no => exact h
  | order => obtain ⟨p, e, h⟩ := h; exact ⟨p, e, s.tup h⟩
  | on x => exact Wi.same s h
def dueOf (x : Wd7) (cs : List (Option (Int × Int))) : Option ((Int × Int) × (Int × Int)) := match x with
  | .no => none
  | .order => none
  | .on x => some (scaleOf x cs)
theorem z_joinV {c : TT} {te : TE} {k : Nat} {σ σ' : St} {H : Hp} {R bk ct : St → Hp → Prop} {rt : VK} (b : Bool) (v1 v2 : V) (hc : ∀ S : Bool → Hp → Prop, S b H → c σ H S) (h1 : b = true → ∀ S : V → Hp → Prop, S v1 H → te σ H S) (hold : GetTo σ k v2) (hs : SetTo σ k (some (if b = true then v1 else v2)) σ') (q : R σ' H) :
    tIfS c (tAsg te (gName k)) tNext ⟨R, rt, bk, ct⟩ σ H := by
  refine hc _ ?_
  cases b with
  | true =>
    refine iteT (h1 rfl _ ?_)
    show R (σ.set k (some v1)) H
    have := hs.eq
    rw [if_pos rfl] at this
    rw [this]; exact q
  | false =>
    refine iteF ?_
    show R σ H
    have e := hs.eq
    rw [if_neg Bool.false_ne_true] at e
    have e2 : σ.set k (some v2) = σ := by
      apply List.ext_getElem?
      intro j
      rw [List.getElem?_set]
      split
      · next z =>
        subst z
        have := hold.eq
        rw [this]
        split
        · rfl
        · next y => rw [List.getElem?_eq_none (by omega)] at this; cases this
      · rfl
    rw [← e2, e]; exact q
local macro_rules | `(tactic| walk_at "ji") => `(tactic| ((with_reducible apply z_joinV); (focus ((intro S q); (walk_at "run"); (exact q))); (focus ((intro hb S q); (walk_at "run"); (exact q))); (focus (walk_at "get")); (focus (walk_at "set"))))
def sp_due47 (K : PySem.W.Frag) : Sp := fun vs H Q _ => ∃ (v : V) (l : Addr) (len : Int) (x : Wd7) (zs : List V) (cs : List (Option (Int × Int))), vs = [v, .ref l, .int len] ∧ Wk K H v x ∧ SqL K H l zs ∧ (∀ y, x = .on y → Cls K H zs cs) ∧ zs.length ≤ 100 ∧ ∀ (v : V) (H' : Hp), Same H H' → ScaO K H' v len (dueOf x cs) → Q v H'
theorem ok_l_due (T : Txt K mg t) : FnOk P w K mg base CX0 1 t.f_l_due t.d_l_due ["_law_wish_here", "_law_cells", "_law_length"] (sp_due47 K) := by
  refine T.F_l_due.ok sc_l_due (fun vs H Q E h => ?_) (fun cdv A outer s H vs Q E hr h => ?_)
  · obtain ⟨v, l, len, x, zs, cs, rfl, _⟩ := h
    rfl
  obtain ⟨v, l, len, x, zs, cs, rfl, hx, hL, hC, hzl, q⟩ := h
  refine ⟨_, (pss_cons (ps_if (PW.pt (pw_or (pt_cmpR op_isN' (pv 0) pe_non (nomark _)) (pw_or1 (pt_cmpR op_eq (pe_ix ix_tup (pv 0) pe_int (fun _ _ => rfl)) pe_str (nomark _))))) (pss_one (ps_ret pe_non)) pss_nil)
  (pss_cons (ps_if (pt_cmpR op_eq (pe_callB call_len_seq rfl T.z_len PySem.boot_len (pa_cons (pv 0) pa_nil)) pe_int (nomark _)) (pss_one (ps_ret (pe_tup (pa_cons pe_str (pa_cons (pe_ix ix_tup (pv 0) pe_int (fun _ _ => rfl)) (pa_cons (pe_ix ix_tup (pv 0) pe_int (fun _ _ => rfl)) (pa_cons (pv 2) pa_nil))))))) pss_nil)
  (pss_cons (ps_setLCIf (iy := 3) sc_l_due.nd rfl (Or.inl rfl) (tg := "_law_cell") (fr := []) rfl (compOkG_of (osc := defScope s_l_due) (N := ["_law_wish_here", "_law_cells", "_law_length", "_law_there", "_law_lo", "_law_hi", "_law_cell"]) rfl rfl (by decide +kernel)) (pi_list (pv 1)) (fun _ _ _ _ _ => (pt_cmpR op_notN' (pv 0) pe_non (nomark _))) (fun _ _ _ _ _ => (pv 0)))
  (pss_cons (ps_if (pt_cmpR (op_eqE hr.units0) (pv 3) (pe_lst pa_nil) (nomark _)) (pss_one (ps_ret (pe_tup (pa_cons pe_str (pa_cons (pe_tup (pa_cons pe_int (pa_cons pe_int pa_nil))) (pa_cons (pe_tup (pa_cons pe_int (pa_cons pe_int pa_nil))) (pa_cons (pv 2) pa_nil))))))) pss_nil)
  (pss_cons (ps_set (i := 4) sc_l_due.nd rfl (Or.inl rfl) (pe_ix ix_list (pv 3) pe_int (fun _ _ => rfl)))
  (pss_cons (ps_set (i := 5) sc_l_due.nd rfl (Or.inl rfl) (pe_ix ix_list (pv 3) pe_int (fun _ _ => rfl)))
  (pss_cons (ps_for PassesOwn.never rfl (pi_list (pv 3)) (pg_name (i := 6) sc_l_due.nd rfl (Or.inl rfl)) (pss_cons (ps_if (pt_cmpR op_lt (pe_op op_mulB (pe_ix ix_tup (pv 6) pe_int (fun _ _ => rfl)) (pe_ix ix_tup (pv 4) pe_int (fun _ _ => rfl))) (pe_op op_mulB (pe_ix ix_tup (pv 4) pe_int (fun _ _ => rfl)) (pe_ix ix_tup (pv 6) pe_int (fun _ _ => rfl))) (nomark _)) (pss_one (ps_set (i := 4) sc_l_due.nd rfl (Or.inl rfl) (pv 6))) pss_nil)
  (pss_one (ps_if (pt_cmpR op_gt (pe_op op_mulB (pe_ix ix_tup (pv 6) pe_int (fun _ _ => rfl)) (pe_ix ix_tup (pv 5) pe_int (fun _ _ => rfl))) (pe_op op_mulB (pe_ix ix_tup (pv 5) pe_int (fun _ _ => rfl)) (pe_ix ix_tup (pv 6) pe_int (fun _ _ => rfl))) (nomark _)) (pss_one (ps_set (i := 5) sc_l_due.nd rfl (Or.inl rfl) (pv 6))) pss_nil))))
  (pss_cons (ps_if (pt_cmpR (op_eqT hr.units0) (pv 4) (pv 5) (nomark _)) (pss_one (ps_set (i := 5) sc_l_due.nd rfl (Or.inl rfl) (pe_tup (pa_cons (pe_op op_add (pe_ix ix_tup (pv 4) pe_int (fun _ _ => rfl)) (pe_ix ix_tup (pv 4) pe_int (fun _ _ => rfl))) (pa_cons (pe_ix ix_tup (pv 4) pe_int (fun _ _ => rfl)) pa_nil))))) pss_nil)
  (pss_one (ps_ret (pe_tup (pa_cons pe_str (pa_cons (pv 4) (pa_cons (pv 5) (pa_cons (pv 2) pa_nil))))))))))))))), z_go (σ := [some _, some _, some _, none, none, none, none]) rfl ?_⟩
  cases x with
  | no =>
    cases hx
    walk_at "run"
    exact q _ _ (Same.refl _) rfl
  | order =>
    obtain ⟨p, rfl, hp⟩ := hx
    walk_at "run"
    refine z_iteD (fun _ => ?_) (fun h => absurd rfl h)
    walk_at "run"
    exact q _ _ (Same.refl _) rfl
  | on y =>
    have hC1 := hC y rfl
    cases y with
    | told lo hi =>
      obtain ⟨p, va, vb, rfl, hp, h1, h2⟩ := hx
      walk_at "run"
      refine z_iteD (fun h => absurd h (by decide)) (fun _ => ?_)
      walk_at "run"
      refine z_iteD (fun _ => ?_) (fun h => absurd rfl h)
      walk_at "run"
      rename_i p2 H2 n2 s2 e2
      exact q _ _ s2 ⟨_, _, _, rfl, SqT.of e2, h1.same s2, h2.same s2⟩
    | free =>
      obtain ⟨p, rfl, hp⟩ := hx
      walk_at "run"
      refine z_iteD (fun h => absurd h (by decide)) (fun _ => ?_)
      walk_at "run"
      refine z_iteD (fun h => absurd h (by decide)) (fun _ => ?_)
      walk_at "run"
      refine z_lcg ?_
      walk_at "run"
      have hzd : ∀ (i : Nat) (x : V), zs[i]? = some x → zs.getD i .non = x := fun i x h => by rw [List.getD_eq_getElem?_getD, h]; rfl
      refine lcw_list (K := K) (fun i => zs.getD i .non) (fun i => isTh (zs.getD i .non)) hL (le_size (by omega)) (fun i x H2 S hx s2 k => ?_) (fun i x H2 S hx hp s2 k => ?_) (fun acc H1 hacc s1 ha => ?_)
      · have k := k H2 (Same.refl _)
        rw [hzd i x hx] at k
        walk_at "run"
        refine z_notNv ?_
        walk_at "run"
        exact k
      · have k := k H2 (Same.refl _)
        rw [hzd i x hx] at k
        walk_at "run"
        exact k
      rw [picked_filter] at ha
      have hT := (hC1.same s1).there
      have q : ∀ (v : V) (H' : Hp), Same H H' → Sca K H' v (endsOf (cs.filterMap id)) len → Q v H' := q
      have hTl : (zs.filter isTh).length ≤ 100 := Nat.le_trans (List.length_filter_le _ _) hzl
      generalize zs.filter isTh = ts at ha hT hTl
      generalize cs.filterMap id = es at hT q
      have hlen := hT.1
      rw [List.length_map] at hlen
      walk_at "run"
      rename_i l2 H2 n2 s2 e2
      have ha2 := s2 _ _ ha
      refine z_eqE (SqL.of ha2) (SqL.of e2) ?_
      walk_at "run"
      cases es with
      | nil =>
        have hx : ts = [] := List.eq_nil_of_length_eq_zero hlen
        subst hx
        refine iteT ?_
        walk_at "run"
        rename_i p3 H3 n3 s3 e3 p4 H4 n4 s4 e4 p5 H5 n5 s5 e5
        have b01 : My.Bd 60 (0 : Int) := bd_60 (by decide) (by decide)
        have b11 : My.Bd 60 (1 : Int) := bd_60 (by decide) (by decide)
        exact q _ _ (s1.trans (s2.trans (s3.trans (s4.trans s5)))) ⟨_, _, _, rfl, SqT.of e5, ⟨p3, 60, rfl, ⟨SqT.of (s5 _ _ (s4 _ _ e3)), by decide, b01, b11⟩, by decide, by decide⟩, ⟨p4, 60, rfl, ⟨SqT.of (s5 _ _ e4), by decide, b11, b11⟩, by decide, by decide⟩⟩
      | cons c0 es =>
        have hx : ts.isEmpty = false := by
          cases ts with
          | nil => cases hlen
          | cons _ _ => rfl
        rw [hx]
        refine iteF ?_
        rw [List.length_cons] at hlen
        obtain ⟨x0, hx0⟩ : ∃ x0, ts[0]? = some x0 := ⟨_, List.getElem?_eq_getElem (by omega)⟩
        have hT2 := hT.same s2
        obtain ⟨c, hc, h0⟩ := hT2.at hx0
        cases hc
        walk_at "run"
        refine z_ixL (SqL.of ha2) (atI_first hx0) ?_
        walk_at "run"
        refine z_ixL (SqL.of ha2) (atI_first hx0) ?_
        walk_at "run"
        refine f_list (K := K) (xs := ts) (fun i σ HD => ∃ u v v', σ = [some (.ref p), some (.ref l), some (.int len), some (.ref acc), some v, some v', u] ∧ HD = H2 ∧ Cl K H2 v (some (((c0 :: es).take i).foldl leastF c0)) ∧ Cl K H2 v' (some (((c0 :: es).take i).foldl greatF c0))) ⟨_, x0, x0, rfl, rfl, h0, h0⟩ (fun i σ HD _ ⟨_, _, _, _, e, _⟩ => by rw [e]; exact SqL.of ha2) ?_ ?_
        · rintro i v σ HD hi ⟨u, lv, gv, rfl, rfl, hlv, hgv⟩
          obtain ⟨c, hc, hv⟩ := hT2.at hi
          have hf := fold_take leastF c0 hc
          have hg := fold_take greatF c0 hc
          generalize ((c0 :: es).take i).foldl leastF c0 = L at hf hlv
          generalize ((c0 :: es).take i).foldl greatF c0 = G at hg hgv
          obtain ⟨x, y⟩ := c
          obtain ⟨x', y'⟩ := L
          obtain ⟨x'', y''⟩ := G
          have hv0 := hv
          have hlv0 := hlv
          have hgv0 := hgv
          obtain ⟨p1, rfl, r1, _⟩ := hv
          obtain ⟨p2, rfl, r2, _⟩ := hlv
          obtain ⟨p3, rfl, r3, _⟩ := hgv
          have t1 := r1.s
          have t2 := r2.s
          have t3 := r3.s
          walk_at "run"
          refine ⟨_, _, _, rfl, rfl, ?_, ?_⟩
          · rw [hf]
            unfold leastF lessP
            by_cases hh : x * y' < x' * y
            · rw [decide_eq_true hh, if_pos rfl, if_pos rfl]; exact hv0
            · rw [decide_eq_false hh, if_neg Bool.false_ne_true, if_neg Bool.false_ne_true]; exact hlv0
          · rw [hg]
            unfold greatF lessP
            by_cases hh : x'' * y < x * y''
            · rw [decide_eq_true hh, if_pos rfl, if_pos rfl]; exact hv0
            · rw [decide_eq_false hh, if_neg Bool.false_ne_true, if_neg Bool.false_ne_true]; exact hgv0
        · rintro σ HD ⟨u, lv, gv, rfl, rfl, hlv, hgv⟩
          rw [hlen, ← List.length_cons (a := c0), List.take_length] at hlv hgv
          have q : ∀ (v : V) (H' : Hp), Same H H' → Sca K H' v ((c0 :: es).foldl leastF c0, if (c0 :: es).foldl leastF c0 = (c0 :: es).foldl greatF c0 then (((c0 :: es).foldl leastF c0).1 + ((c0 :: es).foldl leastF c0).2, ((c0 :: es).foldl leastF c0).2) else (c0 :: es).foldl greatF c0) len → Q v H' := q
          generalize (c0 :: es).foldl leastF c0 = L at *
          generalize (c0 :: es).foldl greatF c0 = G at *
          obtain ⟨x, y⟩ := L
          obtain ⟨x', y'⟩ := G
          have nlo := hlv.nu
          have nhi := hgv.nu
          obtain ⟨p1, rfl, r, g⟩ := hlv
          obtain ⟨p2, rfl, r', g'⟩ := hgv
          have t1 := r.s
          walk_at "runI"
          walk_at "run"
          refine ⟨p1, p2, [x, y], [x', y'], rfl, rfl, r.s, r'.s, ?_⟩
          walk_at "run"
          refine z_iteD (fun h => ?_) (fun h => ?_)
          · obtain ⟨rfl, rfl⟩ : x = x' ∧ y = y' := by
              simp only [List.cons.injEq, and_true] at h
              exact h
            rw [if_pos rfl] at q
            walk_at "run"
            rename_i p3 H3 n3 s3 e3 p4 H4 n4 s4 e4
            have bx : My.Bd 71 (x + y) := r.ba.add r.bb
            exact q _ _ (s1.trans (s2.trans (s3.trans s4))) ⟨_, _, _, rfl, SqT.of e4, nlo.same (s3.trans s4), ⟨p3, 71, rfl, ⟨SqT.of (s4 _ _ e3), r.pos, bx, r.bb.mono (by decide)⟩, by decide, gcd_add g⟩⟩
          · rw [if_neg (fun e => h (by cases e; rfl))] at q
            walk_at "run"
            rename_i p4 H4 n4 s4 e4
            exact q _ _ (s1.trans (s2.trans s4)) ⟨_, _, _, rfl, SqT.of e4, nlo.same s4, nhi.same s4⟩
def sp_right47 (K : PySem.W.Frag) : Sp := fun vs H Q _ => ∃ (f d : V) (len : Int) (o : Option ((Int × Int) × (Int × Int))), vs = [f, d] ∧ ScaO K H f len o ∧ ScaO K H d len o ∧ Q (.bl true) H
theorem nu_alike {K : PySem.W.Frag} {H : Hp} {n : Nat} {v w : V} {c : Int × Int} (h : Nu K H v c) (g : Nu K H w c) : Alike K H (n + 1) v w := by
  obtain ⟨p, _, rfl, r, _, l⟩ := h
  obtain ⟨p', _, rfl, r', _, l'⟩ := g
  exact alike_num r r' l l' rfl
theorem ok_l_right (T : Txt K mg t) : FnOk P w K mg base CX0 1 t.f_l_right t.d_l_right ["_law_found", "_law_due_here"] (sp_right47 K) := by
  refine T.F_l_right.ok sc_l_right (fun vs H Q E h => ?_) (fun cdv A outer s H vs Q E hr h => ?_)
  · obtain ⟨f, d, len, o, rfl, _⟩ := h
    rfl
  obtain ⟨f, d, len, o, rfl, hf, hd, q⟩ := h
  refine ⟨_, (pss_cons (ps_if (pt_cmpR op_isN' (pv 1) pe_non (nomark _)) (pss_one (ps_ret (pe_cmpR op_isN' (pv 0) pe_non (nomark _)))) pss_nil)
  (pss_one (ps_ret (pe_and (pe_isi isi_tuple rfl rfl T.z_isinstance T.z_tuple bt_tuple (pv 0)) (pe_and (pe_cmpR (op_eqA hr.un150) (pv 0) (pv 1) (nomark _)) (pe_one (pe_not (pe_isi isi_bool rfl rfl T.z_isinstance T.z_bool bt_bool (pe_ix ix_tup (pv 0) pe_int (fun _ _ => rfl)))))))))), z_go (σ := [some _, some _]) rfl ?_⟩
  cases o with
  | none =>
    cases hf
    cases hd
    walk_at "run"
    exact q
  | some e =>
    obtain ⟨p, a, b, rfl, hp, h1, h2⟩ := hf
    obtain ⟨p', a', b', rfl, hp', h1', h2'⟩ := hd
    walk_at "run"
    refine z_alk ⟨1, _, _, by decide, .inl ⟨hp, hp'⟩, rfl, fun j x y hx hy => ?_⟩ ?_
    · match j, hx, hy with
      | 0, hx, hy => cases hx; cases hy; exact .str
      | 1, hx, hy => cases hx; cases hy; exact nu_alike h1 h1'
      | 2, hx, hy => cases hx; cases hy; exact nu_alike h2 h2'
      | 3, hx, hy => cases hx; cases hy; exact .int
      | _ + 4, hx, _ => cases hx
    walk_at "run"
    exact q
/-! k47: the law -/
theorem l18 {ds : List Int} (h : ds.length = 30) : ∃ d0 d1 d2 d3 d4 d5 d6 d7 d8 d9 d10 d11 d12 d13 d14 d15 d16 d17 r, ds = d0 :: d1 :: d2 :: d3 :: d4 :: d5 :: d6 :: d7 :: d8 :: d9 :: d10 :: d11 :: d12 :: d13 :: d14 :: d15 :: d16 :: d17 :: r := by
  match ds, h with
  | d0 :: d1 :: d2 :: d3 :: d4 :: d5 :: d6 :: d7 :: d8 :: d9 :: d10 :: d11 :: d12 :: d13 :: d14 :: d15 :: d16 :: d17 :: r, _ => exact ⟨_, _, _, _, _, _, _, _, _, _, _, _, _, _, _, _, _, _, _, rfl⟩
def wdOf : Option Wsh → Wd7
  | none => .no
  | some x => .on x
theorem WiO.wk {K : PySem.W.Frag} {H : Hp} {v : V} {x : Option Wsh} (h : WiO K H v x) : Wk K H v (wdOf x) := by
  cases x with
  | none => exact h
  | some x => exact h
def chanOf (z : Str) : Wd7 → Chan
  | .no => .no
  | .order => .order
  | .on x => .on z x
theorem wi_ne {K : PySem.W.Frag} {H : Hp} {v : V} {x : Wsh} (h : Wi K H v x) : v ≠ .non := by
  obtain ⟨p, r, rfl, _⟩ := wi_cons h
  exact nofun
theorem chan_pick {K : PySem.W.Frag} {H : Hp} {v : V} {x : Option Wsh} {p : Addr} {z : Str} (h : WiO K H v x) (hp : SqT K H p [.str z, v]) : ∃ cv, atI [V.non, .ref p] (if (!decide (v = V.non)) = true then (1 : Int) else 0) = some cv ∧ Ch K H cv (chanOf z (wdOf x)) := by
  cases x with
  | none =>
    have e : v = .non := h
    subst e
    exact ⟨.non, rfl, rfl⟩
  | some x =>
    rw [decide_eq_false (wi_ne h)]
    exact ⟨.ref p, rfl, p, v, rfl, hp, h⟩
theorem dispS {σ : St} {H : Hp} {Q : VK} {trs : List (TE × TE)} (h : ∀ p H1, H p = none → Same H H1 → H1 p = some (.dK []) → tPairs trs σ H1 fun ps H2 => H2 p = some (.dK []) ∧ ∃ kvs : List (Key × V), ps = kvs.map (fun kv => (kV kv.1, kv.2)) ∧ kvs.length ≤ 15 ∧ Q (.ref p) (upd H2 p (.dK (mergeK [] kvs)))) : tDisp trs σ H Q := fun p hp => h p _ hp (Same.new hp _) upd_same
theorem z_prn {σ : St} {H : Hp} {S : List (V × V) → Hp → Prop} (q : S [] H) : tPairs [] σ H S := q
theorem z_prc {σ : St} {H : Hp} {S : List (V × V) → Hp → Prop} {tk tv : TE} {r : List (TE × TE)} (h : tk σ H fun x H1 => tv σ H1 fun y H2 => tPairs r σ H2 fun ps H3 => S ((x, y) :: ps) H3) : tPairs ((tk, tv) :: r) σ H S := h
local macro_rules | `(tactic| walk_at "sp") => `(tactic| with_reducible (first | refine z_prn ?_ | refine z_prc ?_ | refine z_dget ?_))
/-- the value under a name: the last one wins -/
def gv3 (z0 z1 z2 : Str) (a b c : V) (z : Str) : V := if z2 = z then c else if z1 = z then b else a
theorem val3 {z0 z1 z2 z : Str} {a b c : V} (h : z = z0 ∨ z = z1 ∨ z = z2) : valV (mergeK [] [((Sum.inr z0 : Key), a), (Sum.inr z1, b), (Sum.inr z2, c)]) (Sum.inr z) = some (gv3 z0 z1 z2 a b c z) := by
  have e : mergeK [] [((Sum.inr z0 : Key), a), (Sum.inr z1, b), (Sum.inr z2, c)] = putK (putK (putK [] (Sum.inr z0) a) (Sum.inr z1) b) (Sum.inr z2) c := rfl
  have i0 : ∀ x y : Str, ((Sum.inr x : Key) = Sum.inr y) ↔ x = y := fun x y => ⟨fun h => Sum.inr.inj h, fun h => by rw [h]⟩
  rw [e, valV_put, valV_put, valV_put]
  simp only [i0]
  unfold gv3
  by_cases h2 : z = z2
  · rw [if_pos h2, if_pos h2.symm]
  rw [if_neg h2, if_neg (show ¬ z2 = z from fun q => h2 q.symm)]
  by_cases h1 : z = z1
  · rw [if_pos h1, if_pos h1.symm]
  rw [if_neg h1, if_neg (show ¬ z1 = z from fun q => h1 q.symm)]
  rcases h with h | h | h
  · rw [if_pos h]
  · exact absurd h h1
  · exact absurd h h2
/-- the columns, each a pair -/
def ColT (H : Hp) (cl : List V) (ws : List Str) : Prop := cl.length = ws.length ∧ ∀ (i : Nat) (v : V) (z : Str), cl[i]? = some v → ws[i]? = some z → ∃ p kd, v = .ref p ∧ H p = some (.tup [.str z, .str kd])
theorem ColT.cons {H : Hp} {cl : List V} {ws : List Str} {p : Addr} {z kd : Str} (h : ColT H cl ws) (e : H p = some (.tup [.str z, .str kd])) : ColT H (.ref p :: cl) (z :: ws) := ⟨by rw [List.length_cons, List.length_cons, h.1], fun i v y h1 h2 => by
  cases i with
  | zero => cases h1; cases h2; exact ⟨p, kd, rfl, e⟩
  | succ i => exact h.2 i v y h1 h2⟩
theorem ColT.nil {H : Hp} : ColT H [] [] := ⟨rfl, fun i v z h => by cases h⟩
theorem ColT.same {H H' : Hp} {cl : List V} {ws : List Str} (s : Same H H') (h : ColT H cl ws) : ColT H' cl ws := ⟨h.1, fun i v z h1 h2 => by
  obtain ⟨p, kd, e, f⟩ := h.2 i v z h1 h2
  exact ⟨p, kd, e, s _ _ f⟩⟩
theorem ColT.cols {K : PySem.W.Frag} {H : Hp} {cl : List V} {ws : List Str} (h : ColT H cl ws) : Cols K H cl ws := ⟨h.1, fun i v z h1 h2 => by
  obtain ⟨p, kd, e, f⟩ := h.2 i v z h1 h2
  exact ⟨p, _, e, SqT.of f⟩⟩
section
variable {K : PySem.W.Frag} {H H' : Hp} {v : V} {l : Addr} {ys : List V}
theorem Nu.but {c : Int × Int} (b : But l H H') (hl : H l = some (.lst ys)) (h : Nu K H v c) : Nu K H' v c := by
  obtain ⟨p, n, e, r, hn, g⟩ := h
  exact ⟨p, n, e, ⟨b.tup hl r.s, r.pos, r.ba, r.bb⟩, hn, g⟩
theorem Wi.but {x : Wsh} (b : But l H H') (hl : H l = some (.lst ys)) (h : Wi K H v x) : Wi K H' v x := by
  cases x with
  | free => obtain ⟨p, e, h⟩ := h; exact ⟨p, e, b.tup hl h⟩
  | told lo hi => obtain ⟨p, a, c, e, h, h1, h2⟩ := h; exact ⟨p, a, c, e, b.tup hl h, h1.but b hl, h2.but b hl⟩
theorem WiO.but {x : Option Wsh} (b : But l H H') (hl : H l = some (.lst ys)) (h : WiO K H v x) : WiO K H' v x := by
  cases x with
  | none => exact h
  | some x => exact Wi.but b hl h
theorem Wk.but {x : Wd7} (b : But l H H') (hl : H l = some (.lst ys)) (h : Wk K H v x) : Wk K H' v x := by
  cases x with
  | no => exact h
  | order => obtain ⟨p, e, h⟩ := h; exact ⟨p, e, b.tup hl h⟩
  | on x => exact Wi.but b hl h
theorem Ch.but {x : Chan} (b : But l H H') (hl : H l = some (.lst ys)) (h : Ch K H v x) : Ch K H' v x := by
  cases x with
  | no => exact h
  | order => obtain ⟨p, r, q, e, h, zs, g⟩ := h; exact ⟨p, r, q, e, b.tup hl h, zs, b.tup hl g⟩
  | on z x => obtain ⟨p, wv, e, h, g⟩ := h; exact ⟨p, wv, e, b.tup hl h, g.but b hl⟩
end
theorem But.thenS {l : Addr} {A B C : Hp} (b : But l A B) (s : Same B C) : But l A C := fun x o hx h => s _ _ (b x o hx h)
theorem But.thenB {l : Addr} {A B C : Hp} (b : But l A B) (c : But l B C) : But l A C := fun x o hx h => c x o hx (b x o hx h)
theorem But.seqN {K : PySem.W.Frag} {H0 H H' : Hp} {l a : Addr} {xs : List V} (b : But l H H') (s : Same H0 H) (hn : H0 l = none) (h : SqL K H0 a xs) : SqL K H' a xs := by
  have ne : ∀ o, H0 a = some o → a ≠ l := fun o e z => by rw [z, hn] at e; cases e
  rcases h with (h | ⟨o, h⟩) | h
  · exact .inl (.inl (b _ _ (ne _ h) (s _ _ h)))
  · exact .inl (.inr ⟨o, b _ _ (ne _ h) (s _ _ h)⟩)
  · exact .inr h
/-- an item of the tuple at a reference -/
def tupAt (H : Hp) (j : Nat) : V → V
  | .ref p => match H p with
    | some (.tup ys) => ys.getD j .non
    | _ => .non
  | _ => .non
/-- a row of cells by the columns' names -/
def RowOk (K : PySem.W.Frag) (H : Hp) (ws : List Str) (ok : Str → Prop) (v : V) (gc : Str → Option (Int × Int)) : Prop := ∃ p ys, v = .ref p ∧ H p = some (.tup ys) ∧ ys.length = ws.length ∧ ∀ (j : Nat) (z : Str), ws[j]? = some z → ∃ y, ys[j]? = some y ∧ (ok z → Cl K H y (gc z))
theorem RowOk.same {K : PySem.W.Frag} {H H' : Hp} {ws : List Str} {ok : Str → Prop} {v : V} {gc : Str → Option (Int × Int)} (s : Same H H') (h : RowOk K H ws ok v gc) : RowOk K H' ws ok v gc := by
  obtain ⟨p, ys, e, h1, h2, h3⟩ := h
  refine ⟨p, ys, e, s _ _ h1, h2, fun j z hz => ?_⟩
  obtain ⟨y, hy, hc⟩ := h3 j z hz
  exact ⟨y, hy, fun o => (hc o).same s⟩
theorem RowOk.but {K : PySem.W.Frag} {H H' : Hp} {l : Addr} {xs : List V} {ws : List Str} {ok : Str → Prop} {v : V} {gc : Str → Option (Int × Int)} (b : But l H H') (hl : H l = some (.lst xs)) (h : RowOk K H ws ok v gc) : RowOk K H' ws ok v gc := by
  obtain ⟨p, ys, e, h1, h2, h3⟩ := h
  refine ⟨p, ys, e, b _ _ (fun z => by rw [z, hl] at h1; cases h1) h1, h2, fun j z hz => ?_⟩
  obtain ⟨y, hy, hc⟩ := h3 j z hz
  exact ⟨y, hy, fun o => (hc o).but b hl⟩
def RowsOk (K : PySem.W.Frag) (H : Hp) (ws : List Str) (ok : Str → Prop) (rs : List V) (gs : List (Str → Option (Int × Int))) : Prop := rs.length = gs.length ∧ ∀ (i : Nat) (v : V) (g : Str → Option (Int × Int)), rs[i]? = some v → gs[i]? = some g → RowOk K H ws ok v g
theorem RowsOk.same {K : PySem.W.Frag} {H H' : Hp} {ws : List Str} {ok : Str → Prop} {rs : List V} {gs : List (Str → Option (Int × Int))} (s : Same H H') (h : RowsOk K H ws ok rs gs) : RowsOk K H' ws ok rs gs := ⟨h.1, fun i v g h1 h2 => (h.2 i v g h1 h2).same s⟩
theorem RowsOk.but {K : PySem.W.Frag} {H H' : Hp} {l : Addr} {xs : List V} {ws : List Str} {ok : Str → Prop} {rs : List V} {gs : List (Str → Option (Int × Int))} (b : But l H H') (hl : H l = some (.lst xs)) (h : RowsOk K H ws ok rs gs) : RowsOk K H' ws ok rs gs := ⟨h.1, fun i v g h1 h2 => (h.2 i v g h1 h2).but b hl⟩
theorem RowsOk.snoc {K : PySem.W.Frag} {H : Hp} {ws : List Str} {ok : Str → Prop} {rs : List V} {gs : List (Str → Option (Int × Int))} {v : V} {g : Str → Option (Int × Int)} (h : RowsOk K H ws ok rs gs) (hv : RowOk K H ws ok v g) : RowsOk K H ws ok (rs ++ [v]) (gs ++ [g]) := by
  refine ⟨by rw [List.length_append, List.length_append, h.1]; rfl, fun i u k h1 h2 => ?_⟩
  rcases Nat.lt_or_ge i rs.length with q | q
  · rw [List.getElem?_append_left q] at h1
    rw [List.getElem?_append_left (by rw [← h.1]; exact q)] at h2
    exact h.2 i u k h1 h2
  · rw [List.getElem?_append_right q] at h1
    rw [List.getElem?_append_right (by rw [← h.1]; exact q)] at h2
    have := (List.getElem?_eq_some_iff.mp h1).1
    have e : i - rs.length = 0 := by simp at this; omega
    rw [e] at h1
    rw [← h.1, e] at h2
    cases h1
    cases h2
    exact hv
theorem RowsOk.at {K : PySem.W.Frag} {H : Hp} {ws : List Str} {ok : Str → Prop} {rs : List V} {gs : List (Str → Option (Int × Int))} {j : Nat} {z : Str} (h : RowsOk K H ws ok rs gs) (hz : ws[j]? = some z) (hk : ok z) : rowsC K H rs j (gs.map fun g => g z) := by
  refine ⟨by rw [List.length_map]; exact h.1, fun i v c h1 h2 => ?_⟩
  obtain ⟨g, hg, rfl⟩ := of_map_at h2
  obtain ⟨p, ys, e, q1, _, q3⟩ := h.2 i v g h1 hg
  obtain ⟨y, hy, hc⟩ := q3 j z hz
  exact ⟨p, ys, y, e, SqT.of q1, hy, hc hk⟩
theorem RowOk.tupAt {K : PySem.W.Frag} {H : Hp} {ws : List Str} {ok : Str → Prop} {v : V} {gc : Str → Option (Int × Int)} {j : Nat} {z : Str} (h : RowOk K H ws ok v gc) (hz : ws[j]? = some z) : ∃ p ys, v = .ref p ∧ H p = some (.tup ys) ∧ ys[j]? = some (tupAt H j v) ∧ (ok z → Cl K H (tupAt H j v) (gc z)) := by
  obtain ⟨p, ys, rfl, h1, _, h3⟩ := h
  obtain ⟨y, hy, hc⟩ := h3 j z hz
  have e : MyLaw.tupAt H j (.ref p) = y := by
    show (match H p with | some (.tup ys) => ys.getD j .non | _ => .non) = _
    rw [h1]
    show ys.getD j .non = y
    rw [List.getD_eq_getElem?_getD, hy]
    rfl
  rw [e]
  exact ⟨p, ys, rfl, h1, hy, hc⟩
theorem RowsOk.cls {K : PySem.W.Frag} {H : Hp} {ws : List Str} {ok : Str → Prop} {rs : List V} {gs : List (Str → Option (Int × Int))} {j : Nat} {z : Str} (h : RowsOk K H ws ok rs gs) (hz : ws[j]? = some z) (hk : ok z) : Cls K H (rs.map (MyLaw.tupAt H j)) (gs.map fun g => g z) := by
  refine ⟨by rw [List.length_map, List.length_map]; exact h.1, fun i v c h1 h2 => ?_⟩
  obtain ⟨g, hg, rfl⟩ := of_map_at h2
  obtain ⟨x, hx, rfl⟩ := of_map_at h1
  obtain ⟨p, ys, _, _, _, hc⟩ := (h.2 i x g hx hg).tupAt hz
  exact hc hk
def gc3 (z1 z2 : Str) (c1 c2 : Option (Int × Int)) (z : Str) : Option (Int × Int) := if z2 = z then c1 else if z1 = z then c2 else c1
theorem gv_cl {K : PySem.W.Frag} {H : Hp} {z0 z1 z2 z kd : Str} {fi ot on : V} {c1 c2 : Option (Int × Int)} (h1 : Cl K H on c1) (h2 : Cl K H ot c2) (hf : kd = "number" → fi = on) (hk : z = z1 ∨ kd = "number") : Cl K H (gv3 z0 z1 z2 fi ot on z) (gc3 z1 z2 c1 c2 z) := by
  unfold gv3 gc3
  by_cases e2 : z2 = z
  · rw [if_pos e2, if_pos e2]; exact h1
  rw [if_neg e2, if_neg e2]
  by_cases e1 : z1 = z
  · rw [if_pos e1, if_pos e1]; exact h2
  rw [if_neg e1, if_neg e1]
  rcases hk with hk | hk
  · exact absurd hk.symm e1
  · rw [hf hk]; exact h1
theorem three_of {ds : List Int} {i : Nat} (hl : ds.length = 12) (hb : ∀ d ∈ ds, 0 ≤ d ∧ d < 1000000) (hi : i ≤ 9) : ∃ x y z, cutV (ds.map V.int) (some (i : Int)) (some ((i + 3 : Nat) : Int)) = (x :: y :: z :: []).map V.int ∧ (0 ≤ x ∧ x < 1000000) ∧ (0 ≤ y ∧ y < 1000000) ∧ (0 ≤ z ∧ z < 1000000) := by
  have e := cut_nn (ds.map V.int) i (i + 3)
  rw [show i + 3 - i = 3 by omega, ← List.map_drop, ← List.map_take] at e
  have hm : ∀ d ∈ (ds.drop i).take 3, 0 ≤ d ∧ d < 1000000 := fun d hd => hb d (List.mem_of_mem_drop (List.mem_of_mem_take hd))
  have hl3 : ((ds.drop i).take 3).length = 3 := by rw [List.length_take, List.length_drop]; omega
  generalize (ds.drop i).take 3 = q at e hm hl3
  match q, hl3 with
  | [x, y, z], _ => exact ⟨x, y, z, e, hm x (by simp), hm y (by simp), hm z (by simp)⟩
theorem at_of {ds : List Int} {i : Nat} (hb : ∀ d ∈ ds, 0 ≤ d ∧ d < 1000000) (hi : i < ds.length) : ∃ x, atI (ds.map V.int) (i : Int) = some (.int x) ∧ 0 ≤ x ∧ x < 1000000 := ⟨ds[i], atI_nat (by rw [List.getElem?_map, List.getElem?_eq_getElem hi]; rfl), hb _ (List.getElem_mem hi)⟩
theorem ColT.firsts {H : Hp} {cl : List V} {ws : List Str} (h : ColT H cl ws) : cl.map (tupAt H 0) = ws.map V.str := by
  apply List.ext_getElem (by rw [List.length_map, List.length_map, h.1])
  intro i h1 h2
  rw [List.length_map] at h1 h2
  rw [List.getElem_map, List.getElem_map]
  obtain ⟨p, kd, e, f⟩ := h.2 i _ _ (List.getElem?_eq_getElem h1) (List.getElem?_eq_getElem h2)
  rw [e]
  show (match H p with | some (.tup ys) => ys.getD 0 .non | _ => .non) = _
  rw [f]
  rfl
theorem ixOf_mem {ws : List Str} {z : Str} (h : z ∈ ws) : ∃ j, ixOf ws z = some j ∧ ws[j]? = some z ∧ (∀ i x, i < j → ws[i]? = some x → x ≠ z) := by
  have a : (ixOf ws z).isSome = true := by
    unfold ixOf
    rw [List.findIdx?_isSome]
    exact List.any_eq_true.mpr ⟨z, h, decide_eq_true rfl⟩
  obtain ⟨j, hj⟩ := Option.isSome_iff_exists.mp a
  refine ⟨j, hj, ?_⟩
  unfold ixOf at hj
  rw [List.findIdx?_eq_some_iff_getElem] at hj
  obtain ⟨hl, e, hb⟩ := hj
  have e : ws[j] = z := by simpa using e
  refine ⟨by rw [List.getElem?_eq_getElem hl, e], fun i x hi hx => ?_⟩
  have := hb i hi
  obtain ⟨_, ex⟩ := List.getElem?_eq_some_iff.mp hx
  rw [ex] at this
  simpa using this
theorem flat_strs : ∀ ws : List Str, (ws.map V.str).all flatV = true
  | [] => rfl
  | _ :: r => by rw [List.map_cons, List.all_cons, flat_strs r]; rfl
theorem z_indexS {K : PySem.W.Frag} {H : Hp} {Q : VK} {p : Addr} {ws : List Str} {z : Str} {j : Nat} (h : SqL K H p (ws.map V.str)) (hj : ws[j]? = some z) (hb : ∀ i x, i < j → ws[i]? = some x → x ≠ z) (k : Q (.int (j : Nat)) H) : rIndex K (.ref p) [.str z] H Q := by
  refine z_index h rfl (flat_strs ws) (z := .str z) (map_at hj) (by show (z == z) = true; simp) (fun i u hi hu => ?_) k
  obtain ⟨y, hy, rfl⟩ := of_map_at hu
  have := hb i y hi hy
  show (y == z) = false
  simpa using this
theorem z_setlc {iy : Nat} {fr : List (Str × Nat)} {wi : TI} {te : TE} {σ : St} {H : Hp} {nx bk ct : St → Hp → Prop} {rt : VK} (h : tLC fr wi te σ H fun v H' => nx (σ.set iy (some v)) H') : tSetLC iy fr wi te ⟨nx, rt, bk, ct⟩ σ H := h
theorem ok_law (T : Txt K mg t) : FnOk P w K mg base CX0 7 t.f_law t.d_law ["_law_script"] (sp_law K) := by
  have G_l_draws := ok_l_draws (P := P) (w := w) (base := base) T
  have G_l_word := ok_l_word (P := P) (w := w) (base := base) T
  have G_l_wish_by := ok_l_wish_by (P := P) (w := w) (base := base) T
  have G_l_number := ok_l_number (P := P) (w := w) (base := base) T
  have G_l_due := ok_l_due (P := P) (w := w) (base := base) T
  have G_l_right := ok_l_right (P := P) (w := w) (base := base) T
  have G_colour_scale := ok_colour_scale (P := P) (w := w) (base := base) T
  have G_size_scale := ok_size_scale (P := P) (w := w) (base := base) T
  refine T.F_law.ok sc_law (fun vs H Q E h => ?_) (fun cdv A outer s H vs Q E hr h => ?_)
  · obtain ⟨a, ns, rfl, _⟩ := h
    rfl
  obtain ⟨a, ns, rfl, hS, hn, hb, q⟩ := h
  refine ⟨_, (pss_cons (ps_set (i := 1) sc_law.nd rfl (Or.inr rfl) (pe_call G_l_draws (hr.mono (by decide)) rfl T.m_l_draws T.k_l_draws T.b_l_draws .nil pass0 (pa_cons (pv 0) (pa_cons pe_int (pa_cons pe_int pa_nil)))))
  (pss_cons (ps_setLC (iy := 2) sc_law.nd rfl (Or.inl rfl) rfl (compOk_of (fr := [("_law_d", 1)]) (osc := defScope s_law) (N := ["_law_script", "_law_d", "_law_names", "_law_shade", "_law_size", "_law_colour", "_law_kind", "_law_columns", "_law_layers", "_law_channel", "_law_telling", "_law_rows", "_law_k", "_law_handed", "_law_at", "_law_by", "_law_e", "_law_j", "_law_one", "_law_other", "_law_cells"]) rfl rfl (by decide +kernel)) (pi_range1 rfl T.z_range (pa_cons pe_int pa_nil)) (fun _ _ _ _ _ => (pe_call G_l_word (hr.mono (by decide)) rfl T.m_l_word T.k_l_word T.b_l_word .nil pass0 (pa_cons (pe_slice (r := rSlL K) sl_list (pv 1) (po_some pe_int) (po_some pe_int)) (pa_cons (pv 0) pa_nil)))))
  (pss_cons (ps_set (i := 3) sc_law.nd rfl (Or.inl rfl) (pe_call G_l_wish_by (hr.mono (by decide)) rfl T.m_l_wish_by T.k_l_wish_by T.b_l_wish_by .nil pass0 (pa_cons (pe_slice sl_list (pv 1) (po_some pe_int) (po_some pe_int)) pa_nil)))
  (pss_cons (ps_set (i := 4) sc_law.nd rfl (Or.inl rfl) (pe_call G_l_wish_by (hr.mono (by decide)) rfl T.m_l_wish_by T.k_l_wish_by T.b_l_wish_by .nil pass0 (pa_cons (pe_slice sl_list (pv 1) (po_some pe_int) (po_some pe_int)) pa_nil)))
  (pss_cons (ps_set (i := 5) sc_law.nd rfl (Or.inl rfl) (pe_ix ix_list (pe_lst (pa_cons pe_non (pa_cons (pe_tup (pa_cons (pe_ix ix_list (pv 2) pe_int (fun _ _ => rfl)) (pa_cons (pv 3) pa_nil))) pa_nil))) (pe_callTy call_int1 rfl T.z_int bt_int (pa_cons (pe_cmpR op_notN' (pv 3) pe_non (nomark _)) pa_nil)) (fun _ _ => rfl)))
  (pss_cons (ps_set (i := 6) sc_law.nd rfl (Or.inl rfl) pe_str)
  (pss_cons (ps_if (pt_cmpR op_eq (pe_op op_mod (pe_ix ix_list (pv 1) pe_int (fun _ _ => rfl)) pe_int) pe_int (nomark _)) (pss_cons (ps_set (i := 3) sc_law.nd rfl (Or.inl rfl) (pe_tup (pa_cons pe_str pa_nil)))
  (pss_cons (ps_set (i := 5) sc_law.nd rfl (Or.inl rfl) (pe_tup (pa_cons (pe_ix ix_list (pv 2) pe_int (fun _ _ => rfl)) (pa_cons (pv 3) pa_nil))))
  (pss_one (ps_set (i := 6) sc_law.nd rfl (Or.inl rfl) pe_str)))) pss_nil)
  (pss_cons (ps_set (i := 7) sc_law.nd rfl (Or.inl rfl) (pe_lst (pa_cons (pe_tup (pa_cons (pe_ix ix_list (pv 2) pe_int (fun _ _ => rfl)) (pa_cons pe_str pa_nil))) (pa_cons (pe_tup (pa_cons (pe_ix ix_list (pv 2) pe_int (fun _ _ => rfl)) (pa_cons (pv 6) pa_nil))) pa_nil))))
  (pss_cons (ps_expr (pe_bm PySem.F.plainAttrs_list PySem.F.slot_list_insert PySem.F.type_list_insert mt_insert (pv 7) (pa_cons (pe_op op_mod (pe_ix ix_list (pv 1) pe_int (fun _ _ => rfl)) pe_int) (pa_cons (pe_tup (pa_cons (pe_ix ix_list (pv 2) pe_int (fun _ _ => rfl)) (pa_cons pe_str pa_nil))) pa_nil))))
  (pss_cons (ps_set (i := 8) sc_law.nd rfl (Or.inl rfl) (pe_tup (pa_cons (pe_tup (pa_cons pe_str (pa_cons pe_str (pa_cons (pe_ix ix_list (pv 2) pe_int (fun _ _ => rfl)) (pa_cons pe_non pa_nil))))) pa_nil)))
  (pss_cons (ps_set (i := 9) sc_law.nd rfl (Or.inl rfl) (pe_ix ix_list (pe_lst (pa_cons pe_non (pa_cons (pe_tup (pa_cons (pe_ix ix_list (pv 2) pe_int (fun _ _ => rfl)) (pa_cons (pv 4) pa_nil))) pa_nil))) (pe_callTy call_int1 rfl T.z_int bt_int (pa_cons (pe_cmpR op_notN' (pv 4) pe_non (nomark _)) pa_nil)) (fun _ _ => rfl)))
  (pss_cons (ps_set (i := 10) sc_law.nd rfl (Or.inl rfl) (pe_tup (pa_cons (pe_lst pa_nil) (pa_cons (pe_tup (pa_cons (pe_ix ix_list (pv 2) pe_int (fun _ _ => rfl)) (pa_cons (pe_tup (pa_cons pe_str pa_nil)) pa_nil))) (pa_cons (pe_tup (pa_cons (pe_tup (pa_cons pe_str pa_nil)) (pa_cons pe_non pa_nil))) (pa_cons (pv 8) (pa_cons (pv 5) (pa_cons (pv 9) (pa_cons pe_non (pa_cons (pe_tup (pa_cons pe_int (pa_cons pe_int (pa_cons pe_bl pa_nil)))) pa_nil))))))))))
  (pss_cons (ps_set (i := 11) sc_law.nd rfl (Or.inl rfl) (pe_lst pa_nil))
  (pss_cons (ps_for PassesOwn.never rfl (pi_range2 rfl T.z_range (pa_cons pe_int (pa_cons (pe_callB (call_min2 rfl) rfl T.z_min bt_min (pa_cons (pe_callB call_len_seq rfl T.z_len PySem.boot_len (pa_cons (pv 0) pa_nil)) (pa_cons pe_int pa_nil))) pa_nil))) (pg_name (i := 12) sc_law.nd rfl (Or.inl rfl)) (pss_cons (ps_set (i := 16) sc_law.nd rfl (Or.inl rfl) (pe_call G_l_draws (hr.mono (by decide)) rfl T.m_l_draws T.k_l_draws T.b_l_draws .nil pass0 (pa_cons (pv 0) (pa_cons (pv 12) (pa_cons pe_int pa_nil)))))
  (pss_one (ps_for PassesOwn.never rfl (pi_range1 rfl T.z_range (pa_cons pe_int pa_nil)) (pg_name (i := 17) sc_law.nd rfl (Or.inl rfl)) (pss_cons (ps_set (i := 18) sc_law.nd rfl (Or.inl rfl) (pe_ix ix_list (pe_lst (pa_cons (pe_call G_l_number (hr.mono (by decide)) rfl T.m_l_number T.k_l_number T.b_l_number .nil pass0 (pa_cons (pe_slice sl_list (pv 16) (po_some (pe_op op_mulB pe_int (pv 17))) (po_some (pe_op op_add (pe_op op_mulB pe_int (pv 17)) pe_int))) pa_nil)) (pa_cons pe_non pa_nil))) (pe_callTy call_int1 rfl T.z_int bt_int (pa_cons (pe_cmpR op_eq (pe_op op_mod (pe_ix ix_list (pv 16) (pe_op op_add (pe_op op_mulB pe_int (pv 17)) pe_int) (fun _ _ => rfl)) pe_int) pe_int (nomark _)) pa_nil)) (fun _ _ => rfl)))
  (pss_cons (ps_set (i := 19) sc_law.nd rfl (Or.inl rfl) (pe_ix ix_list (pe_lst (pa_cons (pe_call G_l_number (hr.mono (by decide)) rfl T.m_l_number T.k_l_number T.b_l_number .nil pass0 (pa_cons (pe_slice sl_list (pv 16) (po_some (pe_op op_add (pe_op op_mulB pe_int (pv 17)) pe_int)) (po_some (pe_op op_add (pe_op op_mulB pe_int (pv 17)) pe_int))) pa_nil)) (pa_cons pe_non pa_nil))) (pe_callTy call_int1 rfl T.z_int bt_int (pa_cons (pe_cmpR op_eq (pe_op op_mod (pe_ix ix_list (pv 16) (pe_op op_add (pe_op op_mulB pe_int (pv 17)) pe_int) (fun _ _ => rfl)) pe_int) pe_int (nomark _)) pa_nil)) (fun _ _ => rfl)))
  (pss_cons (ps_set (i := 20) sc_law.nd rfl (Or.inr rfl) (pe_disp (pps_cons (pe_ix ix_list (pv 2) pe_int (fun _ _ => rfl)) (pe_ix ix_list (pe_lst (pa_cons (pv 18) (pa_cons pe_str pa_nil))) (pe_callTy call_int1 rfl T.z_int bt_int (pa_cons (pe_cmpR op_eq (pv 6) pe_str (nomark _)) pa_nil)) (fun _ _ => rfl)) (pps_cons (pe_ix ix_list (pv 2) pe_int (fun _ _ => rfl)) (pv 19) (pps_cons (pe_ix ix_list (pv 2) pe_int (fun _ _ => rfl)) (pv 18) pps_nil))) rfl rfl (by simp) (by decide)))
  (pss_one (ps_expr (pe_bm PySem.F.plainAttrs_list PySem.F.slot_list_append PySem.F.type_list_append mt_append (pv 11) (pa_cons (pe_callTy call_tuple_of rfl T.z_tuple bt_tuple (pa_cons (pe_lcP (fr := [("_law_cells", 20)]) rfl (compOkG2_of (osc := defScope s_law) (N := ["_law_script", "_law_d", "_law_names", "_law_shade", "_law_size", "_law_colour", "_law_kind", "_law_columns", "_law_layers", "_law_channel", "_law_telling", "_law_rows", "_law_k", "_law_handed", "_law_at", "_law_by", "_law_e", "_law_j", "_law_one", "_law_other", "_law_cells"]) rfl rfl (by decide +kernel) (by decide +kernel) (by decide)) (pi_list (pv 7)) (fun _ _ _ _ _ => (pe_dget (by have := hr.un150; exact Nat.lt_of_le_of_lt (Nat.add_le_add_left (by decide) _) this) (pv 2) (pv 0) (fun _ _ => rfl)))) pa_nil)) pa_nil)))))))))))
  (pss_cons (ps_set (i := 13) sc_law.nd rfl (Or.inl rfl) (pe_callTy call_list_of rfl T.z_list bt_list (pa_cons (pv 11) pa_nil)))
  (pss_cons (ps_set (i := 14) sc_law.nd rfl (Or.inr rfl) (pe_bm PySem.F.plainAttrs_list PySem.F.slot_list_index PySem.F.type_list_index mt_index (pe_lc rfl (compOk_of (fr := []) (osc := defScope s_law) (N := ["_law_script", "_law_d", "_law_names", "_law_shade", "_law_size", "_law_colour", "_law_kind", "_law_columns", "_law_layers", "_law_channel", "_law_telling", "_law_rows", "_law_k", "_law_handed", "_law_at", "_law_by", "_law_e", "_law_j", "_law_one", "_law_other", "_law_cells"]) rfl rfl (by decide +kernel)) (pi_list (pv 7)) (fun _ _ _ _ _ => (pe_ix (r := rIxT K) ix_tup (pv 0) pe_int (fun _ _ => rfl)))) (pa_cons (pe_ix ix_list (pv 2) pe_int (fun _ _ => rfl)) pa_nil)))
  (pss_cons (ps_set (i := 15) sc_law.nd rfl (Or.inr rfl) (pe_bm PySem.F.plainAttrs_list PySem.F.slot_list_index PySem.F.type_list_index mt_index (pe_lc rfl (compOk_of (fr := []) (osc := defScope s_law) (N := ["_law_script", "_law_d", "_law_names", "_law_shade", "_law_size", "_law_colour", "_law_kind", "_law_columns", "_law_layers", "_law_channel", "_law_telling", "_law_rows", "_law_k", "_law_handed", "_law_at", "_law_by", "_law_e", "_law_j", "_law_one", "_law_other", "_law_cells"]) rfl rfl (by decide +kernel)) (pi_list (pv 7)) (fun _ _ _ _ _ => (pe_ix (r := rIxT K) ix_tup (pv 0) pe_int (fun _ _ => rfl)))) (pa_cons (pe_ix ix_list (pv 2) pe_int (fun _ _ => rfl)) pa_nil)))
  (pss_cons (ps_if (pt_not (pt_val (pe_call G_l_right (hr.mono (by decide)) rfl T.m_l_right T.k_l_right T.b_l_right .nil pass0 (pa_cons (pe_call G_colour_scale (hr.mono (by decide)) rfl T.m_colour_scale T.k_colour_scale T.b_colour_scale .nil pass0 (pa_cons (pv 10) (pa_cons (pv 7) (pa_cons (pv 13) pa_nil)))) (pa_cons (pe_call G_l_due (hr.mono (by decide)) rfl T.m_l_due T.k_l_due T.b_l_due .nil pass0 (pa_cons (pv 3) (pa_cons (pe_lc rfl (compOk_of (fr := [("_law_at", 14)]) (osc := defScope s_law) (N := ["_law_script", "_law_d", "_law_names", "_law_shade", "_law_size", "_law_colour", "_law_kind", "_law_columns", "_law_layers", "_law_channel", "_law_telling", "_law_rows", "_law_k", "_law_handed", "_law_at", "_law_by", "_law_e", "_law_j", "_law_one", "_law_other", "_law_cells"]) rfl rfl (by decide +kernel)) (pi_list (pv 11)) (fun _ _ _ _ _ => (pe_ix (r := rIxT K) ix_tup (pv 0) (pv 1) (fun _ _ => rfl)))) (pa_cons pe_int pa_nil)))) pa_nil))))) (pss_one (ps_ret pe_bl)) pss_nil)
  (pss_cons (ps_if (pt_not (pt_val (pe_call G_l_right (hr.mono (by decide)) rfl T.m_l_right T.k_l_right T.b_l_right .nil pass0 (pa_cons (pe_call G_size_scale (hr.mono (by decide)) rfl T.m_size_scale T.k_size_scale T.b_size_scale .nil pass0 (pa_cons (pv 10) (pa_cons (pv 7) (pa_cons (pv 13) pa_nil)))) (pa_cons (pe_call G_l_due (hr.mono (by decide)) rfl T.m_l_due T.k_l_due T.b_l_due .nil pass0 (pa_cons (pv 4) (pa_cons (pe_lc rfl (compOk_of (fr := [("_law_by", 15)]) (osc := defScope s_law) (N := ["_law_script", "_law_d", "_law_names", "_law_shade", "_law_size", "_law_colour", "_law_kind", "_law_columns", "_law_layers", "_law_channel", "_law_telling", "_law_rows", "_law_k", "_law_handed", "_law_at", "_law_by", "_law_e", "_law_j", "_law_one", "_law_other", "_law_cells"]) rfl rfl (by decide +kernel)) (pi_list (pv 11)) (fun _ _ _ _ _ => (pe_ix (r := rIxT K) ix_tup (pv 0) (pv 1) (fun _ _ => rfl)))) (pa_cons pe_int pa_nil)))) pa_nil))))) (pss_one (ps_ret pe_bl)) pss_nil)
  (pss_one (ps_ret (pe_cmpR (op_eqA hr.un150) (pv 13) (pv 11) (nomark _))))))))))))))))))))))), z_go (σ := [some _, none, none, none, none, none, none, none, none, none, none, none, none, none, none, none, none, none, none, none, none]) rfl ?_⟩
  walk_at "run"
  refine ⟨a, 0, 30, ns, rfl, hS, by decide, by decide, fun pd H1 ds s1 n1 e1 hdl hdd => ?_⟩
  obtain ⟨d0, d1, d2, d3, d4, d5, d6, d7, d8, d9, d10, d11, d12, d13, d14, d15, d16, d17, rr, rfl⟩ := l18 (ds := ds) hdl
  have bd : ∀ x, x ∈ [d1, d2, d3, d4, d5, d6, d7, d8, d9, d10, d11, d12, d13, d14, d15, d16, d17] → 0 ≤ x ∧ x < 1000000 := fun x hx => hdd x (List.mem_cons_of_mem _ (List.mem_append_left (bs := rr) hx))
  have c1 : cutV ((d0 :: d1 :: d2 :: d3 :: d4 :: d5 :: d6 :: d7 :: d8 :: d9 :: d10 :: d11 :: d12 :: d13 :: d14 :: d15 :: d16 :: d17 :: rr).map V.int) (some 1) (some 4) = (d1 :: d2 :: d3 :: []).map V.int := cut_nn _ 1 4
  have c4 : cutV ((d0 :: d1 :: d2 :: d3 :: d4 :: d5 :: d6 :: d7 :: d8 :: d9 :: d10 :: d11 :: d12 :: d13 :: d14 :: d15 :: d16 :: d17 :: rr).map V.int) (some 4) (some 10) = [d4, d5, d6, d7, d8, d9].map V.int := cut_nn _ 4 10
  have c10 : cutV ((d0 :: d1 :: d2 :: d3 :: d4 :: d5 :: d6 :: d7 :: d8 :: d9 :: d10 :: d11 :: d12 :: d13 :: d14 :: d15 :: d16 :: d17 :: rr).map V.int) (some 10) (some 16) = [d10, d11, d12, d13, d14, d15].map V.int := cut_nn _ 10 16
  have a16 : atI ((d0 :: d1 :: d2 :: d3 :: d4 :: d5 :: d6 :: d7 :: d8 :: d9 :: d10 :: d11 :: d12 :: d13 :: d14 :: d15 :: d16 :: d17 :: rr).map V.int) 16 = some (.int d16) := atI_nat (j := 16) rfl
  have a17 : atI ((d0 :: d1 :: d2 :: d3 :: d4 :: d5 :: d6 :: d7 :: d8 :: d9 :: d10 :: d11 :: d12 :: d13 :: d14 :: d15 :: d16 :: d17 :: rr).map V.int) 17 = some (.int d17) := atI_nat (j := 17) rfl
  generalize (d0 :: d1 :: d2 :: d3 :: d4 :: d5 :: d6 :: d7 :: d8 :: d9 :: d10 :: d11 :: d12 :: d13 :: d14 :: d15 :: d16 :: d17 :: rr).map V.int = dd at *
  clear hdl hdd
  walk_at "run"
  refine z_setlc ?_
  walk_at "run"
  refine z_r1N (by decide) (by decide) ?_
  refine lcn_rangeP (fun _ v => ∃ z : Str, v = .str z ∧ z.length ≤ 13) (le_size (by decide)) ?_ ?_
  · intro i H2 S hi s2 k
    walk_at "run"
    refine z_slLm (SqL.of (s2 _ _ e1)) (fun l3 H3 n3 s3 e3 => ?_)
    rw [c1] at e3
    walk_at "run"
    refine ⟨l3, d1, d2, d3, _, [], rfl, SqL.of e3, bd d3 (by simp), fun z H4 s4 hz => ?_⟩
    exact k _ _ (s3.trans s4) ⟨z, rfl, hz⟩
  intro ln xs H2 hln hxl hxs s2 e2
  obtain ⟨z0, z1, z2, rfl, hz0, hz1, hz2⟩ : ∃ z0 z1 z2 : Str, xs = [.str z0, .str z1, .str z2] ∧ z0.length ≤ 13 ∧ z1.length ≤ 13 ∧ z2.length ≤ 13 := by
    match xs, hxl with
    | [x0, x1, x2], _ =>
      obtain ⟨z0, rfl, h0⟩ := hxs 0 x0 rfl
      obtain ⟨z1, rfl, h1⟩ := hxs 1 x1 rfl
      obtain ⟨z2, rfl, h2⟩ := hxs 2 x2 rfl
      exact ⟨z0, z1, z2, rfl, h0, h1, h2⟩
  have e1 := s2 _ _ e1
  have m0 : atI [V.str z0, .str z1, .str z2] 0 = some (.str z0) := rfl
  have m1 : atI [V.str z0, .str z1, .str z2] 1 = some (.str z1) := rfl
  have m2 : atI [V.str z0, .str z1, .str z2] 2 = some (.str z2) := rfl
  have sH2 : Same H H2 := s1.trans s2
  clear s1 s2 hxs hxl c1
  simp only [List.set_cons_succ, List.set_cons_zero]
  walk_at "run"
  refine z_slLm (SqL.of e1) (fun l3 H3 n3 s3 e3 => ?_)
  rw [c4] at e3
  walk_at "run"
  refine ⟨l3, d4, d5, d6, d7, d8, d9, rfl, SqL.of e3, bd _ (by simp), bd _ (by simp), bd _ (by simp), bd _ (by simp), bd _ (by simp), bd _ (by simp), fun sv H4 xs s4 hsv => ?_⟩
  have e1 := s4 _ _ (s3 _ _ e1)
  have e2 := s4 _ _ (s3 _ _ e2)
  have sH4 : Same H H4 := sH2.trans (s3.trans s4)
  clear s3 s4 e3 n3 sH2 c4
  walk_at "run"
  refine z_slLm (SqL.of e1) (fun l3 H5 n3 s3 e3 => ?_)
  rw [c10] at e3
  walk_at "run"
  refine ⟨l3, d10, d11, d12, d13, d14, d15, rfl, SqL.of e3, bd _ (by simp), bd _ (by simp), bd _ (by simp), bd _ (by simp), bd _ (by simp), bd _ (by simp), fun zv H6 xz s4 hzv => ?_⟩
  have e1 := s4 _ _ (s3 _ _ e1)
  have e2 := s4 _ _ (s3 _ _ e2)
  have hsv := hsv.same (s3.trans s4)
  have sH6 : Same H H6 := sH4.trans (s3.trans s4)
  clear s3 s4 e3 n3 sH4 c10
  walk_at "run"
  refine z_ixL (SqL.of e2) m0 ?_
  walk_at "run"
  rename_i p7 H7 n7 s7 e7 l8 H8 n8 s8 e8
  refine z_notNv ?_
  walk_at "run"
  have hsv8 := hsv.same (s7.trans s8)
  obtain ⟨cv, hcv, hch⟩ := chan_pick hsv8 (SqT.of (s8 _ _ e7))
  refine z_ixL (SqL.of e8) hcv ?_
  have e1 := s8 _ _ (s7 _ _ e1)
  have e2 := s8 _ _ (s7 _ _ e2)
  have hzv := hzv.same (s7.trans s8)
  have sH8 : Same H H8 := sH6.trans (s7.trans s8)
  clear s7 s8 n7 n8 e7 e8 hsv sH6
  walk_at "runI"
  refine z_cut (fun σ' H' => ∃ (sv cv : V) (kd : Str) (x : Wd7), σ' = [some (.ref a), some (.ref pd), some (.ref ln), some sv, some zv, some cv, some (.str kd), none, none, none, none, none, none, none, none, none, none, none, none, none, none] ∧ Same H8 H' ∧ Wk K H' sv x ∧ Ch K H' cv (chanOf z0 x) ∧ ((kd = "number" ∧ x ≠ .order) ∨ (kd = "word" ∧ x = .order))) (fun U hU => ?_) ?_
  · walk_at "run"
    refine z_ixL (SqL.of e1) a16 ?_
    walk_at "run"
    refine z_iteD (fun _ => ?_) (fun _ => ?_)
    · walk_at "run"
      rename_i p9 H9 n9 s9 e9
      refine z_ixL (SqL.of (s9 _ _ e2)) m0 ?_
      walk_at "run"
      rename_i p10 H10 n10 s10 e10
      exact hU _ _ ⟨_, _, _, .order, rfl, s9.trans s10, ⟨p9, rfl, SqT.of (s10 _ _ e9)⟩, ⟨p10, _, p9, rfl, SqT.of e10, [], SqT.of (s10 _ _ e9)⟩, .inr ⟨rfl, rfl⟩⟩
    · walk_at "run"
      exact hU _ _ ⟨_, _, _, wdOf xs, rfl, Same.refl _, hsv8.wk, hch, .inl ⟨rfl, by cases xs <;> exact nofun⟩⟩
  clear hch hcv hsv8 cv
  rintro σ H9 ⟨sv, cv, kd, wx, rfl, s9, hsv, hcv, hkd⟩
  have e1 := s9 _ _ e1
  have e2 := s9 _ _ e2
  have hzv := hzv.same s9
  have sH9 : Same H H9 := sH8.trans s9
  clear s9 sH8
  walk_at "run"
  refine z_ixL (SqL.of e2) m1 ?_
  walk_at "run"
  rename_i pa Ha na sa ea
  refine z_ixL (SqL.of (sa _ _ e2)) m0 ?_
  walk_at "run"
  rename_i pb Hb nb sb eb lc Hc nc sc ec
  have sHc : Same H Hc := sH9.trans (sa.trans (sb.trans sc))
  have dpl : pd ≠ lc := fun z => by
    have h := sb _ _ (sa _ _ e1)
    rw [z, nc] at h
    cases h
  have dnl : ln ≠ lc := fun z => by
    have h := sb _ _ (sa _ _ e2)
    rw [z, nc] at h
    cases h
  have e1 := sc _ _ (sb _ _ (sa _ _ e1))
  have e2 := sc _ _ (sb _ _ (sa _ _ e2))
  have hzv := hzv.same (sa.trans (sb.trans sc))
  have hsv := hsv.same (sa.trans (sb.trans sc))
  have hcv := hcv.same (sa.trans (sb.trans sc))
  have nlc : H lc = none := sH9.free (sa.free (sb.free nc))
  have dac : pa ≠ lc := fun z => by rw [← z, sb _ _ ea] at nc; cases nc
  have dbc : pb ≠ lc := fun z => by rw [← z, eb] at nc; cases nc
  have ea := sc _ _ (sb _ _ ea)
  have eb := sc _ _ eb
  clear sa sb sc na nb sH9
  refine z_ixL (SqL.of e1) a17 ?_
  walk_at "run"
  refine z_ixL (SqL.of e2) m2 ?_
  walk_at "run"
  rename_i pc Hd nd sd ed
  have dcc : pc ≠ lc := fun z => by rw [z, ec] at nd; cases nd
  have i0 := Int.emod_nonneg d17 (show (3 : Int) ≠ 0 by decide)
  have i1 := Int.emod_lt_of_pos d17 (show (0 : Int) < 3 by decide)
  refine z_insert (sd _ _ ec) i0 (by show d17 % 3 ≤ 2; omega) (Nat.le_of_ble_eq_true rfl) (fun He be ee => ?_)
  have fa := be _ _ dac (sd _ _ ea)
  have fb := be _ _ dbc (sd _ _ eb)
  have fc := be _ _ dcc ed
  obtain ⟨cl, ws, hcl, hct, hw0, hw1, hw3⟩ : ∃ cl ws, He lc = some (.lst cl) ∧ ColT He cl ws ∧ z0 ∈ ws ∧ z1 ∈ ws ∧ (∀ z ∈ ws, z = z0 ∨ z = z1 ∨ z = z2) ∧ cl.length = 3 := by
    rcases (by omega : d17 % 3 = 0 ∨ d17 % 3 = 1 ∨ d17 % 3 = 2) with e | e | e <;> rw [e] at ee
    · exact ⟨[.ref pc, .ref pa, .ref pb], [z2, z1, z0], ee, ((ColT.nil.cons fb).cons fa).cons fc, by simp, by simp, by simp, rfl⟩
    · exact ⟨[.ref pa, .ref pc, .ref pb], [z1, z2, z0], ee, ((ColT.nil.cons fb).cons fc).cons fa, by simp, by simp, by simp, rfl⟩
    · exact ⟨[.ref pa, .ref pb, .ref pc], [z1, z0, z2], ee, ((ColT.nil.cons fc).cons fb).cons fa, by simp, by simp, by simp, rfl⟩
  have sHe : Same H He := (sHc.trans sd).but nlc be
  have ecd := sd _ _ ec
  have e1 := be _ _ dpl (sd _ _ e1)
  have e2 := be _ _ dnl (sd _ _ e2)
  have hzv := (hzv.same sd).but be ecd
  have hsv := (hsv.same sd).but be ecd
  have hcv := (hcv.same sd).but be ecd
  clear sd be ee ea eb ec ed ecd fa fb fc sHc dac dbc dcc nd nc nlc i0 i1 dpl dnl
  walk_at "run"
  refine z_ixL (SqL.of e2) m2 ?_
  walk_at "run"
  rename_i q1 Hf n1' s1 f1 q2 Hg n2 s2 f2
  refine z_ixL (SqL.of (s2 _ _ (s1 _ _ e2))) m1 ?_
  walk_at "run"
  rename_i q3 Hh n3 s3 f3 q4 Hi n4 s4 f4
  refine z_notNv ?_
  walk_at "run"
  have hzvi := hzv.same (s1.trans (s2.trans (s3.trans s4)))
  obtain ⟨chv, hchv, hch⟩ := chan_pick hzvi (SqT.of (s4 _ _ f3))
  refine z_ixL (SqL.of f4) hchv ?_
  have e2i := s4 _ _ (s3 _ _ (s2 _ _ (s1 _ _ e2)))
  walk_at "run"
  rename_i q5 Hj n5 s5 f5
  refine z_ixL (SqL.of (s5 _ _ e2i)) m2 ?_
  walk_at "run"
  rename_i q6 Hk n6 s6 f6 q7 Hl n7 s7 f7 q8 Hm n8 s8 f8 q9 Hn n9 s9 f9 q10 Ho n10 s10 f10 te Hp n11 s11 f11 lr Hq n12 s12 f12
  have SS : Same He Hq := s1.trans (s2.trans (s3.trans (s4.trans (s5.trans (s6.trans (s7.trans (s8.trans (s9.trans (s10.trans (s11.trans s12))))))))))
  have hSp := (sHe.trans (s1.trans (s2.trans (s3.trans (s4.trans (s5.trans (s6.trans (s7.trans (s8.trans (s9.trans (s10.trans s11))))))))))).seq hS
  have hte : SqT K Hq te [.ref q5, .ref q7, .ref q9, .ref q2, cv, chv, .non, .ref q10] := SqT.of (s12 _ _ f11)
  have hch := hch.same (s5.trans (s6.trans (s7.trans (s8.trans (s9.trans (s10.trans (s11.trans s12)))))))
  have dnr : ln ≠ lr := fun z => by
    have h := s11 _ _ (s10 _ _ (s9 _ _ (s8 _ _ (s7 _ _ (s6 _ _ (s5 _ _ e2i))))))
    rw [z, n12] at h
    cases h
  have dcr : lc ≠ lr := fun z => by
    have h := s11 _ _ (s10 _ _ (s9 _ _ (s8 _ _ (s7 _ _ (s6 _ _ (s5 _ _ (s4 _ _ (s3 _ _ (s2 _ _ (s1 _ _ hcl))))))))))
    rw [z, n12] at h
    cases h
  have hclq := SS _ _ hcl
  have hctq := hct.same SS
  have e2q := SS _ _ e2
  have hzvq := hzv.same SS
  have hsvq := hsv.same SS
  have hcvq := hcv.same SS
  have n12' := n12
  clear f1 f2 f3 f4 f5 f6 f7 f8 f9 f10 f11 s1 s2 s3 s4 s5 s6 s7 s8 s9 s10 s11 n1' n2 n3 n4 n5 n6 n7 n8 n9 n10 n11 hcl hct e2 e2i hzv hzvi hsv hcv e1 a16 a17 bd hchv SS
  have hnl : (ns.map V.int).length ≤ 63 := by rw [List.length_map]; exact hn
  refine f_range (fun i σ HD => (∃ u12 u16 u17 u18 u19 u20, σ = [some (.ref a), some (.ref pd), some (.ref ln), some sv, some zv, some cv, some (.str kd), some (.ref lc), some (.ref q2), some chv, some (.ref te), some (.ref lr), u12, none, none, none, u16, u17, u18, u19, u20]) ∧ But lr Hq HD ∧ ∃ rs gs, HD lr = some (.lst rs) ∧ RowsOk K HD ws (fun z => z = z1 ∨ kd = "number") rs gs ∧ rs.length ≤ 2 * i) ⟨⟨_, _, _, _, _, _, rfl⟩, fun b o _ h => h, [], [], f12, ⟨rfl, fun i v g h => by cases h⟩, Nat.le_refl _⟩ ?_ ?_
  · rintro i σ HD hi ⟨⟨u12, u16, u17, u18, u19, u20, rfl⟩, bD, rs, gs, hrs, hok, hrl⟩
    have hSD := But.seqN bD s12 n12 hSp
    have hi30 : i ≤ 30 := by
      revert hi
      split <;> omega
    walk_at "run"
    refine ⟨a, _, 12, ns, rfl, hSD, by omega, by decide, fun pe H1 ds s1 n1 e1 hdl hdd => ?_⟩
    have dpe : pe ≠ lr := fun z => by rw [z, hrs] at n1; cases n1
    have hrs1 := s1 _ _ hrs
    have hok1 := hok.same s1
    have bD1 := But.thenS bD s1
    walk_at "run"
    refine f_range (fun j σ HX => (∃ u17 u18 u19 u20, σ = [some (.ref a), some (.ref pd), some (.ref ln), some sv, some zv, some cv, some (.str kd), some (.ref lc), some (.ref q2), some chv, some (.ref te), some (.ref lr), some (.int (1 + (i : Int))), none, none, none, some (.ref pe), u17, u18, u19, u20]) ∧ But lr Hq HX ∧ HX pe = some (.lst (ds.map V.int)) ∧ ∃ rs gs, HX lr = some (.lst rs) ∧ RowsOk K HX ws (fun z => z = z1 ∨ kd = "number") rs gs ∧ rs.length ≤ 2 * i + j) ⟨⟨_, _, _, _, rfl⟩, bD1, e1, rs, gs, hrs1, hok1, by omega⟩ ?_ ?_
    · rintro j σ HX hj ⟨⟨u17, u18, u19, u20, rfl⟩, bX, eX, rs, gs, hrs, hok, hrl⟩
      have hjj : j < 2 := hj
      have c3 : ∃ x y z, cutV (ds.map V.int) (some (6 * (0 + (j : Int)))) (some (6 * (0 + (j : Int)) + 3)) = ([x, y, z] : List Int).map V.int ∧ (0 ≤ x ∧ x < 1000000) ∧ (0 ≤ y ∧ y < 1000000) ∧ (0 ≤ z ∧ z < 1000000) := by
        have := three_of (i := 6 * j) hdl hdd (by omega)
        rw [show ((6 * j : Nat) : Int) = 6 * (0 + (j : Int)) by omega, show ((6 * j + 3 : Nat) : Int) = 6 * (0 + (j : Int)) + 3 by omega] at this
        exact this
      have c5 : ∃ x y z, cutV (ds.map V.int) (some (6 * (0 + (j : Int)) + 2)) (some (6 * (0 + (j : Int)) + 5)) = ([x, y, z] : List Int).map V.int ∧ (0 ≤ x ∧ x < 1000000) ∧ (0 ≤ y ∧ y < 1000000) ∧ (0 ≤ z ∧ z < 1000000) := by
        have := three_of (i := 6 * j + 2) hdl hdd (by omega)
        rw [show ((6 * j + 2 : Nat) : Int) = 6 * (0 + (j : Int)) + 2 by omega, show ((6 * j + 2 + 3 : Nat) : Int) = 6 * (0 + (j : Int)) + 5 by omega] at this
        exact this
      obtain ⟨x3, x3h, _, _⟩ : ∃ x, atI (ds.map V.int) (6 * (0 + (j : Int)) + 3) = some (.int x) ∧ 0 ≤ x ∧ x < 1000000 := by
        have := at_of (i := 6 * j + 3) hdd (by omega)
        rw [show ((6 * j + 3 : Nat) : Int) = 6 * (0 + (j : Int)) + 3 by omega] at this
        exact this
      obtain ⟨x5, x5h, _, _⟩ : ∃ x, atI (ds.map V.int) (6 * (0 + (j : Int)) + 5) = some (.int x) ∧ 0 ≤ x ∧ x < 1000000 := by
        have := at_of (i := 6 * j + 5) hdd (by omega)
        rw [show ((6 * j + 5 : Nat) : Int) = 6 * (0 + (j : Int)) + 5 by omega] at this
        exact this
      obtain ⟨xa, xb, xc, e3c, ba, bb, bc⟩ := c3
      obtain ⟨ya, yb, yc, e5c, bd, be, bf⟩ := c5
      walk_at "run"
      refine z_slLm (SqL.of eX) (fun l3 H3 n3 s3 e3 => ?_)
      rw [e3c] at e3
      walk_at "run"
      refine ⟨l3, xa, xb, xc, [], rfl, SqL.of e3, ba, bb, bc, fun v1 H4 c1 s4 hv1 => ?_⟩
      have eX4 := s4 _ _ (s3 _ _ eX)
      have s34 := s3.trans s4
      clear s3 s4 e3 n3
      walk_at "run"
      rename_i m1' H5 n5 s5 e5
      refine z_ixL (SqL.of (s5 _ _ eX4)) x3h ?_
      walk_at "run"
      have k1 : ∃ (on : V) (d1 : Option (Int × Int)), atI [v1, V.non] (if decide (x3 % 5 = 0) = true then (1 : Int) else 0) = some on ∧ Cl K H5 on d1 := by
        by_cases h : x3 % 5 = 0
        · rw [decide_eq_true h]; exact ⟨.non, none, rfl, rfl⟩
        · rw [decide_eq_false h]; exact ⟨v1, some c1, rfl, hv1.same s5⟩
      obtain ⟨on, d1, hon, hcl1⟩ := k1
      refine z_ixL (SqL.of e5) hon ?_
      have eX5 := s5 _ _ eX4
      have s35 := s34.trans s5
      clear s34 s5 eX4 e5 n5 hv1 hon
      walk_at "run"
      refine z_slLm (SqL.of eX5) (fun l6 H6 n6 s6 e6 => ?_)
      rw [e5c] at e6
      walk_at "run"
      refine ⟨l6, ya, yb, yc, [], rfl, SqL.of e6, bd, be, bf, fun v2 H7 c2 s7 hv2 => ?_⟩
      have eX7 := s7 _ _ (s6 _ _ eX5)
      have hcl1 := hcl1.same (s6.trans s7)
      have s37 := s35.trans (s6.trans s7)
      clear s6 s7 e6 n6 s35 eX5
      walk_at "run"
      rename_i m2' H8 n8 s8 e8
      refine z_ixL (SqL.of (s8 _ _ eX7)) x5h ?_
      walk_at "run"
      have k2 : ∃ (ot : V) (d2 : Option (Int × Int)), atI [v2, V.non] (if decide (x5 % 5 = 0) = true then (1 : Int) else 0) = some ot ∧ Cl K H8 ot d2 := by
        by_cases h : x5 % 5 = 0
        · rw [decide_eq_true h]; exact ⟨.non, none, rfl, rfl⟩
        · rw [decide_eq_false h]; exact ⟨v2, some c2, rfl, hv2.same s8⟩
      obtain ⟨ot, d2, hot, hcl2⟩ := k2
      refine z_ixL (SqL.of e8) hot ?_
      have eX8 := s8 _ _ eX7
      have hcl1 := hcl1.same s8
      have s38 := s37.trans s8
      clear s37 s8 eX7 e8 n8 hv2 hot
      walk_at "run"
      refine dispS (fun pD H9 n9 s9 e9 => ?_)
      walk_at "run"
      have e2X := s38 _ _ (bX _ _ dnr e2q)
      refine z_ixL (SqL.of (s9 _ _ e2X)) m0 ?_
      walk_at "run"
      rename_i lm H10 n10 s10 e10
      have kf : ∃ fi, atI [on, V.str "a"] (if decide (kd = "word") = true then (1 : Int) else 0) = some fi ∧ (kd = "number" → fi = on) := by
        by_cases h : kd = "word"
        · rw [decide_eq_true h]; exact ⟨_, rfl, fun e => by rw [e] at h; exact absurd h (by decide)⟩
        · rw [decide_eq_false h]; exact ⟨_, rfl, fun _ => rfl⟩
      obtain ⟨fi, hfi, hfe⟩ := kf
      refine z_ixL (SqL.of e10) hfi ?_
      walk_at "run"
      refine z_ixL (SqL.of (s10 _ _ (s9 _ _ e2X))) m1 ?_
      walk_at "run"
      refine z_ixL (SqL.of (s10 _ _ (s9 _ _ e2X))) m2 ?_
      walk_at "run"
      refine ⟨s10 _ _ e9, [(Sum.inr z0, fi), (Sum.inr z1, ot), (Sum.inr z2, on)], rfl, Nat.le_of_ble_eq_true rfl, ?_⟩
      have s11 : Same H8 (upd H10 pD (.dK (mergeK [] [((Sum.inr z0 : Key), fi), (Sum.inr z1, ot), (Sum.inr z2, on)]))) := Same.but (s9.trans s10) n9 But.upd
      have eD : (upd H10 pD (.dK (mergeK [] [((Sum.inr z0 : Key), fi), (Sum.inr z1, ot), (Sum.inr z2, on)]))) pD = some (.dK (mergeK [] [((Sum.inr z0 : Key), fi), (Sum.inr z1, ot), (Sum.inr z2, on)])) := upd_same
      generalize upd H10 pD (.dK (mergeK [] [((Sum.inr z0 : Key), fi), (Sum.inr z1, ot), (Sum.inr z2, on)])) = H11 at s11 eD ⊢
      have sX := s38.trans s11
      have hrsX := sX _ _ hrs
      have hclX := sX _ _ (bX _ _ dcr hclq)
      have hctX : ColT H11 cl ws := ⟨hctq.1, fun i v z h1 h2 => by
        obtain ⟨p, kd, e, f⟩ := hctq.2 i v z h1 h2
        exact ⟨p, kd, e, sX _ _ (bX _ _ (fun z => by rw [z, f12] at f; cases f) f)⟩⟩
      walk_at "run"
      refine z_lcg ?_
      walk_at "run"
      refine lct_list (K := K) (fun i => (V.str (ws.getD i ""), tupAt H11 1 (cl.getD i .non))) (fun i => gv3 z0 z1 z2 fi ot on (ws.getD i "")) (SqL.of hclX) (le_size (by omega)) (fun i x hx => ?_) (fun i H12 S hi s12 k => ?_) (fun acc H12 hacc s12 ha => ?_)
      · have hi := (List.getElem?_eq_some_iff.mp hx).1
        have hwi : i < ws.length := by rw [← hctX.1]; exact hi
        obtain ⟨p, kd', e', f⟩ := hctX.2 i x ws[i] hx (List.getElem?_eq_getElem hwi)
        subst e'
        refine ⟨p, rfl, ?_⟩
        have e1 : ws.getD i "" = ws[i] := by rw [List.getD_eq_getElem?_getD, List.getElem?_eq_getElem hwi]; rfl
        have e2 : cl.getD i .non = .ref p := by rw [List.getD_eq_getElem?_getD, hx]; rfl
        have e3 : tupAt H11 1 (.ref p) = .str kd' := by
          show (match H11 p with | some (.tup ys) => ys.getD 1 .non | _ => .non) = _
          rw [f]; rfl
        show SqT K H11 p [V.str (ws.getD i ""), tupAt H11 1 (cl.getD i .non)]
        rw [e1, e2, e3]
        exact SqT.of f
      · have hwi : i < ws.length := by rw [← hctX.1]; exact hi
        have e1 : ws.getD i "" = ws[i] := by rw [List.getD_eq_getElem?_getD, List.getElem?_eq_getElem hwi]; rfl
        walk_at "run"
        refine z_dgetS (s12 _ _ eD) (val3 (hw3.1 _ (by rw [e1]; exact List.getElem_mem hwi))) ?_
        exact k _ (Same.refl _)
      · walk_at "run"
        generalize hys : (List.range cl.length).map (fun i => gv3 z0 z1 z2 fi ot on (ws.getD i "")) = ys at ha
        refine ⟨acc, ys, rfl, .inl ⟨SqL.of ha, fun lt n13 => ?_⟩⟩
        have s13 : Same H12 (upd H12 lt (.tup ys)) := Same.new n13 _
        have e13 : (upd H12 lt (.tup ys)) lt = some (.tup ys) := upd_same
        generalize upd H12 lt (.tup ys) = H13 at s13 e13 ⊢
        refine id ?_
        have hrs13 := s13 _ _ (s12 _ _ hrsX)
        have dlt : lt ≠ lr := fun z => by rw [z, s12 _ _ hrsX] at n13; cases n13
        walk_at "run"
        refine z_appendS (K := K) hrs13 (by omega) (fun H14 b14 e14 => ?_)
        walk_at "run"
        have s8' := s11.trans (s12.trans s13)
        have h1 := (hcl1.same s8').but b14 hrs13
        have h2 := (hcl2.same s8').but b14 hrs13
        have eX14 := b14 _ _ dpe (s13 _ _ (s12 _ _ (s11 _ _ eX8)))
        have hok14 := (hok.same (sX.trans (s12.trans s13))).but b14 hrs13
        refine ⟨⟨_, _, _, _, rfl⟩, But.thenB (But.thenS bX (sX.trans (s12.trans s13))) b14, eX14, rs ++ [.ref lt], gs ++ [gc3 z1 z2 d1 d2], e14, hok14.snoc ?_, by rw [List.length_append]; simp; omega⟩
        refine ⟨lt, _, rfl, b14 _ _ dlt e13, by rw [← hys, List.length_map, List.length_range]; exact hctX.1, fun j z hz => ?_⟩
        obtain ⟨hjl, ez⟩ := List.getElem?_eq_some_iff.mp hz
        have hjc : j < cl.length := by rw [hctX.1]; exact hjl
        refine ⟨gv3 z0 z1 z2 fi ot on z, ?_, fun hk => gv_cl h1 h2 hfe hk⟩
        rw [← hys, List.getElem?_map, List.getElem?_range hjc]
        show some (gv3 z0 z1 z2 fi ot on (ws.getD j "")) = _
        rw [List.getD_eq_getElem?_getD, hz]; rfl
    · rintro σ HX ⟨⟨u17, u18, u19, u20, rfl⟩, bX, eX, rs, gs, hrs, hok, hrl⟩
      exact ⟨⟨_, _, _, _, _, _, rfl⟩, bX, rs, gs, hrs, hok, by simp at hrl ⊢; omega⟩
  · rintro σ HD ⟨⟨u12, u16, u17, u18, u19, u20, rfl⟩, bD, rs, gs, hrs, hok, hrl⟩
    have hcl := bD _ _ dcr hclq
    have hct : ColT HD cl ws := ⟨hctq.1, fun i v z h1 h2 => by
      obtain ⟨p, kd, e, f⟩ := hctq.2 i v z h1 h2
      exact ⟨p, kd, e, bD _ _ (fun z => by rw [z, f12] at f; cases f) f⟩⟩
    have e2 := bD _ _ dnr e2q
    have hsv := hsvq.but bD f12
    have hcv := hcvq.but bD f12
    have hch := hch.but bD f12
    have hte := bD.tup f12 hte
    have hzv := hzvq.but bD f12
    clear hclq hctq e2q hsvq hcvq
    have hrl : rs.length ≤ 100 := by
      refine Nat.le_trans hrl ?_
      split <;> omega
    walk_at "run"
    intro lh nh
    have sh : Same HD (upd HD lh (.lst rs)) := Same.new nh _
    have eh : (upd HD lh (.lst rs)) lh = some (.lst rs) := upd_same
    generalize upd HD lh (.lst rs) = H1 at *
    refine id ?_
    have hcl := sh _ _ hcl
    have hct := hct.same sh
    have e2 := sh _ _ e2
    have hsv := hsv.same sh
    have hcv := hcv.same sh
    have hch := hch.same sh
    have hte := sh.tup hte
    have hzv := hzv.same sh
    have hrs := sh _ _ hrs
    have hok := hok.same sh
    clear sh nh bD
    obtain ⟨j0, hj0, at0', bf0⟩ := ixOf_mem hw0
    obtain ⟨j1, hj1, at1', bf1⟩ := ixOf_mem hw1
    have hel : ∀ x ∈ cl, ∃ p r, x = .ref p ∧ SqT K H1 p (tupAt H1 0 x :: r) := fun x hx => by
      obtain ⟨i, hi, e⟩ := List.getElem_of_mem hx
      have hwi : i < ws.length := by rw [← hct.1]; exact hi
      obtain ⟨p, kd, e', f⟩ := hct.2 i x ws[i] (by rw [List.getElem?_eq_getElem hi, e]) (List.getElem?_eq_getElem hwi)
      subst e'
      refine ⟨p, [.str kd], rfl, ?_⟩
      have e2 : tupAt H1 0 (.ref p) = .str ws[i] := by
        show (match H1 p with | some (.tup ys) => ys.getD 0 .non | _ => .non) = _
        rw [f]
        rfl
      rw [e2]
      exact SqT.of f
    have hrow : ∀ (j : Nat) (z : Str), ws[j]? = some z → ∀ x ∈ rs, ∃ p ys, x = .ref p ∧ H1 p = some (.tup ys) ∧ ys[j]? = some (tupAt H1 j x) := fun j z hz x hx => by
      obtain ⟨i, hi, e⟩ := List.getElem_of_mem hx
      have hgi : i < gs.length := by rw [← hok.1]; exact hi
      obtain ⟨p, ys, h1, h2, h3, _⟩ := (hok.2 i x gs[i] (by rw [List.getElem?_eq_getElem hi, e]) (List.getElem?_eq_getElem hgi)).tupAt hz
      exact ⟨p, ys, h1, h2, h3⟩
    have hcl3 : cl.length ≤ 3 := by have := hw3.2; omega
    walk_at "run"
    refine lcn_list (K := K) (tupAt H1 0) (SqL.of hcl) (le_size (by omega)) (fun x H2 S hx s2 k => ?_) (fun acc H2 hacc s2 ha => ?_)
    · obtain ⟨p, r, rfl, hp⟩ := hel x hx
      walk_at "run"
      refine z_ixT (s2.tup hp) (at_cons0 _ _) ?_
      exact k _ (Same.refl _)
    rw [hct.firsts] at ha
    walk_at "run"
    refine z_ixL (SqL.of (s2 _ _ e2)) m0 ?_
    walk_at "run"
    refine z_indexS (SqL.of ha) at0' bf0 ?_
    have hcl2 := s2 _ _ hcl
    walk_at "run"
    refine lcn_list (K := K) (tupAt H1 0) (SqL.of hcl2) (le_size (by omega)) (fun x H3 S hx s3 k => ?_) (fun acc2 H3 hacc2 s3 ha3 => ?_)
    · obtain ⟨p, r, rfl, hp⟩ := hel x hx
      walk_at "run"
      refine z_ixT (s3.tup (s2.tup hp)) (at_cons0 _ _) ?_
      exact k _ (Same.refl _)
    rw [hct.firsts] at ha3
    walk_at "run"
    refine z_ixL (SqL.of (s3 _ _ (s2 _ _ e2))) m1 ?_
    walk_at "run"
    refine z_indexS (SqL.of ha3) at1' bf1 ?_
    have s13 : Same H1 H3 := s2.trans s3
    walk_at "run"
    have hkn : ∀ x, wx = .on x → kd = "number" := fun x e => by
      rcases hkd with ⟨h, _⟩ | ⟨_, h⟩
      · exact h
      · rw [e] at h; cases h
    refine ⟨te, lc, lh, _, cv, chanOf z0 wx, cl, rs, ws, j0, gs.map fun g => g z0, rfl, s13.tup hte, rfl, hcv.same s13, SqL.of (s13 _ _ hcl), (hct.same s13).cols, SqL.of (s13 _ _ eh), fun z x e => ?_, hrl, fun fv H4 s4 hfv => ?_⟩
    · obtain ⟨rfl, hx⟩ : z = z0 ∧ wx = .on x := by
        cases wx with
        | no => cases e
        | order => cases e
        | on y => cases e; exact ⟨rfl, rfl⟩
      exact ⟨hj0, (hok.same s13).at at0' (.inr (hkn x hx))⟩
    have s14 := s13.trans s4
    have hrs4 := s14 _ _ hrs
    walk_at "run"
    refine lcn_list (K := K) (tupAt H1 j0) (SqL.of hrs4) (le_size (by omega)) (fun x H5 S hx s5 k => ?_) (fun acc5 H5 hacc5 s5 ha5 => ?_)
    · obtain ⟨p, ys, rfl, hp, hy⟩ := hrow j0 z0 at0' x hx
      walk_at "run"
      refine z_ixT (SqT.of (s5 _ _ (s14 _ _ hp))) (atI_nat hy) ?_
      exact k _ (Same.refl _)
    have s15 := s14.trans s5
    walk_at "run"
    refine ⟨sv, acc5, 255, wx, _, gs.map fun g => g z0, rfl, hsv.same s15, SqL.of ha5, fun y e => (hok.cls at0' (.inr (hkn y e))).same s15, by rw [List.length_map]; omega, fun dv H6 s6 hdv => ?_⟩
    walk_at "run"
    have eo : scaleCh (chanOf z0 wx) (gs.map fun g => g z0) = dueOf wx (gs.map fun g => g z0) := by cases wx <;> rfl
    refine ⟨fv, dv, 255, _, rfl, (hfv.same (s5.trans s6)), by rw [eo]; exact hdv, ?_⟩
    have s16 := s15.trans s6
    walk_at "run"
    refine ⟨⟨te, lc, lh, _, chv, chanOf z1 (wdOf xz), cl, rs, ws, j1, gs.map fun g => g z1, rfl, s16.tup hte, rfl, hch.same s16, SqL.of (s16 _ _ hcl), (hct.same s16).cols, SqL.of (s16 _ _ eh), fun z x e => ?_, hrl, by cases xz <;> exact nofun, fun gv H7 s7 hgv => ?_⟩, trivial⟩
    · obtain rfl : z = z1 := by
        cases xz with
        | none => cases e
        | some y => cases e; rfl
      exact ⟨hj1, (hok.same s16).at at1' (.inl rfl)⟩
    have s17 := s16.trans s7
    have hrs7 := s17 _ _ hrs
    walk_at "run"
    refine lcn_list (K := K) (tupAt H1 j1) (SqL.of hrs7) (le_size (by omega)) (fun x H8 S hx s8 k => ?_) (fun acc8 H8 hacc8 s8 ha8 => ?_)
    · obtain ⟨p, ys, rfl, hp, hy⟩ := hrow j1 z1 at1' x hx
      walk_at "run"
      refine z_ixT (SqT.of (s8 _ _ (s17 _ _ hp))) (atI_nat hy) ?_
      exact k _ (Same.refl _)
    have s18 := s17.trans s8
    walk_at "run"
    refine ⟨zv, acc8, 18, wdOf xz, _, gs.map fun g => g z1, rfl, (hzv.same s18).wk, SqL.of ha8, fun y e => (hok.cls at1' (.inl rfl)).same s18, by rw [List.length_map]; omega, fun dw H9' s9 hdw => ?_⟩
    walk_at "run"
    have eo2 : scaleCh (chanOf z1 (wdOf xz)) (gs.map fun g => g z1) = dueOf (wdOf xz) (gs.map fun g => g z1) := by cases xz <;> rfl
    refine ⟨gv, dw, 18, _, rfl, (hgv.same (s8.trans s9)), by rw [eo2]; exact hdw, ?_⟩
    have s19 := s18.trans s9
    walk_at "run"
    refine z_alk ⟨1, rs, rs, by decide, .inr ⟨SqL.of (s19 _ _ eh), SqL.of (s19 _ _ hrs)⟩, rfl, fun j x y hx hy => ?_⟩ ?_
    · rw [hx] at hy
      cases hy
      obtain ⟨p, ys, rfl, _⟩ := hrow j0 z0 at0' x (List.mem_of_getElem? hx)
      exact .ref
    · exact q _
end
theorem all_mk {l : PySem.W.OpenLaw} {w : World} {K : PySem.W.Frag} {h : Heap} {mg : Str → Option Value} {fa f0 f1 f2 f3 f4 f5 f6 f7 f8 f9 f10 f11 f12 f13 f14 f15 f16 f17 f18 f19 f20 f21 f22 f23 f24 C_NoNumber dT2 : Addr} (X : K.In h) (G : h.Ns mainGlobals mg) (hfa : mg "law" = some (.ref fa))
    {od0 an0 od1 an1 od2 an2 od3 an3 od4 an4 od5 an5 od6 an6 od7 an7 od8 an8 od9 an9 od10 an10 od11 an11 od12 an12 od13 an13 od14 an14 od15 an15 od16 an16 od17 an17 od18 an18 od19 an19 od20 an20 od21 an21 od22 an22 od23 an23 od24 an24 : Option Addr} {sl0 sl1 sl2 sl3 sl4 sl5 sl6 sl7 sl8 sl9 sl10 sl11 sl12 sl13 sl14 sl15 sl16 sl17 sl18 sl19 sl20 sl21 sl22 sl23 sl24 : Array (Option Value)} {oc0 kV0 dc0 pm0 cd0 ct0 oc1 kV1 dc1 pm1 cd1 ct1 oc2 kV2 dc2 pm2 cd2 ct2 oc3 kV3 dc3 pm3 cd3 ct3 oc4 kV4 dc4 pm4 cd4 ct4 oc5 kV5 dc5 pm5 cd5 ct5 oc6 kV6 dc6 pm6 cd6 ct6 oc7 kV7 dc7 pm7 cd7 ct7 oc8 kV8 dc8 pm8 cd8 ct8 oc9 kV9 dc9 pm9 cd9 ct9 oc10 kV10 dc10 pm10 cd10 ct10 oc11 kV11 dc11 pm11 cd11 ct11 oc12 kV12 dc12 pm12 cd12 ct12 oc13 kV13 dc13 pm13 cd13 ct13 oc14 kV14 dc14 pm14 cd14 ct14 oc15 kV15 dc15 pm15 cd15 ct15 oc16 kV16 dc16 pm16 cd16 ct16 oc17 kV17 dc17 pm17 cd17 ct17 oc18 kV18 dc18 pm18 cd18 ct18 oc19 kV19 dc19 pm19 cd19 ct19 oc20 kV20 dc20 pm20 cd20 ct20 oc21 kV21 dc21 pm21 cd21 ct21 oc22 kV22 dc22 pm22 cd22 ct22 oc23 kV23 dc23 pm23 cd23 ct23 oc24 kV24 dc24 pm24 cd24 ct24 : Value}
    {g_COLOUR_LENGTH : Tok}
    {g_SIZE_LENGTH : Tok}
    {tc2 : Value} {td2 : Option Addr} {tn2 : Nat} {ts2 : Array (Option Value)} {tk2 : Tok}
    (a0 : PySem.W.nsIn K mainGlobals "is_whole" = some (some (.ref f0))) (l0 : K.lookup f0 = some ⟨oc0, od0, .func (PySem.W.fnOf "is_whole" "is_whole" (defArgs s_is_whole) (defBody s_is_whole) (defScope s_is_whole) .none kV0 dc0 pm0 an0 cd0 ct0), sl0⟩) (c0 : PySem.W.codeIn K cd0 "is_whole" = true) (k0 : PySem.W.keepIn K (.ref f0) = true)
    (a1 : PySem.W.nsIn K mainGlobals "divisor_of" = some (some (.ref f1))) (l1 : K.lookup f1 = some ⟨oc1, od1, .func (PySem.W.fnOf "divisor_of" "divisor_of" (defArgs s_divisor_of) (defBody s_divisor_of) (defScope s_divisor_of) .none kV1 dc1 pm1 an1 cd1 ct1), sl1⟩) (c1 : PySem.W.codeIn K cd1 "divisor_of" = true) (k1 : PySem.W.keepIn K (.ref f1) = true)
    (a2 : PySem.W.nsIn K mainGlobals "number" = some (some (.ref f2))) (l2 : K.lookup f2 = some ⟨oc2, od2, .func (PySem.W.fnOf "number" "number" (defArgs s_number) (defBody s_number) (defScope s_number) (.ref dT2) kV2 dc2 pm2 an2 cd2 ct2), sl2⟩) (c2 : PySem.W.codeIn K cd2 "number" = true) (k2 : PySem.W.keepIn K (.ref f2) = true)
    (dl2 : K.lookup dT2 = some ⟨tc2, td2, .seq #[.int 1 tk2] tn2, ts2⟩)
    (a3 : PySem.W.nsIn K mainGlobals "plus" = some (some (.ref f3))) (l3 : K.lookup f3 = some ⟨oc3, od3, .func (PySem.W.fnOf "plus" "plus" (defArgs s_plus) (defBody s_plus) (defScope s_plus) .none kV3 dc3 pm3 an3 cd3 ct3), sl3⟩) (c3 : PySem.W.codeIn K cd3 "plus" = true) (k3 : PySem.W.keepIn K (.ref f3) = true)
    (a4 : PySem.W.nsIn K mainGlobals "under" = some (some (.ref f4))) (l4 : K.lookup f4 = some ⟨oc4, od4, .func (PySem.W.fnOf "under" "under" (defArgs s_under) (defBody s_under) (defScope s_under) .none kV4 dc4 pm4 an4 cd4 ct4), sl4⟩) (c4 : PySem.W.codeIn K cd4 "under" = true) (k4 : PySem.W.keepIn K (.ref f4) = true)
    (a5 : PySem.W.nsIn K mainGlobals "column_at" = some (some (.ref f5))) (l5 : K.lookup f5 = some ⟨oc5, od5, .func (PySem.W.fnOf "column_at" "column_at" (defArgs s_column_at) (defBody s_column_at) (defScope s_column_at) .none kV5 dc5 pm5 an5 cd5 ct5), sl5⟩) (c5 : PySem.W.codeIn K cd5 "column_at" = true) (k5 : PySem.W.keepIn K (.ref f5) = true)
    (a6 : PySem.W.nsIn K mainGlobals "comes_before" = some (some (.ref f6))) (l6 : K.lookup f6 = some ⟨oc6, od6, .func (PySem.W.fnOf "comes_before" "comes_before" (defArgs s_comes_before) (defBody s_comes_before) (defScope s_comes_before) .none kV6 dc6 pm6 an6 cd6 ct6), sl6⟩) (c6 : PySem.W.codeIn K cd6 "comes_before" = true) (k6 : PySem.W.keepIn K (.ref f6) = true)
    (a7 : PySem.W.nsIn K mainGlobals "least_of" = some (some (.ref f7))) (l7 : K.lookup f7 = some ⟨oc7, od7, .func (PySem.W.fnOf "least_of" "least_of" (defArgs s_least_of) (defBody s_least_of) (defScope s_least_of) .none kV7 dc7 pm7 an7 cd7 ct7), sl7⟩) (c7 : PySem.W.codeIn K cd7 "least_of" = true) (k7 : PySem.W.keepIn K (.ref f7) = true)
    (a8 : PySem.W.nsIn K mainGlobals "greatest_of" = some (some (.ref f8))) (l8 : K.lookup f8 = some ⟨oc8, od8, .func (PySem.W.fnOf "greatest_of" "greatest_of" (defArgs s_greatest_of) (defBody s_greatest_of) (defScope s_greatest_of) .none kV8 dc8 pm8 an8 cd8 ct8), sl8⟩) (c8 : PySem.W.codeIn K cd8 "greatest_of" = true) (k8 : PySem.W.keepIn K (.ref f8) = true)
    (a9 : PySem.W.nsIn K mainGlobals "straight_ends" = some (some (.ref f9))) (l9 : K.lookup f9 = some ⟨oc9, od9, .func (PySem.W.fnOf "straight_ends" "straight_ends" (defArgs s_straight_ends) (defBody s_straight_ends) (defScope s_straight_ends) .none kV9 dc9 pm9 an9 cd9 ct9), sl9⟩) (c9 : PySem.W.codeIn K cd9 "straight_ends" = true) (k9 : PySem.W.keepIn K (.ref f9) = true)
    (a10 : PySem.W.nsIn K mainGlobals "cells_there" = some (some (.ref f10))) (l10 : K.lookup f10 = some ⟨oc10, od10, .func (PySem.W.fnOf "cells_there" "cells_there" (defArgs s_cells_there) (defBody s_cells_there) (defScope s_cells_there) .none kV10 dc10 pm10 an10 cd10 ct10), sl10⟩) (c10 : PySem.W.codeIn K cd10 "cells_there" = true) (k10 : PySem.W.keepIn K (.ref f10) = true)
    (a11 : PySem.W.nsIn K mainGlobals "scale_of" = some (some (.ref f11))) (l11 : K.lookup f11 = some ⟨oc11, od11, .func (PySem.W.fnOf "scale_of" "scale_of" (defArgs s_scale_of) (defBody s_scale_of) (defScope s_scale_of) .none kV11 dc11 pm11 an11 cd11 ct11), sl11⟩) (c11 : PySem.W.codeIn K cd11 "scale_of" = true) (k11 : PySem.W.keepIn K (.ref f11) = true)
    (a12 : PySem.W.nsIn K mainGlobals "colour_scale" = some (some (.ref f12))) (l12 : K.lookup f12 = some ⟨oc12, od12, .func (PySem.W.fnOf "colour_scale" "colour_scale" (defArgs s_colour_scale) (defBody s_colour_scale) (defScope s_colour_scale) .none kV12 dc12 pm12 an12 cd12 ct12), sl12⟩) (c12 : PySem.W.codeIn K cd12 "colour_scale" = true) (k12 : PySem.W.keepIn K (.ref f12) = true)
    (a13 : PySem.W.nsIn K mainGlobals "size_scale" = some (some (.ref f13))) (l13 : K.lookup f13 = some ⟨oc13, od13, .func (PySem.W.fnOf "size_scale" "size_scale" (defArgs s_size_scale) (defBody s_size_scale) (defScope s_size_scale) .none kV13 dc13 pm13 an13 cd13 ct13), sl13⟩) (c13 : PySem.W.codeIn K cd13 "size_scale" = true) (k13 : PySem.W.keepIn K (.ref f13) = true)
    (a14 : PySem.W.nsIn K mainGlobals "_law_cell_at" = some (some (.ref f14))) (l14 : K.lookup f14 = some ⟨oc14, od14, .func (PySem.W.fnOf "_law_cell_at" "_law_cell_at" (defArgs s_l_cell_at) (defBody s_l_cell_at) (defScope s_l_cell_at) .none kV14 dc14 pm14 an14 cd14 ct14), sl14⟩) (c14 : PySem.W.codeIn K cd14 "_law_cell_at" = true) (k14 : PySem.W.keepIn K (.ref f14) = true)
    (a15 : PySem.W.nsIn K mainGlobals "_law_draws" = some (some (.ref f15))) (l15 : K.lookup f15 = some ⟨oc15, od15, .func (PySem.W.fnOf "_law_draws" "_law_draws" (defArgs s_l_draws) (defBody s_l_draws) (defScope s_l_draws) .none kV15 dc15 pm15 an15 cd15 ct15), sl15⟩) (c15 : PySem.W.codeIn K cd15 "_law_draws" = true) (k15 : PySem.W.keepIn K (.ref f15) = true)
    (a16 : PySem.W.nsIn K mainGlobals "_law_low" = some (some (.ref f16))) (l16 : K.lookup f16 = some ⟨oc16, od16, .func (PySem.W.fnOf "_law_low" "_law_low" (defArgs s_l_low) (defBody s_l_low) (defScope s_l_low) .none kV16 dc16 pm16 an16 cd16 ct16), sl16⟩) (c16 : PySem.W.codeIn K cd16 "_law_low" = true) (k16 : PySem.W.keepIn K (.ref f16) = true)
    (a17 : PySem.W.nsIn K mainGlobals "_law_number" = some (some (.ref f17))) (l17 : K.lookup f17 = some ⟨oc17, od17, .func (PySem.W.fnOf "_law_number" "_law_number" (defArgs s_l_number) (defBody s_l_number) (defScope s_l_number) .none kV17 dc17 pm17 an17 cd17 ct17), sl17⟩) (c17 : PySem.W.codeIn K cd17 "_law_number" = true) (k17 : PySem.W.keepIn K (.ref f17) = true)
    (a18 : PySem.W.nsIn K mainGlobals "_law_more" = some (some (.ref f18))) (l18 : K.lookup f18 = some ⟨oc18, od18, .func (PySem.W.fnOf "_law_more" "_law_more" (defArgs s_l_more) (defBody s_l_more) (defScope s_l_more) .none kV18 dc18 pm18 an18 cd18 ct18), sl18⟩) (c18 : PySem.W.codeIn K cd18 "_law_more" = true) (k18 : PySem.W.keepIn K (.ref f18) = true)
    (a19 : PySem.W.nsIn K mainGlobals "_law_word" = some (some (.ref f19))) (l19 : K.lookup f19 = some ⟨oc19, od19, .func (PySem.W.fnOf "_law_word" "_law_word" (defArgs s_l_word) (defBody s_l_word) (defScope s_l_word) .none kV19 dc19 pm19 an19 cd19 ct19), sl19⟩) (c19 : PySem.W.codeIn K cd19 "_law_word" = true) (k19 : PySem.W.keepIn K (.ref f19) = true)
    (a20 : PySem.W.nsIn K mainGlobals "_law_wish" = some (some (.ref f20))) (l20 : K.lookup f20 = some ⟨oc20, od20, .func (PySem.W.fnOf "_law_wish" "_law_wish" (defArgs s_l_wish) (defBody s_l_wish) (defScope s_l_wish) .none kV20 dc20 pm20 an20 cd20 ct20), sl20⟩) (c20 : PySem.W.codeIn K cd20 "_law_wish" = true) (k20 : PySem.W.keepIn K (.ref f20) = true)
    (a21 : PySem.W.nsIn K mainGlobals "_law_wish_by" = some (some (.ref f21))) (l21 : K.lookup f21 = some ⟨oc21, od21, .func (PySem.W.fnOf "_law_wish_by" "_law_wish_by" (defArgs s_l_wish_by) (defBody s_l_wish_by) (defScope s_l_wish_by) .none kV21 dc21 pm21 an21 cd21 ct21), sl21⟩) (c21 : PySem.W.codeIn K cd21 "_law_wish_by" = true) (k21 : PySem.W.keepIn K (.ref f21) = true)
    (a22 : PySem.W.nsIn K mainGlobals "_law_due" = some (some (.ref f22))) (l22 : K.lookup f22 = some ⟨oc22, od22, .func (PySem.W.fnOf "_law_due" "_law_due" (defArgs s_l_due) (defBody s_l_due) (defScope s_l_due) .none kV22 dc22 pm22 an22 cd22 ct22), sl22⟩) (c22 : PySem.W.codeIn K cd22 "_law_due" = true) (k22 : PySem.W.keepIn K (.ref f22) = true)
    (a23 : PySem.W.nsIn K mainGlobals "_law_right" = some (some (.ref f23))) (l23 : K.lookup f23 = some ⟨oc23, od23, .func (PySem.W.fnOf "_law_right" "_law_right" (defArgs s_l_right) (defBody s_l_right) (defScope s_l_right) .none kV23 dc23 pm23 an23 cd23 ct23), sl23⟩) (c23 : PySem.W.codeIn K cd23 "_law_right" = true) (k23 : PySem.W.keepIn K (.ref f23) = true)
    (a24 : PySem.W.nsIn K mainGlobals "law" = some (some (.ref f24))) (l24 : K.lookup f24 = some ⟨oc24, od24, .func (PySem.W.fnOf "law" "law" (defArgs s_law) (defBody s_law) (defScope s_law) .none kV24 dc24 pm24 an24 cd24 ct24), sl24⟩) (c24 : PySem.W.codeIn K cd24 "law" = true) (k24 : PySem.W.keepIn K (.ref f24) = true)
    (w_COLOUR_LENGTH : PySem.W.nsIn K mainGlobals "COLOUR_LENGTH" = some (some (.int 255 g_COLOUR_LENGTH)))
    (w_SIZE_LENGTH : PySem.W.nsIn K mainGlobals "SIZE_LENGTH" = some (some (.int 18 g_SIZE_LENGTH)))
    (n_NoNumber : PySem.W.nsIn K mainGlobals "NoNumber" = some (some (.ref C_NoNumber))) (x_NoNumber : PySem.W.excIn K C_NoNumber bmVE "ValueError.__new__" = true) (e_NoNumber : PySem.W.exmOne K (.ref C_NoNumber) (.ref C_NoNumber) = some true)
    (z_isinstance : PySem.W.nsIn K mainGlobals "isinstance" = some none)
    (z_int : PySem.W.nsIn K mainGlobals "int" = some none)
    (z_bool : PySem.W.nsIn K mainGlobals "bool" = some none)
    (z_tuple : PySem.W.nsIn K mainGlobals "tuple" = some none)
    (z_list : PySem.W.nsIn K mainGlobals "list" = some none)
    (z_abs : PySem.W.nsIn K mainGlobals "abs" = some none)
    (z_len : PySem.W.nsIn K mainGlobals "len" = some none)
    (z_range : PySem.W.nsIn K mainGlobals "range" = some none)
    (z_min : PySem.W.nsIn K mainGlobals "min" = some none)
    (z_enumerate : PySem.W.nsIn K mainGlobals "enumerate" = some none)
    : ∃ fd : FuncData, (∀ (s : Shared) (v : Value), BindsTo s fd ⟨[v], []⟩ [("_law_script", v)]) ∧ ∀ base : Heap, K.In base → base.Ns mainGlobals mg → FnOk l.prog w K mg base CX0 7 fa fd ["_law_script"] (sp_law K) := by
  have e := hfa.symm.trans (PySem.W.mg_of X G a24)
  cases e
  have F0 := fun_mk (st := s_is_whole) l0 c0 k0
  have b0 := F0.binds (ps := ["thing"]) fun _ _ _ _ _ _ us hl => match us, hl with | [_], _ => rfl
  have F1 := fun_mk (st := s_divisor_of) l1 c1 k1
  have b1 := F1.binds (ps := ["one", "other"]) fun _ _ _ _ _ _ us hl => match us, hl with | [_, _], _ => rfl
  have F2 := fun_mkD (st := s_number) l2 c2 k2
  have b2 : Binds K (PySem.W.fnOf "number" "number" (defArgs s_number) (defBody s_number) (defScope s_number) (.ref dT2) kV2 dc2 pm2 an2 cd2 ct2) ["top", "bottom"] [] := fun s us X hl => match us, hl with | [_, _], _ => BindsTo.of_defaults rfl (X _ _ dl2) rfl rfl rfl
  have bd2 : ∃ ds, Vals [V.int 1] ds ∧ Binds K (PySem.W.fnOf "number" "number" (defArgs s_number) (defBody s_number) (defScope s_number) (.ref dT2) kV2 dc2 pm2 an2 cd2 ct2) ["top", "bottom"] ds := ⟨[.int 1 tk2], .cons ⟨_, rfl⟩ .nil, fun s us X hl => match us, (by simpa using hl : us.length = 1) with | [_], _ => BindsTo.of_defaults rfl (X _ _ dl2) rfl rfl rfl⟩
  have F3 := fun_mk (st := s_plus) l3 c3 k3
  have b3 := F3.binds (ps := ["one", "other"]) fun _ _ _ _ _ _ us hl => match us, hl with | [_, _], _ => rfl
  have F4 := fun_mk (st := s_under) l4 c4 k4
  have b4 := F4.binds (ps := ["one", "other"]) fun _ _ _ _ _ _ us hl => match us, hl with | [_, _], _ => rfl
  have F5 := fun_mk (st := s_column_at) l5 c5 k5
  have b5 := F5.binds (ps := ["columns", "name"]) fun _ _ _ _ _ _ us hl => match us, hl with | [_, _], _ => rfl
  have F6 := fun_mk (st := s_comes_before) l6 c6 k6
  have b6 := F6.binds (ps := ["one", "other"]) fun _ _ _ _ _ _ us hl => match us, hl with | [_, _], _ => rfl
  have F7 := fun_mk (st := s_least_of) l7 c7 k7
  have b7 := F7.binds (ps := ["cells"]) fun _ _ _ _ _ _ us hl => match us, hl with | [_], _ => rfl
  have F8 := fun_mk (st := s_greatest_of) l8 c8 k8
  have b8 := F8.binds (ps := ["cells"]) fun _ _ _ _ _ _ us hl => match us, hl with | [_], _ => rfl
  have F9 := fun_mk (st := s_straight_ends) l9 c9 k9
  have b9 := F9.binds (ps := ["numbers"]) fun _ _ _ _ _ _ us hl => match us, hl with | [_], _ => rfl
  have F10 := fun_mk (st := s_cells_there) l10 c10 k10
  have b10 := F10.binds (ps := ["columns", "rows", "name"]) fun _ _ _ _ _ _ us hl => match us, hl with | [_, _, _], _ => rfl
  have F11 := fun_mk (st := s_scale_of) l11 c11 k11
  have b11 := F11.binds (ps := ["channel", "columns", "rows", "length"]) fun _ _ _ _ _ _ us hl => match us, hl with | [_, _, _, _], _ => rfl
  have F12 := fun_mk (st := s_colour_scale) l12 c12 k12
  have b12 := F12.binds (ps := ["telling", "columns", "rows"]) fun _ _ _ _ _ _ us hl => match us, hl with | [_, _, _], _ => rfl
  have F13 := fun_mk (st := s_size_scale) l13 c13 k13
  have b13 := F13.binds (ps := ["telling", "columns", "rows"]) fun _ _ _ _ _ _ us hl => match us, hl with | [_, _, _], _ => rfl
  have F14 := fun_mk (st := s_l_cell_at) l14 c14 k14
  have b14 := F14.binds (ps := ["_law_script", "_law_k"]) fun _ _ _ _ _ _ us hl => match us, hl with | [_, _], _ => rfl
  have F15 := fun_mk (st := s_l_draws) l15 c15 k15
  have b15 := F15.binds (ps := ["_law_script", "_law_k", "_law_many"]) fun _ _ _ _ _ _ us hl => match us, hl with | [_, _, _], _ => rfl
  have F16 := fun_mk (st := s_l_low) l16 c16 k16
  have b16 := F16.binds (ps := ["_law_top", "_law_bottom"]) fun _ _ _ _ _ _ us hl => match us, hl with | [_, _], _ => rfl
  have F17 := fun_mk (st := s_l_number) l17 c17 k17
  have b17 := F17.binds (ps := ["_law_d"]) fun _ _ _ _ _ _ us hl => match us, hl with | [_], _ => rfl
  have F18 := fun_mk (st := s_l_more) l18 c18 k18
  have b18 := F18.binds (ps := ["_law_one", "_law_d"]) fun _ _ _ _ _ _ us hl => match us, hl with | [_, _], _ => rfl
  have F19 := fun_mk (st := s_l_word) l19 c19 k19
  have b19 := F19.binds (ps := ["_law_d", "_law_k"]) fun _ _ _ _ _ _ us hl => match us, hl with | [_, _], _ => rfl
  have F20 := fun_mk (st := s_l_wish) l20 c20 k20
  have b20 := F20.binds (ps := ["_law_d", "_law_wanted"]) fun _ _ _ _ _ _ us hl => match us, hl with | [_, _], _ => rfl
  have F21 := fun_mk (st := s_l_wish_by) l21 c21 k21
  have b21 := F21.binds (ps := ["_law_d"]) fun _ _ _ _ _ _ us hl => match us, hl with | [_], _ => rfl
  have F22 := fun_mk (st := s_l_due) l22 c22 k22
  have b22 := F22.binds (ps := ["_law_wish_here", "_law_cells", "_law_length"]) fun _ _ _ _ _ _ us hl => match us, hl with | [_, _, _], _ => rfl
  have F23 := fun_mk (st := s_l_right) l23 c23 k23
  have b23 := F23.binds (ps := ["_law_found", "_law_due_here"]) fun _ _ _ _ _ _ us hl => match us, hl with | [_, _], _ => rfl
  have F24 := fun_mk (st := s_law) l24 c24 k24
  have b24 := F24.binds (ps := ["_law_script"]) fun _ _ _ _ _ _ us hl => match us, hl with | [_], _ => rfl
  have T : Txt K mg ⟨_, _, _, _, _, _, _, _, _, _, _, _, _, _, _, _, _, _, _, _, _, _, _, _, _, _, _, _, _, _, _, _, _, _, _, _, _, _, _, _, _, _, _, _, _, _, _, _, _, _, C_NoNumber, g_COLOUR_LENGTH, g_SIZE_LENGTH⟩ := ⟨F0, PySem.W.mg_of X G a0, k0, b0, F1, PySem.W.mg_of X G a1, k1, b1, F2, PySem.W.mg_of X G a2, k2, b2, bd2, F3, PySem.W.mg_of X G a3, k3, b3, F4, PySem.W.mg_of X G a4, k4, b4, F5, PySem.W.mg_of X G a5, k5, b5, F6, PySem.W.mg_of X G a6, k6, b6, F7, PySem.W.mg_of X G a7, k7, b7, F8, PySem.W.mg_of X G a8, k8, b8, F9, PySem.W.mg_of X G a9, k9, b9, F10, PySem.W.mg_of X G a10, k10, b10, F11, PySem.W.mg_of X G a11, k11, b11, F12, PySem.W.mg_of X G a12, k12, b12, F13, PySem.W.mg_of X G a13, k13, b13, F14, PySem.W.mg_of X G a14, k14, b14, F15, PySem.W.mg_of X G a15, k15, b15, F16, PySem.W.mg_of X G a16, k16, b16, F17, PySem.W.mg_of X G a17, k17, b17, F18, PySem.W.mg_of X G a18, k18, b18, F19, PySem.W.mg_of X G a19, k19, b19, F20, PySem.W.mg_of X G a20, k20, b20, F21, PySem.W.mg_of X G a21, k21, b21, F22, PySem.W.mg_of X G a22, k22, b22, F23, PySem.W.mg_of X G a23, k23, b23, F24, PySem.W.mg_of X G a24, k24, b24, PySem.W.mg_of X G n_NoNumber, n_NoNumber, x_NoNumber, e_NoNumber, PySem.W.mg_of X G w_COLOUR_LENGTH, PySem.W.mg_of X G w_SIZE_LENGTH, PySem.W.mg_none_of X G z_isinstance, PySem.W.mg_none_of X G z_int, PySem.W.mg_none_of X G z_bool, PySem.W.mg_none_of X G z_tuple, PySem.W.mg_none_of X G z_list, PySem.W.mg_none_of X G z_abs, PySem.W.mg_none_of X G z_len, PySem.W.mg_none_of X G z_range, PySem.W.mg_none_of X G z_min, PySem.W.mg_none_of X G z_enumerate⟩
  exact ⟨PySem.W.fnOf "law" "law" (defArgs s_law) (defBody s_law) (defScope s_law) .none kV24 dc24 pm24 an24 cd24 ct24, fun s v => .of_eq rfl, fun base _ _ => ok_law T⟩
theorem walk {l : PySem.W.OpenLaw} {q : Program} {loose : List Str} {XP : (Str → Option Value) → Heap → Prop} {YP : World → Heap → Prop} {d : DefRec} {K : Params → PySem.W.Frag} (hn : l.most = some 63) (hdf : d.params.defaults = [])
    (hY : ∀ (w : World) (h : Heap), YP w h → (K w.params).In h)
    (F : ∀ (w : World) (mg : Str → Option Value) (fa : Addr) (h : Heap), (K w.params).In h → h.Ns mainGlobals mg → mg d.name = some (.ref fa) →
      ∃ fd : FuncData, (∀ (s : Shared) (u : Value), BindsTo s fd ⟨[u], []⟩ [("_law_script", u)]) ∧ ∀ base : Heap, (K w.params).In base → base.Ns mainGlobals mg → FnOk l.prog w (K w.params) mg base CX0 7 fa fd ["_law_script"] (sp_law (K w.params))) :
    PySem.W.WalkO q loose XP YP l.row.toRowW d [] (fun f vs => PySem.call f vs) :=
  L2.walk_ofB (n := 63) (k := 7) (x := "_law_script") (CX := fun _ => CX0) (sp := fun w => sp_law (K w.params)) hn (by decide) hdf ⟨rfl, by decide, by decide⟩ hY F (fun _ _ a ns hl hbt _ hS => ⟨a, ns, rfl, hS, hl, hbt, fun _ => rfl⟩) fun _ _ _ _ _ z => z
end MyLaw
open PySem PySem.W PyProof.Rows
set_option maxRecDepth 100000 in
set_option maxHeartbeats 0 in
theorem PySem.Challenge.cw_markscale_k47_scales_of_colour_and_size_holds : PySem.Challenge.rw_markscale_k47_scales_of_colour_and_size.Holds := by
  w_on; o_law; k_head; (case hw => w_witness2)
  k_fill
  refine MyLaw.walk (l := PySem.Challenge.rw_markscale_k47_scales_of_colour_and_size) rfl rfl (fun w h Y => PySem.W.kIn_of Y) ?F
  case F =>
    intro w mg fa h KX G hmg
    refine' MyLaw.all_mk KX G hmg ?a0 ?l0 ?c0 ?k0 ?a1 ?l1 ?c1 ?k1 ?a2 ?l2 ?c2 ?k2 ?dl2 ?a3 ?l3 ?c3 ?k3 ?a4 ?l4 ?c4 ?k4 ?a5 ?l5 ?c5 ?k5 ?a6 ?l6 ?c6 ?k6 ?a7 ?l7 ?c7 ?k7 ?a8 ?l8 ?c8 ?k8 ?a9 ?l9 ?c9 ?k9 ?a10 ?l10 ?c10 ?k10 ?a11 ?l11 ?c11 ?k11 ?a12 ?l12 ?c12 ?k12 ?a13 ?l13 ?c13 ?k13 ?a14 ?l14 ?c14 ?k14 ?a15 ?l15 ?c15 ?k15 ?a16 ?l16 ?c16 ?k16 ?a17 ?l17 ?c17 ?k17 ?a18 ?l18 ?c18 ?k18 ?a19 ?l19 ?c19 ?k19 ?a20 ?l20 ?c20 ?k20 ?a21 ?l21 ?c21 ?k21 ?a22 ?l22 ?c22 ?k22 ?a23 ?l23 ?c23 ?k23 ?a24 ?l24 ?c24 ?k24 ?w_COLOUR_LENGTH ?w_SIZE_LENGTH ?n_NoNumber ?x_NoNumber ?e_NoNumber ?z_isinstance ?z_int ?z_bool ?z_tuple ?z_list ?z_abs ?z_len ?z_range ?z_min ?z_enumerate
    (case a0 => k_is)
    (case l0 => k_is)
    (case c0 => k_is)
    (case k0 => k_is)
    (case a1 => k_is)
    (case l1 => k_is)
    (case c1 => k_is)
    (case k1 => k_is)
    (case a2 => k_is)
    (case l2 => k_is)
    (case c2 => k_is)
    (case k2 => k_is)
    (case dl2 => k_is)
    (case a3 => k_is)
    (case l3 => k_is)
    (case c3 => k_is)
    (case k3 => k_is)
    (case a4 => k_is)
    (case l4 => k_is)
    (case c4 => k_is)
    (case k4 => k_is)
    (case a5 => k_is)
    (case l5 => k_is)
    (case c5 => k_is)
    (case k5 => k_is)
    (case a6 => k_is)
    (case l6 => k_is)
    (case c6 => k_is)
    (case k6 => k_is)
    (case a7 => k_is)
    (case l7 => k_is)
    (case c7 => k_is)
    (case k7 => k_is)
    (case a8 => k_is)
    (case l8 => k_is)
    (case c8 => k_is)
    (case k8 => k_is)
    (case a9 => k_is)
    (case l9 => k_is)
    (case c9 => k_is)
    (case k9 => k_is)
    (case a10 => k_is)
    (case l10 => k_is)
    (case c10 => k_is)
    (case k10 => k_is)
    (case a11 => k_is)
    (case l11 => k_is)
    (case c11 => k_is)
    (case k11 => k_is)
    (case a12 => k_is)
    (case l12 => k_is)
    (case c12 => k_is)
    (case k12 => k_is)
    (case a13 => k_is)
    (case l13 => k_is)
    (case c13 => k_is)
    (case k13 => k_is)
    (case a14 => k_is)
    (case l14 => k_is)
    (case c14 => k_is)
    (case k14 => k_is)
    (case a15 => k_is)
    (case l15 => k_is)
    (case c15 => k_is)
    (case k15 => k_is)
    (case a16 => k_is)
    (case l16 => k_is)
    (case c16 => k_is)
    (case k16 => k_is)
    (case a17 => k_is)
    (case l17 => k_is)
    (case c17 => k_is)
    (case k17 => k_is)
    (case a18 => k_is)
    (case l18 => k_is)
    (case c18 => k_is)
    (case k18 => k_is)
    (case a19 => k_is)
    (case l19 => k_is)
    (case c19 => k_is)
    (case k19 => k_is)
    (case a20 => k_is)
    (case l20 => k_is)
    (case c20 => k_is)
    (case k20 => k_is)
    (case a21 => k_is)
    (case l21 => k_is)
    (case c21 => k_is)
    (case k21 => k_is)
    (case a22 => k_is)
    (case l22 => k_is)
    (case c22 => k_is)
    (case k22 => k_is)
    (case a23 => k_is)
    (case l23 => k_is)
    (case c23 => k_is)
    (case k23 => k_is)
    (case a24 => k_is)
    (case l24 => k_is)
    (case c24 => k_is)
    (case k24 => k_is)
    (case w_COLOUR_LENGTH => k_is)
    (case w_SIZE_LENGTH => k_is)
    (case n_NoNumber => k_is)
    (case x_NoNumber => k_exc)
    (case e_NoNumber => kts_exm)
    (case z_isinstance => k_is)
    (case z_int => k_is)
    (case z_bool => k_is)
    (case z_tuple => k_is)
    (case z_list => k_is)
    (case z_abs => k_is)
    (case z_len => k_is)
    (case z_range => k_is)
    (case z_min => k_is)
    (case z_enumerate => k_is)
