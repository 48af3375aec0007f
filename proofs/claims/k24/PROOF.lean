import PyProof.Rows.All
import Wide.All
import OpenK.AllK
import Wide.FinOn
import Lean
import PyProof.EqAt
import PyProof.EqKinds
import PyProof.TupleCall
import PyProof.NeKinds
import PyProof.SumWalkG
import PySem.Challenge.RW_markscale_k24_whole_within_half_a_place
set_option Elab.async false
set_option linter.all false
set_option maxRecDepth 100000
/-! THE HAND LAYER, for ints, bools, texts, own classes, LISTS and tuples (index, slices, in, append, pop ..), calls, loops. Paste it whole ahead of your own text; what your proof does not reach may be deleted. -/
namespace L2
open PySem PySem.Spec PyProof.Rows

/-- a key: an int or a str -/
abbrev Key := Sum Int Str
def keyIs : Key → Value → Bool
  | .inl k, v => Value.isInt k v
  | .inr x, v => Value.isStrOf x v
def keyH (w : World) : Key → Int
  | .inl k => hashInt k
  | .inr x => hashStr w x
theorem keyIs_shape : ∀ {k : Key} {v : Value}, keyIs k v = true → (∃ i t, k = Sum.inl i ∧ v = Value.int i t) ∨ (∃ x t, k = Sum.inr x ∧ v = Value.str x t)
  | .inl i, v, h => by
    obtain ⟨t, e⟩ := Value.isInt_shape (k := i) (v := v) h
    exact .inl ⟨i, t, rfl, e⟩
  | .inr x, v, h => by
    obtain ⟨t, e⟩ := Value.isStrOf_shape (x := x) (v := v) h
    exact .inr ⟨x, t, rfl, e⟩
theorem key_ll (a b : Int) : decide ((Sum.inl a : Key) = Sum.inl b) = (a == b) := by
  by_cases e : a = b
  · subst e; simp
  · have h : ¬ (Sum.inl a : Key) = Sum.inl b := fun q => e (Sum.inl.inj q)
    rw [decide_eq_false h]
    exact (beq_eq_false_iff_ne.mpr e).symm
theorem key_rr (a b : Str) : decide ((Sum.inr a : Key) = Sum.inr b) = decide (a = b) := by
  by_cases e : a = b
  · subst e; simp
  · have h : ¬ (Sum.inr a : Key) = Sum.inr b := fun q => e (Sum.inr.inj q)
    rw [decide_eq_false h, decide_eq_false e]
theorem key_lr (a : Int) (b : Str) : decide ((Sum.inl a : Key) = Sum.inr b) = false := decide_eq_false (fun q => nomatch q)
theorem key_rl (a : Str) (b : Int) : decide ((Sum.inr a : Key) = Sum.inl b) = false := decide_eq_false (fun q => nomatch q)

def mixKind (prog : Program) (w : World) : PySem.KeyKind prog w Key where
  is := keyIs
  hash := keyH w
  inj := fun v a b ha hb => by
    rcases keyIs_shape ha with ⟨i, t, rfl, rfl⟩ | ⟨x, t, rfl, rfl⟩
    · rcases keyIs_shape hb with ⟨j, u, rfl, e⟩ | ⟨y, u, rfl, e⟩
      · injection e with e1 _; rw [e1]
      · exact nomatch e
    · rcases keyIs_shape hb with ⟨j, u, rfl, e⟩ | ⟨y, u, rfl, e⟩
      · exact nomatch e
      · injection e with e1 _; rw [e1]
  byValue := fun k v h => by
    rcases keyIs_shape h with ⟨i, t, rfl, rfl⟩ | ⟨x, t, rfl, rfl⟩ <;> rfl
  pyHash := fun hv h => by
    rcases keyIs_shape hv with ⟨i, t, rfl, rfl⟩ | ⟨x, t, rfl, rfl⟩
    · exact wpAny_pyHash_int h
    · exact wpAny_pyHash_str h
  eqBool := fun hu hv h => by
    rcases keyIs_shape hu with ⟨i, t, rfl, rfl⟩ | ⟨x, t, rfl, rfl⟩
    · rcases keyIs_shape hv with ⟨j, u, rfl, rfl⟩ | ⟨y, u, rfl, rfl⟩
      · rw [key_ll] at h; exact wpAny_eqBool_int h
      · rw [key_lr] at h; exact SeqAt.EqAt.int_str i t y u _ _ _ _ h
    · rcases keyIs_shape hv with ⟨j, u, rfl, rfl⟩ | ⟨y, u, rfl, rfl⟩
      · rw [key_rl] at h; exact SeqAt.EqAt.str_int x t j u _ _ _ _ h
      · rw [key_rr] at h; exact wpAny_eqBool_str h
  «strs» := fun k x t v h => by
    rcases keyIs_shape h with ⟨i, u, rfl, e⟩ | ⟨y, u, rfl, e⟩
    · exact nomatch e
    · injection e with e1 _
      subst e1
      cases v <;> rfl

end L2

namespace L2
open PySem PySem.Spec PyProof.Rows

/-- a value, without the heap -/
inductive V where
  | non | bl (b : Bool) | int (i : Int) | str (x : Str) | byt (b : Array UInt8) | flt (b : UInt64) | ref (a : Addr) | ty (n : String)
  deriving DecidableEq

def RelV : V → Value → Prop
  | .non, u => u = Value.none
  | .bl b, u => u = Value.bool b
  | .int i, u => ∃ t, u = Value.int i t
  | .str x, u => ∃ t, u = Value.str x t
  | .byt b, u => ∃ t, u = Value.bytes b t
  | .flt b, u => ∃ t, u = Value.float b t
  | .ref a, u => u = Value.ref a
  | .ty n, u => u = Value.type n

abbrev Vals : List V → List Value → Prop := Paired RelV
theorem Vals.length {xs : List V} {us : List Value} (r : Vals xs us) : xs.length = us.length := Paired.length r
theorem Vals.get : ∀ {xs : List V} {us : List Value} {i : Nat} {x : V}, Vals xs us → xs[i]? = some x → ∃ u, us[i]? = some u ∧ RelV x u
  | _, _, _, _, .nil, e => by simp at e
  | _, _, 0, _, .cons r _, e => by simp at e; subst e; exact ⟨_, rfl, r⟩
  | _, _, i + 1, x, .cons _ t, e => by
    obtain ⟨u, h1, h2⟩ := Vals.get (i := i) (x := x) t (by simpa using e)
    exact ⟨u, by simpa using h1, h2⟩
theorem Vals.append : ∀ {xs ys : List V} {us ws : List Value}, Vals xs us → Vals ys ws → Vals (xs ++ ys) (us ++ ws)
  | _, _, _, _, .nil, s => s
  | _, _, _, _, .cons r t, s => .cons r (Vals.append t s)
theorem Vals.take : ∀ {xs : List V} {us : List Value} (n : Nat), Vals xs us → Vals (xs.take n) (us.take n)
  | _, _, 0, _ => .nil
  | _, _, _ + 1, .nil => .nil
  | _, _, n + 1, .cons r t => .cons r (Vals.take n t)
theorem Vals.drop : ∀ {xs : List V} {us : List Value} (n : Nat), Vals xs us → Vals (xs.drop n) (us.drop n)
  | _, _, 0, r => r
  | _, _, _ + 1, .nil => .nil
  | _, _, n + 1, .cons _ t => Vals.drop n t
def RelO : Option V → Option Value → Prop
  | some v, some u => RelV v u
  | none, none => True
  | _, _ => False
def KV {κ : Type} : List (κ × V) → List (κ × Value) → Prop := Paired fun (p : κ × V) (q : κ × Value) => p.1 = q.1 ∧ RelV p.2 q.2

/-- a key of a dict (00_mix): an int or a text -/
def kV : Key → V
  | .inl i => .int i
  | .inr x => .str x

/-- what stands at a tracked address -/
inductive HO where
  /-- a list -/
  | lst (xs : List V)
  /-- a tuple (never changes) -/
  | tup (xs : List V)
  /-- a dict whose keys are ints and texts; one whose keys are tuples of ints and texts (the empty one is both) -/
  | dK (kvs : List (Key × V)) | dT (kvs : List (List Key × V))
  /-- a set of ints: its members, its size -/
  | set (S : Int → Bool) (n : Nat)
  /-- an instance of the class at C, its dict at dx, its attributes -/
  | ins (C dx : Addr) (fs : List (Str × V))
  /-- the dict of the instance at x -/
  | own (x : Addr)
  /-- the dict of an exception -/
  | xd (fs : List (Str × V))
  /-- a bound method, f of x -/
  | met (f x : Addr)
  /-- a range object lo, lo + 1, .. below hi -/
  | rng (lo hi : Int)
  /-- a thing that is known to the object (the script; a dict while a loop walks it): read, never written while it is so -/
  | frz (o : Obj) (u : HO)
  /-- a code object's table -/
  | tbl (ps : Array Value)
  /-- any other thing, by what is true of its one object (a def of one's own: SetO a S n := HO.ext fun h => ..) -/
  | ext (φ : Heap → Prop)

abbrev Hp := Addr → Option HO
def upd (H : Hp) (a : Addr) (o : HO) : Hp := fun b => if b = a then some o else H b
theorem upd_same {H : Hp} {a : Addr} {o : HO} : upd H a o a = some o := by unfold upd; rw [if_pos rfl]
theorem upd_ne {H : Hp} {a b : Addr} {o : HO} (h : b ≠ a) : upd H a o b = H b := by unfold upd; rw [if_neg h]
theorem ne_of_none {H : Hp} {a b : Addr} {o : HO} (h : H a = some o) (h' : H b = none) : a ≠ b := by
  intro e; subst e; rw [h] at h'; cases h'

section
variable (P : Program) (w : World)
def ObjOk (H : Hp) (h : Heap) (a : Addr) : HO → Prop
  | .lst xs => xs.length ≤ sizeLine ∧ ∃ (its : List Value) (n : Nat), Vals xs its ∧ h.get? a = some { cls := .type "list", data := .seq its.toArray n }
  | .tup xs => xs.length ≤ sizeLine ∧ ∃ its : List Value, Vals xs its ∧ IsTup h a its.toArray
  | .dK kvs => kvs.length ≤ sizeLine ∧ (a == sysModules) = false ∧ ∃ vs, KV kvs vs ∧ h.DictOf (mixKind P w) a vs
  | .dT kvs => kvs.length ≤ sizeLine ∧ (a == sysModules) = false ∧ ∃ xs : List (List Key × Addr × Value),
      Paired (fun (p : List Key × V) (q : List Key × Addr × Value) => p.1 = q.1 ∧ H q.2.1 = some (.tup (p.1.map kV)) ∧ RelV p.2 q.2.2) kvs xs ∧
      ∃ o es ep, h.get? a = some o ∧ o.ExactDict ∧ o.data = .dict es ep ∧ es.toList = xs.map (entryOfKey (tupleKind (mixKind P w))) ∧ (xs.map (·.1)).Nodup
  | .set S n => h.SetOf (intKind P w) a S n
  | .ins C dx fs => H dx = some (.own a) ∧ fs.length ≤ 1000 ∧ dx ≠ a ∧ h.get? a = some (PySem.W.instObj C dx) ∧
      ∃ mA, h.Ns1 dx mA ∧ (∀ f, RelO (fs.lookup f) (mA f)) ∧ PySem.Within mA (fs.map (·.1))
  | .own _ => ∃ o, h.get? a = some o
  | .xd fs => ∃ mA, h.Ns1 a mA ∧ ∀ f, RelO (fs.lookup f) (mA f)
  | .rng lo hi => ∃ t u v, h.get? a = some { cls := .type "range", data := .fields #[.int lo t, .int hi u, .int 1 v] }
  | .frz o u => h.get? a = some o ∧ ObjOk H h a u
  | .tbl ps => h.get? a = some { cls := .none, data := .fields ps }
  | .met f x => h.get? a = some (PySem.W.methodObj (.ref f) (.ref x))
  | .ext φ => φ h ∧ (∃ o, h.get? a = some o) ∧ ∀ h1 h2 : Heap, φ h1 → (∀ o, h1.get? a = some o → h2.get? a = some o) → φ h2
/-- the abstract heap is held -/
def HOk (H : Hp) (h : Heap) : Prop := ∀ a o, H a = some o → ObjOk P w H h a o
end

section
variable {P : Program} {w : World} {H H' : Hp} {h h' : Heap} {a : Addr} {o : HO}
theorem ObjOk.lt (x : ObjOk P w H h a o) : a < h.objs.size := by
  cases o with
  | lst xs => obtain ⟨_, _, _, _, e⟩ := x; exact Heap.lt_size e
  | tup xs => obtain ⟨_, _, _, p⟩ := x; exact p.lt
  | dK kvs => obtain ⟨_, _, _, _, o, _, _, e, _⟩ := x; exact Heap.lt_size e
  | dT kvs => obtain ⟨_, _, _, _, o, _, _, e, _⟩ := x; exact Heap.lt_size e
  | set S n => obtain ⟨o, _, _, _, e, _⟩ := x; exact Heap.lt_size e
  | ins C dx fs => obtain ⟨_, _, _, e, _⟩ := x; exact Heap.lt_size e
  | own y => obtain ⟨_, e⟩ := x; exact Heap.lt_size e
  | xd fs => obtain ⟨_, ⟨_, _, _, e, _⟩, _⟩ := x; exact Heap.lt_size e
  | rng lo hi => obtain ⟨_, _, _, e⟩ := x; exact Heap.lt_size e
  | frz ob u => obtain ⟨e, _⟩ := x; exact Heap.lt_size e
  | tbl ps => exact Heap.lt_size (show h.get? a = some _ from x)
  | met f y => exact Heap.lt_size (show h.get? a = some _ from x)
  | ext φ => obtain ⟨_, ⟨_, e⟩, _⟩ := x; exact Heap.lt_size e
theorem Paired.mapP {α β : Type} {F G : α → β → Prop} : ∀ {l₁ : List α} {l₂ : List β}, Paired F l₁ l₂ → (∀ a b, F a b → G a b) → Paired G l₁ l₂
  | _, _, .nil, _ => .nil
  | _, _, .cons r t, f => .cons (f _ _ r) (Paired.mapP t f)
/-- what an object's description leans on: its own object, its own dict, the tuples -/
theorem ObjOk.stay (x : ObjOk P w H h a o) (k : ∀ b u, (b = a ∨ H b = some (.own a)) → h.get? b = some u → h'.get? b = some u)
    (ho : ∀ b, H b = some (.own a) → H' b = some (.own a)) (ht : ∀ b xs, H b = some (.tup xs) → H' b = some (.tup xs)) : ObjOk P w H' h' a o := by
  induction o with
  | lst xs => obtain ⟨z, its, n, r, e⟩ := x; exact ⟨z, its, n, r, k _ _ (.inl rfl) e⟩
  | tup xs => obtain ⟨z, its, r, ob, e, c⟩ := x; exact ⟨z, its, r, ob, k _ _ (.inl rfl) e, c⟩
  | dK kvs => obtain ⟨z, y, vs, r, ob, es, ep, e, c⟩ := x; exact ⟨z, y, vs, r, ob, es, ep, k _ _ (.inl rfl) e, c⟩
  | dT kvs =>
    obtain ⟨z, y, xs, r, ob, es, ep, e, c⟩ := x
    exact ⟨z, y, xs, Paired.mapP r fun p q z => ⟨z.1, ht _ _ z.2.1, z.2.2⟩, ob, es, ep, k _ _ (.inl rfl) e, c⟩
  | set S n => obtain ⟨ob, es, ep, t, e, c⟩ := x; exact ⟨ob, es, ep, t, k _ _ (.inl rfl) e, c⟩
  | ins C dx fs =>
    obtain ⟨d, z, ne, e, mA, ⟨od, es, ep, e2, c⟩, r⟩ := x
    exact ⟨ho _ d, z, ne, k _ _ (.inl rfl) e, mA, ⟨od, es, ep, k _ _ (.inr d) e2, c⟩, r⟩
  | own y => obtain ⟨ob, e⟩ := x; exact ⟨ob, k _ _ (.inl rfl) e⟩
  | xd fs => obtain ⟨mA, ⟨od, es, ep, e, c⟩, r⟩ := x; exact ⟨mA, ⟨od, es, ep, k _ _ (.inl rfl) e, c⟩, r⟩
  | rng lo hi => obtain ⟨t, u, v, e⟩ := x; exact ⟨t, u, v, k _ _ (.inl rfl) e⟩
  | frz ob u ih => obtain ⟨e, q⟩ := x; exact ⟨k _ _ (.inl rfl) e, ih q⟩
  | tbl ps =>
    have e : h.get? a = some { cls := .none, data := .fields ps } := x
    show h'.get? a = some { cls := .none, data := .fields ps }
    exact k a _ (.inl rfl) e
  | met f y =>
    have e : h.get? a = some (PySem.W.methodObj (.ref f) (.ref y)) := x
    show h'.get? a = some (PySem.W.methodObj (.ref f) (.ref y))
    exact k a _ (.inl rfl) e
  | ext φ => obtain ⟨p, ⟨o, e⟩, st⟩ := x; exact ⟨st _ _ p fun o q => k _ _ (.inl rfl) q, ⟨o, k _ _ (.inl rfl) e⟩, st⟩
theorem HOk.lt (x : HOk P w H h) (e : H a = some o) : a < h.objs.size := (x a o e).lt
theorem HOk.fresh (x : HOk P w H h) (e : h.objs.size ≤ a) : H a = none := by
  cases q : H a with
  | none => rfl
  | some u => exact absurd (Nat.lt_of_lt_of_le (x.lt q) e) (Nat.lt_irrefl _)
/-- every object of the heap is kept -/
theorem HOk.kept (x : HOk P w H h) (k : ∀ b u, h.get? b = some u → h'.get? b = some u) : HOk P w H h' := fun a o e =>
  (x a o e).stay (fun b u _ q => k b u q) (fun _ q => q) fun _ _ q => q
/-- a new object is laid and tracked -/
theorem HOk.laid (x : HOk P w H h) (k : ∀ b u, h.get? b = some u → h'.get? b = some u) (hp : h.objs.size ≤ a) (new : ObjOk P w (upd H a o) h' a o) : HOk P w (upd H a o) h' := fun b u e => by
  have hn := x.fresh hp
  by_cases hb : b = a
  · subst hb; rw [upd_same] at e; cases e; exact new
  · rw [upd_ne hb] at e
    exact (x b u e).stay (fun c v _ q => k c v q) (fun c q => by rw [upd_ne (ne_of_none q hn)]; exact q) fun c xs q => by rw [upd_ne (ne_of_none q hn)]; exact q
end

/-- what may be read as u: it is u, or a known u -/
def Rd (H : Hp) (a : Addr) (u : HO) : Prop := H a = some u ∨ ∃ o, H a = some (.frz o u)
theorem Rd.ok {P : Program} {w : World} {H : Hp} {h : Heap} {a : Addr} {u : HO} (r : Rd H a u) (x : HOk P w H h) : ObjOk P w H h a u := by
  rcases r with r | ⟨o, r⟩
  · exact x a u r
  · obtain ⟨_, q⟩ := x a _ r
    exact q
/-- what may be written -/
def Mut : Option HO → Prop
  | some (.lst _) => True
  | some (.dK _) => True
  | some (.dT _) => True
  | some (.set _ _) => True
  | some (.ins _ _ _) => True
  | some (.ext _) => True
  | _ => False
section
variable {P : Program} {w : World} {H : Hp} {h h' : Heap} {x e : Addr} {o' : HO}
/-- the object at e is changed: x itself, or the dict of the instance x -/
theorem HOk.write (ok : HOk P w H h) (mu : Mut (H x)) (he : e = x ∨ H e = some (.own x)) (k : ∀ b u, b ≠ e → h.get? b = some u → h'.get? b = some u) (heo : ∃ u, h'.get? e = some u)
    (new : ObjOk P w (upd H x o') h' x o') : HOk P w (upd H x o') h' := fun b u q => by
  have nown : ∀ c y, H c = some (.own y) → c ≠ x := fun c y r z => by subst z; rw [r] at mu; exact mu
  have ntup : ∀ c xs, H c = some (.tup xs) → c ≠ x := fun c xs r z => by subst z; rw [r] at mu; exact mu
  by_cases hb : b = x
  · subst hb; rw [upd_same] at q; cases q; exact new
  · rw [upd_ne hb] at q
    by_cases hbe : b = e
    · have q' : H b = some (.own x) := by
        rcases he with z | z
        · exact absurd (hbe.trans z) hb
        · rw [hbe]; exact z
      rw [q] at q'; cases q'
      obtain ⟨v, hv⟩ := heo
      exact ⟨v, by rw [hbe]; exact hv⟩
    · refine (ok b u q).stay (fun c v hc r => k c v ?_ r) (fun c r => by rw [upd_ne (nown c b r)]; exact r) fun c xs r => by rw [upd_ne (ntup c xs r)]; exact r
      rcases hc with rfl | hc
      · exact hbe
      · rintro rfl
        rcases he with z | z
        · exact nown c b hc z
        · rw [hc] at z; cases z; exact hb rfl
end

/-! ### kept unless tracked; of the frames at fs (the callers') the slots may change (an exception that passes writes there); of the records at ex (iterators) nothing is said -/
structure Un (fs ex : List Addr) (H H' : Hp) (h h' : Heap) : Prop where
  keep : ∀ b o, h.get? b = some o → H b = none → b ∉ fs → b ∉ ex → h'.get? b = some o
  slot : ∀ b o, h.get? b = some o → H b = none → b ∈ fs → b ∉ ex → ∃ sl, h'.get? b = some { o with slots := sl }
  free : ∀ b o, h.get? b = some o → H b = none → b ∉ ex → H' b = none
  there : ∀ b o, h.get? b = some o → b ∉ ex → ∃ o', h'.get? b = some o'
  tups : ∀ b xs, H b = some (.tup xs) → H' b = some (.tup xs)
  frzs : ∀ b o u, H b = some (.frz o u) → H' b = some (.frz o u)
  tbls : ∀ b ps, H b = some (.tbl ps) → ∃ more, H' b = some (.tbl (ps ++ more))
section
variable {fs fs' ex ex' : List Addr} {H H1 H2 : Hp} {h h1 h2 h' : Heap} {a x e : Addr} {o : HO}
theorem Un.any (u : Un fs ex H H1 h h1) {b : Addr} {ob : Obj} (q : h.get? b = some ob) (n : H b = none) (hx : b ∉ ex) : ∃ sl, h1.get? b = some { ob with slots := sl } := by
  by_cases hb : b ∈ fs
  · exact u.slot b ob q n hb hx
  · exact ⟨ob.slots, u.keep b ob q n hb hx⟩
theorem Un.kept (k : ∀ b u, h.get? b = some u → h'.get? b = some u) : Un fs ex H H h h' :=
  ⟨fun b ob q _ _ _ => k b ob q, fun b ob q _ _ _ => ⟨ob.slots, k b ob q⟩, fun _ _ _ n _ => n, fun b ob q _ => ⟨ob, k b ob q⟩, fun _ _ q => q, fun _ _ _ q => q, fun _ ps q => ⟨#[], by rw [q]; simp⟩⟩
theorem Un.refl : Un fs ex H H h h := Un.kept fun _ _ q => q
theorem Un.laid (k : ∀ b u, h.get? b = some u → h'.get? b = some u) (hp : h.objs.size ≤ a) (hn : H a = none) : Un fs ex H (upd H a o) h h' where
  keep := fun b u q _ _ _ => k b u q
  slot := fun b u q _ _ _ => ⟨u.slots, k b u q⟩
  free := fun b u q n _ => by rw [upd_ne (Nat.ne_of_lt (Nat.lt_of_lt_of_le (Heap.lt_size q) hp))]; exact n
  there := fun b u q _ => ⟨u, k b u q⟩
  tups := fun b xs q => by rw [upd_ne (ne_of_none q hn)]; exact q
  frzs := fun b u xs q => by rw [upd_ne (ne_of_none q hn)]; exact q
  tbls := fun b ps q => ⟨#[], by rw [upd_ne (ne_of_none q hn), q]; simp⟩
theorem Un.write (mu : Mut (H x)) (he : e = x ∨ H e = some (.own x)) (k : ∀ b u, b ≠ e → h.get? b = some u → h'.get? b = some u) (heo : ∃ u, h'.get? e = some u) : Un fs ex H (upd H x o) h h' := by
  have hx : ∀ b, H b = none → b ≠ x := fun b n z => by subst z; rw [n] at mu; exact mu
  have hb : ∀ b, H b = none → b ≠ e := fun b n z => by
    subst z
    rcases he with r | r
    · exact hx b n r
    · rw [n] at r; cases r
  have hm : ∀ b u, H b = some u → ¬ Mut (some u) → b ≠ x := fun b u q nm z => by subst z; rw [q] at mu; exact nm mu
  refine ⟨fun b u q n _ _ => k b u (hb b n) q, fun b u q n _ _ => ⟨u.slots, k b u (hb b n) q⟩, fun b u q n _ => by rw [upd_ne (hx b n)]; exact n, fun b u q _ => ?_,
    fun b xs q => by rw [upd_ne (hm b _ q fun z => z)]; exact q, fun b u xs q => by rw [upd_ne (hm b _ q fun z => z)]; exact q, fun b ps q => ⟨#[], by rw [upd_ne (hm b _ q fun z => z), q]; simp⟩⟩
  by_cases hbe : b = e
  · subst hbe; exact heo
  · exact ⟨u, k b u hbe q⟩
end

/-! ### the heap without what is tracked -/
def trk (h : Heap) (H : Hp) : List Addr := (List.range h.objs.size).filter fun a => (H a).isSome
def hidT (h : Heap) (H : Hp) : Heap := PySem.W.hideAll h (trk h H)
theorem hidT_size (h : Heap) (H : Hp) : (hidT h H).objs.size = h.objs.size := PySem.W.hideAll_size _ _
theorem hidT_get {h : Heap} {H : Hp} {b : Addr} {o : Obj} (e : h.get? b = some o) (n : H b = none) : (hidT h H).get? b = some o :=
  PySem.W.hideAll_get _ e fun hm => by
    have q : (H b).isSome = true := (List.mem_filter.mp hm).2
    rw [n] at q; simp at q
theorem of_hidT {h : Heap} {H : Hp} {b : Addr} {o : Obj} (e : (hidT h H).get? b = some o) : h.get? b = some o ∧ H b = none := by
  have e' : h.get? b = some o := PySem.W.of_hideAll (trk h H) e
  refine ⟨e', ?_⟩
  cases q : H b with
  | none => rfl
  | some x =>
    have hm : b ∈ trk h H := List.mem_filter.mpr ⟨List.mem_range.mpr (Heap.lt_size e'), by simp [q]⟩
    have z : (hidT h H).get? b = none := PySem.W.hideAll_none (trk h H) hm
    rw [z] at e; cases e

/-! ### OpenK's ledger, filled with every new object but one -/
def allNews (g h : Heap) (L : Addr) : List (Addr × Obj) := (List.range h.objs.size).filterMap fun a => if a = L ∨ (g.get? a).isSome = true then none else (h.get? a).map fun o => (a, o)
def rest (g h : Heap) (L d : Addr) : List (Addr × Obj) := (allNews g h L).filter fun p => decide (p.1 ≠ d)
end L2

namespace L2
open PySem PySem.Spec PyProof.Rows

/-- the module's facts, over the base: the heap at the law's entry without what is tracked there -/
structure Mod (K : PySem.W.Frag) (mg : Str → Option Value) (base : Heap) : Prop where
  kin : K.In base
  glob : base.Ns mainGlobals mg
  blt : ∃ mb, base.Ns builtinsNs mb ∧ ∀ x : Str, x ≠ "__name__" → mb x = bootBuiltins x
  nolimit : base.NoLimit

/-- the context: a def's body (or a comprehension's block) running. base: fixed through the whole law; s₀, H₀: the entry; outer: the frames whose slots others may change (a def's callers); stack: all frames that run;
   ex: iterators that were made ahead of the entry and are walked here (a comprehension's); fn: the names whose cells were made at the entry (a def: all; a comprehension's block: its own); calm: not within an except suite; pn: pins that every state bears; xe: what is wanted of an exception that leaves the code -/
structure Cx where
  prog : Program
  w : World
  K : PySem.W.Frag
  mg : Str → Option Value
  base : Heap
  A : Around
  N : List Str
  s₀ : Shared
  H₀ : Hp
  env : Env
  outer : List Env
  stack : List Env
  ex : List Addr
  fn : Str → Bool
  calm : Bool
  pn : List (Addr × Obj)
  xe : Value → Shared → Prop
/-- the callers' frames -/
def frs (l : List Env) : List Addr := l.filterMap (·.frame)
abbrev Cx.fs (X : Cx) : List Addr := frs X.outer

def Vis (sc : Scope) (x : Str) : Prop := sc.names.lookup x = some .local ∨ sc.names.lookup x = some .cell ∨ sc.names.lookup x = some .free
def Loc (sc : Scope) (x : Str) : Prop := sc.names.lookup x = some .local ∨ sc.names.lookup x = some .cell
def Look (env : Env) (h : Heap) (m : Str → Option Value) (x : Str) (u : Value) : Prop :=
  (env.kindOf x = some .local ∧ m x = some u) ∨ ((env.kindOf x = some .cell ∨ env.kindOf x = some .free) ∧ ∃ c, env.cells.lookup x = some c ∧ h.IsCell c (some u))

structure Cx.Ok (X : Cx) : Prop where
  mod : Mod X.K X.mg X.base
  kind : X.env.scope.kind = .function
  glob : X.env.globals = mainGlobals
  blt : X.env.builtins = builtinsNs
  above : X.s₀.heap.objs.size ≤ X.env.locals
  inj : ∀ x y c, X.env.cells.lookup x = some c → X.env.cells.lookup y = some c → x = y
  has : ∀ x, (X.env.kindOf x = some .cell ∨ X.env.kindOf x = some .free) → ∃ c, X.env.cells.lookup x = some c
  cab : ∀ x c, X.fn x = true → X.env.cells.lookup x = some c → X.s₀.heap.objs.size ≤ c
  hd : X.calm = true → X.A.handled = none
  frames : X.A.frames = some X.stack
  stk : X.stack = X.outer ∨ (X.stack = X.env :: X.outer ∧ X.env.frame = some X.env.locals)
  exf : ∀ b ∈ X.ex, b ≠ X.env.locals ∧ ∀ x c, X.env.cells.lookup x = some c → c ≠ b
  bs : ∀ b o, X.base.get? b = some o → X.s₀.heap.get? b = some o ∧ X.H₀ b = none
  bsz : X.base.objs.size ≤ X.s₀.heap.objs.size
  noex : ∀ b o, X.base.get? b = some o → b ∉ X.ex
  exfs : ∀ b ∈ X.ex, b ∉ X.fs
  funs : X.s₀.heap.FunFrames X.base X.outer
  frf : ∀ b ∈ X.fs, X.H₀ b = none

structure Inv (X : Cx) (pins : List (Addr × Obj)) (σ : List (Option V)) (H : Hp) (s : Shared) : Prop where
  ok : X.Ok
  os : s.os = X.s₀.os
  bare : AllBare s.gens
  base : Un X.fs X.ex X.H₀ H X.s₀.heap s.heap
  loc : ∃ m, s.heap.Ns X.env.locals m ∧ ∀ (i : Nat) (x : Str) (v : V), X.N[i]? = some x → σ[i]? = some (some v) → Vis X.env.scope x → ∃ u, RelV v u ∧ Look X.env s.heap m x u
  cell : ∀ x c, X.env.cells.lookup x = some c → ∃ v, s.heap.IsCell c v
  free : H X.env.locals = none
  freeC : ∀ x c, X.env.cells.lookup x = some c → H c = none
  pin : ∀ p ∈ X.pn ++ pins, s.heap.get? p.1 = some p.2 ∧ H p.1 = none ∧ p.1 ≠ X.env.locals ∧ p.1 ∉ X.fs ∧ ∀ v, p.2.data ≠ .cell v
  hok : HOk X.prog X.w H s.heap
  len : σ.length = X.N.length

section
variable {X : Cx} {pins : List (Addr × Obj)} {σ : List (Option V)} {H H' : Hp} {s : Shared} {h' : Heap}

theorem Cx.Ok.nofr (ok : X.Ok) {b : Addr} {o : Obj} (e : X.base.get? b = some o) : b ∉ X.fs := fun hb => by
  have := (ok.funs.mem hb).1
  rw [e] at this; cases this
theorem Inv.bs (I : Inv X pins σ H s) : ∀ b o, X.base.get? b = some o → s.heap.get? b = some o ∧ H b = none := fun b o e =>
  ⟨I.base.keep b o (I.ok.bs b o e).1 (I.ok.bs b o e).2 (I.ok.nofr e) (I.ok.noex b o e), I.base.free b o (I.ok.bs b o e).1 (I.ok.bs b o e).2 (I.ok.noex b o e)⟩
theorem Inv.bk (I : Inv X pins σ H s) : ∀ b o, X.base.get? b = some o → s.heap.get? b = some o := fun b o e => (I.bs b o e).1
theorem Inv.mod (I : Inv X pins σ H s) : Mod X.K X.mg X.base := I.ok.mod
theorem Inv.kIn (I : Inv X pins σ H s) : X.K.In s.heap := I.ok.mod.kin.keeps I.bk
theorem Inv.lt (I : Inv X pins σ H s) : X.env.locals < s.heap.objs.size := let ⟨_, hn, _⟩ := I.loc; hn.lt
theorem Inv.sz (I : Inv X pins σ H s) : X.s₀.heap.objs.size ≤ s.heap.objs.size := Nat.le_trans I.ok.above (Nat.le_of_lt I.lt)
theorem Inv.nofs (I : Inv X pins σ H s) {a : Addr} (h : s.heap.objs.size ≤ a) : a ∉ X.fs := fun hb => by
  obtain ⟨_, o, ho, _⟩ := I.ok.funs.mem hb
  exact absurd (Nat.lt_of_lt_of_le (Heap.lt_size ho) (Nat.le_trans I.sz h)) (Nat.lt_irrefl _)
theorem Inv.cne (I : Inv X pins σ H s) : ∀ x c, X.env.cells.lookup x = some c → c ≠ X.env.locals := fun x c e z => by
  obtain ⟨v, o, ho, hd⟩ := I.cell x c e
  obtain ⟨m, ⟨o', es, ep, ho', hd', _⟩, _⟩ := I.loc
  rw [z, ho'] at ho; cases ho; rw [hd'] at hd; cases hd
theorem Inv.funs (I : Inv X pins σ H s) : s.heap.FunFrames X.base X.outer := by
  have all : ∀ (l : List Env), (∀ b ∈ frs l, b ∈ X.fs) → X.s₀.heap.FunFrames X.base l → s.heap.FunFrames X.base l := by
    intro l
    induction l with
    | nil => intro _ _; trivial
    | cons env r ih =>
      intro hs hl
      obtain ⟨hk, ⟨L, o, hf, hn, ho, hd⟩, hr⟩ := hl
      have hL : L ∈ X.fs := hs L (by unfold frs; rw [List.filterMap_cons, hf]; exact List.mem_cons_self)
      obtain ⟨sl, e⟩ := I.base.slot L o ho (I.ok.frf L hL) hL fun z => I.ok.exfs L z hL
      exact ⟨hk, ⟨L, _, hf, hn, e, hd⟩, ih (fun b hb => hs b (by unfold frs; rw [List.filterMap_cons, hf]; exact List.mem_cons_of_mem _ hb)) hr⟩
  exact all X.outer (fun _ hb => hb) I.ok.funs

/-- the frames that run, for a call -/
theorem Inv.stack (I : Inv X pins σ H s) : s.heap.FunFrames X.base X.stack := by
  rcases I.ok.stk with e | ⟨e, hf⟩
  · rw [e]; exact I.funs
  · rw [e]
    obtain ⟨m, hn, _⟩ := I.loc
    refine .cons (by rw [I.ok.kind]; decide) hf hn ?_ I.funs
    exact Heap.get?_none_of_le (Nat.le_trans I.ok.bsz I.ok.above)
theorem Inv.stkSub (I : Inv X pins σ H s) : ∀ b ∈ frs X.stack, b ∈ X.env.locals :: X.fs := fun b hb => by
  rcases I.ok.stk with e | ⟨e, hf⟩
  · rw [e] at hb; exact List.mem_cons_of_mem _ hb
  · rw [e] at hb
    unfold frs at hb
    rw [List.filterMap_cons, hf] at hb
    exact hb
theorem Inv.stkFree (I : Inv X pins σ H s) : ∀ b ∈ frs X.stack, H b = none := fun b hb => by
  rcases List.mem_cons.mp (I.stkSub b hb) with e | hb
  · rw [e]; exact I.free
  · obtain ⟨_, o, ho, _⟩ := I.ok.funs.mem hb
    exact I.base.free b o ho (I.ok.frf b hb) fun z => I.ok.exfs b z hb

/-- THE STEP: the untracked objects but the frame and the records at ch are kept (the callers' frames up to slots), the frame's map is kept, the new abstract heap is held -/
theorem Inv.step {g' : Array GenState} {t' : Nat} {d' : Drawn} {ch : List Addr} (I : Inv X pins σ H s)
    (hch : ∀ b ∈ ch, (b ∈ X.ex ∨ X.s₀.heap.objs.size ≤ b) ∧ b ≠ X.env.locals ∧ (∀ x c, X.env.cells.lookup x = some c → c ≠ b) ∧ ∀ p ∈ X.pn ++ pins, p.1 ≠ b)
    (keep : ∀ b o, b ≠ X.env.locals → b ∉ X.fs → b ∉ ch → s.heap.get? b = some o → H b = none → h'.get? b = some o)
    (slot : ∀ b o, b ≠ X.env.locals → b ∈ X.fs → b ∉ ch → s.heap.get? b = some o → H b = none → ∃ sl, h'.get? b = some { o with slots := sl }) (free : ∀ b o, b ∉ ch → s.heap.get? b = some o → H b = none → H' b = none)
    (there : ∀ b o, b ∉ ch → s.heap.get? b = some o → ∃ o', h'.get? b = some o')
    (tups : ∀ b xs, H b = some (.tup xs) → H' b = some (.tup xs)) (frzs : ∀ b o u, H b = some (.frz o u) → H' b = some (.frz o u)) (tbls : ∀ b ps, H b = some (.tbl ps) → ∃ more, H' b = some (.tbl (ps ++ more)))
    (ns : ∀ m, s.heap.Ns X.env.locals m → h'.Ns X.env.locals m) (hok : HOk X.prog X.w H' h') (hg : AllBare g') :
    Inv X pins σ H' { s with heap := h', gens := g', drawn := d', toks := t' } := by
  have neL : ∀ b o, X.s₀.heap.get? b = some o → b ≠ X.env.locals := fun b o e => Nat.ne_of_lt (Nat.lt_of_lt_of_le (Heap.lt_size e) I.ok.above)
  have neC : ∀ b o, X.s₀.heap.get? b = some o → b ∉ X.ex → b ∉ ch := fun b o e hx hb => by
    rcases (hch b hb).1 with z | z
    · exact hx z
    · exact absurd (Nat.lt_of_lt_of_le (Heap.lt_size e) z) (Nat.lt_irrefl _)
  have cellK : ∀ x c, X.env.cells.lookup x = some c → ∀ v, s.heap.IsCell c v → h'.IsCell c v := fun x c e v ⟨o, ho, hd⟩ => by
    have nch : c ∉ ch := fun z => (hch c z).2.2.1 x c e rfl
    by_cases hc : c ∈ X.fs
    · obtain ⟨sl, q⟩ := slot c o (I.cne x c e) hc nch ho (I.freeC x c e)
      exact ⟨_, q, hd⟩
    · exact ⟨o, keep c o (I.cne x c e) hc nch ho (I.freeC x c e), hd⟩
  refine ⟨I.ok, I.os, hg, ⟨fun b o e n hb hx => ?_, fun b o e n hb hx => ?_, fun b o e n hx => ?_, fun b o e hx => ?_, fun b xs e => tups b xs (I.base.tups b xs e), fun b o xs e => frzs b o xs (I.base.frzs b o xs e), fun b ps e => ?_⟩, ?_, fun x c e => ?_, ?_, fun x c e => ?_, fun p hp => ?_, hok, I.len⟩
  · exact keep b o (neL b o e) hb (neC b o e hx) (I.base.keep b o e n hb hx) (I.base.free b o e n hx)
  · obtain ⟨sl, e1⟩ := I.base.slot b o e n hb hx
    obtain ⟨sl', e2⟩ := slot b _ (neL b o e) hb (neC b o e hx) e1 (I.base.free b o e n hx)
    exact ⟨sl', e2⟩
  · obtain ⟨o', e1⟩ := I.base.there b o e hx
    exact free b o' (neC b o e hx) e1 (I.base.free b o e n hx)
  · obtain ⟨o', e1⟩ := I.base.there b o e hx
    exact there b o' (neC b o e hx) e1
  · obtain ⟨m1, e1⟩ := I.base.tbls b ps e
    obtain ⟨m2, e2⟩ := tbls b _ e1
    exact ⟨m1 ++ m2, by rw [e2, Array.append_assoc]⟩
  · obtain ⟨m, hn, hl⟩ := I.loc
    refine ⟨m, ns m hn, fun i x v e1 e2 e3 => ?_⟩
    obtain ⟨u, r, l⟩ := hl i x v e1 e2 e3
    refine ⟨u, r, ?_⟩
    rcases l with l | ⟨k, c, e, z⟩
    · exact .inl l
    · exact .inr ⟨k, c, e, cellK x c e _ z⟩
  · obtain ⟨v, z⟩ := I.cell x c e
    exact ⟨v, cellK x c e v z⟩
  · obtain ⟨m, ⟨o, _, _, ho, _⟩, _⟩ := I.loc
    exact free _ o (fun z => (hch _ z).2.1 rfl) ho I.free
  · obtain ⟨v, o, ho, hd⟩ := I.cell x c e
    exact free c o (fun z => (hch c z).2.2.1 x c e rfl) ho (I.freeC x c e)
  · obtain ⟨e, n, ne, nf, d⟩ := I.pin p hp
    have nch : p.1 ∉ ch := fun z => (hch p.1 z).2.2.2 p hp rfl
    exact ⟨keep p.1 p.2 ne nf nch e n, free p.1 p.2 nch e n, ne, nf, d⟩
/-- .. where the frame's own object is kept too -/
theorem Inv.un {t' : Nat} (I : Inv X pins σ H s) (u : Un X.fs [] H H' s.heap h') (hok : HOk X.prog X.w H' h') : Inv X pins σ H' { s with heap := h', toks := t' } := by
  obtain ⟨m, ⟨o, es, ep, ho, r⟩, _⟩ := id I.loc
  obtain ⟨sl, hL⟩ := u.any ho I.free (by simp)
  exact I.step (g' := s.gens) (d' := s.drawn) (ch := []) (fun _ z => nomatch z) (fun b o _ hb _ e n => u.keep b o e n hb (by simp)) (fun b o _ hb _ e n => u.slot b o e n hb (by simp)) (fun b o _ e n => u.free b o e n (by simp)) (fun b o _ e => u.there b o e (by simp)) u.tups u.frzs u.tbls (fun m' hm => by
    obtain ⟨o', es', ep', ho', r'⟩ := hm
    rw [ho] at ho'; cases ho'
    exact ⟨_, es', ep', hL, r'⟩) hok I.bare
/-- behind a call (or a comprehension's block): the slots of this frame may have changed too, the records at ch may have turned -/
theorem Inv.call {g' : Array GenState} {t' : Nat} {d' : Drawn} {ch : List Addr} (I : Inv X pins σ H s) (u : Un (frs X.stack) ch H H' s.heap h') (hok : HOk X.prog X.w H' h') (hg : AllBare g')
    (hch : ∀ b ∈ ch, (b ∈ X.ex ∨ X.s₀.heap.objs.size ≤ b) ∧ b ≠ X.env.locals ∧ (∀ x c, X.env.cells.lookup x = some c → c ≠ b) ∧ ∀ p ∈ X.pn ++ pins, p.1 ≠ b) :
    Inv X pins σ H' { s with heap := h', gens := g', drawn := d', toks := t' } := by
  obtain ⟨m, ⟨o, es, ep, ho, r⟩, _⟩ := id I.loc
  obtain ⟨sl, hL⟩ := u.any ho I.free fun z => (hch _ z).2.1 rfl
  exact I.step (ch := ch) hch (fun b o hL hb hc e n => u.keep b o e n (fun z => (List.mem_cons.mp (I.stkSub b z)).elim hL hb) hc) (fun b o _ _ hc e n => u.any e n hc) (fun b o hc e n => u.free b o e n hc) (fun b o hc e => u.there b o e hc) u.tups u.frzs u.tbls (fun m' hm => by
    obtain ⟨o', es', ep', ho', r'⟩ := hm
    rw [ho] at ho'; cases ho'
    exact ⟨_, es', ep', hL, r'⟩) hok hg
/-- an untracked record of ours (an iterator) has turned -/
theorem Inv.turned {t' : Nat} {it : Addr} (I : Inv X pins σ H s) (k : ∀ b o, b ≠ it → s.heap.get? b = some o → h'.get? b = some o) (hn : H it = none) (hL : it ≠ X.env.locals)
    (h1 : it ∈ X.ex ∨ X.s₀.heap.objs.size ≤ it) (h2 : ∀ x c, X.env.cells.lookup x = some c → c ≠ it) (h3 : ∀ p ∈ X.pn ++ pins, p.1 ≠ it) : Inv X pins σ H { s with heap := h', toks := t' } := by
  have nit : ∀ b u, H b = some u → b ≠ it := fun b u e z => by rw [z, hn] at e; cases e
  refine I.step (g' := s.gens) (d' := s.drawn) (ch := [it]) (fun b hb => ?_) (fun b o _ _ hc e _ => k b o (fun z => hc (by simp [z])) e) (fun b o _ _ hc e _ => ⟨o.slots, k b o (fun z => hc (by simp [z])) e⟩) (fun _ _ _ _ n => n)
    (fun b o hc e => ⟨o, k b o (fun z => hc (by simp [z])) e⟩) (fun _ _ e => e) (fun _ _ _ e => e) (fun b ps e => ⟨#[], by rw [e]; simp⟩) (fun m hm => ?_) (fun b u e => ?_) I.bare
  · have e : b = it := by simpa using hb
    subst e
    exact ⟨h1, hL, h2, h3⟩
  · obtain ⟨o, es, ep, ho, r⟩ := hm
    exact ⟨o, es, ep, k _ o (Ne.symm hL) ho, r⟩
  · refine (I.hok b u e).stay (fun c v hc q => k c v ?_ q) (fun _ q => q) fun _ _ q => q
    rcases hc with z | z
    · rw [z]; exact nit b u e
    · exact nit c _ z
theorem Inv.tok (I : Inv X pins σ H s) (t : Nat) : Inv X pins σ H { s with toks := t } := I.un (h' := s.heap) (t' := t) Un.refl I.hok
/-- all objects kept -/
theorem Inv.kept {t' : Nat} (I : Inv X pins σ H s) (k : ∀ b u, s.heap.get? b = some u → h'.get? b = some u) : Inv X pins σ H { s with heap := h', toks := t' } := I.un (Un.kept k) (I.hok.kept k)
/-- a new object laid and tracked -/
theorem Inv.laid {a : Addr} {o : HO} {t' : Nat} (I : Inv X pins σ H s) (k : ∀ b u, s.heap.get? b = some u → h'.get? b = some u) (hp : s.heap.objs.size ≤ a) (new : ObjOk X.prog X.w (upd H a o) h' a o) :
    Inv X pins σ (upd H a o) { s with heap := h', toks := t' } := I.un (Un.laid k hp (I.hok.fresh hp)) (I.hok.laid k hp new)
/-- an object written -/
theorem Inv.write {x e : Addr} {o : HO} {t' : Nat} (I : Inv X pins σ H s) (mu : Mut (H x)) (he : e = x ∨ H e = some (.own x)) (k : ∀ b u, b ≠ e → s.heap.get? b = some u → h'.get? b = some u) (heo : ∃ u, h'.get? e = some u)
    (new : ObjOk X.prog X.w (upd H x o) h' x o) : Inv X pins σ (upd H x o) { s with heap := h', toks := t' } := I.un (Un.write mu he k heo) (I.hok.write mu he k heo new)
theorem Inv.pins_of {pins' : List (Addr × Obj)} (I : Inv X pins σ H s) (h : ∀ p ∈ pins', s.heap.get? p.1 = some p.2 ∧ H p.1 = none ∧ p.1 ≠ X.env.locals ∧ p.1 ∉ X.fs ∧ ∀ v, p.2.data ≠ .cell v) : Inv X pins' σ H s :=
  ⟨I.ok, I.os, I.bare, I.base, I.loc, I.cell, I.free, I.freeC, fun p hp => (List.mem_append.mp hp).elim (fun z => I.pin p (List.mem_append_left _ z)) (h p), I.hok, I.len⟩

theorem nodup_ix {N : List Str} (hN : N.Nodup) {i j : Nat} {x : Str} (a : N[i]? = some x) (b : N[j]? = some x) : i = j := by
  obtain ⟨h1, e1⟩ := List.getElem?_eq_some_iff.mp a
  obtain ⟨h2, e2⟩ := List.getElem?_eq_some_iff.mp b
  exact (List.getElem_inj hN).mp (e1.trans e2.symm)

/-- a name is stored; what changed -/
theorem store_ok2 {M : Model} {A : Around} {E : Value → Shared → Prop} {i : Nat} {x : Str} {v : V} {u : Value} {Q : Unit → Shared → Prop} (I : Inv X pins σ H s) (hN : X.N.Nodup) (hi : X.N[i]? = some x) (hx : Loc X.env.scope x) (r : RelV v u)
    (h : ∀ s', Inv X pins (σ.set i (some v)) H s' → (∃ a, Heap.SameBut a s.heap s'.heap ∧ (a = X.env.locals ∨ X.env.cells.lookup x = some a)) → Q () s') (hf : X.fn x = true ∨ X.env.scope.names.lookup x = some .local := by first | exact .inl rfl | exact .inr rfl | assumption) : wpAny M A (storeName X.env x u) Q E s := by
  obtain ⟨m, hn, hl⟩ := id I.loc
  have hcls : (X.env.scope.kind == .class || (X.env.scope.kind == .module && X.env.locals != X.env.globals)) = false := by rw [I.ok.kind]; rfl
  have hiσ : i < σ.length := by rw [I.len]; exact (List.getElem?_eq_some_iff.mp hi).1
  have cne := I.cne
  have tracked : ∀ {a : Addr} {h' : Heap}, (∃ o, s.heap.get? a = some o ∧ H a = none) → Heap.SameBut a s.heap h' → HOk X.prog X.w H h' := fun {a h'} ha hs b ob e => by
    obtain ⟨_, _, hfree⟩ := ha
    refine (I.hok b ob e).stay (fun c w' hc q => (hs.2 c ?_).trans q) (fun _ q => q) fun _ _ q => q
    rintro rfl
    rcases hc with rfl | hc
    · rw [hfree] at e; cases e
    · rw [hfree] at hc; cases hc
  rcases hx with hk | hk
  · refine wpAny_storeName_local hk hn (fun h' hn' hs => ?_) hcls
    obtain ⟨oL, _, _, hoL, _⟩ := id hn
    refine h _ ⟨I.ok, I.os, I.bare, ⟨fun b o e n hb hx => ?_, fun b o e n hb hx => ?_, I.base.free, fun b o e hx => ?_, I.base.tups, I.base.frzs, I.base.tbls⟩, ⟨_, hn', fun j y v' e1 e2 e3 => ?_⟩, fun y c e => ?_, I.free, I.freeC, fun p hp => ?_, tracked ⟨oL, hoL, I.free⟩ hs, by simpa using I.len⟩ ⟨_, hs, .inl rfl⟩
    · exact (hs.2 b (Nat.ne_of_lt (Nat.lt_of_lt_of_le (Heap.lt_size e) I.ok.above))).trans (I.base.keep b o e n hb hx)
    · obtain ⟨sl, e1⟩ := I.base.slot b o e n hb hx
      exact ⟨sl, (hs.2 b (Nat.ne_of_lt (Nat.lt_of_lt_of_le (Heap.lt_size e) I.ok.above))).trans e1⟩
    · obtain ⟨o', e1⟩ := I.base.there b o e hx
      exact ⟨o', (hs.2 b (Nat.ne_of_lt (Nat.lt_of_lt_of_le (Heap.lt_size e) I.ok.above))).trans e1⟩
    · by_cases hj : j = i
      · subst hj
        rw [hi] at e1; cases e1
        rw [List.getElem?_set_self hiσ] at e2
        cases e2
        exact ⟨u, r, .inl ⟨hk, by simp⟩⟩
      · rw [List.getElem?_set_ne (Ne.symm hj)] at e2
        obtain ⟨u', r', q⟩ := hl j y v' e1 e2 e3
        refine ⟨u', r', ?_⟩
        rcases q with ⟨k, e⟩ | ⟨k, c, e, z⟩
        · refine .inl ⟨k, ?_⟩
          have : y ≠ x := fun e => hj (nodup_ix hN e1 (e ▸ hi))
          simp [this, e]
        · exact .inr ⟨k, c, e, z.sameBut hs (cne y c e)⟩
    · obtain ⟨w', z⟩ := I.cell y c e
      exact ⟨w', z.sameBut hs (cne y c e)⟩
    · obtain ⟨e, n, ne, nf, d⟩ := I.pin p hp
      exact ⟨(hs.2 p.1 ne).trans e, n, ne, nf, d⟩
  · have hfn : X.fn x = true := by
      rcases hf with z | z
      · exact z
      · rw [z] at hk; cases hk
    obtain ⟨c, hc⟩ := I.ok.has x (.inl hk)
    obtain ⟨w', z⟩ := I.cell x c hc
    refine wpAny_storeName_cell I.ok.kind hk hc z (fun h' hc' hs => ?_)
    obtain ⟨oc, hoc, hocd⟩ := id z
    refine h { s with heap := h' } ⟨I.ok, I.os, I.bare, ⟨fun b o e n hb hx => ?_, fun b o e n hb hx => ?_, I.base.free, fun b o e hx => ?_, I.base.tups, I.base.frzs, I.base.tbls⟩, ⟨m, hn.sameBut hs (Ne.symm (cne x c hc)), fun j y v' e1 e2 e3 => ?_⟩, fun y c' e => ?_, I.free, I.freeC, fun p hp => ?_, tracked ⟨oc, hoc, I.freeC x c hc⟩ hs, by simpa using I.len⟩ ⟨c, hs, .inr hc⟩
    · exact (hs.2 b (Nat.ne_of_lt (Nat.lt_of_lt_of_le (Heap.lt_size e) (I.ok.cab x c hfn hc)))).trans (I.base.keep b o e n hb hx)
    · obtain ⟨sl, e1⟩ := I.base.slot b o e n hb hx
      exact ⟨sl, (hs.2 b (Nat.ne_of_lt (Nat.lt_of_lt_of_le (Heap.lt_size e) (I.ok.cab x c hfn hc)))).trans e1⟩
    · obtain ⟨o', e1⟩ := I.base.there b o e hx
      exact ⟨o', (hs.2 b (Nat.ne_of_lt (Nat.lt_of_lt_of_le (Heap.lt_size e) (I.ok.cab x c hfn hc)))).trans e1⟩
    · by_cases hj : j = i
      · subst hj
        rw [hi] at e1; cases e1
        rw [List.getElem?_set_self hiσ] at e2
        cases e2
        exact ⟨u, r, .inr ⟨.inl hk, c, hc, hc'⟩⟩
      · rw [List.getElem?_set_ne (Ne.symm hj)] at e2
        obtain ⟨u', r', q⟩ := hl j y v' e1 e2 e3
        refine ⟨u', r', ?_⟩
        rcases q with q | ⟨k, c', e, z'⟩
        · exact .inl q
        · refine .inr ⟨k, c', e, z'.sameBut hs ?_⟩
          rintro rfl
          exact hj (nodup_ix hN e1 (I.ok.inj _ _ _ e hc ▸ hi))
    · by_cases hcc : c' = c
      · subst hcc; exact ⟨_, hc'⟩
      · obtain ⟨w2, z2⟩ := I.cell y c' e
        exact ⟨w2, z2.sameBut hs hcc⟩
    · obtain ⟨e, n, ne, nf, d⟩ := I.pin p hp
      refine ⟨(hs.2 p.1 ?_).trans e, n, ne, nf, d⟩
      intro q
      rw [q, hoc] at e
      have q' : oc = p.2 := Option.some.inj e
      exact d w' (by rw [← q']; exact hocd)
theorem store_ok {M : Model} {A : Around} {E : Value → Shared → Prop} {i : Nat} {x : Str} {v : V} {u : Value} {Q : Unit → Shared → Prop} (I : Inv X pins σ H s) (hN : X.N.Nodup) (hi : X.N[i]? = some x) (hx : Loc X.env.scope x) (r : RelV v u)
    (h : ∀ s', Inv X pins (σ.set i (some v)) H s' → Q () s') (hf : X.fn x = true ∨ X.env.scope.names.lookup x = some .local := by first | exact .inl rfl | exact .inr rfl | assumption) : wpAny M A (storeName X.env x u) Q E s :=
  store_ok2 I hN hi hx r (fun s' I' _ => h s' I') hf
end

/-! ### the judgements -/
/-- an exception: its class, its own dict's address (where it has one), the abstract heap behind it -/
abbrev XK := Value → Option Addr → Hp → Prop
abbrev St := List (Option V)
abbrev VK := V → Hp → Prop
/-- an expression's reading; a test's; an argument list's -/
abbrev TE := St → Hp → VK → Prop
abbrev TT := St → Hp → (Bool → Hp → Prop) → Prop
abbrev TA := St → Hp → (List V → Hp → Prop) → Prop
/-- what is wanted behind a statement -/
structure Ends where
  nx : St → Hp → Prop
  rt : VK
  bk : St → Hp → Prop := fun _ _ => False
  ct : St → Hp → Prop := fun _ _ => False
abbrev TS := Ends → St → Hp → Prop

def EP (X : Cx) (pins : List (Addr × Obj)) (σ : St) (Q : VK) (u : Value) (s' : Shared) : Prop := ∃ v H', Inv X pins σ H' s' ∧ RelV v u ∧ Q v H'
def TP (X : Cx) (pins : List (Addr × Obj)) (σ : St) (Q : Bool → Hp → Prop) (b : Bool) (s' : Shared) : Prop := ∃ H', Inv X pins σ H' s' ∧ Q b H'
def AP (X : Cx) (pins : List (Addr × Obj)) (σ : St) (Q : List V → Hp → Prop) (us : List Value) (s' : Shared) : Prop := ∃ vs H', Inv X pins σ H' s' ∧ Vals vs us ∧ Q vs H'
def SP (X : Cx) (pins : List (Addr × Obj)) (D : Ends) (f : Flow) (s' : Shared) : Prop :=
  match f with
  | .next => ∃ σ' H', Inv X pins σ' H' s' ∧ D.nx σ' H'
  | .brk => ∃ σ' H', Inv X pins σ' H' s' ∧ D.bk σ' H'
  | .cont => ∃ σ' H', Inv X pins σ' H' s' ∧ D.ct σ' H'
  | .ret u => ∃ v σ' H', Inv X pins σ' H' s' ∧ RelV v u ∧ D.rt v H'

def PE (X : Cx) (e : Expr) (t : TE) : Prop :=
  ∀ (pins : List (Addr × Obj)) (s : Shared) (σ : St) (H : Hp) (Q : VK), Inv X pins σ H s → t σ H Q → wpAny (model X.prog X.w) X.A (eval e X.env) (EP X pins σ Q) X.xe s
def PT (X : Cx) (e : Expr) (t : TT) : Prop :=
  ∀ (pins : List (Addr × Obj)) (s : Shared) (σ : St) (H : Hp) (Q : Bool → Hp → Prop), Inv X pins σ H s → t σ H Q → wpAny (model X.prog X.w) X.A (isTrue e X.env (eval e X.env)) (TP X pins σ Q) X.xe s
/-- a test whatever its 'whole' is (and, or) -/
def PW (X : Cx) (e : Expr) (t : TT) : Prop :=
  ∀ (whole : Sem Value) (pins : List (Addr × Obj)) (s : Shared) (σ : St) (H : Hp) (Q : Bool → Hp → Prop), Inv X pins σ H s → t σ H Q → wpAny (model X.prog X.w) X.A (isTrue e X.env whole) (TP X pins σ Q) X.xe s
theorem PW.pt {X : Cx} {e : Expr} {t : TT} (h : PW X e t) : PT X e t := h _
/-- an argument list (no star), from the left -/
def PA (X : Cx) (es : List Expr) (t : TA) : Prop :=
  ∀ (pos : Pos) (pins : List (Addr × Obj)) (s : Shared) (σ : St) (H : Hp) (Q : List V → Hp → Prop), Inv X pins σ H s → t σ H Q → wpAny (model X.prog X.w) X.A (spliced (backTo pos (starEach es X.env))) (AP X pins σ Q) X.xe s
def PS (X : Cx) (st : Stmt) (t : TS) : Prop :=
  ∀ (pins : List (Addr × Obj)) (s : Shared) (σ : St) (H : Hp) (D : Ends), Inv X pins σ H s → t D σ H → wpAny (model X.prog X.w) X.A (exec st X.env) (SP X pins D) X.xe s
def PSs (X : Cx) (st : List Stmt) (t : TS) : Prop :=
  ∀ (pins : List (Addr × Obj)) (s : Shared) (σ : St) (H : Hp) (D : Ends), Inv X pins σ H s → t D σ H → wpAny (model X.prog X.w) X.A (execs st X.env) (SP X pins D) X.xe s
/-- weaken the end -/
theorem thn {α : Type} {t : Sem α} {Q Q' : α → Shared → Prop} {M : Model} {A : Around} {E : Value → Shared → Prop} {s : Shared} (h : wpAny M A t Q E s) (hQ : ∀ a s, Q a s → Q' a s) : wpAny M A t Q' E s := wpAny_mono h hQ fun _ _ x => x
end L2

namespace L2
open PySem PySem.Spec PyProof.Rows
section
variable {X : Cx}

/-! ### names and constants -/
def tVar (i : Nat) : TE := fun σ H Q => ∃ v, σ[i]? = some (some v) ∧ Q v H
def tC (v : V) : TE := fun _ H Q => Q v H
theorem pe_var {i : Nat} {x : Str} {pos : Pos} (hN : X.N[i]? = some x) (hv : Vis X.env.scope x) (hd : (x == ("__debug__" : Str)) = false := by decide) (hcd : (x == ("__classdict__" : Str)) = false := by decide) : PE X (.Name x pos) (tVar i) := by
  intro pins s σ H Q I h
  obtain ⟨v, e, h⟩ := h
  obtain ⟨m, hn, hl⟩ := I.loc
  obtain ⟨u, r, l⟩ := hl i x v hN e hv
  have fin : EP X pins σ Q u s := ⟨v, H, I, r, h⟩
  rcases l with ⟨hk, hm⟩ | ⟨hk, c, hc, hcell⟩
  · exact wpAny_Name (wpAny_loadName_local I.ok.kind hk hn hm fin) hd
  · rcases hk with hk | hk
    · exact wpAny_Name (wpAny_loadName_cell I.ok.kind hk hc hcell fin) hd
    · exact wpAny_Name (wpAny_loadName_free I.ok.kind hk hc hcell fin hcd) hd
theorem pe_int {i j pos} : PE X (.Constant (.int i) j pos) (tC (.int i)) := fun _ _ _ H _ I h => wpAny_Constant_int ⟨.int i, H, I.tok _, ⟨_, rfl⟩, h⟩
theorem pe_bl {b j pos} : PE X (.Constant (.bool b) j pos) (tC (.bl b)) := fun _ _ _ H _ I h => Constant_bool ⟨.bl b, H, I, rfl, h⟩
theorem pe_non {j pos} : PE X (.Constant .none j pos) (tC .non) := fun _ _ _ H _ I h => Constant_none ⟨.non, H, I, rfl, h⟩
theorem pe_str {x j pos} : PE X (.Constant (.str x) j pos) (tC (.str x)) := fun _ _ _ H _ I h => Calls.Constant_str ⟨.str x, H, I.tok _, ⟨_, rfl⟩, h⟩

/-- a global name of the def -/
def Gl (X : Cx) (x : Str) : Prop := X.env.kindOf x = some .globalImplicit
theorem ld_glob {E : Value → Shared → Prop} {pins : List (Addr × Obj)} {s : Shared} {σ : St} {H : Hp} {x : Str} {u : Value} {pos : Pos} {Q : Value → Shared → Prop} (I : Inv X pins σ H s) (hg : Gl X x) (hm : X.mg x = some u) (h : Q u s)
    (hd : (x == ("__debug__" : Str)) = false := by decide) : wpAny (model X.prog X.w) X.A (eval (.Name x pos) X.env) Q E s :=
  Calls.Name_function_global I.ok.kind hg (Calls.loadGlobal_global (by rw [I.ok.glob]; exact I.mod.glob.keeps I.bk) hm h) hd
theorem ld_blt {E : Value → Shared → Prop} {pins : List (Addr × Obj)} {s : Shared} {σ : St} {H : Hp} {x : Str} {u : Value} {pos : Pos} {Q : Value → Shared → Prop} (I : Inv X pins σ H s) (hg : Gl X x) (hm : X.mg x = none) (hv : bootBuiltins x = some u) (h : Q u s)
    (hn : x ≠ "__name__" := by decide) (hd : (x == ("__debug__" : Str)) = false := by decide) : wpAny (model X.prog X.w) X.A (eval (.Name x pos) X.env) Q E s := by
  obtain ⟨mb, h1, h2⟩ := I.mod.blt
  exact Calls.Name_function_global I.ok.kind hg (Calls.loadGlobal_builtin (by rw [I.ok.glob]; exact I.mod.glob.keeps I.bk) hm (by rw [I.ok.blt]; exact h1.keeps I.bk) ((h2 x hn).trans hv) h) hd
theorem pe_bltn {x : Str} {v : V} {u : Value} {pos : Pos} (hg : Gl X x) (hm : X.mg x = none) (hv : bootBuiltins x = some u) (r : RelV v u) (hn : x ≠ "__name__" := by decide) (hd : (x == ("__debug__" : Str)) = false := by decide) : PE X (.Name x pos) (tC v) :=
  fun _ _ _ H _ I h => ld_blt I hg hm hv ⟨v, H, I, r, h⟩ hn hd

/-! ### arithmetic -/
/-- two ints -/
def t2I (ta tb : TE) (k : Int → Int → Hp → Prop) : St → Hp → Prop := fun σ H => ta σ H fun x H1 => tb σ H1 fun y H2 => ∃ i j, x = .int i ∧ y = .int j ∧ k i j H2
def tAdd (ta tb : TE) : TE := fun σ H Q => t2I ta tb (fun i j H2 => Q (.int (i + j)) H2) σ H
def tSub (ta tb : TE) : TE := fun σ H Q => t2I ta tb (fun i j H2 => Q (.int (i - j)) H2) σ H
/-- the left factor below 2^64 -/
def tMul (ta tb : TE) : TE := fun σ H Q => t2I ta tb (fun i j H2 => (-(2 ^ 64) < i ∧ i < 2 ^ 64) ∧ Q (.int (i * j)) H2) σ H
variable {a b : Expr} {ta tb : TE} {pos : Pos}
/-! ### comparisons -/
def PC (X : Cx) (op : CmpOp) (a b : Expr) (t : TE) : Prop :=
  ∀ (pins : List (Addr × Obj)) (s : Shared) (σ : St) (H : Hp) (Q : VK), Inv X pins σ H s → t σ H Q →
    wpAny (model X.prog X.w) X.A (eval a X.env) (fun v s₁ => wpAny (model X.prog X.w) X.A (eval b X.env) (fun u s₂ => wpAny (model X.prog X.w) X.A (compareOp op v u) (EP X pins σ Q) X.xe s₂) X.xe s₁) X.xe s
def tCmp (p : Int → Int → Bool) (ta tb : TE) : TE := fun σ H Q => t2I ta tb (fun i j H2 => Q (.bl (p i j)) H2) σ H
abbrev tLt : TE → TE → TE := tCmp fun i j => decide (i < j)
abbrev tLe : TE → TE → TE := tCmp fun i j => decide (i ≤ j)
abbrev tGt : TE → TE → TE := tCmp fun i j => decide (j < i)
abbrev tGe : TE → TE → TE := tCmp fun i j => decide (j ≤ i)
abbrev tEqI : TE → TE → TE := tCmp fun i j => decide (i = j)
abbrev tNeI : TE → TE → TE := tCmp fun i j => !decide (i = j)
/-- is None -/
def tIsN (ta : TE) : TE := fun σ H Q => ta σ H fun x H1 => Q (.bl (decide (x = .non))) H1
def tNotN (ta : TE) : TE := fun σ H Q => ta σ H fun x H1 => Q (.bl (!decide (x = .non))) H1
/-- a comparison as a value, as a test -/
def tB (t : TE) : TT := fun σ H Q => t σ H fun x H1 => ∃ c, x = .bl c ∧ Q c H1
/-- an expression whose value is a bool, as a test -/
theorem pt_val {e : Expr} {t : TE} (h : PE X e t) (he : ∀ whole, isTrue e X.env whole = (do let v ← whole; standAt e.pos; holding [v] (truthy v)) := by intro _; rfl) : PT X e (tB t) := by
  intro pins s σ H Q I hw
  refine isTrue_plain (thn (h pins s σ H _ I hw) fun v s1 ⟨x, H1, I1, r1, q1⟩ => ?_) (he _)
  obtain ⟨d, rfl, q⟩ := q1
  cases r1
  exact wpAny_truthy_bool ⟨H1, I1, q⟩

/-! ### and, or, not -/
variable {tA tB' : TT} {rest : List Expr}
def tAnd (t u : TT) : TT := fun σ H Q => t σ H fun c H1 => if c = true then u σ H1 Q else Q false H1
def tOr (t u : TT) : TT := fun σ H Q => t σ H fun c H1 => if c = true then Q true H1 else u σ H1 Q
def tNot (t : TT) : TT := fun σ H Q => t σ H fun c H1 => Q (!c) H1
theorem pw_and1 (ha : PT X a tA) : PW X (.BoolOp .And [a] pos) tA := by
  intro wh pins s σ H Q I h
  refine isTrue_and (thn (ha pins s σ H Q I h) fun c s1 e => ?_)
  cases c with
  | true => exact isTrue_and_nil e
  | false => exact e
theorem pw_or1 (ha : PT X a tA) : PW X (.BoolOp .Or [a] pos) tA := by
  intro wh pins s σ H Q I h
  refine isTrue_or (thn (ha pins s σ H Q I h) fun c s1 e => ?_)
  cases c with
  | false => exact isTrue_or_nil e
  | true => exact e
theorem pw_and (ha : PT X a tA) (hb : PW X (.BoolOp .And (b :: rest) pos) tB') : PW X (.BoolOp .And (a :: b :: rest) pos) (tAnd tA tB') := by
  intro wh pins s σ H Q I h
  refine isTrue_and (thn (ha pins s σ H _ I h) fun c s1 ⟨H1, I1, q1⟩ => ?_)
  cases c with
  | true => exact hb wh pins s1 σ H1 Q I1 q1
  | false => exact ⟨H1, I1, q1⟩
theorem pw_or (ha : PT X a tA) (hb : PW X (.BoolOp .Or (b :: rest) pos) tB') : PW X (.BoolOp .Or (a :: b :: rest) pos) (tOr tA tB') := by
  intro wh pins s σ H Q I h
  refine isTrue_or (thn (ha pins s σ H _ I h) fun c s1 ⟨H1, I1, q1⟩ => ?_)
  cases c with
  | true => exact ⟨H1, I1, q1⟩
  | false => exact hb wh pins s1 σ H1 Q I1 q1
theorem pt_not (ha : PT X a tA) : PT X (.UnaryOp .Not a pos) (tNot tA) := by
  intro pins s σ H Q I h
  exact isTrue_not (ha pins s σ H (fun c H1 => Q (!c) H1) I h)
/-- .. as values (bools) -/
def tAndV (ta tb : TE) : TE := fun σ H Q => ta σ H fun x H1 => ∃ c, x = .bl c ∧ if c = true then tb σ H1 Q else Q (.bl false) H1
def tOrV (ta tb : TE) : TE := fun σ H Q => ta σ H fun x H1 => ∃ c, x = .bl c ∧ if c = true then Q (.bl true) H1 else tb σ H1 Q
def tNotV (ta : TE) : TE := fun σ H Q => ta σ H fun x H1 => ∃ c, x = .bl c ∧ Q (.bl (!c)) H1
theorem pe_one {op} {t : TE} (h : PE X a t) : PE X (.BoolOp op [a] pos) t := fun pins s σ H Q I hw => BoolOp_one (h pins s σ H Q I hw)
theorem pe_and (ha : PE X a ta) (hb : PE X (.BoolOp .And (b :: rest) pos) tb) : PE X (.BoolOp .And (a :: b :: rest) pos) (tAndV ta tb) := by
  intro pins s σ H Q I h
  refine BoolOp_and (thn (ha pins s σ H _ I h) fun v s1 ⟨x, H1, I1, r1, q1⟩ => ?_)
  obtain ⟨c, rfl, q1⟩ := q1
  cases r1
  refine wpAny_truthy_bool ?_
  cases c with
  | true => exact hb pins s1 σ H1 Q I1 q1
  | false => exact ⟨.bl false, H1, I1, rfl, q1⟩
theorem pe_not (ha : PE X a ta) : PE X (.UnaryOp .Not a pos) (tNotV ta) := by
  intro pins s σ H Q I h
  refine UnaryOp_ (thn (ha pins s σ H _ I h) fun v s1 ⟨x, H1, I1, r1, q1⟩ => ?_)
  obtain ⟨c, rfl, q1⟩ := q1
  cases r1
  exact not_of (wpAny_truthy_bool ⟨.bl (!c), H1, I1, rfl, q1⟩)
/-- a if t else b -/
def tIf (t : TT) (ta tb : TE) : TE := fun σ H Q => t σ H fun c H1 => if c = true then ta σ H1 Q else tb σ H1 Q
theorem pe_ifExp {c : Expr} (hc : PT X c tA) (ha : PE X a ta) (hb : PE X b tb) : PE X (.IfExp c a b pos) (tIf tA ta tb) := by
  intro pins s σ H Q I h
  refine wpAny_IfExp (thn (hc pins s σ H _ I h) fun d s1 ⟨H1, I1, q1⟩ => ?_)
  cases d with
  | true => exact ha pins s1 σ H1 Q I1 q1
  | false => exact hb pins s1 σ H1 Q I1 q1
end
end L2

namespace L2
open PySem PySem.Spec PyProof.Rows

/-! ### a list, a tuple that is read: tracked, frozen, or an object of the module -/
def SqL (K : PySem.W.Frag) (H : Hp) (a : Addr) (xs : List V) : Prop :=
  Rd H a (.lst xs) ∨
    ∃ (o : Obj) (its : Array Value) (n : Nat), K.lookup a = some o ∧ o.cls = .type "list" ∧ o.dict = none ∧ o.data = .seq its n ∧ its.size ≤ sizeLine ∧ Vals xs its.toList
def SqT (K : PySem.W.Frag) (H : Hp) (a : Addr) (xs : List V) : Prop :=
  Rd H a (.tup xs) ∨
    ∃ (o : Obj) (its : Array Value) (n : Nat), K.lookup a = some o ∧ o.cls = .type "tuple" ∧ o.data = .seq its n ∧ its.size ≤ sizeLine ∧ Vals xs its.toList
def absV : Value → Option V
  | .none => some .non
  | .bool b => some (.bl b)
  | .int i _ => some (.int i)
  | .str x _ => some (.str x)
  | .bytes b _ => some (.byt b)
  | .float b _ => some (.flt b)
  | .ref a => some (.ref a)
  | .type n => some (.ty n)
  | _ => none
theorem RelV.abs {x : V} {u : Value} (r : RelV x u) : absV u = some x := by
  cases x with
  | non => cases r; rfl
  | bl _ => cases r; rfl
  | int _ => obtain ⟨t, rfl⟩ := r; rfl
  | str _ => obtain ⟨t, rfl⟩ := r; rfl
  | byt _ => obtain ⟨t, rfl⟩ := r; rfl
  | flt _ => obtain ⟨t, rfl⟩ := r; rfl
  | ref _ => cases r; rfl
  | ty _ => cases r; rfl
theorem RelV.inj {x y : V} {u : Value} (r : RelV x u) (q : RelV y u) : x = y := Option.some.inj (r.abs.symm.trans q.abs)
theorem Vals.inj : ∀ {xs ys : List V} {us : List Value}, Vals xs us → Vals ys us → xs = ys
  | _, _, _, .nil, .nil => rfl
  | _, _, _, .cons r t, .cons r' t' => by rw [r.inj r', Vals.inj t t']
section
variable {X : Cx} {pins : List (Addr × Obj)} {σ : St} {H : Hp} {s : Shared} {a : Addr} {xs ys : List V}
theorem SqL.of {K : PySem.W.Frag} (h : H a = some (.lst xs)) : SqL K H a xs := .inl (.inl h)
theorem SqT.of {K : PySem.W.Frag} (h : H a = some (.tup xs)) : SqT K H a xs := .inl (.inl h)
theorem Inv.list (I : Inv X pins σ H s) (h : SqL X.K H a xs) : ∃ its : List Value, Vals xs its ∧ PlainL s.heap a its.toArray ∧ xs.length ≤ sizeLine := by
  rcases h with h | ⟨o, its, n, hk, hc, hd, hs, hz, r⟩
  · obtain ⟨z, its, n, r, e⟩ := h.ok I.hok
    exact ⟨its, r, ⟨_, n, e, rfl, rfl, rfl⟩, z⟩
  · refine ⟨its.toList, r, ⟨o, n, I.kIn a o hk, hc, hd, by simpa using hs⟩, ?_⟩
    have e := r.length
    simp only [Array.length_toList] at e
    omega
theorem Inv.tuple (I : Inv X pins σ H s) (h : SqT X.K H a xs) : ∃ its : List Value, Vals xs its ∧ IsTup s.heap a its.toArray ∧ xs.length ≤ sizeLine := by
  rcases h with h | ⟨o, its, n, hk, hc, hs, hz, r⟩
  · obtain ⟨z, its, r, p⟩ := h.ok I.hok
    exact ⟨its, r, p, z⟩
  · refine ⟨its.toList, r, ⟨o, I.kIn a o hk, hc, n, by simpa using hs⟩, ?_⟩
    have e := r.length
    simp only [Array.length_toList] at e
    omega
theorem Inv.list_inj (I : Inv X pins σ H s) (h : SqL X.K H a xs) (h' : SqL X.K H a ys) : xs = ys := by
  obtain ⟨its, r, ⟨o, n, e, _, _, d⟩, _⟩ := I.list h
  obtain ⟨its', r', ⟨o', n', e', _, _, d'⟩, _⟩ := I.list h'
  rw [e] at e'; cases e'
  rw [d] at d'
  injection d' with d1 _
  have : its = its' := by simpa using congrArg Array.toList d1
  subst this
  exact r.inj r'
theorem Inv.tuple_inj (I : Inv X pins σ H s) (h : SqT X.K H a xs) (h' : SqT X.K H a ys) : xs = ys := by
  obtain ⟨its, r, ⟨o, e, _, n, d⟩, _⟩ := I.tuple h
  obtain ⟨its', r', ⟨o', e', _, n', d'⟩, _⟩ := I.tuple h'
  rw [e] at e'; cases e'
  rw [d] at d'
  injection d' with d1 _
  have : its = its' := by simpa using congrArg Array.toList d1
  subst this
  exact r.inj r'
end

/-! ### another wish about exceptions -/
abbrev Cx.wish (X : Cx) (E : Value → Shared → Prop) : Cx := { X with xe := E }
/-- no exception leaves -/
abbrev Cx.nox (X : Cx) : Cx := X.wish fun _ _ => False
theorem Cx.Ok.wish {X : Cx} (ok : X.Ok) (E : Value → Shared → Prop) : (X.wish E).Ok :=
  ⟨ok.mod, ok.kind, ok.glob, ok.blt, ok.above, ok.inj, ok.has, ok.cab, ok.hd, ok.frames, ok.stk, ok.exf, ok.bs, ok.bsz, ok.noex, ok.exfs, ok.funs, ok.frf⟩
theorem Cx.Ok.unwish {X : Cx} {E : Value → Shared → Prop} (ok : (X.wish E).Ok) : X.Ok :=
  ⟨ok.mod, ok.kind, ok.glob, ok.blt, ok.above, ok.inj, ok.has, ok.cab, ok.hd, ok.frames, ok.stk, ok.exf, ok.bs, ok.bsz, ok.noex, ok.exfs, ok.funs, ok.frf⟩
section
variable {X : Cx} {pins : List (Addr × Obj)} {σ : St} {H : Hp} {s : Shared} {E : Value → Shared → Prop}
theorem Inv.wish (I : Inv X pins σ H s) (E : Value → Shared → Prop) : Inv (X.wish E) pins σ H s := ⟨I.ok.wish E, I.os, I.bare, I.base, I.loc, I.cell, I.free, I.freeC, I.pin, I.hok, I.len⟩
theorem Inv.unwish (I : Inv (X.wish E) pins σ H s) : Inv X pins σ H s := ⟨I.ok.unwish, I.os, I.bare, I.base, I.loc, I.cell, I.free, I.freeC, I.pin, I.hok, I.len⟩
theorem SP.unwish {D : Ends} {f : Flow} {s' : Shared} (h : SP (X.wish E) pins D f s') : SP X pins D f s' := by
  cases f with
  | next => obtain ⟨σ', H', I, q⟩ := h; exact ⟨σ', H', I.unwish, q⟩
  | brk => obtain ⟨σ', H', I, q⟩ := h; exact ⟨σ', H', I.unwish, q⟩
  | cont => obtain ⟨σ', H', I, q⟩ := h; exact ⟨σ', H', I.unwish, q⟩
  | ret u => obtain ⟨v, σ', H', I, r, q⟩ := h; exact ⟨v, σ', H', I.unwish, r, q⟩
theorem PSs.nox {st : List Stmt} {t : TS} (h : PSs X.nox st t) : PSs X st t := fun pins s σ H D I hw =>
  wpAny_mono (h pins s σ H D (I.wish _) hw) (fun _ _ q => q.unwish) fun _ _ z => False.elim z
end

/-! ### blocks and small statements -/
section
variable {X : Cx} {st : Stmt} {rest : List Stmt} {t u : TS} {e : Expr} {te : TE} {pos : Pos}
def tNext : TS := fun D σ H => D.nx σ H
def tSeq (t u : TS) : TS := fun D σ H => t { D with nx := u D } σ H
theorem pss_nil : PSs X [] tNext := fun _ _ σ H _ I h => wpAny_execs_nil ⟨σ, H, I, h⟩
theorem pss_cons (h1 : PS X st t) (h2 : PSs X rest u) : PSs X (st :: rest) (tSeq t u) := by
  intro pins s σ H D I h
  refine wpAny_execs_cons (thn (h1 pins s σ H { D with nx := u D } I h) fun f s1 q => ?_)
  cases f with
  | next =>
    obtain ⟨σ', H', I', q⟩ := q
    exact h2 pins s1 σ' H' D I' q
  | ret v => exact q
  | brk => exact q
  | cont => exact q
theorem pss_one (h1 : PS X st t) : PSs X [st] t := by
  intro pins s σ H D I h
  refine wpAny_execs_cons (thn (h1 pins s σ H D I h) fun f s1 q => ?_)
  cases f with
  | next => exact wpAny_execs_nil q
  | ret v => exact q
  | brk => exact q
  | cont => exact q
def tBreak : TS := fun D σ H => D.bk σ H
def tCont : TS := fun D σ H => D.ct σ H
/-- in a def's body nothing is shown -/
theorem Inv.quiet {pins : List (Addr × Obj)} {σ : St} {H : Hp} {s : Shared} (I : Inv X pins σ H s) : interactive X.env = false := by simp [interactive, I.ok.kind]
/-- an expression whose value is dropped -/
def tDrop (te : TE) : TS := fun D σ H => te σ H fun _ H1 => D.nx σ H1
theorem ps_expr (he : PE X e te) (hs : swapsWith e none pos.line X.env = pure false := by rfl) : PS X (.Expr e pos) (tDrop te) := by
  intro pins s σ H D I h
  exact wpAny_Expr_any (thn (he pins s σ H _ I h) fun v s1 ⟨x, H1, I1, r1, q1⟩ => ⟨σ, H1, I1, q1⟩) I.quiet hs
def tRet (te : TE) : TS := fun D σ H => te σ H D.rt
theorem ps_ret (he : PE X e te) : PS X (.Return (some e) pos) (tRet te) := by
  intro pins s σ H D I h
  exact wpAny_Return_some (thn (he pins s σ H _ I h) fun v s1 ⟨x, H1, I1, r1, q1⟩ => ⟨x, σ, H1, I1, r1, q1⟩)
def tRetN : TS := fun D _ H => D.rt .non H
def tIfS (c : TT) (t u : TS) : TS := fun D σ H => c σ H fun b H1 => if b = true then t D σ H1 else u D σ H1
theorem ps_if {c : Expr} {a b : List Stmt} {tc : TT} (hc : PT X c tc) (ha : PSs X a t) (hb : PSs X b u) : PS X (.If c a b pos) (tIfS tc t u) := by
  intro pins s σ H D I h
  refine wpAny_If (thn (hc pins s σ H _ I h) fun d s1 ⟨H1, I1, q1⟩ => ?_)
  cases d with
  | true => exact ha pins s1 σ H1 D I1 q1
  | false => exact hb pins s1 σ H1 D I1 q1
/-- code that the proof never comes to -/
def tNever : TS := fun _ _ _ => False
theorem ps_never : PS X st tNever := fun _ _ _ _ _ _ h => h.elim
end

/-! ### targets -/
abbrev TG := V → St → Hp → (St → Hp → Prop) → Prop
abbrev TGs := List V → St → Hp → (St → Hp → Prop) → Prop
def PG (X : Cx) (target : Expr) (t : TG) : Prop :=
  ∀ (pins : List (Addr × Obj)) (s : Shared) (σ : St) (H : Hp) (v : V) (u : Value) (Q : St → Hp → Prop), Inv X pins σ H s → RelV v u → t v σ H Q →
    wpAny (model X.prog X.w) X.A (assign target X.env u) (fun _ s' => ∃ σ' H', Inv X pins σ' H' s' ∧ Q σ' H') X.xe s
/-- several targets, one after another -/
def PGs (X : Cx) (ts : List Expr) (t : TGs) : Prop :=
  ∀ (pins : List (Addr × Obj)) (s : Shared) (σ : St) (H : Hp) (vs : List V) (us : List Value) (Q : St → Hp → Prop), Inv X pins σ H s → Vals vs us → t vs σ H Q →
    wpAny (model X.prog X.w) X.A (assignInOrder ((assignEach ts X.env).map (·.2)) us) (fun _ s' => ∃ σ' H', Inv X pins σ' H' s' ∧ Q σ' H') X.xe s
/-- o[i] = v, by values -/
abbrev TSet := V → V → V → Hp → (Hp → Prop) → Prop
def PSet (X : Cx) (t : TSet) : Prop :=
  ∀ (pins : List (Addr × Obj)) (s : Shared) (σ : St) (H : Hp) (o i v : V) (ov iv u : Value) (Q : Hp → Prop), Inv X pins σ H s → RelV o ov → RelV i iv → RelV v u → t o i v H Q →
    wpAny (model X.prog X.w) X.A (setItem ov iv u) (fun _ s' => ∃ H', Inv X pins σ H' s' ∧ Q H') X.xe s
/-- a op= b, by values -/
abbrev TIp := V → V → Hp → VK → Prop
def PIp (X : Cx) (op : Operator) (t : TIp) : Prop :=
  ∀ (pins : List (Addr × Obj)) (s : Shared) (σ : St) (H : Hp) (x y : V) (v u : Value) (Q : VK), Inv X pins σ H s → RelV x v → RelV y u → t x y H Q →
    wpAny (model X.prog X.w) X.A (inplaceOp op v u) (EP X pins σ Q) X.xe s
section
variable {X : Cx} {pos : Pos}
def gName (i : Nat) : TG := fun v σ H Q => Q (σ.set i (some v)) H
theorem pg_name {i : Nat} {x : Str} (hN : X.N.Nodup) (hi : X.N[i]? = some x) (hx : Loc X.env.scope x) (hf : X.fn x = true ∨ X.env.scope.names.lookup x = some .local := by first | exact .inl rfl | exact .inr rfl | assumption) : PG X (.Name x pos) (gName i) := by
  intro pins s σ H v u Q I r h
  exact wpAny_assign_Name (store_ok I hN hi hx r (fun s' I' => ⟨_, H, I', h⟩) hf)
def gNil : TGs := fun vs σ H Q => vs = [] ∧ Q σ H
def gCons (t : TG) (u : TGs) : TGs := fun vs σ H Q => ∃ v r, vs = v :: r ∧ t v σ H fun σ' H' => u r σ' H' Q
theorem pgs_nil : PGs X [] gNil := by
  intro pins s σ H vs us Q I r h
  obtain ⟨e, h⟩ := h
  subst e
  cases r
  exact assignInOrder_nil ⟨σ, H, I, h⟩
theorem pgs_cons {e : Expr} {es : List Expr} {t : TG} {u : TGs} (h1 : PG X e t) (h2 : PGs X es u)
    (hs : (assignEach (e :: es) X.env).map (·.2) = assign e X.env :: (assignEach es X.env).map (·.2) := by rfl) : PGs X (e :: es) (gCons t u) := by
  intro pins s σ H vs us Q I r h
  obtain ⟨v, vr, e1, h⟩ := h
  subst e1
  cases r with
  | cons r rr =>
    rw [hs]
    refine assignInOrder_cons (thn (h1 pins s σ H _ _ _ I r h) fun _ s1 ⟨σ1, H1, I1, q1⟩ => ?_)
    exact h2 pins s1 σ1 H1 _ _ Q I1 rr q1
/-- (a, b, ..) = a tuple of that length -/
def gTup (K : PySem.W.Frag) (n : Nat) (t : TGs) : TG := fun v σ H Q => ∃ a xs, v = .ref a ∧ SqT K H a xs ∧ xs.length = n ∧ t xs σ H Q
theorem pg_tup {es : List Expr} {k : Nat} {t : TGs} {n : Nat} (hc : X.calm = true) (h : PGs X es t)
    (hn : (assignEach es X.env).length = n := by rfl) (hst : (assignEach es X.env).findIdx? (·.1) = none := by rfl) : PG X (.Tuple es k pos) (gTup X.K n t) := by
  intro pins s σ H v u Q I r hw
  obtain ⟨a, xs, e1, hq, hl, hw⟩ := hw
  subst e1
  cases r
  obtain ⟨its, rv, ht, hz⟩ := I.tuple hq
  refine assign_Tuple_tuple (I.ok.hd hc) ht (by simp [hn, ← hl, rv.length]) hst fun h' hx => ?_
  have I1 : Inv X pins σ H { s with heap := h' } := I.kept (t' := s.toks) fun b o e => hx b o (Nat.ne_of_lt (Heap.lt_size e)) e
  exact h pins _ σ H xs _ Q I1 (by simpa using rv) hw
/-- o[i] = .. -/
def gSub (to ti : TE) (t : TSet) : TG := fun v σ H Q => to σ H fun o H1 => ti σ H1 fun i H2 => t o i v H2 fun H3 => Q σ H3
/-- target = value -/
def tAsg (te : TE) (g : TG) : TS := fun D σ H => te σ H fun x H1 => g x σ H1 D.nx
theorem ps_asg {tg e : Expr} {te : TE} {g : TG} (he : PE X e te) (hg : PG X tg g) (hs : swapsWithSole [tg] e pos.line X.env = pure false := by rfl) (hw : swappedStores [tg] e X.env = pure none := by rfl)
    (h1 : (assignEach [tg] X.env).map (·.2) = [assign tg X.env] := by rfl) : PS X (.Assign [tg] e pos) (tAsg te g) := by
  intro pins s σ H D I h
  refine wpAny_Assign_stores (thn (he pins s σ H _ I h) fun v s1 ⟨x, H1, I1, r1, q1⟩ => ?_) hs hw
  rw [h1]
  exact thn (hg pins s1 σ H1 x v _ I1 r1 q1) fun _ s2 q => q
/-- name = value -/
theorem ps_set {i : Nat} {x : Str} {e : Expr} {te : TE} {pos' : Pos} (hN : X.N.Nodup) (hi : X.N[i]? = some x) (hx : Loc X.env.scope x) (he : PE X e te) (hs : swapsWith e (some (.Name x pos')) pos.line X.env = pure false := by rfl) (hf : X.fn x = true ∨ X.env.scope.names.lookup x = some .local := by first | exact .inl rfl | exact .inr rfl | assumption) :
    PS X (.Assign [.Name x pos'] e pos) (tAsg te (gName i)) := by
  intro pins s σ H D I h
  refine wpAny_Assign_Name (thn (he pins s σ H _ I h) fun v s1 ⟨y, H1, I1, r1, q1⟩ => ?_) hs
  exact store_ok I1 hN hi hx r1 (fun s2 I2 => ⟨_, H1, I2, q1⟩) hf
/-- a, b = x, y with plain local names: stored from the right; the pair itself is not tracked (the opening rows as in PyProof/Rows/TupAssign.lean:23) -/
def tPar (i j : Nat) (ta : TA) : TS := fun D σ H => ta σ H fun vs H1 => ∃ v w, vs = [v, w] ∧ D.nx ((σ.set i (some v)).set j (some w)) H1
theorem ps_par {i j : Nat} {x y : Str} {a b : Expr} {ta : TA} {px py pt : Pos} {kt k2 pt2} (hc : X.calm = true) (hN : X.N.Nodup) (hi : X.N[i]? = some x) (hj : X.N[j]? = some y) (hij : i ≠ j)
    (hx : X.env.scope.names.lookup x = some .local) (hy : X.env.scope.names.lookup y = some .local) (ha : PA X [a, b] ta)
    (hw : swappedStores [.Tuple [.Name x px, .Name y py] kt pt] (.Tuple [a, b] k2 pt2) X.env = pure (some [x, y]))
    (hs : swapsWithSole [.Tuple [.Name x px, .Name y py] kt pt] (.Tuple [a, b] k2 pt2) pos.line X.env = pure false := by rfl) :
    PS X (.Assign [.Tuple [.Name x px, .Name y py] kt pt] (.Tuple [a, b] k2 pt2) pos) (tPar i j ta) := by
  intro pins s σ H D I h
  rw [exec_Assign_arm]
  refine wpAny_bind (wpAny_standAt ?_)
  rw [hs]
  refine wpAny_bind (wpAny_pure ?_)
  rw [if_neg (by decide)]
  refine wpAny_bind (Tuple_ (thn (ha _ pins s σ H _ I h) fun us s1 ⟨vs, H1, I1, r1, q1⟩ => ?_))
  obtain ⟨v, w, e1, q1⟩ := q1
  subst e1
  obtain ⟨u1, u2, rfl, rv, rw'⟩ : ∃ u1 u2, us = [u1, u2] ∧ RelV v u1 ∧ RelV w u2 := by
    cases r1 with
    | cons p q =>
      cases q with
      | cons p' q' =>
        cases q'
        exact ⟨_, _, rfl, p, p'⟩
  refine wpAny_newObj_type ?_ (by show 2 ≤ sizeLine; decide)
  have I2 : Inv X pins σ H1 { s1 with heap := s1.heap.push { cls := .type "tuple", data := .seq [u1, u2].toArray } } := I1.kept (t' := s1.toks) fun b o e => Heap.get?_push_of_some _ e
  rw [hw]
  refine wpAny_bind (wpAny_pure ?_)
  show wpAny (model X.prog X.w) X.A (do rule "assign.swapped-stores"; let items ← unpackItems (.ref s1.heap.objs.size) 2 none; assignInOrder [fun v => bindName X.env y v, fun v => bindName X.env x v] items.reverse; pure Flow.next) _ _ _
  refine wpAny_bind (wpAny_rule (wpAny_bind (unpackItems_tuple (items := #[u1, u2]) (I.ok.hd hc) (IsTup.new s1.heap _) fun h' hx' => ?_)))
  have I3 := I2.kept (h' := h') (t' := s1.toks) fun b o e => hx' b o (Nat.ne_of_lt (Heap.lt_size e)) e
  show wpAny _ _ (assignInOrder [fun v => bindName X.env y v, fun v => bindName X.env x v] [u2, u1] >>= fun _ => pure Flow.next) _ _ _
  refine wpAny_bind (assignInOrder_cons (wpAny_bindName (store_ok I3 hN hj (.inl hy) rw' (fun s2 I4 => ?_) (.inr hy))))
  refine assignInOrder_cons (wpAny_bindName (store_ok I4 hN hi (.inl hx) rv (fun s3 I5 => assignInOrder_nil (wpAny_pure ?_)) (.inr hx)))
  rw [List.set_comm _ _ (Ne.symm hij)] at I5
  exact ⟨_, H1, I5, q1⟩
/-- name op= e -/
def tAug (i : Nat) (te : TE) (ti : TIp) : TS := fun D σ H => ∃ x, σ[i]? = some (some x) ∧ te σ H fun y H1 => ti x y H1 fun z H2 => D.nx (σ.set i (some z)) H2
theorem ps_aug {i : Nat} {x : Str} {e : Expr} {te : TE} {op : Operator} {ti : TIp} {pos' : Pos} (hN : X.N.Nodup) (hi : X.N[i]? = some x) (hx : Loc X.env.scope x) (he : PE X e te) (ho : PIp X op ti) (hf : X.fn x = true ∨ X.env.scope.names.lookup x = some .local := by first | exact .inl rfl | exact .inr rfl | assumption) :
    PS X (.AugAssign (.Name x pos') op e pos) (tAug i te ti) := by
  intro pins s σ H D I h
  obtain ⟨v, e1, h⟩ := h
  obtain ⟨m, hn, hl⟩ := I.loc
  have vis : Vis X.env.scope x := by rcases hx with k | k; exact .inl k; exact .inr (.inl k)
  obtain ⟨u, r, l⟩ := hl i x v hi e1 vis
  refine wpAny_AugAssign_Name ?_
  have go : wpAny (model X.prog X.w) X.A (eval e X.env) (fun w s₂ => wpAny (model X.prog X.w) X.A (inplaceOp op u w) (fun r s₃ => wpAny (model X.prog X.w) X.A (storeName X.env x r) (fun _ => SP X pins D .next) X.xe s₃) X.xe s₂) X.xe s := by
    refine thn (he pins s σ H _ I h) fun w s1 ⟨y, H1, I1, r1, q1⟩ => ?_
    refine thn (ho pins s1 σ H1 v y u w _ I1 r r1 q1) fun z s2 ⟨zv, H2, I2, r2, q2⟩ => ?_
    exact store_ok I2 hN hi hx r2 (fun s3 I3 => ⟨_, H2, I3, q2⟩) hf
  rcases l with ⟨hk, hm⟩ | ⟨hk, c, hc, hcell⟩
  · exact wpAny_loadName_local I.ok.kind hk hn hm go
  · rcases hk with hk | hk
    · exact wpAny_loadName_cell I.ok.kind hk hc hcell go
    · rcases hx with k | k
      · have : X.env.scope.names.lookup x = some .free := hk
        rw [k] at this; cases this
      · have : X.env.scope.names.lookup x = some .free := hk
        rw [k] at this; cases this
/-- o[i] op= e -/
def tAugS (to ti te : TE) (tget : V → V → Hp → VK → Prop) (tip : TIp) (tset : TSet) : TS := fun D σ H => to σ H fun o H1 => ti σ H1 fun i H2 => tget o i H2 fun x H3 => te σ H3 fun y H4 => tip x y H4 fun z H5 => tset o i z H5 fun H6 => D.nx σ H6
/-- o[i], by values -/
def PGet (X : Cx) (t : V → V → Hp → VK → Prop) : Prop :=
  ∀ (pins : List (Addr × Obj)) (s : Shared) (σ : St) (H : Hp) (o i : V) (ov iv : Value) (Q : VK), Inv X pins σ H s → RelV o ov → RelV i iv → t o i H Q →
    wpAny (model X.prog X.w) X.A (getItem ov iv) (EP X pins σ Q) X.xe s
/-- ints -/
def ipI (f : Int → Int → Int) : TIp := fun x y H Q => ∃ i j, x = .int i ∧ y = .int j ∧ Q (.int (f i j)) H
theorem ip_add : PIp X .Add (ipI fun i j => i + j) := by
  intro pins s σ H x y v u Q I r1 r2 h
  obtain ⟨i, j, e1, e2, q⟩ := h
  subst e1; subst e2
  obtain ⟨t, rfl⟩ := r1
  obtain ⟨t', rfl⟩ := r2
  exact iadd_int ⟨.int _, H, I.tok _, ⟨_, rfl⟩, q⟩
theorem ip_sub : PIp X .Sub (ipI fun i j => i - j) := by
  intro pins s σ H x y v u Q I r1 r2 h
  obtain ⟨i, j, e1, e2, q⟩ := h
  subst e1; subst e2
  obtain ⟨t, rfl⟩ := r1
  obtain ⟨t', rfl⟩ := r2
  exact isub_int ⟨.int _, H, I.tok _, ⟨_, rfl⟩, q⟩
end

/-! ### while -/
section
variable {X : Cx} {pos : Pos}
/-- the invariant W with its measure -/
def tWhile (c : TT) (tb : TS) : TS := fun D σ H => ∃ W : Nat → St → Hp → Prop, (∃ m, W m σ H) ∧ ∀ m σ H, W m σ H →
  c σ H fun b H1 => if b = true then ∃ N : St → Hp → Prop, (∀ σ' H', N σ' H' → ∃ m', m' < m ∧ W m' σ' H') ∧ tb { D with nx := N, ct := N, bk := D.nx } σ H1 else D.nx σ H1
theorem ps_while {c : Expr} {body : List Stmt} {tc : TT} {tb : TS} (hp : PassesOwn (model X.prog X.w) X.A X.env X.xe) (hc : PT X c tc) (hb : PSs X body tb) : PS X (.While c body [] pos) (tWhile tc tb) := by
  intro pins s σ H D I h
  obtain ⟨W, ⟨m0, w0⟩, turn⟩ := h
  refine wpAny_While (codeAny_whileLoop (fun n s' => ∃ σ' H', Inv X pins σ' H' s' ∧ W n σ' H') ?_ m0 ⟨σ, H, I, w0⟩)
  rintro n s1 ⟨σ1, H1, I1, w1⟩
  refine wpAny_passesOwn hp (thn (hc pins s1 σ1 H1 _ I1 (turn n σ1 H1 w1)) fun b s2 ⟨H2, I2, q2⟩ => ?_)
  cases b with
  | true =>
    obtain ⟨N, hN, q2⟩ := q2
    rw [if_pos rfl]
    refine wpAny_passesOwn hp (thn (hb pins s2 σ1 H2 _ I2 q2) fun f s3 q3 => ?_)
    cases f with
    | next =>
      obtain ⟨σ3, H3, I3, n3⟩ := q3
      obtain ⟨m', hm, w3⟩ := hN σ3 H3 n3
      exact ⟨m', hm, σ3, H3, I3, w3⟩
    | cont =>
      obtain ⟨σ3, H3, I3, n3⟩ := q3
      obtain ⟨m', hm, w3⟩ := hN σ3 H3 n3
      exact ⟨m', hm, σ3, H3, I3, w3⟩
    | brk => exact q3
    | ret v => exact q3
  | false =>
    rw [if_neg Bool.false_ne_true]
    exact wpAny_execs_nil ⟨σ1, H2, I2, q2⟩
end

/-! ### what a loop or a comprehension walks -/
/-- at turn i: it yields x (the heap may grow), or it stops -/
structure It where
  go : Nat → Hp → Prop
  yld : Nat → Hp → V → Hp → Prop
  stop : Nat → Hp → Prop
/-- the iterator's own objects may turn: they are not the frame's, not pinned, younger than the entry (or a comprehension's own) -/
def FpOk (X : Cx) (pins : List (Addr × Obj)) (H : Hp) (b : Addr) : Prop :=
  H b = none ∧ b ≠ X.env.locals ∧ b ∉ X.fs ∧ (b ∈ X.ex ∨ X.s₀.heap.objs.size ≤ b) ∧ (∀ x c, X.env.cells.lookup x = some c → c ≠ b) ∧ ∀ p ∈ X.pn ++ pins, p.1 ≠ b
theorem Inv.fpOk {X : Cx} {pins : List (Addr × Obj)} {σ : St} {H H' : Hp} {s : Shared} {b : Addr} (I : Inv X pins σ H s) (hb : s.heap.objs.size ≤ b) (hn : H' b = none) : FpOk X pins H' b := by
  refine ⟨hn, Nat.ne_of_gt (Nat.lt_of_lt_of_le I.lt hb), I.nofs hb, .inr (Nat.le_trans I.sz hb), fun x c e z => ?_, fun p hp z => ?_⟩
  · obtain ⟨v, q⟩ := I.cell x c e
    exact absurd (Nat.lt_of_lt_of_le q.lt (by rw [z]; exact hb)) (Nat.lt_irrefl _)
  · exact absurd (Nat.lt_of_lt_of_le (Heap.lt_size (I.pin p hp).1) (by rw [z]; exact hb)) (Nat.lt_irrefl _)
structure Turn (P : Program) (w : World) (K : PySem.W.Frag) (tg : Expr) (J : It) (fp : List Addr) (it : Addr) (tn : Nat → Heap → Prop) : Prop where
  mem : it ∈ fp
  obj : ∀ i h, tn i h → ∀ b ∈ fp, ∃ o, h.get? b = some o ∧ ∀ v, o.data ≠ .cell v
  keep : ∀ i h h', tn i h → (∀ b ∈ fp, ∀ o, h.get? b = some o → h'.get? b = some o) → tn i h'
  item : ∀ (X : Cx), X.prog = P → X.w = w → X.K = K → X.calm = true → ∀ (i : Nat) (pins : List (Addr × Obj)) (s : Shared) (σ : St) (H : Hp) (E : Value → Shared → Prop), Inv X pins σ H s → (∀ b ∈ fp, FpOk X pins H b) → tn i s.heap → J.go i H →
    wpAny (model P w) X.A (pyNext (.ref it)) (fun r s1 => ∃ u, r = some u ∧
      wpAny (model P w) X.A (letOwnedTupleGo tg (.ref it) u) (fun _ s2 => ∃ x H', Inv X pins σ H' s2 ∧ RelV x u ∧ J.yld i H x H' ∧ tn (i + 1) s2.heap ∧ ∀ b ∈ fp, H' b = none) E s1) E s
  done : ∀ (X : Cx), X.prog = P → X.w = w → X.K = K → X.calm = true → ∀ (i : Nat) (pins : List (Addr × Obj)) (s : Shared) (σ : St) (H : Hp) (E : Value → Shared → Prop), Inv X pins σ H s → (∀ b ∈ fp, FpOk X pins H b) → tn i s.heap → J.stop i H →
    wpAny (model P w) X.A (pyNext (.ref it)) (fun r s1 => r = none ∧ Inv X pins σ H s1) E s
  self : ∀ (A : Around) (i : Nat) (s : Shared) (Q : Value → Shared → Prop) (E : Value → Shared → Prop), tn i s.heap → Q (.ref it) s → wpAny (model P w) A (pyIter (.ref it)) Q E s
abbrev TI := St → Hp → (It → Hp → Prop) → Prop
/-- an iterator has come -/
def PIE (X : Cx) (pins : List (Addr × Obj)) (σ : St) (tg : Expr) (R : It → Hp → Prop) (itv : Value) (s2 : Shared) : Prop :=
  ∃ (it : Addr) (fp : List Addr) (tn : Nat → Heap → Prop) (J : It) (H' : Hp), itv = .ref it ∧ Inv X pins σ H' s2 ∧ Turn X.prog X.w X.K tg J fp it tn ∧ tn 0 s2.heap ∧ (∀ b ∈ fp, FpOk X pins H' b) ∧ R J H'
def PI (X : Cx) (tg iter : Expr) (wi : TI) : Prop :=
  ∀ (pins : List (Addr × Obj)) (s : Shared) (σ : St) (H : Hp) (R : It → Hp → Prop), Inv X pins σ H s → wi σ H R →
    wpAny (model X.prog X.w) X.A (eval iter X.env) (fun v s1 => wpAny (model X.prog X.w) X.A (pyIter v) (PIE X pins σ tg R) X.xe s1) X.xe s

/-- the step ahead of the store is nothing for an iterator that keeps no tuple -/
theorem go_of {M : Model} {A : Around} {E : Value → Shared → Prop} {s : Shared} {tg : Expr} {it : Addr} {u : Value} {o : Obj} {n : String} {vs : Array Value} {Q : Unit → Shared → Prop} (ho : s.heap.get? it = some o) (hc : o.cls = .type n) (hd : o.data = .fields vs)
    (hn : ["enumerate", "zip", "dict_itemiterator", "dict_reverseitemiterator", "odict_iterator", "itertools.zip_longest", "itertools.pairwise"].contains n = false) (hQ : Q () s) : wpAny M A (letOwnedTupleGo tg (.ref it) u) Q E s := by
  unfold letOwnedTupleGo
  cases tg <;> first
    | exact wpAny_pure hQ
    | (cases u <;> first
        | exact wpAny_pure hQ
        | (refine wpAny_bind (wpAny_load ho ?_)
           rw [hc, hd]
           show wpAny M A (if (["enumerate", "zip", "dict_itemiterator", "dict_reverseitemiterator", "odict_iterator", "itertools.zip_longest", "itertools.pairwise"].contains n && vs[0]? == some (rawInt _)) = true then _ else _) Q E s
           rw [if_neg (by intro h; rw [hn, Bool.false_and] at h; cases h)]
           exact wpAny_pure hQ))

/-- the list at a, as it stands at each turn (a loop may append to it) -/
def Itl (K : PySem.W.Frag) (a : Addr) : It :=
  ⟨fun i H => ∃ xs x, SqL K H a xs ∧ xs[i]? = some x, fun i H x H' => H' = H ∧ ∀ xs, SqL K H a xs → xs[i]? = some x, fun i H => ∃ xs, SqL K H a xs ∧ xs.length ≤ i⟩
def Itt (K : PySem.W.Frag) (a : Addr) : It :=
  ⟨fun i H => ∃ xs x, SqT K H a xs ∧ xs[i]? = some x, fun i H x H' => H' = H ∧ ∀ xs, SqT K H a xs → xs[i]? = some x, fun i H => ∃ xs, SqT K H a xs ∧ xs.length ≤ i⟩
/-- lo, lo + 1, .. (n of them) -/
def Itr (lo : Int) (n : Nat) : It := ⟨fun i _ => i < n, fun i H x H' => H' = H ∧ x = .int (lo + i), fun i _ => n ≤ i⟩
theorem turn_list {P : Program} {w : World} {K : PySem.W.Frag} {tg : Expr} (a it : Addr) : Turn P w K tg (Itl K a) [it] it (fun i h => h.IsListIter it a i) where
  mem := by simp
  obj := fun i h st b hb => by
    have e : b = it := by simpa using hb
    subst e
    obtain ⟨o, e, c, d⟩ := st
    exact ⟨o, e, fun v z => by rw [d] at z; cases z⟩
  keep := fun i h h' st k => st.at fun o e => k it (by simp) o e
  item := by
    intro X hP hw hK hc i pins s σ H E I hf st hg
    subst hP hw hK
    obtain ⟨xs, x, hq, hx⟩ := hg
    obtain ⟨its, rv, p, hz⟩ := I.list hq
    obtain ⟨u, hu, ru⟩ := rv.get hx
    obtain ⟨f0, f1, f2, f3, f4, f5⟩ := hf it (by simp)
    refine wpAny_pyNext_list_item st p.isList (x := u) (by simpa using hu) fun h' st' sb => ?_
    have I1 : Inv X pins σ H { s with heap := h' } := I.turned (t' := s.toks) (fun b o hb e => (sb.2 b hb).trans e) f0 f1 f3 f4 f5
    obtain ⟨o, e, c, d⟩ := id st'
    exact ⟨u, rfl, go_of (s := { s with heap := h' }) e c d (by decide) ⟨x, H, I1, ru, ⟨rfl, fun ys hy => by rw [I.list_inj hy hq]; exact hx⟩, st', fun b hb => (hf b hb).1⟩⟩
  done := by
    intro X hP hw hK hc i pins s σ H E I hf st hg
    subst hP hw hK
    obtain ⟨xs, hq, hx⟩ := hg
    obtain ⟨its, rv, p, hz⟩ := I.list hq
    obtain ⟨f0, f1, f2, f3, f4, f5⟩ := hf it (by simp)
    have hl := rv.length
    exact wpAny_pyNext_list_end (I.ok.hd hc) st p.isList (by simp; omega) fun h' eb => ⟨rfl, I.turned (t' := s.toks) (fun b o hb e => eb b o hb e) f0 f1 f3 f4 f5⟩
  self := fun _ _ _ _ _ st h => wpAny_pyIter_listiter st h
theorem turn_tuple {P : Program} {w : World} {K : PySem.W.Frag} {tg : Expr} (a it : Addr) : Turn P w K tg (Itt K a) [it] it (fun i h => h.IsTupleIter it a i) where
  mem := by simp
  obj := fun i h st b hb => by
    have e : b = it := by simpa using hb
    subst e
    obtain ⟨o, e, c, d⟩ := st
    exact ⟨o, e, fun v z => by rw [d] at z; cases z⟩
  keep := fun i h h' st k => st.at fun o e => k it (by simp) o e
  item := by
    intro X hP hw hK hc i pins s σ H E I hf st hg
    subst hP hw hK
    obtain ⟨xs, x, hq, hx⟩ := hg
    obtain ⟨its, rv, p, hz⟩ := I.tuple hq
    obtain ⟨u, hu, ru⟩ := rv.get hx
    obtain ⟨f0, f1, f2, f3, f4, f5⟩ := hf it (by simp)
    refine wpAny_pyNext_tuple_item st (show s.heap.IsTuple a its.toArray from p) (x := u) (by simpa using hu) fun h' st' sb => ?_
    have I1 : Inv X pins σ H { s with heap := h' } := I.turned (t' := s.toks) (fun b o hb e => (sb.2 b hb).trans e) f0 f1 f3 f4 f5
    obtain ⟨o, e, c, d⟩ := id st'
    exact ⟨u, rfl, go_of (s := { s with heap := h' }) e c d (by decide) ⟨x, H, I1, ru, ⟨rfl, fun ys hy => by rw [I.tuple_inj hy hq]; exact hx⟩, st', fun b hb => (hf b hb).1⟩⟩
  done := by
    intro X hP hw hK hc i pins s σ H E I hf st hg
    subst hP hw hK
    obtain ⟨xs, hq, hx⟩ := hg
    obtain ⟨its, rv, p, hz⟩ := I.tuple hq
    obtain ⟨f0, f1, f2, f3, f4, f5⟩ := hf it (by simp)
    have hl := rv.length
    exact wpAny_pyNext_tuple_end (I.ok.hd hc) st (show s.heap.IsTuple a its.toArray from p) (by simp; omega) fun h' eb => ⟨rfl, I.turned (t' := s.toks) (fun b o hb e => eb b o hb e) f0 f1 f3 f4 f5⟩
  self := fun _ _ _ _ _ st h => wpAny_pyIter_tupleiter st h
theorem turn_range {P : Program} {w : World} {K : PySem.W.Frag} {tg : Expr} (it : Addr) (lo : Int) (n : Nat) : Turn P w K tg (Itr lo n) [it] it (fun i h => IsRangeIter h it (lo + (i : Nat) * 1) ((n : Int) - (i : Nat)) 1) where
  mem := by simp
  obj := fun i h st b hb => by
    have e : b = it := by simpa using hb
    subst e
    exact ⟨_, st, fun v z => by
      have z' : Data.fields _ = Data.cell v := z
      cases z'⟩
  keep := fun i h h' st k => k it (by simp) _ st
  item := by
    intro X hP hw hK hc i pins s σ H E I hf st hg
    subst hP hw hK
    obtain ⟨f0, f1, f2, f3, f4, f5⟩ := hf it (by simp)
    have W := Walks.range (prog := X.prog) (w := X.w) (I.ok.hd hc) it lo 1 n
    refine W.item i s _ _ hg st fun v h' tk hv st' kk => ?_
    obtain ⟨t, rfl⟩ := hv
    have I1 : Inv X pins σ H { s with heap := h', toks := tk } := I.turned (fun b o hb e => kk b o (by simpa using hb) e) f0 f1 f3 f4 f5
    refine ⟨_, rfl, go_of (s := { s with heap := h', toks := tk }) (n := "range_iterator") st' rfl rfl (by decide) ⟨.int (lo + i), H, I1, ⟨t, ?_⟩, ⟨rfl, rfl⟩, st', fun b hb => (hf b hb).1⟩⟩
    rw [Int.mul_one]
  done := by
    intro X hP hw hK hc i pins s σ H E I hf st hg
    subst hP hw hK
    obtain ⟨f0, f1, f2, f3, f4, f5⟩ := hf it (by simp)
    exact wpAny_pyNext_range_end (I.ok.hd hc) st (by have : n ≤ i := hg; omega) fun h' eb => ⟨rfl, I.turned (t' := s.toks) (fun b o hb e => eb b o hb e) f0 f1 f3 f4 f5⟩
  self := fun _ _ _ _ _ st h => wpAny_pyIter_rangeiter st h
end L2

namespace L2
open PySem PySem.Spec PyProof.Rows
section
variable {X : Cx} {tg : Expr}
def iList (K : PySem.W.Frag) (tl : TE) : TI := fun σ H R => tl σ H fun x H1 => ∃ a, x = .ref a ∧ (∃ xs, SqL K H1 a xs) ∧ R (Itl K a) H1
def iTup (K : PySem.W.Frag) (tl : TE) : TI := fun σ H R => tl σ H fun x H1 => ∃ a, x = .ref a ∧ (∃ xs, SqT K H1 a xs) ∧ R (Itt K a) H1
theorem pi_list {l : Expr} {tl : TE} (hl : PE X l tl) : PI X tg l (iList X.K tl) := by
  intro pins s σ H R I h
  refine thn (hl pins s σ H _ I h) fun v s1 ⟨x, H1, I1, r1, q1⟩ => ?_
  obtain ⟨a, e, ⟨xs, hq⟩, q⟩ := q1
  subst e
  cases r1
  obtain ⟨its, rv, p, hz⟩ := I1.list hq
  refine wpAny_pyIter_list p.isList ?_
  refine ⟨s1.heap.objs.size, [s1.heap.objs.size], _, _, H1, rfl, I1.kept (t' := s1.toks) fun b o e => Heap.get?_push_of_some _ e, turn_list a _, ⟨_, Heap.get?_push_size _ rfl, rfl, rfl⟩, fun b hb => ?_, q⟩
  have e : b = s1.heap.objs.size := by simpa using hb
  subst e
  exact I1.fpOk (Nat.le_refl _) (I1.hok.fresh (Nat.le_refl _))
theorem pi_tup {l : Expr} {tl : TE} (hl : PE X l tl) : PI X tg l (iTup X.K tl) := by
  intro pins s σ H R I h
  refine thn (hl pins s σ H _ I h) fun v s1 ⟨x, H1, I1, r1, q1⟩ => ?_
  obtain ⟨a, e, ⟨xs, hq⟩, q⟩ := q1
  subst e
  cases r1
  obtain ⟨its, rv, p, hz⟩ := I1.tuple hq
  refine wpAny_pyIter_tuple (show s1.heap.IsTuple a its.toArray from p) ?_
  refine ⟨s1.heap.objs.size, [s1.heap.objs.size], _, _, H1, rfl, I1.kept (t' := s1.toks) fun b o e => Heap.get?_push_of_some _ e, turn_tuple a _, ⟨_, Heap.get?_push_size _ rfl, rfl, rfl⟩, fun b hb => ?_, q⟩
  have e : b = s1.heap.objs.size := by simpa using hb
  subst e
  exact I1.fpOk (Nat.le_refl _) (I1.hok.fresh (Nat.le_refl _))
/-- a range object just made, walked -/
theorem range_it {pins : List (Addr × Obj)} {σ : St} {H : Hp} {s : Shared} {R : It → Hp → Prop} {E : Value → Shared → Prop} {lo hi : Int} {t u v : Tok} {tk : Nat} (I : Inv X pins σ H s) (h1 : -(2 ^ 62) ≤ lo) (h2 : lo < 2 ^ 62) (h3 : -(2 ^ 62) ≤ hi) (h4 : hi < 2 ^ 62)
    (q : R (Itr lo (hi - lo).toNat) H) : wpAny (model X.prog X.w) X.A (pyIter (.ref s.heap.objs.size)) (PIE X pins σ tg R) E { s with heap := s.heap.push { cls := .type "range", data := .fields #[.int lo t, .int hi u, .int 1 v] }, toks := tk } := by
  refine wpAny_pyIter_range (IsRange.new ..) (small_one h1 h2 h3 h4) ?_
  have I1 : Inv X pins σ H { s with heap := s.heap.push { cls := .type "range", data := .fields #[.int lo t, .int hi u, .int 1 v] }, toks := tk } := I.kept fun b o e => Heap.get?_push_of_some _ e
  refine ⟨(s.heap.push { cls := .type "range", data := .fields #[.int lo t, .int hi u, .int 1 v] }).objs.size, [(s.heap.push { cls := .type "range", data := .fields #[.int lo t, .int hi u, .int 1 v] }).objs.size], _, _, H, rfl,
    I1.kept (t' := tk) fun b o e => Heap.get?_push_of_some _ e, turn_range _ lo (hi - lo).toNat, ?_, fun b hb => ?_, q⟩
  · have e1 : lo + ((0 : Nat) : Int) * 1 = lo := by simp
    have e2 : (((hi - lo).toNat : Nat) : Int) - ((0 : Nat) : Int) = Builtin.Range.rangeSize lo hi 1 := by rw [rangeSize_one]; split <;> omega
    show IsRangeIter _ _ (lo + ((0 : Nat) : Int) * 1) ((((hi - lo).toNat : Nat) : Int) - ((0 : Nat) : Int)) 1
    rw [e1, e2]
    exact Heap.get?_push_size _ rfl
  · have e : b = (s.heap.push { cls := .type "range", data := .fields #[.int lo t, .int hi u, .int 1 v] }).objs.size := by simpa using hb
    subst e
    exact I1.fpOk (Nat.le_refl _) (I1.hok.fresh (Nat.le_refl _))
def iRng1 (ta : TA) : TI := fun σ H R => ta σ H fun vs H1 => ∃ j : Int, vs = [.int j] ∧ -(2 ^ 62) ≤ j ∧ j < 2 ^ 62 ∧ R (Itr 0 j.toNat) H1
def iRng2 (ta : TA) : TI := fun σ H R => ta σ H fun vs H1 => ∃ i j : Int, vs = [.int i, .int j] ∧ (-(2 ^ 62) ≤ i ∧ i < 2 ^ 62 ∧ -(2 ^ 62) ≤ j ∧ j < 2 ^ 62) ∧ R (Itr i (j - i).toNat) H1
theorem pi_range1 {a : Expr} {ta : TA} {p pos : Pos} (hg : Gl X "range") (hm : X.mg "range" = none) (ha : PA X [a] ta) (hs : starEach [a] X.env = [(false, eval a X.env)] := by rfl) : PI X tg (.Call (.Name "range" p) [a] [] pos) (iRng1 ta) := by
  intro pins s σ H R I h
  refine Call_ (ld_blt I hg hm boot_range (PyProof.Rows.callWith_type1 (thn (ha pos pins s σ H _ I h) fun us s1 ⟨vs, H1, I1, r1, q1⟩ => ?_) hs rfl))
  obtain ⟨j, e, q1, q2, q⟩ := q1
  subst e
  cases r1 with
  | cons r rr =>
    cases rr
    obtain ⟨t, rfl⟩ := r
    exact call_range_1 (range_it I1 (by omega) (by omega) q1 q2 (by simpa using q))
/-! ### for -/
/-- W: the invariant by the turn and a measure; N: what the body is to reach -/
def tFor (wi : TI) (g : TG) (tb : TS) : TS := fun D σ H => wi σ H fun J H1 => ∃ W : Nat → Nat → St → Hp → Prop, (∃ m, W 0 m σ H1) ∧ ∀ i m σ H, W i m σ H →
  (J.stop i H ∧ D.nx σ H) ∨ (J.go i H ∧ ∃ N : St → Hp → Prop, (∀ σ' H', N σ' H' → ∃ m', m' < m ∧ W (i + 1) m' σ' H') ∧ ∀ x H', J.yld i H x H' → g x σ H' fun σ2 H2 => tb { D with nx := N, ct := N, bk := D.nx } σ2 H2)
/-- the records at fp as they stand -/
def pinsAt (fp : List Addr) (h : Heap) : List (Addr × Obj) := fp.filterMap fun b => (h.get? b).map fun o => (b, o)
theorem mem_pinsAt {fp : List Addr} {h : Heap} {b : Addr} {o : Obj} (hb : b ∈ fp) (e : h.get? b = some o) : (b, o) ∈ pinsAt fp h := List.mem_filterMap.mpr ⟨b, hb, by rw [e]; rfl⟩
theorem of_pinsAt {fp : List Addr} {h : Heap} {p : Addr × Obj} (hp : p ∈ pinsAt fp h) : p.1 ∈ fp ∧ h.get? p.1 = some p.2 := by
  obtain ⟨b, hb, e⟩ := List.mem_filterMap.mp hp
  cases q : h.get? b with
  | none => rw [q] at e; cases e
  | some o =>
    rw [q] at e
    have e' : (b, o) = p := Option.some.inj e
    subst e'
    exact ⟨hb, q⟩
theorem Inv.pinned {pins : List (Addr × Obj)} {σ : St} {H : Hp} {s : Shared} {fp : List Addr} (I : Inv X pins σ H s) (hf : ∀ b ∈ fp, FpOk X pins H b) (ho : ∀ b ∈ fp, ∃ o, s.heap.get? b = some o ∧ ∀ v, o.data ≠ .cell v) : Inv X (pins ++ pinsAt fp s.heap) σ H s :=
  I.pins_of fun p hp => (List.mem_append.mp hp).elim (fun z => I.pin p (List.mem_append_right _ z)) fun z => by
    obtain ⟨hb, e⟩ := of_pinsAt z
    obtain ⟨f0, f1, f2, _⟩ := hf p.1 hb
    obtain ⟨o, e', d⟩ := ho p.1 hb
    rw [e] at e'; cases e'
    exact ⟨e, f0, f1, f2, d⟩
theorem Inv.unpinned {pins pl : List (Addr × Obj)} {σ : St} {H : Hp} {s : Shared} (I : Inv X (pins ++ pl) σ H s) : Inv X pins σ H s := I.pins_of fun p hp => I.pin p (List.mem_append_right _ (List.mem_append_left _ hp))
theorem ps_for {iter : Expr} {body : List Stmt} {wi : TI} {g : TG} {tb : TS} {pos : Pos} (hp : PassesOwn (model X.prog X.w) X.A X.env X.xe) (hc : X.calm = true) (hi : PI X tg iter wi) (hg : PG X tg g) (hb : PSs X body tb)
    (hs : ∀ x, foldedSetIterable iter X.env x = pure x := by intro _; rfl) : PS X (.For tg iter body [] pos) (tFor wi g tb) := by
  intro pins s σ H D I h
  refine wpAny_For (thn (hi pins s σ H _ I h) fun v s1 h1 => thn h1 fun itv s2 h2 => ?_) hs
  obtain ⟨it, fp, tn, J, H2, e, I2, T, st2, f2, W, ⟨m0, w0⟩, turn⟩ := h2
  subst e
  -- what stays true of the iterator's objects through the loop
  have stat : ∀ {H' : Hp}, (∀ b ∈ fp, H' b = none) → ∀ b ∈ fp, FpOk X pins H' b := fun hn b hb => ⟨hn b hb, (f2 b hb).2⟩
  refine codeAny_forLoop_any (fun n s' => ∃ i σ' H', Inv X pins σ' H' s' ∧ tn i s'.heap ∧ (∀ b ∈ fp, H' b = none) ∧ W i n σ' H') ?_ m0 ⟨0, σ, H2, I2, st2, fun b hb => (f2 b hb).1, w0⟩
  rintro n s3 ⟨i, σ3, H3, I3, st3, fr3, w3⟩
  rcases turn i n σ3 H3 w3 with ⟨stop, qn⟩ | ⟨go, N, hN, step⟩
  · refine wpAny_passesOwn hp (thn (T.done X rfl rfl rfl hc i pins s3 σ3 H3 X.xe I3 (stat fr3) st3 stop) fun r s4 ⟨hr, I4⟩ => ?_)
    subst hr
    exact wpAny_execs_nil ⟨σ3, H3, I4, qn⟩
  · refine wpAny_passesOwn hp (thn (T.item X rfl rfl rfl hc i pins s3 σ3 H3 X.xe I3 (stat fr3) st3 go) fun r s4 ⟨u, hr, h4⟩ => ?_)
    subst hr
    refine wpAny_passesOwn hp (thn h4 fun _ s5 ⟨x, H5, I5, r5, y5, st5, fr5⟩ => ?_)
    have I5' := I5.pinned (stat fr5) (T.obj _ _ st5)
    refine wpAny_passesOwn hp (thn (hg _ s5 σ3 H5 x u _ I5' r5 (step x H5 y5)) fun _ s6 ⟨σ6, H6, I6, q6⟩ => ?_)
    refine wpAny_passesOwn hp (thn (hb _ s6 σ6 H6 _ I6 q6) fun f s7 q7 => ?_)
    have again : ∀ {σ7 : St} {H7 : Hp}, Inv X (pins ++ pinsAt fp s5.heap) σ7 H7 s7 → N σ7 H7 → ∃ m, m < n ∧ ∃ i σ' H', Inv X pins σ' H' s7 ∧ tn i s7.heap ∧ (∀ b ∈ fp, H' b = none) ∧ W i m σ' H' := fun {σ7 H7} I7 n7 => by
      obtain ⟨m', hm, w7⟩ := hN σ7 H7 n7
      refine ⟨m', hm, i + 1, σ7, H7, I7.unpinned, T.keep _ _ _ st5 fun b hb o e => (I7.pin (b, o) (List.mem_append_right _ (List.mem_append_right _ (mem_pinsAt hb e)))).1, fun b hb => ?_, w7⟩
      obtain ⟨o, e, d⟩ := T.obj _ _ st5 b hb
      exact (I7.pin (b, o) (List.mem_append_right _ (List.mem_append_right _ (mem_pinsAt hb e)))).2.1
    cases f with
    | next => obtain ⟨σ7, H7, I7, n7⟩ := q7; exact again I7 n7
    | cont => obtain ⟨σ7, H7, I7, n7⟩ := q7; exact again I7 n7
    | brk => obtain ⟨σ7, H7, I7, q7⟩ := q7; exact ⟨σ7, H7, I7.unpinned, q7⟩
    | ret v => obtain ⟨x7, σ7, H7, I7, r7, q7⟩ := q7; exact ⟨x7, σ7, H7, I7.unpinned, r7, q7⟩
end

/-! ### the forms one uses -/
/-- over a list that the body leaves as it is -/
theorem for_list {K : PySem.W.Frag} {a : Addr} {xs : List V} {g : TG} {tb : TS} {D : Ends} {σ : St} {H : Hp} (Pv : Nat → St → Hp → Prop) (h0 : Pv 0 σ H) (hl : ∀ i σ H, i ≤ xs.length → Pv i σ H → SqL K H a xs)
    (hs : ∀ i x σ H, xs[i]? = some x → Pv i σ H → g x σ H fun σ2 H2 => tb { D with nx := Pv (i + 1), ct := Pv (i + 1), bk := D.nx } σ2 H2) (hd : ∀ σ H, Pv xs.length σ H → D.nx σ H) :
    ∃ W : Nat → Nat → St → Hp → Prop, (∃ m, W 0 m σ H) ∧ ∀ i m σ H, W i m σ H →
      ((Itl K a).stop i H ∧ D.nx σ H) ∨ ((Itl K a).go i H ∧ ∃ N : St → Hp → Prop, (∀ σ' H', N σ' H' → ∃ m', m' < m ∧ W (i + 1) m' σ' H') ∧ ∀ x H', (Itl K a).yld i H x H' → g x σ H' fun σ2 H2 => tb { D with nx := N, ct := N, bk := D.nx } σ2 H2) := by
  refine ⟨fun i m σ H => m = xs.length - i ∧ i ≤ xs.length ∧ Pv i σ H, ⟨xs.length, by simp, Nat.zero_le _, h0⟩, ?_⟩
  rintro i m σ H ⟨rfl, hi, p⟩
  have q := hl i σ H hi p
  by_cases hlt : i < xs.length
  · refine .inr ⟨⟨xs, xs[i], q, by simp [hlt]⟩, Pv (i + 1), fun σ' H' p' => ⟨xs.length - (i + 1), by omega, rfl, hlt, p'⟩, fun x H' y => ?_⟩
    obtain ⟨e, y⟩ := y
    subst e
    exact hs i x σ _ (y xs q) p
  · have e : i = xs.length := by omega
    subst e
    exact .inl ⟨⟨xs, q, Nat.le_refl _⟩, hd σ H p⟩
theorem for_tup {K : PySem.W.Frag} {a : Addr} {xs : List V} {g : TG} {tb : TS} {D : Ends} {σ : St} {H : Hp} (Pv : Nat → St → Hp → Prop) (h0 : Pv 0 σ H) (hl : ∀ i σ H, i ≤ xs.length → Pv i σ H → SqT K H a xs)
    (hs : ∀ i x σ H, xs[i]? = some x → Pv i σ H → g x σ H fun σ2 H2 => tb { D with nx := Pv (i + 1), ct := Pv (i + 1), bk := D.nx } σ2 H2) (hd : ∀ σ H, Pv xs.length σ H → D.nx σ H) :
    ∃ W : Nat → Nat → St → Hp → Prop, (∃ m, W 0 m σ H) ∧ ∀ i m σ H, W i m σ H →
      ((Itt K a).stop i H ∧ D.nx σ H) ∨ ((Itt K a).go i H ∧ ∃ N : St → Hp → Prop, (∀ σ' H', N σ' H' → ∃ m', m' < m ∧ W (i + 1) m' σ' H') ∧ ∀ x H', (Itt K a).yld i H x H' → g x σ H' fun σ2 H2 => tb { D with nx := N, ct := N, bk := D.nx } σ2 H2) := by
  refine ⟨fun i m σ H => m = xs.length - i ∧ i ≤ xs.length ∧ Pv i σ H, ⟨xs.length, by simp, Nat.zero_le _, h0⟩, ?_⟩
  rintro i m σ H ⟨rfl, hi, p⟩
  have q := hl i σ H hi p
  by_cases hlt : i < xs.length
  · refine .inr ⟨⟨xs, xs[i], q, by simp [hlt]⟩, Pv (i + 1), fun σ' H' p' => ⟨xs.length - (i + 1), by omega, rfl, hlt, p'⟩, fun x H' y => ?_⟩
    obtain ⟨e, y⟩ := y
    subst e
    exact hs i x σ _ (y xs q) p
  · have e : i = xs.length := by omega
    subst e
    exact .inl ⟨⟨xs, q, Nat.le_refl _⟩, hd σ H p⟩
theorem for_range {lo : Int} {n : Nat} {g : TG} {tb : TS} {D : Ends} {σ : St} {H : Hp} (Pv : Nat → St → Hp → Prop) (h0 : Pv 0 σ H)
    (hs : ∀ i σ H, i < n → Pv i σ H → g (.int (lo + i)) σ H fun σ2 H2 => tb { D with nx := Pv (i + 1), ct := Pv (i + 1), bk := D.nx } σ2 H2) (hd : ∀ σ H, Pv n σ H → D.nx σ H) :
    ∃ W : Nat → Nat → St → Hp → Prop, (∃ m, W 0 m σ H) ∧ ∀ i m σ H, W i m σ H →
      ((Itr lo n).stop i H ∧ D.nx σ H) ∨ ((Itr lo n).go i H ∧ ∃ N : St → Hp → Prop, (∀ σ' H', N σ' H' → ∃ m', m' < m ∧ W (i + 1) m' σ' H') ∧ ∀ x H', (Itr lo n).yld i H x H' → g x σ H' fun σ2 H2 => tb { D with nx := N, ct := N, bk := D.nx } σ2 H2) := by
  refine ⟨fun i m σ H => m = n - i ∧ i ≤ n ∧ Pv i σ H, ⟨n, by simp, Nat.zero_le _, h0⟩, ?_⟩
  rintro i m σ H ⟨rfl, hi, p⟩
  by_cases hlt : i < n
  · refine .inr ⟨hlt, Pv (i + 1), fun σ' H' p' => ⟨n - (i + 1), by omega, rfl, hlt, p'⟩, fun x H' y => ?_⟩
    obtain ⟨e, y⟩ := y
    subst e y
    exact hs i σ _ hlt p
  · have e : i = n := by omega
    subst e
    exact .inl ⟨Nat.le_refl _, hd σ H p⟩
/-- while, by a word and a measure of the state -/
theorem while_by {c : TT} {tb : TS} {D : Ends} {σ : St} {H : Hp} (Pv : St → Hp → Prop) (μ : St → Hp → Nat) (h0 : Pv σ H)
    (hs : ∀ σ H, Pv σ H → c σ H fun b H1 => if b = true then tb { D with nx := fun σ' H' => Pv σ' H' ∧ μ σ' H' < μ σ H, ct := fun σ' H' => Pv σ' H' ∧ μ σ' H' < μ σ H, bk := D.nx } σ H1 else D.nx σ H1)
    (mono : ∀ σ H Q Q', (∀ b H1, Q b H1 → Q' b H1) → c σ H Q → c σ H Q') : tWhile c tb D σ H := by
  refine ⟨fun m σ H => m = μ σ H ∧ Pv σ H, ⟨_, rfl, h0⟩, ?_⟩
  rintro m σ H ⟨rfl, p⟩
  refine mono σ H _ _ (fun b H1 q => ?_) (hs σ H p)
  cases b with
  | true => exact ⟨_, fun σ' H' ⟨p', l⟩ => ⟨_, l, rfl, p'⟩, q⟩
  | false => exact q
end L2

namespace L2
open PySem PySem.Spec PyProof.Rows

abbrev R2 := V → V → Hp → VK → Prop
/-- a two-place operation on values: f is binaryOp op, inplaceOp op or compareOp op -/
def OpR (X : Cx) (f : Value → Value → Sem Value) (r : R2) : Prop :=
  ∀ (pins : List (Addr × Obj)) (s : Shared) (σ : St) (H : Hp) (x y : V) (v u : Value) (Q : VK), Inv X pins σ H s → RelV x v → RelV y u → r x y H Q →
    wpAny (model X.prog X.w) X.A (f v u) (EP X pins σ Q) X.xe s
/-- a one-place operation -/
def UnR (X : Cx) (f : Value → Sem Value) (r : V → Hp → VK → Prop) : Prop :=
  ∀ (pins : List (Addr × Obj)) (s : Shared) (σ : St) (H : Hp) (x : V) (v : Value) (Q : VK), Inv X pins σ H s → RelV x v → r x H Q →
    wpAny (model X.prog X.w) X.A (f v) (EP X pins σ Q) X.xe s
/-- a call of a value that is known (a builtin, a type) with values -/
def CallR (X : Cx) (f : Value) (r : List V → Hp → VK → Prop) : Prop :=
  ∀ (pins : List (Addr × Obj)) (s : Shared) (σ : St) (H : Hp) (xs : List V) (us : List Value) (Q : VK), Inv X pins σ H s → Vals xs us → r xs H Q →
    wpAny (model X.prog X.w) X.A (call f us) (EP X pins σ Q) X.xe s
/-- a value's truth -/
def TruR (X : Cx) (r : V → Hp → (Bool → Hp → Prop) → Prop) : Prop :=
  ∀ (pins : List (Addr × Obj)) (s : Shared) (σ : St) (H : Hp) (x : V) (v : Value) (Q : Bool → Hp → Prop), Inv X pins σ H s → RelV x v → r x H Q →
    wpAny (model X.prog X.w) X.A (truthy v) (TP X pins σ Q) X.xe s

def tOp (r : R2) (ta tb : TE) : TE := fun σ H Q => ta σ H fun x H1 => tb σ H1 fun y H2 => r x y H2 Q
def tUn (r : V → Hp → VK → Prop) (ta : TE) : TE := fun σ H Q => ta σ H fun x H1 => r x H1 Q
/-- ints in, under C, and a value out -/
def rI (C : Int → Int → Prop) (g : Int → Int → V) : R2 := fun x y H Q => ∃ i j, x = .int i ∧ y = .int j ∧ C i j ∧ Q (g i j) H
def rI0 (g : Int → Int → V) : R2 := fun x y H Q => ∃ i j, x = .int i ∧ y = .int j ∧ Q (g i j) H
def rU (g : Int → V) : V → Hp → VK → Prop := fun x H Q => ∃ i, x = .int i ∧ Q (g i) H

section
variable {X : Cx} {a b c : Expr} {ta tb tc : TE} {pos : Pos}

theorem binT (ha : PE X a ta) (hb : PE X b tb) {pins : List (Addr × Obj)} {s : Shared} {σ : St} {H : Hp} {R : V → V → Hp → Prop} (I : Inv X pins σ H s)
    (h : ta σ H fun x H1 => tb σ H1 fun y H2 => R x y H2) {Q : Value → Shared → Prop} {f : Value → Value → Sem Value}
    (hf : ∀ v u s2 x y H2, Inv X pins σ H2 s2 → RelV x v → RelV y u → R x y H2 → wpAny (model X.prog X.w) X.A (f v u) Q X.xe s2) :
    wpAny (model X.prog X.w) X.A (eval a X.env) (fun v s₁ => wpAny (model X.prog X.w) X.A (eval b X.env) (fun u s₂ => wpAny (model X.prog X.w) X.A (f v u) Q X.xe s₂) X.xe s₁) X.xe s := by
  refine thn (ha pins s σ H _ I h) fun v s1 ⟨x, H1, I1, r1, q1⟩ => ?_
  refine thn (hb pins s1 σ H1 _ I1 q1) fun u s2 ⟨y, H2, I2, r2, q2⟩ => ?_
  exact hf v u s2 x y H2 I2 r1 r2 q2

theorem pe_op {op : Operator} {r : R2} (ho : OpR X (binaryOp op) r) (ha : PE X a ta) (hb : PE X b tb) : PE X (.BinOp a op b pos) (tOp r ta tb) := by
  intro pins s σ H Q I h
  exact wpAny_BinOp (binT ha hb I h fun v u s2 x y H2 I2 rx ry q => ho pins s2 σ H2 x y v u Q I2 rx ry q)
theorem pe_un {op : UnaryOp} {r : V → Hp → VK → Prop} (ho : UnR X (unaryOp op) r) (ha : PE X a ta) : PE X (.UnaryOp op a pos) (tUn r ta) := by
  intro pins s σ H Q I h
  exact UnaryOp_ (thn (ha pins s σ H _ I h) fun v s1 ⟨x, H1, I1, r1, q1⟩ => ho pins s1 σ H1 x v Q I1 r1 q1)
/-! ### ints -/
theorem opI {f : Value → Value → Sem Value} {C : Int → Int → Prop} {g : Int → Int → Int}
    (rule : ∀ (i j : Int) (t u : Tok) (s : Shared) (Q : Value → Shared → Prop) (E : Value → Shared → Prop), C i j → Q (.int (g i j) s.toks) { s with toks := s.toks + 1 } → wpAny (model X.prog X.w) X.A (f (.int i t) (.int j u)) Q E s) :
    OpR X f (rI C fun i j => .int (g i j)) := by
  intro pins s σ H x y v u Q I rx ry h
  obtain ⟨i, j, rfl, rfl, hc, q⟩ := h
  obtain ⟨t, rfl⟩ := rx
  obtain ⟨t', rfl⟩ := ry
  exact rule i j t t' s _ _ hc ⟨.int (g i j), H, I.tok _, ⟨_, rfl⟩, q⟩
theorem opI0 {f : Value → Value → Sem Value} {g : Int → Int → Int}
    (rule : ∀ (i j : Int) (t u : Tok) (s : Shared) (Q : Value → Shared → Prop) (E : Value → Shared → Prop), Q (.int (g i j) s.toks) { s with toks := s.toks + 1 } → wpAny (model X.prog X.w) X.A (f (.int i t) (.int j u)) Q E s) :
    OpR X f (rI0 fun i j => .int (g i j)) := by
  intro pins s σ H x y v u Q I rx ry h
  obtain ⟨i, j, rfl, rfl, q⟩ := h
  obtain ⟨t, rfl⟩ := rx
  obtain ⟨t', rfl⟩ := ry
  exact rule i j t t' s _ _ ⟨.int (g i j), H, I.tok _, ⟨_, rfl⟩, q⟩
theorem opB0 {f : Value → Value → Sem Value} {g : Int → Int → Bool}
    (rule : ∀ (i j : Int) (t u : Tok) (s : Shared) (Q : Value → Shared → Prop) (E : Value → Shared → Prop), Q (.bool (g i j)) s → wpAny (model X.prog X.w) X.A (f (.int i t) (.int j u)) Q E s) :
    OpR X f (rI0 fun i j => .bl (g i j)) := by
  intro pins s σ H x y v u Q I rx ry h
  obtain ⟨i, j, rfl, rfl, q⟩ := h
  obtain ⟨t, rfl⟩ := rx
  obtain ⟨t', rfl⟩ := ry
  exact rule i j t t' s _ _ ⟨.bl (g i j), H, I, rfl, q⟩

def CDiv (i j : Int) : Prop := 0 < j ∧ j < 1073741824
def CDivN (i j : Int) : Prop := j ≠ 0 ∧ j.natAbs < 1073741824
def CPow (i j : Int) : Prop := 0 ≤ j ∧ j ≤ 1000000 ∧ i.natAbs < 2 ^ 64
def CMul (i j : Int) : Prop := (-(2 ^ 64) < i ∧ i < 2 ^ 64) ∨ (-(2 ^ 64) < j ∧ j < 2 ^ 64)
theorem CMul.ok {i j : Int} (h : CMul i j) : IntMulOk i j := by
  rcases h with ⟨h1, h2⟩ | ⟨h1, h2⟩
  · exact .of_left (intBits_le_64 h1 h2)
  · exact .of_right (intBits_le_64 h1 h2)
theorem op_add : OpR X (binaryOp .Add) (rI0 fun i j => .int (i + j)) := opI0 fun _ _ _ _ _ _ _ q => add_int q
theorem op_sub : OpR X (binaryOp .Sub) (rI0 fun i j => .int (i - j)) := opI0 fun _ _ _ _ _ _ _ q => sub_int q
theorem op_mul : OpR X (binaryOp .Mult) (rI CMul fun i j => .int (i * j)) := opI fun _ _ _ _ _ _ _ hc q => mul_int q hc.ok
/-- % by a positive divisor of any size -/
theorem op_mod : OpR X (binaryOp .Mod) (rI (fun _ j => 0 < j) fun i j => .int (i % j)) := opI fun i j _ _ _ _ _ hc q => by
  have h1 : (0 : Int) < j := hc
  exact mod_int' (by omega) (by rw [Int.fmod_eq_emod_of_nonneg i (by omega)]; exact q)
theorem op_pow : OpR X (binaryOp .Pow) (rI CPow fun i j => .int (i ^ j.toNat)) := opI fun _ _ _ _ _ _ _ hc q => pow_int_small hc.1 hc.2.1 hc.2.2 q
theorem unI {f : Value → Sem Value} {g : Int → Int}
    (rule : ∀ (i : Int) (t : Tok) (s : Shared) (Q : Value → Shared → Prop) (E : Value → Shared → Prop), Q (.int (g i) s.toks) { s with toks := s.toks + 1 } → wpAny (model X.prog X.w) X.A (f (.int i t)) Q E s) :
    UnR X f (rU fun i => .int (g i)) := by
  intro pins s σ H x v Q I rx h
  obtain ⟨i, rfl, q⟩ := h
  obtain ⟨t, rfl⟩ := rx
  exact rule i t s _ _ ⟨.int (g i), H, I.tok _, ⟨_, rfl⟩, q⟩
theorem un_neg : UnR X (unaryOp .USub) (rU fun i => .int (-i)) := unI fun _ _ _ _ _ q => neg_int q
/-! ### bools among ints: n += (a < b) -/
end

/-! ### comparisons -/
/-- the scalars that == tells apart as data does -/
def scal : V → V → Bool
  | .non, .non => true | .non, .int _ => true | .int _, .non => true | .non, .bl _ => true | .bl _, .non => true | .non, .str _ => true | .str _, .non => true
  | .int _, .int _ => true | .bl _, .bl _ => true | .str _, .str _ => true | .byt _, .byt _ => true
  | .int _, .str _ => true | .str _, .int _ => true | .bl _, .str _ => true | .str _, .bl _ => true
  | _, _ => false
def rEq : R2 := fun x y H Q => scal x y = true ∧ Q (.bl (decide (x = y))) H
def rNe : R2 := fun x y H Q => scal x y = true ∧ Q (.bl (!decide (x = y))) H

theorem dec_int {i j : Int} : decide (V.int i = V.int j) = (i == j) := by
  rw [Bool.eq_iff_iff]
  simp
theorem dec_bl {i j : Bool} : decide (V.bl i = V.bl j) = (i == j) := by
  rw [Bool.eq_iff_iff]
  simp
theorem dec_str {i j : Str} : decide (V.str i = V.str j) = (i == j) := by
  rw [Bool.eq_iff_iff]
  simp
theorem dec_byt {i j : Array UInt8} : decide (V.byt i = V.byt j) = (i.toList == j.toList) := by
  rw [Bool.eq_iff_iff]
  cases i
  cases j
  simp

section
variable {X : Cx} {a b c : Expr} {ta tb tc : TE} {pos : Pos}
theorem fin_bl {pins : List (Addr × Obj)} {σ : St} {H : Hp} {s : Shared} {Q : VK} {k k' : Bool} (I : Inv X pins σ H s) (q : Q (.bl k) H) (e : k = k') : EP X pins σ Q (.bool k') s := by
  subst e
  exact ⟨.bl k, H, I, rfl, q⟩
theorem op_eq : OpR X (compareOp .Eq) rEq := by
  intro pins s σ H x y v u Q I rx ry h
  obtain ⟨hs, q⟩ := h
  cases x with
  | non =>
    cases rx
    cases y with
    | non => cases ry; exact PySem.EqNone.eq_none_none (fin_bl I q (by simp))
    | bl j => cases ry; exact PySem.EqNone.eq_none_bool (fin_bl I q (by simp))
    | int j => obtain ⟨t', rfl⟩ := ry; exact PySem.EqNone.eq_none_int (fin_bl I q (by simp))
    | str j => obtain ⟨t', rfl⟩ := ry; exact PySem.EqNone.eq_none_str (fin_bl I q (by simp))
    | _ => exact absurd (show false = true from hs) Bool.false_ne_true
  | bl i =>
    cases rx
    cases y with
    | non => cases ry; exact PySem.EqNone.eq_bool_none (fin_bl I q (by simp))
    | bl j => cases ry; exact eq_bool (fin_bl I q dec_bl)
    | str j => obtain ⟨t', rfl⟩ := ry; exact PySem.EqMixed.eq_bool_str (fin_bl I q (by simp))
    | _ => exact absurd (show false = true from hs) Bool.false_ne_true
  | int i =>
    obtain ⟨t, rfl⟩ := rx
    cases y with
    | non => cases ry; exact PySem.EqNone.eq_int_none (fin_bl I q (by simp))
    | int j => obtain ⟨t', rfl⟩ := ry; exact eq_int (fin_bl I q dec_int)
    | str j => obtain ⟨t', rfl⟩ := ry; exact PySem.EqMixed.eq_int_str (fin_bl I q (by simp))
    | _ => exact absurd (show false = true from hs) Bool.false_ne_true
  | str i =>
    obtain ⟨t, rfl⟩ := rx
    cases y with
    | non => cases ry; exact PySem.EqNone.eq_str_none (fin_bl I q (by simp))
    | bl j => cases ry; exact PySem.EqMixed.eq_str_bool (fin_bl I q (by simp))
    | int j => obtain ⟨t', rfl⟩ := ry; exact PySem.EqMixed.eq_str_int (fin_bl I q (by simp))
    | str j => obtain ⟨t', rfl⟩ := ry; exact eq_str (fin_bl I q dec_str)
    | _ => exact absurd (show false = true from hs) Bool.false_ne_true
  | byt i =>
    obtain ⟨t, rfl⟩ := rx
    cases y with
    | byt j => obtain ⟨t', rfl⟩ := ry; exact PySem.W.eq_bytes (fin_bl I q dec_byt)
    | _ => exact absurd (show false = true from hs) Bool.false_ne_true
  | _ => cases y <;> exact absurd (show false = true from hs) Bool.false_ne_true
theorem op_ne : OpR X (compareOp .NotEq) rNe := by
  intro pins s σ H x y v u Q I rx ry h
  obtain ⟨hs, q⟩ := h
  cases x with
  | non =>
    cases rx
    cases y with
    | non => cases ry; exact PySem.EqNone.ne_none_none (fin_bl I q (by simp))
    | bl j => cases ry; exact PySem.EqNone.ne_none_bool (fin_bl I q (by simp))
    | int j => obtain ⟨t', rfl⟩ := ry; exact PySem.EqNone.ne_none_int (fin_bl I q (by simp))
    | str j => obtain ⟨t', rfl⟩ := ry; exact PySem.EqNone.ne_none_str (fin_bl I q (by simp))
    | _ => exact absurd (show false = true from hs) Bool.false_ne_true
  | bl i =>
    cases rx
    cases y with
    | non => cases ry; exact PySem.EqNone.ne_bool_none (fin_bl I q (by simp))
    | bl j => cases ry; exact ne_bool (fin_bl I q (congrArg not dec_bl))
    | str j => obtain ⟨t', rfl⟩ := ry; exact PySem.EqMixed.ne_bool_str (fin_bl I q (by simp))
    | _ => exact absurd (show false = true from hs) Bool.false_ne_true
  | int i =>
    obtain ⟨t, rfl⟩ := rx
    cases y with
    | non => cases ry; exact PySem.EqNone.ne_int_none (fin_bl I q (by simp))
    | int j => obtain ⟨t', rfl⟩ := ry; exact ne_int (fin_bl I q (congrArg not dec_int))
    | str j => obtain ⟨t', rfl⟩ := ry; exact PySem.EqMixed.ne_int_str (fin_bl I q (by simp))
    | _ => exact absurd (show false = true from hs) Bool.false_ne_true
  | str i =>
    obtain ⟨t, rfl⟩ := rx
    cases y with
    | non => cases ry; exact PySem.EqNone.ne_str_none (fin_bl I q (by simp))
    | bl j => cases ry; exact PySem.EqMixed.ne_str_bool (fin_bl I q (by simp))
    | int j => obtain ⟨t', rfl⟩ := ry; exact PySem.EqMixed.ne_str_int (fin_bl I q (by simp))
    | str j => obtain ⟨t', rfl⟩ := ry; exact ne_str (fin_bl I q (congrArg not dec_str))
    | _ => exact absurd (show false = true from hs) Bool.false_ne_true
  | byt i =>
    obtain ⟨t, rfl⟩ := rx
    cases y with
    | byt j => obtain ⟨t', rfl⟩ := ry; exact PySem.W.ne_bytes (fin_bl I q (congrArg not dec_byt))
    | _ => exact absurd (show false = true from hs) Bool.false_ne_true
  | _ => cases y <;> exact absurd (show false = true from hs) Bool.false_ne_true

theorem op_lt : OpR X (compareOp .Lt) (rI0 fun i j => .bl (decide (i < j))) := opB0 fun _ _ _ _ _ _ _ q => lt_int q
theorem op_le : OpR X (compareOp .LtE) (rI0 fun i j => .bl (decide (i ≤ j))) := opB0 fun _ _ _ _ _ _ _ q => le_int q
theorem op_gt : OpR X (compareOp .Gt) (rI0 fun i j => .bl (decide (j < i))) := opB0 fun _ _ _ _ _ _ _ q => gt_int q
theorem op_ge : OpR X (compareOp .GtE) (rI0 fun i j => .bl (decide (j ≤ i))) := opB0 fun _ _ _ _ _ _ _ q => ge_int q
/-- is None, is not None: the right side a value none -/
theorem op_isN : OpR X (compareOp .Is) (fun x y H Q => y = .non ∧ Q (.bl (decide (x = .non))) H) := by
  intro pins s σ H x y v u Q I rx ry h
  obtain ⟨rfl, q⟩ := h
  cases ry
  refine is_none_gen (fin_bl I q ?_)
  cases x <;> first
    | (cases rx; rfl)
    | (obtain ⟨t, rfl⟩ := rx; rfl)
/-- is, is not of two objects that are tracked lists or instances -/
def isObj : HO → Bool
  | .lst _ => true
  | .ins _ _ _ => true
  | _ => false
theorem nomark (b : Expr) {op : CmpOp} (h : op ≠ .In := by decide) (h2 : op ≠ .NotIn := by decide) : behindInMarks op b = false := by
  have e1 : (op == CmpOp.In) = false := by cases op <;> first | rfl | exact absurd rfl h
  have e2 : (op == CmpOp.NotIn) = false := by cases op <;> first | rfl | exact absurd rfl h2
  cases b <;> simp [behindInMarks, e1, e2]
/-- a comparison as a value; hm: nomark b, or (for in, not in) by with_unfolding_all rfl -/
theorem pe_cmpR {op : CmpOp} {r : R2} (ho : OpR X (compareOp op) r) (ha : PE X a ta) (hb : PE X b tb) (hm : behindInMarks op b = false) : PE X (.Compare a [op] [b] pos) (tOp r ta tb) := by
  intro pins s σ H Q I h
  exact wpAny_Compare1 (binT ha hb I h fun v u s2 x y H2 I2 rx ry q => ho pins s2 σ H2 x y v u Q I2 rx ry q) hm
/-- a reading of a value as a test -/
def tTest (t : TE) : TT := fun σ H Q => t σ H fun x H' => ∃ k, x = .bl k ∧ Q k H'
theorem pt_cmpR {op : CmpOp} {r : R2} (ho : OpR X (compareOp op) r) (ha : PE X a ta) (hb : PE X b tb) (hm : behindInMarks op b = false) : PT X (.Compare a [op] [b] pos) (tTest (tOp r ta tb)) := by
  intro pins s σ H Q I h
  refine wpAny_isTrue_Compare1 (thn (ha pins s σ H _ I h) fun v s1 ⟨x, H1, I1, r1, q1⟩ => thn (hb pins s1 σ H1 _ I1 q1) fun u s2 ⟨y, H2, I2, r2, q2⟩ =>
    thn (ho pins s2 σ H2 x y v u _ I2 r1 r2 q2) fun c s3 ⟨z, H3, I3, r3, k, e, q3⟩ => ?_) hm
  subst e
  cases r3
  exact wpAny_truthy_bool ⟨H3, I3, q3⟩
/-- a op1 b op2 c -/
def tChain (r r' : R2) (ta tb tc : TE) : TE := fun σ H Q => ta σ H fun x H1 => tb σ H1 fun y H2 => r x y H2 fun z H3 => ∃ k, z = .bl k ∧
  (if k = true then tc σ H3 fun w' H4 => r' y w' H4 Q else Q (.bl false) H3)
theorem pt_chain {op op' : CmpOp} {r r' : R2} (ho : OpR X (compareOp op) r) (ho' : OpR X (compareOp op') r') (ha : PE X a ta) (hb : PE X b tb) (hc : PE X c tc)
    (hm : lastMarks [op, op'] [b, c] = false := by with_unfolding_all rfl) : PT X (.Compare a [op, op'] [b, c] pos) (tTest (tChain r r' ta tb tc)) := by
  intro pins s σ H Q I h
  refine isTrue_chain (thn (ha pins s σ H _ I h) fun v s1 ⟨x, H1, I1, r1, q1⟩ => test_link (thn (hb pins s1 σ H1 _ I1 q1) fun u s2 ⟨y, H2, I2, r2, q2⟩ =>
    thn (ho pins s2 σ H2 x y v u _ I2 r1 r2 q2) fun d s3 ⟨z, H3, I3, r3, k, e, q3⟩ => ?_)) hm
  subst e
  cases r3
  refine wpAny_truthy_bool ?_
  cases k with
  | false =>
    obtain ⟨k', e', q'⟩ := q3
    cases e'
    exact ite_ff ⟨H3, I3, q'⟩
  | true =>
    refine ite_tt (test_last (thn (hc pins s3 σ H3 _ I3 q3) fun w' s4 ⟨z', H4, I4, r4, q4⟩ => thn (ho' pins s4 σ H4 y z' u w' _ I4 r2 r4 q4) fun d' s5 ⟨z2, H5, I5, r5, k2, e2, q5⟩ => ?_))
    subst e2
    cases r5
    exact wpAny_truthy_bool ⟨H5, I5, q5⟩

/-! ### truth -/
/-- a value's truth by the abstract heap -/
def TruV (K : PySem.W.Frag) (x : V) (H : Hp) (k : Bool) : Prop :=
  match x with
  | .non => k = false
  | .bl b => k = b
  | .int i => k = (i != 0)
  | .str y => y.length ≤ sizeLine ∧ k = ((y.length : Int) != 0)
  | .byt y => y.size ≤ sizeLine ∧ k = ((y.size : Int) != 0)
  | .ref p => (∃ xs, SqL K H p xs ∧ k = !xs.isEmpty) ∨ (∃ xs, SqT K H p xs ∧ k = !xs.isEmpty) ∨ ∃ kvs, H p = some (.dK kvs) ∧ k = !kvs.isEmpty
  | _ => False
theorem isEmpty_kv {κ : Type} {kvs : List (κ × V)} {vs : List (κ × Value)} (r : KV kvs vs) : (!vs.isEmpty) = !kvs.isEmpty := by
  cases r <;> rfl
theorem isEmpty_of {xs : List V} {its : List Value} (r : Vals xs its) : (!its.toArray.isEmpty) = !xs.isEmpty := by
  cases r <;> simp
theorem line63 : (sizeLine : Nat) < 2 ^ 63 := by rw [sizeLine_eq]; decide
theorem tru_ok : TruR X (fun x H Q => ∃ k, TruV X.K x H k ∧ Q k H) := by
  intro pins s σ H x v Q I rx h
  obtain ⟨k, e, q⟩ := h
  have hl := line63
  have hs : sizeLine = 16777216 := sizeLine_eq
  cases x with
  | non =>
    cases rx
    have e' : k = false := e
    subst e'
    exact truthy_none ⟨H, I, q⟩
  | bl b =>
    cases rx
    have e' : k = b := e
    subst e'
    exact wpAny_truthy_bool ⟨H, I, q⟩
  | int i =>
    obtain ⟨t, rfl⟩ := rx
    have e' : k = (i != 0) := e
    subst e'
    exact PySem.P.truthy_int ⟨H, I, q⟩
  | str y =>
    obtain ⟨t, rfl⟩ := rx
    obtain ⟨hy, e'⟩ : y.length ≤ sizeLine ∧ k = ((y.length : Int) != 0) := e
    subst e'
    exact PySem.P.truthy_str (by omega) ⟨H, I.tok _, q⟩
  | byt y =>
    obtain ⟨t, rfl⟩ := rx
    obtain ⟨hy, e'⟩ : y.size ≤ sizeLine ∧ k = ((y.size : Int) != 0) := e
    subst e'
    exact PySem.W.truthy_bytes (by omega) ⟨H, I.tok _, q⟩
  | ref p =>
    cases rx
    have e' : (∃ xs, SqL X.K H p xs ∧ k = !xs.isEmpty) ∨ (∃ xs, SqT X.K H p xs ∧ k = !xs.isEmpty) ∨ ∃ kvs, H p = some (.dK kvs) ∧ k = !kvs.isEmpty := e
    rcases e' with ⟨xs, hx, e'⟩ | ⟨xs, hx, e'⟩ | ⟨kvs, hx, e'⟩
    · subst e'
      obtain ⟨its, r, pl, hz⟩ := I.list hx
      have hlen := r.length
      exact wpAny_truthy_list pl.isList (by simp only [List.size_toArray]; omega) ⟨H, I.tok _, by rw [isEmpty_of r]; exact q⟩
    · subst e'
      obtain ⟨its, r, pl, hz⟩ := I.tuple hx
      have hlen := r.length
      exact truthy_tuple pl (by simp only [List.size_toArray]; omega) ⟨H, I.tok _, by rw [isEmpty_of r]; exact q⟩
    · subst e'
      obtain ⟨hz, hS, vs, r, m⟩ : kvs.length ≤ sizeLine ∧ (p == sysModules) = false ∧ ∃ vs, KV kvs vs ∧ s.heap.DictOf (mixKind X.prog X.w) p vs := I.hok p _ hx
      have hlen : kvs.length = vs.length := Paired.length r
      exact wpAny_truthy_dict hS m (by omega) ⟨H, I.tok _, by rw [isEmpty_kv r]; exact q⟩
  | _ => exact (show False from e).elim
/-- any expression whose test is its value's truth (a name, a call, a subscript, a field ..: he by fun _ => rfl) -/
theorem pt_truth (ha : PE X a ta) (he : ∀ whole, isTrue a X.env whole = (do let v ← whole; standAt a.pos; holding [v] (truthy v))) :
    PT X a (fun σ H Q => ta σ H fun x H' => ∃ k, TruV X.K x H' k ∧ Q k H') := by
  intro pins s σ H Q I h
  exact isTrue_plain (thn (ha pins s σ H _ I h) fun v s1 ⟨x, H1, I1, r1, q1⟩ => tru_ok pins s1 σ H1 x v Q I1 r1 q1) (he _)

/-! ### strs and bytes -/
def PlainIxT (b : Expr) : Prop := ∀ o i, subscripted b false o i = operate [o, i] (getItem o i)
/-! ### scalar builtins, by CallR -/
theorem vals1 {x : V} {us : List Value} (r : Vals [x] us) : ∃ u, us = [u] ∧ RelV x u := by
  cases r with
  | cons r1 r2 => cases r2; exact ⟨_, rfl, r1⟩
theorem vals2 {x y : V} {us : List Value} (r : Vals [x, y] us) : ∃ u w', us = [u, w'] ∧ RelV x u ∧ RelV y w' := by
  cases r with
  | cons r1 r2 =>
    cases r2 with
    | cons r3 r4 => cases r4; exact ⟨_, _, rfl, r1, r3⟩
theorem call_abs : CallR X (.builtin "abs") (fun xs H Q => ∃ i, xs = [.int i] ∧ Q (.int (if i < 0 then -i else i)) H) := by
  intro pins s σ H xs us Q I r h
  obtain ⟨i, rfl, q⟩ := h
  obtain ⟨u, rfl, t, rfl⟩ := vals1 r
  exact call_abs_int fun u tk => ⟨.int (if i < 0 then -i else i), H, I.tok _, ⟨_, rfl⟩, q⟩
theorem call_max2 (hc : X.calm = true) : CallR X (.builtin "max") (fun xs H Q => ∃ i j, xs = [.int i, .int j] ∧ Q (.int (if j > i then j else i)) H) := by
  intro pins s σ H xs us Q I r h
  obtain ⟨i, j, rfl, q⟩ := h
  obtain ⟨u, w', rfl, ⟨t, rfl⟩, ⟨t', rfl⟩⟩ := vals2 r
  refine max_two_ints (I.ok.hd hc) fun h' tk k => ⟨_, H, I.kept k, ?_, q⟩
  by_cases hj : j > i
  · rw [if_pos hj, if_pos hj]; exact ⟨_, rfl⟩
  · rw [if_neg hj, if_neg hj]; exact ⟨_, rfl⟩
theorem call_min2 (hc : X.calm = true) : CallR X (.builtin "min") (fun xs H Q => ∃ i j, xs = [.int i, .int j] ∧ Q (.int (if j < i then j else i)) H) := by
  intro pins s σ H xs us Q I r h
  obtain ⟨i, j, rfl, q⟩ := h
  obtain ⟨u, w', rfl, ⟨t, rfl⟩, ⟨t', rfl⟩⟩ := vals2 r
  refine min_two_ints (I.ok.hd hc) fun h' tk k => ⟨_, H, I.kept k, ?_, q⟩
  by_cases hj : j < i
  · rw [if_pos hj, if_pos hj]; exact ⟨_, rfl⟩
  · rw [if_neg hj, if_neg hj]; exact ⟨_, rfl⟩
/-- len of a str, a bytes, a list, a tuple -/
def LenV (K : PySem.W.Frag) (x : V) (H : Hp) (n : Nat) : Prop :=
  match x with
  | .str y => y.length ≤ sizeLine ∧ n = y.length
  | .byt y => y.size ≤ sizeLine ∧ n = y.size
  | .ref p => (∃ xs, SqL K H p xs ∧ n = xs.length) ∨ ∃ xs, SqT K H p xs ∧ n = xs.length
  | _ => False
end
end L2

namespace L2
open PySem PySem.Spec PyProof.Rows

/-! ### an instance, its attributes a map -/
structure ObjM (h : Heap) (x dx C : Addr) (mA : Str → Option Value) : Prop where
  obj : h.get? x = some (PySem.W.instObj C dx)
  ns : h.Ns1 dx mA
  ne : dx ≠ x

section
variable {prog : Program} {w : World} {A : Around} {E : Value → Shared → Prop} {s : Shared} {K : PySem.W.Frag} {x dx C f : Addr} {mA : Str → Option Value} {name : Str} {v : Value}

end

/-! ### the attributes as a list of pairs -/
def putF (f : Str) (v : V) : List (Str × V) → List (Str × V)
  | [] => [(f, v)]
  | (g, x) :: r => if g = f then (g, v) :: r else (g, x) :: putF f v r
section
variable {P : Program} {w : World} {H H' : Hp} {h h' : Heap} {a C dx : Addr} {fs fs' : List (Str × V)}
end

/-! ### what of the text a class must have -/
structure Cls (K : PySem.W.Frag) (C : Addr) : Prop where
  pg : PySem.W.plainGet K C Str.empty = true
  hd : PySem.W.hasDictIn K C = true
  po : PySem.W.plainOver K C = true
  sa : PySem.W.findIn K (.ref C) "__setattr__" = some (some (.builtin "object.__setattr__"))
/-- no class of it has the name -/
def NoAttr (K : PySem.W.Frag) (C : Addr) (f : Str) : Prop := PySem.W.findIn K (.ref C) f = some none
/-- a constant of the class -/
structure Con (K : PySem.W.Frag) (C : Addr) (f : Str) (v : V) (u : Value) : Prop where
  at_ : PySem.W.findIn K (.ref C) f = some (some u)
  rel : RelV v u
  get : PySem.W.specialIn K u "__get__" = some none
  cp : PySem.W.copiedNames.contains f = false
/-- a method: a plain def of the class or of one above it -/
structure Meth (K : PySem.W.Frag) (C : Addr) (m : Str) (f : Addr) : Prop where
  at_ : PySem.W.findIn K (.ref C) m = some (some (.ref f))
  fn : PySem.W.isFn K (.ref f) = true
  kp : PySem.W.keepIn K (.ref f) = true

section
variable {X : Cx} {pins : List (Addr × Obj)} {σ : St} {H : Hp} {s : Shared} {a C dx : Addr} {fs : List (Str × V)} {f : Str} {v : V} {A : Around} {E : Value → Shared → Prop}

end

/-! ### readings and rules -/
/-- e.f, an attribute of the instance -/
def tFld (K : PySem.W.Frag) (ta : TE) (f : Str) : TE := fun σ H Q => ta σ H fun x H1 => ∃ a C dx fs v, x = .ref a ∧ H1 a = some (.ins C dx fs) ∧ Cls K C ∧ NoAttr K C f ∧ fs.lookup f = some v ∧ Q v H1
/-- e.f, a constant of the class -/
def tCon (K : PySem.W.Frag) (ta : TE) (f : Str) : TE := fun σ H Q => ta σ H fun x H1 => ∃ a C dx fs v u, x = .ref a ∧ H1 a = some (.ins C dx fs) ∧ Cls K C ∧ Con K C f v u ∧ fs.lookup f = none ∧ Q v H1
/-- e.f = value -/
def sFld (K : PySem.W.Frag) (ta tv : TE) (f : Str) : TS := fun D σ H => tv σ H fun y H1 => ta σ H1 fun x H2 => ∃ a C dx fs, x = .ref a ∧ H2 a = some (.ins C dx fs) ∧ Cls K C ∧ NoAttr K C f ∧ fs.length < 1000 ∧
  D.nx σ (upd H2 a (.ins C dx (putF f y fs)))
/-- an augmented operator on two values -/
def InOp (X : Cx) (op : Operator) (rd : V → V → Hp → VK → Prop) : Prop :=
  ∀ (pins : List (Addr × Obj)) (s : Shared) (σ : St) (H : Hp) (x y : V) (u v : Value) (Q : VK), Inv X pins σ H s → RelV x u → RelV y v → rd x y H Q → wpAny (model X.prog X.w) X.A (inplaceOp op u v) (EP X pins σ Q) X.xe s
/-- e.f op= value -/
def sFldAug (K : PySem.W.Frag) (ta tv : TE) (rd : V → V → Hp → VK → Prop) (f : Str) : TS := fun D σ H => ta σ H fun x H1 => ∃ a C dx fs v, x = .ref a ∧ H1 a = some (.ins C dx fs) ∧ Cls K C ∧ NoAttr K C f ∧ fs.lookup f = some v ∧
  tv σ H1 fun y H2 => rd v y H2 fun z H3 => ∃ dx' fs', H3 a = some (.ins C dx' fs') ∧ fs'.length < 1000 ∧ D.nx σ (upd H3 a (.ins C dx' (putF f z fs')))

section
variable {X : Cx} {o e value : Expr} {f : Str} {pos pos' tpos : Pos} {ta tv : TE}
def rAdd : V → V → Hp → VK → Prop := fun x y H Q => ∃ i j, x = .int i ∧ y = .int j ∧ Q (.int (i + j)) H
def rSub : V → V → Hp → VK → Prop := fun x y H Q => ∃ i j, x = .int i ∧ y = .int j ∧ Q (.int (i - j)) H
end

/-! ### isinstance -/
section
variable {X : Cx} {pins : List (Addr × Obj)} {σ : St} {H : Hp} {s : Shared} {A : Around} {E : Value → Shared → Prop} {Q : Value → Shared → Prop} {c : Value} {b : Bool}
/-- the type of a value, as the fragment's deciders take it; for an instance its class -/
inductive TyOf (K : PySem.W.Frag) (H : Hp) : V → Value → Prop where
  | non : TyOf K H .non (.type "NoneType")
  | bl (x : Bool) : TyOf K H (.bl x) (.type "bool")
  | int (i : Int) : TyOf K H (.int i) (.type "int")
  | str (x : Str) : TyOf K H (.str x) (.type "str")
  | flt (x : UInt64) : TyOf K H (.flt x) (.type "float")
  | lst {a : Addr} {xs : List V} (e : H a = some (.lst xs)) : TyOf K H (.ref a) (.type "list")
  | frz {a : Addr} {o : Obj} {xs : List V} (e : H a = some (.frz o (.lst xs))) : TyOf K H (.ref a) (.type "list")
  | tup {a : Addr} {xs : List V} (e : H a = some (.tup xs)) : TyOf K H (.ref a) (.type "tuple")
  | dK {a : Addr} {kvs : List (Key × V)} (e : H a = some (.dK kvs)) : TyOf K H (.ref a) (.type "dict")
  | dT {a : Addr} {kvs : List (List Key × V)} (e : H a = some (.dT kvs)) : TyOf K H (.ref a) (.type "dict")
  | ins {a C dx : Addr} {fs : List (Str × V)} (e : H a = some (.ins C dx fs)) (cl : Cls K C) (ha : PySem.W.findIn K (.ref C) "__class__" = some (some (.builtin "object.__class__")))
      (hn : PySem.W.specialIn K (.builtin "object.__class__") "__get__" = some (some (.builtin "getset_descriptor.__get__"))) (htk : PySem.W.takesIn K (.builtin "object.__class__") = some true)
      (hm : PySem.W.mroIn K C (.type "object") = some true) : TyOf K H (.ref a) (.ref C)
end
end L2

namespace L2
open PySem PySem.Spec PyProof.Rows

/-! ### room -/
structure Room (k : Nat) (A : Around) : Prop where
  hd : A.handled = none
  dp : A.depth + 3 * k + 5 < recursionLimit
  un : A.units + 16 * k + 200 < cLine
theorem Room.mono {j k : Nat} {A : Around} (r : Room k A) (h : j ≤ k) : Room j A := ⟨r.hd, by have := r.dp; omega, by have := r.un; omega⟩
theorem Room.deeper {k : Nat} {A : Around} (r : Room (k + 1) A) (env : Env) : Room k (A.deeper env) :=
  ⟨r.hd, by have := r.dp; show A.depth + 1 + 3 * k + 5 < _; omega, by have := r.un; show A.units + 3 + 16 * k + 200 < _; omega⟩
theorem Room.depth {k : Nat} {A : Around} (r : Room k A) : A.depth < recursionLimit := by have := r.dp; omega
/-! ### argument lists and displays -/
def tNil : TA := fun _ H Q => Q [] H
def tCons (ta : TE) (tr : TA) : TA := fun σ H Q => ta σ H fun x H1 => tr σ H1 fun xs H2 => Q (x :: xs) H2
section
variable {X : Cx} {e : Expr} {es : List Expr} {te : TE} {t : TA} {pos : Pos}
theorem pa_nil : PA X [] tNil := fun _ _ _ _ H Q I h => Calls.spliced_nil ⟨[], H, I, .nil, h⟩
theorem pa_cons (ha : PE X e te) (hr : PA X es t) (hs : starEach (e :: es) X.env = (false, eval e X.env) :: starEach es X.env := by rfl) : PA X (e :: es) (tCons te t) := by
  intro pos pins s σ H Q I h
  rw [hs]
  show wpAny _ _ (spliced ((false, eval e X.env) :: backTo pos (starEach es X.env))) _ _ s
  refine Calls.spliced_cons (thn (ha pins s σ H _ I h) fun u s1 ⟨x, H1, I1, r1, q1⟩ => ?_)
  exact thn (hr pos pins s1 σ H1 _ I1 q1) fun us s2 ⟨xs, H2, I2, r2, q2⟩ => ⟨x :: xs, H2, I2, .cons r1 r2, q2⟩

/-- a tuple, a list of written items -/
def tTup (t : TA) : TE := fun σ H Q => t σ H fun xs H1 => xs.length ≤ sizeLine ∧ ∀ p, H1 p = none → Q (.ref p) (upd H1 p (.tup xs))
def tLst (t : TA) : TE := fun σ H Q => t σ H fun xs H1 => xs.length ≤ sizeLine ∧ ∀ p, H1 p = none → Q (.ref p) (upd H1 p (.lst xs))
theorem pe_tup {x1} (h : PA X es t) : PE X (.Tuple es x1 pos) (tTup t) := by
  intro pins s σ H Q I hq
  refine wpAny_Tuple_spliced (thn (h pos pins s σ H _ I hq) fun us s1 ⟨xs, H1, I1, r, z, q⟩ => ⟨by rw [← r.length]; exact z, ?_⟩)
  have hf : H1 s1.heap.objs.size = none := I1.hok.fresh (Nat.le_refl _)
  refine ⟨.ref s1.heap.objs.size, upd H1 s1.heap.objs.size (.tup xs), I1.laid (t' := s1.toks) (fun b u e => Heap.get?_push_of_some _ e) (Nat.le_refl _) ?_, rfl, q _ hf⟩
  exact ⟨z, us, r, ⟨_, Heap.get?_push_size _ rfl, rfl, _, rfl⟩⟩
theorem pe_lst (h : PA X es t) : PE X (.List es pos) (tLst t) := by
  intro pins s σ H Q I hq
  refine wpAny_List_spliced (thn (h pos pins s σ H _ I hq) fun us s1 ⟨xs, H1, I1, r, z, q⟩ => ⟨by rw [← r.length]; exact z, ?_⟩)
  have hf : H1 s1.heap.objs.size = none := I1.hok.fresh (Nat.le_refl _)
  refine ⟨.ref s1.heap.objs.size, upd H1 s1.heap.objs.size (.lst xs), I1.laid (t' := s1.toks) (fun b u e => Heap.get?_push_of_some _ e) (Nat.le_refl _) ?_, rfl, q _ hf⟩
  exact ⟨z, us, 0, r, Heap.get?_push_size _ rfl⟩
end

/-! ### what a def promises -/
/-- a def's promise: the bound arguments in the parameters' order, the heap, the wanted end, the wanted exception -/
abbrev Sp := List V → Hp → VK → XK → Prop
/-- how an exception lies behind a call (file 08 gives it): the callers' frames, abstract heap and state ahead of the call, the wish, the exception, the state -/
abbrev CXT := List Env → Hp → Shared → XK → Value → Shared → Prop

/-- the state at a call -/
structure Env0 (P : Program) (w : World) (K : PySem.W.Frag) (mg : Str → Option Value) (base : Heap) (A : Around) (outer : List Env) (s : Shared) (H : Hp) : Prop where
  frames : A.frames = some outer
  mod : Mod K mg base
  bs : ∀ b o, base.get? b = some o → s.heap.get? b = some o ∧ H b = none
  bsz : base.objs.size ≤ s.heap.objs.size
  funs : s.heap.FunFrames base outer
  frf : ∀ b ∈ frs outer, H b = none
  hok : HOk P w H s.heap
  bare : AllBare s.gens
/-- a call's end -/
def CE (outer : List Env) (P : Program) (w : World) (H : Hp) (s : Shared) (Q : VK) (u : Value) (s' : Shared) : Prop :=
  ∃ v H', s'.os = s.os ∧ AllBare s'.gens ∧ Un (frs outer) [] H H' s.heap s'.heap ∧ HOk P w H' s'.heap ∧ RelV v u ∧ Q v H'
def CR (CX : CXT) (outer : List Env) (P : Program) (w : World) (H : Hp) (s : Shared) (Q : VK) (E : XK) (r : Result) (s' : Shared) : Prop :=
  match r with
  | .ok (.ret u) => CE outer P w H s Q u s'
  | .ok _ => False
  | .error e => CX outer H s E e s'
structure FnOk (P : Program) (w : World) (K : PySem.W.Frag) (mg : Str → Option Value) (base : Heap) (CX : CXT) (k : Nat) (f : Addr) (fd : FuncData) (ps : List Str) (sp : Sp) : Prop where
  len : ∀ vs H Q E, sp vs H Q E → vs.length = ps.length
  run : ∀ (A : Around) (outer : List Env) (s : Shared) (H : Hp) (args : Args) (us : List Value) (vs : List V) (Q : VK) (E : XK), Room k A → Env0 P w K mg base A outer s H → BindsTo s fd args (ps.zip us) → Vals vs us → sp vs H Q E →
    codeAny (model P w) A (.call (.ref f) args) (CR CX outer P w H s Q E) s
section
variable {X : Cx} {pins : List (Addr × Obj)} {σ : St} {H : Hp} {s s' : Shared}
/-- from a body: what a callee wants -/
theorem Inv.env0 (I : Inv X pins σ H s) : Env0 X.prog X.w X.K X.mg X.base X.A X.stack s H :=
  ⟨I.ok.frames, I.ok.mod, I.bs, Nat.le_trans I.ok.bsz I.sz, I.stack, I.stkFree, I.hok, I.bare⟩
/-- behind a call -/
theorem Inv.after {Q : VK} {u : Value} (I : Inv X pins σ H s) (h : CE X.stack X.prog X.w H s Q u s') : EP X pins σ Q u s' := by
  obtain ⟨v, H', os, bare, un, hok, r, q⟩ := h
  obtain ⟨hh, g, d, t, os'⟩ := s'
  obtain rfl : os' = s.os := os
  exact ⟨v, H', I.call (h' := hh) (g' := g) (d' := d) (t' := t) (ch := []) un hok bare (fun b z => absurd z (by simp)), r, q⟩
end

/-! ### calls -/
/-- f(..): the written arguments, then the defaults dvs; E: what is wanted of an exception -/
def tCall (sp : Sp) (dvs : List V) (E : XK) (t : TA) : TE := fun σ H Q => t σ H fun vs H1 => sp (vs ++ dvs) H1 Q E
/-- o.m(..) of an instance of the class at C -/
def tMeth (C : Addr) (m : Str) (sp : Sp) (dvs : List V) (E : XK) (ta : TE) (t : TA) : TE := fun σ H Q => ta σ H fun x H1 => ∃ a dx fs, x = .ref a ∧ H1 a = some (.ins C dx fs) ∧ fs.lookup m = none ∧
  t σ H1 fun vs H2 => sp (x :: (vs ++ dvs)) H2 Q E
/-- C(..): a new instance and its dict, then __init__ -/
def tMake (C : Addr) (sp : Sp) (dvs : List V) (E : XK) (t : TA) : TE := fun σ H Q => t σ H fun vs H1 => ∀ x dx, H1 x = none → H1 dx = none → dx ≠ x →
  sp (.ref x :: (vs ++ dvs)) (upd (upd H1 dx (.own x)) x (.ins C dx [])) (fun v H2 => v = .non ∧ Q (.ref x) H2) E

/-- how the parameters are bound: us the positional arguments, kw the keywords' values by name, ds the defaults that fill up -/
def Binds (K : PySem.W.Frag) (fd : FuncData) (ps : List Str) (ds : List Value) : Prop :=
  ∀ (s : Shared) (us : List Value), K.In s.heap → (us ++ ds).length = ps.length → BindsTo s fd ⟨us, []⟩ (ps.zip (us ++ ds))
/-- every parameter is given -/
theorem Binds.all {K : PySem.W.Frag} {fd : FuncData} {ps : List Str} (h : ∀ us : List Value, us.length = ps.length → bindArgs fd ⟨us, []⟩ = pure (ps.zip us)) : Binds K fd ps [] := fun s us _ hl => by
  rw [List.append_nil] at hl ⊢
  exact .of_eq (h us hl)

/-- an exception of a callee reaches what this body wants of exceptions -/
def Passes (CX : CXT) (X : Cx) (E : XK) : Prop := ∀ (pins : List (Addr × Obj)) (σ : St) (H : Hp) (s : Shared) (e : Value) (s' : Shared), Inv X pins σ H s → CX X.stack H s E e s' → X.xe e s'

section
variable {X : Cx} {CX : CXT} {k : Nat} {f C : Addr} {fd : FuncData} {ps : List Str} {sp : Sp} {dvs : List V} {ds : List Value} {E : XK} {x m : Str} {p pos apos : Pos} {e o : Expr} {es : List Expr} {ta : TE} {t : TA}

/-- the callee runs -/
theorem run_fn {pins : List (Addr × Obj)} {σ : St} {H : Hp} {s : Shared} {Q : VK} {us : List Value} {vs : List V} (F : FnOk X.prog X.w X.K X.mg X.base CX k f fd ps sp) (hr : Room k X.A) (hb : Binds X.K fd ps ds) (hd : Vals dvs ds) (hx : Passes CX X E)
    (I : Inv X pins σ H s) (r : Vals vs us) (h : sp (vs ++ dvs) H Q E) : wpAny (model X.prog X.w) X.A (call (.ref f) us) (EP X pins σ Q) X.xe s := by
  have r2 : Vals (vs ++ dvs) (us ++ ds) := r.append hd
  have hl : (us ++ ds).length = ps.length := by rw [← r2.length]; exact F.len _ _ _ _ h
  refine wpAny_call (codeAny_mono (F.run X.A X.stack s H ⟨us, []⟩ (us ++ ds) (vs ++ dvs) Q E hr I.env0 (hb s us I.kIn hl) r2 h) fun r s' hq => ?_)
  cases r with
  | error e => exact hx pins σ H s e s' I hq
  | ok fl =>
    cases fl with
    | ret u => exact I.after hq
    | next => exact False.elim hq
    | brk => exact False.elim hq
    | cont => exact False.elim hq

theorem pe_call (F : FnOk X.prog X.w X.K X.mg X.base CX k f fd ps sp) (hr : Room k X.A) (hg : Gl X x) (hm : X.mg x = some (.ref f)) (hk : PySem.W.keepIn X.K (.ref f) = true) (hb : Binds X.K fd ps ds) (hd : Vals dvs ds) (hx : Passes CX X E)
    (ha : PA X (e :: es) t) (hdb : (x == ("__debug__" : Str)) = false := by decide) (he : starEach (e :: es) X.env = (false, eval e X.env) :: starEach es X.env := by rfl) (hpl : (backTo pos (starEach es X.env)).any (·.1) = false := by rfl) :
    PE X (.Call (.Name x p) (e :: es) [] pos) (tCall sp dvs E t) := by
  intro pins s σ H Q I h
  refine wpAny_Call_Name_kw (ld_glob I hg hm ?_ hdb)
  refine PySem.W.callWith_K (h₀ := X.base) I.ok.mod.kin hk (thn (ha pos pins s σ H _ I h) fun us s1 ⟨vs, H1, I1, r, q⟩ => ⟨I1.kIn, ?_⟩) he hpl
  exact run_fn F hr hb hd hx I1 r q
/-- what a class must have to be made -/
structure Mk (K : PySem.W.Frag) (C f : Addr) : Prop where
  makes : PySem.W.makesIn K C = true
  init : PySem.W.findIn K (.ref C) "__init__" = some (some (.ref f))
  fn : PySem.W.isFn K (.ref f) = true
  kp : PySem.W.keepIn K (.ref C) = true

end

/-! ### keywords -/
/-- the values of the keywords, from the left -/
def PK (X : Cx) (kws : List Keyword) (t : TA) : Prop :=
  ∀ (pos : Pos) (pins : List (Addr × Obj)) (s : Shared) (σ : St) (H : Hp) (Q : List V → Hp → Prop), Inv X pins σ H s → t σ H Q → wpAny (model X.prog X.w) X.A (evalAll ((backToKw pos (keywordEach kws X.env)).map (·.2))) (AP X pins σ Q) X.xe s
section
variable {X : Cx} {CX : CXT} {k : Nat} {f C : Addr} {fd : FuncData} {ps ks : List Str} {sp : Sp} {E : XK} {x m : Str} {p pos apos kpos : Pos} {e o : Expr} {es : List Expr} {kws : List Keyword} {te ta : TE} {t tk : TA} {nm : Option Str}
/-- how a call with keywords binds: g puts the positional values us and the keywords' values ws (names ks) in the parameters' order, defaults among them -/
structure KBinds (K : PySem.W.Frag) (fd : FuncData) (ps ks : List Str) (g : List Value → List Value → List Value) (gV : List V → List V → List V) : Prop where
  to : ∀ (s : Shared) (us ws : List Value), K.In s.heap → (g us ws).length = ps.length → BindsTo s fd ⟨us, ks.zip ws⟩ (ps.zip (g us ws))
  rel : ∀ {vs : List V} {us : List Value} {zs : List V} {ws : List Value}, Vals vs us → Vals zs ws → Vals (gV vs zs) (g us ws)
def tCallK (sp : Sp) (gV : List V → List V → List V) (E : XK) (t tk : TA) : TE := fun σ H Q => t σ H fun vs H1 => tk σ H1 fun zs H2 => sp (gV vs zs) H2 Q E
variable {g : List Value → List Value → List Value} {gV : List V → List V → List V}
end

/-! ### a def's body keeps its promise -/
/-- names: the parameters first -/
structure FnScope (N P : List Str) (sc : Scope) : Prop where
  kind : sc.kind = .function
  co : sc.isCoroutine = false
  gen : sc.isGenerator = false
  nd : N.Nodup
  pre : N.take P.length = P
  par : ∀ x ∈ P, sc.names.lookup x = some .local ∨ sc.names.lookup x = some .cell
  nofree : ∀ y ∈ sc.names, y.2 ≠ .free

theorem bindL_out {kindOf : Str → Option NameKind} {x : Str} : ∀ {binds : List (Str × Value)} {m : Str → Option Value}, (∀ v, (x, v) ∉ binds) → bindL kindOf binds m x = m x
  | [], _, _ => rfl
  | (n, v) :: r, m, h => by
    unfold bindL
    rw [bindL_out fun w hw => h w (List.mem_cons_of_mem _ hw)]
    split
    · have : x ≠ n := by rintro rfl; exact h v List.mem_cons_self
      simp [this]
    · rfl
theorem bindC_out {kindOf : Str → Option NameKind} {x : Str} : ∀ {binds : List (Str × Value)} {m : Str → Option Value}, (∀ v, (x, v) ∉ binds) → bindC kindOf binds m x = m x
  | [], _, _ => rfl
  | (n, v) :: r, m, h => by
    unfold bindC
    rw [bindC_out fun w hw => h w (List.mem_cons_of_mem _ hw)]
    split
    · rfl
    · have : x ≠ n := by rintro rfl; exact h v List.mem_cons_self
      simp [this]
theorem bindL_get {kindOf : Str → Option NameKind} {x : Str} {v : Value} : ∀ {P : List Str} {vs : List Value} {i : Nat} {m : Str → Option Value}, P.Nodup → P[i]? = some x → vs[i]? = some v → kindOf x = some .local →
    bindL kindOf (P.zip vs) m x = some v
  | [], _, _, _, _, h, _, _ => by simp at h
  | _ :: _, [], _, _, _, _, h, _ => by simp at h
  | p :: P, w :: vs, 0, m, nd, h1, h2, hk => by
    simp at h1 h2; subst h1; subst h2
    show bindL kindOf ((p, w) :: P.zip vs) m p = _
    unfold bindL
    rw [bindL_out fun v hv => (List.nodup_cons.mp nd).1 (List.of_mem_zip hv).1, if_pos hk]
    simp
  | p :: P, w :: vs, i + 1, m, nd, h1, h2, hk => by
    show bindL kindOf ((p, w) :: P.zip vs) m x = _
    unfold bindL
    exact bindL_get (i := i) (List.nodup_cons.mp nd).2 (by simpa using h1) (by simpa using h2) hk
theorem bindC_get {kindOf : Str → Option NameKind} {x : Str} {v : Value} : ∀ {P : List Str} {vs : List Value} {i : Nat} {m : Str → Option Value}, P.Nodup → P[i]? = some x → vs[i]? = some v → kindOf x ≠ some .local →
    bindC kindOf (P.zip vs) m x = some v
  | [], _, _, _, _, h, _, _ => by simp at h
  | _ :: _, [], _, _, _, _, h, _ => by simp at h
  | p :: P, w :: vs, 0, m, nd, h1, h2, hk => by
    simp at h1 h2; subst h1; subst h2
    show bindC kindOf ((p, w) :: P.zip vs) m p = _
    unfold bindC
    rw [bindC_out fun v hv => (List.nodup_cons.mp nd).1 (List.of_mem_zip hv).1, if_neg hk]
    simp
  | p :: P, w :: vs, i + 1, m, nd, h1, h2, hk => by
    show bindC kindOf ((p, w) :: P.zip vs) m x = _
    unfold bindC
    exact bindC_get (i := i) (List.nodup_cons.mp nd).2 (by simpa using h1) (by simpa using h2) hk

/-- the names' values at the entry -/
def start (N : List Str) (vs : List V) : St := vs.map some ++ List.replicate (N.length - vs.length) none

/-- the context of a def's body, at its entry; an exception leaves the frame, then lies as CX says -/
def cxOf (CX : CXT) (P : Program) (w : World) (K : PySem.W.Frag) (mg : Str → Option Value) (base : Heap) (N : List Str) (qual : Str) (scope : Scope) (f : Addr) (cd : Value) (A : Around) (outer : List Env) (s : Shared) (H : Hp) (E : XK) : Cx where
  prog := P
  w := w
  K := K
  mg := mg
  base := base
  A := A.deeper (envOfC qual scope s.heap.objs.size f cd)
  N := N
  s₀ := s
  H₀ := H
  env := envOfC qual scope s.heap.objs.size f cd
  outer := outer
  stack := envOfC qual scope s.heap.objs.size f cd :: outer
  ex := []
  calm := true
  fn := fun _ => true
  pn := []
  xe := fun e s' => wpAny (model P w) (A.deeper (envOfC qual scope s.heap.objs.size f cd)) (leaving (envOfC qual scope s.heap.objs.size f cd) e) (fun _ s'' => CX outer H s E e s'') (fun e' s'' => CX outer H s E e' s'') s'

theorem cell_has {sc : Scope} {n : Nat} {x : Str} (h : sc.names.lookup x = some .cell) : ∃ c, (cellsFrom n sc.names []).lookup x = some c := by
  have q := PySem.W.cellsFrom_some sc.names n [] (.inl h)
  exact Option.isSome_iff_exists.mp q

theorem inv_start {CX : CXT} {P : Program} {w : World} {K : PySem.W.Frag} {mg : Str → Option Value} {base : Heap} {N ps : List Str} {qual : Str} {scope : Scope} {f : Addr} {cd : Value} {A : Around} {outer : List Env} {s s1 : Shared} {H : Hp} {E : XK} {us : List Value} {vs : List V}
    (S : FnScope N ps scope) (hd : A.handled = none) (e0 : Env0 P w K mg base A outer s H) (hl : vs.length = ps.length) (r : Vals vs us)
    (x : InCallC s s.heap.objs.size (bindL (envOfC qual scope s.heap.objs.size f cd).kindOf (ps.zip us) fun _ => none) (cellsFrom (s.heap.objs.size + 1) scope.names []) (bindC (envOfC qual scope s.heap.objs.size f cd).kindOf (ps.zip us) fun _ => none) s1) :
    Inv (cxOf CX P w K mg base N qual scope f cd A outer s H E) [] (start N vs) H s1 := by
  have hpl : ps.length ≤ N.length := by have := congrArg List.length S.pre; rw [List.length_take] at this; omega
  obtain ⟨h1, tk, rfl, hk⟩ := x.done
  have noA : ∀ b : Addr, b ∉ (cxOf CX P w K mg base N qual scope f cd A outer s H E).ex := fun b z => absurd (show b ∈ ([] : List Addr) from z) (by simp)
  refine ⟨⟨e0.mod, S.kind, rfl, rfl, Nat.le_refl _, fun y z c h1 h2 => ?_, fun y hy => ?_, fun y c _ h => ?_, fun _ => hd, Around.frames_deeper e0.frames, .inr ⟨rfl, rfl⟩, fun b z => absurd z (noA b), e0.bs, e0.bsz, fun b _ _ => noA b, fun b z => absurd z (noA b), e0.funs, e0.frf⟩,
    rfl, e0.bare, Un.kept hk, ⟨_, x.toInCall.ns, fun i y v h1 h2 h3 => ?_⟩, fun y c h => ⟨_, x.cell y c h⟩, e0.hok.fresh (Nat.le_refl _), fun y c h => ?_, fun p hp => absurd (show p ∈ ([] : List (Addr × Obj)) from hp) (by simp), e0.hok.kept hk, ?_⟩
  · exact name_of_addr x.apart (PySem.mem_of_lookup h1) (PySem.mem_of_lookup h2)
  · have hy : scope.names.lookup y = some .cell ∨ scope.names.lookup y = some .free := hy
    rcases hy with hy | hy
    · exact cell_has hy
    · exact absurd rfl (S.nofree _ (PySem.mem_of_lookup hy))
  · exact Nat.le_of_lt (x.above y c (PySem.mem_of_lookup h))
  · have hi : i < vs.length := by
      unfold start at h2
      by_cases hi : i < vs.length
      · exact hi
      · rw [List.getElem?_append_right (by simpa using hi)] at h2
        rw [List.getElem?_replicate] at h2
        split at h2 <;> cases h2
    have ha : vs[i]? = some v := by
      unfold start at h2
      rw [List.getElem?_append_left (by simpa using hi), List.getElem?_map] at h2
      cases e : vs[i]? with
      | none => rw [e] at h2; cases h2
      | some a => rw [e] at h2; cases h2; rfl
    obtain ⟨u, hu, rv⟩ := r.get ha
    have hp : ps[i]? = some y := by
      rw [← S.pre, List.getElem?_take_of_lt (by omega)]; exact h1
    have ndP : ps.Nodup := by rw [← S.pre]; exact S.nd.sublist (List.take_sublist _ _)
    refine ⟨u, rv, ?_⟩
    rcases S.par y (List.mem_of_getElem? hp) with k | k
    · exact .inl ⟨k, bindL_get ndP hp hu k⟩
    · obtain ⟨c, e⟩ := cell_has (n := s.heap.objs.size + 1) k
      refine .inr ⟨.inl k, c, e, ?_⟩
      have q := x.cell y c e
      rw [bindC_get ndP hp hu (by show scope.names.lookup y ≠ _; rw [k]; decide)] at q
      exact q
  · exact e0.hok.fresh (Nat.le_of_lt (x.above y c (PySem.mem_of_lookup h)))
  · unfold start
    show _ = N.length
    rw [List.length_append, List.length_map, List.length_replicate]
    omega

/-- THE RULE: a def (or a method) of the text, by its body. The body's reading t is chosen for each entry; it is run at the parameters' values -/
theorem fn_of {CX : CXT} {P : Program} {w : World} {K : PySem.W.Frag} {mg : Str → Option Value} {base : Heap} {k : Nat} {f : Addr} {name qual : Str} {params : Arguments} {body : List Stmt} {scope : Scope} {dV kV doc pm cdv ct oc : Value} {an od : Option Addr}
    {osl : Array (Option Value)} {N ps : List Str} {sp : Sp} (lk : K.lookup f = some ⟨oc, od, .func (PySem.W.fnOf name qual params body scope dV kV doc pm an cdv ct), osl⟩) (hcd : PySem.W.codeIn K cdv qual = true) (S : FnScope N ps scope)
    (len : ∀ vs H Q E, sp vs H Q E → vs.length = ps.length)
    (hbody : ∀ (A : Around) (outer : List Env) (s : Shared) (H : Hp) (vs : List V) (Q : VK) (E : XK), Room k (A.deeper (envOfC qual scope s.heap.objs.size f cdv)) → sp vs H Q E →
      ∃ t, PSs (cxOf CX P w K mg base N qual scope f cdv A outer s H E) body t ∧ t { nx := fun _ H' => Q .non H', rt := Q } (start N vs) H) :
    FnOk P w K mg base CX (k + 1) f (PySem.W.fnOf name qual params body scope dV kV doc pm an cdv ct) ps sp := by
  refine ⟨len, fun A outer s H args us vs Q E hr e0 hb r hsp => ?_⟩
  have hl := len _ _ _ _ hsp
  have KX : K.In s.heap := e0.mod.kin.keeps fun b o e => (e0.bs b o e).1
  have lim : s.heap.NoLimit := e0.mod.nolimit.keeps fun b o e => (e0.bs b o e).1
  have hkind : ∀ y ∈ ps.zip us, scope.names.lookup y.1 = some .local ∨ (scope.names.lookup y.1 = some .cell ∧ ((cellsFrom (s.heap.objs.size + 1) scope.names []).lookup y.1).isSome = true) := fun ⟨n, v⟩ hy => by
    rcases S.par n (List.of_mem_zip hy).1 with q | q
    · exact .inl q
    · exact .inr ⟨q, PySem.W.cellsFrom_some _ _ _ (.inl q)⟩
  refine codeAny_call_function hr.depth (KX _ _ lk) rfl S.co S.gen rfl (PySem.W.codeRec_of KX hcd) (hb _ _ _ _ ?_)
  refine wpAny_newFunctionEnv_cells S.kind hkind fun env he s1 x => ?_
  subst he
  refine ⟨lim.keeps x.toInCall.keep, codeAny_func ?_⟩
  obtain ⟨t, ht, hq⟩ := hbody A outer s H vs Q E (hr.deeper _) hsp
  have I : Inv (cxOf CX P w K mg base N qual scope f cdv A outer s H E) [] (start N vs) H s1 := inv_start S hr.hd e0 hl r x
  refine wpAny_mono (ht [] s1 (start N vs) H _ I hq) (fun fl s' hs => ?_) fun e s' hs => hs
  have fin : ∀ {σ' : St} {H' : Hp} {v : V} {u : Value}, Inv (cxOf CX P w K mg base N qual scope f cdv A outer s H E) [] σ' H' s' → RelV v u → Q v H' → CE outer P w H s Q u s' :=
    fun {σ' H' v u} J rv q => ⟨v, H', J.os, J.bare, J.base, J.hok, rv, q⟩
  cases fl with
  | ret u =>
    obtain ⟨v, σ', H', J, rv, q⟩ := hs
    exact fin J rv q
  | next =>
    obtain ⟨σ', H', J, q⟩ := hs
    exact fin (v := V.non) (u := Value.none) J rfl q
  | brk =>
    obtain ⟨_, _, _, q⟩ := hs
    exact False.elim q
  | cont =>
    obtain ⟨_, _, _, q⟩ := hs
    exact False.elim q
end L2

namespace L2
open PySem PySem.Spec PyProof.Rows
section
variable {X : Cx} {x : Str} {p pos : Pos} {e : Expr} {es : List Expr} {t : TA} {id T : String} {r : List V → Hp → VK → Prop}

def tCB (r : List V → Hp → VK → Prop) (t : TA) : TE := fun σ H Q => t σ H fun vs H1 => r vs H1 Q
/-- f(e, ..), f a built-in function -/
theorem pe_callB (hc : CallR X (.builtin id) r) (hg : Gl X x) (hm : X.mg x = none) (hv : bootBuiltins x = some (.builtin id)) (ha : PA X (e :: es) t) (hn : x ≠ "__name__" := by decide) (hdb : (x == ("__debug__" : Str)) = false := by decide)
    (he : starEach (e :: es) X.env = (false, eval e X.env) :: starEach es X.env := by rfl) (hpl : (backTo pos (starEach es X.env)).any (·.1) = false := by rfl) : PE X (.Call (.Name x p) (e :: es) [] pos) (tCB r t) := by
  intro pins s σ H Q I h
  refine wpAny_Call_Name_kw (ld_blt I hg hm hv ?_ hn hdb)
  exact PyProof.Rows.callWith_builtin1 (thn (ha pos pins s σ H _ I h) fun us s1 ⟨vs, H1, I1, r1, q1⟩ => hc pins s1 σ H1 vs us Q I1 r1 q1) he hpl
end
end L2

namespace HT
open PySem PyProof.Rows

/-- t < u of tuples of ints -/
def lexLt : List Int → List Int → Bool
  | [], [] => false
  | [], _ :: _ => true
  | _ :: _, [] => false
  | x :: xs, y :: ys => if x = y then lexLt xs ys else decide (x < y)
section
open PySem.SeqAt
open PySem.AutoSeq1 (wpAny_loadPart')
open PySem.MeetsSeq PySem.MeetsSeq2 PySem.MeetsSeq3

end

section
variable {prog : Program} {w : World} {A : Around} {E : Value → Shared → Prop} {s : Shared}

/-! ### t[a:b], not the whole -/
/-- a slice's bound as a place among n (d where it is left out) -/
def sIx (n d : Nat) : Option Int → Nat
  | none => d
  | some v => if v < 0 then (v + (n : Int)).toNat else min v.toNat n
end
end HT

namespace L2
open PySem PySem.Spec PyProof.Rows

/-! ### the parts of a slice -/
abbrev TO := St → Hp → (Option Int → Hp → Prop) → Prop
/-- a slice's part (left out, or an int) -/
def PO (X : Cx) (e : Option Expr) (t : TO) : Prop :=
  ∀ (pins : List (Addr × Obj)) (s : Shared) (σ : St) (H : Hp) (Q : Option Int → Hp → Prop), Inv X pins σ H s → t σ H Q →
    wpAny (model X.prog X.w) X.A (evalPart e X.env) (fun u s' => ∃ o H', Inv X pins σ H' s' ∧ IsPart u o ∧ Q o H') X.xe s
def tNoPart : TO := fun _ H Q => Q none H
def tPart (t : TE) : TO := fun σ H Q => t σ H fun x H1 => ∃ i, x = .int i ∧ Q (some i) H1

section
variable {X : Cx} {e : Expr} {te : TE} {lo hi : Option Expr} {tl th : TO} {pos p2 : Pos}

theorem po_some (h : PE X e te) : PO X (some e) (tPart te) := by
  intro pins s σ H Q I hw
  rw [evalPart_some]
  refine thn (h pins s σ H _ I hw) fun u s1 ⟨x, H1, I1, r1, q1⟩ => ?_
  obtain ⟨i, rfl, q⟩ := q1
  obtain ⟨t, rfl⟩ := r1
  exact ⟨some i, H1, I1, .int i t, q⟩

/-- what a slice of a value is, by values: the slice object stands at sl -/
def SlR (X : Cx) (r : V → Option Int → Option Int → Hp → VK → Prop) : Prop :=
  ∀ (pins : List (Addr × Obj)) (s : Shared) (σ : St) (H : Hp) (x : V) (v vl vu : Value) (lo hi : Option Int) (sl : Addr) (Q : VK), Inv X pins σ H s → RelV x v → s.heap.IsSliceOf sl vl vu .none → IsPart vl lo → IsPart vu hi → r x lo hi H Q →
    ∃ T id, typeLookup (.type T) "__getitem__" = pure (some (.builtin id)) ∧ s.TypeIs v T ∧ wpAny (model X.prog X.w) X.A (getItem v (.ref sl)) (EP X pins σ Q) X.xe s
def tSl (r : V → Option Int → Option Int → Hp → VK → Prop) (te : TE) (tl th : TO) : TE := fun σ H Q => te σ H fun x H1 => tl σ H1 fun l H2 => th σ H2 fun u H3 => r x l u H3 Q
/-- a[lo:hi], any a -/
theorem pe_slice {r : V → Option Int → Option Int → Hp → VK → Prop} (hr : SlR X r) (he : PE X e te) (hl : PO X lo tl) (hu : PO X hi th) : PE X (.Subscript e (.Slice lo hi none p2) pos) (tSl r te tl th) := by
  intro pins s σ H Q I h
  refine Subscript_ (thn (he pins s σ H _ I h) fun v s1 ⟨x, H1, I1, r1, q1⟩ => ?_)
  refine wpAny_Slice (thn (hl pins s1 σ H1 _ I1 q1) fun vl s2 ⟨l, H2, I2, pl, q2⟩ => thn (hu pins s2 σ H2 _ I2 q2) fun vu s3 ⟨u, H3, I3, pu, q3⟩ => ?_)
  rw [evalPart_none]
  refine wpAny_pure ?_
  have I4 : Inv X pins σ H3 { s3 with heap := s3.heap.push { cls := .type "slice", data := .fields #[vl, vu, .none] } } := I3.kept (t' := s3.toks) fun b ob q => Heap.get?_push_of_some _ q
  obtain ⟨T, id, hT, ht, hg⟩ := hr pins { s3 with heap := s3.heap.push { cls := .type "slice", data := .fields #[vl, vu, .none] } } σ H3 x v vl vu l u s3.heap.objs.size Q I4 r1 (Heap.IsSliceOf.new ..) pl pu q3
  show wpAny (model X.prog X.w) X.A (subscriptTail e (.Slice lo hi none p2) v (.ref s3.heap.objs.size)) (EP X pins σ Q) X.xe { s3 with heap := s3.heap.push { cls := .type "slice", data := .fields #[vl, vu, .none] } }
  exact tail_any (ops := [.ref s3.heap.objs.size, v]) ht hT hg (by with_unfolding_all rfl)

/-- the items of xs[lo:hi] -/
def cutV (xs : List V) (lo hi : Option Int) : List V := (xs.drop (HT.sIx xs.length 0 lo)).take (HT.sIx xs.length xs.length hi - HT.sIx xs.length 0 lo)
theorem cutV_length (xs : List V) (lo hi : Option Int) : (cutV xs lo hi).length ≤ xs.length := by
  unfold cutV
  rw [List.length_take, List.length_drop]
  omega
/-- t[lo:hi], not the whole of it (the whole would be t itself) -/
def rSlT (K : PySem.W.Frag) : V → Option Int → Option Int → Hp → VK → Prop := fun x lo hi H Q => ∃ a xs, x = .ref a ∧ SqT K H a xs ∧
  ¬ (HT.sIx xs.length 0 lo = 0 ∧ HT.sIx xs.length xs.length hi = xs.length) ∧ ∀ p, H p = none → Q (.ref p) (upd H p (.tup (cutV xs lo hi)))
/-! ### t < u, t + u -/
def rLtT (K : PySem.W.Frag) : R2 := fun x y H Q => ∃ a b ns ms, x = .ref a ∧ y = .ref b ∧ SqT K H a (ns.map V.int) ∧ SqT K H b (ms.map V.int) ∧ Q (.bl (HT.lexLt ns ms)) H
/-- t + u, t not empty: u empty gives t itself -/
def rCatT (K : PySem.W.Frag) : R2 := fun x y H Q => ∃ a b xs ys, x = .ref a ∧ y = .ref b ∧ SqT K H a xs ∧ SqT K H b ys ∧ xs ≠ [] ∧ xs.length + ys.length ≤ sizeLine ∧
  (ys = [] → Q (.ref a) H) ∧ (ys ≠ [] → ∀ p, H p = none → Q (.ref p) (upd H p (.tup (xs ++ ys))))
end
end L2

namespace L2
open PySem PySem.Spec PyProof.Rows

/-! ### places -/
/-- the place that an index of any sign means -/
def ixN (n : Nat) (i : Int) : Option Nat := if 0 ≤ i then (if i < n then some i.toNat else none) else if -(n : Int) ≤ i then some (i + n).toNat else none
def atI {α : Type} (xs : List α) (i : Int) : Option α := (ixN xs.length i).bind fun j => xs[j]?
theorem ixN_seq {n : Nat} {i : Int} {j : Nat} (h : ixN n i = some j) : seqIndex? i n = some j ∧ j < n ∧ -(n : Int) ≤ i ∧ i < n := by
  unfold ixN at h
  by_cases h0 : 0 ≤ i
  · rw [if_pos h0] at h
    by_cases h1 : i < n
    · rw [if_pos h1] at h
      have e : i.toNat = j := Option.some.inj h
      exact ⟨by rw [seqIndex_of h0 h1, e], by omega, by omega, h1⟩
    · rw [if_neg h1] at h; cases h
  · rw [if_neg h0] at h
    by_cases h1 : -(n : Int) ≤ i
    · rw [if_pos h1] at h
      have e : (i + n).toNat = j := Option.some.inj h
      exact ⟨by rw [seqIndex_neg (by omega) h1, e], by omega, h1, by omega⟩
    · rw [if_neg h1] at h; cases h
theorem atI_get {α : Type} {xs : List α} {i : Int} {v : α} (h : atI xs i = some v) : ∃ j, seqIndex? i xs.length = some j ∧ xs[j]? = some v ∧ j < xs.length ∧ -(xs.length : Int) ≤ i ∧ i < xs.length := by
  unfold atI at h
  cases e : ixN xs.length i with
  | none => rw [e] at h; cases h
  | some j =>
    rw [e] at h
    obtain ⟨h1, h2, h3, h4⟩ := ixN_seq e
    exact ⟨j, h1, h, h2, h3, h4⟩
theorem atI_nat {α : Type} {xs : List α} {j : Nat} {v : α} (h : xs[j]? = some v) : atI xs (j : Int) = some v := by
  have hj : j < xs.length := (List.getElem?_eq_some_iff.mp h).1
  have e : ixN xs.length (j : Int) = some j := by
    unfold ixN
    rw [if_pos (by omega), if_pos (by omega)]; simp
  unfold atI; rw [e]; exact h
/-! ### what may be subscripted -/
/-- what stands as an index of a plain subscript -/
def PlainIx (b : Expr) : Prop := ∀ o i, subscripted b false o i = operate [o, i] (getItem o i)
/-- a subscript by values -/
def IxR (X : Cx) (r : R2) : Prop :=
  ∀ (value slice : Expr) (pins : List (Addr × Obj)) (s : Shared) (σ : St) (H : Hp) (x y : V) (v u : Value) (Q : VK), Inv X pins σ H s → RelV x v → RelV y u → r x y H Q →
    subscripted slice false v u = operate [v, u] (getItem v u) → wpAny (model X.prog X.w) X.A (subscriptTail value slice v u) (EP X pins σ Q) X.xe s
/-- a call of a builtin's method by values: the receiver, the arguments -/
def MtR (X : Cx) (id : String) (r : V → List V → Hp → VK → Prop) : Prop :=
  ∀ (pins : List (Addr × Obj)) (s : Shared) (σ : St) (H : Hp) (x : V) (xs : List V) (v : Value) (us : List Value) (Q : VK), Inv X pins σ H s → RelV x v → Vals xs us → r x xs H Q →
    wpAny (model X.prog X.w) X.A (call (.builtin id) (v :: us)) (EP X pins σ Q) X.xe s
section
variable {X : Cx} {a b : Expr} {ta tb : TE} {pos : Pos}
/-- a[b] -/
theorem pe_ix {r : R2} (hr : IxR X r) (ha : PE X a ta) (hb : PE X b tb) (hs : PlainIx b) : PE X (.Subscript a b pos) (tOp r ta tb) := by
  intro pins s σ H Q I h
  exact Subscript_ (binT ha hb I h fun v u s2 x y H2 I2 rx ry q => hr a b pins s2 σ H2 x y v u Q I2 rx ry q (hs _ _))

def rIxL (K : PySem.W.Frag) : R2 := fun x y H Q => ∃ p xs i v, x = .ref p ∧ y = .int i ∧ SqL K H p xs ∧ atI xs i = some v ∧ Q v H
def rIxT (K : PySem.W.Frag) : R2 := fun x y H Q => ∃ p xs i v, x = .ref p ∧ y = .int i ∧ SqT K H p xs ∧ atI xs i = some v ∧ Q v H
def rIxS : R2 := fun x y H Q => ∃ z i c, x = .str z ∧ y = .int i ∧ z.length ≤ sizeLine ∧ atI z.cps.toList i = some c ∧ Q (.str ⟨#[c]⟩) H
theorem ix_list : IxR X (rIxL X.K) := by
  intro value slice pins s σ H x y v u Q I rx ry h hs
  obtain ⟨p, xs, i, z, rfl, rfl, hq, he, q⟩ := h
  cases rx
  obtain ⟨t, rfl⟩ := ry
  obtain ⟨its, r, pl, hz⟩ := I.list hq
  obtain ⟨j, h1, h2, h3, h4, h5⟩ := atI_get he
  obtain ⟨w, ew, rw'⟩ := r.get h2
  have hl := r.length
  have hn := line63
  have fin : EP X pins σ Q w s := ⟨z, H, I, rw', q⟩
  by_cases h0 : 0 ≤ i
  · have hj : i.toNat = j := by
      rw [seqIndex_of h0 h5] at h1
      exact Option.some.inj h1
    exact item_listR pl.isList h0 (by omega) (by rw [hj]; simpa using ew) fin hs
  · have hj : (i + (its.toArray.size : Int)).toNat = j := by
      rw [seqIndex_neg (by omega) h4] at h1
      rw [List.size_toArray, ← hl]
      exact Option.some.inj h1
    exact subscriptTail_builtinR (x := w) pl.isList.typeIs slot_list_getitem.lookup
      (wpAny_getItem_list_neg (Q := fun r s' => r = w ∧ EP X pins σ Q r s') pl.isList (by omega) (by rw [List.size_toArray] <;> omega) (by omega) (by rw [hj]; simpa using ew) ⟨rfl, fin⟩) hs
theorem ix_tup : IxR X (rIxT X.K) := by
  intro value slice pins s σ H x y v u Q I rx ry h hs
  obtain ⟨p, xs, i, z, rfl, rfl, hq, he, q⟩ := h
  cases rx
  obtain ⟨t, rfl⟩ := ry
  obtain ⟨its, r, pl, hz⟩ := I.tuple hq
  obtain ⟨j, h1, h2, h3, h4, h5⟩ := atI_get he
  obtain ⟨w, ew, rw'⟩ := r.get h2
  have hl := r.length
  have hn := line63
  have fin : EP X pins σ Q w s := ⟨z, H, I, rw', q⟩
  exact subscriptTail_builtinR (x := w) pl.typeIs slot_tuple_getitem.lookup
    (getItem_tuple (j := j) (Q := fun r s' => r = w ∧ EP X pins σ Q r s') pl (by omega) (by omega) (by rw [List.size_toArray, ← hl]; exact h1) (by simpa using ew) ⟨rfl, fin⟩) hs
/-- list, tuple or str -/
def rIx (K : PySem.W.Frag) : R2 := fun x y H Q => rIxL K x y H Q ∨ rIxT K x y H Q ∨ rIxS x y H Q
/-! ### xs[i] = v, any sign -/
def rSetL : V → V → V → Hp → (Hp → Prop) → Prop := fun o i v H Q => ∃ p xs k j, o = .ref p ∧ i = .int k ∧ H p = some (.lst xs) ∧ ixN xs.length k = some j ∧ Q (upd H p (.lst (xs.set j v)))
/-! ### slices -/
theorem slice_bounds (lo hi : Option Int) (n : Nat) : (sliceBounds lo hi none n).1 = ((HT.sIx n 0 lo : Nat) : Int) ∧ (sliceBounds lo hi none n).2.1 = ((HT.sIx n n hi : Nat) : Int) ∧ (sliceBounds lo hi none n).2.2 = 1 := by
  refine ⟨?_, ?_, rfl⟩
  · cases lo with
    | none => simp [sliceBounds, HT.sIx]
    | some i =>
      simp only [sliceBounds, HT.sIx, Option.getD_none, show (1 : Int) > 0 by decide, if_true]
      by_cases h : i < 0
      · simp only [h, if_true] <;> omega
      · simp only [h, if_false] <;> omega
  · cases hi with
    | none => simp [sliceBounds, HT.sIx]
    | some i =>
      simp only [sliceBounds, HT.sIx, Option.getD_none, show (1 : Int) > 0 by decide, if_true]
      by_cases h : i < 0
      · simp only [h, if_true] <;> omega
      · simp only [h, if_false] <;> omega
theorem slicePick_cut (its : List Value) (lo hi : Option Int) : slicePick its.toArray lo hi none = ((its.drop (HT.sIx its.length 0 lo)).take (HT.sIx its.length its.length hi - HT.sIx its.length 0 lo)).toArray := by
  obtain ⟨h1, h2, h3⟩ := slice_bounds lo hi its.toArray.size
  unfold slicePick
  rw [h1, h2, h3]
  simp only [sliceRange_one, pick_run, List.size_toArray] <;> rfl
/-- xs[lo:hi] of a list: a new list -/
def rSlL (K : PySem.W.Frag) : V → Option Int → Option Int → Hp → VK → Prop := fun x lo hi H Q => ∃ a xs, x = .ref a ∧ SqL K H a xs ∧ ∀ p, H p = none → Q (.ref p) (upd H p (.lst (cutV xs lo hi)))
theorem sl_list : SlR X (rSlL X.K) := by
  intro pins s σ H x v vl vu lo hi sl Q I rx hs pl pu h
  obtain ⟨a, xs, rfl, hx, q⟩ := h
  cases rx
  obtain ⟨its, r, ht, hz⟩ := I.list hx
  have hlen := r.length
  refine ⟨"list", _, slot_list_getitem.lookup, ht.isList.typeIs, ?_⟩
  refine wpAny_getItem_list_slice ht.isList hs pl pu .none (by simp) ?_ (by rw [List.size_toArray] <;> omega)
  rw [slicePick_cut, ← hlen]
  refine ⟨.ref s.heap.objs.size, _, I.laid (t' := s.toks) (o := .lst (cutV xs lo hi)) (fun b ob q => Heap.get?_push_of_some _ q) (Nat.le_refl _) ?_, rfl, q _ (I.hok.fresh (Nat.le_refl _))⟩
  exact ⟨Nat.le_trans (cutV_length xs lo hi) hz, _, 0, (r.drop (HT.sIx xs.length 0 lo)).take (HT.sIx xs.length xs.length hi - HT.sIx xs.length 0 lo), Heap.get?_push_size _ rfl⟩

/-! ### in, not in: flat items -/
def flatV : V → Bool
  | .non => true
  | .bl _ => true
  | .int _ => true
  | .str _ => true
  | _ => false
/-- == of flat values -/
def eqV : V → V → Bool
  | .non, .non => true
  | .bl a, .bl b => a == b
  | .bl a, .int b => (if a then 1 else 0) == b
  | .int a, .bl b => a == (if b then 1 else 0)
  | .int a, .int b => a == b
  | .str a, .str b => a == b
  | _, _ => false
/-- the items' answers, read off the values (a value's own answer does not lean on its token) -/
def eqU (x : V) (u : Value) : Bool := match u with
  | .none => eqV .non x
  | .bool b => eqV (.bl b) x
  | .int i _ => eqV (.int i) x
  | .str z _ => eqV (.str z) x
  | _ => false
def inV (x : V) (xs : List V) : Bool := xs.any fun y => eqV y x
/-- x in a list or tuple of flat items -/
def rIn (K : PySem.W.Frag) (neg : Bool) : R2 := fun x y H Q => ∃ p xs, y = .ref p ∧ (SqL K H p xs ∨ SqT K H p xs) ∧ flatV x = true ∧ xs.all flatV = true ∧ Q (.bl (if neg then !inV x xs else inV x xs)) H
/-! ### len, list(x), tuple(x) of any list or tuple that is read -/
theorem call_len_seq : CallR X (.builtin "len") (fun xs H Q => ∃ p ys, xs = [.ref p] ∧ (SqL X.K H p ys ∨ SqT X.K H p ys) ∧ Q (.int ys.length) H) := by
  intro pins s σ H xs us Q I r h
  obtain ⟨p, ys, rfl, hq, q⟩ := h
  obtain ⟨u, rfl, rx⟩ := vals1 r
  cases rx
  have hn := line63
  rcases hq with hq | hq
  · obtain ⟨its, r', pl, hz⟩ := I.list hq
    have hlen := r'.length
    exact Calls.call_len_list pl.isList (by simp only [List.size_toArray] <;> omega) ⟨.int ys.length, H, I.tok _, ⟨s.toks + 1, by rw [List.size_toArray, hlen]⟩, q⟩
  · obtain ⟨its, r', pl, hz⟩ := I.tuple hq
    have hlen := r'.length
    exact len_tuple pl (by simp only [List.size_toArray] <;> omega) ⟨.int ys.length, H, I.tok _, ⟨s.toks + 1, by rw [List.size_toArray, hlen]⟩, q⟩
/-! ### the call of a builtin's method: o.m(..) -/
/-- the value is of that builtin type -/
def tyV (K : PySem.W.Frag) (T : String) (x : V) (H : Hp) : Prop := match x with
  | .str _ => T = "str"
  | .int _ => T = "int"
  | .ref p => (T = "list" ∧ ∃ xs, SqL K H p xs) ∨ (T = "tuple" ∧ ∃ o, K.lookup p = some o ∧ o.cls = .type "tuple" ∧ o.dict = none) ∨
      (T = "dict" ∧ ((∃ kvs, H p = some (.dK kvs)) ∨ ∃ kvs, H p = some (.dT kvs))) ∨ (T = "set" ∧ ∃ S n, H p = some (.set S n))
  | _ => False
theorem tyV_is {pins : List (Addr × Obj)} {σ : St} {H : Hp} {s : Shared} {T : String} {x : V} {v : Value} (I : Inv X pins σ H s) (r : RelV x v) (ty : tyV X.K T x H) :
    s.TypeIs v T ∧ ∀ a, v = .ref a → ∃ ob, s.heap.get? a = some ob ∧ ob.dict = none := by
  cases x with
  | str z =>
    obtain ⟨t, rfl⟩ := r
    cases (show T = "str" from ty)
    exact ⟨typeIs_str s z t, fun _ e => nomatch e⟩
  | int i =>
    obtain ⟨t, rfl⟩ := r
    cases (show T = "int" from ty)
    exact ⟨typeIs_int s i t, fun _ e => nomatch e⟩
  | ref p =>
    cases r
    rcases ty with ⟨rfl, xs, hq⟩ | ⟨rfl, o, hk, hc, hd⟩ | ⟨rfl, hk⟩ | ⟨rfl, S, n, hk⟩
    · obtain ⟨its, _, pl, _⟩ := I.list hq
      refine ⟨pl.isList.typeIs, fun a e => ?_⟩
      cases e
      obtain ⟨o, n, e, c, hd, _⟩ := pl
      exact ⟨o, e, hd⟩
    · refine ⟨⟨o, I.kIn p o hk, hc⟩, fun a e => ?_⟩
      cases e
      exact ⟨o, I.kIn _ o hk, hd⟩
    · have z : ∃ o, s.heap.get? p = some o ∧ o.ExactDict := by
        rcases hk with ⟨kvs, hk⟩ | ⟨kvs, hk⟩
        · obtain ⟨_, _, _, _, o, _, _, e, ex, _⟩ := I.hok p _ hk
          exact ⟨o, e, ex⟩
        · obtain ⟨_, _, _, _, o, _, _, e, ex, _⟩ := I.hok p _ hk
          exact ⟨o, e, ex⟩
      obtain ⟨o, e, ex⟩ := z
      refine ⟨⟨o, e, ex.1⟩, fun a e2 => ?_⟩
      cases e2
      exact ⟨o, e, ex.2.1⟩
    · obtain ⟨o, _, _, _, e, ex, _⟩ := I.hok p _ hk
      refine ⟨⟨o, e, ex.1⟩, fun a e2 => ?_⟩
      cases e2
      exact ⟨o, e, ex.2.1⟩
  | _ => exact False.elim ty
def tBM0 (K : PySem.W.Frag) (T : String) (r : V → List V → Hp → VK → Prop) (to : TE) : TE := fun σ H Q => to σ H fun x H1 => tyV K T x H1 ∧ r x [] H1 Q
def tBM (K : PySem.W.Frag) (T : String) (r : V → List V → Hp → VK → Prop) (to : TE) (t : TA) : TE := fun σ H Q => to σ H fun x H1 => tyV K T x H1 ∧ t σ H1 fun xs H2 => r x xs H2 Q
variable {o e : Expr} {es : List Expr} {to : TE} {t : TA} {name : Str} {apos cpos : Pos} {T id : String} {r : V → List V → Hp → VK → Prop}
theorem pe_bm (pa : PlainAttrs T) (slot : Slot T name id) (hty : typeOf (.builtin id) = pure (.type "method_descriptor")) (hm : MtR X id r) (ho : PE X o to) (ha : PA X (e :: es) t)
    (hbase : attributeBase o name X.env (eval o X.env) = eval o X.env := by rfl)
    (hfew : ((backTo cpos (starEach (e :: es) X.env)).all (fun x => !x.1) && (backToKw cpos (keywordEach [] X.env)).all (fun x => x.1.isSome)
      && decide ((e :: es).length + ([] : List Keyword).length + (if ([] : List Keyword).isEmpty then 0 else 1) < 30)) = true := by rfl)
    (hline : (apos.endLine == cpos.line) = true := by rfl) (hs : starEach (e :: es) X.env = (false, eval e X.env) :: starEach es X.env := by rfl) (hplain : (backTo cpos (starEach es X.env)).any (·.1) = false := by rfl) :
    PE X (.Call (.Attribute o name apos) (e :: es) [] cpos) (tBM X.K T r to t) := by
  intro pins s σ H Q I h
  refine wpAny_Call_method_late hbase hfew hline rfl (thn (ho pins s σ H _ I h) fun v s1 ⟨x, H1, I1, r1, ty, q1⟩ => ?_)
  obtain ⟨h1, h2⟩ := tyV_is I1 r1 ty
  refine ⟨T, id, pa, slot, hty, h1, h2, ?_⟩
  have hA := ha cpos pins s1 σ H1 _ I1 q1
  rw [hs] at hA ⊢
  refine Calls.callWith_builtin (by show (false || (backTo cpos (starEach es X.env)).any (·.1)) = false; rw [hplain] <;> rfl) (Calls.evalArgs_plain ?_)
  exact thn hA fun us s2 ⟨vs, H2, I2, r2, q2⟩ => hm pins s2 σ H2 x vs v us Q I2 r1 r2 q2
/- xs.append(e), list.index on a module's tuple .. are MtR facts of 06m -/
end
end L2

namespace L2
open PySem PySem.Spec PyProof.Rows

def MtM (X : Cx) (id : String) (r : V → List V → Hp → VK → Prop) : Prop :=
  ∀ (pins : List (Addr × Obj)) (s : Shared) (σ : St) (H : Hp) (x : V) (xs : List V) (v : Value) (us : List Value) (Q : VK), Inv X pins σ H s → RelV x v → Vals xs us → r x xs H Q →
    wpAny (model X.prog X.w) X.A (call (.builtin id) (v :: us)) (EP X pins σ Q) X.xe s

/-! ### lists of values -/
theorem Vals.one : ∀ {x : V} {us : List Value}, Vals [x] us → ∃ u, us = [u] ∧ RelV x u
  | _, _, .cons r .nil => ⟨_, rfl, r⟩
section
variable {X : Cx} {pins : List (Addr × Obj)} {σ : St} {H : Hp} {s : Shared} {l b : Addr} {xs ys zs : List V}

/-! ### the two steps: a tracked list is rewritten, a new list is laid -/
theorem Inv.lset {its its' : List Value} {n : Nat} {f : Array Value → Array Value} {t' : Nat} (I : Inv X pins σ H s) (hH : H l = some (.lst xs))
    (e : s.heap.get? l = some { cls := .type "list", data := .seq its.toArray n }) (hf : f its.toArray = its'.toArray) (hv : Vals ys its') (hz : ys.length ≤ sizeLine) :
    Inv X pins σ (upd H l (.lst ys)) { s with heap := s.heap.update l (Obj.mapSeq f), toks := t' } := by
  have q := PySem.IsL.update e f
  rw [hf] at q
  refine I.write (x := l) (e := l) (by rw [hH]; exact trivial) (.inl rfl) (fun b' u hb hu => (Heap.get?_update_other s.heap (Obj.mapSeq f) (Ne.symm hb)).trans hu) ⟨_, q⟩ ?_
  exact ⟨hz, its', _, hv, q⟩
theorem Inv.lnew {its : List Value} {t' : Nat} (I : Inv X pins σ H s) (hv : Vals ys its) (hz : ys.length ≤ sizeLine) :
    Inv X pins σ (upd H s.heap.objs.size (.lst ys)) { s with heap := s.heap.push { cls := .type "list", data := .seq its.toArray }, toks := t' } :=
  I.laid (fun _ _ q => Heap.get?_push_of_some _ q) (Nat.le_refl _) ⟨hz, its, 0, hv, Heap.get?_push_size _ rfl⟩
theorem Inv.fresh (I : Inv X pins σ H s) : H s.heap.objs.size = none := I.hok.fresh (Nat.le_refl _)
theorem Inv.lstM (I : Inv X pins σ H s) (hH : H l = some (.lst xs)) : xs.length ≤ sizeLine ∧ ∃ (its : List Value) (n : Nat), Vals xs its ∧ xs.length = its.length ∧ s.heap.get? l = some { cls := .type "list", data := .seq its.toArray n } := by
  obtain ⟨z, its, n, r, e⟩ := I.hok l _ hH
  exact ⟨z, its, n, r, r.length, e⟩

end

section
variable {X : Cx}

/-! ### methods -/
def rAppend : V → List V → Hp → VK → Prop := fun x vs H Q => ∃ l xs y, x = .ref l ∧ vs = [y] ∧ H l = some (.lst xs) ∧ xs.length < sizeLine ∧ Q .non (upd H l (.lst (xs ++ [y])))
theorem mt_append : MtM X "list.append" rAppend := by
  intro pins s σ H x vs v us Q I rx rv h
  obtain ⟨l, xs, y, rfl, rfl, hH, hz, q⟩ := h
  cases rx
  obtain ⟨u, rfl, ru⟩ := rv.one
  obtain ⟨z, its, n, r, hl, e⟩ := I.lstM hH
  refine call_meets F.slot_list_append ⟨_, e, rfl⟩ F.entry_list_append (F.args_list_append_2 _ _) (PySem.list_append l its.toArray n u (by rw [List.size_toArray]; omega)) ⟨e, ?_⟩
  refine ⟨.non, _, I.lset (its' := its ++ [u]) hH e (by simp) (r.append (.cons ru .nil)) ?_, rfl, q⟩
  rw [List.length_append, List.length_singleton]
  omega

def rExtend : V → List V → Hp → VK → Prop := fun x vs H Q => ∃ l b xs zs, x = .ref l ∧ vs = [.ref b] ∧ H l = some (.lst xs) ∧ H b = some (.lst zs) ∧ xs.length + zs.length ≤ sizeLine ∧ Q .non (upd H l (.lst (xs ++ zs)))
def rPop : V → List V → Hp → VK → Prop := fun x vs H Q => ∃ l xs y, x = .ref l ∧ vs = [] ∧ H l = some (.lst xs) ∧ xs[xs.length - 1]? = some y ∧ Q y (upd H l (.lst xs.dropLast))
def rPopAt : V → List V → Hp → VK → Prop := fun x vs H Q => ∃ l xs i k y, x = .ref l ∧ vs = [.int i] ∧ H l = some (.lst xs) ∧ -(2 ^ 63) ≤ i ∧ i < 2 ^ 63 ∧ seqIndex? i xs.length = some k ∧ xs[k]? = some y ∧ Q y (upd H l (.lst (xs.eraseIdx k)))
def rReverse : V → List V → Hp → VK → Prop := fun x vs H Q => ∃ l xs, x = .ref l ∧ vs = [] ∧ H l = some (.lst xs) ∧ Q .non (upd H l (.lst xs.reverse))
def rClear : V → List V → Hp → VK → Prop := fun x vs H Q => ∃ l xs, x = .ref l ∧ vs = [] ∧ H l = some (.lst xs) ∧ Q .non (upd H l (.lst []))
/-! ### list + list, list += list, list * int -/
def rCat : R2 := fun x y H Q => ∃ l b xs zs, x = .ref l ∧ y = .ref b ∧ H l = some (.lst xs) ∧ H b = some (.lst zs) ∧ xs.length + zs.length ≤ sizeLine ∧ ∀ p, H p = none → Q (.ref p) (upd H p (.lst (xs ++ zs)))
theorem op_cat : OpR X (binaryOp .Add) rCat := by
  intro pins s σ H x y v u Q I rx ry h
  obtain ⟨l, b, xs, zs, rfl, rfl, hH, hB, hz, q⟩ := h
  cases rx
  cases ry
  obtain ⟨z, its, n, r, hl, e⟩ := I.lstM hH
  obtain ⟨z2, its2, n2, r2, hl2, e2⟩ := I.lstM hB
  refine PySem.P.add_list e e2 ?_ (by rw [List.size_toArray, List.size_toArray]; omega)
  have ea : its.toArray ++ its2.toArray = (its ++ its2).toArray := by simp
  rw [ea]
  exact ⟨.ref _, _, I.lnew (t' := s.toks) (r.append r2) (by rw [List.length_append]; omega), rfl, q _ I.fresh⟩
/-- a list times an int (a negative one is nothing) -/
def rRep : R2 := fun x y H Q => ∃ l k xs, x = .ref l ∧ y = .int k ∧ H l = some (.lst xs) ∧ -(2 ^ 63) ≤ k ∧ k < 2 ^ 63 ∧ xs.length * k.toNat ≤ sizeLine ∧
  ∀ p, H p = none → Q (.ref p) (upd H p (.lst (List.replicate k.toNat xs).flatten))
/-! ### del xs[i] -/
end

/-! ### xs[a:b] = ys -/
section
variable {prog : Program} {w : World} {A : Around} {E : Value → Shared → Prop} {s : Shared}
set_option maxRecDepth 100000 in
end

section
variable {X : Cx}
end
end L2

namespace Att
open PySem PySem.W PySem.Calls PyProof.Rows

/-! ### the script -/
theorem ints_of_wellAll {P : Params} {h : Heap} : ∀ (ns : List Int) (vs : List Value), WellAll P h vs (ns.map WData.int) → IntsAre vs ns := by
  intro ns
  induction ns with
  | nil =>
    intro vs w
    rw [List.map_nil] at w
    cases w
    exact .nil
  | cons n ns ih =>
    intro vs w
    rw [List.map_cons] at w
    cases w with
    | cons a b =>
      cases a
      exact .cons _ _ (ih _ b)

theorem script_of {l : OpenLaw} {n : Nat} (hn : l.most = some n) {P : Params} {h : Heap} {args : List WData} {vals : List Value}
    (hpre : l.row.toRowW.claim.pre args = true) (hwl : WellAll P h vals args) :
    ∃ a vs ns, vals = [Value.ref a] ∧ args = [WData.list (ns.map WData.int)] ∧ h.get? a = some { cls := .type "list", data := .seq vs.toArray } ∧ IntsAre vs ns ∧ ns.length ≤ n := by
  have hsh : WShape.hasAll [] args [.list .int] = true := (pre_splitW hpre).1
  have hc : l.pre.holds [] { args := args } = true := (pre_splitW hpre).2
  obtain ⟨d, r, rfl, h1, h2⟩ := hasAllW_cons hsh
  obtain rfl := hasAllW_nil h2
  obtain ⟨xs, rfl, h3⟩ := hasW_list h1
  obtain ⟨ns, rfl⟩ := items_int h3
  have hlen : ns.length ≤ n := by
    unfold OpenLaw.pre at hc
    have h4 : (WTm.not (.lt (.lit (.int (n : Int))) (.len (.arg 0)))).holds [] { args := [.list (ns.map .int)] } = true := by
      have h4 := (holds_andW hc).1
      rw [hn] at h4
      exact h4
    have h5 := condW_of h4 (w_not (w_lt w_lit (w_len_list (w_arg rfl))))
    rw [List.length_map] at h5
    refine Nat.le_of_not_lt fun q => ?_
    have q' : (n : Int) < ((ns.length : Nat) : Int) := by omega
    first
      | (rw [decide_eq_true q'] at h5; exact absurd h5 (by decide))
      | (simp at h5; omega)
  cases hwl with
  | cons w1 w2 =>
    cases w2
    cases w1 with
    | list ho hall => exact ⟨_, _, ns, rfl, rfl, ho, ints_of_wellAll ns _ hall, hlen⟩

theorem post_true (l : OpenLaw) (args : List WData) : l.row.toRowW.claim.post args (.bool true) args = true :=
  postW_of (r := l.row.toRowW) (X := (true == true))
    (show WShape.has [] (.bool true) .bool = true by first | rfl | decide | simp [WShape.has, WShape.arms, WShape.armsAll])
    (show (WTm.eq .res (.lit (.bool true))).value [] { args := args, res := some (.bool true), after := args } = some (.bool (true == true)) from w_eq_bool (w_res rfl) w_lit) rfl

/-! ### the attachment: holds_open's last premise (the goal 'hc' behind k_head) from a wpAny of the law's body -/
/-! ### rules over ANY heap (no ledger) from facts about the written part K: the library's own take a ledger (News) for what they write -/
section
variable {prog : Program} {w : World} {A : Around} {E : Value → Shared → Prop} {s : Shared} {K : Frag}

/-! the whole heap as the ledger: makes every rule that writes through a ledger a rule over any heap -/
def noObjs (h : Heap) : Heap := { h with objs := #[] }
def ledger (h : Heap) (L d : Addr) : List (Addr × Obj) := (List.range h.objs.size).filterMap fun a => if a = L ∨ a = d then none else (h.get? a).map fun o => (a, o)
end
end Att

namespace L2
open PySem PySem.Spec PyProof.Rows

theorem vals_ints : ∀ {vs : List Value} {ns : List Int}, IntsAre vs ns → Vals (ns.map V.int) vs
  | _, _, .nil => .nil
  | _, _, .cons n t h => .cons ⟨t, rfl⟩ (vals_ints h)

/-- nothing is tracked but the script, known to the object (or it is an object of the module) -/
def Only (H : Hp) : Prop := ∀ b, H b = none ∨ ∃ o xs, H b = some (.frz o (.lst xs))

/-- THE HEAD: the law's promise, at the heap behind the top. F, the promise of the law's def, may use that base is part of the heap (so K.In base, base.Ns mainGlobals mg stand in Mod) -/
theorem law_call {P : Program} {w : World} {K : PySem.W.Frag} {mg mb : Str → Option Value} {CX : CXT} {k : Nat} {fa a : Addr} {fd : FuncData} {x : Str} {sp : Sp} {s₁ : Shared} {vs : List Value} {ns : List Int}
    (KX : K.In s₁.heap) (hns : s₁.heap.Ns mainGlobals mg) (hb : s₁.heap.Ns builtinsNs mb) (hbb : ∀ x : Str, x ≠ "__name__" → mb x = bootBuiltins x) (hlim : s₁.heap.NoLimit) (hg : s₁.gens = #[])
    (ha : s₁.heap.get? a = some { cls := .type "list", data := .seq vs.toArray }) (hi : IntsAre vs ns) (hl : ns.length ≤ sizeLine) (hr : Room k callerA)
    (F : ∀ base : Heap, K.In base → base.Ns mainGlobals mg → FnOk P w K mg base CX k fa fd [x] sp) (hbind : ∀ (s : Shared) (u : Value), BindsTo s fd ⟨[u], []⟩ [(x, u)])
    (hsp : ∀ H : Hp, Only H → SqL K H a (ns.map V.int) → sp [.ref a] H (fun v _ => v = .bl true) fun _ _ _ => False)
    (hCX : ∀ H e s', CX [] H s₁ (fun _ _ _ => False) e s' → False) :
    codeAny (model P w) callerA (.call (.ref fa) ⟨[.ref a], []⟩) (fun r s' => r = .ok (.ret (.bool true)) ∧ OldK s₁.heap s'.heap ∧ s'.os = s₁.os ∧ AllBare s'.gens) s₁ := by
  have rv := vals_ints hi
  have lenV := hi.length
  -- from an abstract heap in which nothing but the script may be tracked
  have core : ∀ H : Hp, Only H → SqL K H a (ns.map V.int) → HOk P w H s₁.heap → (∀ b, H b ≠ none → b = a) → (H a ≠ none → K.lookup a = none) →
      codeAny (model P w) callerA (.call (.ref fa) ⟨[.ref a], []⟩) (fun r s' => r = .ok (.ret (.bool true)) ∧ OldK s₁.heap s'.heap ∧ s'.os = s₁.os ∧ AllBare s'.gens) s₁ := by
    intro H hO hS hok hA hK
    have base_of : ∀ {b : Addr} {o : Obj}, s₁.heap.get? b = some o → H b = none → (hidT s₁.heap H).get? b = some o := fun e n => hidT_get e n
    have noA : ∀ {b : Addr} {o : Obj} {es : Array DictEntry} {ep : Nat}, s₁.heap.get? b = some o → o.data = .dict es ep → H b = none := fun {b o es ep} e d => by
      cases q : H b with
      | none => rfl
      | some u =>
        have e' : b = a := hA b (by rw [q]; simp)
        subst e'
        rw [ha] at e; cases e
        have d' : Data.seq vs.toArray _ = Data.dict es ep := d
        cases d'
    have nsK : ∀ {b : Addr} {m : Str → Option Value}, s₁.heap.Ns b m → (hidT s₁.heap H).Ns b m := fun {b m} ⟨o, es, ep, e, d, r⟩ => ⟨o, es, ep, base_of e (noA e d), d, r⟩
    have hKb : K.In (hidT s₁.heap H) := fun b o e => base_of (KX b o e) (by
      cases q : H b with
      | none => rfl
      | some u =>
        have e' : b = a := hA b (by rw [q]; simp)
        subst e'
        rw [hK (by rw [q]; simp)] at e; cases e)
    have hM : Mod K mg (hidT s₁.heap H) := ⟨hKb, nsK hns, ⟨mb, nsK hb, hbb⟩, let ⟨mc, h1, h2⟩ := hlim; ⟨mc, nsK h1, h2⟩⟩
    have e0 : Env0 P w K mg (hidT s₁.heap H) callerA [] s₁ H := ⟨rfl, hM, fun b o e => of_hidT e, Nat.le_of_eq (hidT_size _ _), trivial, fun b hb => absurd (show b ∈ ([] : List Addr) from hb) (by simp), hok, .of_eq hg⟩
    refine codeAny_mono ((F _ hKb (nsK hns)).run callerA [] s₁ H ⟨[.ref a], []⟩ [.ref a] [.ref a] _ _ hr e0 (hbind s₁ (.ref a)) (.cons rfl .nil) (hsp H hO hS)) fun r s' h => ?_
    cases r with
    | error e => exact (hCX H e s' h).elim
    | ok fl =>
      cases fl with
      | next => exact False.elim h
      | brk => exact False.elim h
      | cont => exact False.elim h
      | ret u =>
        obtain ⟨v, H', os, bare, un, hok', r', q⟩ := h
        have q' : v = .bl true := q
        subst q'
        obtain rfl : u = Value.bool true := r'
        refine ⟨rfl, OldK.of_keep fun b o e => ?_, os, bare⟩
        cases q : H b with
        | none => exact un.keep b o e q (by intro z; exact absurd (show b ∈ ([] : List Addr) from z) (by simp)) (by simp)
        | some u =>
          rcases hO b with z | ⟨ob, xs, z⟩
          · rw [q] at z; cases z
          · have z2 := un.frzs b ob _ z
            obtain ⟨e1, _⟩ := hok b _ z
            obtain ⟨e2, _⟩ := hok' b _ z2
            rw [e] at e1; cases e1
            exact e2
  cases hk : K.lookup a with
  | some o =>
    -- the script is one of the module's own objects
    have e := KX a o hk
    rw [ha] at e
    cases e
    refine core (fun _ => none) (fun _ => .inl rfl) (.inr ⟨_, vs.toArray, _, hk, rfl, rfl, rfl, by rw [List.size_toArray, lenV]; exact hl, by simpa using rv⟩) (fun b u z => by have z' : (none : Option HO) = some u := z; cases z') (fun b z => absurd rfl z) fun z => absurd rfl z
  | none =>
    refine core (fun b => if b = a then some (.frz { cls := .type "list", data := .seq vs.toArray } (.lst (ns.map V.int))) else none) (fun b => ?_) (.inl (.inr ⟨{ cls := .type "list", data := .seq vs.toArray }, if_pos rfl⟩)) (fun b u z => ?_) (fun b z => ?_) fun _ => hk
    · by_cases hb : b = a
      · exact .inr ⟨_, _, if_pos hb⟩
      · exact .inl (if_neg hb)
    · by_cases hb : b = a
      · have z' := (if_pos hb).symm.trans z
        cases z'
        subst hb
        exact ⟨ha, by rw [List.length_map]; exact hl, vs, _, rv, ha⟩
      · have z' := (if_neg hb).symm.trans z
        cases z'
    · by_cases hb : b = a
      · exact hb
      · exact absurd (if_neg hb) z
end L2

namespace L2
open PySem PySem.Spec PyProof.Rows

abbrev KOf {K : PySem.W.Frag} {h : Heap} (_ : K.In h) : PySem.W.Frag := K

end L2

/- THE LAST THEOREM (shape; LID, My.* are yours):
   My.Adr: a structure of the addresses that your layer names (classes, functions); My.Txt K t: a structure (Prop) of the equations over K;
   My.txt_mk : {K} {implicit addresses ..} (e1 : nsIn K mainGlobals "law" = some (some (.ref f))) (e2 : K.lookup f = some ⟨oc, od, .func (fnOf "law" "law" params body scope dV kV doc pm an cdv ct), sl⟩) (e3 : codeIn K cdv "law" = true) .. : ∃ t, My.Txt K t

set_option maxRecDepth 100000 in
set_option maxHeartbeats 0 in
theorem PySem.Challenge.cw_LID_holds : PySem.Challenge.rw_LID.Holds := by
  w_on; o_law; k_head; (case hw => w_witness2)
  k_fill
  refine L2.walk_of (l := PySem.Challenge.rw_LID) (n := 63) (k := 40) (x := "script") (CX := fun w => ..) (sp := fun _ => My.sp_law) rfl (by decide) rfl ⟨rfl, by decide, by decide⟩ (fun w h Y => PySem.W.kIn_of Y) ?F ?S ?C
  case F =>
    intro w mg fa h KX G hmg
    have T : ∃ t, My.Txt (L2.KOf KX) t := by
      dsimp only [L2.KOf]                          -- K must stand as «<heap const> w.params» for k_is
      refine' My.txt_mk ?e1 ?e2 ?e3 ..
      (case e1 => PySem.W.k_is)                    -- in the order: a name -> its address -> its object -> its parts
      (case e2 => PySem.W.k_is)
      ..
    obtain ⟨t, T⟩ := T
    have e0 := hmg.symm.trans (PySem.W.mg_of KX G T.law)
    cases e0                                       -- fa is the law's own address
    exact ⟨_, fun s u => .of_eq rfl, fun base kb nb => My.law_fn T kb nb⟩     -- if «.of_eq rfl» comes too early: refine' ⟨_, ?b, fun base kb nb => My.law_fn T kb nb⟩; exact fun s u => .of_eq rfl
  case S => exact fun w H a ns hl hO hS => ..
  case C => exact ..
(the tactic k_is has no namespace: write k_is) -/

/-! SHORT WORDS over the layer: a def of the text, its body, what a loop and a test want. -/
namespace L2
open PySem PySem.Spec PyProof.Rows

/-! ### the text by places -/
/-- the j-th statement of a class's body -/
def inClass (s : Stmt) (j : Nat) : Stmt := match s with
  | .ClassDef _ _ _ body _ _ _ _ _ _ _ => body.getD j (.Pass ⟨0, 0, 0, 0⟩)
  | _ => .Pass ⟨0, 0, 0, 0⟩
def defArgs (s : Stmt) : Arguments := match s with
  | .FunctionDef _ a _ _ _ _ _ _ _ _ => a
  | _ => { posonlyargs := [], args := [], vararg := none, kwonlyargs := [], kw_defaults := [], kwarg := none, defaults := [] }
def defBody (s : Stmt) : List Stmt := match s with
  | .FunctionDef _ _ b _ _ _ _ _ _ _ => b
  | _ => []
def defScope (s : Stmt) : Scope := match s with
  | .FunctionDef _ _ _ _ _ _ sc _ _ _ => sc
  | _ => { kind := .function, names := [], isGenerator := false, isCoroutine := false }

/-! ### no exception leaves a def -/
abbrev CX0 : CXT := fun _ _ _ _ _ _ => False
abbrev E0 : XK := fun _ _ _ => False
theorem pass0 {X : Cx} : Passes CX0 X E0 := fun _ _ _ _ _ _ _ h => h.elim

/-! ### a def (or method) of the text as it stands behind the top -/
structure Fun (K : PySem.W.Frag) (x qual : Str) (st : Stmt) (f : Addr) (fd : FuncData) : Prop where
  ex : ∃ (oc : Value) (od : Option Addr) (kV doc pm : Value) (an : Option Addr) (cdv ct : Value) (osl : Array (Option Value)),
    fd = PySem.W.fnOf x qual (defArgs st) (defBody st) (defScope st) .none kV doc pm an cdv ct ∧ K.lookup f = some ⟨oc, od, .func fd, osl⟩ ∧ PySem.W.codeIn K cdv qual = true
  kp : PySem.W.keepIn K (.ref f) = true
section
variable {P : Program} {w : World} {K : PySem.W.Frag} {mg : Str → Option Value} {base : Heap}
/-- THE RULE for a def: its body as a term of rules, and the reading of that term -/
theorem Fun.ok {x qual : Str} {st : Stmt} {f : Addr} {fd : FuncData} {N ps : List Str} {k : Nat} {sp : Sp} (F : Fun K x qual st f fd) (S : FnScope N ps (defScope st)) (len : ∀ vs H Q E, sp vs H Q E → vs.length = ps.length)
    (hbody : ∀ (cdv : Value) (A : Around) (outer : List Env) (s : Shared) (H : Hp) (vs : List V) (Q : VK) (E : XK), Room k (A.deeper (envOfC qual (defScope st) s.heap.objs.size f cdv)) → sp vs H Q E →
      ∃ t, PSs (cxOf CX0 P w K mg base N qual (defScope st) f cdv A outer s H E).nox (defBody st) t ∧ t { nx := fun _ H' => Q .non H', rt := Q } (start N vs) H) : FnOk P w K mg base CX0 (k + 1) f fd ps sp := by
  obtain ⟨oc, od, kV, doc, pm, an, cdv, ct, osl, rfl, lk, hcd⟩ := F.ex
  refine fn_of lk hcd S len fun A outer s H vs Q E hr hsp => ?_
  obtain ⟨t, h, q⟩ := hbody cdv A outer s H vs Q E hr hsp
  exact ⟨t, h.nox, q⟩
/-- how its arguments bind (no defaults): h is «fun _ _ _ _ _ _ us hl => match us, hl with | [_, _], _ => rfl», one _ a parameter -/
theorem Fun.binds {x qual : Str} {st : Stmt} {f : Addr} {fd : FuncData} {ps : List Str} (F : Fun K x qual st f fd)
    (h : ∀ (kV doc pm : Value) (an : Option Addr) (cdv ct : Value) (us : List Value), us.length = ps.length → bindArgs (PySem.W.fnOf x qual (defArgs st) (defBody st) (defScope st) .none kV doc pm an cdv ct) ⟨us, []⟩ = pure (ps.zip us)) : Binds K fd ps [] := by
  obtain ⟨oc, od, kV, doc, pm, an, cdv, ct, osl, rfl, lk, hcd⟩ := F.ex
  exact .all (h kV doc pm an cdv ct)
theorem fun_mk {x qual : Str} {st : Stmt} {f : Addr} {oc : Value} {od an : Option Addr} {osl : Array (Option Value)} {kV doc pm cdv ct : Value} (l : K.lookup f = some ⟨oc, od, .func (PySem.W.fnOf x qual (defArgs st) (defBody st) (defScope st) .none kV doc pm an cdv ct), osl⟩)
    (c : PySem.W.codeIn K cdv qual = true) (k : PySem.W.keepIn K (.ref f) = true) : Fun K x qual st f (PySem.W.fnOf x qual (defArgs st) (defBody st) (defScope st) .none kV doc pm an cdv ct) := ⟨⟨oc, od, kV, doc, pm, an, cdv, ct, osl, rfl, l, c⟩, k⟩
end
/-! ### expressions in short: the name that stands in the i-th slot -/
section
variable {X : Cx}
theorem pv (i : Nat) {x : Str} {pos : Pos} (hN : X.N[i]? = some x := by rfl) (hv : Vis X.env.scope x := by first | exact Or.inl rfl | exact Or.inr (Or.inl rfl) | exact Or.inr (Or.inr rfl)) (hd : (x == ("__debug__" : Str)) = false := by decide)
    (hcd : (x == ("__classdict__" : Str)) = false := by decide) : PE X (.Name x pos) (tVar i) := pe_var hN hv hd hcd
end

/-! ### tests -/
theorem iteF {A B : Prop} (h : B) : if false = true then A else B := by
  rw [if_neg Bool.false_ne_true]
  exact h
theorem iteT {A B : Prop} (h : A) : if true = true then A else B := by
  rw [if_pos rfl]
  exact h
theorem ite2 {c A B : Prop} [Decidable c] (h1 : c → A) (h2 : ¬ c → B) : if c then A else B := by
  by_cases h : c
  · rw [if_pos h]
    exact h1 h
  · rw [if_neg h]
    exact h2 h
theorem iteNS {c A B : Prop} [Decidable c] (hc : c) (h : B) : if (!decide c) = true then A else B := by
  rw [decide_eq_true hc]
  exact iteF h

/-! ### heaps -/
/-- all that was tracked is as it was -/
def Same (H H' : Hp) : Prop := ∀ b o, H b = some o → H' b = some o
theorem Same.refl (H : Hp) : Same H H := fun _ _ h => h
theorem Same.trans {H H1 H2 : Hp} (a : Same H H1) (b : Same H1 H2) : Same H H2 := fun c o h => b c o (a c o h)
theorem Same.seq {K : PySem.W.Frag} {H H' : Hp} {a : Addr} {xs : List V} (e : Same H H') (h : SqL K H a xs) : SqL K H' a xs := by
  rcases h with (h | ⟨o, h⟩) | h
  · exact .inl (.inl (e _ _ h))
  · exact .inl (.inr ⟨o, e _ _ h⟩)
  · exact .inr h

end L2

set_option maxHeartbeats 4000000
namespace My
def Bd (n : Nat) (x : Int) : Prop := x.natAbs < 2 ^ n
theorem Bd.mono {m n : Nat} {x : Int} (h : Bd m x) (hn : m ≤ n) : Bd n x := Nat.lt_of_lt_of_le h (Nat.pow_le_pow_right (by decide) hn)
theorem Bd.neg {n : Nat} {x : Int} (h : Bd n x) : Bd n (-x) := by unfold Bd at *; rw [Int.natAbs_neg]; exact h
theorem Bd.mul {m n : Nat} {x y : Int} (h : Bd m x) (g : Bd n y) : Bd (m + n) (x * y) := by
  unfold Bd at *
  rw [Int.natAbs_mul, Nat.pow_add]
  exact Nat.mul_lt_mul'' h g
theorem Bd.add {n : Nat} {x y : Int} (h : Bd n x) (g : Bd n y) : Bd (n + 1) (x + y) := by
  unfold Bd at *
  rw [Nat.pow_succ]
  have := Int.natAbs_add_le x y
  omega
theorem Bd.sub {n : Nat} {x y : Int} (h : Bd n x) (g : Bd n y) : Bd (n + 1) (x - y) := by
  rw [Int.sub_eq_add_neg]; exact h.add g.neg
theorem Bd.mod {n : Nat} {x y : Int} (hy : 0 < y) (g : Bd n y) : Bd n (x % y) := by
  unfold Bd at *
  have h1 := Int.emod_nonneg x (Int.ne_of_gt hy)
  have h2 := Int.emod_lt_of_pos x hy
  omega
theorem Bd.of_le {n : Nat} {x y : Int} (g : Bd n y) (h0 : 0 ≤ x) (h : x ≤ y) : Bd n x := by
  unfold Bd at *
  omega
theorem div_bounds (x y : Int) (hy : 0 < y) : y * (x / y) ≤ x ∧ x < y * (x / y) + y := by
  have h1 := Int.mul_ediv_add_emod x y
  have h2 := Int.emod_nonneg x (Int.ne_of_gt hy)
  have h3 := Int.emod_lt_of_pos x hy
  omega
theorem Bd.div {n : Nat} {x y : Int} (hy : 0 < y) (g : Bd n x) : Bd n (x / y) := by
  unfold Bd at *
  refine Nat.lt_of_le_of_lt ?_ g
  obtain ⟨h1, h2⟩ := div_bounds x y hy
  rcases Int.lt_or_le (x / y) 0 with h | h
  · -- q < 0: x < y q + y = y (q + 1) <= q + 1
    have h3 : y * (x / y + 1) ≤ 1 * (x / y + 1) := Int.mul_le_mul_of_nonpos_right (by omega) (by omega)
    rw [Int.mul_add, Int.mul_one, Int.one_mul] at h3
    omega
  · have h3 : 1 * (x / y) ≤ y * (x / y) := Int.mul_le_mul_of_nonneg_right (by omega) h
    rw [Int.one_mul] at h3
    omega
theorem gcd_step (a b : Int) : Int.gcd b (a % b) = Int.gcd a b := by
  apply Nat.dvd_antisymm
  · apply Int.dvd_gcd
    · have h1 : ((Int.gcd b (a % b) : Nat) : Int) ∣ b := Int.gcd_dvd_left ..
      have h2 : ((Int.gcd b (a % b) : Nat) : Int) ∣ a % b := Int.gcd_dvd_right ..
      have h3 := Int.mul_ediv_add_emod a b
      have h4 := Int.dvd_add (Int.dvd_trans h1 (Int.dvd_mul_right b (a / b))) h2
      rw [h3] at h4
      exact h4
    · exact Int.gcd_dvd_left ..
  · apply Int.dvd_gcd
    · exact Int.gcd_dvd_right ..
    · have h1 : ((Int.gcd a b : Nat) : Int) ∣ a := Int.gcd_dvd_left ..
      have h2 : ((Int.gcd a b : Nat) : Int) ∣ b := Int.gcd_dvd_right ..
      have h3 := Int.mul_ediv_add_emod a b
      have h4 : a % b = a - b * (a / b) := by omega
      rw [h4]
      exact Int.dvd_sub h1 (Int.dvd_trans h2 (Int.dvd_mul_right b (a / b)))
theorem gcd_pos {a b : Int} (hb : 0 < b) : 0 < ((Int.gcd a b : Nat) : Int) := by
  have : 0 < Int.gcd a b := Int.gcd_pos_of_ne_zero_right a (Int.ne_of_gt hb)
  omega
theorem gcd_le {a b : Int} (hb : 0 < b) : ((Int.gcd a b : Nat) : Int) ≤ b :=
  Int.le_of_dvd hb (Int.gcd_dvd_right ..)
end My

namespace My
/-- what number tells of t by m, m not 0 -/
def sg (t m : Int) : Int := if m < 0 then -((Int.gcd t m : Nat) : Int) else ((Int.gcd t m : Nat) : Int)
theorem sg_ne {t m : Int} (hm : m ≠ 0) : sg t m ≠ 0 := by
  have h : 0 < Int.gcd t m := Int.gcd_pos_of_ne_zero_right t hm
  unfold sg
  split <;> omega
theorem sg_dvd_left (t m : Int) : sg t m ∣ t := by
  unfold sg
  split
  · exact Int.neg_dvd.mpr (Int.gcd_dvd_left ..)
  · exact Int.gcd_dvd_left ..
theorem sg_dvd_right (t m : Int) : sg t m ∣ m := by
  unfold sg
  split
  · exact Int.neg_dvd.mpr (Int.gcd_dvd_right ..)
  · exact Int.gcd_dvd_right ..
theorem fdiv_mul {a b : Int} (hb : b ≠ 0) (h : b ∣ a) : a.fdiv b * b = a := Int.fdiv_mul_cancel h
theorem natAbs_sg (t m : Int) : (sg t m).natAbs = Int.gcd t m := by
  unfold sg
  split
  · rw [Int.natAbs_neg, Int.natAbs_natCast]
  · rw [Int.natAbs_natCast]
/-- the four facts of a number made -/
structure Made (t m a b : Int) : Prop where
  pos : 0 < b
  low : Int.gcd a b = 1
  same : a * m = t * b
  ba : a.natAbs ≤ t.natAbs
  bb : b.natAbs ≤ m.natAbs
theorem made_of {t m : Int} (hm : m ≠ 0) : Made t m (t.fdiv (sg t m)) (m.fdiv (sg t m)) := by
  have hs := sg_ne (t := t) hm
  have e1 := fdiv_mul hs (sg_dvd_left t m)
  have e2 := fdiv_mul hs (sg_dvd_right t m)
  have hg : 0 < Int.gcd t m := Int.gcd_pos_of_ne_zero_right t hm
  generalize ha : t.fdiv (sg t m) = a at *
  generalize hb : m.fdiv (sg t m) = b at *
  have n1 : a.natAbs * Int.gcd t m = t.natAbs := by rw [← natAbs_sg, ← Int.natAbs_mul, e1]
  have n2 : b.natAbs * Int.gcd t m = m.natAbs := by rw [← natAbs_sg, ← Int.natAbs_mul, e2]
  refine ⟨?_, ?_, ?_, ?_, ?_⟩
  · -- sign
    unfold sg at e2
    by_cases h : m < 0
    · rw [if_pos h, Int.mul_neg] at e2
      rcases Int.lt_or_le 0 b with q | q
      · exact q
      · have := Int.mul_nonpos_of_nonpos_of_nonneg q (show (0 : Int) ≤ ((Int.gcd t m : Nat) : Int) by omega)
        omega
    · rw [if_neg h] at e2
      rcases Int.lt_or_le 0 b with q | q
      · exact q
      · have := Int.mul_nonpos_of_nonpos_of_nonneg q (show (0 : Int) ≤ ((Int.gcd t m : Nat) : Int) by omega)
        omega
  · have q : Int.gcd a b * Int.gcd t m = Int.gcd t m := by
      have h := Nat.gcd_mul_right a.natAbs (Int.gcd t m) b.natAbs
      rw [n1, n2] at h
      exact h.symm
    exact Nat.eq_of_mul_eq_mul_right hg (by rw [q, Nat.one_mul])
  · have q : a * m = a * (b * sg t m) := by rw [e2]
    have q2 : t * b = a * sg t m * b := by rw [e1]
    rw [q, q2, Int.mul_assoc, Int.mul_comm b]
  · rw [← n1]; exact Nat.le_mul_of_pos_right _ hg
  · rw [← n2]; exact Nat.le_mul_of_pos_right _ hg
theorem Bd.of_natAbs {n : Nat} {x y : Int} (h : x.natAbs ≤ y.natAbs) (g : Bd n y) : Bd n x := Nat.lt_of_le_of_lt h g
theorem natAbs_abs (i : Int) : (if i < 0 then -i else i) = ((i.natAbs : Nat) : Int) := by split <;> omega
end My

/-! more rules over the layer: numbers of known size, a range by steps, isinstance -/
namespace L2
open PySem PySem.Spec PyProof.Rows


abbrev Mid (x : Int) : Prop := My.Bd 4000 x
section
variable {X : Cx}
theorem op_mulB : OpR X (binaryOp .Mult) (rI (fun i j => Mid i ∧ Mid j) fun i j => .int (i * j)) := opI fun _ _ _ _ _ _ _ hc q =>
  mul_int q (IntMulOk.of_le (PySem.intBits_le_iff.mpr hc.1) (PySem.intBits_le_iff.mpr hc.2) (by decide))
theorem log2_of_Mid {j : Int} (h : Mid j) : j.natAbs.log2 < 9000 := by
  by_cases h0 : j.natAbs = 0
  · rw [h0]; decide +kernel
  · have h1 : j.natAbs.log2 < 4000 := (Nat.log2_lt h0).mpr h
    omega
theorem op_fdivB : OpR X (binaryOp .FloorDiv) (rI (fun _ j => 0 < j ∧ Mid j) fun i j => .int (i / j)) := opI fun i j _ _ _ _ _ hc q => by
  have h1 : (0 : Int) < j := hc.1
  exact floordiv_int (by omega) (by rw [Int.fdiv_eq_ediv_of_nonneg i (by omega)]; exact q) (.inl (PyProof.noPylong_of_log2 (log2_of_Mid hc.2)))
end

theorem bt_int : bootBuiltins "int" = some (.type "int") := by decide +kernel
theorem bt_bool : bootBuiltins "bool" = some (.type "bool") := by decide +kernel
theorem bt_str : bootBuiltins "str" = some (.type "str") := by decide +kernel
theorem bt_tuple : bootBuiltins "tuple" = some (.type "tuple") := by decide +kernel
theorem bt_abs : bootBuiltins "abs" = some (.builtin "abs") := by decide +kernel
theorem bt_isinstance : bootBuiltins "isinstance" = some (.builtin "isinstance") := by decide +kernel
/-! ### isinstance of a value of a known kind -/
inductive Tg where
  | non | bl | int | str | tup | lst
def tgIs (K : PySem.W.Frag) (H : Hp) : V → Tg → Prop
  | .non, .non => True
  | .bl _, .bl => True
  | .int _, .int => True
  | .str _, .str => True
  | .ref a, .tup => ∃ xs, SqT K H a xs
  | .ref a, .lst => ∃ xs, SqL K H a xs
  | _, _ => False
def Tg.isInt : Tg → Bool
  | .int => true | .bl => true | _ => false
def Tg.isBool : Tg → Bool
  | .bl => true | _ => false
def Tg.isStr : Tg → Bool
  | .str => true | _ => false
def Tg.isTup : Tg → Bool
  | .tup => true | _ => false
def Tg.isLst : Tg → Bool
  | .lst => true | _ => false
def rIsi (K : PySem.W.Frag) (n : String) (f : Tg → Bool) : List V → Hp → VK → Prop := fun xs H Q => ∃ x g, xs = [x, .ty n] ∧ tgIs K H x g ∧ Q (.bl (f g)) H
section
variable {X : Cx}
theorem isi_of {n : String} {f : Tg → Bool}
    (h1 : ∀ {A : Around} {E : Value → Shared → Prop} {s : Shared} {Q : Value → Shared → Prop}, (∀ t, Q (.bool (f .non)) { s with toks := t }) → wpAny (model X.prog X.w) A (call (.builtin "isinstance") [.none, .type n]) Q E s)
    (h2 : ∀ {A : Around} {E : Value → Shared → Prop} {s : Shared} {Q : Value → Shared → Prop} {b : Bool}, (∀ t, Q (.bool (f .bl)) { s with toks := t }) → wpAny (model X.prog X.w) A (call (.builtin "isinstance") [.bool b, .type n]) Q E s)
    (h3 : ∀ {A : Around} {E : Value → Shared → Prop} {s : Shared} {Q : Value → Shared → Prop} {b : Int} {u : Tok}, (∀ t, Q (.bool (f .int)) { s with toks := t }) → wpAny (model X.prog X.w) A (call (.builtin "isinstance") [.int b u, .type n]) Q E s)
    (h4 : ∀ {A : Around} {E : Value → Shared → Prop} {s : Shared} {Q : Value → Shared → Prop} {b : Str} {u : Tok}, (∀ t, Q (.bool (f .str)) { s with toks := t }) → wpAny (model X.prog X.w) A (call (.builtin "isinstance") [.str b u, .type n]) Q E s)
    (h5 : ∀ {A : Around} {E : Value → Shared → Prop} {s : Shared} {Q : Value → Shared → Prop} {a : Addr} {o : Obj}, s.heap.get? a = some o → o.cls = .type "tuple" → (∀ t, Q (.bool (f .tup)) { s with toks := t }) → wpAny (model X.prog X.w) A (call (.builtin "isinstance") [.ref a, .type n]) Q E s)
    (h6 : ∀ {A : Around} {E : Value → Shared → Prop} {s : Shared} {Q : Value → Shared → Prop} {a : Addr} {o : Obj}, s.heap.get? a = some o → o.cls = .type "list" → (∀ t, Q (.bool (f .lst)) { s with toks := t }) → wpAny (model X.prog X.w) A (call (.builtin "isinstance") [.ref a, .type n]) Q E s) :
    CallR X (.builtin "isinstance") (rIsi X.K n f) := by
  intro pins s σ H xs us Q I r h
  obtain ⟨x, g, rfl, e, q⟩ := h
  obtain ⟨u, w, rfl, rx, rw'⟩ := vals2 r
  cases rw'
  have fin : ∀ k : Bool, Q (.bl k) H → ∀ t, EP X pins σ Q (.bool k) { s with toks := t } := fun k q t => ⟨.bl k, H, I.tok t, rfl, q⟩
  cases x with
  | non => cases g <;> first | exact (show False from e).elim | (cases rx; exact h1 (fin _ q))
  | bl b => cases g <;> first | exact (show False from e).elim | (cases rx; exact h2 (fin _ q))
  | int i => cases g <;> first | exact (show False from e).elim | (obtain ⟨t, rfl⟩ := rx; exact h3 (fin _ q))
  | str y => cases g <;> first | exact (show False from e).elim | (obtain ⟨t, rfl⟩ := rx; exact h4 (fin _ q))
  | ref a =>
    cases rx
    cases g with
    | tup =>
      obtain ⟨xs, hx⟩ := (show ∃ xs, SqT X.K H a xs from e)
      obtain ⟨its, _, ⟨o, ho, hc, _⟩, _⟩ := I.tuple hx
      exact h5 ho hc (fin _ q)
    | lst =>
      obtain ⟨xs, hx⟩ := (show ∃ xs, SqL X.K H a xs from e)
      obtain ⟨its, _, ⟨o, n, ho, hc, _⟩, _⟩ := I.list hx
      exact h6 ho hc (fin _ q)
    | non => exact (show False from e).elim
    | bl => exact (show False from e).elim
    | int => exact (show False from e).elim
    | str => exact (show False from e).elim
  | _ => exact (show False from e).elim
theorem isi_int : CallR X (.builtin "isinstance") (rIsi X.K "int" Tg.isInt) := isi_of (fun q => IsiPair.NoneType_int (q _)) (fun q => IsiPair.bool_int (q _)) (fun q => IsiPair.int_int (q _)) (fun q => IsiPair.str_int (q _))
  (fun ho hc q => call_isinstance (isinstance_false_tuple (by decide) PySem.F.isi_meta_int PySem.F.sub_tuple_int) ⟨⟨_, ho, hc⟩, q _⟩) (fun ho hc q => call_isinstance (isinstance_false_list (by decide) PySem.F.isi_meta_int PySem.F.sub_list_int) ⟨⟨_, ho, hc⟩, q _⟩)
theorem isi_bool : CallR X (.builtin "isinstance") (rIsi X.K "bool" Tg.isBool) := isi_of (fun q => IsiPair.NoneType_bool (q _)) (fun q => IsiPair.bool_bool (q _)) (fun q => IsiPair.int_bool (q _)) (fun q => IsiPair.str_bool (q _))
  (fun ho hc q => call_isinstance (isinstance_false_tuple (by decide) PySem.F.isi_meta_bool PySem.F.sub_tuple_bool) ⟨⟨_, ho, hc⟩, q _⟩) (fun ho hc q => call_isinstance (isinstance_false_list (by decide) PySem.F.isi_meta_bool PySem.F.sub_list_bool) ⟨⟨_, ho, hc⟩, q _⟩)
theorem isi_str : CallR X (.builtin "isinstance") (rIsi X.K "str" Tg.isStr) := isi_of (fun q => IsiPair.NoneType_str (q _)) (fun q => IsiPair.bool_str (q _)) (fun q => IsiPair.int_str (q _)) (fun q => IsiPair.str_str (q _))
  (fun ho hc q => call_isinstance (isinstance_false_tuple (by decide) PySem.F.isi_meta_str PySem.F.sub_tuple_str) ⟨⟨_, ho, hc⟩, q _⟩) (fun ho hc q => call_isinstance (isinstance_false_list (by decide) PySem.F.isi_meta_str PySem.F.sub_list_str) ⟨⟨_, ho, hc⟩, q _⟩)
theorem isi_tuple : CallR X (.builtin "isinstance") (rIsi X.K "tuple" Tg.isTup) := isi_of (fun q => IsiPair.NoneType_tuple (q _)) (fun q => IsiPair.bool_tuple (q _)) (fun q => IsiPair.int_tuple (q _)) (fun q => IsiPair.str_tuple (q _))
  (fun ho hc q => call_isinstance (isinstance_true (Tx := "tuple") PySem.F.isi_meta_tuple PySem.F.sub_tuple_tuple) ⟨⟨_, ho, hc⟩, q _⟩) (fun ho hc q => call_isinstance (isinstance_false_list (by decide) PySem.F.isi_meta_tuple PySem.F.sub_list_tuple) ⟨⟨_, ho, hc⟩, q _⟩)
/-- isinstance(e, T) of a built-in type -/
theorem pe_isi {e : Expr} {te : TE} {n : Str} {T : String} {f : Tg → Bool} {p p2 pos : Pos} (hc : CallR X (.builtin "isinstance") (rIsi X.K T f)) (hg : Gl X "isinstance") (hg2 : Gl X n) (hm : X.mg "isinstance" = none) (hm2 : X.mg n = none) (hb : bootBuiltins n = some (.type T)) (he : PE X e te)
    (hn : n ≠ "__name__" := by decide) (hd : (n == ("__debug__" : Str)) = false := by decide)
    (hs1 : starEach [e, .Name n p2] X.env = (false, eval e X.env) :: starEach [.Name n p2] X.env := by rfl) (hs2 : starEach [.Name n p2] X.env = (false, eval (.Name n p2) X.env) :: starEach [] X.env := by rfl)
    (hpl : (backTo pos (starEach [.Name n p2] X.env)).any (·.1) = false := by rfl) :
    PE X (.Call (.Name "isinstance" p) [e, .Name n p2] [] pos) (tCB (rIsi X.K T f) (tCons te (tCons (tC (.ty T)) tNil))) :=
  pe_callB hc hg hm bt_isinstance (pa_cons he (pa_cons (pe_bltn (v := .ty T) hg2 hm2 hb rfl hn hd) pa_nil hs2) hs1) (by decide) (by decide) hs1 hpl
end

/-! ### range(lo, hi, step), step above 0 -/
def Itr3 (lo c : Int) (n : Nat) : It := ⟨fun i _ => i < n, fun i H x H' => H' = H ∧ x = .int (lo + (i : Nat) * c), fun i _ => n ≤ i⟩
theorem turn_range3 {P : Program} {w : World} {K : PySem.W.Frag} {tg : Expr} (it : Addr) (lo c : Int) (n : Nat) : Turn P w K tg (Itr3 lo c n) [it] it (fun i h => IsRangeIter h it (lo + (i : Nat) * c) ((n : Int) - (i : Nat)) c) where
  mem := by simp
  obj := fun i h st b hb => by
    have e : b = it := by simpa using hb
    subst e
    exact ⟨_, st, fun v z => by
      have z' : Data.fields _ = Data.cell v := z
      cases z'⟩
  keep := fun i h h' st k => k it (by simp) _ st
  item := by
    intro X hP hw hK hc i pins s σ H E I hf st hg
    subst hP hw hK
    obtain ⟨f0, f1, f2, f3, f4, f5⟩ := hf it (by simp)
    have W := Walks.range (prog := X.prog) (w := X.w) (I.ok.hd hc) it lo c n
    refine W.item i s _ _ hg st fun v h' tk hv st' kk => ?_
    obtain ⟨t, rfl⟩ := hv
    have I1 : Inv X pins σ H { s with heap := h', toks := tk } := I.turned (fun b o hb e => kk b o (by simpa using hb) e) f0 f1 f3 f4 f5
    exact ⟨_, rfl, go_of (s := { s with heap := h', toks := tk }) (n := "range_iterator") st' rfl rfl (by decide) ⟨.int (lo + (i : Nat) * c), H, I1, ⟨t, rfl⟩, ⟨rfl, rfl⟩, st', fun b hb => (hf b hb).1⟩⟩
  done := by
    intro X hP hw hK hc i pins s σ H E I hf st hg
    subst hP hw hK
    obtain ⟨f0, f1, f2, f3, f4, f5⟩ := hf it (by simp)
    exact wpAny_pyNext_range_end (I.ok.hd hc) st (by have : n ≤ i := hg; omega) fun h' eb => ⟨rfl, I.turned (t' := s.toks) (fun b o hb e => eb b o hb e) f0 f1 f3 f4 f5⟩
  self := fun _ _ _ _ _ st h => wpAny_pyIter_rangeiter st h
def rngN (i j c : Int) : Nat := (Builtin.Range.rangeSize i j c).toNat
def iRng3 (ta : TA) : TI := fun σ H R => ta σ H fun vs H1 => ∃ i j c : Int, vs = [.int i, .int j, .int c] ∧ 0 < c ∧ c < 1073741824 ∧ Builtin.Range.small i j c = true ∧ R (Itr3 i c (rngN i j c)) H1
theorem rng_nonneg {i j c : Int} (hc : 0 < c) : 0 ≤ Builtin.Range.rangeSize i j c := by
  unfold Builtin.Range.rangeSize
  rw [if_pos hc]
  by_cases h : i < j
  · rw [if_pos h]
    have := Int.ediv_nonneg (show 0 ≤ j - i - 1 by omega) (Int.le_of_lt hc)
    omega
  · rw [if_neg h]; exact Int.le_refl _
section
variable {X : Cx} {tg : Expr}
theorem pi_range3 {a b c : Expr} {ta : TA} {p pos : Pos} (hg : Gl X "range") (hm : X.mg "range" = none) (ha : PA X [a, b, c] ta) (hs : starEach [a, b, c] X.env = (false, eval a X.env) :: starEach [b, c] X.env := by rfl) (hs2 : (backTo pos (starEach [b, c] X.env)).any (·.1) = false := by rfl) :
    PI X tg (.Call (.Name "range" p) [a, b, c] [] pos) (iRng3 ta) := by
  intro pins s σ H R I h
  refine Call_ (ld_blt I hg hm boot_range (PyProof.Rows.callWith_type1 (thn (ha pos pins s σ H _ I h) fun us s1 ⟨vs, H1, I1, r1, q1⟩ => ?_) hs hs2))
  obtain ⟨i, j, d, e, h0, h1, hsm, q⟩ := q1
  subst e
  cases r1 with
  | cons r rr =>
    cases rr with
    | cons r' rr =>
      cases rr with
      | cons r'' rr =>
        cases rr
        obtain ⟨t, rfl⟩ := r
        obtain ⟨t', rfl⟩ := r'
        obtain ⟨t'', rfl⟩ := r''
        refine call_range_3 (Int.ne_of_gt h0) ?_ (.inl (PyProof.noPylong_small (by omega)))
        refine wpAny_pyIter_range (IsRange.new ..) hsm ?_
        have I2 : Inv X pins σ H1 { s1 with heap := s1.heap.push { cls := .type "range", data := .fields #[.int i t, .int j t', .int d t''] }, toks := s1.toks } := I1.kept fun b o e => Heap.get?_push_of_some _ e
        refine ⟨(s1.heap.push { cls := .type "range", data := .fields #[.int i t, .int j t', .int d t''] }).objs.size, [(s1.heap.push { cls := .type "range", data := .fields #[.int i t, .int j t', .int d t''] }).objs.size], _, _, H1, rfl,
          I2.kept (t' := s1.toks) fun b o e => Heap.get?_push_of_some _ e, turn_range3 _ i d (rngN i j d), ?_, fun b hb => ?_, q⟩
        · have e1 : i + ((0 : Nat) : Int) * d = i := by simp
          have e2 : ((rngN i j d : Nat) : Int) - ((0 : Nat) : Int) = Builtin.Range.rangeSize i j d := by
            have := rng_nonneg (i := i) (j := j) h0
            unfold rngN
            omega
          show IsRangeIter _ _ (i + ((0 : Nat) : Int) * d) (((rngN i j d : Nat) : Int) - ((0 : Nat) : Int)) d
          rw [e1, e2]
          exact Heap.get?_push_size _ rfl
        · have e : b = (s1.heap.push { cls := .type "range", data := .fields #[.int i t, .int j t', .int d t''] }).objs.size := by simpa using hb
          subst e
          exact I2.fpOk (Nat.le_refl _) (I2.hok.fresh (Nat.le_refl _))
end
theorem for_range3 {lo c : Int} {n : Nat} {g : TG} {tb : TS} {D : Ends} {σ : St} {H : Hp} (Pv : Nat → St → Hp → Prop) (h0 : Pv 0 σ H)
    (hs : ∀ i σ H, i < n → Pv i σ H → g (.int (lo + (i : Nat) * c)) σ H fun σ2 H2 => tb { D with nx := Pv (i + 1), ct := Pv (i + 1), bk := D.nx } σ2 H2) (hd : ∀ σ H, Pv n σ H → D.nx σ H) :
    ∃ W : Nat → Nat → St → Hp → Prop, (∃ m, W 0 m σ H) ∧ ∀ i m σ H, W i m σ H →
      ((Itr3 lo c n).stop i H ∧ D.nx σ H) ∨ ((Itr3 lo c n).go i H ∧ ∃ N : St → Hp → Prop, (∀ σ' H', N σ' H' → ∃ m', m' < m ∧ W (i + 1) m' σ' H') ∧ ∀ x H', (Itr3 lo c n).yld i H x H' → g x σ H' fun σ2 H2 => tb { D with nx := N, ct := N, bk := D.nx } σ2 H2) := by
  refine ⟨fun i m σ H => m = n - i ∧ i ≤ n ∧ Pv i σ H, ⟨n, by simp, Nat.zero_le _, h0⟩, ?_⟩
  rintro i m σ H ⟨rfl, hi, p⟩
  by_cases hlt : i < n
  · refine .inr ⟨hlt, Pv (i + 1), fun σ' H' p' => ⟨n - (i + 1), by omega, rfl, hlt, p'⟩, fun x H' y => ?_⟩
    obtain ⟨e, y⟩ := y
    subst e y
    exact hs i σ _ hlt p
  · have e : i = n := by omega
    subst e
    exact .inl ⟨Nat.le_refl _, hd σ H p⟩
theorem Same.new {H : Hp} {p : Addr} (h : H p = none) (o : HO) : Same H (upd H p o) := fun b u q => by rw [upd_ne (ne_of_none q h)]; exact q
theorem Same.tup {K : PySem.W.Frag} {H H' : Hp} {a : Addr} {xs : List V} (e : Same H H') (h : SqT K H a xs) : SqT K H' a xs := by
  rcases h with (h | ⟨o, h⟩) | h
  · exact .inl (.inl (e _ _ h))
  · exact .inl (.inr ⟨o, e _ _ h⟩)
  · exact .inr h
/-- a def with defaults -/
structure FunD (K : PySem.W.Frag) (x qual : Str) (st : Stmt) (f : Addr) (fd : FuncData) : Prop where
  ex : ∃ (oc : Value) (od : Option Addr) (dV kV doc pm : Value) (an : Option Addr) (cdv ct : Value) (osl : Array (Option Value)),
    fd = PySem.W.fnOf x qual (defArgs st) (defBody st) (defScope st) dV kV doc pm an cdv ct ∧ K.lookup f = some ⟨oc, od, .func fd, osl⟩ ∧ PySem.W.codeIn K cdv qual = true
  kp : PySem.W.keepIn K (.ref f) = true
theorem fun_mkD {K : PySem.W.Frag} {x qual : Str} {st : Stmt} {f : Addr} {oc : Value} {od an : Option Addr} {osl : Array (Option Value)} {dV kV doc pm cdv ct : Value} (l : K.lookup f = some ⟨oc, od, .func (PySem.W.fnOf x qual (defArgs st) (defBody st) (defScope st) dV kV doc pm an cdv ct), osl⟩)
    (c : PySem.W.codeIn K cdv qual = true) (k : PySem.W.keepIn K (.ref f) = true) : FunD K x qual st f (PySem.W.fnOf x qual (defArgs st) (defBody st) (defScope st) dV kV doc pm an cdv ct) := ⟨⟨oc, od, dV, kV, doc, pm, an, cdv, ct, osl, rfl, l, c⟩, k⟩
section
variable {X : Cx}
theorem op_fdivNB : OpR X (binaryOp .FloorDiv) (rI (fun _ j => j ≠ 0 ∧ Mid j) fun i j => .int (i.fdiv j)) := opI fun _ _ _ _ _ _ _ hc q => floordiv_int hc.1 q (.inl (PyProof.noPylong_of_log2 (log2_of_Mid hc.2)))
end
end L2

/-! exceptions over the layer: a flying exception behind a call, raise, try around one call -/
namespace L2
open PySem PySem.Spec PyProof.Rows

/-- how an exception lies behind a call: B holds all that stays as it is while the exception flies -/
def CXe (P : Program) (w : World) : CXT := fun outer H s E e s' => ∃ (a C : Addr) (a0 : Value) (H' : Hp) (B : Heap),
  e = .ref a ∧ s'.os = s.os ∧ AllBare s'.gens ∧ Un (frs outer) [] H H' s.heap s'.heap ∧ HOk P w H' B ∧ Heap.FlyingW B outer a (.ref C) a0 s'.heap ∧
  (∀ b o, s.heap.get? b = some o → H b = none → b ∉ frs outer → B.get? b = some o) ∧ (∀ b o, s.heap.get? b = some o → b ∉ frs outer → ∃ o', B.get? b = some o') ∧ E (.ref C) none H'

/-- no exception is wished: none comes -/
theorem passE0 {P : Program} {w : World} {X : Cx} : Passes (CXe P w) X E0 := fun _ _ _ _ _ _ _ h => by
  obtain ⟨_, _, _, _, _, _, _, _, _, _, _, _, _, q⟩ := h
  exact q.elim

section
variable {P : Program} {w : World} {K : PySem.W.Frag} {mg : Str → Option Value} {base : Heap} {N : List Str} {qual : Str} {scope : Scope} {f : Addr} {cd : Value} {A : Around} {outer : List Env} {s : Shared} {H : Hp} {E : XK}
  {pins : List (Addr × Obj)} {σ : St} {H1 : Hp} {s1 : Shared}
theorem frs_own {CX : CXT} {b : Addr} : b ∈ frs (cxOf CX P w K mg base N qual scope f cd A outer s H E).stack ↔ b = s.heap.objs.size ∨ b ∈ frs outer := by
  show b ∈ (envOfC qual scope s.heap.objs.size f cd :: outer).filterMap (·.frame) ↔ _
  rw [List.filterMap_cons]
  exact List.mem_cons
/-- an exception just made in the body leaves the def -/
theorem raises_cx {h' : Heap} {e C : Addr} {vs : List Value} (I : Inv (cxOf (CXe P w) P w K mg base N qual scope f cd A outer s H E) pins σ H1 s1) (hx : Heap.MadeExcOf s1.heap h' e (.ref C) vs) (q : E (.ref C) none H1) :
    (cxOf (CXe P w) P w K mg base N qual scope f cd A outer s H E).xe (.ref e) { s1 with heap := h' } := by
  have hin : ∀ env ∈ (cxOf (CXe P w) P w K mg base N qual scope f cd A outer s H E).stack, ∀ b, env.frame = some b → b ∈ frs (cxOf (CXe P w) P w K mg base N qual scope f cd A outer s H E).stack := fun env he b hb => List.mem_filterMap.mpr ⟨env, he, hb⟩
  have toB : ∀ b o, s1.heap.get? b = some o → b ∉ frs (cxOf (CXe P w) P w K mg base N qual scope f cd A outer s H E).stack → (PySem.W.hideAll s1.heap (frs (cxOf (CXe P w) P w K mg base N qual scope f cd A outer s H E).stack)).get? b = some o := fun b o e n => PySem.W.hideAll_get _ e n
  have hl := PySem.W.funFrames_hide (as := frs (cxOf (CXe P w) P w K mg base N qual scope f cd A outer s H E).stack) I.stack hin
  have nstk : ∀ b o, s.heap.get? b = some o → b ∉ frs outer → b ∉ frs (cxOf (CXe P w) P w K mg base N qual scope f cd A outer s H E).stack := fun b o e n z => by
    rcases frs_own.mp z with z | z
    · rw [z] at e
      exact absurd (Heap.lt_size e) (Nat.lt_irrefl _)
    · exact n z
  have hB : HOk P w H1 (PySem.W.hideAll s1.heap (frs (cxOf (CXe P w) P w K mg base N qual scope f cd A outer s H E).stack)) := fun b u eu => (I.hok b u eu).stay (fun c v hc q => toB c v q fun z => by
    have n := I.stkFree c z
    rcases hc with hc | hc
    · rw [hc, eu] at n; cases n
    · rw [hc] at n; cases n) (fun _ q => q) fun _ _ q => q
  refine wpAny_leaves_madeW (base := PySem.W.hideAll s1.heap (frs (cxOf (CXe P w) P w K mg base N qual scope f cd A outer s H E).stack)) (h := s1.heap) (s := { s1 with heap := h' }) I.ok.frames rfl (fun b o q => PySem.W.of_hideAll _ q) hl hx fun h2 t fl tup ht us => ?_
  refine ⟨e, C, .ref t, H1, _, rfl, I.os, I.bare, ?_, hB, fl, ?_, ?_, q⟩
  · have cs : ∀ b ∈ frs outer, ∀ o, s1.heap.get? b = some o → ∃ sl, h2.get? b = some { o with slots := sl } := fun b hb o e => by
      obtain ⟨_, o', e', hd⟩ := I.funs.mem hb
      rw [e] at e'; cases e'
      exact us b o (hx.keeps b o e) hd
    exact {
      keep := fun b o e n hb _ => fl.1 b o (toB b o (I.base.keep b o e n hb (by exact fun z => nomatch z)) (nstk b o e hb))
      slot := fun b o e n hb _ => by
        obtain ⟨sl, e1⟩ := I.base.slot b o e n hb (by exact fun z => nomatch z)
        obtain ⟨sl', e2⟩ := cs b hb _ e1
        exact ⟨sl', e2⟩
      free := fun b o e n _ => I.base.free b o e n (by exact fun z => nomatch z)
      there := fun b o e _ => by
        obtain ⟨o', e1⟩ := I.base.there b o e (by exact fun z => nomatch z)
        by_cases hb : b ∈ frs outer
        · obtain ⟨sl, e2⟩ := cs b hb _ e1
          exact ⟨_, e2⟩
        · exact ⟨o', fl.1 b o' (toB b o' e1 (nstk b o e hb))⟩
      tups := I.base.tups
      frzs := I.base.frzs
      tbls := I.base.tbls }
  · exact fun b o e n hb => toB b o (I.base.keep b o e n hb (by exact fun z => nomatch z)) (nstk b o e hb)
  · intro b o e hb
    obtain ⟨o', e1⟩ := I.base.there b o e (by exact fun z => nomatch z)
    exact ⟨o', toB b o' e1 (nstk b o e hb)⟩
/-- THE RULE for a def that may raise -/
theorem FunD.okE {x qual : Str} {st : Stmt} {f : Addr} {fd : FuncData} {N ps : List Str} {k : Nat} {sp : Sp} (F : FunD K x qual st f fd) (S : FnScope N ps (defScope st)) (len : ∀ vs H Q E, sp vs H Q E → vs.length = ps.length)
    (hbody : ∀ (cdv : Value) (A : Around) (outer : List Env) (s : Shared) (H : Hp) (vs : List V) (Q : VK) (E : XK), Room k (A.deeper (envOfC qual (defScope st) s.heap.objs.size f cdv)) → sp vs H Q E →
      ∃ t, PSs (cxOf (CXe P w) P w K mg base N qual (defScope st) f cdv A outer s H E) (defBody st) t ∧ t { nx := fun _ H' => Q .non H', rt := Q } (start N vs) H) : FnOk P w K mg base (CXe P w) (k + 1) f fd ps sp := by
  obtain ⟨oc, od, dV, kV, doc, pm, an, cdv, ct, osl, rfl, lk, hcd⟩ := F.ex
  exact fn_of lk hcd S len fun A outer s H vs Q E hr hsp => hbody cdv A outer s H vs Q E hr hsp
end

/-! ### raise C(..) of an own class under ValueError -/
abbrev bmVE : List Value := [.type "ValueError", .type "Exception", .type "BaseException", .type "object"]
theorem topRead_any {p : Program} {mg mb : Str → Option Value} {h : Heap} (g : h.Ns mainGlobals mg) (b : h.Ns builtinsNs mb) (nl : h.NoLimit) (bl : ∀ x : Str, x ≠ "__name__" → mb x = bootBuiltins x) :
    ∃ loose, PySem.W.TopRead p loose mg mb h := by
  obtain ⟨o, es, ep, ho, hd, hk, hm⟩ := id g
  refine ⟨es.toList.filterMap (fun (e : DictEntry) => match e.key with | .str n _ => some n | _ => none), ⟨g, b, nl, bl, fun x _ hx _ _ _ => ?_⟩⟩
  rw [← hm x]
  unfold nsFind findBy
  rw [Option.map_eq_none_iff, Array.find?_eq_none]
  intro e he hs
  obtain ⟨n, t, hn⟩ := hk e he
  apply hx
  refine List.mem_filterMap.mpr ⟨e, Array.mem_toList_iff.mpr he, ?_⟩
  rw [hn] at hs ⊢
  have e2 : n = x := by simpa [Value.isStr] using hs
  rw [e2]
def tRaise (C : Addr) (E : XK) (t : TA) : TS := fun _ σ H => t σ H fun vs H1 => vs.length ≤ sizeLine ∧ E (.ref C) none H1
/-- an exception of the class at C, just made, is as E wishes -/
def Raises (X : Cx) (C : Addr) (E : XK) : Prop := ∀ (pins : List (Addr × Obj)) (σ : St) (H : Hp) (s : Shared) (h' : Heap) (e : Addr) (vs : List Value), Inv X pins σ H s → Heap.MadeExcOf s.heap h' e (.ref C) vs → E (.ref C) none H → X.xe (.ref e) { s with heap := h' }
theorem raisesE {P : Program} {w : World} {K : PySem.W.Frag} {mg : Str → Option Value} {base : Heap} {N : List Str} {qual : Str} {scope : Scope} {f C : Addr} {cd : Value} {A : Around} {outer : List Env} {s : Shared} {H : Hp} {E : XK} :
    Raises (cxOf (CXe P w) P w K mg base N qual scope f cd A outer s H E) C E := fun _ _ _ _ _ _ _ I me q => raises_cx I me q
section
variable {X : Cx} {E : XK} {x : Str} {np cpos pos : Pos} {e0 : Expr} {es : List Expr} {t : TA} {C : Addr}
theorem ps_raise (hc : X.calm = true) (O : PySem.W.excIn X.K C bmVE "ValueError.__new__" = true) (hn : PySem.W.nsIn X.K mainGlobals x = some (some (.ref C))) (hm : X.mg x = some (.ref C)) (hg : Gl X x) (hx : Raises X C E) (ha : PA X (e0 :: es) t)
    (hd : (x == ("__debug__" : Str)) = false := by decide) (he : starEach (e0 :: es) X.env = (false, eval e0 X.env) :: starEach es X.env := by rfl) (hpl : (backTo cpos (starEach es X.env)).any (·.1) = false := by rfl) :
    PS X (.Raise (some (.Call (.Name x np) (e0 :: es) [] cpos)) none pos) (tRaise C E t) := by
  intro pins s σ H D I h
  obtain ⟨mb, b1, b2⟩ := I.mod.blt
  obtain ⟨loose, TR⟩ := topRead_any (p := X.prog) I.mod.glob b1 I.mod.nolimit b2
  have OC := PySem.W.own_of_in I.mod.kin TR hn O
  obtain ⟨tl, Nn, nm, qq, bs, hdct, sn, sub, ab, col, dd, k0, k1, k2, k3, k5, mN, oC, oN, oi, oT⟩ := OC.obj
  have hp2 : (backTo cpos (starEach (e0 :: es) X.env)).any (·.1) = false := by
    rw [he]
    show (false || (backTo cpos (starEach es X.env)).any (·.1)) = false
    rw [hpl]
    rfl
  refine wpAny_Raise_call_subU (C := C) (nm := nm) (q := qq) (N := Nn) (bs := bs) (bm := tl) (hdct := hdct) (sn := sn) (sub := sub) (ab := ab) (col := col) (dd := dd) (k0 := k0) (k1 := k1) (k2 := k2) (k3 := k3) (k5 := k5)
    PySem.F.excBase_ValueError (by decide) PySem.F.excBase_ValueError (mN := mN) (oT.hasType PySem.F.excBase_ValueError.hasBase) (I.ok.hd hc) hp2 oi (ld_glob I hg hm ⟨rfl, ?_⟩ hd)
  have hA := ha cpos pins s σ H _ I h
  rw [he] at hA ⊢
  refine Calls.evalArgs_plain (thn hA fun us s2 ⟨vs, H2, I2, r2, hl, q⟩ => ⟨rfl, by rw [← r2.length]; exact hl, I2.bk _ _ oC, oN.keeps I2.bk, oT.keeps I2.bk, fun h' e me => hx pins σ H2 s2 h' e us I2 me q⟩)
end

/-! ### try around one call -/
abbrev Cx.marked (X : Cx) (a : Addr) : Cx := { X with A := X.A.mark (some (.ref a)), calm := false }
section
variable {X : Cx} {pins : List (Addr × Obj)} {σ : St} {H H' : Hp} {s s' : Shared}
end
/-- the class at C is met by the name x, whose class is at T -/
structure Meets1 (X : Cx) (x : Str) (T : Addr) (C : Addr) (b : Bool) : Prop where
  gl : Gl X x
  m : X.mg x = some (.ref T)
  ex : PySem.W.exmOne X.K (.ref C) (.ref T) = some b
  db : (x == ("__debug__" : Str)) = false
section
variable {X : Cx} {pins : List (Addr × Obj)} {σ : St} {H : Hp} {s s' : Shared} {E : XK} {ex : Value} {x : Str} {T : Addr} {np hpos : Pos} {b0 : Stmt} {suite : List Stmt} {ts : TS} {D : Ends} {Q0 : Hp → Prop}
end
/-- x = f(..) within try, one class caught, no name -/
def tTryA (i : Nat) (sp : Sp) (dvs : List V) (T : Addr) (Mt : Addr → Prop) (t : TA) (ts : TS) : TS := fun D σ H => t σ H fun vs H1 => sp (vs ++ dvs) H1 (fun v H2 => D.nx (σ.set i (some v)) H2) fun cls _ H2 => ∃ C, cls = .ref C ∧ Mt C ∧ ts D σ H2
section
variable {X : Cx} {k : Nat} {f : Addr} {fd : FuncData} {ps : List Str} {sp : Sp} {dvs : List V} {ds : List Value} {fx x cx : Str} {p cpos px apos np hpos pos : Pos} {e : Expr} {es : List Expr} {t : TA} {T : Addr} {b0 : Stmt} {suite : List Stmt} {ts : TS} {i : Nat}
end
end L2

/-! numbers as rationals -/
namespace My
def qv (a b : Int) : Rat := (a : Rat) / (b : Rat)
theorem cast_ne {b : Int} (h : b ≠ 0) : (b : Rat) ≠ 0 := fun z => h (Rat.intCast_inj.mp z)
theorem qv_eq {a b t m : Int} (hb : b ≠ 0) (hm : m ≠ 0) (h : a * m = t * b) : qv a b = qv t m := by
  have hb' := cast_ne hb
  have hm' := cast_ne hm
  have h' : (a : Rat) * m = t * b := by rw [← Rat.intCast_mul, ← Rat.intCast_mul, h]
  unfold qv
  grind
theorem eq_of_qv {a b t m : Int} (hb : b ≠ 0) (hm : m ≠ 0) (h : qv a b = qv t m) : a * m = t * b := by
  have hb' := cast_ne hb
  have hm' := cast_ne hm
  unfold qv at h
  refine Rat.intCast_inj.mp ?_
  rw [Rat.intCast_mul, Rat.intCast_mul]
  grind
theorem low_unique {a b c d : Int} (hb : 0 < b) (hd : 0 < d) (h1 : Int.gcd a b = 1) (h2 : Int.gcd c d = 1) (h : a * d = c * b) : a = c ∧ b = d := by
  have n : a.natAbs * d.natAbs = c.natAbs * b.natAbs := by rw [← Int.natAbs_mul, ← Int.natAbs_mul, h]
  have e1 : b.natAbs ∣ d.natAbs := by
    have q : b.natAbs ∣ a.natAbs * d.natAbs := ⟨c.natAbs, by rw [n, Nat.mul_comm]⟩
    exact Nat.Coprime.dvd_of_dvd_mul_left (Nat.Coprime.symm h1) q
  have e2 : d.natAbs ∣ b.natAbs := by
    have q : d.natAbs ∣ c.natAbs * b.natAbs := ⟨a.natAbs, by rw [← n, Nat.mul_comm]⟩
    exact Nat.Coprime.dvd_of_dvd_mul_left (Nat.Coprime.symm h2) q
  have e3 : b.natAbs = d.natAbs := Nat.dvd_antisymm e1 e2
  have e4 : b = d := by omega
  subst e4
  exact ⟨Int.eq_of_mul_eq_mul_right (by omega) h, rfl⟩
theorem qv_plus {a b c d : Int} (hb : b ≠ 0) (hd : d ≠ 0) : qv (a * d + c * b) (b * d) = qv a b + qv c d := by
  have hb' := cast_ne hb
  have hd' := cast_ne hd
  unfold qv
  rw [Rat.intCast_add, Rat.intCast_mul, Rat.intCast_mul, Rat.intCast_mul]
  grind
theorem qv_minus {a b c d : Int} (hb : b ≠ 0) (hd : d ≠ 0) : qv (a * d - c * b) (b * d) = qv a b - qv c d := by
  have hb' := cast_ne hb
  have hd' := cast_ne hd
  unfold qv
  rw [Rat.intCast_sub, Rat.intCast_mul, Rat.intCast_mul, Rat.intCast_mul]
  grind
theorem qv_times {a b c d : Int} (hb : b ≠ 0) (hd : d ≠ 0) : qv (a * c) (b * d) = qv a b * qv c d := by
  have hb' := cast_ne hb
  have hd' := cast_ne hd
  unfold qv
  rw [Rat.intCast_mul, Rat.intCast_mul]
  grind
theorem qv_over {a b c d : Int} (hb : b ≠ 0) (hd : d ≠ 0) (hc : c ≠ 0) : qv (a * d) (b * c) = qv a b / qv c d := by
  have hb' := cast_ne hb
  have hd' := cast_ne hd
  have hc' := cast_ne hc
  unfold qv
  rw [Rat.intCast_mul, Rat.intCast_mul]
  grind
theorem qv_int (a : Int) : qv a 1 = (a : Rat) := by
  unfold qv
  grind
end My

/-! numbers as rationals: order -/
namespace My
theorem cast_pos {b : Int} (h : 0 < b) : (0 : Rat) < (b : Rat) := Rat.intCast_lt_intCast.mpr h
theorem lt_qv {a b c d : Int} (hb : 0 < b) (hd : 0 < d) : qv a b < qv c d ↔ a * d < c * b := by
  have hb' := cast_pos hb
  have hd' := cast_pos hd
  unfold qv
  rw [Rat.div_lt_iff hb', show (c : Rat) / d * b = (c * b : Rat) / d by grind, Rat.lt_div_iff hd', ← Rat.intCast_mul, ← Rat.intCast_mul]
  exact Rat.intCast_lt_intCast
theorem le_qv {a b c d : Int} (hb : 0 < b) (hd : 0 < d) : qv a b ≤ qv c d ↔ ¬ c * b < a * d := by
  rw [← lt_qv hd hb]
  exact Rat.not_lt.symm
/-- along a piece: the part between 0 and 1 -/
theorem part_in {E A C : Rat} (h : A < C) (h1 : A ≤ E) (h2 : E ≤ C) : 0 ≤ (E - A) / (C - A) ∧ (E - A) / (C - A) ≤ 1 := by
  have hp : 0 < C - A := by grind
  constructor
  · rw [← Rat.not_lt, Rat.div_lt_iff hp]
    grind
  · rw [← Rat.not_lt, Rat.lt_div_iff hp]
    grind
theorem along_in {E A C F T : Rat} (h : A < C) (hf : F < T) (h1 : A ≤ E) (h2 : E ≤ C) : F ≤ F + (E - A) / (C - A) * (T - F) ∧ F + (E - A) / (C - A) * (T - F) ≤ T := by
  obtain ⟨p0, p1⟩ := part_in h h1 h2
  generalize (E - A) / (C - A) = r at *
  have w1 : 0 ≤ r * (T - F) := Rat.mul_nonneg p0 (by grind)
  have w2 : r * (T - F) ≤ 1 * (T - F) := Rat.mul_le_mul_of_nonneg_right p1 (by grind)
  grind
end My

/-! a scale as a relation of values and places -/
namespace My
structure Sc (R : Rat → Rat → Prop) (len : Rat) : Prop where
  lo : ∀ {v r : Rat}, R v r → 0 ≤ r
  hi : ∀ {v r : Rat}, R v r → r ≤ len
  up : ∀ {v w r s : Rat}, R v r → R w s → v < w → r < s
  fn : ∀ {v r s : Rat}, R v r → R v s → r = s
theorem Sc.lt {R : Rat → Rat → Prop} {len : Rat} (S : Sc R len) {v w r s : Rat} (h1 : R v r) (h2 : R w s) : v < w ↔ r < s := by
  refine ⟨S.up h1 h2, fun h => ?_⟩
  rcases (Rat.le_total : v ≤ w ∨ w ≤ v) with z | z
  · rcases Rat.le_iff_lt_or_eq.mp z with y | y
    · exact y
    · subst y
      have := S.fn h1 h2
      grind
  · rcases Rat.le_iff_lt_or_eq.mp z with y | y
    · have := S.up h2 h1 y
      grind
    · subst y
      have := S.fn h1 h2
      grind
theorem Sc.eq {R : Rat → Rat → Prop} {len : Rat} (S : Sc R len) {v w r s : Rat} (h1 : R v r) (h2 : R w s) : v = w ↔ r = s := by
  have a := S.lt h1 h2
  have b := S.lt h2 h1
  rcases (Rat.le_total : v ≤ w ∨ w ≤ v) with z | z <;> rcases (Rat.le_total : r ≤ s ∨ s ≤ r) with y | y <;> grind
def RStr (A C L : Rat) : Rat → Rat → Prop := fun v r => A ≤ v ∧ v ≤ C ∧ r = (v - A) / (C - A) * L
theorem div_lt_div {x y d : Rat} (hd : 0 < d) (h : x < y) : x / d < y / d := by
  rw [Rat.div_lt_iff hd]
  have : y / d * d = y := by grind
  rw [this]
  exact h
theorem along_lt {A C F T v w : Rat} (h : A < C) (hf : F < T) (hv : v < w) : F + (v - A) / (C - A) * (T - F) < F + (w - A) / (C - A) * (T - F) := by
  have h1 : (v - A) / (C - A) < (w - A) / (C - A) := div_lt_div (by grind) (by grind)
  have h2 : (v - A) / (C - A) * (T - F) < (w - A) / (C - A) * (T - F) := Rat.mul_lt_mul_of_pos_right h1 (by grind)
  grind
theorem Sc.str {A C L : Rat} (h : A < C) (hl : 0 < L) : Sc (RStr A C L) L where
  lo := fun ⟨a, b, e⟩ => by
    have := (along_in (F := 0) (T := L) h hl a b).1
    grind
  hi := fun ⟨a, b, e⟩ => by
    have := (along_in (F := 0) (T := L) h hl a b).2
    grind
  up := fun ⟨a, b, e⟩ ⟨c, d, f⟩ z => by
    have := along_lt (F := 0) (T := L) h hl z
    grind
  fn := fun ⟨_, _, e⟩ ⟨_, _, f⟩ => by rw [e, f]
/-- pieces: begin, end, first place, last place -/
structure Pq where
  (A C F T : Rat)
def RBrk (ps : List Pq) : Rat → Rat → Prop := fun v r => ∃ x ∈ ps, x.A ≤ v ∧ v ≤ x.C ∧ r = x.F + (v - x.A) / (x.C - x.A) * (x.T - x.F)
theorem Sc.brk {ps : List Pq} {L : Rat} (h1 : ∀ x ∈ ps, x.A < x.C ∧ x.F < x.T ∧ 0 ≤ x.F ∧ x.T ≤ L) (h2 : ∀ x ∈ ps, ∀ y ∈ ps, x = y ∨ (x.C < y.A ∧ x.T < y.F) ∨ (y.C < x.A ∧ y.T < x.F)) : Sc (RBrk ps) L where
  lo := fun ⟨x, hx, a, b, e⟩ => by
    obtain ⟨w1, w2, w3, w4⟩ := h1 x hx
    have := (along_in w1 w2 a b).1
    grind
  hi := fun ⟨x, hx, a, b, e⟩ => by
    obtain ⟨w1, w2, w3, w4⟩ := h1 x hx
    have := (along_in w1 w2 a b).2
    grind
  up := fun ⟨x, hx, a, b, e⟩ ⟨y, hy, c, d, f⟩ z => by
    obtain ⟨w1, w2, w3, w4⟩ := h1 x hx
    obtain ⟨v1, v2, v3, v4⟩ := h1 y hy
    have p := (along_in w1 w2 a b).2
    have q := (along_in v1 v2 c d).1
    rcases h2 x hx y hy with k | ⟨k1, k2⟩ | ⟨k1, k2⟩
    · subst k
      have := along_lt w1 w2 z
      grind
    · grind
    · grind
  fn := fun ⟨x, hx, a, b, e⟩ ⟨y, hy, c, d, f⟩ => by
    rcases h2 x hx y hy with k | ⟨k1, k2⟩ | ⟨k1, k2⟩
    · subst k; rw [e, f]
    · grind
    · grind
/-! powers -/
theorem zp_pos {p : Rat} (hp : 0 < p) (E : Int) : 0 < p ^ E := by
  have hn : ∀ n : Nat, 0 < p ^ (n : Int) := fun n => by
    induction n with
    | zero => rw [show ((0 : Nat) : Int) = 0 from rfl, Rat.zpow_zero]; decide
    | succ n ih =>
      rw [show ((n + 1 : Nat) : Int) = (n : Int) + 1 by omega, Rat.zpow_add_one (by grind)]
      exact Rat.mul_pos ih hp
  rcases Int.le_total 0 E with z | z
  · rw [show E = ((E.toNat : Nat) : Int) by omega]
    exact hn _
  · rw [show E = -(((-E).toNat : Nat) : Int) by omega, Rat.zpow_neg]
    have := hn (-E).toNat
    exact Rat.inv_pos.mpr this
theorem zp_succ {p : Rat} (hp : 1 < p) (E : Int) : p ^ E < p ^ (E + 1) := by
  rw [Rat.zpow_add_one (by grind)]
  have := zp_pos (show 0 < p by grind) E
  have h : p ^ E * 1 < p ^ E * p := Rat.mul_lt_mul_of_pos_left hp this
  grind
theorem zp_le {p : Rat} (hp : 1 < p) {a b : Int} (h : a ≤ b) : p ^ a ≤ p ^ b := by
  have hn : ∀ n : Nat, p ^ a ≤ p ^ (a + (n : Int)) := fun n => by
    induction n with
    | zero => rw [show a + ((0 : Nat) : Int) = a by omega]; exact Rat.le_refl
    | succ n ih =>
      have := zp_succ hp (a + (n : Int))
      rw [show a + ((n + 1 : Nat) : Int) = a + (n : Int) + 1 by omega]
      grind
  have := hn (b - a).toNat
  rw [show a + (((b - a).toNat : Nat) : Int) = b by omega] at this
  exact this
theorem zp_exp {p : Rat} (hp : 1 < p) {a b : Int} {v : Rat} (h1 : p ^ a ≤ v) (h2 : v < p ^ b) : a < b := by
  rcases Int.lt_or_le a b with z | z
  · exact z
  · have := zp_le hp z
    grind
def RTur (p : Rat) (low many : Int) (L : Rat) : Rat → Rat → Prop := fun v r => ∃ E : Int, p ^ E ≤ v ∧ v < p ^ (E + 1) ∧ low ≤ E ∧ E ≤ low + many ∧ (E = low + many → v = p ^ E) ∧ r = (((E - low : Int) : Rat) + (v - p ^ E) / (p ^ E * (p - 1))) * (L / (many : Rat))
theorem tur_part {p v : Rat} {E : Int} (hp : 1 < p) (h1 : p ^ E ≤ v) (h2 : v < p ^ (E + 1)) : 0 ≤ (v - p ^ E) / (p ^ E * (p - 1)) ∧ (v - p ^ E) / (p ^ E * (p - 1)) < 1 := by
  have hq := zp_pos (show 0 < p by grind) E
  have hd : 0 < p ^ E * (p - 1) := Rat.mul_pos hq (by grind)
  rw [Rat.zpow_add_one (by grind)] at h2
  constructor
  · rw [← Rat.not_lt, Rat.div_lt_iff hd]
    grind
  · rw [Rat.div_lt_iff hd]
    grind
theorem Sc.tur {p : Rat} {low many : Int} {L : Rat} (hp : 1 < p) (hm : 0 < many) (hl : 0 < L) : Sc (RTur p low many L) L := by
  have hm' : (0 : Rat) < (many : Rat) := cast_pos hm
  have hs : 0 < L / (many : Rat) := by rw [Rat.lt_div_iff hm']; grind
  have fnE : ∀ {v : Rat} {E E' : Int}, p ^ E ≤ v → v < p ^ (E + 1) → p ^ E' ≤ v → v < p ^ (E' + 1) → E = E' := fun a b c d => by
    have := zp_exp hp a d
    have := zp_exp hp c b
    omega
  refine ⟨?_, ?_, ?_, ?_⟩
  · rintro v r ⟨E, a, b, c, d, e, rfl⟩
    have t := (tur_part hp a b).1
    have c' : (0 : Rat) ≤ ((E - low : Int) : Rat) := Rat.intCast_le_intCast.mpr (by omega : (0 : Int) ≤ E - low)
    exact Rat.mul_nonneg (by grind) (by grind)
  · rintro v r ⟨E, a, b, c, d, e, rfl⟩
    have key : ((E - low : Int) : Rat) + (v - p ^ E) / (p ^ E * (p - 1)) ≤ (many : Rat) := by
      by_cases k : E = low + many
      · have z := e k
        have z2 : (v - p ^ E) / (p ^ E * (p - 1)) = 0 := by rw [← z]; grind
        rw [z2, show E - low = many by omega]
        grind
      · have t := (tur_part hp a b).2
        have c' : ((E - low : Int) : Rat) ≤ ((many - 1 : Int) : Rat) := Rat.intCast_le_intCast.mpr (by omega)
        rw [Rat.intCast_sub many] at c'
        have : ((1 : Int) : Rat) = 1 := rfl
        grind
    have := Rat.mul_le_mul_of_nonneg_right key (show 0 ≤ L / (many : Rat) by grind)
    have e2 : (many : Rat) * (L / (many : Rat)) = L := by grind
    rw [e2] at this
    exact this
  · rintro v w r s ⟨E, a, b, c, d, e, rfl⟩ ⟨E', a', b', c', d', e', rfl⟩ z
    refine Rat.mul_lt_mul_of_pos_right ?_ hs
    have hE : E < E' + 1 := zp_exp hp a (by grind)
    by_cases k : E = E'
    · subst k
      have hq := zp_pos (show 0 < p by grind) E
      have := div_lt_div (Rat.mul_pos hq (show 0 < p - 1 by grind)) (show v - p ^ E < w - p ^ E by grind)
      grind
    · have t := (tur_part hp a b).2
      have t' := (tur_part hp a' b').1
      have c2 : ((E - low : Int) : Rat) ≤ ((E' - low - 1 : Int) : Rat) := Rat.intCast_le_intCast.mpr (by omega)
      rw [Rat.intCast_sub (E' - low)] at c2
      have : ((1 : Int) : Rat) = 1 := rfl
      grind
  · rintro v r s ⟨E, a, b, c, d, e, rfl⟩ ⟨E', a', b', c', d', e', rfl⟩
    have := fnE a b a' b'
    subst this
    rfl
end My

/-! places that are had -/
namespace My
theorem att_str {A C L r : Rat} (h : A < C) (hl : 0 < L) (h0 : 0 ≤ r) (h1 : r ≤ L) : ∃ v, RStr A C L v r := by
  have p := along_in (E := r) (A := 0) (C := L) (F := A) (T := C) hl h h0 h1
  refine ⟨A + (r - 0) / (L - 0) * (C - A), p.1, p.2, ?_⟩
  have a1 : C - A ≠ 0 := by grind
  grind
theorem att_brk {ps : List Pq} {x : Pq} {r : Rat} (hx : x ∈ ps) (h : x.A < x.C) (hf : x.F < x.T) (h0 : x.F ≤ r) (h1 : r ≤ x.T) : ∃ v, RBrk ps v r := by
  have p := along_in (E := r) (A := x.F) (C := x.T) (F := x.A) (T := x.C) hf h h0 h1
  refine ⟨x.A + (r - x.F) / (x.T - x.F) * (x.C - x.A), x, hx, p.1, p.2, ?_⟩
  have a1 : x.C - x.A ≠ 0 := by grind
  have a2 : x.T - x.F ≠ 0 := by grind
  grind
theorem brk_att {ps : List Pq} {v r : Rat} (h1 : ∀ x ∈ ps, x.A < x.C ∧ x.F < x.T) (h : RBrk ps v r) : ∃ x ∈ ps, x.F ≤ r ∧ r ≤ x.T := by
  obtain ⟨x, hx, a, b, e⟩ := h
  obtain ⟨w1, w2⟩ := h1 x hx
  have := along_in w1 w2 a b
  exact ⟨x, hx, by rw [e]; exact this.1, by rw [e]; exact this.2⟩
theorem att_tur {p : Rat} {low many : Int} {L r : Rat} (hp : 1 < p) (hm : 0 < many) (hl : 0 < L) (h0 : 0 ≤ r) (h1 : r ≤ L) : ∃ v, RTur p low many L v r := by
  have hm' : (0 : Rat) < (many : Rat) := cast_pos hm
  have hZ0 : 0 ≤ r / L * (many : Rat) := Rat.mul_nonneg (by rw [← Rat.not_lt, Rat.div_lt_iff hl]; grind) (by grind)
  have hr1 : r / L ≤ 1 := by rw [← Rat.not_lt, Rat.lt_div_iff hl]; grind
  have hZ1 : r / L * (many : Rat) ≤ (many : Rat) := by
    have := Rat.mul_le_mul_of_nonneg_right hr1 (show 0 ≤ (many : Rat) by grind)
    grind
  have er : r = r / L * (many : Rat) * (L / (many : Rat)) := by grind
  generalize r / L * (many : Rat) = Z at *
  have f1 : ((Z.floor : Int) : Rat) ≤ Z := Rat.floor_le Z
  have f2 : Z < ((Z.floor : Int) : Rat) + 1 := by
    have := Rat.lt_floor_add_one (a := Z)
    grind
  have f3 : 0 ≤ Z.floor := Rat.le_floor_iff.mpr hZ0
  have f4 : Z.floor ≤ many := by
    have : ((Z.floor : Int) : Rat) ≤ (many : Rat) := by grind
    exact Rat.intCast_le_intCast.mp this
  generalize Z.floor = t at *
  have hq := zp_pos (show 0 < p by grind) (low + t)
  have hz : 0 ≤ (Z - (t : Rat)) * (p - 1) := Rat.mul_nonneg (by grind) (by grind)
  have hz1 : (Z - (t : Rat)) * (p - 1) < 1 * (p - 1) := Rat.mul_lt_mul_of_pos_right (by grind) (by grind)
  have w1 : p ^ (low + t) * 1 ≤ p ^ (low + t) * (1 + (Z - (t : Rat)) * (p - 1)) := Rat.mul_le_mul_of_nonneg_left (by grind) (by grind)
  have w2 : p ^ (low + t) * (1 + (Z - (t : Rat)) * (p - 1)) < p ^ (low + t) * p := Rat.mul_lt_mul_of_pos_left (by grind) hq
  refine ⟨p ^ (low + t) * (1 + (Z - (t : Rat)) * (p - 1)), low + t, by grind, by rw [Rat.zpow_add_one (by grind)]; exact w2, by omega, by omega, fun he => ?_, ?_⟩
  · have e1 : t = many := by omega
    subst e1
    have : Z = (t : Rat) := by grind
    rw [this]
    grind
  · rw [er, show low + t - low = t by omega]
    generalize p ^ (low + t) = B at *
    have hB : B ≠ 0 := by grind
    have hp1 : p - 1 ≠ 0 := by grind
    grind
end My

/-! the engine: one rule a construct, by the form alone -/
namespace L2
open PySem PySem.Spec PyProof.Rows
def rIsN : R2 := fun x y H Q => y = .non ∧ Q (.bl (decide (x = .non))) H
def rNotN : R2 := fun x y H Q => y = .non ∧ Q (.bl (!decide (x = .non))) H
theorem op_isN' {X : Cx} : OpR X (compareOp .Is) rIsN := op_isN
/-- a new tuple, a new list -/
def MkT (xs : List V) (H : Hp) (Q : VK) : Prop := xs.length ≤ sizeLine ∧ ∀ p, H p = none → Q (.ref p) (upd H p (.tup xs))
def MkL (xs : List V) (H : Hp) (Q : VK) : Prop := xs.length ≤ sizeLine ∧ ∀ p, H p = none → Q (.ref p) (upd H p (.lst xs))
inductive SetTo : St → Nat → Option V → St → Prop
  | here {x : Option V} {r : St} {v : Option V} : SetTo (x :: r) 0 v (v :: r)
  | next {x : Option V} {r : St} {v : Option V} {i : Nat} {r' : St} : SetTo r i v r' → SetTo (x :: r) (i + 1) v (x :: r')
theorem SetTo.eq {σ σ' : St} {i : Nat} {v : Option V} (h : SetTo σ i v σ') : σ.set i v = σ' := by
  induction h with
  | here => rfl
  | next _ ih => rw [List.set_cons_succ, ih]
inductive GetTo : St → Nat → V → Prop
  | here {v : V} {r : St} : GetTo (some v :: r) 0 v
  | next {x : Option V} {r : St} {v : V} {i : Nat} : GetTo r i v → GetTo (x :: r) (i + 1) v
theorem GetTo.eq {σ : St} {i : Nat} {v : V} (h : GetTo σ i v) : σ[i]? = some (some v) := by
  induction h with
  | here => rfl
  | next _ ih => rw [List.getElem?_cons_succ, ih]
section
variable {σ σ' : St} {H : Hp} {Q : VK} {i j : Int} {k : Nat} {v x y : V} {te ta tb tc : TE} {t u : TS} {nx bk ct : St → Hp → Prop} {rt : VK} {c d : TT} {R : Bool → Hp → Prop} {r r' : R2} {b : Bool}
theorem z_var (h : GetTo σ k v) (q : Q v H) : tVar k σ H Q := ⟨v, h.eq, q⟩
theorem z_c (q : Q v H) : tC v σ H Q := q
theorem z_op (h : ta σ H fun x H1 => tb σ H1 fun y H2 => r x y H2 Q) : tOp r ta tb σ H Q := h
theorem z_un {r : V → Hp → VK → Prop} (h : ta σ H fun x H1 => r x H1 Q) : tUn r ta σ H Q := h
theorem z_I {C : Int → Int → Prop} {g : Int → Int → V} (hc : C i j) (q : Q (g i j) H) : rI C g (.int i) (.int j) H Q := ⟨i, j, rfl, rfl, hc, q⟩
theorem z_I0 {g : Int → Int → V} (q : Q (g i j) H) : rI0 g (.int i) (.int j) H Q := ⟨i, j, rfl, rfl, q⟩
theorem z_U {g : Int → V} (q : Q (g i) H) : rU g (.int i) H Q := ⟨i, rfl, q⟩
theorem zdec_int : decide (V.int i = V.int j) = decide (i = j) := by
  by_cases h : i = j
  · subst h; simp
  · rw [decide_eq_false h, decide_eq_false (fun z => h (V.int.inj z))]
theorem zdec_str {a b : Str} : decide (V.str a = V.str b) = decide (a = b) := by
  by_cases h : a = b
  · subst h; simp
  · rw [decide_eq_false h, decide_eq_false (fun z => h (V.str.inj z))]
theorem z_EqI (q : Q (.bl (decide (i = j))) H) : rEq (.int i) (.int j) H Q := ⟨rfl, by rw [zdec_int]; exact q⟩
theorem z_EqS {a b : Str} (q : Q (.bl (decide (a = b))) H) : rEq (.str a) (.str b) H Q := ⟨rfl, by rw [zdec_str]; exact q⟩
theorem z_test (h : te σ H fun x H' => ∃ k, x = .bl k ∧ R k H') : tTest te σ H R := h
theorem z_tB (h : te σ H fun x H' => ∃ k, x = .bl k ∧ R k H') : tB te σ H R := h
theorem z_ebl {S : Bool → Prop} (q : S b) : ∃ k, V.bl b = .bl k ∧ S k := ⟨b, rfl, q⟩
theorem z_and (h : c σ H fun k H1 => if k = true then d σ H1 R else R false H1) : tAnd c d σ H R := h
theorem z_or (h : c σ H fun k H1 => if k = true then R true H1 else d σ H1 R) : tOr c d σ H R := h
theorem z_not (h : c σ H fun k H1 => R (!k) H1) : tNot c σ H R := h
theorem z_andV (h : ta σ H fun x H1 => ∃ c, x = .bl c ∧ if c = true then tb σ H1 Q else Q (.bl false) H1) : tAndV ta tb σ H Q := h
theorem z_notV (h : ta σ H fun x H1 => ∃ c, x = .bl c ∧ Q (.bl (!c)) H1) : tNotV ta σ H Q := h
theorem z_if (h : c σ H fun k H1 => if k = true then ta σ H1 Q else tb σ H1 Q) : tIf c ta tb σ H Q := h
theorem z_chain (h : ta σ H fun x H1 => tb σ H1 fun y H2 => r x y H2 fun z H3 => ∃ k, z = .bl k ∧ (if k = true then tc σ H3 fun w' H4 => r' y w' H4 Q else Q (.bl false) H3)) : tChain r r' ta tb tc σ H Q := h
theorem z_nil {S : List V → Hp → Prop} (q : S [] H) : tNil σ H S := q
theorem z_cons {S : List V → Hp → Prop} {tr : TA} (h : ta σ H fun x H1 => tr σ H1 fun xs H2 => S (x :: xs) H2) : tCons ta tr σ H S := h
theorem z_seq (h : t ⟨u ⟨nx, rt, bk, ct⟩, rt, bk, ct⟩ σ H) : tSeq t u ⟨nx, rt, bk, ct⟩ σ H := h
theorem z_next (h : nx σ H) : tNext ⟨nx, rt, bk, ct⟩ σ H := h
theorem z_drop (h : te σ H fun _ H1 => nx σ H1) : tDrop te ⟨nx, rt, bk, ct⟩ σ H := h
theorem z_ret (h : te σ H rt) : tRet te ⟨nx, rt, bk, ct⟩ σ H := h
theorem z_ifs (h : c σ H fun b H1 => if b = true then t ⟨nx, rt, bk, ct⟩ σ H1 else u ⟨nx, rt, bk, ct⟩ σ H1) : tIfS c t u ⟨nx, rt, bk, ct⟩ σ H := h
theorem z_asg {g : TG} (h : te σ H fun x H1 => g x σ H1 nx) : tAsg te g ⟨nx, rt, bk, ct⟩ σ H := h
theorem z_name {S : St → Hp → Prop} (h : SetTo σ k (some v) σ') (q : S σ' H) : gName k v σ H S := by
  show S (σ.set k (some v)) H
  rw [h.eq]; exact q
theorem z_iteD {c A B : Prop} [Decidable c] (h1 : c → A) (h2 : ¬ c → B) : if decide c = true then A else B := by
  by_cases h : c
  · rw [decide_eq_true h]; exact iteT (h1 h)
  · rw [decide_eq_false h]; exact iteF (h2 h)
theorem z_iteNb {b : Bool} {A B : Prop} (h : if b = true then B else A) : if (!b) = true then A else B := by
  cases b with
  | true => exact iteF h
  | false => exact iteT h
theorem z_ite2 {b : Bool} {A B : Prop} (h1 : b = true → A) (h2 : b = false → B) : if b = true then A else B := by
  cases b with
  | true => exact iteT (h1 rfl)
  | false => exact iteF (h2 rfl)
theorem z_call0 {sp : Sp} {E : XK} {tA : TA} (h : tA σ H fun vs H1 => sp vs H1 Q E) : tCall sp [] E tA σ H Q := by
  unfold tCall
  simpa using h
theorem z_callD {sp : Sp} {E : XK} {tA : TA} {w : V} (h : tA σ H fun vs H1 => sp (vs ++ [w]) H1 Q E) : tCall sp [w] E tA σ H Q := h
theorem z_cb {rr : List V → Hp → VK → Prop} {tA : TA} (h : tA σ H fun vs H1 => rr vs H1 Q) : tCB rr tA σ H Q := h
theorem z_e1 {S : Int → Prop} (q : S i) : ∃ i', [V.int i] = [.int i'] ∧ S i' := ⟨i, rfl, q⟩
theorem z_e2 {S : Int → Int → Prop} (q : S i j) : ∃ i' j', [V.int i, V.int j] = [.int i', .int j'] ∧ S i' j' := ⟨i, j, rfl, q⟩
theorem z_tup {tA : TA} (h : tA σ H fun xs H1 => MkT xs H1 Q) : tTup tA σ H Q := h
theorem z_mkt {xs : List V} (hl : xs.length ≤ 100) (q : ∀ p H', H p = none → Same H H' → H' p = some (.tup xs) → Q (.ref p) H') : MkT xs H Q :=
  ⟨Nat.le_trans hl (by decide), fun p hp => q p _ hp (Same.new hp _) upd_same⟩
theorem z_ixT {K : PySem.W.Frag} {p : Addr} {xs : List V} (hs : SqT K H p xs) (ha : atI xs i = some v) (q : Q v H) : rIxT K (.ref p) (.int i) H Q := ⟨p, xs, i, v, rfl, rfl, hs, ha, q⟩
theorem z_ixL {K : PySem.W.Frag} {p : Addr} {xs : List V} (hs : SqL K H p xs) (ha : atI xs i = some v) (q : Q v H) : rIxL K (.ref p) (.int i) H Q := ⟨p, xs, i, v, rfl, rfl, hs, ha, q⟩
theorem z_nonN (q : Q (.bl true) H) : rIsN .non .non H Q := ⟨rfl, q⟩
theorem z_nonI (q : Q (.bl false) H) : rIsN (.int i) .non H Q := ⟨rfl, q⟩
theorem z_nonR {p : Addr} (q : Q (.bl false) H) : rIsN (.ref p) .non H Q := ⟨rfl, q⟩
/-! len, list(..), int(..) -/
theorem z_len {K : PySem.W.Frag} {p : Addr} {ys : List V} {S : List V → Prop} (hs : SqL K H p ys ∨ SqT K H p ys) (q : S ys) : ∃ p' ys', [V.ref p] = [V.ref p'] ∧ (SqL K H p' ys' ∨ SqT K H p' ys') ∧ S ys' := ⟨p, ys, rfl, hs, q⟩
/-! unpacking -/
theorem z_gtup {K : PySem.W.Frag} {p : Addr} {n : Nat} {tg : TGs} {xs : List V} {S : St → Hp → Prop} (hs : SqT K H p xs) (hl : xs.length = n) (q : tg xs σ H S) : gTup K n tg (.ref p) σ H S := ⟨p, xs, rfl, hs, hl, q⟩
theorem z_gnil {S : St → Hp → Prop} (q : S σ H) : gNil [] σ H S := ⟨rfl, q⟩
theorem z_gcons {g : TG} {tg : TGs} {v : V} {r : List V} {S : St → Hp → Prop} (q : g v σ H fun σ' H' => tg r σ' H' S) : gCons g tg (v :: r) σ H S := ⟨v, r, rfl, q⟩
/-! slices -/
theorem z_sl {r : V → Option Int → Option Int → Hp → VK → Prop} {tl th : TO} (h : te σ H fun x H1 => tl σ H1 fun l H2 => th σ H2 fun u H3 => r x l u H3 Q) : tSl r te tl th σ H Q := h
theorem z_part {S : Option Int → Hp → Prop} (h : te σ H fun x H1 => ∃ i, x = .int i ∧ S (some i) H1) : tPart te σ H S := h
theorem z_eint {S : Int → Prop} (q : S i) : ∃ i', V.int i = .int i' ∧ S i' := ⟨i, rfl, q⟩
theorem z_slL {K : PySem.W.Frag} {p : Addr} {xs : List V} {lo hi : Option Int} (hs : SqL K H p xs) (q : ∀ p' H', Same H H' → H' p' = some (.lst (cutV xs lo hi)) → Q (.ref p') H') : rSlL K (.ref p) lo hi H Q := ⟨p, xs, rfl, hs, fun p' hp => q p' _ (Same.new hp _) upd_same⟩
/-! lists -/
theorem z_lst {tA : TA} (h : tA σ H fun xs H1 => MkL xs H1 Q) : tLst tA σ H Q := h
theorem z_mkl {xs : List V} (hl : xs.length ≤ 100) (q : ∀ p H', H p = none → Same H H' → H' p = some (.lst xs) → Q (.ref p) H') : MkL xs H Q :=
  ⟨Nat.le_trans hl (by decide), fun p hp => q p _ hp (Same.new hp _) upd_same⟩
theorem z_cat {l m : Addr} {xs zs : List V} (h1 : H l = some (.lst xs)) (h2 : H m = some (.lst zs)) (hl : xs.length + zs.length ≤ sizeLine) (q : ∀ p H', Same H H' → H' p = some (.lst (xs ++ zs)) → Q (.ref p) H') : rCat (.ref l) (.ref m) H Q :=
  ⟨l, m, xs, zs, rfl, rfl, h1, h2, hl, fun p hp => q p _ (Same.new hp _) upd_same⟩
theorem z_bm {K : PySem.W.Frag} {T : String} {rr : V → List V → Hp → VK → Prop} {tA : TA} (h : te σ H fun x H1 => tyV K T x H1 ∧ tA σ H1 fun xs H2 => rr x xs H2 Q) : tBM K T rr te tA σ H Q := h
end
theorem sm2 {A B C : Hp} (g : Same B C) (h : Same A B) : Same A C := h.trans g
/-- all but the list at l is as it was -/
def But (l : Addr) (H H' : Hp) : Prop := ∀ b o, b ≠ l → H b = some o → H' b = some o
theorem But.upd {H : Hp} {l : Addr} {o : HO} : But l H (upd H l o) := fun b u hb q => by rw [upd_ne hb]; exact q
theorem But.tup {K : PySem.W.Frag} {H H' : Hp} {l a : Addr} {xs ys : List V} (e : But l H H') (hl : H l = some (.lst ys)) (h : SqT K H a xs) : SqT K H' a xs := by
  rcases h with (h | ⟨o, h⟩) | h
  · exact .inl (.inl (e _ _ (fun z => by rw [z, hl] at h; cases h) h))
  · exact .inl (.inr ⟨o, e _ _ (fun z => by rw [z, hl] at h; cases h) h⟩)
  · exact .inr h
section
variable {σ σ' : St} {H : Hp} {Q : VK}
theorem z_append {l : Addr} {xs : List V} {v : V} (h : H l = some (.lst xs)) (hl : xs.length < sizeLine) (q : ∀ H', But l H H' → H' l = some (.lst (xs ++ [v])) → Q .non H') : rAppend (.ref l) [v] H Q :=
  ⟨l, xs, v, rfl, rfl, h, hl, q _ But.upd upd_same⟩
end
/-! loops -/
section
variable {σ : St} {H : Hp} {te : TE} {tb : TS} {g : TG} {nx bk ct : St → Hp → Prop} {rt : VK} {wi : TI} {K : PySem.W.Frag} {a : Addr} {xs : List V}
def FW (J : It) (g : TG) (tb : TS) (nx : St → Hp → Prop) (rt : VK) (σ : St) (H : Hp) : Prop := ∃ W : Nat → Nat → St → Hp → Prop, (∃ m, W 0 m σ H) ∧ ∀ i m σ H, W i m σ H →
  (J.stop i H ∧ nx σ H) ∨ (J.go i H ∧ ∃ N : St → Hp → Prop, (∀ σ' H', N σ' H' → ∃ m', m' < m ∧ W (i + 1) m' σ' H') ∧ ∀ x H', J.yld i H x H' → g x σ H' fun σ2 H2 => tb ⟨N, rt, nx, N⟩ σ2 H2)
theorem z_for (h : wi σ H fun J H1 => FW J g tb nx rt σ H1) : tFor wi g tb ⟨nx, rt, bk, ct⟩ σ H := h
theorem z_iL {R : It → Hp → Prop} (h : te σ H fun x H1 => ∃ a, x = .ref a ∧ (∃ xs, SqL K H1 a xs) ∧ R (Itl K a) H1) : iList K te σ H R := h
theorem z_iL2 {S : Addr → Prop} (hs : SqL K H a xs) (q : S a) : ∃ a', V.ref a = .ref a' ∧ (∃ xs, SqL K H a' xs) ∧ S a' := ⟨a, rfl, ⟨xs, hs⟩, q⟩
theorem z_iR1 {tA : TA} {R : It → Hp → Prop} (h : tA σ H fun vs H1 => ∃ j : Int, vs = [.int j] ∧ -(2 ^ 62) ≤ j ∧ j < 2 ^ 62 ∧ R (Itr 0 j.toNat) H1) : iRng1 tA σ H R := h
theorem z_iR3 {tA : TA} {R : It → Hp → Prop} (h : tA σ H fun vs H1 => ∃ i j c : Int, vs = [.int i, .int j, .int c] ∧ 0 < c ∧ c < 1073741824 ∧ Builtin.Range.small i j c = true ∧ R (Itr3 i c (rngN i j c)) H1) : iRng3 tA σ H R := h
theorem z_iR3b {i j c : Int} {S : Int → Int → Int → Prop} (h1 : 0 < c) (h2 : c < 1073741824) (h3 : Builtin.Range.small i j c = true) (q : S i j c) : ∃ i' j' c' : Int, [V.int i, V.int j, V.int c] = [.int i', .int j', .int c'] ∧ 0 < c' ∧ c' < 1073741824 ∧ Builtin.Range.small i' j' c' = true ∧ S i' j' c' := ⟨i, j, c, rfl, h1, h2, h3, q⟩
theorem z_r1c {J : It} {j : Int} (h1 : -(2 ^ 62) ≤ j) (h2 : j < 2 ^ 62) (q : FW J g tb nx rt σ H) : -(2 ^ 62) ≤ j ∧ j < 2 ^ 62 ∧ FW J g tb nx rt σ H := ⟨h1, h2, q⟩
theorem f_list (Pv : Nat → St → Hp → Prop) (h0 : Pv 0 σ H) (hl : ∀ i σ H, i ≤ xs.length → Pv i σ H → SqL K H a xs)
    (hs : ∀ i x σ H, xs[i]? = some x → Pv i σ H → g x σ H fun σ2 H2 => tb ⟨Pv (i + 1), rt, nx, Pv (i + 1)⟩ σ2 H2) (hd : ∀ σ H, Pv xs.length σ H → nx σ H) : FW (Itl K a) g tb nx rt σ H := for_list (D := ⟨nx, rt, nx, nx⟩) Pv h0 hl hs hd
theorem f_range {lo : Int} {n : Nat} (Pv : Nat → St → Hp → Prop) (h0 : Pv 0 σ H)
    (hs : ∀ i σ H, i < n → Pv i σ H → g (.int (lo + i)) σ H fun σ2 H2 => tb ⟨Pv (i + 1), rt, nx, Pv (i + 1)⟩ σ2 H2) (hd : ∀ σ H, Pv n σ H → nx σ H) : FW (Itr lo n) g tb nx rt σ H := for_range (D := ⟨nx, rt, nx, nx⟩) Pv h0 hs hd
theorem f_range3 {lo c : Int} {n : Nat} (Pv : Nat → St → Hp → Prop) (h0 : Pv 0 σ H)
    (hs : ∀ i σ H, i < n → Pv i σ H → g (.int (lo + (i : Nat) * c)) σ H fun σ2 H2 => tb ⟨Pv (i + 1), rt, nx, Pv (i + 1)⟩ σ2 H2) (hd : ∀ σ H, Pv n σ H → nx σ H) : FW (Itr3 lo c n) g tb nx rt σ H := for_range3 (D := ⟨nx, rt, nx, nx⟩) Pv h0 hs hd
end
/-! isinstance by kinds -/
def IsiG (K : PySem.W.Frag) (n : String) (f : Tg → Bool) (xs : List V) (H : Hp) (Q : VK) : Prop := rIsi K n f xs H Q
theorem z_isi0 {K : PySem.W.Frag} {n : String} {f : Tg → Bool} {xs : List V} {H : Hp} {Q : VK} (h : IsiG K n f xs H Q) : rIsi K n f xs H Q := h
section
variable {H : Hp} {Q : VK} {K : PySem.W.Frag} {i : Int} {a : Str} {b : Bool} {p : Addr} {xs : List V}
theorem z_isS_str (q : Q (.bl true) H) : IsiG K "str" Tg.isStr [.str a, .ty "str"] H Q := ⟨_, .str, rfl, True.intro, q⟩
theorem z_isT_str (hs : SqT K H p xs) (q : Q (.bl false) H) : IsiG K "str" Tg.isStr [.ref p, .ty "str"] H Q := ⟨_, .tup, rfl, ⟨xs, hs⟩, q⟩
end
theorem op_mulH {X : Cx} : OpR X (binaryOp .Mult) (rI (fun i j => My.Bd 50000000 i ∧ My.Bd 50000000 j) fun i j => .int (i * j)) := opI fun _ _ _ _ _ _ _ hc q =>
  mul_int q (IntMulOk.of_le (PySem.intBits_le_iff.mpr hc.1) (PySem.intBits_le_iff.mpr hc.2) (by decide))
theorem bd_mul {m n : Nat} {x y : Int} (h : My.Bd m x) (g : My.Bd n y) : My.Bd (m + n) (x * y) := h.mul g
theorem bd_add {m n : Nat} {x y : Int} (h : My.Bd m x) (g : My.Bd n y) : My.Bd (max m n + 1) (x + y) := (h.mono (show m ≤ max m n by omega)).add (g.mono (show n ≤ max m n by omega))
theorem bd_sub {m n : Nat} {x y : Int} (h : My.Bd m x) (g : My.Bd n y) : My.Bd (max m n + 1) (x - y) := (h.mono (show m ≤ max m n by omega)).sub (g.mono (show n ≤ max m n by omega))
theorem bd_60 {n : Int} (h1 : -1152921504606846976 < n) (h2 : n < 1152921504606846976) : My.Bd 60 n := by unfold My.Bd; omega
theorem bt_max : bootBuiltins "max" = some (.builtin "max") := by decide +kernel
theorem bt_min : bootBuiltins "min" = some (.builtin "min") := by decide +kernel
theorem Same.but {H H2 H3 : Hp} {l : Addr} (s : Same H H2) (n : H l = none) (b : But l H2 H3) : Same H H3 := fun c o e => b c o (fun z => by rw [z, n] at e; cases e) (s c o e)
theorem z_tyL {K : PySem.W.Frag} {l : Addr} {xs : List V} {H : Hp} {S : Prop} (h : SqL K H l xs) (q : S) : tyV K "list" (.ref l) H ∧ S := ⟨.inl ⟨rfl, xs, h⟩, q⟩
/-- if c: x = e, for an int's name -/
theorem z_joinI {c : TT} {te : TE} {k : Nat} {σ σ' : St} {H : Hp} {R bk ct : St → Hp → Prop} {rt : VK} (b : Bool) (i1 i2 : Int) (hc : ∀ S : Bool → Hp → Prop, S b H → c σ H S) (h1 : b = true → ∀ S : V → Hp → Prop, S (.int i1) H → te σ H S) (hold : GetTo σ k (.int i2)) (hs : SetTo σ k (some (.int (if b = true then i1 else i2))) σ') (q : R σ' H) :
    tIfS c (tAsg te (gName k)) tNext ⟨R, rt, bk, ct⟩ σ H := by
  refine hc _ ?_
  cases b with
  | true =>
    refine iteT (h1 rfl _ ?_)
    show R (σ.set k (some (.int i1))) H
    have := hs.eq
    rw [if_pos rfl] at this
    rw [this]; exact q
  | false =>
    refine iteF ?_
    show R σ H
    have e := hs.eq
    rw [if_neg Bool.false_ne_true] at e
    have e2 : σ.set k (some (.int i2)) = σ := by
      apply List.ext_getElem?
      intro j
      rw [List.getElem?_set]
      split
      · next z =>
        subst z
        have := hold.eq
        rw [this]
        split
        · rfl
        · next y => rw [List.getElem?_eq_none (by omega)] at this; cases this
      · rfl
    rw [← e2, e]; exact q
theorem z_go {N : List Str} {vs : List V} {σ : St} {t : TS} {D : Ends} {H : Hp} (h : start N vs = σ) (q : t D σ H) : t D (start N vs) H := by rw [h]; exact q
end L2

/-! two nested values that are alike: == is True, != False -/
namespace L2
open PySem PySem.Spec PyProof.Rows
inductive Alike (K : PySem.W.Frag) (H : Hp) : Nat → V → V → Prop
  | int {n : Nat} {i : Int} : Alike K H n (.int i) (.int i)
  | str {n : Nat} {x : Str} : Alike K H n (.str x) (.str x)
  | bl {n : Nat} {b : Bool} : Alike K H n (.bl b) (.bl b)
  | non {n : Nat} : Alike K H n .non .non
  | ref {n : Nat} {a : Addr} : Alike K H n (.ref a) (.ref a)
  | tup {n : Nat} {p q : Addr} {xs ys : List V} (h1 : SqT K H p xs) (h2 : SqT K H q ys) (hl : xs.length = ys.length) (he : ∀ (j : Nat) (x y : V), xs[j]? = some x → ys[j]? = some y → Alike K H n x y) : Alike K H (n + 1) (.ref p) (.ref q)
  | lst {n : Nat} {p q : Addr} {xs ys : List V} (h1 : SqL K H p xs) (h2 : SqL K H q ys) (hl : xs.length = ys.length) (he : ∀ (j : Nat) (x y : V), xs[j]? = some x → ys[j]? = some y → Alike K H n x y) : Alike K H (n + 1) (.ref p) (.ref q)
theorem vals_at {xs : List V} {us : List Value} (h : Vals xs us) : ∀ {j : Nat} {u : Value}, us[j]? = some u → ∃ x, xs[j]? = some x ∧ RelV x u := by
  induction h with
  | nil => intro j u e; simp at e
  | cons r rr ih =>
    intro j u e
    cases j with
    | zero => exact ⟨_, rfl, by rw [List.getElem?_cons_zero] at e; cases e; exact r⟩
    | succ j => exact ih (by rw [List.getElem?_cons_succ] at e; exact e)
theorem all_true {n : Nat} : (List.range n).all (fun _ => true) = true := by rw [List.all_eq_true]; intro _ _; rfl
section
variable {X : Cx} {pins : List (Addr × Obj)} {σ : St} {H : Hp} {s : Shared}
theorem Inv.alike (I : Inv X pins σ H s) {n : Nat} {x y : V} (h : Alike X.K H n x y) : ∀ {A : Around} {u v : Value}, A.units + n < cLine → RelV x u → RelV y v → SeqAt.EqAt A s u v true := by
  induction h with
  | @int n i =>
    intro A u v hu r1 r2
    obtain ⟨t, rfl⟩ := r1
    obtain ⟨t', rfl⟩ := r2
    have := SeqAt.EqAt.int_int (A := A) (s := s) i t i t'
    rw [beq_self_eq_true] at this
    exact this
  | @str n x =>
    intro A u v hu r1 r2
    obtain ⟨t, rfl⟩ := r1
    obtain ⟨t', rfl⟩ := r2
    have := SeqAt.EqAt.str_str (A := A) (s := s) x t x t'
    rw [beq_self_eq_true] at this
    exact this
  | bl => intro A u v hu r1 r2; cases r1; cases r2; exact SeqAt.EqAt.same _
  | non => intro A u v hu r1 r2; cases r1; cases r2; exact SeqAt.EqAt.same _
  | ref => intro A u v hu r1 r2; cases r1; cases r2; exact SeqAt.EqAt.same _
  | @tup n p q xs ys h1 h2 hl he ih =>
    intro A u v hu r1 r2
    cases r1
    cases r2
    by_cases e : p = q
    · subst e; exact SeqAt.EqAt.same _
    · refine SeqAt.EqAt.of_refs e ?_
      obtain ⟨its, v1, p1, _⟩ := I.tuple h1
      obtain ⟨its2, v2, p2, _⟩ := I.tuple h2
      have l1 := v1.length
      have l2 := v2.length
      have key := SeqAt.RcAt.tuples (A := A) (s := s) (l := p) (b := q) (items := its.toArray) (items2 := its2.toArray) (e := fun _ => true) p1 p2 (by omega) (fun j g1 g2 => by
        have g1' : j < its.length := by simpa using g1
        have g2' : j < its2.length := by simpa using g2
        obtain ⟨x, ex, rx⟩ := vals_at v1 (List.getElem?_eq_getElem g1')
        obtain ⟨y, ey, ry⟩ := vals_at v2 (List.getElem?_eq_getElem g2')
        have w1 : its.toArray[j] = its[j] := by simp
        have w2 : its2.toArray[j] = its2[j] := by simp
        rw [w1, w2]
        exact ih j x y ex ey (by show A.units + 1 + n < cLine; omega) rx ry)
      have e2 : ((List.range (min its.toArray.size its2.toArray.size)).all (fun _ => true) && its.toArray.size == its2.toArray.size) = true := by
        rw [all_true, Bool.true_and, List.size_toArray, List.size_toArray, ← l1, ← l2, hl, beq_self_eq_true]
      rw [e2] at key
      exact key
  | @lst n p q xs ys h1 h2 hl he ih =>
    intro A u v hu r1 r2
    cases r1
    cases r2
    by_cases e : p = q
    · subst e; exact SeqAt.EqAt.same _
    · refine SeqAt.EqAt.of_refs e ?_
      obtain ⟨its, v1, p1, _⟩ := I.list h1
      obtain ⟨its2, v2, p2, _⟩ := I.list h2
      have l1 := v1.length
      have l2 := v2.length
      have key := SeqAt.RcAt.lists (A := A) (s := s) (l := p) (b := q) (items := its.toArray) (items2 := its2.toArray) (e := fun _ => true) p1.isList p2.isList (by rw [List.size_toArray, List.size_toArray, ← l1, ← l2, hl]) (by omega) (fun j g1 g2 => by
        have g1' : j < its.length := by simpa using g1
        have g2' : j < its2.length := by simpa using g2
        obtain ⟨x, ex, rx⟩ := vals_at v1 (List.getElem?_eq_getElem g1')
        obtain ⟨y, ey, ry⟩ := vals_at v2 (List.getElem?_eq_getElem g2')
        have w1 : its.toArray[j] = its[j] := by simp
        have w2 : its2.toArray[j] = its2[j] := by simp
        rw [w1, w2]
        exact ih j x y ex ey (by show A.units + 1 + n < cLine; omega) rx ry)
      rw [all_true] at key
      exact key
/-- both are tuples, or both lists, alike item by item -/
def AlikeS (K : PySem.W.Frag) (H : Hp) (p q : Addr) : Prop := ∃ (n : Nat) (xs ys : List V), n ≤ 100 ∧ ((SqT K H p xs ∧ SqT K H q ys) ∨ (SqL K H p xs ∧ SqL K H q ys)) ∧ xs.length = ys.length ∧ ∀ (j : Nat) (x y : V), xs[j]? = some x → ys[j]? = some y → Alike K H n x y
def rAlk (K : PySem.W.Frag) (b : Bool) : R2 := fun x y H Q => ∃ p q, x = .ref p ∧ y = .ref q ∧ AlikeS K H p q ∧ Q (.bl b) H
theorem z_alk {K : PySem.W.Frag} {H : Hp} {Q : VK} {b : Bool} {p q : Addr} (h : AlikeS K H p q) (k : Q (.bl b) H) : rAlk K b (.ref p) (.ref q) H Q := ⟨p, q, rfl, rfl, h, k⟩
theorem op_neA (hu : X.A.units + 150 < cLine) : OpR X (compareOp .NotEq) (rAlk X.K false) := by
  intro pins s σ H x y v u Q I rx ry h
  obtain ⟨p, q, rfl, rfl, ⟨n, xs, ys, hn, hs, hl, he⟩, k⟩ := h
  cases rx
  cases ry
  rcases hs with ⟨h1, h2⟩ | ⟨h1, h2⟩
  · obtain ⟨its, v1, p1, _⟩ := I.tuple h1
    obtain ⟨its2, v2, p2, _⟩ := I.tuple h2
    have l1 := v1.length
    have l2 := v2.length
    have key := SeqAt.RcNeAt.tuples (A := X.A) (s := s) (l := p) (b := q) (items := its.toArray) (items2 := its2.toArray) (e := fun _ => true) p1 p2 (by omega) (fun j g1 g2 => by
      have g1' : j < its.length := by simpa using g1
      have g2' : j < its2.length := by simpa using g2
      obtain ⟨x, ex, rx⟩ := vals_at v1 (List.getElem?_eq_getElem g1')
      obtain ⟨y, ey, ry⟩ := vals_at v2 (List.getElem?_eq_getElem g2')
      have w1 : its.toArray[j] = its[j] := by simp
      have w2 : its2.toArray[j] = its2[j] := by simp
      rw [w1, w2]
      exact I.alike (he j x y ex ey) (by show X.A.units + 1 + n < cLine; omega) rx ry)
    have e2 : (!((List.range (min its.toArray.size its2.toArray.size)).all (fun _ => true) && its.toArray.size == its2.toArray.size)) = false := by
      rw [all_true, Bool.true_and, List.size_toArray, List.size_toArray, ← l1, ← l2, hl, beq_self_eq_true]; rfl
    rw [e2] at key
    exact key _ _ _ _ ⟨.bl false, H, I, rfl, k⟩
  · obtain ⟨its, v1, p1, _⟩ := I.list h1
    obtain ⟨its2, v2, p2, _⟩ := I.list h2
    have l1 := v1.length
    have l2 := v2.length
    have key := SeqAt.RcNeAt.lists (A := X.A) (s := s) (l := p) (b := q) (items := its.toArray) (items2 := its2.toArray) (e := fun _ => true) p1.isList p2.isList (by rw [List.size_toArray, List.size_toArray, ← l1, ← l2, hl]) (by omega) (fun j g1 g2 => by
      have g1' : j < its.length := by simpa using g1
      have g2' : j < its2.length := by simpa using g2
      obtain ⟨x, ex, rx⟩ := vals_at v1 (List.getElem?_eq_getElem g1')
      obtain ⟨y, ey, ry⟩ := vals_at v2 (List.getElem?_eq_getElem g2')
      have w1 : its.toArray[j] = its[j] := by simp
      have w2 : its2.toArray[j] = its2[j] := by simp
      rw [w1, w2]
      exact I.alike (he j x y ex ey) (by show X.A.units + 1 + n < cLine; omega) rx ry)
    rw [all_true] at key
    exact key _ _ _ _ ⟨.bl false, H, I, rfl, k⟩
end
theorem Room.un150 {k : Nat} {A : Around} (r : Room k A) : A.units + 150 < cLine := by have := r.un; omega
end L2

/-! the head for a law that multiplies a script's own numbers: a script has at most 2 ^ 20 bits -/
namespace L2
open PySem PySem.Spec PyProof.Rows PySem.W PySem.Calls
theorem bits_of_script : ∀ {ns : List Int}, WData.weightAll (ns.map WData.int) ≤ 2 ^ 20 → ∀ x ∈ ns, My.Bd 1048576 x
  | y :: r, h, x, hx => by
    have h' : WData.weight (.int y) + 1 + WData.weightAll (r.map WData.int) ≤ 2 ^ 20 := h
    rcases List.mem_cons.mp hx with e | e
    · subst e
      have w : WData.weight (.int x) = (if x == 0 then 0 else x.natAbs.log2 + 1) := by
        first | rfl | simp [WData.weight]
      unfold My.Bd
      by_cases z : x = 0
      · subst z
        exact Nat.two_pow_pos _
      · have zb : (x == 0) = false := by simpa using z
        rw [w, zb] at h'
        have h2 : x.natAbs.log2 < 1048576 := by
          have e20 : (2 : Nat) ^ 20 = 1048576 := by decide
          rw [e20] at h'
          simp only [Bool.false_eq_true, if_false] at h'
          omega
        exact (Nat.log2_lt (by omega)).mp h2
    · exact bits_of_script (by omega) x e
theorem attach_callB {l : OpenLaw} {n : Nat} {q : Program} {loose : List Str} {XP : (Str → Option Value) → Heap → Prop} {YP : World → Heap → Prop} {d : DefRec}
    (hn : l.most = some n) (hdf : d.params.defaults = [])
    (call : ∀ (w : World) (s₀ s₁ : Shared) (mg mb : Str → Option Value) (fa : Addr) (o : Obj) (pm cd doc : Value) (a : Addr) (vs : List Value) (ns : List Int),
      Ground q loose [] XP w s₀ mg mb s₁.heap → YP w s₁.heap →
      s₁.heap.get? fa = some o → o.data = .func (docDef d.name d.params d.body d.scope pm cd doc) → s₁.heap.CodeRec cd d.name → mg d.name = some (.ref fa) →
      s₁.heap.get? a = some { cls := .type "list", data := .seq vs.toArray } → IntsAre vs ns → ns.length ≤ n → (∀ x ∈ ns, My.Bd 1048576 x) → s₁.gens = #[] →
      codeAny (model l.prog w) callerA (.call (.ref fa) ⟨[.ref a], []⟩) (fun r s' => r = .ok (.ret (.bool true)) ∧ OldK s₁.heap s'.heap ∧ s'.os = s₁.os ∧ AllBare s'.gens) s₁) :
    WalkO q loose XP YP l.row.toRowW d [] (fun f vs => PySem.call f vs) := by
  intro w s₀ s₁ mg mb G Y fa o pm cd doc dV kV ho hd hcd hD hmg hg args vals as hpre hlay hrd hwl hlo
  obtain rfl : dV = .none := Dflts.none hD hdf
  obtain rfl : kV = .none := Dflts.noKw hD
  obtain ⟨a, vs, ns, rfl, rfl, hobj, hints, hlen⟩ := Att.script_of hn hpre hwl
  have hb : ∀ x ∈ ns, My.Bd 1048576 x := by
    have h1 : (WData.list (ns.map WData.int)).layable = true := by
      have h2 : ([WData.list (ns.map WData.int)].all WData.layable) = true := hlay
      simpa using h2
    obtain ⟨_, _, h3⟩ := layableW_iff.mp h1
    refine bits_of_script ?_
    have e : WData.weight (.list (ns.map WData.int)) = WData.weightAll (ns.map WData.int) := by
      first | rfl | simp [WData.weight]
    rw [e] at h3
    exact h3
  refine enter_call (codeAny_mono (call w s₀ s₁ mg mb fa o pm cd doc a vs ns G Y ho (fd_plain hd) hcd hmg hobj hints hlen hb hg) fun r s' hq => ?_)
  obtain ⟨rfl, h2, h3, h4⟩ := hq
  exact ⟨.inl ⟨.bool true, .bool true, [], rfl, fun _ => rfl, .bool true, Att.post_true l _, fun _ => ⟨List.Pairwise.nil, fun _ hm => (nomatch hm)⟩⟩, h2, h3, h4⟩
theorem walk_ofB {l : PySem.W.OpenLaw} {n k : Nat} {q : Program} {loose : List Str} {XP : (Str → Option Value) → Heap → Prop} {YP : World → Heap → Prop} {d : DefRec} {K : Params → PySem.W.Frag} {CX : World → CXT} {sp : World → Sp} {x : Str}
    (hn : l.most = some n) (hn2 : n ≤ sizeLine) (hdf : d.params.defaults = []) (hr : Room k callerA)
    (hY : ∀ (w : World) (h : Heap), YP w h → (K w.params).In h)
    (F : ∀ (w : World) (mg : Str → Option Value) (fa : Addr) (h : Heap), (K w.params).In h → h.Ns mainGlobals mg → mg d.name = some (.ref fa) →
      ∃ fd : FuncData, (∀ (s : Shared) (u : Value), BindsTo s fd ⟨[u], []⟩ [(x, u)]) ∧
        ∀ base : Heap, (K w.params).In base → base.Ns mainGlobals mg → FnOk l.prog w (K w.params) mg base (CX w) k fa fd [x] (sp w))
    (hsp : ∀ (w : World) (H : Hp) (a : Addr) (ns : List Int), ns.length ≤ n → (∀ x ∈ ns, My.Bd 1048576 x) → Only H → SqL (K w.params) H a (ns.map V.int) → sp w [.ref a] H (fun v _ => v = .bl true) fun _ _ _ => False)
    (hCX : ∀ (w : World) (H : Hp) (s : Shared) (e : Value) (s' : Shared), CX w [] H s (fun _ _ _ => False) e s' → False) :
    PySem.W.WalkO q loose XP YP l.row.toRowW d [] (fun f vs => PySem.call f vs) := by
  refine attach_callB hn hdf fun w s₀ s₁ mg mb fa o pm cd doc a vs ns G Y ho hd hcd hmg hobj hints hlen hbits hg => ?_
  have KX := hY w _ Y
  obtain ⟨fd, hb, hF⟩ := F w mg fa _ KX G.T.g hmg
  exact law_call KX G.T.g G.T.b G.T.builtins G.T.nolimit hg hobj hints (Nat.le_trans hlen hn2) hr hF hb (fun H hO hS => hsp w H a ns hlen hbits hO hS) fun H e s' => hCX w H s₁ e s'
end L2

set_option Elab.async false
set_option linter.all false
set_option maxRecDepth 100000
set_option maxHeartbeats 4000000
namespace MyLaw
open PySem L2
def top (i : Nat) : Stmt := PySem.Challenge.pw_markscale_k24_whole_within_half_a_place.main.body.getD i (.Pass ⟨0, 0, 0, 0⟩)
abbrev s_is_whole : Stmt := top 4
theorem sc_is_whole : FnScope ["thing"] ["thing"] (defScope s_is_whole) := ⟨rfl, rfl, rfl, by decide +kernel, rfl, by decide +kernel, by decide +kernel⟩
abbrev s_divisor_of : Stmt := top 5
theorem sc_divisor_of : FnScope ["one", "other", "high", "low", "rest"] ["one", "other"] (defScope s_divisor_of) := ⟨rfl, rfl, rfl, by decide +kernel, rfl, by decide +kernel, by decide +kernel⟩
abbrev s_number : Stmt := top 6
theorem sc_number : FnScope ["top", "bottom", "divisor"] ["top", "bottom"] (defScope s_number) := ⟨rfl, rfl, rfl, by decide +kernel, rfl, by decide +kernel, by decide +kernel⟩
abbrev s_plus : Stmt := top 7
theorem sc_plus : FnScope ["one", "other"] ["one", "other"] (defScope s_plus) := ⟨rfl, rfl, rfl, by decide +kernel, rfl, by decide +kernel, by decide +kernel⟩
abbrev s_minus : Stmt := top 8
theorem sc_minus : FnScope ["one", "other"] ["one", "other"] (defScope s_minus) := ⟨rfl, rfl, rfl, by decide +kernel, rfl, by decide +kernel, by decide +kernel⟩
abbrev s_times : Stmt := top 9
theorem sc_times : FnScope ["one", "other"] ["one", "other"] (defScope s_times) := ⟨rfl, rfl, rfl, by decide +kernel, rfl, by decide +kernel, by decide +kernel⟩
abbrev s_over : Stmt := top 10
theorem sc_over : FnScope ["one", "other"] ["one", "other"] (defScope s_over) := ⟨rfl, rfl, rfl, by decide +kernel, rfl, by decide +kernel, by decide +kernel⟩
abbrev s_under : Stmt := top 11
theorem sc_under : FnScope ["one", "other"] ["one", "other"] (defScope s_under) := ⟨rfl, rfl, rfl, by decide +kernel, rfl, by decide +kernel, by decide +kernel⟩
abbrev s_floor_of : Stmt := top 12
theorem sc_floor_of : FnScope ["one"] ["one"] (defScope s_floor_of) := ⟨rfl, rfl, rfl, by decide +kernel, rfl, by decide +kernel, by decide +kernel⟩
abbrev s_straight_place : Stmt := top 14
theorem sc_straight_place : FnScope ["one", "lo", "hi", "begin", "end", "part"] ["one", "lo", "hi", "begin", "end"] (defScope s_straight_place) := ⟨rfl, rfl, rfl, by decide +kernel, rfl, by decide +kernel, by decide +kernel⟩
abbrev s_straight_back : Stmt := top 15
theorem sc_straight_back : FnScope ["place", "lo", "hi", "begin", "end", "part"] ["place", "lo", "hi", "begin", "end"] (defScope s_straight_back) := ⟨rfl, rfl, rfl, by decide +kernel, rfl, by decide +kernel, by decide +kernel⟩
abbrev s_is_within : Stmt := top 16
theorem sc_is_within : FnScope ["one", "lo", "hi"] ["one", "lo", "hi"] (defScope s_is_within) := ⟨rfl, rfl, rfl, by decide +kernel, rfl, by decide +kernel, by decide +kernel⟩
abbrev s_power_of : Stmt := top 17
theorem sc_power_of : FnScope ["base", "exponent", "product", "turn"] ["base", "exponent"] (defScope s_power_of) := ⟨rfl, rfl, rfl, by decide +kernel, rfl, by decide +kernel, by decide +kernel⟩
abbrev s_power_below : Stmt := top 18
theorem sc_power_below : FnScope ["base", "one", "top", "bottom", "exponent"] ["base", "one"] (defScope s_power_below) := ⟨rfl, rfl, rfl, by decide +kernel, rfl, by decide +kernel, by decide +kernel⟩
abbrev s_place_on_straight : Stmt := top 19
theorem sc_place_on_straight : FnScope ["scale", "cell"] ["scale", "cell"] (defScope s_place_on_straight) := ⟨rfl, rfl, rfl, by decide +kernel, rfl, by decide +kernel, by decide +kernel⟩
abbrev s_place_on_turns : Stmt := top 20
theorem sc_place_on_turns : FnScope ["scale", "cell", "base", "exponent", "turns", "power", "part"] ["scale", "cell"] (defScope s_place_on_turns) := ⟨rfl, rfl, rfl, by decide +kernel, rfl, by decide +kernel, by decide +kernel⟩
abbrev s_place_on_broken : Stmt := top 21
theorem sc_place_on_broken : FnScope ["scale", "cell", "pieces", "piece"] ["scale", "cell"] (defScope s_place_on_broken) := ⟨rfl, rfl, rfl, by decide +kernel, rfl, by decide +kernel, by decide +kernel⟩
abbrev s_place_on_days : Stmt := top 22
theorem sc_place_on_days : FnScope ["scale", "cell"] ["scale", "cell"] (defScope s_place_on_days) := ⟨rfl, rfl, rfl, by decide +kernel, rfl, by decide +kernel, by decide +kernel⟩
abbrev s_place_on_order : Stmt := top 23
abbrev s_place_on : Stmt := top 24
theorem sc_place_on : FnScope ["scale", "cell"] ["scale", "cell"] (defScope s_place_on) := ⟨rfl, rfl, rfl, by decide +kernel, rfl, by decide +kernel, by decide +kernel⟩
abbrev s_read_on_turns : Stmt := top 25
theorem sc_read_on_turns : FnScope ["scale", "place", "along", "turns", "part", "power"] ["scale", "place"] (defScope s_read_on_turns) := ⟨rfl, rfl, rfl, by decide +kernel, rfl, by decide +kernel, by decide +kernel⟩
abbrev s_read_on_broken : Stmt := top 26
theorem sc_read_on_broken : FnScope ["scale", "place", "piece"] ["scale", "place"] (defScope s_read_on_broken) := ⟨rfl, rfl, rfl, by decide +kernel, rfl, by decide +kernel, by decide +kernel⟩
abbrev s_read_on : Stmt := top 27
theorem sc_read_on : FnScope ["scale", "place"] ["scale", "place"] (defScope s_read_on) := ⟨rfl, rfl, rfl, by decide +kernel, rfl, by decide +kernel, by decide +kernel⟩
abbrev s_l_cell_at : Stmt := top 29
theorem sc_l_cell_at : FnScope ["_law_script", "_law_k"] ["_law_script", "_law_k"] (defScope s_l_cell_at) := ⟨rfl, rfl, rfl, by decide +kernel, rfl, by decide +kernel, by decide +kernel⟩
abbrev s_l_divisor : Stmt := top 30
theorem sc_l_divisor : FnScope ["_law_one", "_law_other"] ["_law_one", "_law_other"] (defScope s_l_divisor) := ⟨rfl, rfl, rfl, by decide +kernel, rfl, by decide +kernel, by decide +kernel⟩
abbrev s_l_lowest : Stmt := top 31
theorem sc_l_lowest : FnScope ["_law_top", "_law_bottom", "_law_share"] ["_law_top", "_law_bottom"] (defScope s_l_lowest) := ⟨rfl, rfl, rfl, by decide +kernel, rfl, by decide +kernel, by decide +kernel⟩
abbrev s_l_is_number : Stmt := top 32
theorem sc_l_is_number : FnScope ["_law_thing", "_law_part"] ["_law_thing"] (defScope s_l_is_number) := ⟨rfl, rfl, rfl, by decide +kernel, rfl, by decide +kernel, by decide +kernel⟩
abbrev s_l_mixed : Stmt := top 33
theorem sc_l_mixed : FnScope ["_law_cell_here"] ["_law_cell_here"] (defScope s_l_mixed) := ⟨rfl, rfl, rfl, by decide +kernel, rfl, by decide +kernel, by decide +kernel⟩
abbrev s_l_power : Stmt := top 34
theorem sc_l_power : FnScope ["_law_base", "_law_many", "_law_found", "_law_k"] ["_law_base", "_law_many"] (defScope s_l_power) := ⟨rfl, rfl, rfl, by decide +kernel, rfl, by decide +kernel, by decide +kernel⟩
abbrev s_l_ends : Stmt := top 35
theorem sc_l_ends : FnScope ["_law_script", "_law_many", "_law_top", "_law_ends_here", "_law_k", "_law_cell_here", "_law_step"] ["_law_script", "_law_many"] (defScope s_l_ends) := ⟨rfl, rfl, rfl, by decide +kernel, rfl, by decide +kernel, by decide +kernel⟩
abbrev s_l_pieces : Stmt := top 36
theorem sc_l_pieces : FnScope ["_law_ends_here", "_law_bottom", "_law_cell_here", "_law_pieces_here", "_law_begin", "_law_k", "_law_end"] ["_law_ends_here", "_law_bottom", "_law_cell_here"] (defScope s_l_pieces) := ⟨rfl, rfl, rfl, by decide +kernel, rfl, by decide +kernel, by decide +kernel⟩
abbrev s_l_scale : Stmt := top 37
theorem sc_l_scale : FnScope ["_law_script", "_law_ends_here", "_law_bottom", "_law_kind", "_law_cell_here", "_law_base", "_law_pieces_here", "_law_lo", "_law_hi"] ["_law_script", "_law_ends_here", "_law_bottom"] (defScope s_l_scale) := ⟨rfl, rfl, rfl, by decide +kernel, rfl, by decide +kernel, by decide +kernel⟩
abbrev s_l_turned : Stmt := top 38
theorem sc_l_turned : FnScope ["_law_scale_here", "_law_cell_here", "_law_far", "_law_at", "_law_part", "_law_name", "_law_base", "_law_low", "_law_many", "_law_length"] ["_law_scale_here", "_law_cell_here", "_law_far"] (defScope s_l_turned) := ⟨rfl, rfl, rfl, by decide +kernel, rfl, by decide +kernel, by decide +kernel⟩
abbrev s_l_cell : Stmt := top 39
theorem sc_l_cell : FnScope ["_law_scale_here", "_law_ends_here", "_law_bottom", "_law_cell_here", "_law_far", "_law_last", "_law_share", "_law_wide"] ["_law_scale_here", "_law_ends_here", "_law_bottom", "_law_cell_here"] (defScope s_l_cell) := ⟨rfl, rfl, rfl, by decide +kernel, rfl, by decide +kernel, by decide +kernel⟩
abbrev s_l_handed : Stmt := top 40
theorem sc_l_handed : FnScope ["_law_scale_here", "_law_cell_here"] ["_law_scale_here", "_law_cell_here"] (defScope s_l_handed) := ⟨rfl, rfl, rfl, by decide +kernel, rfl, by decide +kernel, by decide +kernel⟩
abbrev s_l_above : Stmt := top 41
theorem sc_l_above : FnScope ["_law_one", "_law_other"] ["_law_one", "_law_other"] (defScope s_l_above) := ⟨rfl, rfl, rfl, by decide +kernel, rfl, by decide +kernel, by decide +kernel⟩
abbrev s_l_edges : Stmt := top 42
theorem sc_l_edges : FnScope ["_law_scale_here", "_law_along", "_law_edges_here", "_law_lo", "_law_hi", "_law_begin", "_law_end"] ["_law_scale_here", "_law_along"] (defScope s_l_edges) := ⟨rfl, rfl, rfl, by decide +kernel, rfl, by decide +kernel, by decide +kernel⟩
abbrev s_l_right : Stmt := top 43
theorem sc_l_right : FnScope ["_law_scale_here", "_law_one", "_law_told", "_law_along", "_law_edges_here", "_law_low", "_law_high", "_law_near"] ["_law_scale_here", "_law_one", "_law_told"] (defScope s_l_right) := ⟨rfl, rfl, rfl, by decide +kernel, rfl, by decide +kernel, by decide +kernel⟩
abbrev s_law : Stmt := top 44
theorem sc_law : FnScope ["_law_script", "_law_ends_here", "_law_bottom", "_law_scale_here", "_law_cell_here", "_law_one", "_law_told"] ["_law_script"] (defScope s_law) := ⟨rfl, rfl, rfl, by decide +kernel, rfl, by decide +kernel, by decide +kernel⟩
structure Adr where
  (f_is_whole : Addr) (d_is_whole : FuncData)
  (f_divisor_of : Addr) (d_divisor_of : FuncData)
  (f_number : Addr) (d_number : FuncData)
  (f_plus : Addr) (d_plus : FuncData)
  (f_minus : Addr) (d_minus : FuncData)
  (f_times : Addr) (d_times : FuncData)
  (f_over : Addr) (d_over : FuncData)
  (f_under : Addr) (d_under : FuncData)
  (f_floor_of : Addr) (d_floor_of : FuncData)
  (f_straight_place : Addr) (d_straight_place : FuncData)
  (f_straight_back : Addr) (d_straight_back : FuncData)
  (f_is_within : Addr) (d_is_within : FuncData)
  (f_power_of : Addr) (d_power_of : FuncData)
  (f_power_below : Addr) (d_power_below : FuncData)
  (f_place_on_straight : Addr) (d_place_on_straight : FuncData)
  (f_place_on_turns : Addr) (d_place_on_turns : FuncData)
  (f_place_on_broken : Addr) (d_place_on_broken : FuncData)
  (f_place_on_days : Addr) (d_place_on_days : FuncData)
  (f_place_on_order : Addr) (d_place_on_order : FuncData)
  (f_place_on : Addr) (d_place_on : FuncData)
  (f_read_on_turns : Addr) (d_read_on_turns : FuncData)
  (f_read_on_broken : Addr) (d_read_on_broken : FuncData)
  (f_read_on : Addr) (d_read_on : FuncData)
  (f_l_cell_at : Addr) (d_l_cell_at : FuncData)
  (f_l_divisor : Addr) (d_l_divisor : FuncData)
  (f_l_lowest : Addr) (d_l_lowest : FuncData)
  (f_l_is_number : Addr) (d_l_is_number : FuncData)
  (f_l_mixed : Addr) (d_l_mixed : FuncData)
  (f_l_power : Addr) (d_l_power : FuncData)
  (f_l_ends : Addr) (d_l_ends : FuncData)
  (f_l_pieces : Addr) (d_l_pieces : FuncData)
  (f_l_scale : Addr) (d_l_scale : FuncData)
  (f_l_turned : Addr) (d_l_turned : FuncData)
  (f_l_cell : Addr) (d_l_cell : FuncData)
  (f_l_handed : Addr) (d_l_handed : FuncData)
  (f_l_above : Addr) (d_l_above : FuncData)
  (f_l_edges : Addr) (d_l_edges : FuncData)
  (f_l_right : Addr) (d_l_right : FuncData)
  (f_law : Addr) (d_law : FuncData)
  (c_NoNumber : Addr)
structure Txt (K : PySem.W.Frag) (mg : Str → Option Value) (t : Adr) : Prop where
  F_is_whole : Fun K "is_whole" "is_whole" s_is_whole t.f_is_whole t.d_is_whole
  m_is_whole : mg "is_whole" = some (.ref t.f_is_whole)
  k_is_whole : PySem.W.keepIn K (.ref t.f_is_whole) = true
  b_is_whole : Binds K t.d_is_whole ["thing"] []
  F_divisor_of : Fun K "divisor_of" "divisor_of" s_divisor_of t.f_divisor_of t.d_divisor_of
  m_divisor_of : mg "divisor_of" = some (.ref t.f_divisor_of)
  k_divisor_of : PySem.W.keepIn K (.ref t.f_divisor_of) = true
  b_divisor_of : Binds K t.d_divisor_of ["one", "other"] []
  F_number : FunD K "number" "number" s_number t.f_number t.d_number
  m_number : mg "number" = some (.ref t.f_number)
  k_number : PySem.W.keepIn K (.ref t.f_number) = true
  b_number : Binds K t.d_number ["top", "bottom"] []
  b_number1 : ∃ ds, Vals [V.int 1] ds ∧ Binds K t.d_number ["top", "bottom"] ds
  F_plus : Fun K "plus" "plus" s_plus t.f_plus t.d_plus
  m_plus : mg "plus" = some (.ref t.f_plus)
  k_plus : PySem.W.keepIn K (.ref t.f_plus) = true
  b_plus : Binds K t.d_plus ["one", "other"] []
  F_minus : Fun K "minus" "minus" s_minus t.f_minus t.d_minus
  m_minus : mg "minus" = some (.ref t.f_minus)
  k_minus : PySem.W.keepIn K (.ref t.f_minus) = true
  b_minus : Binds K t.d_minus ["one", "other"] []
  F_times : Fun K "times" "times" s_times t.f_times t.d_times
  m_times : mg "times" = some (.ref t.f_times)
  k_times : PySem.W.keepIn K (.ref t.f_times) = true
  b_times : Binds K t.d_times ["one", "other"] []
  F_over : Fun K "over" "over" s_over t.f_over t.d_over
  m_over : mg "over" = some (.ref t.f_over)
  k_over : PySem.W.keepIn K (.ref t.f_over) = true
  b_over : Binds K t.d_over ["one", "other"] []
  F_under : Fun K "under" "under" s_under t.f_under t.d_under
  m_under : mg "under" = some (.ref t.f_under)
  k_under : PySem.W.keepIn K (.ref t.f_under) = true
  b_under : Binds K t.d_under ["one", "other"] []
  F_floor_of : Fun K "floor_of" "floor_of" s_floor_of t.f_floor_of t.d_floor_of
  m_floor_of : mg "floor_of" = some (.ref t.f_floor_of)
  k_floor_of : PySem.W.keepIn K (.ref t.f_floor_of) = true
  b_floor_of : Binds K t.d_floor_of ["one"] []
  F_straight_place : Fun K "straight_place" "straight_place" s_straight_place t.f_straight_place t.d_straight_place
  m_straight_place : mg "straight_place" = some (.ref t.f_straight_place)
  k_straight_place : PySem.W.keepIn K (.ref t.f_straight_place) = true
  b_straight_place : Binds K t.d_straight_place ["one", "lo", "hi", "begin", "end"] []
  F_straight_back : Fun K "straight_back" "straight_back" s_straight_back t.f_straight_back t.d_straight_back
  m_straight_back : mg "straight_back" = some (.ref t.f_straight_back)
  k_straight_back : PySem.W.keepIn K (.ref t.f_straight_back) = true
  b_straight_back : Binds K t.d_straight_back ["place", "lo", "hi", "begin", "end"] []
  F_is_within : Fun K "is_within" "is_within" s_is_within t.f_is_within t.d_is_within
  m_is_within : mg "is_within" = some (.ref t.f_is_within)
  k_is_within : PySem.W.keepIn K (.ref t.f_is_within) = true
  b_is_within : Binds K t.d_is_within ["one", "lo", "hi"] []
  F_power_of : Fun K "power_of" "power_of" s_power_of t.f_power_of t.d_power_of
  m_power_of : mg "power_of" = some (.ref t.f_power_of)
  k_power_of : PySem.W.keepIn K (.ref t.f_power_of) = true
  b_power_of : Binds K t.d_power_of ["base", "exponent"] []
  F_power_below : Fun K "power_below" "power_below" s_power_below t.f_power_below t.d_power_below
  m_power_below : mg "power_below" = some (.ref t.f_power_below)
  k_power_below : PySem.W.keepIn K (.ref t.f_power_below) = true
  b_power_below : Binds K t.d_power_below ["base", "one"] []
  F_place_on_straight : Fun K "place_on_straight" "place_on_straight" s_place_on_straight t.f_place_on_straight t.d_place_on_straight
  m_place_on_straight : mg "place_on_straight" = some (.ref t.f_place_on_straight)
  k_place_on_straight : PySem.W.keepIn K (.ref t.f_place_on_straight) = true
  b_place_on_straight : Binds K t.d_place_on_straight ["scale", "cell"] []
  F_place_on_turns : Fun K "place_on_turns" "place_on_turns" s_place_on_turns t.f_place_on_turns t.d_place_on_turns
  m_place_on_turns : mg "place_on_turns" = some (.ref t.f_place_on_turns)
  k_place_on_turns : PySem.W.keepIn K (.ref t.f_place_on_turns) = true
  b_place_on_turns : Binds K t.d_place_on_turns ["scale", "cell"] []
  F_place_on_broken : Fun K "place_on_broken" "place_on_broken" s_place_on_broken t.f_place_on_broken t.d_place_on_broken
  m_place_on_broken : mg "place_on_broken" = some (.ref t.f_place_on_broken)
  k_place_on_broken : PySem.W.keepIn K (.ref t.f_place_on_broken) = true
  b_place_on_broken : Binds K t.d_place_on_broken ["scale", "cell"] []
  F_place_on_days : Fun K "place_on_days" "place_on_days" s_place_on_days t.f_place_on_days t.d_place_on_days
  m_place_on_days : mg "place_on_days" = some (.ref t.f_place_on_days)
  k_place_on_days : PySem.W.keepIn K (.ref t.f_place_on_days) = true
  b_place_on_days : Binds K t.d_place_on_days ["scale", "cell"] []
  F_place_on_order : Fun K "place_on_order" "place_on_order" s_place_on_order t.f_place_on_order t.d_place_on_order
  m_place_on_order : mg "place_on_order" = some (.ref t.f_place_on_order)
  k_place_on_order : PySem.W.keepIn K (.ref t.f_place_on_order) = true
  b_place_on_order : Binds K t.d_place_on_order ["scale", "cell"] []
  F_place_on : Fun K "place_on" "place_on" s_place_on t.f_place_on t.d_place_on
  m_place_on : mg "place_on" = some (.ref t.f_place_on)
  k_place_on : PySem.W.keepIn K (.ref t.f_place_on) = true
  b_place_on : Binds K t.d_place_on ["scale", "cell"] []
  F_read_on_turns : Fun K "read_on_turns" "read_on_turns" s_read_on_turns t.f_read_on_turns t.d_read_on_turns
  m_read_on_turns : mg "read_on_turns" = some (.ref t.f_read_on_turns)
  k_read_on_turns : PySem.W.keepIn K (.ref t.f_read_on_turns) = true
  b_read_on_turns : Binds K t.d_read_on_turns ["scale", "place"] []
  F_read_on_broken : Fun K "read_on_broken" "read_on_broken" s_read_on_broken t.f_read_on_broken t.d_read_on_broken
  m_read_on_broken : mg "read_on_broken" = some (.ref t.f_read_on_broken)
  k_read_on_broken : PySem.W.keepIn K (.ref t.f_read_on_broken) = true
  b_read_on_broken : Binds K t.d_read_on_broken ["scale", "place"] []
  F_read_on : Fun K "read_on" "read_on" s_read_on t.f_read_on t.d_read_on
  m_read_on : mg "read_on" = some (.ref t.f_read_on)
  k_read_on : PySem.W.keepIn K (.ref t.f_read_on) = true
  b_read_on : Binds K t.d_read_on ["scale", "place"] []
  F_l_cell_at : Fun K "_law_cell_at" "_law_cell_at" s_l_cell_at t.f_l_cell_at t.d_l_cell_at
  m_l_cell_at : mg "_law_cell_at" = some (.ref t.f_l_cell_at)
  k_l_cell_at : PySem.W.keepIn K (.ref t.f_l_cell_at) = true
  b_l_cell_at : Binds K t.d_l_cell_at ["_law_script", "_law_k"] []
  F_l_divisor : Fun K "_law_divisor" "_law_divisor" s_l_divisor t.f_l_divisor t.d_l_divisor
  m_l_divisor : mg "_law_divisor" = some (.ref t.f_l_divisor)
  k_l_divisor : PySem.W.keepIn K (.ref t.f_l_divisor) = true
  b_l_divisor : Binds K t.d_l_divisor ["_law_one", "_law_other"] []
  F_l_lowest : Fun K "_law_lowest" "_law_lowest" s_l_lowest t.f_l_lowest t.d_l_lowest
  m_l_lowest : mg "_law_lowest" = some (.ref t.f_l_lowest)
  k_l_lowest : PySem.W.keepIn K (.ref t.f_l_lowest) = true
  b_l_lowest : Binds K t.d_l_lowest ["_law_top", "_law_bottom"] []
  F_l_is_number : Fun K "_law_is_number" "_law_is_number" s_l_is_number t.f_l_is_number t.d_l_is_number
  m_l_is_number : mg "_law_is_number" = some (.ref t.f_l_is_number)
  k_l_is_number : PySem.W.keepIn K (.ref t.f_l_is_number) = true
  b_l_is_number : Binds K t.d_l_is_number ["_law_thing"] []
  F_l_mixed : Fun K "_law_mixed" "_law_mixed" s_l_mixed t.f_l_mixed t.d_l_mixed
  m_l_mixed : mg "_law_mixed" = some (.ref t.f_l_mixed)
  k_l_mixed : PySem.W.keepIn K (.ref t.f_l_mixed) = true
  b_l_mixed : Binds K t.d_l_mixed ["_law_cell_here"] []
  F_l_power : Fun K "_law_power" "_law_power" s_l_power t.f_l_power t.d_l_power
  m_l_power : mg "_law_power" = some (.ref t.f_l_power)
  k_l_power : PySem.W.keepIn K (.ref t.f_l_power) = true
  b_l_power : Binds K t.d_l_power ["_law_base", "_law_many"] []
  F_l_ends : Fun K "_law_ends" "_law_ends" s_l_ends t.f_l_ends t.d_l_ends
  m_l_ends : mg "_law_ends" = some (.ref t.f_l_ends)
  k_l_ends : PySem.W.keepIn K (.ref t.f_l_ends) = true
  b_l_ends : Binds K t.d_l_ends ["_law_script", "_law_many"] []
  F_l_pieces : Fun K "_law_pieces" "_law_pieces" s_l_pieces t.f_l_pieces t.d_l_pieces
  m_l_pieces : mg "_law_pieces" = some (.ref t.f_l_pieces)
  k_l_pieces : PySem.W.keepIn K (.ref t.f_l_pieces) = true
  b_l_pieces : Binds K t.d_l_pieces ["_law_ends_here", "_law_bottom", "_law_cell_here"] []
  F_l_scale : Fun K "_law_scale" "_law_scale" s_l_scale t.f_l_scale t.d_l_scale
  m_l_scale : mg "_law_scale" = some (.ref t.f_l_scale)
  k_l_scale : PySem.W.keepIn K (.ref t.f_l_scale) = true
  b_l_scale : Binds K t.d_l_scale ["_law_script", "_law_ends_here", "_law_bottom"] []
  F_l_turned : Fun K "_law_turned" "_law_turned" s_l_turned t.f_l_turned t.d_l_turned
  m_l_turned : mg "_law_turned" = some (.ref t.f_l_turned)
  k_l_turned : PySem.W.keepIn K (.ref t.f_l_turned) = true
  b_l_turned : Binds K t.d_l_turned ["_law_scale_here", "_law_cell_here", "_law_far"] []
  F_l_cell : Fun K "_law_cell" "_law_cell" s_l_cell t.f_l_cell t.d_l_cell
  m_l_cell : mg "_law_cell" = some (.ref t.f_l_cell)
  k_l_cell : PySem.W.keepIn K (.ref t.f_l_cell) = true
  b_l_cell : Binds K t.d_l_cell ["_law_scale_here", "_law_ends_here", "_law_bottom", "_law_cell_here"] []
  F_l_handed : Fun K "_law_handed" "_law_handed" s_l_handed t.f_l_handed t.d_l_handed
  m_l_handed : mg "_law_handed" = some (.ref t.f_l_handed)
  k_l_handed : PySem.W.keepIn K (.ref t.f_l_handed) = true
  b_l_handed : Binds K t.d_l_handed ["_law_scale_here", "_law_cell_here"] []
  F_l_above : Fun K "_law_above" "_law_above" s_l_above t.f_l_above t.d_l_above
  m_l_above : mg "_law_above" = some (.ref t.f_l_above)
  k_l_above : PySem.W.keepIn K (.ref t.f_l_above) = true
  b_l_above : Binds K t.d_l_above ["_law_one", "_law_other"] []
  F_l_edges : Fun K "_law_edges" "_law_edges" s_l_edges t.f_l_edges t.d_l_edges
  m_l_edges : mg "_law_edges" = some (.ref t.f_l_edges)
  k_l_edges : PySem.W.keepIn K (.ref t.f_l_edges) = true
  b_l_edges : Binds K t.d_l_edges ["_law_scale_here", "_law_along"] []
  F_l_right : Fun K "_law_right" "_law_right" s_l_right t.f_l_right t.d_l_right
  m_l_right : mg "_law_right" = some (.ref t.f_l_right)
  k_l_right : PySem.W.keepIn K (.ref t.f_l_right) = true
  b_l_right : Binds K t.d_l_right ["_law_scale_here", "_law_one", "_law_told"] []
  F_law : Fun K "law" "law" s_law t.f_law t.d_law
  m_law : mg "law" = some (.ref t.f_law)
  k_law : PySem.W.keepIn K (.ref t.f_law) = true
  b_law : Binds K t.d_law ["_law_script"] []
  m_NoNumber : mg "NoNumber" = some (.ref t.c_NoNumber)
  n_NoNumber : PySem.W.nsIn K mainGlobals "NoNumber" = some (some (.ref t.c_NoNumber))
  x_NoNumber : PySem.W.excIn K t.c_NoNumber bmVE "ValueError.__new__" = true
  e_NoNumber : PySem.W.exmOne K (.ref t.c_NoNumber) (.ref t.c_NoNumber) = some true
  z_isinstance : mg "isinstance" = none
  z_int : mg "int" = none
  z_bool : mg "bool" = none
  z_tuple : mg "tuple" = none
  z_str : mg "str" = none
  z_abs : mg "abs" = none
  z_len : mg "len" = none
  z_range : mg "range" = none
  z_max : mg "max" = none
  z_min : mg "min" = none
theorem at0 {α : Type} (x y : α) : atI [x, y] 0 = some x := rfl
theorem at1 {α : Type} (x y : α) : atI [x, y] 1 = some y := rfl
theorem iteBT {b : Bool} {A B : Prop} (hb : b = true) (h : A) : if b = true then A else B := by
  rw [if_pos hb]; exact h
theorem iteDF {c A B : Prop} [Decidable c] (hc : ¬ c) (h : B) : if decide c = true then A else B := by
  rw [decide_eq_false hc]; exact iteF h
theorem iteDT {c A B : Prop} [Decidable c] (hc : c) (h : A) : if decide c = true then A else B := by
  rw [decide_eq_true hc]; exact iteT h
theorem small3 {a b c : Int} (ha : 0 ≤ a) (ha' : a ≤ 1000000) (hb : 0 ≤ b) (hb' : b ≤ 1000000) (hc : 0 < c) (hc' : c ≤ 1000000) : Builtin.Range.small a b c = true := by
  have h0 := rng_nonneg (i := a) (j := b) hc
  have h1 : Builtin.Range.rangeSize a b c ≤ 1000001 := by
    unfold Builtin.Range.rangeSize
    rw [if_pos hc]
    by_cases h : a < b
    · rw [if_pos h]
      have := Int.ediv_le_self c (show 0 ≤ b - a - 1 by omega)
      omega
    · rw [if_neg h]; omega
  unfold Builtin.Range.small
  generalize Builtin.Range.rangeSize a b c = n at *
  have hc2 : c > 0 := hc
  simp only [Builtin.Range.rangeFitsLong, Bool.and_eq_true, Bool.or_eq_true, decide_eq_true_eq, beq_iff_eq, if_pos hc2]
  omega
theorem iteNF {c A B : Prop} [Decidable c] (hc : ¬ c) (h : A) : if (!decide c) = true then A else B := by
  rw [decide_eq_false hc]; exact iteT h
theorem midB {n : Int} (h1 : 0 ≤ n) (h2 : n < 1152921504606846976) : Mid n := (show My.Bd 60 n by unfold My.Bd; omega).mono (by decide)
def cellAt (ns : List Int) (k : Int) : Int := ns.getD k.toNat 0

def sp_whole (K : PySem.W.Frag) : Sp := fun vs H Q _ => ∃ x g, vs = [x] ∧ tgIs K H x g ∧ Q (.bl (match g with | .int => true | _ => false)) H
def sp_cell (K : PySem.W.Frag) : Sp := fun vs H Q _ => ∃ (a : Addr) (ns : List Int) (k : Int), vs = [.ref a, .int k] ∧ SqL K H a (ns.map V.int) ∧ 0 ≤ k ∧ Q (.int (cellAt ns k)) H
def sp_div : Sp := fun vs H Q _ => ∃ a b : Int, vs = [.int a, .int b] ∧ 0 ≤ b ∧ Q (.int ((Int.gcd a b : Nat) : Int)) H
def sp_law (K : PySem.W.Frag) : Sp := fun vs H Q _ => ∃ (a : Addr) (ns : List Int), vs = [.ref a] ∧ SqL K H a (ns.map V.int) ∧ ns.length ≤ 63 ∧ (∀ x ∈ ns, My.Bd 1048576 x) ∧ ∀ H', Q (.bl true) H'

def sp_gcd : Sp := fun vs H Q _ => ∃ a b : Int, vs = [.int a, .int b] ∧ Q (.int ((Int.gcd a b : Nat) : Int)) H
structure Pr (K : PySem.W.Frag) (H : Hp) (p : Addr) (a b : Int) (n : Nat) : Prop where
  s : SqT K H p [.int a, .int b]
  pos : 0 < b
  ba : My.Bd n a
  bb : My.Bd n b
theorem Pr.ne {K : PySem.W.Frag} {H : Hp} {p : Addr} {a b : Int} {n : Nat} (h : Pr K H p a b n) : b ≠ 0 := Int.ne_of_gt h.pos
theorem Pr.keep {K : PySem.W.Frag} {H H' : Hp} {p : Addr} {a b : Int} {n : Nat} (h : Pr K H p a b n) (e : Same H H') : Pr K H' p a b n := ⟨e.tup h.s, h.pos, h.ba, h.bb⟩
theorem Pr.up {K : PySem.W.Frag} {H : Hp} {p : Addr} {a b : Int} {n m : Nat} (h : Pr K H p a b n) (e : n ≤ m) : Pr K H p a b m := ⟨h.s, h.pos, h.ba.mono e, h.bb.mono e⟩
/-- a new number of that value -/
def NewQ (K : PySem.W.Frag) (H : Hp) (Q : VK) (n : Nat) (v : Rat) : Prop := ∀ (p : Addr) (H' : Hp) (x y : Int), Same H H' → Pr K H' p x y n → Int.gcd x y = 1 → My.qv x y = v → Q (.ref p) H'
def sp_number (K : PySem.W.Frag) : Sp := fun vs H Q _ => ∃ (t m : Int) (n : Nat), vs = [.int t, .int m] ∧ My.Bd n t ∧ My.Bd n m ∧ n ≤ 3900 ∧ m ≠ 0 ∧ NewQ K H Q n (My.qv t m)
def sp_two (K : PySem.W.Frag) (f : Rat → Rat → Rat) (ok : Int → Prop) : Sp := fun vs H Q _ => ∃ (p r : Addr) (a b c d : Int) (n1 n2 : Nat), vs = [.ref p, .ref r] ∧ Pr K H p a b n1 ∧ Pr K H r c d n2 ∧ n1 + n2 + 1 ≤ 3900 ∧ ok c ∧ NewQ K H Q (n1 + n2 + 1) (f (My.qv a b) (My.qv c d))
def sp_cmp (K : PySem.W.Frag) (f : Int → Int → Int → Int → V) : Sp := fun vs H Q _ => ∃ (p r : Addr) (a b c d : Int) (n1 n2 : Nat), vs = [.ref p, .ref r] ∧ Pr K H p a b n1 ∧ Pr K H r c d n2 ∧ n1 + n2 ≤ 3900 ∧ Q (f a b c d) H
section
variable {P : Program} {w : World} {K : PySem.W.Frag} {mg : Str → Option Value} {base : Heap} {t : Adr}
theorem ok_is_whole (T : Txt K mg t) : FnOk P w K mg base CX0 1 t.f_is_whole t.d_is_whole ["thing"] (sp_whole K) := by
  refine T.F_is_whole.ok sc_is_whole (fun vs H Q E h => ?_) (fun cdv A outer s H vs Q E hr h => ?_)
  · obtain ⟨x, g, rfl, _⟩ := h
    rfl
  obtain ⟨x, g, rfl, hg, q⟩ := h
  refine ⟨_, (pss_one (ps_ret (pe_and (pe_isi isi_int rfl rfl T.z_isinstance T.z_int bt_int (pv 0)) (pe_one (pe_not (pe_isi isi_bool rfl rfl T.z_isinstance T.z_bool bt_bool (pv 0))))))), ?_⟩
  refine ⟨_, rfl, _, g, rfl, hg, _, rfl, ?_⟩
  cases g with
  | int => exact iteT ⟨_, rfl, _, .int, rfl, hg, _, rfl, q⟩
  | bl => exact iteT ⟨_, rfl, _, .bl, rfl, hg, _, rfl, q⟩
  | non => exact iteF q
  | str => exact iteF q
  | tup => exact iteF q
  | lst => exact iteF q
theorem ok_l_cell_at (T : Txt K mg t) : FnOk P w K mg base CX0 1 t.f_l_cell_at t.d_l_cell_at ["_law_script", "_law_k"] (sp_cell K) := by
  refine T.F_l_cell_at.ok sc_l_cell_at (fun vs H Q E h => ?_) (fun cdv A outer s H vs Q E hr h => ?_)
  · obtain ⟨a, ns, k, rfl, _⟩ := h
    rfl
  obtain ⟨a, ns, k, rfl, hS, h0, q⟩ := h
  refine ⟨_, (pss_cons (ps_if (pt_cmpR op_lt (pv 1) (pe_callB call_len_seq rfl T.z_len PySem.boot_len (pa_cons (pv 0) pa_nil)) (nomark _)) (pss_one (ps_ret (pe_ix ix_list (pv 0) (pv 1) (fun _ _ => rfl)))) pss_nil)
  (pss_one (ps_ret pe_int))), ?_⟩
  have hl : (ns.map V.int).length = ns.length := List.length_map _
  refine ⟨_, rfl, _, rfl, a, _, rfl, .inl hS, _, _, rfl, rfl, _, rfl, ?_⟩
  refine ite2 (fun c => ?_) (fun c => ?_)
  · have c' : k < (((ns.map V.int).length : Nat) : Int) := of_decide_eq_true c
    rw [hl] at c'
    have hk : k.toNat < ns.length := by omega
    have hv : atI (ns.map V.int) k = some (.int (cellAt ns k)) := by
      have ek : k = ((k.toNat : Nat) : Int) := by omega
      have q : atI (ns.map V.int) ((k.toNat : Nat) : Int) = some (.int (cellAt ns k)) := atI_nat (by
        rw [List.getElem?_map, List.getElem?_eq_getElem hk]
        unfold cellAt
        rw [List.getD_eq_getElem?_getD, List.getElem?_eq_getElem hk] <;> rfl)
      rw [← ek] at q
      exact q
    exact ⟨_, rfl, _, rfl, _, _, _, _, rfl, rfl, hS, hv, q⟩
  · have c' : ¬ k < (((ns.map V.int).length : Nat) : Int) := of_decide_eq_false (Bool.eq_false_iff.mpr c)
    rw [hl] at c'
    have e : cellAt ns k = 0 := by
      unfold cellAt
      rw [List.getD_eq_getElem?_getD, List.getElem?_eq_none (by omega)] <;> rfl
    rw [e] at q
    exact q
theorem ok_l_divisor (T : Txt K mg t) : FnOk P w K mg base CX0 1 t.f_l_divisor t.d_l_divisor ["_law_one", "_law_other"] sp_div := by
  refine T.F_l_divisor.ok sc_l_divisor (fun vs H Q E h => ?_) (fun cdv A outer s H vs Q E hr h => ?_)
  · obtain ⟨a, b, rfl, _⟩ := h
    rfl
  obtain ⟨a, b, rfl, hb, q⟩ := h
  refine ⟨_, (pss_cons (ps_while PassesOwn.never (pt_cmpR op_ne (pv 1) pe_int (nomark _)) (pss_one (ps_par (i := 0) (j := 1) rfl sc_l_divisor.nd rfl rfl (by decide) rfl rfl (pa_cons (pv 1) (pa_cons (pe_op op_mod (pv 0) (pv 1)) pa_nil)) rfl)))
  (pss_one (ps_ret (pe_callB call_abs rfl T.z_abs bt_abs (pa_cons (pv 0) pa_nil))))), ?_⟩
  refine while_by (fun σ H' => ∃ x y : Int, σ = [some (.int x), some (.int y)] ∧ H' = H ∧ 0 ≤ y ∧ Int.gcd x y = Int.gcd a b)
    (fun σ _ => match σ with | [_, some (.int y)] => y.toNat | _ => 0) ⟨a, b, rfl, rfl, hb, rfl⟩ ?_ ?_
  · rintro σ H' ⟨x, y, rfl, rfl, hy, hg⟩
    refine ⟨_, rfl, rfl, _, rfl, ?_⟩
    by_cases h0 : y = 0
    · subst h0
      refine iteNS rfl ?_
      have e : (if x < 0 then -x else x) = ((Int.gcd a b : Nat) : Int) := by
        rw [← hg, Int.gcd_zero_right]
        split <;> omega
      refine ⟨_, rfl, _, rfl, ?_⟩
      rw [e]
      exact q
    · rw [decide_eq_false (fun z => h0 (V.int.inj z))]
      refine iteT ?_
      have hp : 0 < y := by omega
      have h1 := Int.emod_nonneg x h0
      have h2 := Int.emod_lt_of_pos x hp
      refine ⟨_, rfl, _, rfl, _, rfl, _, _, rfl, rfl, hp, _, _, rfl, ⟨y, x % y, rfl, rfl, h1, ?_⟩, ?_⟩
      · rw [My.gcd_step, hg]
      · show (x % y).toNat < y.toNat
        omega
  · rintro σ H' Q1 Q2 hi ⟨v, e, hs, k, ek, q'⟩
    exact ⟨v, e, hs, k, ek, hi _ _ q'⟩

theorem gcd_abs (a b : Int) : Int.gcd (if a < 0 then -a else a) (if b < 0 then -b else b) = Int.gcd a b := by
  rw [My.natAbs_abs, My.natAbs_abs]
  rfl
theorem ok_divisor_of (T : Txt K mg t) : FnOk P w K mg base CX0 1 t.f_divisor_of t.d_divisor_of ["one", "other"] sp_gcd := by
  refine T.F_divisor_of.ok sc_divisor_of (fun vs H Q E h => ?_) (fun cdv A outer s H vs Q E hr h => ?_)
  · obtain ⟨a, b, rfl, _⟩ := h
    rfl
  obtain ⟨a, b, rfl, q⟩ := h
  refine ⟨_, (pss_cons (ps_set (i := 2) sc_divisor_of.nd rfl (Or.inl rfl) (pe_callB call_abs rfl T.z_abs bt_abs (pa_cons (pv 0) pa_nil)))
  (pss_cons (ps_set (i := 3) sc_divisor_of.nd rfl (Or.inl rfl) (pe_callB call_abs rfl T.z_abs bt_abs (pa_cons (pv 1) pa_nil)))
  (pss_cons (ps_while PassesOwn.never (pt_truth (pv 3) (fun _ => rfl)) (pss_cons (ps_set (i := 4) sc_divisor_of.nd rfl (Or.inl rfl) (pe_op op_mod (pv 2) (pv 3)))
  (pss_cons (ps_set (i := 2) sc_divisor_of.nd rfl (Or.inl rfl) (pv 3))
  (pss_one (ps_set (i := 3) sc_divisor_of.nd rfl (Or.inl rfl) (pv 4))))))
  (pss_one (ps_ret (pv 2)))))), ?_⟩
  refine ⟨_, rfl, _, rfl, ?_⟩
  refine ⟨_, rfl, _, rfl, ?_⟩
  dsimp only [gName, tSeq]
  refine while_by (fun σ H' => ∃ (x y : Int) (r : Option V), σ = [some (.int a), some (.int b), some (.int x), some (.int y), r] ∧ H' = H ∧ 0 ≤ x ∧ 0 ≤ y ∧ Int.gcd x y = Int.gcd a b)
    (fun σ _ => match σ with | [_, _, _, some (.int y), _] => y.toNat | _ => 0) ⟨_, _, none, rfl, rfl, by split <;> omega, by split <;> omega, gcd_abs a b⟩ ?_ ?_
  · rintro σ H' ⟨x, y, r, rfl, rfl, hx, hy, hg⟩
    refine ⟨_, rfl, _, rfl, ?_⟩
    by_cases h0 : y = 0
    · subst h0
      refine iteF ?_
      have e : x = ((Int.gcd a b : Nat) : Int) := by
        rw [← hg, Int.gcd_zero_right]
        omega
      refine ⟨_, rfl, ?_⟩
      rw [e]
      exact q
    · have hb : (y != 0) = true := by simpa using h0
      refine iteBT hb ?_
      have hp : 0 < y := by omega
      have h1 := Int.emod_nonneg x h0
      have h2 := Int.emod_lt_of_pos x hp
      refine ⟨_, rfl, _, rfl, _, _, rfl, rfl, hp, _, rfl, _, rfl, ⟨y, x % y, _, rfl, rfl, hy, h1, ?_⟩, ?_⟩
      · rw [My.gcd_step, hg]
      · show (x % y).toNat < y.toNat
        omega
  · rintro σ H' Q1 Q2 hi ⟨v, e, k, tr, q'⟩
    exact ⟨v, e, k, tr, hi _ _ q'⟩
theorem ok_number (T : Txt K mg t) : FnOk P w K mg base (CXe P w) 2 t.f_number t.d_number ["top", "bottom"] (sp_number K) := by
  have G_is_whole := ok_is_whole (P := P) (w := w) (base := base) T
  have G_divisor_of := ok_divisor_of (P := P) (w := w) (base := base) T
  refine T.F_number.okE sc_number (fun vs H Q E h => ?_) (fun cdv A outer s H vs Q E hr h => ?_)
  · obtain ⟨a, b, n, rfl, _⟩ := h
    rfl
  obtain ⟨tp, m, n, rfl, bt, bm, hn, h0, hQ⟩ := h
  refine ⟨_, (pss_cons (ps_if (PW.pt (pw_or (pt_not (pt_val (pe_call G_is_whole (hr.mono (by decide)) rfl T.m_is_whole T.k_is_whole T.b_is_whole .nil pass0 (pa_cons (pv 0) pa_nil)))) (pw_or1 (pt_not (pt_val (pe_call G_is_whole (hr.mono (by decide)) rfl T.m_is_whole T.k_is_whole T.b_is_whole .nil pass0 (pa_cons (pv 1) pa_nil))))))) (pss_one (ps_raise rfl T.x_NoNumber T.n_NoNumber T.m_NoNumber rfl raisesE (pa_cons pe_str pa_nil))) pss_nil)
  (pss_cons (ps_if (pt_cmpR op_eq (pv 1) pe_int (nomark _)) (pss_one (ps_raise rfl T.x_NoNumber T.n_NoNumber T.m_NoNumber rfl raisesE (pa_cons pe_str pa_nil))) pss_nil)
  (pss_cons (ps_set (i := 2) sc_number.nd rfl (Or.inl rfl) (pe_call G_divisor_of (hr.mono (by decide)) rfl T.m_divisor_of T.k_divisor_of T.b_divisor_of .nil pass0 (pa_cons (pv 0) (pa_cons (pv 1) pa_nil))))
  (pss_cons (ps_if (pt_cmpR op_lt (pv 1) pe_int (nomark _)) (pss_one (ps_set (i := 2) sc_number.nd rfl (Or.inl rfl) (pe_un un_neg (pv 2)))) pss_nil)
  (pss_one (ps_ret (pe_tup (pa_cons (pe_op op_fdivNB (pv 0) (pv 2)) (pa_cons (pe_op op_fdivNB (pv 1) (pv 2)) pa_nil))))))))), ?_⟩
  refine ⟨_, rfl, _, .int, rfl, True.intro, _, rfl, ?_⟩
  refine iteF ?_
  refine ⟨_, rfl, _, .int, rfl, True.intro, _, rfl, ?_⟩
  refine iteF ?_
  refine ⟨_, rfl, rfl, _, rfl, ?_⟩
  refine iteDF (fun z => h0 (V.int.inj z)) ?_
  have M := My.made_of (t := tp) h0
  refine ⟨_, rfl, _, rfl, _, _, rfl, ?_⟩
  refine ⟨_, rfl, _, _, rfl, rfl, _, rfl, ?_⟩
  have hg : 0 < Int.gcd tp m := Int.gcd_pos_of_ne_zero_right tp h0
  have hm : Mid ((Int.gcd tp m : Nat) : Int) := (My.Bd.of_natAbs (x := ((Int.gcd tp m : Nat) : Int)) (y := m) (by
    rw [Int.natAbs_natCast]
    exact Nat.le_of_dvd (by omega) (Nat.gcd_dvd_right tp.natAbs m.natAbs)) bm).mono (by omega)
  by_cases hneg : m < 0
  · refine iteDT hneg ?_
    have e : My.sg tp m = -((Int.gcd tp m : Nat) : Int) := if_pos hneg
    refine ⟨_, rfl, _, rfl, ?_⟩
    refine ⟨_, rfl, _, rfl, _, _, rfl, rfl, ⟨by omega, hm.neg⟩, _, rfl, _, rfl, _, _, rfl, rfl, ⟨by omega, hm.neg⟩, (by show 2 ≤ sizeLine; decide), fun p hp => ?_⟩
    exact hQ p _ _ _ (Same.new hp _) ⟨SqT.of (by rw [e]; exact upd_same), M.pos, My.Bd.of_natAbs M.ba bt, My.Bd.of_natAbs M.bb bm⟩ M.low (My.qv_eq (Int.ne_of_gt M.pos) h0 M.same)
  · refine iteDF hneg ?_
    have e : My.sg tp m = ((Int.gcd tp m : Nat) : Int) := if_neg hneg
    refine ⟨_, rfl, _, rfl, _, _, rfl, rfl, ⟨by omega, hm⟩, _, rfl, _, rfl, _, _, rfl, rfl, ⟨by omega, hm⟩, (by show 2 ≤ sizeLine; decide), fun p hp => ?_⟩
    exact hQ p _ _ _ (Same.new hp _) ⟨SqT.of (by rw [e]; exact upd_same), M.pos, My.Bd.of_natAbs M.ba bt, My.Bd.of_natAbs M.bb bm⟩ M.low (My.qv_eq (Int.ne_of_gt M.pos) h0 M.same)
theorem prod_ne {b d : Int} (hb : 0 < b) (hd : 0 < d) : b * d ≠ 0 := Int.ne_of_gt (Int.mul_pos hb hd)
theorem ok_plus (T : Txt K mg t) : FnOk P w K mg base CX0 3 t.f_plus t.d_plus ["one", "other"] (sp_two K (fun x y => x + y) (fun _ => True)) := by
  have G_number := ok_number (P := P) (w := w) (base := base) T
  refine T.F_plus.ok sc_plus (fun vs H Q E h => ?_) (fun cdv A outer s H vs Q E hr h => ?_)
  · obtain ⟨p, r, a, b, c, d, n1, n2, rfl, _⟩ := h
    rfl
  obtain ⟨p, r, a, b, c, d, n1, n2, rfl, h1, h2, hn, hok, q⟩ := h
  have m1 : Mid a := h1.ba.mono (by omega)
  have m2 : Mid b := h1.bb.mono (by omega)
  have m3 : Mid c := h2.ba.mono (by omega)
  have m4 : Mid d := h2.bb.mono (by omega)
  refine ⟨_, (pss_one (ps_ret (pe_call G_number (hr.mono (by decide)) rfl T.m_number T.k_number T.b_number .nil passE0 (pa_cons (pe_op op_add (pe_op op_mulB (pe_ix ix_tup (pv 0) pe_int (fun _ _ => rfl)) (pe_ix ix_tup (pv 1) pe_int (fun _ _ => rfl))) (pe_op op_mulB (pe_ix ix_tup (pv 1) pe_int (fun _ _ => rfl)) (pe_ix ix_tup (pv 0) pe_int (fun _ _ => rfl)))) (pa_cons (pe_op op_mulB (pe_ix ix_tup (pv 0) pe_int (fun _ _ => rfl)) (pe_ix ix_tup (pv 1) pe_int (fun _ _ => rfl))) pa_nil))))), ?_⟩
  exact ⟨_, rfl, _, _, _, _, rfl, rfl, h1.s, at0 _ _, _, rfl, _, _, _, _, rfl, rfl, h2.s, at1 _ _, _, _, rfl, rfl, ⟨m1, m4⟩, _, rfl, _, _, _, _, rfl, rfl, h2.s, at0 _ _, _, rfl, _, _, _, _, rfl, rfl, h1.s, at1 _ _, _, _, rfl, rfl, ⟨m3, m2⟩, _, _, rfl, rfl, _, rfl, _, _, _, _, rfl, rfl, h1.s, at1 _ _, _, rfl, _, _, _, _, rfl, rfl, h2.s, at1 _ _, _, _, rfl, rfl, ⟨m2, m4⟩, _, _, n1 + n2 + 1, rfl, ((h1.ba.mul h2.bb).add ((h2.ba.mul h1.bb).mono (by omega))).mono (by omega), (h1.bb.mul h2.bb).mono (by omega), hn, prod_ne h1.pos h2.pos, fun p' H' x y s' P g e => q p' H' x y s' P g (e.trans (My.qv_plus h1.ne h2.ne))⟩
theorem ok_minus (T : Txt K mg t) : FnOk P w K mg base CX0 3 t.f_minus t.d_minus ["one", "other"] (sp_two K (fun x y => x - y) (fun _ => True)) := by
  have G_number := ok_number (P := P) (w := w) (base := base) T
  refine T.F_minus.ok sc_minus (fun vs H Q E h => ?_) (fun cdv A outer s H vs Q E hr h => ?_)
  · obtain ⟨p, r, a, b, c, d, n1, n2, rfl, _⟩ := h
    rfl
  obtain ⟨p, r, a, b, c, d, n1, n2, rfl, h1, h2, hn, hok, q⟩ := h
  have m1 : Mid a := h1.ba.mono (by omega)
  have m2 : Mid b := h1.bb.mono (by omega)
  have m3 : Mid c := h2.ba.mono (by omega)
  have m4 : Mid d := h2.bb.mono (by omega)
  refine ⟨_, (pss_one (ps_ret (pe_call G_number (hr.mono (by decide)) rfl T.m_number T.k_number T.b_number .nil passE0 (pa_cons (pe_op op_sub (pe_op op_mulB (pe_ix ix_tup (pv 0) pe_int (fun _ _ => rfl)) (pe_ix ix_tup (pv 1) pe_int (fun _ _ => rfl))) (pe_op op_mulB (pe_ix ix_tup (pv 1) pe_int (fun _ _ => rfl)) (pe_ix ix_tup (pv 0) pe_int (fun _ _ => rfl)))) (pa_cons (pe_op op_mulB (pe_ix ix_tup (pv 0) pe_int (fun _ _ => rfl)) (pe_ix ix_tup (pv 1) pe_int (fun _ _ => rfl))) pa_nil))))), ?_⟩
  exact ⟨_, rfl, _, _, _, _, rfl, rfl, h1.s, at0 _ _, _, rfl, _, _, _, _, rfl, rfl, h2.s, at1 _ _, _, _, rfl, rfl, ⟨m1, m4⟩, _, rfl, _, _, _, _, rfl, rfl, h2.s, at0 _ _, _, rfl, _, _, _, _, rfl, rfl, h1.s, at1 _ _, _, _, rfl, rfl, ⟨m3, m2⟩, _, _, rfl, rfl, _, rfl, _, _, _, _, rfl, rfl, h1.s, at1 _ _, _, rfl, _, _, _, _, rfl, rfl, h2.s, at1 _ _, _, _, rfl, rfl, ⟨m2, m4⟩, _, _, n1 + n2 + 1, rfl, ((h1.ba.mul h2.bb).sub ((h2.ba.mul h1.bb).mono (by omega))).mono (by omega), (h1.bb.mul h2.bb).mono (by omega), hn, prod_ne h1.pos h2.pos, fun p' H' x y s' P g e => q p' H' x y s' P g (e.trans (My.qv_minus h1.ne h2.ne))⟩
theorem ok_times (T : Txt K mg t) : FnOk P w K mg base CX0 3 t.f_times t.d_times ["one", "other"] (sp_two K (fun x y => x * y) (fun _ => True)) := by
  have G_number := ok_number (P := P) (w := w) (base := base) T
  refine T.F_times.ok sc_times (fun vs H Q E h => ?_) (fun cdv A outer s H vs Q E hr h => ?_)
  · obtain ⟨p, r, a, b, c, d, n1, n2, rfl, _⟩ := h
    rfl
  obtain ⟨p, r, a, b, c, d, n1, n2, rfl, h1, h2, hn, hok, q⟩ := h
  have m1 : Mid a := h1.ba.mono (by omega)
  have m2 : Mid b := h1.bb.mono (by omega)
  have m3 : Mid c := h2.ba.mono (by omega)
  have m4 : Mid d := h2.bb.mono (by omega)
  refine ⟨_, (pss_one (ps_ret (pe_call G_number (hr.mono (by decide)) rfl T.m_number T.k_number T.b_number .nil passE0 (pa_cons (pe_op op_mulB (pe_ix ix_tup (pv 0) pe_int (fun _ _ => rfl)) (pe_ix ix_tup (pv 1) pe_int (fun _ _ => rfl))) (pa_cons (pe_op op_mulB (pe_ix ix_tup (pv 0) pe_int (fun _ _ => rfl)) (pe_ix ix_tup (pv 1) pe_int (fun _ _ => rfl))) pa_nil))))), ?_⟩
  exact ⟨_, rfl, _, _, _, _, rfl, rfl, h1.s, at0 _ _, _, rfl, _, _, _, _, rfl, rfl, h2.s, at0 _ _, _, _, rfl, rfl, ⟨m1, m3⟩, _, rfl, _, _, _, _, rfl, rfl, h1.s, at1 _ _, _, rfl, _, _, _, _, rfl, rfl, h2.s, at1 _ _, _, _, rfl, rfl, ⟨m2, m4⟩, _, _, n1 + n2 + 1, rfl, (h1.ba.mul h2.ba).mono (by omega), (h1.bb.mul h2.bb).mono (by omega), hn, prod_ne h1.pos h2.pos, fun p' H' x y s' P g e => q p' H' x y s' P g (e.trans (My.qv_times h1.ne h2.ne))⟩
theorem ok_over (T : Txt K mg t) : FnOk P w K mg base CX0 3 t.f_over t.d_over ["one", "other"] (sp_two K (fun x y => x / y) (fun c => c ≠ 0)) := by
  have G_number := ok_number (P := P) (w := w) (base := base) T
  refine T.F_over.ok sc_over (fun vs H Q E h => ?_) (fun cdv A outer s H vs Q E hr h => ?_)
  · obtain ⟨p, r, a, b, c, d, n1, n2, rfl, _⟩ := h
    rfl
  obtain ⟨p, r, a, b, c, d, n1, n2, rfl, h1, h2, hn, hok, q⟩ := h
  have m1 : Mid a := h1.ba.mono (by omega)
  have m2 : Mid b := h1.bb.mono (by omega)
  have m3 : Mid c := h2.ba.mono (by omega)
  have m4 : Mid d := h2.bb.mono (by omega)
  refine ⟨_, (pss_one (ps_ret (pe_call G_number (hr.mono (by decide)) rfl T.m_number T.k_number T.b_number .nil passE0 (pa_cons (pe_op op_mulB (pe_ix ix_tup (pv 0) pe_int (fun _ _ => rfl)) (pe_ix ix_tup (pv 1) pe_int (fun _ _ => rfl))) (pa_cons (pe_op op_mulB (pe_ix ix_tup (pv 0) pe_int (fun _ _ => rfl)) (pe_ix ix_tup (pv 1) pe_int (fun _ _ => rfl))) pa_nil))))), ?_⟩
  exact ⟨_, rfl, _, _, _, _, rfl, rfl, h1.s, at0 _ _, _, rfl, _, _, _, _, rfl, rfl, h2.s, at1 _ _, _, _, rfl, rfl, ⟨m1, m4⟩, _, rfl, _, _, _, _, rfl, rfl, h1.s, at1 _ _, _, rfl, _, _, _, _, rfl, rfl, h2.s, at0 _ _, _, _, rfl, rfl, ⟨m2, m3⟩, _, _, n1 + n2 + 1, rfl, (h1.ba.mul h2.bb).mono (by omega), (h1.bb.mul h2.ba).mono (by omega), hn, Int.mul_ne_zero h1.ne hok, fun p' H' x y s' P g e => q p' H' x y s' P g (e.trans (My.qv_over h1.ne h2.ne hok))⟩
theorem ok_under (T : Txt K mg t) : FnOk P w K mg base CX0 1 t.f_under t.d_under ["one", "other"] (sp_cmp K fun a b c d => .bl (decide (a * d < c * b))) := by
  refine T.F_under.ok sc_under (fun vs H Q E h => ?_) (fun cdv A outer s H vs Q E hr h => ?_)
  · obtain ⟨p, r, a, b, c, d, n1, n2, rfl, _⟩ := h
    rfl
  obtain ⟨p, r, a, b, c, d, n1, n2, rfl, h1, h2, hn, q⟩ := h
  have m1 : Mid a := h1.ba.mono (by omega)
  have m2 : Mid b := h1.bb.mono (by omega)
  have m3 : Mid c := h2.ba.mono (by omega)
  have m4 : Mid d := h2.bb.mono (by omega)
  refine ⟨_, (pss_one (ps_ret (pe_cmpR op_lt (pe_op op_mulB (pe_ix ix_tup (pv 0) pe_int (fun _ _ => rfl)) (pe_ix ix_tup (pv 1) pe_int (fun _ _ => rfl))) (pe_op op_mulB (pe_ix ix_tup (pv 1) pe_int (fun _ _ => rfl)) (pe_ix ix_tup (pv 0) pe_int (fun _ _ => rfl))) (nomark _)))), ?_⟩
  exact ⟨_, rfl, _, _, _, _, rfl, rfl, h1.s, at0 _ _, _, rfl, _, _, _, _, rfl, rfl, h2.s, at1 _ _, _, _, rfl, rfl, ⟨m1, m4⟩, _, rfl, _, _, _, _, rfl, rfl, h2.s, at0 _ _, _, rfl, _, _, _, _, rfl, rfl, h1.s, at1 _ _, _, _, rfl, rfl, ⟨m3, m2⟩, _, _, rfl, rfl, q⟩
end
theorem Pr.kp {K : PySem.W.Frag} {H H' : Hp} {p : Addr} {a b : Int} {n : Nat} (e : Same H H') (h : Pr K H p a b n) : Pr K H' p a b n := h.keep e
section
variable {K : PySem.W.Frag} {H : Hp} {Q : VK} {E : XK} {p r : Addr} {a b c d t m : Int} {n1 n2 : Nat} {f : Rat → Rat → Rat} {ok : Int → Prop} {F : Int → Int → Int → Int → V}
theorem a_number (h1 : My.Bd n1 t) (h2 : My.Bd n2 m) (h3 : max n1 n2 ≤ 3900) (h4 : m ≠ 0) (q : ∀ p H' x y, Same H H' → Pr K H' p x y (max n1 n2) → Int.gcd x y = 1 → My.qv x y = My.qv t m → Q (.ref p) H') : sp_number K [.int t, .int m] H Q E :=
  ⟨t, m, max n1 n2, rfl, h1.mono (by omega), h2.mono (by omega), h3, h4, q⟩
theorem a_numberD (h1 : My.Bd n1 t) (h2 : My.Bd n2 m) (h3 : max n1 n2 ≤ 3900) (h4 : m ≠ 0) (q : ∀ p H' x y, Same H H' → Pr K H' p x y (max n1 n2) → Int.gcd x y = 1 → My.qv x y = My.qv t m → Q (.ref p) H') : sp_number K ([.int t] ++ [.int m]) H Q E := a_number h1 h2 h3 h4 q
theorem a_two (h1 : Pr K H p a b n1) (h2 : Pr K H r c d n2) (h3 : n1 + n2 + 1 ≤ 3900) (h4 : ok c) (q : ∀ p' H' x y, Same H H' → Pr K H' p' x y (n1 + n2 + 1) → Int.gcd x y = 1 → My.qv x y = f (My.qv a b) (My.qv c d) → Q (.ref p') H') : sp_two K f ok [.ref p, .ref r] H Q E :=
  ⟨p, r, a, b, c, d, n1, n2, rfl, h1, h2, h3, h4, q⟩
theorem a_cmp (h1 : Pr K H p a b n1) (h2 : Pr K H r c d n2) (h3 : n1 + n2 ≤ 3900) (q : Q (F a b c d) H) : sp_cmp K F [.ref p, .ref r] H Q E := ⟨p, r, a, b, c, d, n1, n2, rfl, h1, h2, h3, q⟩
end
theorem a_cell {K : PySem.W.Frag} {H : Hp} {Q : VK} {E : XK} {a : Addr} {ns : List Int} {k : Int} (hs : SqL K H a (ns.map V.int)) (h0 : 0 ≤ k) (q : Q (.int (cellAt ns k)) H) : sp_cell K [.ref a, .int k] H Q E := ⟨a, ns, k, rfl, hs, h0, q⟩
local macro_rules | `(tactic| walk_at "get") => `(tactic| repeat (first | exact GetTo.here | apply GetTo.next))
local macro_rules | `(tactic| walk_at "set") => `(tactic| repeat (first | exact SetTo.here | apply SetTo.next))
local macro_rules | `(tactic| walk_at "tp") => `(tactic| first | assumption | exact SqT.of (by assumption) | ((apply Same.tup); (focus assumption); (walk_at "tp")) | ((apply But.tup); (focus assumption); (focus assumption); (walk_at "tp")))
local macro_rules | `(tactic| walk_at "lq") => `(tactic| first | assumption | exact SqL.of (by assumption) | ((apply Same.seq); (focus assumption); (walk_at "lq")) | ((apply But.seq); (focus assumption); (focus assumption); (walk_at "lq")))
local macro_rules | `(tactic| walk_at "hl") => `(tactic| first | assumption | exact (show Same _ _ by assumption) _ _ (by walk_at "hl") | exact (show But _ _ _ by assumption) _ _ (by assumption) (by walk_at "hl"))
local macro_rules | `(tactic| walk_at "sm") => `(tactic| first | assumption | exact Same.refl _ | ((apply sm2); (focus assumption); (walk_at "sm")))
local macro_rules | `(tactic| walk_at "isi") => `(tactic| ((with_reducible refine z_isi0 ?_); first | (with_reducible refine z_isI_int ?_) | (with_reducible refine z_isB_int ?_) | (with_reducible refine z_isS_int ?_) | (with_reducible refine z_isN_int ?_) | (with_reducible refine z_isI_bool ?_) | (with_reducible refine z_isB_bool ?_) | (with_reducible refine z_isS_bool ?_) | (with_reducible refine z_isN_bool ?_) | (with_reducible refine z_isI_str ?_) | (with_reducible refine z_isB_str ?_) | (with_reducible refine z_isS_str ?_) | (with_reducible refine z_isN_str ?_) | (with_reducible refine z_isI_tuple ?_) | (with_reducible refine z_isB_tuple ?_) | (with_reducible refine z_isS_tuple ?_) | (with_reducible refine z_isN_tuple ?_) | (with_reducible refine z_isI_list ?_) | (with_reducible refine z_isB_list ?_) | (with_reducible refine z_isS_list ?_) | (with_reducible refine z_isN_list ?_) | ((with_reducible apply z_isT_int); (focus (walk_at "tp"))) | ((with_reducible apply z_isL_int); (focus (walk_at "lq"))) | ((with_reducible apply z_isT_bool); (focus (walk_at "tp"))) | ((with_reducible apply z_isL_bool); (focus (walk_at "lq"))) | ((with_reducible apply z_isT_str); (focus (walk_at "tp"))) | ((with_reducible apply z_isL_str); (focus (walk_at "lq"))) | ((with_reducible apply z_isT_tuple); (focus (walk_at "tp"))) | ((with_reducible apply z_isL_tuple); (focus (walk_at "lq"))) | ((with_reducible apply z_isT_list); (focus (walk_at "tp"))) | ((with_reducible apply z_isL_list); (focus (walk_at "lq")))))
local macro_rules | `(tactic| walk_at "non") => `(tactic| with_reducible (first | refine z_nonR ?_ | refine z_notR ?_ | refine z_nonN ?_ | refine z_notN ?_ | refine z_nonI ?_ | refine z_notI ?_ | refine z_nonS ?_ | refine z_notS ?_))
local macro_rules | `(tactic| walk_at "z1") => `(tactic| (first | ((with_reducible apply z_var); (focus (walk_at "get"))) | with_reducible (first | refine z_c ?_ | refine z_op ?_ | refine z_I0 ?_ | refine z_asg ?_ | refine z_seq ?_ | refine z_EqI ?_ | refine z_NeI ?_ | refine z_EqS ?_ | refine z_NeS ?_ | refine z_test ?_ | refine z_tB ?_ | refine z_ebl ?_ | refine z_ifs ?_ | refine z_ret ?_ | refine z_cons ?_ | refine z_nil ?_ | refine z_call0 ?_ | refine z_callD ?_ | refine z_un ?_ | refine z_U ?_ | refine z_and ?_ | refine z_or ?_ | refine z_not ?_ | refine z_andV ?_ | refine z_orV ?_ | refine z_notV ?_ | refine z_if ?_ | refine z_chain ?_ | refine z_next ?_ | refine z_drop ?_ | refine z_par ?_ | refine z_cb ?_ | refine z_e1 ?_ | refine z_e2 ?_ | refine z_tup ?_ | refine iteT ?_ | refine iteF ?_ | refine z_iteNb ?_ | refine z_eint ?_ | refine z_gcons ?_ | refine z_gnil ?_ | refine z_sl ?_ | refine z_noP ?_ | refine z_part ?_ | refine z_lst ?_ | refine z_bm ?_ | refine z_for ?_ | refine z_iL ?_ | refine z_iT ?_ | refine z_iR1 ?_ | refine z_iR2 ?_ | refine z_iR3 ?_ | refine z_toI ?_ | refine z_toB ?_ | refine z_whN ?_) | ((with_reducible apply z_name); (focus (walk_at "set"))) | ((with_reducible apply z_par2); (focus (walk_at "set")); (focus (walk_at "set"))) | ((with_reducible apply z_mkt); (focus (exact Nat.le_of_ble_eq_true rfl)); (intro p H' n s e))))
local macro_rules | `(tactic| walk_at "z2") => `(tactic| first | ((with_reducible apply z_I); (focus (walk_at "cd"))) | ((with_reducible apply z_ixT); (focus (walk_at "tp")); (focus rfl)) | walk_at "isi" | walk_at "non" | ((with_reducible apply z_len); (focus (first | exact .inl (by walk_at "lq") | exact .inr (by walk_at "tp")))) | ((with_reducible apply z_gtup); (focus (walk_at "tp")); (focus rfl)) | ((with_reducible apply z_iL2); (focus (walk_at "lq"))) | ((with_reducible apply z_iT2); (focus (walk_at "tp"))) | ((with_reducible apply z_r1c); (focus (first | decide | omega)); (focus (first | decide | omega))) | ((with_reducible apply z_r2c); (focus (first | decide | omega)); (focus (first | decide | omega)); (focus (first | decide | omega)); (focus (first | decide | omega))))
local macro_rules | `(tactic| walk_at "bd") => `(tactic| first | assumption | exact Pr.ba (by assumption) | exact Pr.bb (by assumption) | exact (show My.Bd 64 _ by unfold My.Bd; decide) | ((with_reducible apply bd_mul) <;> (walk_at "bd")) | ((with_reducible apply bd_add) <;> (walk_at "bd")) | ((with_reducible apply bd_sub) <;> (walk_at "bd")) | ((with_reducible apply My.Bd.neg); (walk_at "bd")) | ((with_reducible apply My.Bd.mod); (focus (first | decide | omega | assumption)); (walk_at "bd")) | ((with_reducible apply My.Bd.div); (focus (first | decide | omega | assumption)); (walk_at "bd")) | exact bd_60 (by omega) (by omega) | exact (show My.Bd 256 _ by unfold My.Bd; decide))
local macro_rules | `(tactic| walk_at "mid") => `(tactic| first | assumption | ((apply My.Bd.mono); (focus (walk_at "bd")); (first | decide | omega)))
local macro_rules | `(tactic| walk_at "cd") => `(tactic| first | assumption | exact True.intro | decide | omega | exact ⟨by first | decide | omega, by first | decide | omega⟩ | exact ⟨by decide, by decide, by decide⟩ | exact .inl ⟨by first | decide | omega, by first | decide | omega⟩ | exact .inr ⟨by first | decide | omega, by first | decide | omega⟩ | exact ⟨by walk_at "mid", by walk_at "mid"⟩ | exact ⟨by first | decide | omega | assumption, by walk_at "mid"⟩)
local macro_rules | `(tactic| walk_at "pr") => `(tactic| first | assumption | ((apply Pr.kp); (focus assumption); (walk_at "pr")))
local macro_rules | `(tactic| walk_at "sp") => `(tactic| ((with_reducible apply a_number); (focus (walk_at "bd")); (focus (walk_at "bd")); (focus (first | decide | omega)); (focus (first | decide | omega)); (intro p H' x y s R g e)))
local macro_rules | `(tactic| walk_at "sp") => `(tactic| ((with_reducible apply a_numberD); (focus (walk_at "bd")); (focus (walk_at "bd")); (focus (first | decide | omega)); (focus (first | decide | omega)); (intro p H' x y s R g e)))
local macro_rules | `(tactic| walk_at "sp") => `(tactic| ((with_reducible apply a_two); (focus (walk_at "pr")); (focus (walk_at "pr")); (focus (first | decide | omega)); (focus (first | exact True.intro | assumption)); (intro p H' x y s R g e)))
local macro_rules | `(tactic| walk_at "sp") => `(tactic| ((with_reducible apply a_cmp); (focus (walk_at "pr")); (focus (walk_at "pr")); (focus (first | decide | omega))))
local macro_rules | `(tactic| walk_at "ji") => `(tactic| ((with_reducible apply z_joinI); (focus ((intro S q); (walk_at "run"); (exact q))); (focus ((intro hb S q); (walk_at "run"); (exact q))); (focus (walk_at "get")); (focus (walk_at "set"))))
local macro_rules | `(tactic| walk_at "run") => `(tactic| repeat (first | walk_at "ji" | walk_at "z1" | walk_at "z2" | walk_at "sp"))
local macro_rules | `(tactic| walk_at "bd6") => `(tactic| first | assumption | exact bd_60 (by omega) (by omega))
local macro_rules | `(tactic| walk_at "sp") => `(tactic| ((with_reducible apply a_cell); (focus (walk_at "lq")); (focus (first | decide | omega))))
section
variable {P : Program} {w : World} {K : PySem.W.Frag} {mg : Str → Option Value} {base : Heap} {t : Adr}
theorem qv_top {x y : Int} (h : My.qv x y ≠ 0) : x ≠ 0 := fun z => h (by unfold My.qv; rw [z]; grind)
theorem b60_1 : My.Bd 60 1 := by unfold My.Bd; decide
theorem b60_of {n : Int} (h1 : -1152921504606846976 < n) (h2 : n < 1152921504606846976) : My.Bd 60 n := by unfold My.Bd; omega
/-! straight: a place of a number and a number of a place -/
def sp_splace (K : PySem.W.Frag) : Sp := fun vs H Q _ => ∃ (po pl ph : Addr) (e f a b c d bg en : Int) (n1 n : Nat), vs = [.ref po, .ref pl, .ref ph, .int bg, .int en] ∧ Pr K H po e f n1 ∧ Pr K H pl a b n ∧ Pr K H ph c d n ∧ n1 + 3 * n + 140 ≤ 3900 ∧ My.Bd 60 bg ∧ My.Bd 60 (en - bg) ∧ My.qv c d - My.qv a b ≠ 0 ∧
  NewQ K H Q (n1 + 3 * n + 140) ((bg : Rat) + (My.qv e f - My.qv a b) / (My.qv c d - My.qv a b) * ((en - bg : Int) : Rat))
def sp_sback (K : PySem.W.Frag) : Sp := fun vs H Q _ => ∃ (po pl ph : Addr) (e f a b c d bg en : Int) (n1 n : Nat), vs = [.ref po, .ref pl, .ref ph, .int bg, .int en] ∧ Pr K H po e f n1 ∧ Pr K H pl a b n ∧ Pr K H ph c d n ∧ n1 + 3 * n + 140 ≤ 3900 ∧ My.Bd 60 bg ∧ My.Bd 60 (en - bg) ∧ en - bg ≠ 0 ∧
  NewQ K H Q (n1 + 3 * n + 140) (My.qv a b + (My.qv e f - (bg : Rat)) / ((en - bg : Int) : Rat) * (My.qv c d - My.qv a b))
theorem ok_straight_place (T : Txt K mg t) : FnOk P w K mg base CX0 4 t.f_straight_place t.d_straight_place ["one", "lo", "hi", "begin", "end"] (sp_splace K) := by
  have G_number := ok_number (P := P) (w := w) (base := base) T
  have G_minus := ok_minus (P := P) (w := w) (base := base) T
  have G_over := ok_over (P := P) (w := w) (base := base) T
  have G_times := ok_times (P := P) (w := w) (base := base) T
  have G_plus := ok_plus (P := P) (w := w) (base := base) T
  obtain ⟨ds1, DV_number, BD_number⟩ := T.b_number1
  refine T.F_straight_place.ok sc_straight_place (fun vs H Q E h => ?_) (fun cdv A outer s H vs Q E hr h => ?_)
  · obtain ⟨po, pl, ph, e, f, a, b, c, d, bg, en, n1, n, rfl, _⟩ := h
    rfl
  obtain ⟨po, pl, ph, e, f, a, b, c, d, bg, en, n1, n, rfl, P1, P2, P3, hn1, hb, hd, nz, q⟩ := h
  refine ⟨_, (pss_cons (ps_set (i := 5) sc_straight_place.nd rfl (Or.inl rfl) (pe_call G_over (hr.mono (by decide)) rfl T.m_over T.k_over T.b_over .nil pass0 (pa_cons (pe_call G_minus (hr.mono (by decide)) rfl T.m_minus T.k_minus T.b_minus .nil pass0 (pa_cons (pv 0) (pa_cons (pv 1) pa_nil))) (pa_cons (pe_call G_minus (hr.mono (by decide)) rfl T.m_minus T.k_minus T.b_minus .nil pass0 (pa_cons (pv 2) (pa_cons (pv 1) pa_nil))) pa_nil))))
  (pss_one (ps_ret (pe_call G_plus (hr.mono (by decide)) rfl T.m_plus T.k_plus T.b_plus .nil pass0 (pa_cons (pe_call G_number (hr.mono (by decide)) rfl T.m_number T.k_number BD_number DV_number passE0 (pa_cons (pv 3) pa_nil)) (pa_cons (pe_call G_times (hr.mono (by decide)) rfl T.m_times T.k_times T.b_times .nil pass0 (pa_cons (pv 5) (pa_cons (pe_call G_number (hr.mono (by decide)) rfl T.m_number T.k_number BD_number DV_number passE0 (pa_cons (pe_op op_sub (pv 4) (pv 3)) pa_nil)) pa_nil))) pa_nil)))))), z_go (σ := [some _, some _, some _, some _, some _, none]) rfl ?_⟩
  walk_at "run"
  rename_i p1 H1 x1 y1 s1 R1 g1 v1 p2 H2 x2 y2 s2 R2 g2 v2
  have nx : x2 ≠ 0 := qv_top (by rw [v2]; exact nz)
  walk_at "run"
  rename_i p3 H3 x3 y3 s3 R3 g3 v3 p4 H4 x4 y4 s4 R4 g4 v4 p5 H5 x5 y5 s5 R5 g5 v5 p6 H6 x6 y6 s6 R6 g6 v6 p7 H7 x7 y7 s7 R7 g7 v7
  refine q p7 H7 x7 y7 (by walk_at "sm") (R7.up (by omega)) g7 ?_
  rw [v7, v4, v6, v5, v3, v1, v2, My.qv_int, My.qv_int]
theorem ok_straight_back (T : Txt K mg t) : FnOk P w K mg base CX0 4 t.f_straight_back t.d_straight_back ["place", "lo", "hi", "begin", "end"] (sp_sback K) := by
  have G_number := ok_number (P := P) (w := w) (base := base) T
  have G_minus := ok_minus (P := P) (w := w) (base := base) T
  have G_over := ok_over (P := P) (w := w) (base := base) T
  have G_times := ok_times (P := P) (w := w) (base := base) T
  have G_plus := ok_plus (P := P) (w := w) (base := base) T
  obtain ⟨ds1, DV_number, BD_number⟩ := T.b_number1
  refine T.F_straight_back.ok sc_straight_back (fun vs H Q E h => ?_) (fun cdv A outer s H vs Q E hr h => ?_)
  · obtain ⟨po, pl, ph, e, f, a, b, c, d, bg, en, n1, n, rfl, _⟩ := h
    rfl
  obtain ⟨po, pl, ph, e, f, a, b, c, d, bg, en, n1, n, rfl, P1, P2, P3, hn1, hb, hd, nz, q⟩ := h
  refine ⟨_, (pss_cons (ps_set (i := 5) sc_straight_back.nd rfl (Or.inl rfl) (pe_call G_over (hr.mono (by decide)) rfl T.m_over T.k_over T.b_over .nil pass0 (pa_cons (pe_call G_minus (hr.mono (by decide)) rfl T.m_minus T.k_minus T.b_minus .nil pass0 (pa_cons (pv 0) (pa_cons (pe_call G_number (hr.mono (by decide)) rfl T.m_number T.k_number BD_number DV_number passE0 (pa_cons (pv 3) pa_nil)) pa_nil))) (pa_cons (pe_call G_number (hr.mono (by decide)) rfl T.m_number T.k_number BD_number DV_number passE0 (pa_cons (pe_op op_sub (pv 4) (pv 3)) pa_nil)) pa_nil))))
  (pss_one (ps_ret (pe_call G_plus (hr.mono (by decide)) rfl T.m_plus T.k_plus T.b_plus .nil pass0 (pa_cons (pv 1) (pa_cons (pe_call G_times (hr.mono (by decide)) rfl T.m_times T.k_times T.b_times .nil pass0 (pa_cons (pv 5) (pa_cons (pe_call G_minus (hr.mono (by decide)) rfl T.m_minus T.k_minus T.b_minus .nil pass0 (pa_cons (pv 2) (pa_cons (pv 1) pa_nil))) pa_nil))) pa_nil)))))), z_go (σ := [some _, some _, some _, some _, some _, none]) rfl ?_⟩
  walk_at "run"
  rename_i p1 H1 x1 y1 s1 R1 g1 v1 p2 H2 x2 y2 s2 R2 g2 v2 p3 H3 x3 y3 s3 R3 g3 v3
  have nx : x3 ≠ 0 := qv_top (by rw [v3, My.qv_int]; exact My.cast_ne nz)
  walk_at "run"
  rename_i p4 H4 x4 y4 s4 R4 g4 v4 p5 H5 x5 y5 s5 R5 g5 v5 p6 H6 x6 y6 s6 R6 g6 v6 p7 H7 x7 y7 s7 R7 g7 v7
  refine q p7 H7 x7 y7 (by walk_at "sm") (R7.up (by omega)) g7 ?_
  rw [v7, v6, v5, v4, v3, v2, v1, My.qv_int, My.qv_int]
def inB (e f a b c d : Int) : Bool := !decide (e * b < a * f) && !decide (c * f < e * d)
def sp_within (K : PySem.W.Frag) : Sp := fun vs H Q _ => ∃ (po pl ph : Addr) (e f a b c d : Int) (n1 n2 n3 : Nat), vs = [.ref po, .ref pl, .ref ph] ∧ Pr K H po e f n1 ∧ Pr K H pl a b n2 ∧ Pr K H ph c d n3 ∧ n1 + n2 ≤ 3900 ∧ n3 + n1 ≤ 3900 ∧ Q (.bl (inB e f a b c d)) H
theorem a_within {K : PySem.W.Frag} {H : Hp} {Q : VK} {E : XK} {po pl ph : Addr} {e f a b c d : Int} {n1 n2 n3 : Nat} (h1 : Pr K H po e f n1) (h2 : Pr K H pl a b n2) (h3 : Pr K H ph c d n3) (h4 : n1 + n2 ≤ 3900) (h5 : n3 + n1 ≤ 3900) (q : Q (.bl (inB e f a b c d)) H) : sp_within K [.ref po, .ref pl, .ref ph] H Q E := ⟨po, pl, ph, e, f, a, b, c, d, n1, n2, n3, rfl, h1, h2, h3, h4, h5, q⟩
theorem a_splace {K : PySem.W.Frag} {H : Hp} {Q : VK} {E : XK} {po pl ph : Addr} {e f a b c d bg en : Int} {n1 n : Nat} (h1 : Pr K H po e f n1) (h2 : Pr K H pl a b n) (h3 : Pr K H ph c d n) (h4 : n1 + 3 * n + 140 ≤ 3900) (h6 : My.Bd 60 bg) (h7 : My.Bd 60 (en - bg)) (h8 : My.qv c d - My.qv a b ≠ 0)
    (q : ∀ (p : Addr) (H' : Hp) (x y : Int), Same H H' → Pr K H' p x y (n1 + 3 * n + 140) → Int.gcd x y = 1 → My.qv x y = ((bg : Rat) + (My.qv e f - My.qv a b) / (My.qv c d - My.qv a b) * ((en - bg : Int) : Rat)) → Q (.ref p) H') : sp_splace K [.ref po, .ref pl, .ref ph, .int bg, .int en] H Q E := ⟨po, pl, ph, e, f, a, b, c, d, bg, en, n1, n, rfl, h1, h2, h3, h4, h6, h7, h8, q⟩
theorem a_sback {K : PySem.W.Frag} {H : Hp} {Q : VK} {E : XK} {po pl ph : Addr} {e f a b c d bg en : Int} {n1 n : Nat} (h1 : Pr K H po e f n1) (h2 : Pr K H pl a b n) (h3 : Pr K H ph c d n) (h4 : n1 + 3 * n + 140 ≤ 3900) (h6 : My.Bd 60 bg) (h7 : My.Bd 60 (en - bg)) (h8 : en - bg ≠ 0)
    (q : ∀ (p : Addr) (H' : Hp) (x y : Int), Same H H' → Pr K H' p x y (n1 + 3 * n + 140) → Int.gcd x y = 1 → My.qv x y = (My.qv a b + (My.qv e f - (bg : Rat)) / ((en - bg : Int) : Rat) * (My.qv c d - My.qv a b)) → Q (.ref p) H') : sp_sback K [.ref po, .ref pl, .ref ph, .int bg, .int en] H Q E := ⟨po, pl, ph, e, f, a, b, c, d, bg, en, n1, n, rfl, h1, h2, h3, h4, h6, h7, h8, q⟩
theorem ok_is_within (T : Txt K mg t) : FnOk P w K mg base CX0 2 t.f_is_within t.d_is_within ["one", "lo", "hi"] (sp_within K) := by
  have G_under := ok_under (P := P) (w := w) (base := base) T
  refine T.F_is_within.ok sc_is_within (fun vs H Q E h => ?_) (fun cdv A outer s H vs Q E hr h => ?_)
  · obtain ⟨po, pl, ph, e, f, a, b, c, d, n1, n2, n3, rfl, _⟩ := h
    rfl
  obtain ⟨po, pl, ph, e, f, a, b, c, d, n1, n2, n3, rfl, P1, P2, P3, hn, hn2, q⟩ := h
  refine ⟨_, (pss_one (ps_ret (pe_and (pe_not (pe_call G_under (hr.mono (by decide)) rfl T.m_under T.k_under T.b_under .nil pass0 (pa_cons (pv 0) (pa_cons (pv 1) pa_nil)))) (pe_one (pe_not (pe_call G_under (hr.mono (by decide)) rfl T.m_under T.k_under T.b_under .nil pass0 (pa_cons (pv 2) (pa_cons (pv 0) pa_nil)))))))), z_go (σ := [some _, some _, some _]) rfl ?_⟩
  unfold inB at q
  walk_at "run"
  refine z_iteD (fun h1 => ?_) (fun h1 => ?_)
  · rw [decide_eq_true h1] at q
    exact q
  · rw [decide_eq_false h1] at q
    walk_at "run"
    exact q
local macro_rules | `(tactic| walk_at "sp") => `(tactic| ((with_reducible apply a_within); (focus (walk_at "pr")); (focus (walk_at "pr")); (focus (walk_at "pr")); (focus (first | decide | omega)); (focus (first | decide | omega))))
local macro_rules | `(tactic| walk_at "sp") => `(tactic| ((with_reducible apply a_splace); (focus (walk_at "pr")); (focus (walk_at "pr")); (focus (walk_at "pr")); (focus (first | decide | omega)); (focus (walk_at "bd6")); (focus (walk_at "bd6")); (focus (assumption)); (intro p H' x y s R g e)))
local macro_rules | `(tactic| walk_at "sp") => `(tactic| ((with_reducible apply a_sback); (focus (walk_at "pr")); (focus (walk_at "pr")); (focus (walk_at "pr")); (focus (first | decide | omega)); (focus (walk_at "bd6")); (focus (walk_at "bd6")); (focus (omega)); (intro p H' x y s R g e)))
/-! powers -/
theorem zp_nat (b : Int) (n : Nat) : (b : Rat) ^ (n : Int) = ((b ^ n : Int) : Rat) := by
  induction n with
  | zero => simp
  | succ n ih =>
    by_cases hb : b = 0
    · subst hb
      rw [Int.pow_succ, Int.mul_zero]
      have e : ((0 : Int) : Rat) = 0 := rfl
      rw [e, Rat.zpow_natCast, Rat.pow_succ, Rat.mul_zero]
    · rw [show ((n + 1 : Nat) : Int) = (n : Int) + 1 by omega, Rat.zpow_add_one (My.cast_ne hb), ih, Int.pow_succ, Rat.intCast_mul]
theorem pow_bd {b : Int} (h0 : 2 ≤ b) (h1 : b ≤ 10) : ∀ n : Nat, 0 < b ^ n ∧ My.Bd (4 * n + 1) (b ^ n)
  | 0 => ⟨by simp, by unfold My.Bd; simp⟩
  | n + 1 => by
    obtain ⟨p, q⟩ := pow_bd h0 h1 n
    rw [Int.pow_succ]
    refine ⟨Int.mul_pos p (by omega), ?_⟩
    have hb : My.Bd 4 b := by unfold My.Bd; omega
    exact (q.mul hb).mono (by omega)
def sp_power (K : PySem.W.Frag) : Sp := fun vs H Q _ => ∃ b e : Int, vs = [.int b, .int e] ∧ 2 ≤ b ∧ b ≤ 10 ∧ -900 ≤ e ∧ e ≤ 900 ∧ NewQ K H Q (4 * e.natAbs + 1) ((b : Rat) ^ e)
theorem ok_power_of (T : Txt K mg t) : FnOk P w K mg base CX0 3 t.f_power_of t.d_power_of ["base", "exponent"] (sp_power K) := by
  have G_number := ok_number (P := P) (w := w) (base := base) T
  obtain ⟨ds1, DV_number, BD_number⟩ := T.b_number1
  refine T.F_power_of.ok sc_power_of (fun vs H Q E h => ?_) (fun cdv A outer s H vs Q E hr h => ?_)
  · obtain ⟨b, e, rfl, _⟩ := h
    rfl
  obtain ⟨b, e, rfl, b2, b10, e0, e1, q⟩ := h
  have mb : Mid b := midB (by omega) (by omega)
  refine ⟨_, (pss_cons (ps_set (i := 2) sc_power_of.nd rfl (Or.inl rfl) pe_int)
  (pss_cons (ps_for PassesOwn.never rfl (pi_range1 rfl T.z_range (pa_cons (pe_callB call_abs rfl T.z_abs bt_abs (pa_cons (pv 1) pa_nil)) pa_nil)) (pg_name (i := 3) sc_power_of.nd rfl (Or.inl rfl)) (pss_one (ps_set (i := 2) sc_power_of.nd rfl (Or.inl rfl) (pe_op op_mulB (pv 2) (pv 0)))))
  (pss_one (ps_ret (pe_ifExp (pt_cmpR op_ge (pv 1) pe_int (nomark _)) (pe_call G_number (hr.mono (by decide)) rfl T.m_number T.k_number BD_number DV_number passE0 (pa_cons (pv 2) pa_nil)) (pe_call G_number (hr.mono (by decide)) rfl T.m_number T.k_number T.b_number .nil passE0 (pa_cons pe_int (pa_cons (pv 2) pa_nil)))))))), ?_⟩
  refine ⟨_, rfl, _, rfl, _, rfl, by split <;> omega, by split <;> omega, ?_⟩
  have en : (if e < 0 then -e else e).toNat = e.natAbs := by split <;> omega
  rw [en]
  refine for_range (fun i σ H2 => (∃ u, σ = [some (.int b), some (.int e), some (.int (b ^ i)), u]) ∧ H2 = H) ⟨⟨none, by rw [Int.pow_zero]; rfl⟩, rfl⟩ ?_ ?_
  · rintro i σ H2 hi ⟨⟨u, rfl⟩, rfl⟩
    have mp : Mid (b ^ i) := (pow_bd b2 b10 i).2.mono (by omega)
    refine ⟨_, rfl, _, rfl, _, _, rfl, rfl, ⟨mp, mb⟩, ?_⟩
    exact ⟨⟨_, by rw [Int.pow_succ]; rfl⟩, rfl⟩
  · rintro σ H2 ⟨⟨u, rfl⟩, rfl⟩
    obtain ⟨pp, pq⟩ := pow_bd b2 b10 e.natAbs
    refine ⟨_, rfl, _, _, rfl, rfl, _, rfl, ?_⟩
    by_cases hs : e ≥ 0
    · refine iteDT hs ?_
      refine ⟨_, rfl, _, _, 4 * e.natAbs + 1, rfl, pq, (show My.Bd 1 1 by unfold My.Bd; decide).mono (by omega), by omega, by decide, fun p H' x y s' R g v => q p H' x y s' R g (v.trans ?_)⟩
      rw [My.qv_int, ← zp_nat, show ((e.natAbs : Nat) : Int) = e by omega]
    · refine iteDF hs ?_
      refine ⟨_, rfl, _, _, 4 * e.natAbs + 1, rfl, (show My.Bd 1 1 by unfold My.Bd; decide).mono (by omega), pq, by omega, Int.ne_of_gt pp, fun p H' x y s' R g v => q p H' x y s' R g (v.trans ?_)⟩
      unfold My.qv
      rw [← zp_nat, show ((e.natAbs : Nat) : Int) = -e by omega, Rat.zpow_neg]
      grind
/-- the number of the greatest power that is not above a / b -/
def Below (p a b E : Int) : Prop := (0 ≤ E → b * p ^ E.toNat ≤ a ∧ a < b * p ^ (E.toNat + 1)) ∧ (E < 0 → b ≤ a * p ^ (-E).toNat ∧ a * p ^ (-E - 1).toNat < b)
def sp_below (K : PySem.W.Frag) : Sp := fun vs H Q _ => ∃ (pr : Addr) (p a b : Int) (n : Nat), vs = [.int p, .ref pr] ∧ 2 ≤ p ∧ p ≤ 10 ∧ Pr K H pr a b n ∧ 0 < a ∧ n ≤ 800 ∧ ∀ E : Int, Below p a b E → -(n : Int) - 1 ≤ E → E ≤ n → Q (.int E) H
theorem two_pow_le {p : Int} (h : 2 ≤ p) : ∀ n : Nat, (2 : Int) ^ n ≤ p ^ n
  | 0 => by simp
  | n + 1 => by
    have ih := two_pow_le h n
    rw [Int.pow_succ, Int.pow_succ]
    have z : (0 : Int) ≤ 2 ^ n := Int.pow_nonneg (by decide)
    exact Int.mul_le_mul ih h (by decide) (Int.le_trans z ih)
/-- so many powers are below a number of n bits -/
theorem below_len {p a b : Int} {n k : Nat} (h2 : 2 ≤ p) (hb : 0 < b) (ha : My.Bd n a) (h : b * p ^ k ≤ a) : k ≤ n := by
  have e1 := two_pow_le h2 k
  have e0 : (0 : Int) ≤ p ^ k := Int.pow_nonneg (by omega)
  have e2 : p ^ k ≤ b * p ^ k := by
    have := Int.mul_le_mul_of_nonneg_right (show (1 : Int) ≤ b by omega) e0
    rw [Int.one_mul] at this
    exact this
  have e3 : (2 : Int) ^ k ≤ a := by omega
  unfold My.Bd at ha
  rcases Nat.lt_or_ge n k with z | z
  · have m : (2 : Nat) ^ n ≤ 2 ^ k := Nat.pow_le_pow_right (by decide) (by omega)
    have c : ((2 ^ k : Nat) : Int) = (2 : Int) ^ k := by simp
    omega
  · exact z
theorem below_end {p a b : Int} {n k j : Nat} (p2 : 2 ≤ p) (b0 : 0 < b) (a0 : 0 < a) (Ra : My.Bd n a) (Rb : My.Bd n b) (hle : ¬ b * p ^ k * p ≤ a) (hk : k = 0 ∨ b * p ^ k ≤ a) (hj : j = 0 ∨ (k = 0 ∧ a * p ^ (j - 1) < b)) (hlt : ¬ a * p ^ j < b * p ^ k) :
    Below p a b ((k : Int) - (j : Int)) ∧ -(n : Int) - 1 ≤ (k : Int) - (j : Int) ∧ (k : Int) - (j : Int) ≤ n := by
  by_cases j0 : j = 0
  · subst j0
    rw [Int.pow_zero, Int.mul_one] at hlt
    have e : (k : Int) - ((0 : Nat) : Int) = (k : Int) := by omega
    rw [e]
    have l := below_len (k := k) p2 b0 Ra (by omega)
    refine ⟨⟨fun _ => ?_, fun z => absurd z (by omega)⟩, by omega, by omega⟩
    rw [Int.toNat_natCast, Int.pow_succ, ← Int.mul_assoc]
    exact ⟨by omega, by omega⟩
  · rcases hj with z | ⟨k0, z⟩
    · exact absurd z j0
    · subst k0
      rw [Int.pow_zero, Int.mul_one] at hlt
      have l := below_len (k := j - 1) p2 a0 Rb (Int.le_of_lt z)
      refine ⟨⟨fun z => absurd z (by omega), fun _ => ?_⟩, by omega, by omega⟩
      have e1 : (-(((0 : Nat) : Int) - (j : Int))).toNat = j := by omega
      have e2 : (-(((0 : Nat) : Int) - (j : Int)) - 1).toNat = j - 1 := by omega
      rw [e1, e2]
      exact ⟨by omega, z⟩
theorem ok_power_below (T : Txt K mg t) : FnOk P w K mg base CX0 1 t.f_power_below t.d_power_below ["base", "one"] (sp_below K) := by
  refine T.F_power_below.ok sc_power_below (fun vs H Q E h => ?_) (fun cdv A outer s H vs Q E hr h => ?_)
  · obtain ⟨pr, p, a, b, n, rfl, _⟩ := h
    rfl
  obtain ⟨pr, p, a, b, n, rfl, p2, p10, R, a0, hn, q⟩ := h
  have b0 := R.pos
  have mp : Mid p := midB (by omega) (by omega)
  have bp4 : My.Bd 4 p := by unfold My.Bd; omega
  have ma : Mid a := R.ba.mono (by omega)
  refine ⟨_, (pss_cons (ps_set (i := 2) sc_power_below.nd rfl (Or.inl rfl) (pe_ix ix_tup (pv 1) pe_int (fun _ _ => rfl)))
  (pss_cons (ps_set (i := 3) sc_power_below.nd rfl (Or.inl rfl) (pe_ix ix_tup (pv 1) pe_int (fun _ _ => rfl)))
  (pss_cons (ps_set (i := 4) sc_power_below.nd rfl (Or.inl rfl) pe_int)
  (pss_cons (ps_while PassesOwn.never (pt_cmpR op_le (pe_op op_mulB (pv 3) (pv 0)) (pv 2) (nomark _)) (pss_cons (ps_set (i := 3) sc_power_below.nd rfl (Or.inl rfl) (pe_op op_mulB (pv 3) (pv 0)))
  (pss_one (ps_aug (i := 4) sc_power_below.nd rfl (Or.inl rfl) pe_int ip_add))))
  (pss_cons (ps_while PassesOwn.never (pt_cmpR op_lt (pv 2) (pv 3) (nomark _)) (pss_cons (ps_set (i := 2) sc_power_below.nd rfl (Or.inl rfl) (pe_op op_mulB (pv 2) (pv 0)))
  (pss_one (ps_aug (i := 4) sc_power_below.nd rfl (Or.inl rfl) pe_int ip_sub))))
  (pss_one (ps_ret (pv 4)))))))), ?_⟩
  refine ⟨_, rfl, _, _, _, _, rfl, rfl, R.s, at0 _ _, ?_⟩
  refine ⟨_, rfl, _, _, _, _, rfl, rfl, R.s, at1 _ _, ?_⟩
  dsimp only [gName, tSeq]
  refine while_by (fun σ H' => ∃ k : Nat, σ = [some (.int p), some (.ref pr), some (.int a), some (.int (b * p ^ k)), some (.int (k : Int))] ∧ H' = H ∧ (k = 0 ∨ b * p ^ k ≤ a))
    (fun σ _ => match σ with | [_, _, _, some (.int y), _] => (a + b - y).toNat | _ => 0) ⟨0, by rw [Int.pow_zero, Int.mul_one]; rfl, rfl, .inl rfl⟩ ?_ ?_
  · rintro σ H' ⟨k, rfl, rfl, hk⟩
    have pk := (pow_bd p2 p10 k).1
    have bk0 : 0 < b * p ^ k := Int.mul_pos b0 pk
    have bdk : My.Bd 3000 (b * p ^ k) := by
      rcases hk with z | z
      · subst z
        simp only [Int.pow_zero, Int.mul_one]
        exact R.bb.mono (by omega)
      · exact (My.Bd.of_le R.ba (Int.le_of_lt bk0) z).mono (by omega)
    refine ⟨_, rfl, _, rfl, _, _, rfl, rfl, ⟨bdk.mono (by decide), mp⟩, _, rfl, _, _, rfl, rfl, _, rfl, ?_⟩
    have es : b * p ^ (k + 1) = b * p ^ k * p := by rw [Int.pow_succ, Int.mul_assoc]
    by_cases hle : b * p ^ k * p ≤ a
    · refine iteDT hle ?_
      refine ⟨_, rfl, _, rfl, _, _, rfl, rfl, ⟨bdk.mono (by decide), mp⟩, ?_⟩
      refine ⟨_, rfl, _, _, rfl, rfl, ⟨k + 1, ?_, rfl, .inr (by rw [es]; exact hle)⟩, ?_⟩
      · rw [es]
        rfl
      · show (a + b - b * p ^ k * p).toNat < (a + b - b * p ^ k).toNat
        have z : b * p ^ k * 2 ≤ b * p ^ k * p := Int.mul_le_mul_of_nonneg_left p2 (Int.le_of_lt bk0)
        omega
    · refine iteDF hle ?_
      dsimp only [gName, tSeq]
      refine while_by (fun σ H'' => ∃ j : Nat, σ = [some (.int p), some (.ref pr), some (.int (a * p ^ j)), some (.int (b * p ^ k)), some (.int ((k : Int) - (j : Int)))] ∧ H'' = H' ∧ (j = 0 ∨ (k = 0 ∧ a * p ^ (j - 1) < b)))
        (fun σ _ => match σ with | [_, _, some (.int x), some (.int y), _] => (y - x).toNat | _ => 0) ⟨0, by rw [Int.pow_zero, Int.mul_one]; simp, rfl, .inl rfl⟩ ?_ ?_
      · rintro σ H'' ⟨j, rfl, rfl, hj⟩
        have pj := (pow_bd p2 p10 j).1
        have aj0 : 0 < a * p ^ j := Int.mul_pos a0 pj
        have bdj : My.Bd 3000 (a * p ^ j) := by
          rcases hj with z | ⟨_, z⟩
          · subst z
            simp only [Int.pow_zero, Int.mul_one]
            exact R.ba.mono (by omega)
          · cases j with
            | zero =>
              simp only [Int.pow_zero, Int.mul_one]
              exact R.ba.mono (by omega)
            | succ i =>
              have z : a * p ^ i < b := z
              have pi := (pow_bd p2 p10 i).1
              have w : My.Bd n (a * p ^ i) := My.Bd.of_le R.bb (Int.le_of_lt (Int.mul_pos a0 pi)) (Int.le_of_lt z)
              rw [Int.pow_succ, ← Int.mul_assoc]
              exact (w.mul bp4).mono (by omega)
        refine ⟨_, rfl, _, rfl, _, _, rfl, rfl, _, rfl, ?_⟩
        by_cases hlt : a * p ^ j < b * p ^ k
        · refine iteDT hlt ?_
          have k0 : k = 0 := by
            rcases hk with z | z
            · exact z
            · rcases hj with z2 | z2
              · subst z2
                rw [Int.pow_zero, Int.mul_one] at hlt
                omega
              · exact z2.1
          refine ⟨_, rfl, _, rfl, _, _, rfl, rfl, ⟨bdj.mono (by decide), mp⟩, ?_⟩
          refine ⟨_, rfl, _, _, rfl, rfl, ⟨j + 1, ?_, rfl, .inr ⟨k0, ?_⟩⟩, ?_⟩
          · rw [show a * p ^ (j + 1) = a * p ^ j * p by rw [Int.pow_succ, Int.mul_assoc], show ((j + 1 : Nat) : Int) = (j : Int) + 1 by omega, show (k : Int) - ((j : Int) + 1) = (k : Int) - (j : Int) - 1 by omega]
            rfl
          · subst k0
            rw [Int.pow_zero, Int.mul_one] at hlt
            exact hlt
          · show (b * p ^ k - a * p ^ j * p).toNat < (b * p ^ k - a * p ^ j).toNat
            have z : a * p ^ j * 2 ≤ a * p ^ j * p := Int.mul_le_mul_of_nonneg_left p2 (Int.le_of_lt aj0)
            omega
        · refine iteDF hlt ?_
          obtain ⟨w1, w2, w3⟩ := below_end p2 b0 a0 R.ba R.bb hle hk hj hlt
          exact ⟨_, rfl, q _ w1 w2 w3⟩
      · rintro σ H'' Q1 Q2 hi ⟨v1, e1, v2, e2, i1, j1, e3, e4, kk, ek, q'⟩
        exact ⟨v1, e1, v2, e2, i1, j1, e3, e4, kk, ek, hi _ _ q'⟩
  · rintro σ H' Q1 Q2 hi ⟨v1, e1, v2, e2, i1, j1, e3, e4, hm, v3, e5, i2, j2, e6, e7, kk, ek, q'⟩
    exact ⟨v1, e1, v2, e2, i1, j1, e3, e4, hm, v3, e5, i2, j2, e6, e7, kk, ek, hi _ _ q'⟩
structure TurS (K : PySem.W.Frag) (H : Hp) (sc : Addr) (p low many len : Int) : Prop where
  s : SqT K H sc [.str "turns", .int p, .int low, .int many, .int len]
  p2 : 2 ≤ p
  p10 : p ≤ 10
  w1 : -200 ≤ low
  w2 : low ≤ 200
  m1 : 1 ≤ many
  m2 : many ≤ 400
  l1 : 1 ≤ len
  l2 : len ≤ 4000
theorem TurS.keep {K : PySem.W.Frag} {H H' : Hp} {sc : Addr} {p low many len : Int} (h : TurS K H sc p low many len) (e : Same H H') : TurS K H' sc p low many len := ⟨e.tup h.s, h.p2, h.p10, h.w1, h.w2, h.m1, h.m2, h.l1, h.l2⟩
theorem zp_ne {p : Int} (h : 2 ≤ p) (E : Int) : (p : Rat) ^ E ≠ 0 := by
  have hn : ∀ n : Nat, (p : Rat) ^ (n : Int) ≠ 0 := fun n => by
    rw [zp_nat]
    exact My.cast_ne (Int.ne_of_gt (Int.pow_pos (by omega)))
  rcases Int.le_total 0 E with z | z
  · rw [show E = ((E.toNat : Nat) : Int) by omega]
    exact hn _
  · rw [show E = -(((-E).toNat : Nat) : Int) by omega, Rat.zpow_neg]
    have := hn (-E).toNat
    grind
theorem qv_zero {x y : Int} (h : x = 0) : My.qv x y = 0 := by unfold My.qv; rw [h]; grind
/-- the part of a turn at which a number stands -/
def partOf (p E : Int) (v : Rat) : Rat := (v - (p : Rat) ^ E) / ((p : Rat) ^ E * ((p - 1 : Int) : Rat))
def sp_pturns (K : PySem.W.Frag) : Sp := fun vs H Q _ => ∃ (sc pc : Addr) (p low many len e f : Int) (n : Nat), vs = [.ref sc, .ref pc] ∧ TurS K H sc p low many len ∧ Pr K H pc e f n ∧ n ≤ 300 ∧ (e ≤ 0 → Q (.str "nought") H) ∧
  (0 < e → ∀ E : Int, Below p e f E → -(n : Int) - 1 ≤ E → E ≤ n →
    ((E < low ∨ low + many < E) → Q (.str "outside") H) ∧
    (low ≤ E → E = low + many → partOf p E (My.qv e f) ≠ 0 → ∀ H', Same H H' → Q (.str "outside") H') ∧
    (low ≤ E → E ≤ low + many → (E = low + many → partOf p E (My.qv e f) = 0) → NewQ K H Q (9 * n + 195) ((((E - low : Int) : Rat) + partOf p E (My.qv e f)) * My.qv len many)))
theorem ok_place_on_turns (T : Txt K mg t) : FnOk P w K mg base CX0 4 t.f_place_on_turns t.d_place_on_turns ["scale", "cell"] (sp_pturns K) := by
  have G_number := ok_number (P := P) (w := w) (base := base) T
  have G_minus := ok_minus (P := P) (w := w) (base := base) T
  have G_over := ok_over (P := P) (w := w) (base := base) T
  have G_times := ok_times (P := P) (w := w) (base := base) T
  have G_plus := ok_plus (P := P) (w := w) (base := base) T
  have G_power_of := ok_power_of (P := P) (w := w) (base := base) T
  have G_power_below := ok_power_below (P := P) (w := w) (base := base) T
  obtain ⟨ds1, DV_number, BD_number⟩ := T.b_number1
  refine T.F_place_on_turns.ok sc_place_on_turns (fun vs H Q E h => ?_) (fun cdv A outer s H vs Q E hr h => ?_)
  · obtain ⟨sc, pc, p, low, many, len, e, f, n, rfl, _⟩ := h
    rfl
  obtain ⟨sc, pc, p, low, many, len, e, f, n, rfl, S, R, hn, q0, q1⟩ := h
  have p2 := S.p2
  have p10 := S.p10
  have a1 := S.w1
  have a2 := S.w2
  have m1 := S.m1
  have m2 := S.m2
  have l1 := S.l1
  have l2 := S.l2
  refine ⟨_, (pss_cons (ps_set (i := 2) sc_place_on_turns.nd rfl (Or.inl rfl) (pe_ix ix_tup (pv 0) pe_int (fun _ _ => rfl)))
  (pss_cons (ps_if (pt_cmpR op_le (pe_ix ix_tup (pv 1) pe_int (fun _ _ => rfl)) pe_int (nomark _)) (pss_one (ps_ret pe_str)) pss_nil)
  (pss_cons (ps_set (i := 3) sc_place_on_turns.nd rfl (Or.inl rfl) (pe_call G_power_below (hr.mono (by decide)) rfl T.m_power_below T.k_power_below T.b_power_below .nil pass0 (pa_cons (pv 2) (pa_cons (pv 1) pa_nil))))
  (pss_cons (ps_set (i := 4) sc_place_on_turns.nd rfl (Or.inl rfl) (pe_op op_sub (pv 3) (pe_ix ix_tup (pv 0) pe_int (fun _ _ => rfl))))
  (pss_cons (ps_if (PW.pt (pw_or (pt_cmpR op_lt (pv 4) pe_int (nomark _)) (pw_or1 (pt_cmpR op_gt (pv 4) (pe_ix ix_tup (pv 0) pe_int (fun _ _ => rfl)) (nomark _))))) (pss_one (ps_ret pe_str)) pss_nil)
  (pss_cons (ps_set (i := 5) sc_place_on_turns.nd rfl (Or.inl rfl) (pe_call G_power_of (hr.mono (by decide)) rfl T.m_power_of T.k_power_of T.b_power_of .nil pass0 (pa_cons (pv 2) (pa_cons (pv 3) pa_nil))))
  (pss_cons (ps_set (i := 6) sc_place_on_turns.nd rfl (Or.inl rfl) (pe_call G_over (hr.mono (by decide)) rfl T.m_over T.k_over T.b_over .nil pass0 (pa_cons (pe_call G_minus (hr.mono (by decide)) rfl T.m_minus T.k_minus T.b_minus .nil pass0 (pa_cons (pv 1) (pa_cons (pv 5) pa_nil))) (pa_cons (pe_call G_times (hr.mono (by decide)) rfl T.m_times T.k_times T.b_times .nil pass0 (pa_cons (pv 5) (pa_cons (pe_call G_number (hr.mono (by decide)) rfl T.m_number T.k_number BD_number DV_number passE0 (pa_cons (pe_op op_sub (pv 2) pe_int) pa_nil)) pa_nil))) pa_nil))))
  (pss_cons (ps_if (PW.pt (pw_and (pt_cmpR op_eq (pv 4) (pe_ix ix_tup (pv 0) pe_int (fun _ _ => rfl)) (nomark _)) (pw_and1 (pt_cmpR op_ne (pe_ix ix_tup (pv 6) pe_int (fun _ _ => rfl)) pe_int (nomark _))))) (pss_one (ps_ret pe_str)) pss_nil)
  (pss_one (ps_ret (pe_call G_times (hr.mono (by decide)) rfl T.m_times T.k_times T.b_times .nil pass0 (pa_cons (pe_call G_plus (hr.mono (by decide)) rfl T.m_plus T.k_plus T.b_plus .nil pass0 (pa_cons (pe_call G_number (hr.mono (by decide)) rfl T.m_number T.k_number BD_number DV_number passE0 (pa_cons (pv 4) pa_nil)) (pa_cons (pv 6) pa_nil))) (pa_cons (pe_call G_number (hr.mono (by decide)) rfl T.m_number T.k_number T.b_number .nil passE0 (pa_cons (pe_ix ix_tup (pv 0) pe_int (fun _ _ => rfl)) (pa_cons (pe_ix ix_tup (pv 0) pe_int (fun _ _ => rfl)) pa_nil))) pa_nil))))))))))))), ?_⟩
  refine ⟨_, rfl, _, _, _, _, rfl, rfl, S.s, rfl, ?_⟩
  refine ⟨_, rfl, _, _, _, _, rfl, rfl, R.s, at0 _ _, _, _, rfl, rfl, _, rfl, ?_⟩
  by_cases he : e ≤ 0
  · exact iteDT he (q0 he)
  refine iteDF he ?_
  refine ⟨_, rfl, _, rfl, pc, p, e, f, n, rfl, p2, p10, R, by omega, by omega, fun E hB hE1 hE2 => ?_⟩
  obtain ⟨qo, qp, qi⟩ := q1 (by omega) E hB hE1 hE2
  refine ⟨_, rfl, _, rfl, _, _, _, _, rfl, rfl, S.s, rfl, _, _, rfl, rfl, ?_⟩
  refine ⟨_, rfl, _, _, rfl, rfl, _, rfl, ?_⟩
  by_cases t0 : E - low < 0
  · exact iteDT t0 (qo (.inl (by omega)))
  refine iteDF t0 ?_
  refine ⟨_, rfl, _, rfl, _, _, _, _, rfl, rfl, S.s, rfl, _, _, rfl, rfl, _, rfl, ?_⟩
  by_cases t1 : E - low > many
  · exact iteDT t1 (qo (.inr (by omega)))
  refine iteDF t1 ?_
  refine ⟨_, rfl, _, rfl, p, E, rfl, p2, p10, by omega, by omega, fun p1 H1 x1 y1 s1 R1 g1 v1 => ?_⟩
  refine ⟨_, rfl, _, rfl, _, _, _, _, _, _, _, _, rfl, R.keep s1, R1, by omega, True.intro, fun p2' H2 x2 y2 s2 R2 g2 v2 => ?_⟩
  refine ⟨_, rfl, _, rfl, _, _, rfl, rfl, _, _, 60, rfl, b60_of (by omega) (by omega), b60_1, by decide, by decide, fun p3 H3 x3 y3 s3 R3 g3 v3 => ?_⟩
  refine ⟨_, _, _, _, _, _, _, _, rfl, R1.keep (s2.trans s3), R3, by omega, True.intro, fun p4 H4 x4 y4 s4 R4 g4 v4 => ?_⟩
  have nz : x4 ≠ 0 := qv_top (by
    rw [v4, v1, v3, My.qv_int]
    exact fun z => by
      rcases Rat.mul_eq_zero.mp z with z | z
      · exact zp_ne p2 E z
      · exact My.cast_ne (show p - 1 ≠ 0 by omega) z)
  refine ⟨_, _, _, _, _, _, _, _, rfl, R2.keep (s3.trans s4), R4, by omega, nz, fun p5 H5 x5 y5 s5 R5 g5 v5 => ?_⟩
  have hpart : My.qv x5 y5 = partOf p E (My.qv e f) := by rw [v5, v2, v4, v1, v3, My.qv_int]; rfl
  have sA := s1.trans (s2.trans (s3.trans (s4.trans s5)))
  have fin : (E = low + many → partOf p E (My.qv e f) = 0) → NewQ K H Q (9 * n + 195) ((((E - low : Int) : Rat) + partOf p E (My.qv e f)) * My.qv len many) := fun z => qi (by omega) (by omega) z
  refine ⟨_, rfl, _, rfl, _, _, _, _, rfl, rfl, sA.tup S.s, rfl, rfl, _, rfl, ?_⟩
  by_cases te : E - low = many
  · refine iteDT (congrArg V.int te) ?_
    refine ⟨_, rfl, _, _, _, _, rfl, rfl, R5.s, at0 _ _, rfl, _, rfl, ?_⟩
    by_cases x0 : x5 = 0
    · refine iteNS (congrArg V.int x0) ?_
      have q := fin (fun _ => by rw [← hpart]; exact qv_zero x0)
      refine ⟨_, rfl, _, _, 60, rfl, b60_of (by omega) (by omega), b60_1, by decide, by decide, fun p6 H6 x6 y6 s6 R6 g6 v6 => ?_⟩
      refine ⟨_, rfl, _, _, _, _, _, _, _, _, rfl, R6, R5.keep s6, by omega, True.intro, fun p7 H7 x7 y7 s7 R7 g7 v7 => ?_⟩
      have sB := sA.trans (s6.trans s7)
      refine ⟨_, rfl, _, _, _, _, rfl, rfl, sB.tup S.s, rfl, _, rfl, _, _, _, _, rfl, rfl, sB.tup S.s, rfl, _, _, 60, rfl, b60_of (by omega) (by omega), b60_of (by omega) (by omega), by decide, by omega, fun p8 H8 x8 y8 s8 R8 g8 v8 => ?_⟩
      refine ⟨_, _, _, _, _, _, _, _, rfl, R7.keep s8, R8, by omega, True.intro, fun p9 H9 x9 y9 s9 R9 g9 v9 => ?_⟩
      exact q p9 H9 x9 y9 (sB.trans (s8.trans s9)) (R9.up (by omega)) g9 (by rw [v9, v7, v6, v8, hpart, My.qv_int])
    · refine iteNF (fun z => x0 (V.int.inj z)) ?_
      refine qp (by omega) (by omega) (fun z => x0 ?_) H5 sA
      have z2 : My.qv x5 y5 = 0 := hpart.trans z
      have z3 := My.eq_of_qv R5.ne (show (1 : Int) ≠ 0 by decide) (z2.trans (show (0 : Rat) = My.qv 0 1 from (qv_zero rfl).symm))
      omega
  · refine iteDF (fun z => te (V.int.inj z)) ?_
    refine iteF ?_
    have q := fin (fun z => absurd (show E - low = many by omega) te)
    refine ⟨_, rfl, _, _, 60, rfl, b60_of (by omega) (by omega), b60_1, by decide, by decide, fun p6 H6 x6 y6 s6 R6 g6 v6 => ?_⟩
    refine ⟨_, rfl, _, _, _, _, _, _, _, _, rfl, R6, R5.keep s6, by omega, True.intro, fun p7 H7 x7 y7 s7 R7 g7 v7 => ?_⟩
    have sB := sA.trans (s6.trans s7)
    refine ⟨_, rfl, _, _, _, _, rfl, rfl, sB.tup S.s, rfl, _, rfl, _, _, _, _, rfl, rfl, sB.tup S.s, rfl, _, _, 60, rfl, b60_of (by omega) (by omega), b60_of (by omega) (by omega), by decide, by omega, fun p8 H8 x8 y8 s8 R8 g8 v8 => ?_⟩
    refine ⟨_, _, _, _, _, _, _, _, rfl, R7.keep s8, R8, by omega, True.intro, fun p9 H9 x9 y9 s9 R9 g9 v9 => ?_⟩
    exact q p9 H9 x9 y9 (sB.trans (s8.trans s9)) (R9.up (by omega)) g9 (by rw [v9, v7, v6, v8, hpart, My.qv_int])
def sp_floor (K : PySem.W.Frag) : Sp := fun vs H Q _ => ∃ (p : Addr) (a b : Int) (n : Nat), vs = [.ref p] ∧ Pr K H p a b n ∧ n ≤ 3900 ∧ Q (.int (a / b)) H
theorem ok_floor_of (T : Txt K mg t) : FnOk P w K mg base CX0 1 t.f_floor_of t.d_floor_of ["one"] (sp_floor K) := by
  refine T.F_floor_of.ok sc_floor_of (fun vs H Q E h => ?_) (fun cdv A outer s H vs Q E hr h => ?_)
  · obtain ⟨p, a, b, n, rfl, _⟩ := h
    rfl
  obtain ⟨p, a, b, n, rfl, R, hn, q⟩ := h
  refine ⟨_, (pss_one (ps_ret (pe_op op_fdivB (pe_ix ix_tup (pv 0) pe_int (fun _ _ => rfl)) (pe_ix ix_tup (pv 0) pe_int (fun _ _ => rfl))))), ?_⟩
  exact ⟨_, rfl, _, _, _, _, rfl, rfl, R.s, at0 _ _, _, rfl, _, _, _, _, rfl, rfl, R.s, at1 _ _, _, _, rfl, rfl, ⟨R.pos, R.bb.mono (by omega)⟩, q⟩
theorem floor_same {x y c d : Int} (hy : 0 < y) (hd : 0 < d) (h : x * d = c * y) : x / y = c / d := by
  have h1 := Int.emod_add_mul_ediv c d
  have h2 := Int.emod_nonneg c (Int.ne_of_gt hd)
  have h3 := Int.emod_lt_of_pos c hd
  have h4 := Int.emod_add_mul_ediv x y
  have h5 := Int.emod_nonneg x (Int.ne_of_gt hy)
  have h6 := Int.emod_lt_of_pos x hy
  generalize c / d = t at *
  generalize x / y = u at *
  generalize c % d = r at *
  generalize x % y = v at *
  -- (v + y u) d = (r + d t) y
  have e : v * d + (y * d) * u = r * y + (y * d) * t := by
    have : (v + y * u) * d = (r + d * t) * y := by rw [h4, h1, h]
    grind
  have yd : 0 < y * d := Int.mul_pos hy hd
  have vd : v * d < y * d := Int.mul_lt_mul_of_pos_right h6 hd
  have v0 : 0 ≤ v * d := Int.mul_nonneg h5 (Int.le_of_lt hd)
  have ry : r * y < d * y := Int.mul_lt_mul_of_pos_right h3 hy
  have r0 : 0 ≤ r * y := Int.mul_nonneg h2 (Int.le_of_lt hy)
  have dy : d * y = y * d := Int.mul_comm _ _
  rw [dy] at ry
  generalize y * d = m at *
  generalize v * d = a at *
  generalize r * y = b at *
  have f : m * (u - t) = b - a := by rw [Int.mul_sub]; omega
  rcases Int.lt_trichotomy u t with z | z | z
  · have : m * (u - t) ≤ m * (-1) := Int.mul_le_mul_of_nonneg_left (by omega) (Int.le_of_lt yd)
    omega
  · exact z
  · have : m * 1 ≤ m * (u - t) := Int.mul_le_mul_of_nonneg_left (by omega) (Int.le_of_lt yd)
    omega
def sp_rturns (K : PySem.W.Frag) : Sp := fun vs H Q _ => ∃ (sc pp : Addr) (p low many len x y : Int) (n M : Nat), vs = [.ref sc, .ref pp] ∧ TurS K H sc p low many len ∧ Pr K H pp x y n ∧ n + 4 * M + 260 ≤ 3900 ∧ -(M : Int) ≤ low ∧ low + many ≤ M ∧ 0 ≤ x ∧ x ≤ len * y ∧
  NewQ K H Q (n + 4 * M + 260) ((p : Rat) ^ (low + x * many / (y * len)) * (1 + (My.qv x y * My.qv many len - ((x * many / (y * len) : Int) : Rat)) * ((p - 1 : Int) : Rat)))
theorem turns_in {x y many len : Int} (hy : 0 < y) (l1 : 1 ≤ len) (m1 : 1 ≤ many) (x0 : 0 ≤ x) (x1 : x ≤ len * y) : 0 ≤ x * many / (y * len) ∧ x * many / (y * len) ≤ many := by
  have d : 0 < y * len := Int.mul_pos hy (by omega)
  refine ⟨Int.ediv_nonneg (Int.mul_nonneg x0 (by omega)) (Int.le_of_lt d), ?_⟩
  have h : x * many ≤ (y * len) * many := by
    rw [Int.mul_comm y len]
    exact Int.mul_le_mul_of_nonneg_right x1 (by omega)
  have h2 := Int.ediv_le_ediv d h
  rw [Int.mul_ediv_cancel_left _ (Int.ne_of_gt d)] at h2
  exact h2
theorem ok_read_on_turns (T : Txt K mg t) : FnOk P w K mg base CX0 4 t.f_read_on_turns t.d_read_on_turns ["scale", "place"] (sp_rturns K) := by
  have G_number := ok_number (P := P) (w := w) (base := base) T
  have G_minus := ok_minus (P := P) (w := w) (base := base) T
  have G_times := ok_times (P := P) (w := w) (base := base) T
  have G_plus := ok_plus (P := P) (w := w) (base := base) T
  have G_power_of := ok_power_of (P := P) (w := w) (base := base) T
  have G_floor_of := ok_floor_of (P := P) (w := w) (base := base) T
  obtain ⟨ds1, DV_number, BD_number⟩ := T.b_number1
  refine T.F_read_on_turns.ok sc_read_on_turns (fun vs H Q E h => ?_) (fun cdv A outer s H vs Q E hr h => ?_)
  · obtain ⟨sc, pp, p, low, many, len, x, y, n, M, rfl, _⟩ := h
    rfl
  obtain ⟨sc, pp, p, low, many, len, x, y, n, M, rfl, S, R, hn, hM1, hM2, x0, x1, q⟩ := h
  have p2 := S.p2
  have p10 := S.p10
  have a1 := S.w1
  have a2 := S.w2
  have m1 := S.m1
  have m2 := S.m2
  have l1 := S.l1
  have l2 := S.l2
  obtain ⟨t0, t1⟩ := turns_in R.pos l1 m1 x0 x1
  refine ⟨_, (pss_cons (ps_set (i := 2) sc_read_on_turns.nd rfl (Or.inl rfl) (pe_call G_times (hr.mono (by decide)) rfl T.m_times T.k_times T.b_times .nil pass0 (pa_cons (pv 1) (pa_cons (pe_call G_number (hr.mono (by decide)) rfl T.m_number T.k_number T.b_number .nil passE0 (pa_cons (pe_ix ix_tup (pv 0) pe_int (fun _ _ => rfl)) (pa_cons (pe_ix ix_tup (pv 0) pe_int (fun _ _ => rfl)) pa_nil))) pa_nil))))
  (pss_cons (ps_set (i := 3) sc_read_on_turns.nd rfl (Or.inl rfl) (pe_call G_floor_of (hr.mono (by decide)) rfl T.m_floor_of T.k_floor_of T.b_floor_of .nil pass0 (pa_cons (pv 2) pa_nil)))
  (pss_cons (ps_set (i := 4) sc_read_on_turns.nd rfl (Or.inl rfl) (pe_call G_minus (hr.mono (by decide)) rfl T.m_minus T.k_minus T.b_minus .nil pass0 (pa_cons (pv 2) (pa_cons (pe_call G_number (hr.mono (by decide)) rfl T.m_number T.k_number BD_number DV_number passE0 (pa_cons (pv 3) pa_nil)) pa_nil))))
  (pss_cons (ps_set (i := 5) sc_read_on_turns.nd rfl (Or.inl rfl) (pe_call G_power_of (hr.mono (by decide)) rfl T.m_power_of T.k_power_of T.b_power_of .nil pass0 (pa_cons (pe_ix ix_tup (pv 0) pe_int (fun _ _ => rfl)) (pa_cons (pe_op op_add (pe_ix ix_tup (pv 0) pe_int (fun _ _ => rfl)) (pv 3)) pa_nil))))
  (pss_one (ps_ret (pe_call G_times (hr.mono (by decide)) rfl T.m_times T.k_times T.b_times .nil pass0 (pa_cons (pv 5) (pa_cons (pe_call G_plus (hr.mono (by decide)) rfl T.m_plus T.k_plus T.b_plus .nil pass0 (pa_cons (pe_call G_number (hr.mono (by decide)) rfl T.m_number T.k_number BD_number DV_number passE0 (pa_cons pe_int pa_nil)) (pa_cons (pe_call G_times (hr.mono (by decide)) rfl T.m_times T.k_times T.b_times .nil pass0 (pa_cons (pv 4) (pa_cons (pe_call G_number (hr.mono (by decide)) rfl T.m_number T.k_number BD_number DV_number passE0 (pa_cons (pe_op op_sub (pe_ix ix_tup (pv 0) pe_int (fun _ _ => rfl)) pe_int) pa_nil)) pa_nil))) pa_nil))) pa_nil))))))))), ?_⟩
  refine ⟨_, rfl, _, rfl, _, _, _, _, rfl, rfl, S.s, rfl, _, rfl, _, _, _, _, rfl, rfl, S.s, rfl, _, _, 60, rfl, b60_of (by omega) (by omega), b60_of (by omega) (by omega), by decide, by omega, fun p1 H1 z1 y1 s1 R1 g1 v1 => ?_⟩
  refine ⟨_, _, _, _, _, _, _, _, rfl, R.keep s1, R1, by omega, True.intro, fun p2' H2 z2 y2 s2 R2 g2 v2 => ?_⟩
  have ha : My.qv z2 y2 = My.qv x y * My.qv many len := by rw [v2, v1]
  have hf : z2 / y2 = x * many / (y * len) := floor_same R2.pos (Int.mul_pos R.pos (by omega)) (My.eq_of_qv R2.ne (Int.ne_of_gt (Int.mul_pos R.pos (by omega))) (ha.trans (My.qv_times R.ne (show len ≠ 0 by omega)).symm))
  refine ⟨_, rfl, _, _, _, _, rfl, R2, by omega, ?_⟩
  rw [hf]
  generalize x * many / (y * len) = tt at *
  refine ⟨_, rfl, _, rfl, _, _, 60, rfl, b60_of (by omega) (by omega), b60_1, by decide, by decide, fun p3 H3 z3 y3 s3 R3 g3 v3 => ?_⟩
  refine ⟨_, _, _, _, _, _, _, _, rfl, R2.keep s3, R3, by omega, True.intro, fun p4 H4 z4 y4 s4 R4 g4 v4 => ?_⟩
  have sA := s1.trans (s2.trans (s3.trans s4))
  refine ⟨_, rfl, _, _, _, _, rfl, rfl, sA.tup S.s, rfl, _, rfl, _, _, _, _, rfl, rfl, sA.tup S.s, rfl, _, rfl, _, _, rfl, rfl, p, low + tt, rfl, p2, p10, by omega, by omega, fun p5 H5 z5 y5 s5 R5 g5 v5 => ?_⟩
  refine ⟨_, rfl, _, _, 60, rfl, b60_1, b60_1, by decide, by decide, fun p6 H6 z6 y6 s6 R6 g6 v6 => ?_⟩
  have sB := sA.trans (s5.trans s6)
  refine ⟨_, rfl, _, rfl, _, _, _, _, rfl, rfl, sB.tup S.s, rfl, _, _, rfl, rfl, _, _, 60, rfl, b60_of (by omega) (by omega), b60_1, by decide, by decide, fun p7 H7 z7 y7 s7 R7 g7 v7 => ?_⟩
  refine ⟨_, _, _, _, _, _, _, _, rfl, R4.keep (s5.trans (s6.trans s7)), R7, by omega, True.intro, fun p8 H8 z8 y8 s8 R8 g8 v8 => ?_⟩
  refine ⟨_, _, _, _, _, _, _, _, rfl, R6.keep (s7.trans s8), R8, by omega, True.intro, fun p9 H9 z9 y9 s9 R9 g9 v9 => ?_⟩
  refine ⟨_, _, _, _, _, _, _, _, rfl, R5.keep (s6.trans (s7.trans (s8.trans s9))), R9, by omega, True.intro, fun pA HA zA yA sA' RA gA vA => ?_⟩
  refine q pA HA zA yA (sB.trans (s7.trans (s8.trans (s9.trans sA')))) (RA.up (by omega)) gA ?_
  rw [vA, v5, v9, v6, v8, v7, v4, v3, ha, My.qv_int, My.qv_int, My.qv_int]
  rfl
/-! broken scales -/
structure Pc where
  (ad pl ph : Addr)
  (a b c d f t : Int)
structure PcOk (K : PySem.W.Frag) (H : Hp) (n : Nat) (x : Pc) : Prop where
  s : SqT K H x.ad [.ref x.pl, .ref x.ph, .int x.f, .int x.t]
  lo : Pr K H x.pl x.a x.b n
  hi : Pr K H x.ph x.c x.d n
  lt : x.a * x.d < x.c * x.b
  f0 : 0 ≤ x.f
  ft : x.f < x.t
  t9 : x.t ≤ 4000
theorem PcOk.keep {K : PySem.W.Frag} {H H' : Hp} {n : Nat} {x : Pc} (h : PcOk K H n x) (e : Same H H') : PcOk K H' n x := ⟨e.tup h.s, h.lo.keep e, h.hi.keep e, h.lt, h.f0, h.ft, h.t9⟩
theorem span_ne {a b c d : Int} (hb : b ≠ 0) (hd : d ≠ 0) (h : a * d < c * b) : My.qv c d - My.qv a b ≠ 0 := fun z => by
  have z2 : My.qv c d = My.qv a b := by grind
  have z3 := My.eq_of_qv hd hb z2
  omega
theorem PcOk.span {K : PySem.W.Frag} {H : Hp} {n : Nat} {x : Pc} (h : PcOk K H n x) : My.qv x.c x.d - My.qv x.a x.b ≠ 0 := span_ne h.lo.ne h.hi.ne h.lt
structure BrkS (K : PySem.W.Frag) (H : Hp) (sc ps : Addr) (pcs : List Pc) (len : Int) (n : Nat) : Prop where
  s : SqT K H sc [.str "broken", .ref ps, .int len]
  l : SqL K H ps (pcs.map fun x => V.ref x.ad)
  ok : ∀ x ∈ pcs, PcOk K H n x
  ne : pcs ≠ []
  hn : n ≤ 300
theorem BrkS.keep {K : PySem.W.Frag} {H H' : Hp} {sc ps : Addr} {pcs : List Pc} {len : Int} {n : Nat} (h : BrkS K H sc ps pcs len n) (e : Same H H') : BrkS K H' sc ps pcs len n := ⟨e.tup h.s, e.seq h.l, fun x hx => (h.ok x hx).keep e, h.ne, h.hn⟩
def win (e f : Int) (x : Pc) : Bool := inB e f x.a x.b x.c x.d
def outw (e f : Int) (pcs : List Pc) : Bool := match pcs.head?, pcs.getLast? with
  | some x, some y => inB e f x.a x.b y.c y.d
  | _, _ => false
/-- a place within a piece -/
def inn (e g : Int) (x : Pc) : Bool := inB e g x.f 1 x.t 1
theorem list_first {α : Type} {xs : List α} (h : xs ≠ []) : ∃ x, xs.head? = some x ∧ xs[0]? = some x ∧ x ∈ xs := by
  cases xs with
  | nil => exact absurd rfl h
  | cons x r => exact ⟨x, rfl, rfl, List.mem_cons_self⟩
theorem list_last {α : Type} {xs : List α} (h : xs ≠ []) : ∃ x, xs.getLast? = some x ∧ xs[xs.length - 1]? = some x ∧ x ∈ xs := by
  refine ⟨xs.getLast h, List.getLast?_eq_some_getLast h, ?_, List.getLast_mem h⟩
  rw [← List.getLast?_eq_getElem?, List.getLast?_eq_some_getLast h]
theorem atI_first {α : Type} {xs : List α} {x : α} (h : xs[0]? = some x) : atI xs 0 = some x := atI_nat (j := 0) h
theorem atI_last {α : Type} {xs : List α} {x : α} (h : xs[xs.length - 1]? = some x) : atI xs (-1) = some x := by
  have hl : 0 < xs.length := by
    rcases Nat.eq_zero_or_pos xs.length with z | z
    · rw [List.getElem?_eq_none (by omega)] at h; cases h
    · exact z
  unfold atI ixN
  rw [if_neg (by decide), if_pos (by omega)]
  show xs[(-1 + (xs.length : Int)).toNat]? = some x
  rw [show (-1 + (xs.length : Int)).toNat = xs.length - 1 by omega]
  exact h
theorem map_at {α β : Type} {g : α → β} {xs : List α} {j : Nat} {x : α} (h : xs[j]? = some x) : (xs.map g)[j]? = some (g x) := by rw [List.getElem?_map, h]; rfl
theorem of_map_at {α β : Type} {g : α → β} {xs : List α} {j : Nat} {v : β} (h : (xs.map g)[j]? = some v) : ∃ x, xs[j]? = some x ∧ v = g x := by
  rw [List.getElem?_map] at h
  cases q : xs[j]? with
  | none => rw [q] at h; cases h
  | some x => rw [q] at h; exact ⟨x, rfl, (Option.some.inj h).symm⟩
/-- the first of a list that is so, gone through by its turns -/
theorem find_here {α : Type} {p : α → Bool} {xs : List α} {x : α} {i : Nat} (h : ∀ j y, j < i → xs[j]? = some y → p y = false) (hx : xs[i]? = some x) (hp : p x = true) : xs.find? p = some x := by
  induction xs generalizing i with
  | nil => simp at hx
  | cons y r ih =>
    cases i with
    | zero =>
      rw [List.getElem?_cons_zero] at hx
      cases hx
      rw [List.find?_cons, hp]
    | succ i =>
      rw [List.find?_cons, h 0 y (by omega) rfl]
      exact ih (i := i) (fun j z hj hz => h (j + 1) z (by omega) (by rw [List.getElem?_cons_succ]; exact hz)) (by rw [List.getElem?_cons_succ] at hx; exact hx)
theorem find_none {α : Type} {p : α → Bool} {xs : List α} (h : ∀ j y, j < xs.length → xs[j]? = some y → p y = false) : xs.find? p = none := by
  rw [List.find?_eq_none]
  intro y hy
  obtain ⟨j, hj, e⟩ := List.getElem_of_mem hy
  rw [h j y hj (by rw [List.getElem?_eq_getElem hj, e])]
  exact Bool.false_ne_true
theorem lt_of_at {α : Type} {xs : List α} {i : Nat} {x : α} (h : xs[i]? = some x) : i < xs.length := by
  rcases Nat.lt_or_ge i xs.length with z | z
  · exact z
  · rw [List.getElem?_eq_none z] at h; cases h
def sp_pbroken (K : PySem.W.Frag) : Sp := fun vs H Q _ => ∃ (sc ps pc : Addr) (pcs : List Pc) (len e f : Int) (n1 n : Nat), vs = [.ref sc, .ref pc] ∧ BrkS K H sc ps pcs len n ∧ Pr K H pc e f n1 ∧ n1 + 3 * n + 140 ≤ 3900 ∧
  (∀ x, pcs.find? (win e f) = some x → NewQ K H Q (n1 + 3 * n + 140) ((x.f : Rat) + (My.qv e f - My.qv x.a x.b) / (My.qv x.c x.d - My.qv x.a x.b) * ((x.t - x.f : Int) : Rat))) ∧
  (pcs.find? (win e f) = none → Q (.str (if outw e f pcs = true then "gap" else "outside")) H)
theorem ok_place_on_broken (T : Txt K mg t) : FnOk P w K mg base CX0 5 t.f_place_on_broken t.d_place_on_broken ["scale", "cell"] (sp_pbroken K) := by
  have G_is_within := ok_is_within (P := P) (w := w) (base := base) T
  have G_straight_place := ok_straight_place (P := P) (w := w) (base := base) T
  refine T.F_place_on_broken.ok sc_place_on_broken (fun vs H Q E h => ?_) (fun cdv A outer s H vs Q E hr h => ?_)
  · obtain ⟨sc, ps, pc, pcs, len, e, f, n1, n, rfl, _⟩ := h
    rfl
  obtain ⟨sc, ps, pc, pcs, len, e, f, n1, n, rfl, S, R, hn1, qi, qo⟩ := h
  have hS := S.s
  have hL := S.l
  have hn := S.hn
  refine ⟨_, (pss_cons (ps_set (i := 2) sc_place_on_broken.nd rfl (Or.inl rfl) (pe_ix ix_tup (pv 0) pe_int (fun _ _ => rfl)))
  (pss_cons (ps_for PassesOwn.never rfl (pi_list (pv 2)) (pg_name (i := 3) sc_place_on_broken.nd rfl (Or.inl rfl)) (pss_one (ps_if (pt_val (pe_call G_is_within (hr.mono (by decide)) rfl T.m_is_within T.k_is_within T.b_is_within .nil pass0 (pa_cons (pv 1) (pa_cons (pe_ix ix_tup (pv 3) pe_int (fun _ _ => rfl)) (pa_cons (pe_ix ix_tup (pv 3) pe_int (fun _ _ => rfl)) pa_nil))))) (pss_one (ps_ret (pe_call G_straight_place (hr.mono (by decide)) rfl T.m_straight_place T.k_straight_place T.b_straight_place .nil pass0 (pa_cons (pv 1) (pa_cons (pe_ix ix_tup (pv 3) pe_int (fun _ _ => rfl)) (pa_cons (pe_ix ix_tup (pv 3) pe_int (fun _ _ => rfl)) (pa_cons (pe_ix ix_tup (pv 3) pe_int (fun _ _ => rfl)) (pa_cons (pe_ix ix_tup (pv 3) pe_int (fun _ _ => rfl)) pa_nil)))))))) pss_nil)))
  (pss_one (ps_ret (pe_ifExp (pt_val (pe_call G_is_within (hr.mono (by decide)) rfl T.m_is_within T.k_is_within T.b_is_within .nil pass0 (pa_cons (pv 1) (pa_cons (pe_ix ix_tup (pe_ix ix_list (pv 2) pe_int (fun _ _ => rfl)) pe_int (fun _ _ => rfl)) (pa_cons (pe_ix ix_tup (pe_ix ix_list (pv 2) (pe_un un_neg pe_int) (fun _ _ => rfl)) pe_int (fun _ _ => rfl)) pa_nil))))) pe_str pe_str))))), z_go (σ := [some _, some _, none, none]) rfl ?_⟩
  walk_at "run"
  refine f_list (K := K) (xs := pcs.map fun x => V.ref x.ad) (fun i σ H2 => (∃ u, σ = [some (.ref sc), some (.ref pc), some (.ref ps), u]) ∧ H2 = H ∧ ∀ j y, j < i → pcs[j]? = some y → win e f y = false) ⟨⟨none, rfl⟩, rfl, fun j y hj => absurd hj (Nat.not_lt_zero _)⟩ (fun i σ H2 _ ⟨_, e2, _⟩ => by subst e2; exact hL) ?_ ?_
  · rintro i v σ H2 hi ⟨⟨u, rfl⟩, rfl, hw⟩
    obtain ⟨y, hy, rfl⟩ := of_map_at hi
    have OK := S.ok y (List.mem_of_getElem? hy)
    have k1 := OK.s
    have k2 := OK.lo
    have k3 := OK.hi
    have k4 := OK.f0
    have k5 := OK.ft
    have k6 := OK.t9
    have k7 := OK.span
    walk_at "run"
    refine z_ite2 (fun hb => ?_) (fun hb => ?_)
    · have q := qi y (find_here hw hy hb)
      walk_at "run"
      rename_i p1 H1 x1 y1 s1 R1 g1 v1
      exact q p1 H1 x1 y1 s1 R1 g1 v1
    · walk_at "run"
      refine ⟨⟨_, rfl⟩, rfl, fun j z hj hz => ?_⟩
      rcases Nat.lt_succ_iff_lt_or_eq.mp hj with h1 | h1
      · exact hw j z h1 hz
      · subst h1
        rw [hy] at hz
        cases hz
        exact hb
  · rintro σ H2 ⟨⟨u, rfl⟩, rfl, hw⟩
    have q := qo (find_none fun j y hj hy => hw j y (by rw [List.length_map]; exact hj) hy)
    obtain ⟨x, x1, x2, x3⟩ := list_first S.ne
    obtain ⟨z, z1, z2, z3⟩ := list_last S.ne
    have eo : outw e f pcs = inB e f x.a x.b z.c z.d := by unfold outw; rw [x1, z1]
    rw [eo] at q
    have ox := S.ok x x3
    have oz := S.ok z z3
    have k1 := ox.s
    have k2 := ox.lo
    have k3 := oz.s
    have k4 := oz.hi
    have a0 : atI (pcs.map fun x => V.ref x.ad) 0 = some (.ref x.ad) := atI_first (map_at x2)
    have a1 : atI (pcs.map fun x => V.ref x.ad) (-1) = some (.ref z.ad) := atI_last (by rw [List.length_map]; exact map_at z2)
    walk_at "run"
    refine z_ixL hL a0 ?_
    walk_at "run"
    refine z_ixL hL a1 ?_
    walk_at "run"
    refine z_ite2 (fun hb => ?_) (fun hb => ?_)
    · rw [hb] at q
      exact q
    · rw [hb] at q
      exact q
def sp_rbroken (K : PySem.W.Frag) : Sp := fun vs H Q _ => ∃ (sc ps pp : Addr) (pcs : List Pc) (len e g : Int) (n1 n : Nat), vs = [.ref sc, .ref pp] ∧ BrkS K H sc ps pcs len n ∧ Pr K H pp e g n1 ∧ n1 + 3 * n + 140 ≤ 3900 ∧
  (∀ x, pcs.find? (inn e g) = some x → NewQ K H Q (n1 + 3 * n + 140) (My.qv x.a x.b + (My.qv e g - (x.f : Rat)) / ((x.t - x.f : Int) : Rat) * (My.qv x.c x.d - My.qv x.a x.b))) ∧
  (pcs.find? (inn e g) = none → ∀ H', Same H H' → Q .non H')
theorem num_one {x y f : Int} (hy : 0 < y) (g : Int.gcd x y = 1) (h : My.qv x y = My.qv f 1) : x = f ∧ y = 1 :=
  My.low_unique hy (by decide) g (by rw [Int.gcd_one]) (My.eq_of_qv (Int.ne_of_gt hy) (by decide) h)
theorem ok_read_on_broken (T : Txt K mg t) : FnOk P w K mg base CX0 5 t.f_read_on_broken t.d_read_on_broken ["scale", "place"] (sp_rbroken K) := by
  have G_is_within := ok_is_within (P := P) (w := w) (base := base) T
  have G_number := ok_number (P := P) (w := w) (base := base) T
  have G_straight_back := ok_straight_back (P := P) (w := w) (base := base) T
  obtain ⟨ds1, DV_number, BD_number⟩ := T.b_number1
  refine T.F_read_on_broken.ok sc_read_on_broken (fun vs H Q E h => ?_) (fun cdv A outer s H vs Q E hr h => ?_)
  · obtain ⟨sc, ps, pp, pcs, len, e, g, n1, n, rfl, _⟩ := h
    rfl
  obtain ⟨sc, ps, pp, pcs, len, e, g, n1, n, rfl, S, R, hn1, qi, qo⟩ := h
  have hS := S.s
  have hL := S.l
  have hn := S.hn
  refine ⟨_, (pss_cons (ps_for PassesOwn.never rfl (pi_list (pe_ix ix_tup (pv 0) pe_int (fun _ _ => rfl))) (pg_name (i := 2) sc_read_on_broken.nd rfl (Or.inl rfl)) (pss_one (ps_if (pt_val (pe_call G_is_within (hr.mono (by decide)) rfl T.m_is_within T.k_is_within T.b_is_within .nil pass0 (pa_cons (pv 1) (pa_cons (pe_call G_number (hr.mono (by decide)) rfl T.m_number T.k_number BD_number DV_number passE0 (pa_cons (pe_ix ix_tup (pv 2) pe_int (fun _ _ => rfl)) pa_nil)) (pa_cons (pe_call G_number (hr.mono (by decide)) rfl T.m_number T.k_number BD_number DV_number passE0 (pa_cons (pe_ix ix_tup (pv 2) pe_int (fun _ _ => rfl)) pa_nil)) pa_nil))))) (pss_one (ps_ret (pe_call G_straight_back (hr.mono (by decide)) rfl T.m_straight_back T.k_straight_back T.b_straight_back .nil pass0 (pa_cons (pv 1) (pa_cons (pe_ix ix_tup (pv 2) pe_int (fun _ _ => rfl)) (pa_cons (pe_ix ix_tup (pv 2) pe_int (fun _ _ => rfl)) (pa_cons (pe_ix ix_tup (pv 2) pe_int (fun _ _ => rfl)) (pa_cons (pe_ix ix_tup (pv 2) pe_int (fun _ _ => rfl)) pa_nil)))))))) pss_nil)))
  (pss_one (ps_ret pe_non))), z_go (σ := [some _, some _, none]) rfl ?_⟩
  walk_at "run"
  refine f_list (K := K) (xs := pcs.map fun x => V.ref x.ad) (fun i σ H2 => (∃ u, σ = [some (.ref sc), some (.ref pp), u]) ∧ Same H H2 ∧ ∀ j y, j < i → pcs[j]? = some y → inn e g y = false) ⟨⟨none, rfl⟩, Same.refl _, fun j y hj => absurd hj (Nat.not_lt_zero _)⟩ (fun i σ H2 _ ⟨_, e2, _⟩ => e2.seq hL) ?_ ?_
  · rintro i v σ H2 hi ⟨⟨u, rfl⟩, s0, hw⟩
    obtain ⟨y, hy, rfl⟩ := of_map_at hi
    have OK := S.ok y (List.mem_of_getElem? hy)
    have k1 := OK.s
    have k2 := OK.lo
    have k3 := OK.hi
    have k4 := OK.f0
    have k5 := OK.ft
    have k6 := OK.t9
    walk_at "run"
    rename_i p1 H3 x1 y1 s1 R1 g1 v1 p2 H4 x2 y2 s2 R2 g2 v2
    obtain ⟨e1, e2⟩ := num_one R1.pos g1 v1
    obtain ⟨e3, e4⟩ := num_one R2.pos g2 v2
    subst e1 e2 e3 e4
    refine z_ite2 (fun hb => ?_) (fun hb => ?_)
    · have q := qi y (find_here hw hy hb)
      walk_at "run"
      rename_i p3 H5 x3 y3 s3 R3 g3 v3
      exact q p3 H5 x3 y3 (by walk_at "sm") R3 g3 v3
    · walk_at "run"
      refine ⟨⟨_, rfl⟩, (by walk_at "sm"), fun j z hj hz => ?_⟩
      rcases Nat.lt_succ_iff_lt_or_eq.mp hj with h1 | h1
      · exact hw j z h1 hz
      · subst h1
        rw [hy] at hz
        cases hz
        exact hb
  · rintro σ H2 ⟨⟨u, rfl⟩, s0, hw⟩
    have q := qo (find_none fun j y hj hy => hw j y (by rw [List.length_map]; exact hj) hy)
    walk_at "run"
    exact q _ s0
/-! straight scales, days, and the ways in -/
structure StrS (K : PySem.W.Frag) (H : Hp) (sc pl ph : Addr) (a b c d len : Int) (n : Nat) : Prop where
  s : SqT K H sc [.str "straight", .ref pl, .ref ph, .int len]
  lo : Pr K H pl a b n
  hi : Pr K H ph c d n
  hn : n ≤ 300
  l1 : 1 ≤ len
  l2 : len ≤ 4000
  lt : a * d < c * b
structure DayS (K : PySem.W.Frag) (H : Hp) (sc : Addr) (f l len : Int) : Prop where
  s : SqT K H sc [.str "days", .int f, .int l, .int len]
  f0 : 0 ≤ f
  lt : f < l
  l9 : l ≤ 4000000
  l1 : 1 ≤ len
  l2 : len ≤ 4000
theorem StrS.keep {K : PySem.W.Frag} {H H' : Hp} {sc pl ph : Addr} {a b c d len : Int} {n : Nat} (h : StrS K H sc pl ph a b c d len n) (e : Same H H') : StrS K H' sc pl ph a b c d len n := ⟨e.tup h.s, h.lo.keep e, h.hi.keep e, h.hn, h.l1, h.l2, h.lt⟩
theorem DayS.keep {K : PySem.W.Frag} {H H' : Hp} {sc : Addr} {f l len : Int} (h : DayS K H sc f l len) (e : Same H H') : DayS K H' sc f l len := ⟨e.tup h.s, h.f0, h.lt, h.l9, h.l1, h.l2⟩
def sp_pstraight (K : PySem.W.Frag) : Sp := fun vs H Q _ => ∃ (sc pl ph pc : Addr) (a b c d e f len : Int) (n1 n : Nat), vs = [.ref sc, .ref pc] ∧ StrS K H sc pl ph a b c d len n ∧ Pr K H pc e f n1 ∧ n1 + 3 * n + 140 ≤ 3900 ∧ (inB e f a b c d = false → Q (.str "outside") H) ∧
  (inB e f a b c d = true → NewQ K H Q (n1 + 3 * n + 140) ((My.qv e f - My.qv a b) / (My.qv c d - My.qv a b) * (len : Rat)))
def sp_pdays (K : PySem.W.Frag) : Sp := fun vs H Q _ => ∃ (sc : Addr) (f l len c : Int), vs = [.ref sc, .int c] ∧ DayS K H sc f l len ∧ 0 ≤ c ∧ c ≤ 4000000 ∧ (¬ (f ≤ c ∧ c ≤ l) → Q (.str "outside") H) ∧ (f ≤ c → c ≤ l → NewQ K H Q 130 (My.qv ((c - f) * len) (l - f)))
theorem ok_place_on_straight (T : Txt K mg t) : FnOk P w K mg base CX0 5 t.f_place_on_straight t.d_place_on_straight ["scale", "cell"] (sp_pstraight K) := by
  have G_is_within := ok_is_within (P := P) (w := w) (base := base) T
  have G_straight_place := ok_straight_place (P := P) (w := w) (base := base) T
  refine T.F_place_on_straight.ok sc_place_on_straight (fun vs H Q E h => ?_) (fun cdv A outer s H vs Q E hr h => ?_)
  · obtain ⟨sc, pl, ph, pc, a, b, c, d, e, f, len, n1, n, rfl, _⟩ := h
    rfl
  obtain ⟨sc, pl, ph, pc, a, b, c, d, e, f, len, n1, n, rfl, S, P1, hn1, qo, qi⟩ := h
  have l1 := S.l1
  have l2 := S.l2
  have k1 := S.s
  have k2 := S.lo
  have k3 := S.hi
  have hn := S.hn
  have k4 := span_ne S.lo.ne S.hi.ne S.lt
  refine ⟨_, (pss_cons (ps_if (pt_not (pt_val (pe_call G_is_within (hr.mono (by decide)) rfl T.m_is_within T.k_is_within T.b_is_within .nil pass0 (pa_cons (pv 1) (pa_cons (pe_ix ix_tup (pv 0) pe_int (fun _ _ => rfl)) (pa_cons (pe_ix ix_tup (pv 0) pe_int (fun _ _ => rfl)) pa_nil)))))) (pss_one (ps_ret pe_str)) pss_nil)
  (pss_one (ps_ret (pe_call G_straight_place (hr.mono (by decide)) rfl T.m_straight_place T.k_straight_place T.b_straight_place .nil pass0 (pa_cons (pv 1) (pa_cons (pe_ix ix_tup (pv 0) pe_int (fun _ _ => rfl)) (pa_cons (pe_ix ix_tup (pv 0) pe_int (fun _ _ => rfl)) (pa_cons pe_int (pa_cons (pe_ix ix_tup (pv 0) pe_int (fun _ _ => rfl)) pa_nil))))))))), z_go (σ := [some _, some _]) rfl ?_⟩
  walk_at "run"
  refine z_ite2 (fun hb => ?_) (fun hb => ?_)
  · have q := qi hb
    walk_at "run"
    rename_i p1 H1 x1 y1 s1 R1 g1 v1
    refine q p1 H1 x1 y1 s1 R1 g1 (v1.trans ?_)
    rw [Int.sub_zero]
    grind
  · have q := qo hb
    walk_at "run"
    exact q
theorem ok_place_on_days (T : Txt K mg t) : FnOk P w K mg base CX0 3 t.f_place_on_days t.d_place_on_days ["scale", "cell"] (sp_pdays K) := by
  have G_number := ok_number (P := P) (w := w) (base := base) T
  refine T.F_place_on_days.ok sc_place_on_days (fun vs H Q E h => ?_) (fun cdv A outer s H vs Q E hr h => ?_)
  · obtain ⟨sc, f, l, len, c, rfl, _⟩ := h
    rfl
  obtain ⟨sc, f, l, len, c, rfl, S, c0, c9, qo, qi⟩ := h
  have l1 := S.l1
  have l2 := S.l2
  have f0 := S.f0
  have lt := S.lt
  have l9 := S.l9
  have k1 := S.s
  refine ⟨_, (pss_cons (ps_if (pt_not (pt_chain op_le op_le (pe_ix ix_tup (pv 0) pe_int (fun _ _ => rfl)) (pv 1) (pe_ix ix_tup (pv 0) pe_int (fun _ _ => rfl)))) (pss_one (ps_ret pe_str)) pss_nil)
  (pss_one (ps_ret (pe_call G_number (hr.mono (by decide)) rfl T.m_number T.k_number T.b_number .nil passE0 (pa_cons (pe_op op_mulB (pe_op op_sub (pv 1) (pe_ix ix_tup (pv 0) pe_int (fun _ _ => rfl))) (pe_ix ix_tup (pv 0) pe_int (fun _ _ => rfl))) (pa_cons (pe_op op_sub (pe_ix ix_tup (pv 0) pe_int (fun _ _ => rfl)) (pe_ix ix_tup (pv 0) pe_int (fun _ _ => rfl))) pa_nil)))))), z_go (σ := [some _, some _]) rfl ?_⟩
  walk_at "run"
  refine z_iteD (fun h1 => ?_) (fun h1 => ?_)
  · walk_at "run"
    refine z_iteD (fun h2 => ?_) (fun h2 => ?_)
    rotate_left
    · walk_at "run"
      exact qo fun z => h2 z.2
    · have q := qi h1 h2
      walk_at "run"
      rename_i p1 H1 x1 y1 s1 R1 g1 v1
      exact q p1 H1 x1 y1 s1 (R1.up (by decide)) g1 v1
  · walk_at "run"
    exact qo fun z => h1 z.1
def sp_placeon (K : PySem.W.Frag) : Sp := fun vs H Q E => (∃ sc : Addr, vs = [.ref sc, .non] ∧ Q (.str "nothing") H) ∨ sp_pstraight K vs H Q E ∨ sp_pturns K vs H Q E ∨ sp_pbroken K vs H Q E ∨ sp_pdays K vs H Q E
theorem ok_place_on (T : Txt K mg t) : FnOk P w K mg base CX0 6 t.f_place_on t.d_place_on ["scale", "cell"] (sp_placeon K) := by
  have G_place_on_straight := ok_place_on_straight (P := P) (w := w) (base := base) T
  have G_place_on_turns := ok_place_on_turns (P := P) (w := w) (base := base) T
  have G_place_on_broken := ok_place_on_broken (P := P) (w := w) (base := base) T
  have G_place_on_days := ok_place_on_days (P := P) (w := w) (base := base) T
  refine T.F_place_on.ok sc_place_on (fun vs H Q E h => ?_) (fun cdv A outer s H vs Q E hr h => ?_)
  · rcases h with ⟨sc, rfl, _⟩ | ⟨sc, pl, ph, pc, a, b, c, d, e, f, len, n1, n, rfl, _⟩ | ⟨sc, pc, p, low, many, len, e, f, n, rfl, _⟩ | ⟨sc, ps, pc, pcs, len, e, f, n1, n, rfl, _⟩ | ⟨sc, f, l, len, c, rfl, _⟩ <;> rfl
  rcases h with ⟨sc, rfl, q⟩ | h | h | h | h
  · refine ⟨_, (pss_cons (ps_if (pt_cmpR op_isN' (pv 1) pe_non (nomark _)) (pss_one (ps_ret pe_str)) pss_nil)
  (pss_cons (ps_if (pt_cmpR op_eq (pe_ix ix_tup (pv 0) pe_int (fun _ _ => rfl)) pe_str (nomark _)) (pss_one (ps_ret (pe_call G_place_on_straight (hr.mono (by decide)) rfl T.m_place_on_straight T.k_place_on_straight T.b_place_on_straight .nil pass0 (pa_cons (pv 0) (pa_cons (pv 1) pa_nil))))) pss_nil)
  (pss_cons (ps_if (pt_cmpR op_eq (pe_ix ix_tup (pv 0) pe_int (fun _ _ => rfl)) pe_str (nomark _)) (pss_one (ps_ret (pe_call G_place_on_turns (hr.mono (by decide)) rfl T.m_place_on_turns T.k_place_on_turns T.b_place_on_turns .nil pass0 (pa_cons (pv 0) (pa_cons (pv 1) pa_nil))))) pss_nil)
  (pss_cons (ps_if (pt_cmpR op_eq (pe_ix ix_tup (pv 0) pe_int (fun _ _ => rfl)) pe_str (nomark _)) (pss_one (ps_ret (pe_call G_place_on_broken (hr.mono (by decide)) rfl T.m_place_on_broken T.k_place_on_broken T.b_place_on_broken .nil pass0 (pa_cons (pv 0) (pa_cons (pv 1) pa_nil))))) pss_nil)
  (pss_cons (ps_if (pt_cmpR op_eq (pe_ix ix_tup (pv 0) pe_int (fun _ _ => rfl)) pe_str (nomark _)) (pss_one (ps_ret (pe_call G_place_on_days (hr.mono (by decide)) rfl T.m_place_on_days T.k_place_on_days T.b_place_on_days .nil pass0 (pa_cons (pv 0) (pa_cons (pv 1) pa_nil))))) pss_nil)
  (pss_one ps_never)))))), z_go (σ := [some _, some _]) rfl ?_⟩
    walk_at "run"
    exact q
  · obtain ⟨sc, pl, ph, pc, a, b, c, d, e, f, len, n1, n, rfl, S, rest⟩ := h
    have k1 := S.s
    refine ⟨_, (pss_cons (ps_if (pt_cmpR op_isN' (pv 1) pe_non (nomark _)) (pss_one (ps_ret pe_str)) pss_nil)
  (pss_cons (ps_if (pt_cmpR op_eq (pe_ix ix_tup (pv 0) pe_int (fun _ _ => rfl)) pe_str (nomark _)) (pss_one (ps_ret (pe_call G_place_on_straight (hr.mono (by decide)) rfl T.m_place_on_straight T.k_place_on_straight T.b_place_on_straight .nil pass0 (pa_cons (pv 0) (pa_cons (pv 1) pa_nil))))) pss_nil)
  (pss_cons (ps_if (pt_cmpR op_eq (pe_ix ix_tup (pv 0) pe_int (fun _ _ => rfl)) pe_str (nomark _)) (pss_one (ps_ret (pe_call G_place_on_turns (hr.mono (by decide)) rfl T.m_place_on_turns T.k_place_on_turns T.b_place_on_turns .nil pass0 (pa_cons (pv 0) (pa_cons (pv 1) pa_nil))))) pss_nil)
  (pss_cons (ps_if (pt_cmpR op_eq (pe_ix ix_tup (pv 0) pe_int (fun _ _ => rfl)) pe_str (nomark _)) (pss_one (ps_ret (pe_call G_place_on_broken (hr.mono (by decide)) rfl T.m_place_on_broken T.k_place_on_broken T.b_place_on_broken .nil pass0 (pa_cons (pv 0) (pa_cons (pv 1) pa_nil))))) pss_nil)
  (pss_cons (ps_if (pt_cmpR op_eq (pe_ix ix_tup (pv 0) pe_int (fun _ _ => rfl)) pe_str (nomark _)) (pss_one (ps_ret (pe_call G_place_on_days (hr.mono (by decide)) rfl T.m_place_on_days T.k_place_on_days T.b_place_on_days .nil pass0 (pa_cons (pv 0) (pa_cons (pv 1) pa_nil))))) pss_nil)
  (pss_one ps_never)))))), z_go (σ := [some _, some _]) rfl ?_⟩
    walk_at "run"
    refine z_iteD (fun _ => ?_) (fun z => absurd rfl z)
    walk_at "run"
    exact ⟨sc, pl, ph, pc, a, b, c, d, e, f, len, n1, n, rfl, S, rest⟩
  · obtain ⟨sc, pc, p, low, many, len, e, f, n, rfl, S, rest⟩ := h
    have k1 := S.s
    refine ⟨_, (pss_cons (ps_if (pt_cmpR op_isN' (pv 1) pe_non (nomark _)) (pss_one (ps_ret pe_str)) pss_nil)
  (pss_cons (ps_if (pt_cmpR op_eq (pe_ix ix_tup (pv 0) pe_int (fun _ _ => rfl)) pe_str (nomark _)) (pss_one (ps_ret (pe_call G_place_on_straight (hr.mono (by decide)) rfl T.m_place_on_straight T.k_place_on_straight T.b_place_on_straight .nil pass0 (pa_cons (pv 0) (pa_cons (pv 1) pa_nil))))) pss_nil)
  (pss_cons (ps_if (pt_cmpR op_eq (pe_ix ix_tup (pv 0) pe_int (fun _ _ => rfl)) pe_str (nomark _)) (pss_one (ps_ret (pe_call G_place_on_turns (hr.mono (by decide)) rfl T.m_place_on_turns T.k_place_on_turns T.b_place_on_turns .nil pass0 (pa_cons (pv 0) (pa_cons (pv 1) pa_nil))))) pss_nil)
  (pss_cons (ps_if (pt_cmpR op_eq (pe_ix ix_tup (pv 0) pe_int (fun _ _ => rfl)) pe_str (nomark _)) (pss_one (ps_ret (pe_call G_place_on_broken (hr.mono (by decide)) rfl T.m_place_on_broken T.k_place_on_broken T.b_place_on_broken .nil pass0 (pa_cons (pv 0) (pa_cons (pv 1) pa_nil))))) pss_nil)
  (pss_cons (ps_if (pt_cmpR op_eq (pe_ix ix_tup (pv 0) pe_int (fun _ _ => rfl)) pe_str (nomark _)) (pss_one (ps_ret (pe_call G_place_on_days (hr.mono (by decide)) rfl T.m_place_on_days T.k_place_on_days T.b_place_on_days .nil pass0 (pa_cons (pv 0) (pa_cons (pv 1) pa_nil))))) pss_nil)
  (pss_one ps_never)))))), z_go (σ := [some _, some _]) rfl ?_⟩
    walk_at "run"
    refine z_iteD (fun z => absurd z (by decide)) (fun _ => ?_)
    walk_at "run"
    refine z_iteD (fun _ => ?_) (fun z => absurd rfl z)
    walk_at "run"
    exact ⟨sc, pc, p, low, many, len, e, f, n, rfl, S, rest⟩
  · obtain ⟨sc, ps, pc, pcs, len, e, f, n1, n, rfl, S, rest⟩ := h
    have k1 := S.s
    refine ⟨_, (pss_cons (ps_if (pt_cmpR op_isN' (pv 1) pe_non (nomark _)) (pss_one (ps_ret pe_str)) pss_nil)
  (pss_cons (ps_if (pt_cmpR op_eq (pe_ix ix_tup (pv 0) pe_int (fun _ _ => rfl)) pe_str (nomark _)) (pss_one (ps_ret (pe_call G_place_on_straight (hr.mono (by decide)) rfl T.m_place_on_straight T.k_place_on_straight T.b_place_on_straight .nil pass0 (pa_cons (pv 0) (pa_cons (pv 1) pa_nil))))) pss_nil)
  (pss_cons (ps_if (pt_cmpR op_eq (pe_ix ix_tup (pv 0) pe_int (fun _ _ => rfl)) pe_str (nomark _)) (pss_one (ps_ret (pe_call G_place_on_turns (hr.mono (by decide)) rfl T.m_place_on_turns T.k_place_on_turns T.b_place_on_turns .nil pass0 (pa_cons (pv 0) (pa_cons (pv 1) pa_nil))))) pss_nil)
  (pss_cons (ps_if (pt_cmpR op_eq (pe_ix ix_tup (pv 0) pe_int (fun _ _ => rfl)) pe_str (nomark _)) (pss_one (ps_ret (pe_call G_place_on_broken (hr.mono (by decide)) rfl T.m_place_on_broken T.k_place_on_broken T.b_place_on_broken .nil pass0 (pa_cons (pv 0) (pa_cons (pv 1) pa_nil))))) pss_nil)
  (pss_cons (ps_if (pt_cmpR op_eq (pe_ix ix_tup (pv 0) pe_int (fun _ _ => rfl)) pe_str (nomark _)) (pss_one (ps_ret (pe_call G_place_on_days (hr.mono (by decide)) rfl T.m_place_on_days T.k_place_on_days T.b_place_on_days .nil pass0 (pa_cons (pv 0) (pa_cons (pv 1) pa_nil))))) pss_nil)
  (pss_one ps_never)))))), z_go (σ := [some _, some _]) rfl ?_⟩
    walk_at "run"
    refine z_iteD (fun z => absurd z (by decide)) (fun _ => ?_)
    walk_at "run"
    refine z_iteD (fun z => absurd z (by decide)) (fun _ => ?_)
    walk_at "run"
    refine z_iteD (fun _ => ?_) (fun z => absurd rfl z)
    walk_at "run"
    exact ⟨sc, ps, pc, pcs, len, e, f, n1, n, rfl, S, rest⟩
  · obtain ⟨sc, f, l, len, c, rfl, S, rest⟩ := h
    have k1 := S.s
    refine ⟨_, (pss_cons (ps_if (pt_cmpR op_isN' (pv 1) pe_non (nomark _)) (pss_one (ps_ret pe_str)) pss_nil)
  (pss_cons (ps_if (pt_cmpR op_eq (pe_ix ix_tup (pv 0) pe_int (fun _ _ => rfl)) pe_str (nomark _)) (pss_one (ps_ret (pe_call G_place_on_straight (hr.mono (by decide)) rfl T.m_place_on_straight T.k_place_on_straight T.b_place_on_straight .nil pass0 (pa_cons (pv 0) (pa_cons (pv 1) pa_nil))))) pss_nil)
  (pss_cons (ps_if (pt_cmpR op_eq (pe_ix ix_tup (pv 0) pe_int (fun _ _ => rfl)) pe_str (nomark _)) (pss_one (ps_ret (pe_call G_place_on_turns (hr.mono (by decide)) rfl T.m_place_on_turns T.k_place_on_turns T.b_place_on_turns .nil pass0 (pa_cons (pv 0) (pa_cons (pv 1) pa_nil))))) pss_nil)
  (pss_cons (ps_if (pt_cmpR op_eq (pe_ix ix_tup (pv 0) pe_int (fun _ _ => rfl)) pe_str (nomark _)) (pss_one (ps_ret (pe_call G_place_on_broken (hr.mono (by decide)) rfl T.m_place_on_broken T.k_place_on_broken T.b_place_on_broken .nil pass0 (pa_cons (pv 0) (pa_cons (pv 1) pa_nil))))) pss_nil)
  (pss_cons (ps_if (pt_cmpR op_eq (pe_ix ix_tup (pv 0) pe_int (fun _ _ => rfl)) pe_str (nomark _)) (pss_one (ps_ret (pe_call G_place_on_days (hr.mono (by decide)) rfl T.m_place_on_days T.k_place_on_days T.b_place_on_days .nil pass0 (pa_cons (pv 0) (pa_cons (pv 1) pa_nil))))) pss_nil)
  (pss_one ps_never)))))), z_go (σ := [some _, some _]) rfl ?_⟩
    walk_at "run"
    refine z_iteD (fun z => absurd z (by decide)) (fun _ => ?_)
    walk_at "run"
    refine z_iteD (fun z => absurd z (by decide)) (fun _ => ?_)
    walk_at "run"
    refine z_iteD (fun z => absurd z (by decide)) (fun _ => ?_)
    walk_at "run"
    refine z_iteD (fun _ => ?_) (fun z => absurd rfl z)
    walk_at "run"
    exact ⟨sc, f, l, len, c, rfl, S, rest⟩
def sp_rstraight (K : PySem.W.Frag) : Sp := fun vs H Q _ => ∃ (sc pl ph pp : Addr) (a b c d e f len : Int) (n1 n : Nat), vs = [.ref sc, .ref pp] ∧ StrS K H sc pl ph a b c d len n ∧ Pr K H pp e f n1 ∧ n1 + 3 * n + 140 ≤ 3900 ∧ NewQ K H Q (n1 + 3 * n + 140) (My.qv a b + My.qv e f / (len : Rat) * (My.qv c d - My.qv a b))
def sp_rdays (K : PySem.W.Frag) : Sp := fun vs H Q _ => ∃ (sc pp : Addr) (e f b l len : Int) (n1 : Nat), vs = [.ref sc, .ref pp] ∧ DayS K H sc b l len ∧ Pr K H pp e f n1 ∧ n1 + 340 ≤ 3900 ∧ NewQ K H Q (n1 + 340) ((b : Rat) + My.qv e f / (len : Rat) * ((l : Rat) - (b : Rat)))
def sp_readon (K : PySem.W.Frag) : Sp := fun vs H Q E => sp_rstraight K vs H Q E ∨ sp_rturns K vs H Q E ∨ sp_rbroken K vs H Q E ∨ sp_rdays K vs H Q E
theorem ok_read_on (T : Txt K mg t) : FnOk P w K mg base CX0 6 t.f_read_on t.d_read_on ["scale", "place"] (sp_readon K) := by
  have G_straight_back := ok_straight_back (P := P) (w := w) (base := base) T
  have G_read_on_turns := ok_read_on_turns (P := P) (w := w) (base := base) T
  have G_read_on_broken := ok_read_on_broken (P := P) (w := w) (base := base) T
  have G_number := ok_number (P := P) (w := w) (base := base) T
  obtain ⟨ds1, DV_number, BD_number⟩ := T.b_number1
  refine T.F_read_on.ok sc_read_on (fun vs H Q E h => ?_) (fun cdv A outer s H vs Q E hr h => ?_)
  · rcases h with ⟨sc, pl, ph, pp, a, b, c, d, e, f, len, n1, n, rfl, _⟩ | ⟨sc, pp, p, low, many, len, x, y, n, M, rfl, _⟩ | ⟨sc, ps, pp, pcs, len, e, g, n1, n, rfl, _⟩ | ⟨sc, pp, e, f, b, l, len, n1, rfl, _⟩ <;> rfl
  rcases h with h | h | h | h
  · obtain ⟨sc, pl, ph, pp, a, b, c, d, e, f, len, n1, n, rfl, S, P1, hn1, q⟩ := h
    have l1 := S.l1
    have l2 := S.l2
    have k1 := S.s
    have k2 := S.lo
    have k3 := S.hi
    have hn := S.hn
    refine ⟨_, (pss_cons (ps_if (pt_cmpR op_eq (pe_ix ix_tup (pv 0) pe_int (fun _ _ => rfl)) pe_str (nomark _)) (pss_one (ps_ret (pe_call G_straight_back (hr.mono (by decide)) rfl T.m_straight_back T.k_straight_back T.b_straight_back .nil pass0 (pa_cons (pv 1) (pa_cons (pe_ix ix_tup (pv 0) pe_int (fun _ _ => rfl)) (pa_cons (pe_ix ix_tup (pv 0) pe_int (fun _ _ => rfl)) (pa_cons pe_int (pa_cons (pe_ix ix_tup (pv 0) pe_int (fun _ _ => rfl)) pa_nil)))))))) pss_nil)
  (pss_cons (ps_if (pt_cmpR op_eq (pe_ix ix_tup (pv 0) pe_int (fun _ _ => rfl)) pe_str (nomark _)) (pss_one (ps_ret (pe_call G_read_on_turns (hr.mono (by decide)) rfl T.m_read_on_turns T.k_read_on_turns T.b_read_on_turns .nil pass0 (pa_cons (pv 0) (pa_cons (pv 1) pa_nil))))) pss_nil)
  (pss_cons (ps_if (pt_cmpR op_eq (pe_ix ix_tup (pv 0) pe_int (fun _ _ => rfl)) pe_str (nomark _)) (pss_one (ps_ret (pe_call G_read_on_broken (hr.mono (by decide)) rfl T.m_read_on_broken T.k_read_on_broken T.b_read_on_broken .nil pass0 (pa_cons (pv 0) (pa_cons (pv 1) pa_nil))))) pss_nil)
  (pss_cons (ps_if (pt_cmpR op_eq (pe_ix ix_tup (pv 0) pe_int (fun _ _ => rfl)) pe_str (nomark _)) (pss_one (ps_ret (pe_call G_straight_back (hr.mono (by decide)) rfl T.m_straight_back T.k_straight_back T.b_straight_back .nil pass0 (pa_cons (pv 1) (pa_cons (pe_call G_number (hr.mono (by decide)) rfl T.m_number T.k_number BD_number DV_number passE0 (pa_cons (pe_ix ix_tup (pv 0) pe_int (fun _ _ => rfl)) pa_nil)) (pa_cons (pe_call G_number (hr.mono (by decide)) rfl T.m_number T.k_number BD_number DV_number passE0 (pa_cons (pe_ix ix_tup (pv 0) pe_int (fun _ _ => rfl)) pa_nil)) (pa_cons pe_int (pa_cons (pe_ix ix_tup (pv 0) pe_int (fun _ _ => rfl)) pa_nil)))))))) pss_nil)
  (pss_one (ps_ret pe_non)))))), z_go (σ := [some _, some _]) rfl ?_⟩
    walk_at "run"
    refine z_iteD (fun _ => ?_) (fun z => absurd rfl z)
    walk_at "run"
    rename_i p1 H1 x1 y1 s1 R1 g1 v1
    refine q p1 H1 x1 y1 s1 R1 g1 (v1.trans ?_)
    rw [Int.sub_zero]
    grind
  · obtain ⟨sc, pp, p, low, many, len, x, y, n, M, rfl, S, rest⟩ := h
    have k1 := S.s
    refine ⟨_, (pss_cons (ps_if (pt_cmpR op_eq (pe_ix ix_tup (pv 0) pe_int (fun _ _ => rfl)) pe_str (nomark _)) (pss_one (ps_ret (pe_call G_straight_back (hr.mono (by decide)) rfl T.m_straight_back T.k_straight_back T.b_straight_back .nil pass0 (pa_cons (pv 1) (pa_cons (pe_ix ix_tup (pv 0) pe_int (fun _ _ => rfl)) (pa_cons (pe_ix ix_tup (pv 0) pe_int (fun _ _ => rfl)) (pa_cons pe_int (pa_cons (pe_ix ix_tup (pv 0) pe_int (fun _ _ => rfl)) pa_nil)))))))) pss_nil)
  (pss_cons (ps_if (pt_cmpR op_eq (pe_ix ix_tup (pv 0) pe_int (fun _ _ => rfl)) pe_str (nomark _)) (pss_one (ps_ret (pe_call G_read_on_turns (hr.mono (by decide)) rfl T.m_read_on_turns T.k_read_on_turns T.b_read_on_turns .nil pass0 (pa_cons (pv 0) (pa_cons (pv 1) pa_nil))))) pss_nil)
  (pss_cons (ps_if (pt_cmpR op_eq (pe_ix ix_tup (pv 0) pe_int (fun _ _ => rfl)) pe_str (nomark _)) (pss_one (ps_ret (pe_call G_read_on_broken (hr.mono (by decide)) rfl T.m_read_on_broken T.k_read_on_broken T.b_read_on_broken .nil pass0 (pa_cons (pv 0) (pa_cons (pv 1) pa_nil))))) pss_nil)
  (pss_cons (ps_if (pt_cmpR op_eq (pe_ix ix_tup (pv 0) pe_int (fun _ _ => rfl)) pe_str (nomark _)) (pss_one (ps_ret (pe_call G_straight_back (hr.mono (by decide)) rfl T.m_straight_back T.k_straight_back T.b_straight_back .nil pass0 (pa_cons (pv 1) (pa_cons (pe_call G_number (hr.mono (by decide)) rfl T.m_number T.k_number BD_number DV_number passE0 (pa_cons (pe_ix ix_tup (pv 0) pe_int (fun _ _ => rfl)) pa_nil)) (pa_cons (pe_call G_number (hr.mono (by decide)) rfl T.m_number T.k_number BD_number DV_number passE0 (pa_cons (pe_ix ix_tup (pv 0) pe_int (fun _ _ => rfl)) pa_nil)) (pa_cons pe_int (pa_cons (pe_ix ix_tup (pv 0) pe_int (fun _ _ => rfl)) pa_nil)))))))) pss_nil)
  (pss_one (ps_ret pe_non)))))), z_go (σ := [some _, some _]) rfl ?_⟩
    walk_at "run"
    refine z_iteD (fun z => absurd z (by decide)) (fun _ => ?_)
    walk_at "run"
    refine z_iteD (fun _ => ?_) (fun z => absurd rfl z)
    walk_at "run"
    exact ⟨sc, pp, p, low, many, len, x, y, n, M, rfl, S, rest⟩
  · obtain ⟨sc, ps, pp, pcs, len, e, g, n1, n, rfl, S, rest⟩ := h
    have k1 := S.s
    refine ⟨_, (pss_cons (ps_if (pt_cmpR op_eq (pe_ix ix_tup (pv 0) pe_int (fun _ _ => rfl)) pe_str (nomark _)) (pss_one (ps_ret (pe_call G_straight_back (hr.mono (by decide)) rfl T.m_straight_back T.k_straight_back T.b_straight_back .nil pass0 (pa_cons (pv 1) (pa_cons (pe_ix ix_tup (pv 0) pe_int (fun _ _ => rfl)) (pa_cons (pe_ix ix_tup (pv 0) pe_int (fun _ _ => rfl)) (pa_cons pe_int (pa_cons (pe_ix ix_tup (pv 0) pe_int (fun _ _ => rfl)) pa_nil)))))))) pss_nil)
  (pss_cons (ps_if (pt_cmpR op_eq (pe_ix ix_tup (pv 0) pe_int (fun _ _ => rfl)) pe_str (nomark _)) (pss_one (ps_ret (pe_call G_read_on_turns (hr.mono (by decide)) rfl T.m_read_on_turns T.k_read_on_turns T.b_read_on_turns .nil pass0 (pa_cons (pv 0) (pa_cons (pv 1) pa_nil))))) pss_nil)
  (pss_cons (ps_if (pt_cmpR op_eq (pe_ix ix_tup (pv 0) pe_int (fun _ _ => rfl)) pe_str (nomark _)) (pss_one (ps_ret (pe_call G_read_on_broken (hr.mono (by decide)) rfl T.m_read_on_broken T.k_read_on_broken T.b_read_on_broken .nil pass0 (pa_cons (pv 0) (pa_cons (pv 1) pa_nil))))) pss_nil)
  (pss_cons (ps_if (pt_cmpR op_eq (pe_ix ix_tup (pv 0) pe_int (fun _ _ => rfl)) pe_str (nomark _)) (pss_one (ps_ret (pe_call G_straight_back (hr.mono (by decide)) rfl T.m_straight_back T.k_straight_back T.b_straight_back .nil pass0 (pa_cons (pv 1) (pa_cons (pe_call G_number (hr.mono (by decide)) rfl T.m_number T.k_number BD_number DV_number passE0 (pa_cons (pe_ix ix_tup (pv 0) pe_int (fun _ _ => rfl)) pa_nil)) (pa_cons (pe_call G_number (hr.mono (by decide)) rfl T.m_number T.k_number BD_number DV_number passE0 (pa_cons (pe_ix ix_tup (pv 0) pe_int (fun _ _ => rfl)) pa_nil)) (pa_cons pe_int (pa_cons (pe_ix ix_tup (pv 0) pe_int (fun _ _ => rfl)) pa_nil)))))))) pss_nil)
  (pss_one (ps_ret pe_non)))))), z_go (σ := [some _, some _]) rfl ?_⟩
    walk_at "run"
    refine z_iteD (fun z => absurd z (by decide)) (fun _ => ?_)
    walk_at "run"
    refine z_iteD (fun z => absurd z (by decide)) (fun _ => ?_)
    walk_at "run"
    refine z_iteD (fun _ => ?_) (fun z => absurd rfl z)
    walk_at "run"
    exact ⟨sc, ps, pp, pcs, len, e, g, n1, n, rfl, S, rest⟩
  · obtain ⟨sc, pp, e, f, b, l, len, n1, rfl, S, P1, hn1, q⟩ := h
    have l1 := S.l1
    have l2 := S.l2
    have f0 := S.f0
    have lt := S.lt
    have l9 := S.l9
    have k1 := S.s
    refine ⟨_, (pss_cons (ps_if (pt_cmpR op_eq (pe_ix ix_tup (pv 0) pe_int (fun _ _ => rfl)) pe_str (nomark _)) (pss_one (ps_ret (pe_call G_straight_back (hr.mono (by decide)) rfl T.m_straight_back T.k_straight_back T.b_straight_back .nil pass0 (pa_cons (pv 1) (pa_cons (pe_ix ix_tup (pv 0) pe_int (fun _ _ => rfl)) (pa_cons (pe_ix ix_tup (pv 0) pe_int (fun _ _ => rfl)) (pa_cons pe_int (pa_cons (pe_ix ix_tup (pv 0) pe_int (fun _ _ => rfl)) pa_nil)))))))) pss_nil)
  (pss_cons (ps_if (pt_cmpR op_eq (pe_ix ix_tup (pv 0) pe_int (fun _ _ => rfl)) pe_str (nomark _)) (pss_one (ps_ret (pe_call G_read_on_turns (hr.mono (by decide)) rfl T.m_read_on_turns T.k_read_on_turns T.b_read_on_turns .nil pass0 (pa_cons (pv 0) (pa_cons (pv 1) pa_nil))))) pss_nil)
  (pss_cons (ps_if (pt_cmpR op_eq (pe_ix ix_tup (pv 0) pe_int (fun _ _ => rfl)) pe_str (nomark _)) (pss_one (ps_ret (pe_call G_read_on_broken (hr.mono (by decide)) rfl T.m_read_on_broken T.k_read_on_broken T.b_read_on_broken .nil pass0 (pa_cons (pv 0) (pa_cons (pv 1) pa_nil))))) pss_nil)
  (pss_cons (ps_if (pt_cmpR op_eq (pe_ix ix_tup (pv 0) pe_int (fun _ _ => rfl)) pe_str (nomark _)) (pss_one (ps_ret (pe_call G_straight_back (hr.mono (by decide)) rfl T.m_straight_back T.k_straight_back T.b_straight_back .nil pass0 (pa_cons (pv 1) (pa_cons (pe_call G_number (hr.mono (by decide)) rfl T.m_number T.k_number BD_number DV_number passE0 (pa_cons (pe_ix ix_tup (pv 0) pe_int (fun _ _ => rfl)) pa_nil)) (pa_cons (pe_call G_number (hr.mono (by decide)) rfl T.m_number T.k_number BD_number DV_number passE0 (pa_cons (pe_ix ix_tup (pv 0) pe_int (fun _ _ => rfl)) pa_nil)) (pa_cons pe_int (pa_cons (pe_ix ix_tup (pv 0) pe_int (fun _ _ => rfl)) pa_nil)))))))) pss_nil)
  (pss_one (ps_ret pe_non)))))), z_go (σ := [some _, some _]) rfl ?_⟩
    walk_at "run"
    refine z_iteD (fun z => absurd z (by decide)) (fun _ => ?_)
    walk_at "run"
    refine z_iteD (fun z => absurd z (by decide)) (fun _ => ?_)
    walk_at "run"
    refine z_iteD (fun z => absurd z (by decide)) (fun _ => ?_)
    walk_at "run"
    refine z_iteD (fun _ => ?_) (fun z => absurd rfl z)
    walk_at "run"
    rename_i p1 H1 x1 y1 s1 R1 g1 v1 p2 H2 x2 y2 s2 R2 g2 v2 p3 H3 x3 y3 s3 R3 g3 v3
    refine q p3 H3 x3 y3 (by walk_at "sm") (R3.up (by omega)) g3 (v3.trans ?_)
    rw [Int.sub_zero, v1, v2, My.qv_int, My.qv_int]
    grind
theorem inB_iff {e f a b c d : Int} : inB e f a b c d = true ↔ ¬ e * b < a * f ∧ ¬ c * f < e * d := by
  unfold inB
  simp only [Bool.and_eq_true, Bool.not_eq_true', decide_eq_false_iff_not]
theorem inn_iff {u v : Int} {y : Pc} : inn u v y = true ↔ ¬ u * 1 < y.f * v ∧ ¬ y.t * v < u * 1 := inB_iff
theorem inn_qv {u v : Int} {y : Pc} (hv : 0 < v) : inn u v y = true ↔ (y.f : Rat) ≤ My.qv u v ∧ My.qv u v ≤ (y.t : Rat) := by
  rw [inn_iff, ← My.qv_int y.f, ← My.qv_int y.t, My.le_qv (by decide) hv, My.le_qv hv (by decide)]
theorem win_qv {e f : Int} {y : Pc} (hf : 0 < f) (hb : 0 < y.b) (hd : 0 < y.d) : win e f y = true ↔ My.qv y.a y.b ≤ My.qv e f ∧ My.qv e f ≤ My.qv y.c y.d := by
  unfold win
  rw [inB_iff, My.le_qv hb hf, My.le_qv hf hd]
/-! any scale of numbers or days, as a relation -/
def Pc.q (x : Pc) : My.Pq := ⟨My.qv x.a x.b, My.qv x.c x.d, (x.f : Rat), (x.t : Rat)⟩
/-- pieces in order -/
structure GoodP (pcs : List Pc) (len : Int) : Prop where
  ft : ∀ x ∈ pcs, My.qv x.a x.b < My.qv x.c x.d ∧ x.f < x.t ∧ 0 ≤ x.f ∧ x.t ≤ len
  pw : ∀ (i j : Nat) (x y : Pc), pcs[i]? = some x → pcs[j]? = some y → i < j → My.qv x.c x.d < My.qv y.a y.b ∧ x.t < y.f
  z0 : ∀ x, pcs[0]? = some x → x.f = 0
  zl : ∀ x, pcs[pcs.length - 1]? = some x → x.t = len
theorem GoodP.two {pcs : List Pc} {len : Int} (h : GoodP pcs len) : ∀ x ∈ pcs.map Pc.q, ∀ y ∈ pcs.map Pc.q, x = y ∨ (x.C < y.A ∧ x.T < y.F) ∨ (y.C < x.A ∧ y.T < x.F) := by
  intro x hx y hy
  obtain ⟨i, hi, ei⟩ := List.getElem_of_mem hx
  obtain ⟨j, hj, ej⟩ := List.getElem_of_mem hy
  obtain ⟨u, hu, rfl⟩ := of_map_at (show (pcs.map Pc.q)[i]? = some x by rw [List.getElem?_eq_getElem hi, ei])
  obtain ⟨v, hv, rfl⟩ := of_map_at (show (pcs.map Pc.q)[j]? = some y by rw [List.getElem?_eq_getElem hj, ej])
  rcases Nat.lt_trichotomy i j with z | z | z
  · obtain ⟨a, b⟩ := h.pw i j u v hu hv z
    exact .inr (.inl ⟨a, Rat.intCast_lt_intCast.mpr b⟩)
  · subst z
    rw [hu] at hv
    cases hv
    exact .inl rfl
  · obtain ⟨a, b⟩ := h.pw j i v u hv hu z
    exact .inr (.inr ⟨a, Rat.intCast_lt_intCast.mpr b⟩)
theorem GoodP.sc {pcs : List Pc} {len : Int} (h : GoodP pcs len) : My.Sc (My.RBrk (pcs.map Pc.q)) (len : Rat) := by
  refine My.Sc.brk (fun x hx => ?_) h.two
  obtain ⟨u, hu, rfl⟩ := List.mem_map.mp hx
  obtain ⟨a, b, c, d⟩ := h.ft u hu
  exact ⟨a, Rat.intCast_lt_intCast.mpr b, Rat.intCast_le_intCast.mpr c, Rat.intCast_le_intCast.mpr d⟩
inductive AnyS (K : PySem.W.Frag) (H : Hp) (sc : Addr) : (Rat → Rat → Prop) → Int → Bool → Prop
  | str {pl ph : Addr} {a b c d len : Int} (S : StrS K H sc pl ph a b c d len 110) : AnyS K H sc (My.RStr (My.qv a b) (My.qv c d) (len : Rat)) len false
  | tur {p low many len : Int} (S : TurS K H sc p low many len) (h1 : -40 ≤ low) (h2 : low + many ≤ 40) : AnyS K H sc (My.RTur (p : Rat) low many (len : Rat)) len false
  | brk {ps : Addr} {pcs : List Pc} {len : Int} (S : BrkS K H sc ps pcs len 110) (h : GoodP pcs len) (h1 : 1 ≤ len) (h2 : len ≤ 4000) : AnyS K H sc (My.RBrk (pcs.map Pc.q)) len false
  | day {f l len : Int} (S : DayS K H sc f l len) : AnyS K H sc (My.RStr (f : Rat) (l : Rat) (len : Rat)) len true
theorem AnyS.keep {K : PySem.W.Frag} {H H' : Hp} {sc : Addr} {R : Rat → Rat → Prop} {len : Int} {dy : Bool} (h : AnyS K H sc R len dy) (e : Same H H') : AnyS K H' sc R len dy := by
  cases h with
  | str S => exact .str (S.keep e)
  | tur S h1 h2 => exact .tur (S.keep e) h1 h2
  | brk S h h1 h2 => exact .brk (S.keep e) h h1 h2
  | day S => exact .day (S.keep e)
theorem AnyS.len {K : PySem.W.Frag} {H : Hp} {sc : Addr} {R : Rat → Rat → Prop} {len : Int} {dy : Bool} (h : AnyS K H sc R len dy) : 1 ≤ len ∧ len ≤ 4000 := by
  cases h with
  | str S => exact ⟨S.l1, S.l2⟩
  | tur S h1 h2 => exact ⟨S.l1, S.l2⟩
  | brk S h h1 h2 => exact ⟨h1, h2⟩
  | day S => exact ⟨S.l1, S.l2⟩
theorem one_lt {p : Int} (h : 2 ≤ p) : (1 : Rat) < (p : Rat) := Rat.intCast_lt_intCast.mpr (show (1 : Int) < p by omega)
theorem AnyS.sc {K : PySem.W.Frag} {H : Hp} {sc : Addr} {R : Rat → Rat → Prop} {len : Int} {dy : Bool} (h : AnyS K H sc R len dy) : My.Sc R (len : Rat) := by
  have hl : (0 : Rat) < (len : Rat) := My.cast_pos (by have := h.len; omega)
  cases h with
  | str S => exact My.Sc.str ((My.lt_qv S.lo.pos S.hi.pos).mpr S.lt) hl
  | tur S h1 h2 => exact My.Sc.tur (one_lt S.p2) (by have := S.m1; omega) hl
  | brk S h h1 h2 => exact h.sc
  | day S => exact My.Sc.str (Rat.intCast_lt_intCast.mpr S.lt) hl
/-- the number of the power, in rationals -/
theorem below_qv {p e f E : Int} (p2 : 2 ≤ p) (hf : 0 < f) (h : Below p e f E) : (p : Rat) ^ E ≤ My.qv e f ∧ My.qv e f < (p : Rat) ^ (E + 1) := by
  have hp : (0 : Rat) < (p : Rat) := My.cast_pos (by omega)
  have hf' := My.cast_pos hf
  have pn : ∀ n : Nat, (p : Rat) ^ (n : Int) = ((p ^ n : Int) : Rat) := fun n => zp_nat p n
  unfold My.qv
  rcases Int.le_total 0 E with z | z
  · obtain ⟨a, b⟩ := h.1 z
    have e1 : E = ((E.toNat : Nat) : Int) := by omega
    rw [← Rat.not_lt, Rat.div_lt_iff hf', Rat.div_lt_iff hf', Rat.not_lt]
    constructor
    · rw [e1, pn, ← Rat.intCast_mul]
      exact Rat.intCast_le_intCast.mpr (by rw [Int.mul_comm]; exact a)
    · rw [show E + 1 = ((E.toNat + 1 : Nat) : Int) by omega, pn, ← Rat.intCast_mul]
      exact Rat.intCast_lt_intCast.mpr (by rw [Int.mul_comm]; exact b)
  · rcases Int.lt_or_le E 0 with z2 | z2
    · obtain ⟨a, b⟩ := h.2 z2
      have q1 := My.zp_pos hp (((-E).toNat : Nat) : Int)
      have q2 := My.zp_pos hp (((-E - 1).toNat : Nat) : Int)
      have e1 : (p : Rat) ^ E = 1 / (p : Rat) ^ (((-E).toNat : Nat) : Int) := by
        rw [show E = -(((-E).toNat : Nat) : Int) by omega, Rat.zpow_neg]
        rw [show (-(-(((-E).toNat : Nat) : Int))).toNat = (-E).toNat by omega]
        grind
      have e2 : (p : Rat) ^ (E + 1) = 1 / (p : Rat) ^ (((-E - 1).toNat : Nat) : Int) := by
        rw [show E + 1 = -(((-E - 1).toNat : Nat) : Int) by omega, Rat.zpow_neg]
        grind
      rw [e1, e2]
      constructor
      · rw [← Rat.not_lt, Rat.div_lt_iff hf', Rat.not_lt]
        rw [show 1 / (p : Rat) ^ (((-E).toNat : Nat) : Int) * (f : Rat) = (f : Rat) / (p : Rat) ^ (((-E).toNat : Nat) : Int) by grind]
        rw [← Rat.not_lt, Rat.lt_div_iff q1, Rat.not_lt, pn, ← Rat.intCast_mul]
        exact Rat.intCast_le_intCast.mpr a
      · rw [Rat.div_lt_iff hf', show 1 / (p : Rat) ^ (((-E - 1).toNat : Nat) : Int) * (f : Rat) = (f : Rat) / (p : Rat) ^ (((-E - 1).toNat : Nat) : Int) by grind]
        rw [Rat.lt_div_iff q2, pn, ← Rat.intCast_mul]
        exact Rat.intCast_lt_intCast.mpr b
    · have : E = 0 := by omega
      subst this
      obtain ⟨a, b⟩ := h.1 (by omega)
      rw [← Rat.not_lt, Rat.div_lt_iff hf', Rat.div_lt_iff hf', Rat.not_lt]
      constructor
      · rw [show (0 : Int) = ((0 : Nat) : Int) from rfl, pn, ← Rat.intCast_mul]
        exact Rat.intCast_le_intCast.mpr (by rw [Int.mul_comm]; exact a)
      · rw [show (0 : Int) + 1 = ((0 + 1 : Nat) : Int) from rfl, pn, ← Rat.intCast_mul]
        exact Rat.intCast_lt_intCast.mpr (by rw [Int.mul_comm]; exact b)
theorem part_eq {p E : Int} {v : Rat} : partOf p E v = (v - (p : Rat) ^ E) / ((p : Rat) ^ E * ((p : Rat) - 1)) := by
  unfold partOf
  rw [Rat.intCast_sub]
  rfl
section
variable {K : PySem.W.Frag} {H : Hp} {Q : VK} {E : XK} {sc pc pp : Addr} {R : Rat → Rat → Prop} {len e f : Int} {n1 : Nat}
theorem inB_qv {e f a b c d : Int} (hf : 0 < f) (hb : 0 < b) (hd : 0 < d) : inB e f a b c d = true ↔ My.qv a b ≤ My.qv e f ∧ My.qv e f ≤ My.qv c d := by
  rw [inB_iff, My.le_qv hb hf, My.le_qv hf hd]
theorem a_placeN (A : AnyS K H sc R len false) (P : Pr K H pc e f n1) (hn : n1 ≤ 200) (qs : ∀ (x : Str) (H' : Hp), Same H H' → (∀ r, ¬ R (My.qv e f) r) → Q (.str x) H')
    (qn : ∀ (p : Addr) (H' : Hp) (x y : Int), Same H H' → Pr K H' p x y 2100 → Int.gcd x y = 1 → R (My.qv e f) (My.qv x y) → Q (.ref p) H') : sp_placeon K [.ref sc, .ref pc] H Q E := by
  cases A with
  | @str pl ph a b c d len S =>
    have hi := inB_qv (e := e) (a := a) (c := c) P.pos S.lo.pos S.hi.pos
    refine .inr (.inl ⟨sc, pl, ph, pc, a, b, c, d, e, f, len, n1, 110, rfl, S, P, by omega, fun hb => ?_, fun hb p H' x y s R g v => ?_⟩)
    · refine qs _ _ (Same.refl _) (fun r ⟨z1, z2, _⟩ => ?_)
      rw [hi.mpr ⟨z1, z2⟩] at hb
      cases hb
    · obtain ⟨z1, z2⟩ := hi.mp hb
      exact qn p H' x y s (R.up (by omega)) g ⟨z1, z2, v⟩
  | @tur p low many len S h1 h2 =>
    have hp := one_lt S.p2
    have hp0 : (0 : Rat) < (p : Rat) := My.cast_pos (by have := S.p2; omega)
    refine .inr (.inr (.inl ⟨sc, pc, p, low, many, len, e, f, n1, rfl, S, P, by omega, fun he => ?_, fun he E0 hB _ _ => ?_⟩))
    · refine qs _ _ (Same.refl _) (fun r ⟨E1, z1, _⟩ => ?_)
      have w1 := My.zp_pos hp0 E1
      have w2 : My.qv e f ≤ My.qv 0 1 := (My.le_qv P.pos (by decide)).mpr (by omega)
      rw [My.qv_int] at w2
      have : ((0 : Int) : Rat) = 0 := rfl
      grind
    · obtain ⟨v1, v2⟩ := below_qv S.p2 P.pos hB
      have uniq : ∀ {E1 : Int}, (p : Rat) ^ E1 ≤ My.qv e f → My.qv e f < (p : Rat) ^ (E1 + 1) → E1 = E0 := fun a b => by
        have := My.zp_exp hp a v2
        have := My.zp_exp hp v1 b
        omega
      refine ⟨fun ho => ?_, fun hlo heq hpt H' s => ?_, fun hlo hhi hend p' H' x y s R g v => ?_⟩
      · refine qs _ _ (Same.refl _) (fun r ⟨E1, z1, z2, z3, z4, _⟩ => ?_)
        have := uniq z1 z2
        omega
      · refine qs _ _ s (fun r ⟨E1, z1, z2, z3, z4, z5, _⟩ => ?_)
        have := uniq z1 z2
        subst this
        apply hpt
        rw [part_eq, z5 heq]
        grind
      · refine qn p' H' x y s (R.up (by omega)) g ⟨E0, v1, v2, hlo, hhi, fun he => ?_, ?_⟩
        · have z := hend he
          rw [part_eq] at z
          have q1 := My.zp_pos hp0 E0
          have q2 : 0 < (p : Rat) ^ E0 * ((p : Rat) - 1) := Rat.mul_pos q1 (by grind)
          grind
        · rw [v, part_eq]
          rfl
  | @brk ps pcs len S h h1 h2 =>
    refine .inr (.inr (.inr (.inl ⟨sc, ps, pc, pcs, len, e, f, n1, 110, rfl, S, P, by omega, fun x hx p H' u v s R g w => ?_, fun hn' => ?_⟩)))
    · have hm := List.mem_of_find?_eq_some hx
      have ok := S.ok x hm
      obtain ⟨z1, z2⟩ := (win_qv P.pos ok.lo.pos ok.hi.pos).mp (List.find?_some hx)
      exact qn p H' u v s (R.up (by omega)) g ⟨x.q, List.mem_map.mpr ⟨x, hm, rfl⟩, z1, z2, by rw [w, Rat.intCast_sub]; rfl⟩
    · refine qs _ _ (Same.refl _) (fun r ⟨y, hy, z1, z2, _⟩ => ?_)
      obtain ⟨x, hx, rfl⟩ := List.mem_map.mp hy
      have ok := S.ok x hx
      have := List.find?_eq_none.mp hn' x hx
      exact this ((win_qv P.pos ok.lo.pos ok.hi.pos).mpr ⟨z1, z2⟩)
theorem a_placeD {c : Int} (A : AnyS K H sc R len true) (c0 : 0 ≤ c) (c9 : c ≤ 4000000) (qs : ∀ (x : Str) (H' : Hp), Same H H' → (∀ r, ¬ R (c : Rat) r) → Q (.str x) H')
    (qn : ∀ (p : Addr) (H' : Hp) (x y : Int), Same H H' → Pr K H' p x y 2100 → Int.gcd x y = 1 → R (c : Rat) (My.qv x y) → Q (.ref p) H') : sp_placeon K [.ref sc, .int c] H Q E := by
  cases A with
  | @day fd l len S =>
    have lt := S.lt
    refine .inr (.inr (.inr (.inr ⟨sc, fd, l, len, c, rfl, S, c0, c9, fun hb => ?_, fun h1 h2 p H' x y s R g v => ?_⟩)))
    · exact qs _ _ (Same.refl _) (fun r ⟨z1, z2, _⟩ => hb ⟨Rat.intCast_le_intCast.mp z1, Rat.intCast_le_intCast.mp z2⟩)
    · refine qn p H' x y s (R.up (by decide)) g ⟨Rat.intCast_le_intCast.mpr h1, Rat.intCast_le_intCast.mpr h2, ?_⟩
      rw [v]
      have hd : ((l : Rat) - (fd : Rat)) ≠ 0 := by rw [← Rat.intCast_sub]; exact My.cast_ne (by omega)
      unfold My.qv
      rw [Rat.intCast_mul, Rat.intCast_sub, Rat.intCast_sub]
      grind
end
section
variable {K : PySem.W.Frag} {H : Hp} {Q : VK} {E : XK} {sc pc pp : Addr} {R : Rat → Rat → Prop} {len x y : Int} {n1 : Nat} {dy : Bool}
theorem floor_qv {x y many len : Int} (hy : 0 < y) (hl : 0 < len) : ((x * many / (y * len) : Int) : Rat) ≤ My.qv x y * My.qv many len ∧ My.qv x y * My.qv many len < ((x * many / (y * len) : Int) : Rat) + 1 := by
  have d : 0 < y * len := Int.mul_pos hy hl
  have h1 := Int.mul_ediv_add_emod (x * many) (y * len)
  have h2 := Int.emod_nonneg (x * many) (Int.ne_of_gt d)
  have h3 := Int.emod_lt_of_pos (x * many) d
  generalize x * many / (y * len) = t at *
  rw [← My.qv_times (Int.ne_of_gt hy) (Int.ne_of_gt hl), ← My.qv_int t]
  have e : My.qv t 1 + 1 = My.qv (t + 1) 1 := by
    rw [My.qv_int, My.qv_int, Rat.intCast_add]
    rfl
  rw [e, My.le_qv (by decide) d, My.lt_qv d (by decide)]
  have w : t * (y * len) = y * len * t := Int.mul_comm _ _
  have w2 : (t + 1) * (y * len) = y * len * t + y * len := by rw [Int.add_mul, Int.one_mul, w]
  omega
theorem floor_is {t s : Int} {Z : Rat} (h1 : (t : Rat) ≤ Z) (h2 : Z < (t : Rat) + 1) (h3 : (s : Rat) ≤ Z) (h4 : Z < (s : Rat) + 1) : t = s := by
  have a : (t : Rat) < ((s + 1 : Int) : Rat) := by
    rw [Rat.intCast_add]
    have : ((1 : Int) : Rat) = 1 := rfl
    grind
  have b : (s : Rat) < ((t + 1 : Int) : Rat) := by
    rw [Rat.intCast_add]
    have : ((1 : Int) : Rat) = 1 := rfl
    grind
  have a' := Rat.intCast_lt_intCast.mp a
  have b' := Rat.intCast_lt_intCast.mp b
  omega
theorem GoodP.find {pcs : List Pc} (h : GoodP pcs len) (hy : 0 < y) {z : Pc} (hz : z ∈ pcs) (hi : inn x y z = true) : pcs.find? (inn x y) = some z := by
  obtain ⟨j, hj, ej⟩ := List.getElem_of_mem hz
  have hj' : pcs[j]? = some z := by rw [List.getElem?_eq_getElem hj, ej]
  refine find_here (i := j) (fun i w hi' hw => ?_) hj' hi
  have p := (h.pw i j w z hw hj' hi').2
  rw [Bool.eq_false_iff]
  intro k
  have z1 := ((inn_qv hy).mp k).2
  have z2 := ((inn_qv hy).mp hi).1
  have p' : (w.t : Rat) < (z.f : Rat) := Rat.intCast_lt_intCast.mpr p
  grind
theorem a_readN (A : AnyS K H sc R len dy) (P : Pr K H pp x y n1) (hn : n1 ≤ 3000) (hv : ∃ v, R v (My.qv x y))
    (q : ∀ (p : Addr) (H' : Hp) (e f : Int), Same H H' → Pr K H' p e f (n1 + 480) → Int.gcd e f = 1 → R (My.qv e f) (My.qv x y) → Q (.ref p) H') : sp_readon K [.ref sc, .ref pp] H Q E := by
  have hlen := A.len
  have hL : (0 : Rat) < (len : Rat) := My.cast_pos (by omega)
  have SC := A.sc
  obtain ⟨v, hv⟩ := hv
  have r0 := SC.lo hv
  have r1 := SC.hi hv
  cases A with
  | @str pl ph a b c d len S =>
    refine .inl ⟨sc, pl, ph, pp, a, b, c, d, x, y, len, n1, 110, rfl, S, P, by omega, fun p H' e f s R g w => ?_⟩
    have ev : My.qv e f = v := by
      obtain ⟨z1, z2, z3⟩ := hv
      have hs := span_ne S.lo.ne S.hi.ne S.lt
      rw [w, z3]
      grind
    exact q p H' e f s (R.up (by omega)) g (by rw [ev]; exact hv)
  | @tur p low many len S h1 h2 =>
    have hp := one_lt S.p2
    have m1 := S.m1
    have m2 := S.m2
    have hx0 : 0 ≤ x := by
      rw [show (0 : Rat) = My.qv 0 1 by rw [My.qv_int]; rfl, My.le_qv (by decide) P.pos] at r0
      omega
    have hx1 : x ≤ len * y := by
      rw [← My.qv_int len, My.le_qv P.pos (by decide)] at r1
      omega
    refine .inr (.inl ⟨sc, pp, p, low, many, len, x, y, n1, 40, rfl, S, P, by omega, by omega, by omega, hx0, hx1, fun p' H' e f s R g w => ?_⟩)
    have ev : My.qv e f = v := by
      obtain ⟨E0, z1, z2, z3, z4, z5, z6⟩ := hv
      obtain ⟨t0, t1⟩ := My.tur_part hp z1 z2
      obtain ⟨f0, f1⟩ := floor_qv (x := x) (many := many) P.pos (show 0 < len by omega)
      have hm : (many : Rat) ≠ 0 := My.cast_ne (by omega)
      have eZ : My.qv x y * My.qv many len = ((E0 - low : Int) : Rat) + (v - (p : Rat) ^ E0) / ((p : Rat) ^ E0 * ((p : Rat) - 1)) := by
        rw [z6]
        unfold My.qv
        grind
      have et : x * many / (y * len) = E0 - low := floor_is f0 f1 (by rw [eZ]; grind) (by rw [eZ]; grind)
      have hq := My.zp_pos (show (0 : Rat) < (p : Rat) by grind) E0
      rw [w, et, eZ, show low + (E0 - low) = E0 by omega, Rat.intCast_sub p]
      have : ((1 : Int) : Rat) = 1 := rfl
      rw [this]
      generalize (p : Rat) ^ E0 = B at *
      have hB : B ≠ 0 := by grind
      have hp1 : (p : Rat) - 1 ≠ 0 := by grind
      grind
    exact q p' H' e f s (R.up (by omega)) g (by rw [ev]; exact hv)
  | @brk ps pcs len S h h1 h2 =>
    have hv2 := hv
    obtain ⟨yq, hyq, z1, z2, z3⟩ := hv2
    obtain ⟨z, hz, rfl⟩ := List.mem_map.mp hyq
    obtain ⟨k1, k2, k3, k4⟩ := h.ft z hz
    have k2' : (z.f : Rat) < (z.t : Rat) := Rat.intCast_lt_intCast.mpr k2
    have z3' : My.qv x y = (z.f : Rat) + (v - My.qv z.a z.b) / (My.qv z.c z.d - My.qv z.a z.b) * ((z.t : Rat) - (z.f : Rat)) := z3
    have hin : inn x y z = true := (inn_qv P.pos).mpr (by rw [z3']; exact My.along_in k1 k2' z1 z2)
    have hfd := h.find P.pos hz hin
    refine .inr (.inr (.inl ⟨sc, ps, pp, pcs, len, x, y, n1, 110, rfl, S, P, by omega, fun z' hz' p H' e f s R g w => ?_, fun hn' => (by rw [hfd] at hn'; cases hn')⟩))
    rw [hfd] at hz'
    cases hz'
    have ev : My.qv e f = v := by
      rw [w, z3', Rat.intCast_sub]
      have a1 : My.qv z.c z.d - My.qv z.a z.b ≠ 0 := by grind
      have a2 : (z.t : Rat) - (z.f : Rat) ≠ 0 := by grind
      grind
    exact q p H' e f s (R.up (by omega)) g (by rw [ev]; exact hv)
  | @day fd l len S =>
    have lt := S.lt
    refine .inr (.inr (.inr ⟨sc, pp, x, y, fd, l, len, n1, rfl, S, P, by omega, fun p H' e f s R g w => ?_⟩))
    have ev : My.qv e f = v := by
      obtain ⟨z1, z2, z3⟩ := hv
      have hs : ((l : Rat) - (fd : Rat)) ≠ 0 := by rw [← Rat.intCast_sub]; exact My.cast_ne (by omega)
      rw [w, z3]
      grind
    exact q p H' e f s (R.up (by omega)) g (by rw [ev]; exact hv)
end
/-! the law's own -/
def sp_lowest (K : PySem.W.Frag) : Sp := fun vs H Q _ => ∃ (tp bt : Int) (n : Nat), vs = [.int tp, .int bt] ∧ 0 < bt ∧ My.Bd n tp ∧ My.Bd n bt ∧ n ≤ 3900 ∧ NewQ K H Q n (My.qv tp bt)
theorem lowest_ok {tp bt : Int} (hb : 0 < bt) : 0 < bt / ((Int.gcd tp bt : Nat) : Int) ∧ Int.gcd (tp / ((Int.gcd tp bt : Nat) : Int)) (bt / ((Int.gcd tp bt : Nat) : Int)) = 1 ∧ My.qv (tp / ((Int.gcd tp bt : Nat) : Int)) (bt / ((Int.gcd tp bt : Nat) : Int)) = My.qv tp bt := by
  have g0 := My.gcd_pos (a := tp) hb
  have M := My.made_of (t := tp) (m := bt) (by omega)
  have e : My.sg tp bt = ((Int.gcd tp bt : Nat) : Int) := if_neg (by omega)
  have e1 : tp.fdiv (My.sg tp bt) = tp / ((Int.gcd tp bt : Nat) : Int) := by rw [e]; exact Int.fdiv_eq_ediv_of_nonneg _ (by omega)
  have e2 : bt.fdiv (My.sg tp bt) = bt / ((Int.gcd tp bt : Nat) : Int) := by rw [e]; exact Int.fdiv_eq_ediv_of_nonneg _ (by omega)
  rw [e1, e2] at M
  exact ⟨M.pos, M.low, My.qv_eq (Int.ne_of_gt M.pos) (by omega) M.same⟩
theorem ok_l_lowest (T : Txt K mg t) : FnOk P w K mg base CX0 2 t.f_l_lowest t.d_l_lowest ["_law_top", "_law_bottom"] (sp_lowest K) := by
  have G_l_divisor := ok_l_divisor (P := P) (w := w) (base := base) T
  refine T.F_l_lowest.ok sc_l_lowest (fun vs H Q E h => ?_) (fun cdv A outer s H vs Q E hr h => ?_)
  · obtain ⟨tp, bt, n, rfl, _⟩ := h
    rfl
  obtain ⟨tp, bt, n, rfl, hb, h1, h2, hn, q⟩ := h
  have g0 := My.gcd_pos (a := tp) hb
  have g1 : Mid ((Int.gcd tp bt : Nat) : Int) := (My.Bd.of_le h2 (Int.le_of_lt g0) (My.gcd_le hb)).mono (by omega)
  obtain ⟨r1, r2, r3⟩ := lowest_ok (tp := tp) hb
  refine ⟨_, (pss_cons (ps_set (i := 2) sc_l_lowest.nd rfl (Or.inl rfl) (pe_call G_l_divisor (hr.mono (by decide)) rfl T.m_l_divisor T.k_l_divisor T.b_l_divisor .nil pass0 (pa_cons (pv 0) (pa_cons (pv 1) pa_nil))))
  (pss_one (ps_ret (pe_tup (pa_cons (pe_op op_fdivB (pv 0) (pv 2)) (pa_cons (pe_op op_fdivB (pv 1) (pv 2)) pa_nil)))))), ?_⟩
  refine ⟨_, rfl, _, rfl, _, _, rfl, Int.le_of_lt hb, ?_⟩
  refine ⟨_, rfl, _, rfl, _, _, rfl, rfl, ⟨g0, g1⟩, _, rfl, _, rfl, _, _, rfl, rfl, ⟨g0, g1⟩, (by show 2 ≤ sizeLine; decide), fun p hp => ?_⟩
  exact q p _ _ _ (Same.new hp _) ⟨SqT.of upd_same, r1, h1.div g0, h2.div g0⟩ r2 r3
def sp_isnum (K : PySem.W.Frag) : Sp := fun vs H Q _ => ∃ (p : Addr) (a b : Int) (n : Nat), vs = [.ref p] ∧ Pr K H p a b n ∧ Int.gcd a b = 1 ∧ Q (.bl true) H
theorem ok_l_is_number (T : Txt K mg t) : FnOk P w K mg base CX0 2 t.f_l_is_number t.d_l_is_number ["_law_thing"] (sp_isnum K) := by
  have G_l_divisor := ok_l_divisor (P := P) (w := w) (base := base) T
  refine T.F_l_is_number.ok sc_l_is_number (fun vs H Q E h => ?_) (fun cdv A outer s H vs Q E hr h => ?_)
  · obtain ⟨p, a, b, n, rfl, _⟩ := h
    rfl
  obtain ⟨p, a, b, n, rfl, R, low, q⟩ := h
  have pos := R.pos
  refine ⟨_, (pss_cons (ps_if (PW.pt (pw_or (pt_not (pt_val (pe_isi isi_tuple rfl rfl T.z_isinstance T.z_tuple bt_tuple (pv 0)))) (pw_or1 (pt_cmpR op_ne (pe_callB call_len_seq rfl T.z_len PySem.boot_len (pa_cons (pv 0) pa_nil)) pe_int (nomark _))))) (pss_one (ps_ret pe_bl)) pss_nil)
  (pss_cons (ps_for PassesOwn.never rfl (pi_tup (pv 0)) (pg_name (i := 1) sc_l_is_number.nd rfl (Or.inl rfl)) (pss_one (ps_if (PW.pt (pw_or (pt_not (pt_val (pe_isi isi_int rfl rfl T.z_isinstance T.z_int bt_int (pv 1)))) (pw_or1 (pt_val (pe_isi isi_bool rfl rfl T.z_isinstance T.z_bool bt_bool (pv 1)))))) (pss_one (ps_ret pe_bl)) pss_nil)))
  (pss_one (ps_ret (pe_and (pe_cmpR op_gt (pe_ix ix_tup (pv 0) pe_int (fun _ _ => rfl)) pe_int (nomark _)) (pe_one (pe_cmpR op_eq (pe_call G_l_divisor (hr.mono (by decide)) rfl T.m_l_divisor T.k_l_divisor T.b_l_divisor .nil pass0 (pa_cons (pe_ix ix_tup (pv 0) pe_int (fun _ _ => rfl)) (pa_cons (pe_ix ix_tup (pv 0) pe_int (fun _ _ => rfl)) pa_nil))) pe_int (nomark _)))))))), ?_⟩
  refine ⟨_, rfl, _, .tup, rfl, ⟨_, R.s⟩, _, rfl, ?_⟩
  refine iteF ?_
  refine ⟨_, rfl, p, _, rfl, .inr R.s, rfl, _, rfl, ?_⟩
  refine iteNS rfl ?_
  refine ⟨_, rfl, p, rfl, ⟨_, R.s⟩, for_tup (xs := [.int a, .int b]) (fun i σ H2 => ∃ x, σ = [some (.ref p), x] ∧ H2 = H) ⟨none, rfl, rfl⟩ (fun i σ H2 _ ⟨_, _, e⟩ => by subst e; exact R.s) ?_ ?_⟩
  · rintro i z σ H2 hi ⟨x, rfl, rfl⟩
    obtain ⟨n, rfl⟩ : ∃ n : Int, z = .int n := by
      match i, hi with
      | 0, hi => exact ⟨a, (Option.some.inj hi).symm⟩
      | 1, hi => exact ⟨b, (Option.some.inj hi).symm⟩
      | _ + 2, hi => cases hi
    refine ⟨_, rfl, _, .int, rfl, True.intro, _, rfl, ?_⟩
    refine iteF ?_
    refine ⟨_, rfl, _, .int, rfl, True.intro, _, rfl, ?_⟩
    refine iteF ?_
    exact ⟨_, rfl, rfl⟩
  · rintro σ H2 ⟨x, rfl, rfl⟩
    refine ⟨_, rfl, _, _, _, _, rfl, rfl, R.s, at1 _ _, _, _, rfl, rfl, _, rfl, ?_⟩
    refine iteDT (by omega) ?_
    refine ⟨_, rfl, _, _, _, _, rfl, rfl, R.s, at0 _ _, _, rfl, _, _, _, _, rfl, rfl, R.s, at1 _ _, _, _, rfl, Int.le_of_lt pos, rfl, ?_⟩
    show Q (V.bl (decide (V.int ((Int.gcd a b : Nat) : Int) = V.int 1))) H2
    rw [low]
    exact q
section
variable {K : PySem.W.Frag} {H : Hp} {Q : VK} {E : XK} {p : Addr} {a b tp bt : Int} {n n1 n2 : Nat}
theorem a_lowest (h0 : 0 < bt) (h1 : My.Bd n1 tp) (h2 : My.Bd n2 bt) (h3 : max n1 n2 ≤ 3900) (q : ∀ p H' x y, Same H H' → Pr K H' p x y (max n1 n2) → Int.gcd x y = 1 → My.qv x y = My.qv tp bt → Q (.ref p) H') : sp_lowest K [.int tp, .int bt] H Q E :=
  ⟨tp, bt, max n1 n2, rfl, h0, h1.mono (by omega), h2.mono (by omega), h3, q⟩
theorem a_isnum (h1 : Pr K H p a b n) (h2 : Int.gcd a b = 1) (q : Q (.bl true) H) : sp_isnum K [.ref p] H Q E := ⟨p, a, b, n, rfl, h1, h2, q⟩
end
local macro_rules | `(tactic| walk_at "sp") => `(tactic| ((with_reducible apply a_lowest); (focus (first | decide | omega | assumption)); (focus (walk_at "bd")); (focus (walk_at "bd")); (focus (first | decide | omega)); (intro p H' x y s R g e)))
local macro_rules | `(tactic| walk_at "sp") => `(tactic| ((with_reducible apply a_isnum); (focus (walk_at "pr")); (focus (assumption))))
/-! numbers of a script: as many bits as a script has -/
structure Huge (x : Int) : Prop where
  b : My.Bd 3000000 x
theorem Huge.of {n : Nat} {x : Int} (h : My.Bd n x) (hn : n ≤ 3000000) : Huge x := ⟨h.mono hn⟩
def sp_mixed : Sp := fun vs H Q _ => ∃ c : Int, vs = [.int c] ∧ Huge c ∧ ∀ r : Int, r = (if decide (10 ^ (18 : Int).toNat ≤ c) = true then c else (c % 2147483647 * 48271 + 11) % 2147483647) → Huge r → Q (.int r) H
theorem ok_l_mixed (T : Txt K mg t) : FnOk P w K mg base CX0 1 t.f_l_mixed t.d_l_mixed ["_law_cell_here"] sp_mixed := by
  refine T.F_l_mixed.ok sc_l_mixed (fun vs H Q E h => ?_) (fun cdv A outer s H vs Q E hr h => ?_)
  · obtain ⟨y, rfl, _⟩ := h
    rfl
  obtain ⟨c, rfl, hc, q⟩ := h
  refine ⟨_, (pss_cons (ps_if (pt_cmpR op_ge (pv 0) (pe_op op_pow pe_int pe_int) (nomark _)) (pss_one (ps_ret (pv 0))) pss_nil)
  (pss_one (ps_ret (pe_op op_mod (pe_op op_add (pe_op op_mul (pe_op op_mod (pv 0) pe_int) pe_int) pe_int) pe_int)))), z_go (σ := [some _]) rfl ?_⟩
  walk_at "run"
  refine z_iteD (fun h1 => ?_) (fun h1 => ?_)
  · walk_at "run"
    refine q _ ?_ hc
    rw [decide_eq_true h1, if_pos rfl]
  · walk_at "run"
    refine q _ ?_ (.of (bd_60 (by omega) (by omega)) (by decide))
    rw [decide_eq_false h1, if_neg Bool.false_ne_true]
def sp_lpower : Sp := fun vs H Q _ => ∃ p k : Int, vs = [.int p, .int k] ∧ 2 ≤ p ∧ p ≤ 10 ∧ -1900 ≤ k ∧ k ≤ 900 ∧ Q (.int (p ^ k.toNat)) H
theorem a_lpower {H : Hp} {Q : VK} {E : XK} {p k : Int} (h1 : 2 ≤ p) (h2 : p ≤ 10) (h3 : -1900 ≤ k) (h4 : k ≤ 900) (q : Q (.int (p ^ k.toNat)) H) : sp_lpower [.int p, .int k] H Q E := ⟨p, k, rfl, h1, h2, h3, h4, q⟩
theorem ok_l_power (T : Txt K mg t) : FnOk P w K mg base CX0 1 t.f_l_power t.d_l_power ["_law_base", "_law_many"] sp_lpower := by
  refine T.F_l_power.ok sc_l_power (fun vs H Q E h => ?_) (fun cdv A outer s H vs Q E hr h => ?_)
  · obtain ⟨p, k, rfl, _⟩ := h
    rfl
  obtain ⟨p, k, rfl, p2, p10, k0, k1, q⟩ := h
  have mb : Mid p := midB (by omega) (by omega)
  refine ⟨_, (pss_cons (ps_set (i := 2) sc_l_power.nd rfl (Or.inl rfl) pe_int)
  (pss_cons (ps_for PassesOwn.never rfl (pi_range1 rfl T.z_range (pa_cons (pv 1) pa_nil)) (pg_name (i := 3) sc_l_power.nd rfl (Or.inl rfl)) (pss_one (ps_set (i := 2) sc_l_power.nd rfl (Or.inl rfl) (pe_op op_mulB (pv 2) (pv 0)))))
  (pss_one (ps_ret (pv 2))))), z_go (σ := [some _, some _, none, none]) rfl ?_⟩
  walk_at "run"
  refine f_range (fun i σ H2 => (∃ u, σ = [some (.int p), some (.int k), some (.int (p ^ i)), u]) ∧ H2 = H) ⟨⟨none, by rw [Int.pow_zero]⟩, rfl⟩ ?_ ?_
  · rintro i σ H2 hi ⟨⟨u, rfl⟩, rfl⟩
    have mp : Mid (p ^ i) := (pow_bd p2 p10 i).2.mono (by omega)
    walk_at "run"
    exact ⟨⟨_, by rw [Int.pow_succ]⟩, rfl⟩
  · rintro σ H2 ⟨⟨u, rfl⟩, rfl⟩
    walk_at "run"
    exact q
theorem p29 : (10 : Int) ^ (29 : Int).toNat = 100000000000000000000000000000 := by decide
theorem p24 : (10 : Int) ^ (24 : Int).toNat = 1000000000000000000000000 := by decide
/-- ends that rise -/
structure Ends8 (es : List Int) : Prop where
  l4 : 4 ≤ es.length
  l8 : es.length ≤ 8
  ev : es.length % 2 = 0
  up : es.Pairwise (· < ·)
  bd : ∀ x ∈ es, My.Bd 104 x
theorem bd104 {x : Int} (h1 : -1700000000000000000000000000000 ≤ x) (h2 : x ≤ 1700000000000000000000000000000) : My.Bd 104 x := by unfold My.Bd; omega
theorem last_up {es : List Int} {z r : Int} (hup : es.Pairwise (· < ·)) (hz : es[es.length - 1]? = some z) (hr : 1 ≤ r) : (es ++ [z + r]).Pairwise (· < ·) := by
  refine List.pairwise_append.mpr ⟨hup, by simp, fun x hx y hy => ?_⟩
  rw [List.mem_singleton.mp hy]
  obtain ⟨j, hj, ej⟩ := List.getElem_of_mem hx
  have hl := lt_of_at hz
  have ez' : es[es.length - 1]'hl = z := by
    rw [List.getElem?_eq_getElem hl] at hz
    exact Option.some.inj hz
  rcases Nat.lt_or_ge j (es.length - 1) with hlt | hge
  · have := List.pairwise_iff_getElem.mp hup j (es.length - 1) hj hl hlt
    omega
  · have : j = es.length - 1 := by omega
    subst this
    omega
def sp_lends (K : PySem.W.Frag) : Sp := fun vs H Q _ => ∃ (a : Addr) (ns : List Int) (m : Int), vs = [.ref a, .int m] ∧ SqL K H a (ns.map V.int) ∧ 3 ≤ m ∧ m ≤ 7 ∧ m % 2 = 1 ∧ ∀ (p : Addr) (H' : Hp) (es : List Int), Same H H' → SqL K H' p (es.map V.int) → Ends8 es → Q (.ref p) H'
theorem ok_l_ends (T : Txt K mg t) : FnOk P w K mg base CX0 2 t.f_l_ends t.d_l_ends ["_law_script", "_law_many"] (sp_lends K) := by
  have G_l_cell_at := ok_l_cell_at (P := P) (w := w) (base := base) T
  refine T.F_l_ends.ok sc_l_ends (fun vs H Q E h => ?_) (fun cdv A outer s H vs Q E hr h => ?_)
  · obtain ⟨a, ns, m, rfl, _⟩ := h
    rfl
  obtain ⟨a, ns, m, rfl, hS, m3, m7, m2, q⟩ := h
  refine ⟨_, (pss_cons (ps_set (i := 2) sc_l_ends.nd rfl (Or.inl rfl) (pe_op op_mod (pe_op op_fdivB (pe_call G_l_cell_at (hr.mono (by decide)) rfl T.m_l_cell_at T.k_l_cell_at T.b_l_cell_at .nil pass0 (pa_cons (pv 0) (pa_cons pe_int pa_nil))) pe_int) (pe_op op_pow pe_int pe_int)))
  (pss_cons (ps_if (pt_cmpR op_eq (pe_op op_mod (pe_call G_l_cell_at (hr.mono (by decide)) rfl T.m_l_cell_at T.k_l_cell_at T.b_l_cell_at .nil pass0 (pa_cons (pv 0) (pa_cons pe_int pa_nil))) pe_int) pe_int (nomark _)) (pss_one (ps_set (i := 2) sc_l_ends.nd rfl (Or.inl rfl) (pe_op op_sub pe_int (pv 2)))) pss_nil)
  (pss_cons (ps_set (i := 3) sc_l_ends.nd rfl (Or.inl rfl) (pe_lst (pa_cons (pv 2) pa_nil)))
  (pss_cons (ps_for PassesOwn.never rfl (pi_range1 rfl T.z_range (pa_cons (pv 1) pa_nil)) (pg_name (i := 4) sc_l_ends.nd rfl (Or.inl rfl)) (pss_cons (ps_set (i := 5) sc_l_ends.nd rfl (Or.inl rfl) (pe_call G_l_cell_at (hr.mono (by decide)) rfl T.m_l_cell_at T.k_l_cell_at T.b_l_cell_at .nil pass0 (pa_cons (pv 0) (pa_cons (pe_op op_add pe_int (pv 4)) pa_nil))))
  (pss_cons (ps_set (i := 6) sc_l_ends.nd rfl (Or.inl rfl) (pe_op op_add pe_int (pe_op op_mod (pv 5) pe_int)))
  (pss_cons (ps_if (pt_cmpR op_ge (pv 5) (pe_op op_pow pe_int pe_int) (nomark _)) (pss_one (ps_set (i := 6) sc_l_ends.nd rfl (Or.inl rfl) (pe_op op_add pe_int (pe_op op_mod (pv 5) (pe_op op_pow pe_int pe_int))))) pss_nil)
  (pss_one (ps_expr (pe_bm PySem.F.plainAttrs_list PySem.F.slot_list_append PySem.F.type_list_append mt_append (pv 3) (pa_cons (pe_op op_add (pe_ix ix_list (pv 3) (pe_un un_neg pe_int) (fun _ _ => rfl)) (pv 6)) pa_nil))))))))
  (pss_one (ps_ret (pv 3))))))), z_go (σ := [some _, some _, none, none, none, none, none]) rfl ?_⟩
  walk_at "run"
  generalize hT : (if decide (cellAt ns 1 % 2 = 1) = true then 0 - cellAt ns 1 / 2 % 10 ^ (24 : Int).toNat else cellAt ns 1 / 2 % 10 ^ (24 : Int).toNat) = top at *
  have t1 : -1000000000000000000000000 ≤ top ∧ top ≤ 1000000000000000000000000 := by
    rw [← hT, p24]
    split <;> omega
  refine z_mkl (Nat.le_of_ble_eq_true rfl) (fun p H1 hp s1 hl => ?_)
  walk_at "run"
  refine f_range (fun i σ H2 => ∃ (es : List Int) (u v x : Option V), σ = [some (.ref a), some (.int m), some (.int top), some (.ref p), u, v, x] ∧ Same H H2 ∧ H2 p = some (.lst (es.map V.int)) ∧ es.length = i + 1 ∧ es.Pairwise (· < ·) ∧ ∀ x ∈ es, -1000000000000000000000000 ≤ x ∧ x ≤ 1000000000000000000000000 + i * 100000000000000000000000000000)
    ⟨[top], none, none, none, rfl, s1, hl, rfl, by simp, fun x hx => by rw [List.mem_singleton.mp hx]; omega⟩ ?_ ?_
  · rintro i σ H2 hi ⟨es, u, v, x, rfl, s2, hl2, hlen, hup, hb⟩
    obtain ⟨z, z1, z2, z3⟩ := list_last (xs := es) (fun e => by rw [e] at hlen; simp at hlen)
    have az : atI (es.map V.int) (-1) = some (.int z) := atI_last (by rw [List.length_map]; exact map_at z2)
    have hz := hb z z3
    have hlq : SqL K H2 p (es.map V.int) := SqL.of hl2
    have hS2 := s2.seq hS
    walk_at "run"
    generalize cellAt ns (2 + (0 + (i : Nat))) = cc at *
    generalize hR : (if decide (10 ^ (18 : Int).toNat ≤ cc) = true then 1 + cc % 10 ^ (29 : Int).toNat else 1 + cc % 60) = r at *
    have r1 : 1 ≤ r ∧ r ≤ 100000000000000000000000000000 := by
      rw [← hR, p29]
      split <;> omega
    refine z_tyL hlq ?_
    walk_at "run"
    refine z_ixL hlq az ?_
    walk_at "run"
    refine z_append hl2 (by rw [List.length_map, hlen]; exact Nat.lt_of_lt_of_le (show i + 1 < 100 by omega) (by decide)) (fun H3 b3 hl3 => ?_)
    refine ⟨es ++ [z + r], _, _, _, rfl, s2.but hp b3, by rw [hl3, List.map_append]; rfl, by rw [List.length_append, hlen]; rfl, last_up hup z2 r1.1, ?_⟩
    intro x hx
    rcases List.mem_append.mp hx with h | h
    · have := hb x h
      omega
    · rw [List.mem_singleton.mp h]
      omega
  · rintro σ H2 ⟨es, u, v, x, rfl, s2, hl2, hlen, hup, hb⟩
    walk_at "run"
    refine q p H2 es s2 (SqL.of hl2) ⟨by omega, by omega, by omega, hup, fun x hx => ?_⟩
    have := hb x hx
    exact bd104 (by omega) (by omega)
/-! the law's pieces, place by place -/
def D1 (cc : Int) (j : Nat) : Int := (cc + (0 + (j : Nat) * 2)) * (cc + 7919 * (0 + (j : Nat) * 2)) % 2147483629 % 500
def D2 (cc : Int) (j : Nat) : Int := (cc + (0 + (j : Nat) * 2)) * (cc + 104729 * (0 + (j : Nat) * 2)) % 2147483587 % 500
def bgs (cc : Int) : Nat → Int
  | 0 => 0
  | j + 1 => bgs cc j + 1 + D1 cc j + 1 + D2 cc j
theorem D1_in (cc : Int) (j : Nat) : 0 ≤ D1 cc j ∧ D1 cc j < 500 := by unfold D1; omega
theorem D2_in (cc : Int) (j : Nat) : 0 ≤ D2 cc j ∧ D2 cc j < 500 := by unfold D2; omega
theorem bgs_in (cc : Int) : ∀ j : Nat, 0 ≤ bgs cc j ∧ bgs cc j ≤ 1000 * j
  | 0 => ⟨by unfold bgs; omega, by unfold bgs; omega⟩
  | j + 1 => by
    have h := bgs_in cc j
    have := D1_in cc j
    have := D2_in cc j
    unfold bgs
    omega
theorem bgs_up (cc : Int) {i j : Nat} (h : i < j) : bgs cc i + 1 + D1 cc i < bgs cc j := by
  induction j with
  | zero => omega
  | succ j ih =>
    have := D1_in cc j
    have := D2_in cc j
    rcases Nat.lt_or_ge i j with z | z
    · have := ih z
      have : bgs cc (j + 1) = bgs cc j + 1 + D1 cc j + 1 + D2 cc j := rfl
      omega
    · have : i = j := by omega
      subst this
      have : bgs cc (i + 1) = bgs cc i + 1 + D1 cc i + 1 + D2 cc i := rfl
      omega
structure PcAt (es : List Int) (bt cc : Int) (j : Nat) (x : Pc) : Prop where
  uv : ∃ u v, es[2 * j]? = some u ∧ es[2 * j + 1]? = some v ∧ My.qv x.a x.b = My.qv u bt ∧ My.qv x.c x.d = My.qv v bt
  g1 : Int.gcd x.a x.b = 1
  g2 : Int.gcd x.c x.d = 1
  f : x.f = bgs cc j
  t : x.t = bgs cc j + 1 + D1 cc j
structure Made (K : PySem.W.Frag) (H : Hp) (es : List Int) (bt cc : Int) (pcs : List Pc) : Prop where
  ok : ∀ x ∈ pcs, PcOk K H 110 x
  at_ : ∀ j x, pcs[j]? = some x → PcAt es bt cc j x
theorem Made.keep {K : PySem.W.Frag} {H H' : Hp} {es : List Int} {bt cc : Int} {pcs : List Pc} (h : Made K H es bt cc pcs) (e : Same H H') : Made K H' es bt cc pcs := ⟨fun x hx => (h.ok x hx).keep e, h.at_⟩
theorem rng2 {n : Nat} (h : n % 2 = 0) : rngN 0 (n : Int) 2 = n / 2 := by
  unfold rngN Builtin.Range.rangeSize
  rw [if_pos (by decide)]
  split <;> omega
theorem qv_lt {a b c d bt : Int} {u v : Int} (hb : 0 < b) (hd : 0 < d) (ht : 0 < bt) (h1 : My.qv a b = My.qv u bt) (h2 : My.qv c d = My.qv v bt) (h : u < v) : a * d < c * b := by
  rw [← My.lt_qv hb hd, h1, h2, My.lt_qv ht ht]
  exact Int.mul_lt_mul_of_pos_right h ht
theorem pair_at {es : List Int} (h : es.Pairwise (· < ·)) {i j : Nat} {u v : Int} (hi : es[i]? = some u) (hj : es[j]? = some v) (hij : i < j) : u < v := by
  have li := lt_of_at hi
  have lj := lt_of_at hj
  rw [List.getElem?_eq_getElem li] at hi
  rw [List.getElem?_eq_getElem lj] at hj
  have := List.pairwise_iff_getElem.mp h i j li lj hij
  rw [Option.some.inj hi, Option.some.inj hj] at this
  exact this
def sp_lpieces (K : PySem.W.Frag) : Sp := fun vs H Q _ => ∃ (p : Addr) (es : List Int) (bt cc : Int), vs = [.ref p, .int bt, .int cc] ∧ SqL K H p (es.map V.int) ∧ Ends8 es ∧ 0 < bt ∧ bt ≤ 100000 ∧ Huge cc ∧
  ∀ (r : Addr) (H' : Hp) (pcs : List Pc), Same H H' → SqL K H' r (pcs.map fun x => V.ref x.ad) → 2 * pcs.length = es.length → Made K H' es bt cc pcs → Q (.ref r) H'
theorem ok_l_pieces (T : Txt K mg t) : FnOk P w K mg base CX0 3 t.f_l_pieces t.d_l_pieces ["_law_ends_here", "_law_bottom", "_law_cell_here"] (sp_lpieces K) := by
  have G_l_lowest := ok_l_lowest (P := P) (w := w) (base := base) T
  refine T.F_l_pieces.ok sc_l_pieces (fun vs H Q E h => ?_) (fun cdv A outer s H vs Q E hr h => ?_)
  · obtain ⟨p, es, bt, cc, rfl, _⟩ := h
    rfl
  obtain ⟨p, es, bt, cc, rfl, hE, h8, b0, b1, hcc, q⟩ := h
  have e4 := h8.l4
  have e8 := h8.l8
  have ev := h8.ev
  have elen : (es.map V.int).length = es.length := List.length_map _
  refine ⟨_, (pss_cons (ps_set (i := 3) sc_l_pieces.nd rfl (Or.inl rfl) (pe_lst pa_nil))
  (pss_cons (ps_set (i := 4) sc_l_pieces.nd rfl (Or.inl rfl) pe_int)
  (pss_cons (ps_for PassesOwn.never rfl (pi_range3 rfl T.z_range (pa_cons pe_int (pa_cons (pe_callB call_len_seq rfl T.z_len PySem.boot_len (pa_cons (pv 0) pa_nil)) (pa_cons pe_int pa_nil)))) (pg_name (i := 5) sc_l_pieces.nd rfl (Or.inl rfl)) (pss_cons (ps_set (i := 6) sc_l_pieces.nd rfl (Or.inl rfl) (pe_op op_add (pe_op op_add (pv 4) pe_int) (pe_op op_mod (pe_op op_mod (pe_op op_mulH (pe_op op_add (pv 2) (pv 5)) (pe_op op_add (pv 2) (pe_op op_mulH pe_int (pv 5)))) pe_int) pe_int)))
  (pss_cons (ps_expr (pe_bm PySem.F.plainAttrs_list PySem.F.slot_list_append PySem.F.type_list_append mt_append (pv 3) (pa_cons (pe_tup (pa_cons (pe_call G_l_lowest (hr.mono (by decide)) rfl T.m_l_lowest T.k_l_lowest T.b_l_lowest .nil pass0 (pa_cons (pe_ix ix_list (pv 0) (pv 5) (fun _ _ => rfl)) (pa_cons (pv 1) pa_nil))) (pa_cons (pe_call G_l_lowest (hr.mono (by decide)) rfl T.m_l_lowest T.k_l_lowest T.b_l_lowest .nil pass0 (pa_cons (pe_ix ix_list (pv 0) (pe_op op_add (pv 5) pe_int) (fun _ _ => rfl)) (pa_cons (pv 1) pa_nil))) (pa_cons (pv 4) (pa_cons (pv 6) pa_nil))))) pa_nil)))
  (pss_one (ps_set (i := 4) sc_l_pieces.nd rfl (Or.inl rfl) (pe_op op_add (pe_op op_add (pv 6) pe_int) (pe_op op_mod (pe_op op_mod (pe_op op_mulH (pe_op op_add (pv 2) (pv 5)) (pe_op op_add (pv 2) (pe_op op_mulH pe_int (pv 5)))) pe_int) pe_int)))))))
  (pss_one (ps_ret (pv 3)))))), z_go (σ := [some _, some _, some _, none, none, none, none]) rfl ?_⟩
  walk_at "run"
  refine z_mkl (Nat.le_of_ble_eq_true rfl) (fun l H1 hp s1 hl => ?_)
  walk_at "run"
  refine z_iR3b (by decide) (by decide) (small3 (by decide) (by decide) (by omega) (by omega) (by decide) (by decide)) ?_
  rw [elen, rng2 ev]
  refine f_range3 (fun i σ H2 => ∃ (pcs : List Pc) (u5 u6 : Option V), σ = [some (.ref p), some (.int bt), some (.int cc), some (.ref l), some (.int (bgs cc i)), u5, u6] ∧ Same H H2 ∧ H2 l = some (.lst (pcs.map fun x => V.ref x.ad)) ∧ pcs.length = i ∧ Made K H2 es bt cc pcs)
    ⟨[], none, none, rfl, s1, hl, rfl, ⟨fun x hx => absurd hx List.not_mem_nil, fun j x hx => by simp at hx⟩⟩ ?_ ?_
  · rintro i σ H2 hi ⟨pcs, u5, u6, rfl, s2, hl2, hlen, hM⟩
    have hE2 := s2.seq hE
    obtain ⟨u, hu⟩ : ∃ u, es[2 * i]? = some u := ⟨_, List.getElem?_eq_getElem (by omega)⟩
    obtain ⟨v, hv⟩ : ∃ v, es[2 * i + 1]? = some v := ⟨_, List.getElem?_eq_getElem (by omega)⟩
    have bu := h8.bd u (List.mem_of_getElem? hu)
    have bv := h8.bd v (List.mem_of_getElem? hv)
    have bb : My.Bd 60 bt := bd_60 (by omega) (by omega)
    have bgi := bgs_in cc i
    have d1 := D1_in cc i
    have d2 := D2_in cc i
    have au : atI (es.map V.int) (0 + (i : Nat) * 2) = some (.int u) := by
      rw [show (0 : Int) + (i : Nat) * 2 = ((2 * i : Nat) : Int) by omega]
      exact atI_nat (map_at hu)
    have av : atI (es.map V.int) (0 + (i : Nat) * 2 + 1) = some (.int v) := by
      rw [show (0 : Int) + (i : Nat) * 2 + 1 = ((2 * i + 1 : Nat) : Int) by omega]
      exact atI_nat (map_at hv)
    have c0 : My.Bd 60 (0 + (i : Nat) * 2) := bd_60 (by omega) (by omega)
    have k1 : My.Bd 60 (7919 * (0 + (i : Nat) * 2)) := bd_60 (by omega) (by omega)
    have k2 : My.Bd 60 (104729 * (0 + (i : Nat) * 2)) := bd_60 (by omega) (by omega)
    have m0 : My.Bd 50000000 (cc + (0 + (i : Nat) * 2)) := (hcc.b.add (c0.mono (by decide))).mono (by decide)
    have m1 : My.Bd 50000000 (cc + 7919 * (0 + (i : Nat) * 2)) := (hcc.b.add (k1.mono (by decide))).mono (by decide)
    have m2 : My.Bd 50000000 (cc + 104729 * (0 + (i : Nat) * 2)) := (hcc.b.add (k2.mono (by decide))).mono (by decide)
    have q7 : My.Bd 50000000 7919 := (bd_60 (by decide) (by decide)).mono (by decide)
    have q8 : My.Bd 50000000 104729 := (bd_60 (by decide) (by decide)).mono (by decide)
    have q9 : My.Bd 50000000 (0 + (i : Nat) * 2) := c0.mono (by decide)
    walk_at "run"
    have hlq : SqL K H2 l (pcs.map fun x => V.ref x.ad) := SqL.of hl2
    refine z_tyL hlq ?_
    walk_at "run"
    refine z_ixL hE2 au ?_
    walk_at "run"
    rename_i p1 H3 x1 y1 s3 R1 g1 v1
    refine z_ixL (s3.seq hE2) av ?_
    walk_at "run"
    rename_i p2 H4 x2 y2 s4 R2 g2 v2 p3 H5 n5 s5 h5
    have hl5 := s5 _ _ (s4 _ _ (s3 _ _ hl2))
    refine z_append hl5 (by rw [List.length_map, hlen]; exact Nat.lt_of_lt_of_le (show i < 100 by omega) (by decide)) (fun H6 b6 hl6 => ?_)
    walk_at "run"
    have sA : Same H H5 := s2.trans (s3.trans (s4.trans s5))
    have M5 : Made K H5 es bt cc pcs := hM.keep (s3.trans (s4.trans s5))
    have R1' : Pr K H5 p1 x1 y1 110 := ((R1.keep s4).keep s5).up (by decide)
    have R2' : Pr K H5 p2 x2 y2 110 := (R2.keep s5).up (by decide)
    have okn : PcOk K H5 110 ⟨p3, p1, p2, x1, y1, x2, y2, bgs cc i, bgs cc i + 1 + D1 cc i⟩ := ⟨SqT.of h5, R1', R2', qv_lt R1.pos R2.pos b0 v1 v2 (pair_at h8.up hu hv (by omega)), bgi.1, by show bgs cc i < bgs cc i + 1 + D1 cc i; omega, by show bgs cc i + 1 + D1 cc i ≤ 4000; omega⟩
    have pk : ∀ {x : Pc}, PcOk K H5 110 x → PcOk K H6 110 x := fun h => ⟨b6.tup hl5 h.s, ⟨b6.tup hl5 h.lo.s, h.lo.pos, h.lo.ba, h.lo.bb⟩, ⟨b6.tup hl5 h.hi.s, h.hi.pos, h.hi.ba, h.hi.bb⟩, h.lt, h.f0, h.ft, h.t9⟩
    refine ⟨pcs ++ [⟨p3, p1, p2, x1, y1, x2, y2, bgs cc i, bgs cc i + 1 + D1 cc i⟩], _, _, rfl, sA.but hp b6, by rw [hl6, List.map_append]; rfl, by rw [List.length_append, hlen]; rfl, ⟨?_, ?_⟩⟩
    · intro x hx
      rcases List.mem_append.mp hx with h | h
      · exact pk (M5.ok x h)
      · rw [List.mem_singleton.mp h]; exact pk okn
    · intro j x hx
      rw [List.getElem?_append] at hx
      split at hx
      · exact M5.at_ j x hx
      · have hj : j - pcs.length = 0 := by
          rcases Nat.eq_zero_or_pos (j - pcs.length) with z | z
          · exact z
          · rw [List.getElem?_eq_none (by show 1 ≤ _; omega)] at hx; cases hx
        rw [hj] at hx
        have hx' : (⟨p3, p1, p2, x1, y1, x2, y2, bgs cc i, bgs cc i + 1 + D1 cc i⟩ : Pc) = x := by simpa using hx
        subst hx'
        have : j = i := by omega
        subst this
        exact ⟨⟨u, v, hu, hv, v1, v2⟩, g1, g2, rfl, rfl⟩
  · rintro σ H2 ⟨pcs, u5, u6, rfl, s2, hl2, hlen, hM⟩
    walk_at "run"
    exact q l H2 pcs s2 (SqL.of hl2) (by omega) hM
/-- they are pieces in order -/
theorem Made.good {K : PySem.W.Frag} {H : Hp} {es : List Int} {bt cc : Int} {pcs : List Pc} (h : Made K H es bt cc pcs) (h8 : Ends8 es) (b0 : 0 < bt) {z : Pc} (hz : pcs[pcs.length - 1]? = some z) : GoodP pcs z.t := by
  have pw : ∀ (i j : Nat) (x y : Pc), pcs[i]? = some x → pcs[j]? = some y → i < j → My.qv x.c x.d < My.qv y.a y.b ∧ x.t < y.f := by
    intro i j x y hi hj hij
    obtain ⟨⟨_, v, _, hv, _, ev⟩, _, _, _, et⟩ := h.at_ i x hi
    obtain ⟨⟨u, _, hu, _, eu, _⟩, _, _, ef, _⟩ := h.at_ j y hj
    refine ⟨?_, by rw [et, ef]; exact bgs_up cc hij⟩
    rw [ev, eu, My.lt_qv b0 b0]
    exact Int.mul_lt_mul_of_pos_right (pair_at h8.up hv hu (by omega)) b0
  refine ⟨fun x hx => ?_, pw, fun x hx => (h.at_ 0 x hx).f, fun x hx => by rw [hz] at hx; cases hx; rfl⟩
  have ok := h.ok x hx
  refine ⟨(My.lt_qv ok.lo.pos ok.hi.pos).mpr ok.lt, ok.ft, ok.f0, ?_⟩
  obtain ⟨j, hj, ej⟩ := List.getElem_of_mem hx
  have hj' : pcs[j]? = some x := by rw [List.getElem?_eq_getElem hj, ej]
  rcases Nat.lt_or_ge j (pcs.length - 1) with c | c
  · have := (pw j _ x z hj' hz c).2
    have oz := h.ok z (List.mem_of_getElem? hz)
    have := oz.ft
    omega
  · have : j = pcs.length - 1 := by omega
    subst this
    rw [hz] at hj'
    cases hj'
    exact Int.le_refl _
/-! the scale that the law makes -/
/-- what the scale is, to the sign -/
inductive IsScale (K : PySem.W.Frag) (H : Hp) (sc : Addr) (es : List Int) (bt : Int) : Int → Int → Int → Int → Prop
  | str {c0 cc n1 n2 : Int} {pl ph : Addr} {a b c d : Int} {u v : Int} (hk : c0 % 4 = 0) (S : StrS K H sc pl ph a b c d (1 + cc % 4000) 110) (hu : es[0]? = some u) (hv : es[1]? = some v) (e1 : My.qv a b = My.qv u bt) (e2 : My.qv c d = My.qv v bt) (g1 : Int.gcd a b = 1) (g2 : Int.gcd c d = 1) : IsScale K H sc es bt c0 cc n1 n2
  | tur {c0 cc n1 n2 : Int} {p : Int} (hk : c0 % 4 = 1) (S : TurS K H sc p (cc / 8000 % 31 - 15) (1 + cc / 248000 % 25) (1 + cc % 4000)) (hp : atI ([.int 2, .int 10] : List V) (cc / 4000 % 2) = some (.int p)) : IsScale K H sc es bt c0 cc n1 n2
  | brk {c0 cc n1 n2 : Int} {ps : Addr} {pcs : List Pc} {z : Pc} (hk : c0 % 4 = 2) (S : BrkS K H sc ps pcs z.t 110) (M : Made K H es bt cc pcs) (hl : 2 * pcs.length = es.length) (hz : pcs[pcs.length - 1]? = some z) : IsScale K H sc es bt c0 cc n1 n2
  | day {c0 cc n1 n2 : Int} (hk : c0 % 4 = 3) (S : DayS K H sc (n1 % 3652058) (n1 % 3652058 + 1 + n2 % (3652058 - n1 % 3652058)) (1 + cc % 4000)) : IsScale K H sc es bt c0 cc n1 n2
theorem IsScale.keep {K : PySem.W.Frag} {H H' : Hp} {sc : Addr} {es : List Int} {bt c0 cc n1 n2 : Int} (h : IsScale K H sc es bt c0 cc n1 n2) (e : Same H H') : IsScale K H' sc es bt c0 cc n1 n2 := by
  cases h with
  | str hk S hu hv e1 e2 g1 g2 => exact .str hk (S.keep e) hu hv e1 e2 g1 g2
  | tur hk S hp => exact .tur hk (S.keep e) hp
  | brk hk S M hl hz => exact .brk hk (S.keep e) (M.keep e) hl hz
  | day hk S => exact .day hk (S.keep e)
theorem IsScale.any {K : PySem.W.Frag} {H : Hp} {sc : Addr} {es : List Int} {bt c0 cc n1 n2 : Int} (h : IsScale K H sc es bt c0 cc n1 n2) (h8 : Ends8 es) (b0 : 0 < bt) : ∃ (R : Rat → Rat → Prop) (len : Int) (dy : Bool), AnyS K H sc R len dy ∧ (dy = true ↔ c0 % 4 = 3) := by
  cases h with
  | str hk S hu hv e1 e2 g1 g2 => exact ⟨_, _, _, .str S, by simp; omega⟩
  | tur hk S hp => exact ⟨_, _, _, .tur S (by omega) (by omega), by simp; omega⟩
  | @brk ps pcs z hk S M hl hz =>
    have oz := M.ok z (List.mem_of_getElem? hz)
    have w1 := oz.f0
    have w2 := oz.ft
    exact ⟨_, _, _, .brk S (M.good h8 b0 hz) (by omega) oz.t9, by simp; omega⟩
  | day hk S => exact ⟨_, _, _, .day S, by simp; omega⟩
def sp_lscale (K : PySem.W.Frag) : Sp := fun vs H Q _ => ∃ (a p : Addr) (ns es : List Int) (bt : Int), vs = [.ref a, .ref p, .int bt] ∧ SqL K H a (ns.map V.int) ∧ SqL K H p (es.map V.int) ∧ Ends8 es ∧ 0 < bt ∧ bt ≤ 100000 ∧ Huge (cellAt ns 0) ∧
  ∀ (sc : Addr) (H' : Hp), Same H H' → IsScale K H' sc es bt (cellAt ns 0) ((if decide (10 ^ (18 : Int).toNat ≤ cellAt ns 0) = true then cellAt ns 0 else (cellAt ns 0 % 2147483647 * 48271 + 11) % 2147483647) / 4) (cellAt ns 1) (cellAt ns 2) → Q (.ref sc) H'
theorem ok_l_scale (T : Txt K mg t) : FnOk P w K mg base CX0 4 t.f_l_scale t.d_l_scale ["_law_script", "_law_ends_here", "_law_bottom"] (sp_lscale K) := by
  have G_l_cell_at := ok_l_cell_at (P := P) (w := w) (base := base) T
  have G_l_mixed := ok_l_mixed (P := P) (w := w) (base := base) T
  have G_l_pieces := ok_l_pieces (P := P) (w := w) (base := base) T
  have G_l_lowest := ok_l_lowest (P := P) (w := w) (base := base) T
  refine T.F_l_scale.ok sc_l_scale (fun vs H Q E h => ?_) (fun cdv A outer s H vs Q E hr h => ?_)
  · obtain ⟨a, p, ns, es, bt, rfl, _⟩ := h
    rfl
  obtain ⟨a, p, ns, es, bt, rfl, hS, hE, h8, b0, b1, hh, q⟩ := h
  have e4 := h8.l4
  have e8 := h8.l8
  refine ⟨_, (pss_cons (ps_set (i := 3) sc_l_scale.nd rfl (Or.inl rfl) (pe_op op_mod (pe_call G_l_cell_at (hr.mono (by decide)) rfl T.m_l_cell_at T.k_l_cell_at T.b_l_cell_at .nil pass0 (pa_cons (pv 0) (pa_cons pe_int pa_nil))) pe_int))
  (pss_cons (ps_set (i := 4) sc_l_scale.nd rfl (Or.inl rfl) (pe_op op_fdivB (pe_call G_l_mixed (hr.mono (by decide)) rfl T.m_l_mixed T.k_l_mixed T.b_l_mixed .nil pass0 (pa_cons (pe_call G_l_cell_at (hr.mono (by decide)) rfl T.m_l_cell_at T.k_l_cell_at T.b_l_cell_at .nil pass0 (pa_cons (pv 0) (pa_cons pe_int pa_nil))) pa_nil)) pe_int))
  (pss_cons (ps_if (pt_cmpR op_eq (pv 3) pe_int (nomark _)) (pss_cons (ps_set (i := 5) sc_l_scale.nd rfl (Or.inl rfl) (pe_ix ix_list (pe_lst (pa_cons pe_int (pa_cons pe_int pa_nil))) (pe_op op_mod (pe_op op_fdivB (pv 4) pe_int) pe_int) (fun _ _ => rfl)))
  (pss_one (ps_ret (pe_tup (pa_cons pe_str (pa_cons (pv 5) (pa_cons (pe_op op_sub (pe_op op_mod (pe_op op_fdivB (pv 4) pe_int) pe_int) pe_int) (pa_cons (pe_op op_add pe_int (pe_op op_mod (pe_op op_fdivB (pv 4) pe_int) pe_int)) (pa_cons (pe_op op_add pe_int (pe_op op_mod (pv 4) pe_int)) pa_nil))))))))) pss_nil)
  (pss_cons (ps_if (pt_cmpR op_eq (pv 3) pe_int (nomark _)) (pss_cons (ps_set (i := 6) sc_l_scale.nd rfl (Or.inl rfl) (pe_call G_l_pieces (hr.mono (by decide)) rfl T.m_l_pieces T.k_l_pieces T.b_l_pieces .nil pass0 (pa_cons (pv 1) (pa_cons (pv 2) (pa_cons (pv 4) pa_nil)))))
  (pss_one (ps_ret (pe_tup (pa_cons pe_str (pa_cons (pv 6) (pa_cons (pe_ix ix_tup (pe_ix ix_list (pv 6) (pe_un un_neg pe_int) (fun _ _ => rfl)) pe_int (fun _ _ => rfl)) pa_nil))))))) pss_nil)
  (pss_cons (ps_if (pt_cmpR op_eq (pv 3) pe_int (nomark _)) (pss_cons (ps_set (i := 7) sc_l_scale.nd rfl (Or.inl rfl) (pe_op op_mod (pe_call G_l_cell_at (hr.mono (by decide)) rfl T.m_l_cell_at T.k_l_cell_at T.b_l_cell_at .nil pass0 (pa_cons (pv 0) (pa_cons pe_int pa_nil))) pe_int))
  (pss_cons (ps_set (i := 8) sc_l_scale.nd rfl (Or.inl rfl) (pe_op op_add (pe_op op_add (pv 7) pe_int) (pe_op op_mod (pe_call G_l_cell_at (hr.mono (by decide)) rfl T.m_l_cell_at T.k_l_cell_at T.b_l_cell_at .nil pass0 (pa_cons (pv 0) (pa_cons pe_int pa_nil))) (pe_op op_sub pe_int (pv 7)))))
  (pss_one (ps_ret (pe_tup (pa_cons pe_str (pa_cons (pv 7) (pa_cons (pv 8) (pa_cons (pe_op op_add pe_int (pe_op op_mod (pv 4) pe_int)) pa_nil))))))))) pss_nil)
  (pss_one (ps_ret (pe_tup (pa_cons pe_str (pa_cons (pe_call G_l_lowest (hr.mono (by decide)) rfl T.m_l_lowest T.k_l_lowest T.b_l_lowest .nil pass0 (pa_cons (pe_ix ix_list (pv 1) pe_int (fun _ _ => rfl)) (pa_cons (pv 2) pa_nil))) (pa_cons (pe_call G_l_lowest (hr.mono (by decide)) rfl T.m_l_lowest T.k_l_lowest T.b_l_lowest .nil pass0 (pa_cons (pe_ix ix_list (pv 1) pe_int (fun _ _ => rfl)) (pa_cons (pv 2) pa_nil))) (pa_cons (pe_op op_add pe_int (pe_op op_mod (pv 4) pe_int)) pa_nil)))))))))))), z_go (σ := [some _, some _, some _, none, none, none, none, none, none]) rfl ?_⟩
  walk_at "run"
  refine ⟨_, rfl, hh, fun r er hr' => ?_⟩
  rw [← er] at q
  walk_at "run"
  have hcc : Huge (r / 4) := ⟨hr'.b.div (by decide)⟩
  generalize r / 4 = cc at *
  refine z_iteD (fun h1 => ?_) (fun h1 => ?_)
  · obtain ⟨pb, ep, p2, p10⟩ : ∃ p : Int, atI ([.int 2, .int 10] : List V) (cc / 4000 % 2) = some (.int p) ∧ 2 ≤ p ∧ p ≤ 10 := by
      rcases (by omega : cc / 4000 % 2 = 0 ∨ cc / 4000 % 2 = 1) with h | h <;> rw [h]
      · exact ⟨2, rfl, by decide, by decide⟩
      · exact ⟨10, rfl, by decide, by decide⟩
    walk_at "run"
    refine z_mkl (Nat.le_of_ble_eq_true rfl) (fun l H1 _ s1 hl => ?_)
    walk_at "run"
    refine z_ixL (SqL.of hl) ep ?_
    walk_at "run"
    rename_i sc H2 n2 s2 e2
    exact q sc H2 (s1.trans s2) (.tur h1 ⟨SqT.of e2, p2, p10, by omega, by omega, by omega, by omega, by omega, by omega⟩ ep)
  walk_at "run"
  refine z_iteD (fun h2 => ?_) (fun h2 => ?_)
  · walk_at "run"
    refine ⟨p, es, bt, cc, rfl, hE, h8, b0, b1, hcc, fun ps H1 pcs s1 hL hlen hM => ?_⟩
    have hne : pcs ≠ [] := fun z => by rw [z] at hlen; simp at hlen; omega
    obtain ⟨z, z1, z2, z3⟩ := list_last hne
    have oz := hM.ok z z3
    have a1 : atI (pcs.map fun x => V.ref x.ad) (-1) = some (.ref z.ad) := atI_last (by rw [List.length_map]; exact map_at z2)
    have k1 := oz.s
    walk_at "run"
    refine z_ixL hL a1 ?_
    walk_at "run"
    rename_i sc H2 n2 s2 e2
    exact q sc H2 (s1.trans s2) (.brk h2 ⟨SqT.of e2, s2.seq hL, fun x hx => (hM.ok x hx).keep s2, hne, by decide⟩ (hM.keep s2) hlen z2)
  walk_at "run"
  refine z_iteD (fun h3 => ?_) (fun h3 => ?_)
  · have r0 : 0 ≤ cellAt ns 1 % 3652058 := by omega
    have r1 : cellAt ns 1 % 3652058 < 3652058 := by omega
    walk_at "run"
    have r2 := Int.emod_nonneg (cellAt ns 2) (show 3652058 - cellAt ns 1 % 3652058 ≠ 0 by omega)
    have r3 := Int.emod_lt_of_pos (cellAt ns 2) (show 0 < 3652058 - cellAt ns 1 % 3652058 by omega)
    rename_i sc H2 n2 s2 e2
    exact q sc H2 s2 (.day h3 ⟨SqT.of e2, by omega, by omega, by omega, by omega, by omega⟩)
  · obtain ⟨u, hu⟩ : ∃ u, es[0]? = some u := ⟨_, List.getElem?_eq_getElem (by omega)⟩
    obtain ⟨v, hv⟩ : ∃ v, es[1]? = some v := ⟨_, List.getElem?_eq_getElem (by omega)⟩
    have bu := h8.bd u (List.mem_of_getElem? hu)
    have bv := h8.bd v (List.mem_of_getElem? hv)
    have bb : My.Bd 60 bt := bd_60 (by omega) (by omega)
    have au : atI (es.map V.int) 0 = some (.int u) := atI_first (map_at hu)
    have av : atI (es.map V.int) 1 = some (.int v) := atI_nat (j := 1) (map_at hv)
    walk_at "run"
    refine z_ixL hE au ?_
    walk_at "run"
    rename_i p1 H1 x1 y1 s1 R1 g1 v1
    refine z_ixL (s1.seq hE) av ?_
    walk_at "run"
    rename_i p2 H2 x2 y2 s2 R2 g2 v2 sc H3 n3 s3 e3
    exact q sc H3 (s1.trans (s2.trans s3)) (.str (by omega) ⟨SqT.of e3, ((R1.keep s2).keep s3).up (by decide), (R2.keep s3).up (by decide), by decide, by omega, by omega, qv_lt R1.pos R2.pos b0 v1 v2 (pair_at h8.up hu hv (by decide))⟩ hu hv v1 v2 g1 g2)
/-- what the law's cells are: numbers, of days (day, 1) -/
def NewC (K : PySem.W.Frag) (H : Hp) (Q : VK) (dy : Bool) : Prop := ∀ (p : Addr) (H' : Hp) (x y : Int), Same H H' → Pr K H' p x y 200 → Int.gcd x y = 1 → (dy = true → y = 1 ∧ 0 ≤ x ∧ x ≤ 4000000) → Q (.ref p) H'
/-- a number just written: (n, 1) -/
theorem pr_one {K : PySem.W.Frag} {H : Hp} {p : Addr} {n : Int} (h : H p = some (.tup [.int n, .int 1])) (h1 : -1152921504606846976 < n) (h2 : n < 1152921504606846976) : Pr K H p n 1 60 := ⟨SqT.of h, by decide, bd_60 h1 h2, bd_60 (by decide) (by decide)⟩
def sp_lturned (K : PySem.W.Frag) : Sp := fun vs H Q _ => ∃ (sc : Addr) (p low many len c far : Int), vs = [.ref sc, .int c, .int far] ∧ TurS K H sc p low many len ∧ -40 ≤ low ∧ low + many ≤ 40 ∧ many ≤ 25 ∧ -15 ≤ low ∧ low ≤ 15 ∧ NewC K H Q false
theorem ok_l_turned (T : Txt K mg t) : FnOk P w K mg base CX0 3 t.f_l_turned t.d_l_turned ["_law_scale_here", "_law_cell_here", "_law_far"] (sp_lturned K) := by
  have G_l_lowest := ok_l_lowest (P := P) (w := w) (base := base) T
  have G_l_power := ok_l_power (P := P) (w := w) (base := base) T
  refine T.F_l_turned.ok sc_l_turned (fun vs H Q E h => ?_) (fun cdv A outer s H vs Q E hr h => ?_)
  · obtain ⟨sc, p, low, many, len, c, far, rfl, _⟩ := h
    rfl
  obtain ⟨sc, p, low, many, len, c, far, rfl, S, h1, h2, m25, l1, l2, q⟩ := h
  have p2 := S.p2
  have p10 := S.p10
  have m1 := S.m1
  have kS := S.s
  have pm : 0 < many + 2 := by omega
  have pB : 0 < 16 * p - 15 := by omega
  have r0 := Int.emod_nonneg (c / 4) (Int.ne_of_gt pm)
  have r1 := Int.emod_lt_of_pos (c / 4) pm
  have f0 := Int.emod_nonneg far (Int.ne_of_gt pB)
  have f1 := Int.emod_lt_of_pos far pB
  refine ⟨_, (pss_cons (ps_asg (pv 0) (pg_tup rfl (pgs_cons (pg_name (i := 5) sc_l_turned.nd rfl (Or.inl rfl)) (pgs_cons (pg_name (i := 6) sc_l_turned.nd rfl (Or.inl rfl)) (pgs_cons (pg_name (i := 7) sc_l_turned.nd rfl (Or.inl rfl)) (pgs_cons (pg_name (i := 8) sc_l_turned.nd rfl (Or.inl rfl)) (pgs_cons (pg_name (i := 9) sc_l_turned.nd rfl (Or.inl rfl)) pgs_nil)))))))
  (pss_cons (ps_set (i := 3) sc_l_turned.nd rfl (Or.inl rfl) (pe_op op_add (pe_op op_sub (pv 7) pe_int) (pe_op op_mod (pe_op op_fdivB (pv 1) pe_int) (pe_op op_add (pv 8) pe_int))))
  (pss_cons (ps_set (i := 4) sc_l_turned.nd rfl (Or.inl rfl) (pe_op op_add pe_int (pe_op op_mod (pv 2) (pe_op op_sub (pe_op op_mul pe_int (pv 6)) pe_int))))
  (pss_cons (ps_if (pt_cmpR op_eq (pe_op op_mod (pv 1) pe_int) pe_int (nomark _)) (pss_one (ps_ret (pe_tup (pa_cons (pe_op op_sub (pe_op op_mod (pe_op op_fdivB (pv 1) pe_int) pe_int) pe_int) (pa_cons pe_int pa_nil))))) pss_nil)
  (pss_one (ps_ret (pe_call G_l_lowest (hr.mono (by decide)) rfl T.m_l_lowest T.k_l_lowest T.b_l_lowest .nil pass0 (pa_cons (pe_op op_mul (pv 4) (pe_call G_l_power (hr.mono (by decide)) rfl T.m_l_power T.k_l_power T.b_l_power .nil pass0 (pa_cons (pv 6) (pa_cons (pv 3) pa_nil)))) (pa_cons (pe_op op_mul pe_int (pe_call G_l_power (hr.mono (by decide)) rfl T.m_l_power T.k_l_power T.b_l_power .nil pass0 (pa_cons (pv 6) (pa_cons (pe_op op_sub pe_int (pv 3)) pa_nil)))) pa_nil))))))))), z_go (σ := [some _, some _, some _, none, none, none, none, none, none, none]) rfl ?_⟩
  walk_at "run"
  refine z_iteD (fun _ => ?_) (fun _ => ?_)
  · walk_at "run"
    rename_i pn H1 n1 s1 e1
    exact q pn H1 _ 1 s1 ((pr_one e1 (by omega) (by omega)).up (by decide)) (by rw [Int.gcd_one]) (fun z => nomatch z)
  · walk_at "run"
    refine a_lpower p2 p10 (by omega) (by omega) ?_
    walk_at "run"
    refine a_lpower p2 p10 (by omega) (by omega) ?_
    walk_at "run"
    have hp1 : My.Bd (8 + (4 * (low - 1 + c / 4 % (many + 2)).toNat + 1)) ((16 + far % (16 * p - 15)) * p ^ (low - 1 + c / 4 % (many + 2)).toNat) := (show My.Bd 8 _ by unfold My.Bd; omega).mul (pow_bd p2 p10 _).2
    have hp2 : My.Bd (8 + (4 * (0 - (low - 1 + c / 4 % (many + 2))).toNat + 1)) (16 * p ^ (0 - (low - 1 + c / 4 % (many + 2))).toNat) := (show My.Bd 8 _ by unfold My.Bd; decide).mul (pow_bd p2 p10 _).2
    have hp3 : 0 < 16 * p ^ (0 - (low - 1 + c / 4 % (many + 2))).toNat := Int.mul_pos (by decide) (pow_bd p2 p10 _).1
    refine a_lowest hp3 hp1 hp2 (by omega) (fun p5 H5 x5 y5 s5 R5 g5 v5 => ?_)
    exact q p5 H5 x5 y5 s5 (R5.up (by omega)) g5 (fun z => nomatch z)
def sp_lcell (K : PySem.W.Frag) : Sp := fun vs H Q _ => ∃ (sc p : Addr) (es : List Int) (bt c c0 cc n1 n2 : Int) (dy : Bool), vs = [.ref sc, .ref p, .int bt, .int c] ∧ IsScale K H sc es bt c0 cc n1 n2 ∧ SqL K H p (es.map V.int) ∧ Ends8 es ∧ 0 < bt ∧ bt ≤ 100000 ∧ (dy = true ↔ c0 % 4 = 3) ∧ NewC K H Q dy
/-- the tail of the law's cell: a number about the ends -/
theorem ok_l_cell (T : Txt K mg t) : FnOk P w K mg base CX0 4 t.f_l_cell t.d_l_cell ["_law_scale_here", "_law_ends_here", "_law_bottom", "_law_cell_here"] (sp_lcell K) := by
  have G_l_lowest := ok_l_lowest (P := P) (w := w) (base := base) T
  have G_l_turned := ok_l_turned (P := P) (w := w) (base := base) T
  refine T.F_l_cell.ok sc_l_cell (fun vs H Q E h => ?_) (fun cdv A outer s H vs Q E hr h => ?_)
  · obtain ⟨sc, p, es, bt, c, c0, cc, n1, n2, dy, rfl, _⟩ := h
    rfl
  obtain ⟨sc, p, es, bt, c, c0, cc, n1, n2, dy, rfl, hI, hE, h8, b0, b1, hdy, q⟩ := h
  have e4 := h8.l4
  have e8 := h8.l8
  have bb : My.Bd 17 bt := by unfold My.Bd; omega
  obtain ⟨e0, x1, x2, x3⟩ := list_first (xs := es) (fun z => by rw [z] at e4; simp at e4)
  obtain ⟨el, z1, z2, z3⟩ := list_last (xs := es) (fun z => by rw [z] at e4; simp at e4)
  obtain ⟨e1, y2⟩ : ∃ e1, es[1]? = some e1 := ⟨_, List.getElem?_eq_getElem (by omega)⟩
  have be := h8.bd e0 x3
  have bl := h8.bd el z3
  have b1' := h8.bd e1 (List.mem_of_getElem? y2)
  have a0 : atI (es.map V.int) 0 = some (.int e0) := atI_first (map_at x2)
  have a1 : atI (es.map V.int) 1 = some (.int e1) := atI_nat (j := 1) (map_at y2)
  have al : atI (es.map V.int) (-1) = some (.int el) := atI_last (by rw [List.length_map]; exact map_at z2)
  have hlt : e0 < el := pair_at h8.up x2 z2 (by omega)
  have hlt1 : e0 < e1 := pair_at h8.up x2 y2 (by decide)
  have hs1 : 1 ≤ 1 + c / 4 % 9 := by omega
  have hs9 : 1 + c / 4 % 9 ≤ 9 := by omega
  have facts : ∀ la sh : Int, My.Bd 104 la → e0 < la → 1 ≤ sh → sh ≤ 9 → 0 < (la - e0) * sh ∧ 0 < bt * sh ∧ My.Bd 4 sh ∧ My.Bd 109 ((la - e0) * sh) ∧ My.Bd 112 (3 * ((la - e0) * sh) + 1) ∧ My.Bd 110 ((la - e0) * sh + 1) := fun la sh bla hla s1 s9 => by
    have bs : My.Bd 4 sh := by unfold My.Bd; omega
    have bw : My.Bd 109 ((la - e0) * sh) := (bla.sub be).mul bs
    refine ⟨Int.mul_pos (by omega) (by omega), Int.mul_pos b0 (by omega), bs, bw, ?_, bw.add ((show My.Bd 1 1 by unfold My.Bd; decide).mono (by decide))⟩
    have : My.Bd 111 (3 * ((la - e0) * sh)) := (show My.Bd 2 3 by unfold My.Bd; decide).mul bw
    exact this.add ((show My.Bd 1 1 by unfold My.Bd; decide).mono (by decide))
  refine ⟨_, (pss_cons (ps_set (i := 4) sc_l_cell.nd rfl (Or.inl rfl) (pe_op op_mod (pe_op op_mul (pv 3) pe_int) pe_int))
  (pss_cons (ps_if (pt_cmpR op_ge (pv 3) (pe_op op_pow pe_int pe_int) (nomark _)) (pss_one (ps_set (i := 4) sc_l_cell.nd rfl (Or.inl rfl) (pe_op op_fdivB (pv 3) pe_int))) pss_nil)
  (pss_cons (ps_if (pt_cmpR op_eq (pe_ix ix_tup (pv 0) pe_int (fun _ _ => rfl)) pe_str (nomark _)) (pss_one (ps_ret (pe_call G_l_turned (hr.mono (by decide)) rfl T.m_l_turned T.k_l_turned T.b_l_turned .nil pass0 (pa_cons (pv 0) (pa_cons (pv 3) (pa_cons (pv 4) pa_nil)))))) pss_nil)
  (pss_cons (ps_if (pt_cmpR op_eq (pe_ix ix_tup (pv 0) pe_int (fun _ _ => rfl)) pe_str (nomark _)) (pss_cons (ps_if (pt_cmpR op_eq (pe_op op_mod (pv 3) pe_int) pe_int (nomark _)) (pss_one (ps_ret (pe_tup (pa_cons (pe_op op_mod (pe_op op_fdivB (pv 3) pe_int) pe_int) (pa_cons pe_int pa_nil))))) pss_nil)
  (pss_one (ps_ret (pe_tup (pa_cons (pe_op op_add (pe_ix ix_tup (pv 0) pe_int (fun _ _ => rfl)) (pe_op op_mod (pv 4) (pe_op op_add (pe_op op_sub (pe_ix ix_tup (pv 0) pe_int (fun _ _ => rfl)) (pe_ix ix_tup (pv 0) pe_int (fun _ _ => rfl))) pe_int))) (pa_cons pe_int pa_nil)))))) pss_nil)
  (pss_cons (ps_set (i := 5) sc_l_cell.nd rfl (Or.inl rfl) (pe_ix ix_list (pv 1) pe_int (fun _ _ => rfl)))
  (pss_cons (ps_if (pt_cmpR op_eq (pe_ix ix_tup (pv 0) pe_int (fun _ _ => rfl)) pe_str (nomark _)) (pss_one (ps_set (i := 5) sc_l_cell.nd rfl (Or.inl rfl) (pe_ix ix_list (pv 1) (pe_un un_neg pe_int) (fun _ _ => rfl)))) pss_nil)
  (pss_cons (ps_set (i := 6) sc_l_cell.nd rfl (Or.inl rfl) (pe_op op_add pe_int (pe_op op_mod (pe_op op_fdivB (pv 3) pe_int) pe_int)))
  (pss_cons (ps_set (i := 7) sc_l_cell.nd rfl (Or.inl rfl) (pe_op op_mul (pe_op op_sub (pv 5) (pe_ix ix_list (pv 1) pe_int (fun _ _ => rfl))) (pv 6)))
  (pss_cons (ps_if (pt_cmpR op_eq (pe_op op_mod (pv 3) pe_int) pe_int (nomark _)) (pss_one (ps_ret (pe_call G_l_lowest (hr.mono (by decide)) rfl T.m_l_lowest T.k_l_lowest T.b_l_lowest .nil pass0 (pa_cons (pe_op op_add (pe_op op_sub (pe_op op_mul (pe_ix ix_list (pv 1) pe_int (fun _ _ => rfl)) (pv 6)) (pv 7)) (pe_op op_mod (pv 4) (pe_op op_add (pe_op op_mul pe_int (pv 7)) pe_int))) (pa_cons (pe_op op_mul (pv 2) (pv 6)) pa_nil))))) pss_nil)
  (pss_one (ps_ret (pe_call G_l_lowest (hr.mono (by decide)) rfl T.m_l_lowest T.k_l_lowest T.b_l_lowest .nil pass0 (pa_cons (pe_op op_add (pe_op op_mul (pe_ix ix_list (pv 1) pe_int (fun _ _ => rfl)) (pv 6)) (pe_op op_mod (pv 4) (pe_op op_add (pv 7) pe_int))) (pa_cons (pe_op op_mul (pv 2) (pv 6)) pa_nil)))))))))))))), z_go (σ := [some _, some _, some _, some _, none, none, none, none]) rfl ?_⟩
  cases hI with
  | tur hk S hp =>
    have kS := S.s
    walk_at "run"
    refine z_iteD (fun _ => ?_) (fun z => absurd rfl z)
    walk_at "run"
    refine ⟨sc, _, _, _, _, c, _, rfl, S, by omega, by omega, by omega, by omega, by omega, fun p' H' x y s' R g _ => ?_⟩
    exact q p' H' x y s' R g (fun z => by rw [hdy] at z; omega)
  | @day hk S =>
    have kS := S.s
    have f0 := S.f0
    have lt := S.lt
    have l9 := S.l9
    walk_at "run"
    refine z_iteD (fun z => absurd z (by decide)) (fun _ => ?_)
    walk_at "run"
    refine z_iteD (fun _ => ?_) (fun z => absurd rfl z)
    walk_at "run"
    refine z_iteD (fun _ => ?_) (fun _ => ?_)
    · walk_at "run"
      rename_i pn H1 n1 s1 e1
      exact q pn H1 _ 1 s1 ((pr_one e1 (by omega) (by omega)).up (by decide)) (by rw [Int.gcd_one]) (fun _ => ⟨rfl, by omega, by omega⟩)
    · generalize n1 % 3652058 = lo at *
      generalize lo + 1 + n2 % (3652058 - lo) = hi at *
      walk_at "run"
      have r0 := Int.emod_nonneg (if decide (10 ^ (18 : Int).toNat ≤ c) = true then c / 36 else c * 48271 % 2147483647) (show hi - lo + 1 ≠ 0 by omega)
      have r1 := Int.emod_lt_of_pos (if decide (10 ^ (18 : Int).toNat ≤ c) = true then c / 36 else c * 48271 % 2147483647) (show 0 < hi - lo + 1 by omega)
      rename_i pn H1 n1 s1 e1
      exact q pn H1 _ 1 s1 ((pr_one e1 (by omega) (by omega)).up (by decide)) (by rw [Int.gcd_one]) (fun _ => ⟨rfl, by omega, by omega⟩)
  | str hk S hu hv _ _ _ _ =>
    have kS := S.s
    walk_at "run"
    refine z_iteD (fun z => absurd z (by decide)) (fun _ => ?_)
    walk_at "run"
    refine z_iteD (fun z => absurd z (by decide)) (fun _ => ?_)
    walk_at "run"
    refine z_ixL hE a1 ?_
    walk_at "run"
    refine z_iteD (fun z => absurd z (by decide)) (fun _ => ?_)
    walk_at "run"
    refine z_ixL hE a0 ?_
    walk_at "run"
    generalize 1 + c / 4 % 9 = sh at *
    obtain ⟨w1, w2, w3, w4, w5, w6⟩ := facts e1 sh b1' hlt1 hs1 hs9
    refine z_iteD (fun _ => ?_) (fun _ => ?_)
    all_goals
      walk_at "run"
      refine z_ixL hE a0 ?_
      walk_at "run"
      rename_i pn H1 u1 u2 s1 R1 g1 v1
      exact q pn H1 u1 u2 s1 (R1.up (by decide)) g1 (fun z => by rw [hdy] at z; omega)
  | brk hk S M hl hz =>
    have kS := S.s
    walk_at "run"
    refine z_iteD (fun z => absurd z (by decide)) (fun _ => ?_)
    walk_at "run"
    refine z_iteD (fun z => absurd z (by decide)) (fun _ => ?_)
    walk_at "run"
    refine z_ixL hE a1 ?_
    walk_at "run"
    refine z_iteD (fun _ => ?_) (fun z => absurd rfl z)
    walk_at "run"
    refine z_ixL hE al ?_
    walk_at "run"
    refine z_ixL hE a0 ?_
    walk_at "run"
    generalize 1 + c / 4 % 9 = sh at *
    obtain ⟨w1, w2, w3, w4, w5, w6⟩ := facts el sh bl hlt hs1 hs9
    refine z_iteD (fun _ => ?_) (fun _ => ?_)
    all_goals
      walk_at "run"
      refine z_ixL hE a0 ?_
      walk_at "run"
      rename_i pn H1 u1 u2 s1 R1 g1 v1
      exact q pn H1 u1 u2 s1 (R1.up (by decide)) g1 (fun z => by rw [hdy] at z; omega)
def sp_lhanded (K : PySem.W.Frag) : Sp := fun vs H Q _ => ∃ (sc p : Addr) (es : List Int) (bt c0 cc n1 n2 x y : Int) (n : Nat) (dy : Bool), vs = [.ref sc, .ref p] ∧ IsScale K H sc es bt c0 cc n1 n2 ∧ Pr K H p x y n ∧ (dy = true ↔ c0 % 4 = 3) ∧ (dy = true → Q (.int x) H) ∧ (dy = false → Q (.ref p) H)
theorem ok_l_handed (T : Txt K mg t) : FnOk P w K mg base CX0 1 t.f_l_handed t.d_l_handed ["_law_scale_here", "_law_cell_here"] (sp_lhanded K) := by
  refine T.F_l_handed.ok sc_l_handed (fun vs H Q E h => ?_) (fun cdv A outer s H vs Q E hr h => ?_)
  · obtain ⟨sc, p, es, bt, c0, cc, n1, n2, x, y, n, dy, rfl, _⟩ := h
    rfl
  obtain ⟨sc, p, es, bt, c0, cc, n1, n2, x, y, n, dy, rfl, hI, R, hdy, q1, q2⟩ := h
  have kR := R.s
  have nd : c0 % 4 ≠ 3 → dy = false := fun z => by
    cases dy with
    | true => exact absurd (hdy.mp rfl) z
    | false => rfl
  refine ⟨_, (pss_cons (ps_if (pt_cmpR op_eq (pe_ix ix_tup (pv 0) pe_int (fun _ _ => rfl)) pe_str (nomark _)) (pss_one (ps_ret (pe_ix ix_tup (pv 1) pe_int (fun _ _ => rfl)))) pss_nil)
  (pss_one (ps_ret (pv 1)))), z_go (σ := [some _, some _]) rfl ?_⟩
  cases hI with
  | day hk S =>
    have kS := S.s
    walk_at "run"
    refine z_iteD (fun _ => ?_) (fun z => absurd rfl z)
    walk_at "run"
    exact q1 (hdy.mpr hk)
  | str hk S hu hv _ _ _ _ =>
    have kS := S.s
    walk_at "run"
    refine z_iteD (fun z => absurd z (by decide)) (fun _ => ?_)
    walk_at "run"
    exact q2 (nd (by omega))
  | tur hk S hp =>
    have kS := S.s
    walk_at "run"
    refine z_iteD (fun z => absurd z (by decide)) (fun _ => ?_)
    walk_at "run"
    exact q2 (nd (by omega))
  | brk hk S M hl hz =>
    have kS := S.s
    walk_at "run"
    refine z_iteD (fun z => absurd z (by decide)) (fun _ => ?_)
    walk_at "run"
    exact q2 (nd (by omega))
theorem ok_l_above (T : Txt K mg t) : FnOk P w K mg base CX0 1 t.f_l_above t.d_l_above ["_law_one", "_law_other"] (sp_cmp K fun a b c d => .bl (decide (c * b < a * d))) := by
  refine T.F_l_above.ok sc_l_above (fun vs H Q E h => ?_) (fun cdv A outer s H vs Q E hr h => ?_)
  · obtain ⟨p, r, a, b, c, d, n1, n2, rfl, _⟩ := h
    rfl
  obtain ⟨p, r, a, b, c, d, n1, n2, rfl, h1, h2, hn, q⟩ := h
  have k1 := h1.s
  have k2 := h2.s
  refine ⟨_, (pss_one (ps_ret (pe_cmpR op_gt (pe_op op_mulB (pe_ix ix_tup (pv 0) pe_int (fun _ _ => rfl)) (pe_ix ix_tup (pv 1) pe_int (fun _ _ => rfl))) (pe_op op_mulB (pe_ix ix_tup (pv 1) pe_int (fun _ _ => rfl)) (pe_ix ix_tup (pv 0) pe_int (fun _ _ => rfl))) (nomark _)))), z_go (σ := [some _, some _]) rfl ?_⟩
  walk_at "run"
  exact q
/-- the two edges about a whole place, by doubles -/
structure EdgeOk (R : Rat → Rat → Prop) (k e0 e1 : Int) : Prop where
  a0 : ∃ v, R v (My.qv e0 2)
  a1 : ∃ v, R v (My.qv e1 2)
  lo : e0 ≤ 2 * k
  hi : 2 * k ≤ e1
  b0 : 0 ≤ e0
  b1 : e1 ≤ 8000
  in_ : ∀ v r : Rat, R v r → 2 * (k : Rat) - 1 ≤ 2 * r → 2 * r ≤ 2 * (k : Rat) + 1 → My.qv e0 2 ≤ r ∧ r ≤ My.qv e1 2
theorem half_qv (e : Int) : My.qv e 2 = (e : Rat) / 2 := rfl
/-- where all places of a stretch from F to T are had about k -/
theorem edge_of {R : Rat → Rat → Prop} {k F T : Int} (h0 : 0 ≤ F) (h1 : T ≤ 4000) (hF : F ≤ k) (hT : k ≤ T) (att : ∀ r : Rat, (F : Rat) ≤ r → r ≤ (T : Rat) → ∃ v, R v r) (inn : ∀ v r : Rat, R v r → 2 * (k : Rat) - 1 ≤ 2 * r → 2 * r ≤ 2 * (k : Rat) + 1 → (F : Rat) ≤ r ∧ r ≤ (T : Rat)) :
    EdgeOk R k (if 2 * k - 1 > 2 * F then 2 * k - 1 else 2 * F) (if 2 * k + 1 < 2 * T then 2 * k + 1 else 2 * T) := by
  have c1 : ((2 * F : Int) : Rat) = 2 * (F : Rat) := Rat.intCast_mul _ _
  have c2 : ((2 * T : Int) : Rat) = 2 * (T : Rat) := Rat.intCast_mul _ _
  have c3 : ((2 * k - 1 : Int) : Rat) = 2 * (k : Rat) - 1 := by rw [Rat.intCast_sub, Rat.intCast_mul]; rfl
  have c4 : ((2 * k + 1 : Int) : Rat) = 2 * (k : Rat) + 1 := by rw [Rat.intCast_add, Rat.intCast_mul]; rfl
  have kF : (F : Rat) ≤ (k : Rat) := Rat.intCast_le_intCast.mpr hF
  have kT : (k : Rat) ≤ (T : Rat) := Rat.intCast_le_intCast.mpr hT
  have FT : (F : Rat) ≤ (T : Rat) := by grind
  refine ⟨?_, ?_, by split <;> omega, by split <;> omega, by split <;> omega, by split <;> omega, fun v r hv w1 w2 => ?_⟩
  · apply att <;> rw [half_qv]
    · split
      · next z =>
        have z' : ((2 * F : Int) : Rat) < ((2 * k - 1 : Int) : Rat) := Rat.intCast_lt_intCast.mpr z
        rw [c1, c3] at z'
        rw [c3]
        grind
      · rw [c1]; grind
    · split
      · rw [c3]; grind
      · rw [c1]; grind
  · apply att <;> rw [half_qv]
    · split
      · rw [c4]; grind
      · rw [c2]; grind
    · split
      · next z =>
        have z' : ((2 * k + 1 : Int) : Rat) < ((2 * T : Int) : Rat) := Rat.intCast_lt_intCast.mpr z
        rw [c2, c4] at z'
        rw [c4]
        grind
      · rw [c2]; grind
  · obtain ⟨i1, i2⟩ := inn v r hv w1 w2
    rw [half_qv, half_qv]
    constructor
    · split
      · rw [c3]; grind
      · rw [c1]; grind
    · split
      · rw [c4]; grind
      · rw [c2]; grind
def sp_ledges (K : PySem.W.Frag) : Sp := fun vs H Q _ => ∃ (sc : Addr) (k len : Int) (R : Rat → Rat → Prop) (dy : Bool), vs = [.ref sc, .int k] ∧ AnyS K H sc R len dy ∧ (∃ v, R v (k : Rat)) ∧
  ∀ (p : Addr) (H' : Hp) (e0 e1 : Int), Same H H' → H' p = some (.lst [.int e0, .int e1]) → EdgeOk R k e0 e1 → Q (.ref p) H'
theorem GoodP.one {pcs : List Pc} {len : Int} (h : GoodP pcs len) {i j : Nat} {x y : Pc} {r : Rat} (hi : pcs[i]? = some x) (hj : pcs[j]? = some y) (x0 : (x.f : Rat) ≤ r) (x1 : r ≤ (x.t : Rat)) (y0 : (y.f : Rat) ≤ r) (y1 : r ≤ (y.t : Rat)) : i = j := by
  rcases Nat.lt_trichotomy i j with z | z | z
  · have := Rat.intCast_lt_intCast.mpr (h.pw i j x y hi hj z).2
    grind
  · exact z
  · have := Rat.intCast_lt_intCast.mpr (h.pw j i y x hj hi z).2
    grind
theorem ok_l_edges (T : Txt K mg t) : FnOk P w K mg base CX0 1 t.f_l_edges t.d_l_edges ["_law_scale_here", "_law_along"] (sp_ledges K) := by
  refine T.F_l_edges.ok sc_l_edges (fun vs H Q E h => ?_) (fun cdv A outer s H vs Q E hr h => ?_)
  · obtain ⟨sc, k, len, R, dy, rfl, _⟩ := h
    rfl
  obtain ⟨sc, k, len, R, dy, rfl, A', hk, q⟩ := h
  have hlen := A'.len
  have SC := A'.sc
  obtain ⟨v0, hv0⟩ := hk
  have k0 := SC.lo hv0
  have k1 := SC.hi hv0
  have k0' : 0 ≤ k := Rat.intCast_le_intCast.mp k0
  have k1' : k ≤ len := Rat.intCast_le_intCast.mp k1
  have full : (∀ r : Rat, 0 ≤ r → r ≤ (len : Rat) → ∃ v, R v r) → EdgeOk R k (if 2 * k - 1 > 2 * 0 then 2 * k - 1 else 2 * 0) (if 2 * k + 1 < 2 * len then 2 * k + 1 else 2 * len) := fun att =>
    edge_of (by decide) hlen.2 k0' k1' (fun r a b => att r a b) (fun v r hv _ _ => ⟨SC.lo hv, SC.hi hv⟩)
  refine ⟨_, (pss_cons (ps_set (i := 2) sc_l_edges.nd rfl (Or.inl rfl) (pe_lst (pa_cons pe_int (pa_cons (pe_ix ix_tup (pv 0) (pe_un un_neg pe_int) (fun _ _ => rfl)) pa_nil))))
  (pss_cons (ps_if (pt_cmpR op_eq (pe_ix ix_tup (pv 0) pe_int (fun _ _ => rfl)) pe_str (nomark _)) (pss_one (ps_for PassesOwn.never rfl (pi_list (pe_ix ix_tup (pv 0) pe_int (fun _ _ => rfl))) (pg_tup rfl (pgs_cons (pg_name (i := 3) sc_l_edges.nd rfl (Or.inl rfl)) (pgs_cons (pg_name (i := 4) sc_l_edges.nd rfl (Or.inl rfl)) (pgs_cons (pg_name (i := 5) sc_l_edges.nd rfl (Or.inl rfl)) (pgs_cons (pg_name (i := 6) sc_l_edges.nd rfl (Or.inl rfl)) pgs_nil))))) (pss_one (ps_if (PW.pt (pw_and (pt_cmpR op_le (pv 5) (pv 1) (nomark _)) (pw_and1 (pt_cmpR op_le (pv 1) (pv 6) (nomark _))))) (pss_one (ps_set (i := 2) sc_l_edges.nd rfl (Or.inl rfl) (pe_lst (pa_cons (pv 5) (pa_cons (pv 6) pa_nil))))) pss_nil)))) pss_nil)
  (pss_one (ps_ret (pe_lst (pa_cons (pe_callB (call_max2 rfl) rfl T.z_max bt_max (pa_cons (pe_op op_mul pe_int (pe_ix ix_list (pv 2) pe_int (fun _ _ => rfl))) (pa_cons (pe_op op_sub (pe_op op_mul pe_int (pv 1)) pe_int) pa_nil))) (pa_cons (pe_callB (call_min2 rfl) rfl T.z_min bt_min (pa_cons (pe_op op_mul pe_int (pe_ix ix_list (pv 2) pe_int (fun _ _ => rfl))) (pa_cons (pe_op op_add (pe_op op_mul pe_int (pv 1)) pe_int) pa_nil))) pa_nil))))))), z_go (σ := [some _, some _, none, none, none, none, none]) rfl ?_⟩
  cases A' with
  | @brk ps pcs len S g l1 l2 =>
    have kS := S.s
    have hL := S.l
    obtain ⟨zq, hz, z0, z1⟩ := My.brk_att (fun x hx => by
      obtain ⟨u, hu, rfl⟩ := List.mem_map.mp hx
      exact ⟨(g.ft u hu).1, Rat.intCast_lt_intCast.mpr (g.ft u hu).2.1⟩) hv0
    obtain ⟨z, hzm, rfl⟩ := List.mem_map.mp hz
    have z0 : (z.f : Rat) ≤ (k : Rat) := z0
    have z1 : (k : Rat) ≤ (z.t : Rat) := z1
    obtain ⟨m, hm, em⟩ := List.getElem_of_mem hzm
    have hm' : pcs[m]? = some z := by rw [List.getElem?_eq_getElem hm, em]
    obtain ⟨g1, g2, g3, g4⟩ := g.ft z hzm
    have ed := edge_of (R := My.RBrk (pcs.map Pc.q)) (k := k) (F := z.f) (T := z.t) g3 (by omega) (Rat.intCast_le_intCast.mp z0) (Rat.intCast_le_intCast.mp z1) (fun r a b => My.att_brk (List.mem_map.mpr ⟨z, hzm, rfl⟩) g1 (Rat.intCast_lt_intCast.mpr g2) a b) (fun v r hv w1 w2 => by
      obtain ⟨yq, hy, y0, y1⟩ := My.brk_att (fun x hx => by
        obtain ⟨u, hu, rfl⟩ := List.mem_map.mp hx
        exact ⟨(g.ft u hu).1, Rat.intCast_lt_intCast.mpr (g.ft u hu).2.1⟩) hv
      obtain ⟨y, hym, rfl⟩ := List.mem_map.mp hy
      obtain ⟨j, hj, ej⟩ := List.getElem_of_mem hym
      have hj' : pcs[j]? = some y := by rw [List.getElem?_eq_getElem hj, ej]
      have y0 : (y.f : Rat) ≤ r := y0
      have y1 : r ≤ (y.t : Rat) := y1
      rcases Nat.lt_trichotomy j m with c | c | c
      · have := (g.pw j m y z hj' hm' c).2
        have a1 : ((y.t + 1 : Int) : Rat) ≤ (z.f : Rat) := Rat.intCast_le_intCast.mpr (by omega)
        rw [Rat.intCast_add] at a1
        have : ((1 : Int) : Rat) = 1 := rfl
        grind
      · subst c
        rw [hm'] at hj'
        cases hj'
        exact ⟨y0, y1⟩
      · have := (g.pw m j z y hm' hj' c).2
        have a1 : ((z.t + 1 : Int) : Rat) ≤ (y.f : Rat) := Rat.intCast_le_intCast.mpr (by omega)
        rw [Rat.intCast_add] at a1
        have : ((1 : Int) : Rat) = 1 := rfl
        grind)
    walk_at "run"
    refine z_mkl (Nat.le_of_ble_eq_true rfl) (fun l H1 hp s1 hl => ?_)
    walk_at "run"
    refine z_iteD (fun _ => ?_) (fun z => absurd rfl z)
    walk_at "run"
    refine f_list (K := K) (xs := pcs.map fun x => V.ref x.ad) (fun i σ H2 => ∃ (pe : Addr) (a b : Int) (u1 u2 u3 u4 : Option V), σ = [some (.ref sc), some (.int k), some (.ref pe), u1, u2, u3, u4] ∧ Same H H2 ∧ H2 pe = some (.lst [.int a, .int b]) ∧ (m < i → a = z.f ∧ b = z.t))
      ⟨l, _, _, none, none, none, none, rfl, s1, hl, fun h => absurd h (Nat.not_lt_zero _)⟩ (fun i σ H2 _ ⟨_, _, _, _, _, _, _, _, e2, _⟩ => e2.seq hL) ?_ ?_
    · rintro i v σ H2 hi ⟨pe, a, b, u1, u2, u3, u4, rfl, s2, he, hab⟩
      obtain ⟨y, hy, rfl⟩ := of_map_at hi
      have OK := (S.ok y (List.mem_of_getElem? hy)).keep s2
      have m1 := OK.s
      walk_at "run"
      have uniq : y.f ≤ k → k ≤ y.t → i = m := fun h1 h2 => g.one hy hm' (Rat.intCast_le_intCast.mpr h1) (Rat.intCast_le_intCast.mpr h2) z0 z1
      have keepE : (¬ (y.f ≤ k ∧ k ≤ y.t)) → m < i + 1 → a = z.f ∧ b = z.t := fun hn hmi => by
        rcases Nat.lt_succ_iff_lt_or_eq.mp hmi with c | c
        · exact hab c
        · subst c
          rw [hm'] at hy
          cases hy
          exact absurd ⟨Rat.intCast_le_intCast.mp z0, Rat.intCast_le_intCast.mp z1⟩ hn
      refine z_iteD (fun h1 => ?_) (fun h1 => ?_)
      · walk_at "run"
        refine z_iteD (fun h2 => ?_) (fun h2 => ?_)
        · have := uniq h1 h2
          subst this
          rw [hm'] at hy
          cases hy
          walk_at "run"
          refine z_mkl (Nat.le_of_ble_eq_true rfl) (fun l' H3 _ s3 hl' => ?_)
          walk_at "run"
          exact ⟨l', _, _, _, _, _, _, rfl, s2.trans s3, hl', fun _ => ⟨rfl, rfl⟩⟩
        · walk_at "run"
          exact ⟨pe, a, b, _, _, _, _, rfl, s2, he, keepE (fun z => h2 z.2)⟩
      · walk_at "run"
        exact ⟨pe, a, b, _, _, _, _, rfl, s2, he, keepE (fun z => h1 z.1)⟩
    · rintro σ H2 ⟨pe, a, b, u1, u2, u3, u4, rfl, s2, he, hab⟩
      obtain ⟨ha, hb⟩ := hab (by rw [List.length_map]; exact lt_of_at hm')
      subst ha hb
      have hq : SqL K H2 pe [.int z.f, .int z.t] := SqL.of he
      have y1 : z.t ≤ 4000 := by omega
      walk_at "run"
      refine z_ixL hq rfl ?_
      walk_at "run"
      refine z_ixL hq rfl ?_
      walk_at "run"
      refine z_mkl (Nat.le_of_ble_eq_true rfl) (fun l' H3 _ s3 hl' => ?_)
      exact q l' H3 _ _ (s2.trans s3) hl' ed
  | @str pl ph a b c d len S =>
    have kS := S.s
    have ed := full (fun r h0 h1 => My.att_str ((My.lt_qv S.lo.pos S.hi.pos).mpr S.lt) (My.cast_pos (by omega)) h0 h1)
    walk_at "run"
    refine z_mkl (Nat.le_of_ble_eq_true rfl) (fun l H1 hp s1 hl => ?_)
    have kS1 := s1.tup kS
    walk_at "run"
    refine z_iteD (fun z => absurd z (by decide)) (fun _ => ?_)
    walk_at "run"
    have hq : SqL K H1 l [.int 0, .int len] := SqL.of hl
    refine z_ixL hq rfl ?_
    walk_at "run"
    refine z_ixL hq rfl ?_
    walk_at "run"
    refine z_mkl (Nat.le_of_ble_eq_true rfl) (fun l' H3 _ s3 hl' => ?_)
    exact q l' H3 _ _ (s1.trans s3) hl' ed
  | @tur p low many len S a1 a2 =>
    have kS := S.s
    have ed := full (fun r h0 h1 => My.att_tur (one_lt S.p2) (by have := S.m1; omega) (My.cast_pos (by omega)) h0 h1)
    walk_at "run"
    refine z_mkl (Nat.le_of_ble_eq_true rfl) (fun l H1 hp s1 hl => ?_)
    have kS1 := s1.tup kS
    walk_at "run"
    refine z_iteD (fun z => absurd z (by decide)) (fun _ => ?_)
    walk_at "run"
    have hq : SqL K H1 l [.int 0, .int len] := SqL.of hl
    refine z_ixL hq rfl ?_
    walk_at "run"
    refine z_ixL hq rfl ?_
    walk_at "run"
    refine z_mkl (Nat.le_of_ble_eq_true rfl) (fun l' H3 _ s3 hl' => ?_)
    exact q l' H3 _ _ (s1.trans s3) hl' ed
  | @day f l len S =>
    have kS := S.s
    have ed := full (fun r h0 h1 => My.att_str (Rat.intCast_lt_intCast.mpr S.lt) (My.cast_pos (by omega)) h0 h1)
    walk_at "run"
    refine z_mkl (Nat.le_of_ble_eq_true rfl) (fun l H1 hp s1 hl => ?_)
    have kS1 := s1.tup kS
    walk_at "run"
    refine z_iteD (fun z => absurd z (by decide)) (fun _ => ?_)
    walk_at "run"
    have hq : SqL K H1 l [.int 0, .int len] := SqL.of hl
    refine z_ixL hq rfl ?_
    walk_at "run"
    refine z_ixL hq rfl ?_
    walk_at "run"
    refine z_mkl (Nat.le_of_ble_eq_true rfl) (fun l' H3 _ s3 hl' => ?_)
    exact q l' H3 _ _ (s1.trans s3) hl' ed
/-- the whole number to which a place is rounded -/
theorem round_qv {x y : Int} (hy : 0 < y) : 2 * (((2 * x + y) / (2 * y) : Int) : Rat) - 1 ≤ 2 * My.qv x y ∧ 2 * My.qv x y < 2 * (((2 * x + y) / (2 * y) : Int) : Rat) + 1 := by
  have h1 := Int.mul_ediv_add_emod (2 * x + y) (2 * y)
  have h2 := Int.emod_nonneg (2 * x + y) (show 2 * y ≠ 0 by omega)
  have h3 := Int.emod_lt_of_pos (2 * x + y) (show 0 < 2 * y by omega)
  generalize (2 * x + y) / (2 * y) = k at *
  have w : 2 * y * k = 2 * (k * y) := by rw [Int.mul_assoc, Int.mul_comm y k]
  have a : My.qv (2 * k - 1) 2 ≤ My.qv x y := (My.le_qv (by decide) hy).mpr (by rw [Int.sub_mul, Int.one_mul, Int.mul_assoc]; omega)
  have b : My.qv x y < My.qv (2 * k + 1) 2 := (My.lt_qv hy (by decide)).mpr (by rw [Int.add_mul, Int.one_mul, Int.mul_assoc]; omega)
  rw [half_qv] at a b
  have c3 : ((2 * k - 1 : Int) : Rat) = 2 * (k : Rat) - 1 := by rw [Rat.intCast_sub, Rat.intCast_mul]; rfl
  have c4 : ((2 * k + 1 : Int) : Rat) = 2 * (k : Rat) + 1 := by rw [Rat.intCast_add, Rat.intCast_mul]; rfl
  rw [c3] at a
  rw [c4] at b
  grind
theorem round_in {F T k : Int} {r : Rat} (h1 : 2 * (k : Rat) - 1 ≤ 2 * r) (h2 : 2 * r < 2 * (k : Rat) + 1) (hF : (F : Rat) ≤ r) (hT : r ≤ (T : Rat)) : F ≤ k ∧ k ≤ T := by
  constructor
  · have : ((2 * F : Int) : Rat) < ((2 * k + 1 : Int) : Rat) := by
      rw [Rat.intCast_mul, Rat.intCast_add, Rat.intCast_mul]
      have : ((1 : Int) : Rat) = 1 := rfl
      have : ((2 : Int) : Rat) = 2 := rfl
      grind
    have := Rat.intCast_lt_intCast.mp this
    omega
  · have : ((2 * k - 1 : Int) : Rat) ≤ ((2 * T : Int) : Rat) := by
      rw [Rat.intCast_mul, Rat.intCast_sub, Rat.intCast_mul]
      have : ((1 : Int) : Rat) = 1 := rfl
      have : ((2 : Int) : Rat) = 2 := rfl
      grind
    have := Rat.intCast_le_intCast.mp this
    omega
/-- that whole number is a place that is had, too -/
theorem AnyS.round {K : PySem.W.Frag} {H : Hp} {sc : Addr} {R : Rat → Rat → Prop} {len : Int} {dy : Bool} (A : AnyS K H sc R len dy) {v r : Rat} {k : Int} (hv : R v r) (h1 : 2 * (k : Rat) - 1 ≤ 2 * r) (h2 : 2 * r < 2 * (k : Rat) + 1) : (∃ v, R v (k : Rat)) ∧ 0 ≤ k ∧ k ≤ len := by
  have hlen := A.len
  have hl : (0 : Rat) < (len : Rat) := My.cast_pos (by omega)
  have SC := A.sc
  obtain ⟨b0, b1⟩ := round_in (F := 0) (T := len) h1 h2 (SC.lo hv) (SC.hi hv)
  have c0 : (0 : Rat) ≤ (k : Rat) := Rat.intCast_le_intCast.mpr b0
  have c1 : (k : Rat) ≤ (len : Rat) := Rat.intCast_le_intCast.mpr b1
  refine ⟨?_, b0, b1⟩
  cases A with
  | str S => exact My.att_str ((My.lt_qv S.lo.pos S.hi.pos).mpr S.lt) hl c0 c1
  | tur S _ _ => exact My.att_tur (one_lt S.p2) (by have := S.m1; omega) hl c0 c1
  | day S => exact My.att_str (Rat.intCast_lt_intCast.mpr S.lt) hl c0 c1
  | @brk ps pcs len S g _ _ =>
    obtain ⟨zq, hz, z0, z1⟩ := My.brk_att (fun x hx => by
      obtain ⟨u, hu, rfl⟩ := List.mem_map.mp hx
      exact ⟨(g.ft u hu).1, Rat.intCast_lt_intCast.mpr (g.ft u hu).2.1⟩) hv
    obtain ⟨z, hzm, rfl⟩ := List.mem_map.mp hz
    obtain ⟨w0, w1⟩ := round_in (F := z.f) (T := z.t) h1 h2 z0 z1
    exact My.att_brk (List.mem_map.mpr ⟨z, hzm, rfl⟩) (g.ft z hzm).1 (Rat.intCast_lt_intCast.mpr (g.ft z hzm).2.1) (Rat.intCast_le_intCast.mpr w0) (Rat.intCast_le_intCast.mpr w1)
theorem two_int {K : PySem.W.Frag} {H : Hp} {n : Nat} {a b : Int} {j : Nat} {x : V} (h : ([.int a, .int b] : List V)[j]? = some x) : Alike K H n x x := by
  match j, h with
  | 0, h => cases h; exact .int
  | 1, h => cases h; exact .int
  | _ + 2, h => cases h
def sp_lright (K : PySem.W.Frag) : Sp := fun vs H Q _ => ∃ (sc po pt : Addr) (e f x y len : Int) (R : Rat → Rat → Prop) (dy : Bool), vs = [.ref sc, .ref po, .ref pt] ∧ AnyS K H sc R len dy ∧ Pr K H po e f 200 ∧ Int.gcd e f = 1 ∧ Pr K H pt x y 2100 ∧ Int.gcd x y = 1 ∧ R (My.qv e f) (My.qv x y) ∧ ∀ H', Same H H' → Q (.bl true) H'
theorem ok_l_right (T : Txt K mg t) : FnOk P w K mg base CX0 7 t.f_l_right t.d_l_right ["_law_scale_here", "_law_one", "_law_told"] (sp_lright K) := by
  have G_read_on := ok_read_on (P := P) (w := w) (base := base) T
  have G_l_lowest := ok_l_lowest (P := P) (w := w) (base := base) T
  have G_l_is_number := ok_l_is_number (P := P) (w := w) (base := base) T
  have G_l_edges := ok_l_edges (P := P) (w := w) (base := base) T
  have G_l_above := ok_l_above (P := P) (w := w) (base := base) T
  refine T.F_l_right.ok sc_l_right (fun vs H Q E h => ?_) (fun cdv A outer s H vs Q E hr h => ?_)
  · obtain ⟨sc, po, pt, e, f, x, y, len, R, dy, rfl, _⟩ := h
    rfl
  obtain ⟨sc, po, pt, e, f, x, y, len, R, dy, rfl, AS, RO, g1, RT, g2, hR, q⟩ := h
  have SC := AS.sc
  have k1 := RO.s
  have k2 := RT.s
  have hy := RT.pos
  have hy2 : 0 < 2 * y := by omega
  refine ⟨_, (pss_cons (ps_if (PW.pt (pw_or (pt_not (pt_val (pe_call G_l_is_number (hr.mono (by decide)) rfl T.m_l_is_number T.k_l_is_number T.b_l_is_number .nil pass0 (pa_cons (pv 2) pa_nil)))) (pw_or1 (pt_cmpR (op_neA hr.un150) (pe_call G_read_on (hr.mono (by decide)) rfl T.m_read_on T.k_read_on T.b_read_on .nil pass0 (pa_cons (pv 0) (pa_cons (pv 2) pa_nil))) (pv 1) (nomark _))))) (pss_one (ps_ret pe_bl)) pss_nil)
  (pss_cons (ps_set (i := 3) sc_l_right.nd rfl (Or.inl rfl) (pe_op op_fdivB (pe_op op_add (pe_op op_mul pe_int (pe_ix ix_tup (pv 2) pe_int (fun _ _ => rfl))) (pe_ix ix_tup (pv 2) pe_int (fun _ _ => rfl))) (pe_op op_mul pe_int (pe_ix ix_tup (pv 2) pe_int (fun _ _ => rfl)))))
  (pss_cons (ps_set (i := 4) sc_l_right.nd rfl (Or.inl rfl) (pe_call G_l_edges (hr.mono (by decide)) rfl T.m_l_edges T.k_l_edges T.b_l_edges .nil pass0 (pa_cons (pv 0) (pa_cons (pv 3) pa_nil))))
  (pss_cons (ps_set (i := 5) sc_l_right.nd rfl (Or.inl rfl) (pe_call G_read_on (hr.mono (by decide)) rfl T.m_read_on T.k_read_on T.b_read_on .nil pass0 (pa_cons (pv 0) (pa_cons (pe_call G_l_lowest (hr.mono (by decide)) rfl T.m_l_lowest T.k_l_lowest T.b_l_lowest .nil pass0 (pa_cons (pe_ix ix_list (pv 4) pe_int (fun _ _ => rfl)) (pa_cons pe_int pa_nil))) pa_nil))))
  (pss_cons (ps_set (i := 6) sc_l_right.nd rfl (Or.inl rfl) (pe_call G_read_on (hr.mono (by decide)) rfl T.m_read_on T.k_read_on T.b_read_on .nil pass0 (pa_cons (pv 0) (pa_cons (pe_call G_l_lowest (hr.mono (by decide)) rfl T.m_l_lowest T.k_l_lowest T.b_l_lowest .nil pass0 (pa_cons (pe_ix ix_list (pv 4) pe_int (fun _ _ => rfl)) (pa_cons pe_int pa_nil))) pa_nil))))
  (pss_cons (ps_if (PW.pt (pw_or (pt_not (pt_val (pe_call G_l_is_number (hr.mono (by decide)) rfl T.m_l_is_number T.k_l_is_number T.b_l_is_number .nil pass0 (pa_cons (pv 5) pa_nil)))) (pw_or1 (pt_not (pt_val (pe_call G_l_is_number (hr.mono (by decide)) rfl T.m_l_is_number T.k_l_is_number T.b_l_is_number .nil pass0 (pa_cons (pv 6) pa_nil))))))) (pss_one (ps_ret pe_bl)) pss_nil)
  (pss_cons (ps_if (PW.pt (pw_or (pt_val (pe_call G_l_above (hr.mono (by decide)) rfl T.m_l_above T.k_l_above T.b_l_above .nil pass0 (pa_cons (pv 5) (pa_cons (pv 1) pa_nil)))) (pw_or1 (pt_val (pe_call G_l_above (hr.mono (by decide)) rfl T.m_l_above T.k_l_above T.b_l_above .nil pass0 (pa_cons (pv 1) (pa_cons (pv 6) pa_nil))))))) (pss_one (ps_ret pe_bl)) pss_nil)
  (pss_cons (ps_set (i := 7) sc_l_right.nd rfl (Or.inl rfl) (pe_call G_read_on (hr.mono (by decide)) rfl T.m_read_on T.k_read_on T.b_read_on .nil pass0 (pa_cons (pv 0) (pa_cons (pe_tup (pa_cons (pv 3) (pa_cons pe_int pa_nil))) pa_nil))))
  (pss_one (ps_ret (pe_and (pe_call G_l_is_number (hr.mono (by decide)) rfl T.m_l_is_number T.k_l_is_number T.b_l_is_number .nil pass0 (pa_cons (pv 7) pa_nil)) (pe_and (pe_not (pe_call G_l_above (hr.mono (by decide)) rfl T.m_l_above T.k_l_above T.b_l_above .nil pass0 (pa_cons (pv 5) (pa_cons (pv 7) pa_nil)))) (pe_one (pe_not (pe_call G_l_above (hr.mono (by decide)) rfl T.m_l_above T.k_l_above T.b_l_above .nil pass0 (pa_cons (pv 7) (pa_cons (pv 6) pa_nil))))))))))))))))), z_go (σ := [some _, some _, some _, none, none, none, none, none]) rfl ?_⟩
  walk_at "run"
  refine a_readN AS RT (by decide) ⟨_, hR⟩ (fun p1 H1 e1 f1 s1 R1 g3 h1 => ?_)
  have ev : My.qv e1 f1 = My.qv e f := (SC.eq h1 hR).mpr rfl
  obtain ⟨q1, q2⟩ := My.low_unique R1.pos RO.pos g3 g1 (My.eq_of_qv R1.ne RO.ne ev)
  subst q1 q2
  walk_at "run"
  refine z_alk ⟨0, _, _, by decide, .inl ⟨R1.s, (RO.keep s1).s⟩, rfl, fun j x y hx hy => ?_⟩ ?_
  · rw [hx] at hy
    cases hy
    exact two_int hx
  have b2y : My.Bd 2102 (2 * y) := (show My.Bd 2 2 by unfold My.Bd; decide).mul RT.bb
  walk_at "run"
  obtain ⟨r1, r2⟩ := round_qv (x := x) hy
  obtain ⟨hk, kk0, kk1⟩ := AS.round hR r1 r2
  generalize (2 * x + y) / (2 * y) = k at *
  have hlen := AS.len
  refine ⟨sc, k, len, R, dy, rfl, AS.keep s1, hk, fun pe H2 e0 ee s2 he ED => ?_⟩
  have d0 := ED.b0
  have d1 := ED.b1
  have d2 := ED.lo
  have d3 := ED.hi
  have hq : SqL K H2 pe [.int e0, .int ee] := SqL.of he
  walk_at "run"
  refine z_ixL hq rfl ?_
  walk_at "run"
  rename_i p3 H3 x3 y3 s3 R3 g5 v3
  refine a_readN (((AS.keep s1).keep s2).keep s3) R3 (by decide) (by rw [v3]; exact ED.a0) (fun p4 H4 x4 y4 s4 R4 g6 h4 => ?_)
  rw [v3] at h4
  walk_at "run"
  refine z_ixL (s4.seq (s3.seq hq)) rfl ?_
  walk_at "run"
  rename_i p5 H5 x5 y5 s5 R5 g7 v5
  refine a_readN (((((AS.keep s1).keep s2).keep s3).keep s4).keep s5) R5 (by decide) (by rw [v5]; exact ED.a1) (fun p6 H6 x6 y6 s6 R6 g8 h6 => ?_)
  rw [v5] at h6
  obtain ⟨i1, i2⟩ := ED.in_ _ _ hR r1 (by grind)
  have lo1 : ¬ e1 * y4 < x4 * f1 := by
    rw [← My.lt_qv RO.pos R4.pos, SC.lt hR h4]
    grind
  have hi1 : ¬ x6 * f1 < e1 * y6 := by
    rw [← My.lt_qv R6.pos RO.pos, SC.lt h6 hR]
    grind
  walk_at "run"
  refine z_iteD (fun z => absurd z lo1) (fun _ => ?_)
  walk_at "run"
  refine z_iteD (fun z => absurd z hi1) (fun _ => ?_)
  walk_at "run"
  rename_i p7 H7 n7 s7 e7
  have R7 : Pr K H7 p7 k 1 60 := pr_one e7 (by omega) (by omega)
  have A7 : AnyS K H7 sc R len dy := ((((((AS.keep s1).keep s2).keep s3).keep s4).keep s5).keep s6).keep s7
  refine a_readN A7 R7 (by decide) (by rw [My.qv_int]; exact hk) (fun p8 H8 x8 y8 s8 R8 g9 h8 => ?_)
  rw [My.qv_int] at h8
  obtain ⟨vk, hvk⟩ := hk
  obtain ⟨j1, j2⟩ := ED.in_ _ _ hvk (by grind) (by grind)
  have lo2 : ¬ x8 * y4 < x4 * y8 := by
    rw [← My.lt_qv R8.pos R4.pos, SC.lt h8 h4]
    grind
  have hi2 : ¬ x6 * y8 < x8 * y6 := by
    rw [← My.lt_qv R6.pos R8.pos, SC.lt h6 h8]
    grind
  walk_at "run"
  refine z_iteD (fun z => absurd z lo2) (fun _ => ?_)
  walk_at "run"
  rw [decide_eq_false hi2]
  exact q _ (by walk_at "sm")
theorem huge_cell {ns : List Int} (h : ∀ x ∈ ns, My.Bd 1048576 x) (k : Int) : Huge (cellAt ns k) := by
  unfold cellAt
  rw [List.getD_eq_getElem?_getD]
  cases q : ns[k.toNat]? with
  | none => exact .of (bd_60 (by decide) (by decide) : My.Bd 60 0) (by decide)
  | some x => exact .of (h x (List.mem_of_getElem? q)) (by decide)
theorem cut_ints {ns : List Int} : ∃ ms : List Int, cutV (ns.map V.int) (some 10) (some 63) = ms.map V.int ∧ ms.length ≤ ns.length := by
  refine ⟨((ns.drop (HT.sIx ns.length 0 (some 10))).take (HT.sIx ns.length ns.length (some 63) - HT.sIx ns.length 0 (some 10))), ?_, ?_⟩
  · unfold cutV
    rw [List.length_map, List.map_take, List.map_drop]
  · rw [List.length_take, List.length_drop]
    omega
theorem ok_law (T : Txt K mg t) : FnOk P w K mg base CX0 8 t.f_law t.d_law ["_law_script"] (sp_law K) := by
  have G_l_ends := ok_l_ends (P := P) (w := w) (base := base) T
  have G_l_cell_at := ok_l_cell_at (P := P) (w := w) (base := base) T
  have G_l_scale := ok_l_scale (P := P) (w := w) (base := base) T
  have G_l_cell := ok_l_cell (P := P) (w := w) (base := base) T
  have G_l_handed := ok_l_handed (P := P) (w := w) (base := base) T
  have G_place_on := ok_place_on (P := P) (w := w) (base := base) T
  have G_l_right := ok_l_right (P := P) (w := w) (base := base) T
  refine T.F_law.ok sc_law (fun vs H Q E h => ?_) (fun cdv A outer s H vs Q E hr h => ?_)
  · obtain ⟨a, ns, rfl, _⟩ := h
    rfl
  obtain ⟨a, ns, rfl, hS, hlen, hbt, q⟩ := h
  refine ⟨_, (pss_cons (ps_set (i := 1) sc_law.nd rfl (Or.inl rfl) (pe_call G_l_ends (hr.mono (by decide)) rfl T.m_l_ends T.k_l_ends T.b_l_ends .nil pass0 (pa_cons (pv 0) (pa_cons (pe_op op_add pe_int (pe_op op_mul pe_int (pe_op op_mod (pe_call G_l_cell_at (hr.mono (by decide)) rfl T.m_l_cell_at T.k_l_cell_at T.b_l_cell_at .nil pass0 (pa_cons (pv 0) (pa_cons pe_int pa_nil))) pe_int))) pa_nil))))
  (pss_cons (ps_set (i := 2) sc_law.nd rfl (Or.inl rfl) (pe_op op_add pe_int (pe_op op_mod (pe_call G_l_cell_at (hr.mono (by decide)) rfl T.m_l_cell_at T.k_l_cell_at T.b_l_cell_at .nil pass0 (pa_cons (pv 0) (pa_cons pe_int pa_nil))) pe_int)))
  (pss_cons (ps_set (i := 3) sc_law.nd rfl (Or.inl rfl) (pe_call G_l_scale (hr.mono (by decide)) rfl T.m_l_scale T.k_l_scale T.b_l_scale .nil pass0 (pa_cons (pv 0) (pa_cons (pv 1) (pa_cons (pv 2) pa_nil)))))
  (pss_cons (ps_for PassesOwn.never rfl (pi_list (pe_op op_cat (pe_slice sl_list (pv 0) (po_some pe_int) (po_some pe_int)) (pe_lst (pa_cons pe_int pa_nil)))) (pg_name (i := 4) sc_law.nd rfl (Or.inl rfl)) (pss_cons (ps_set (i := 5) sc_law.nd rfl (Or.inl rfl) (pe_call G_l_cell (hr.mono (by decide)) rfl T.m_l_cell T.k_l_cell T.b_l_cell .nil pass0 (pa_cons (pv 3) (pa_cons (pv 1) (pa_cons (pv 2) (pa_cons (pv 4) pa_nil))))))
  (pss_cons (ps_set (i := 6) sc_law.nd rfl (Or.inl rfl) (pe_call G_place_on (hr.mono (by decide)) rfl T.m_place_on T.k_place_on T.b_place_on .nil pass0 (pa_cons (pv 3) (pa_cons (pe_call G_l_handed (hr.mono (by decide)) rfl T.m_l_handed T.k_l_handed T.b_l_handed .nil pass0 (pa_cons (pv 3) (pa_cons (pv 5) pa_nil))) pa_nil))))
  (pss_one (ps_if (PW.pt (pw_and (pt_not (pt_val (pe_isi isi_str rfl rfl T.z_isinstance T.z_str bt_str (pv 6)))) (pw_and1 (pt_not (pt_val (pe_call G_l_right (hr.mono (by decide)) rfl T.m_l_right T.k_l_right T.b_l_right .nil pass0 (pa_cons (pv 3) (pa_cons (pv 5) (pa_cons (pv 6) pa_nil))))))))) (pss_one (ps_ret pe_bl)) pss_nil)))))
  (pss_one (ps_ret pe_bl)))))), z_go (σ := [some _, none, none, none, none, none, none]) rfl ?_⟩
  walk_at "run"
  refine ⟨a, ns, _, rfl, hS, by omega, by omega, by omega, fun pe H1 es s1 hE h8 => ?_⟩
  have hS1 := s1.seq hS
  walk_at "run"
  have b0 : 0 < 1 + cellAt ns 9 % 99991 := by omega
  have b1 : 1 + cellAt ns 9 % 99991 ≤ 100000 := by omega
  generalize 1 + cellAt ns 9 % 99991 = bt at *
  refine ⟨a, pe, ns, es, bt, rfl, hS1, hE, h8, b0, b1, huge_cell hbt 0, fun sc H2 s2 hI => ?_⟩
  have hE2 := s2.seq hE
  have hS2 := s2.seq hS1
  generalize (if decide (10 ^ (18 : Int).toNat ≤ cellAt ns 0) = true then cellAt ns 0 else (cellAt ns 0 % 2147483647 * 48271 + 11) % 2147483647) / 4 = cc at *
  obtain ⟨R, len, dy, hA, hdy⟩ := hI.any h8 b0
  walk_at "run"
  refine z_slL hS2 (fun l1 H5 s5 hl1 => ?_)
  walk_at "run"
  refine z_mkl (Nat.le_of_ble_eq_true rfl) (fun l2 H6 _ s6 hl2 => ?_)
  obtain ⟨ms, em, hms⟩ := cut_ints (ns := ns)
  rw [em] at hl1
  refine z_cat (s6 _ _ hl1) hl2 (by rw [List.length_map]; exact Nat.le_trans (show ms.length + 1 ≤ 100 by omega) (by decide)) (fun l3 H7 s7 hl3 => ?_)
  have el : ms.map V.int ++ [V.int 0] = (ms ++ [0]).map V.int := by rw [List.map_append]; rfl
  rw [el] at hl3
  have s47 : Same H2 H7 := s5.trans (s6.trans s7)
  have hI7 := hI.keep s47
  have hA7 := hA.keep s47
  have hE7 := s47.seq hE2
  have hl3' : SqL K H7 l3 ((ms ++ [0]).map V.int) := SqL.of hl3
  clear s5 s6 s7 hl1 hl2 hl3 em el s47 hI hA hE2 hS2 hE hS1 hS s1 s2
  walk_at "run"
  refine f_list (K := K) (xs := (ms ++ [0]).map V.int) (fun i σ H8 => (∃ u1 u2 u3, σ = [some (.ref a), some (.ref pe), some (.int bt), some (.ref sc), u1, u2, u3]) ∧ Same H7 H8) ⟨⟨none, none, none, rfl⟩, Same.refl _⟩ (fun i σ H8 _ ⟨_, e2⟩ => e2.seq hl3') ?_ ?_
  · rintro i v σ H8 hi ⟨⟨u1, u2, u3, rfl⟩, s8⟩
    obtain ⟨c, hc, rfl⟩ := of_map_at hi
    have hI8 := hI7.keep s8
    have hA8 := hA7.keep s8
    have hE8 := s8.seq hE7
    walk_at "run"
    refine ⟨sc, pe, es, bt, c, _, _, _, _, dy, rfl, hI8, hE8, h8, b0, b1, hdy, fun po H9 e f s9 R9 g9 d9 => ?_⟩
    have hI9 := hI8.keep s9
    have hA9 := hA8.keep s9
    clear hI8 hA8 hE8
    walk_at "run"
    cases dy with
    | true =>
      obtain ⟨f1, e0, e9⟩ := d9 rfl
      subst f1
      refine ⟨sc, po, es, bt, _, _, _, _, e, 1, _, true, rfl, hI9, R9, hdy, fun _ => ?_, (fun z => nomatch z)⟩
      walk_at "run"
      refine a_placeD hA9 e0 e9 (fun x HA sA _ => ?_) (fun pt HA u v sA RA gA hR => ?_)
      · walk_at "run"
        exact ⟨⟨_, _, _, rfl⟩, s8.trans (s9.trans sA)⟩
      · have kA := RA.s
        rw [← My.qv_int e] at hR
        walk_at "run"
        refine ⟨sc, po, pt, e, 1, u, v, len, R, true, rfl, hA9.keep sA, R9.keep sA, g9, RA, gA, hR, fun HB sB => ?_⟩
        walk_at "run"
        exact ⟨⟨_, _, _, rfl⟩, s8.trans (s9.trans (sA.trans sB))⟩
    | false =>
      refine ⟨sc, po, es, bt, _, _, _, _, e, f, _, false, rfl, hI9, R9, hdy, (fun z => nomatch z), fun _ => ?_⟩
      walk_at "run"
      refine a_placeN hA9 R9 (by decide) (fun x HA sA _ => ?_) (fun pt HA u v sA RA gA hR => ?_)
      · walk_at "run"
        exact ⟨⟨_, _, _, rfl⟩, s8.trans (s9.trans sA)⟩
      · have kA := RA.s
        walk_at "run"
        refine ⟨sc, po, pt, e, f, u, v, len, R, false, rfl, hA9.keep sA, R9.keep sA, g9, RA, gA, hR, fun HB sB => ?_⟩
        walk_at "run"
        exact ⟨⟨_, _, _, rfl⟩, s8.trans (s9.trans (sA.trans sB))⟩
  · rintro σ H8 ⟨⟨u1, u2, u3, rfl⟩, s8⟩
    walk_at "run"
    exact q _
end
theorem all_mk {l : PySem.W.OpenLaw} {w : World} {K : PySem.W.Frag} {h : Heap} {mg : Str → Option Value} {fa f0 f1 f2 f3 f4 f5 f6 f7 f8 f9 f10 f11 f12 f13 f14 f15 f16 f17 f18 f19 f20 f21 f22 f23 f24 f25 f26 f27 f28 f29 f30 f31 f32 f33 f34 f35 f36 f37 f38 C_NoNumber dT2 : Addr} (X : K.In h) (G : h.Ns mainGlobals mg) (hfa : mg "law" = some (.ref fa))
    {od0 an0 od1 an1 od2 an2 od3 an3 od4 an4 od5 an5 od6 an6 od7 an7 od8 an8 od9 an9 od10 an10 od11 an11 od12 an12 od13 an13 od14 an14 od15 an15 od16 an16 od17 an17 od18 an18 od19 an19 od20 an20 od21 an21 od22 an22 od23 an23 od24 an24 od25 an25 od26 an26 od27 an27 od28 an28 od29 an29 od30 an30 od31 an31 od32 an32 od33 an33 od34 an34 od35 an35 od36 an36 od37 an37 od38 an38 : Option Addr} {sl0 sl1 sl2 sl3 sl4 sl5 sl6 sl7 sl8 sl9 sl10 sl11 sl12 sl13 sl14 sl15 sl16 sl17 sl18 sl19 sl20 sl21 sl22 sl23 sl24 sl25 sl26 sl27 sl28 sl29 sl30 sl31 sl32 sl33 sl34 sl35 sl36 sl37 sl38 : Array (Option Value)} {oc0 kV0 dc0 pm0 cd0 ct0 oc1 kV1 dc1 pm1 cd1 ct1 oc2 kV2 dc2 pm2 cd2 ct2 oc3 kV3 dc3 pm3 cd3 ct3 oc4 kV4 dc4 pm4 cd4 ct4 oc5 kV5 dc5 pm5 cd5 ct5 oc6 kV6 dc6 pm6 cd6 ct6 oc7 kV7 dc7 pm7 cd7 ct7 oc8 kV8 dc8 pm8 cd8 ct8 oc9 kV9 dc9 pm9 cd9 ct9 oc10 kV10 dc10 pm10 cd10 ct10 oc11 kV11 dc11 pm11 cd11 ct11 oc12 kV12 dc12 pm12 cd12 ct12 oc13 kV13 dc13 pm13 cd13 ct13 oc14 kV14 dc14 pm14 cd14 ct14 oc15 kV15 dc15 pm15 cd15 ct15 oc16 kV16 dc16 pm16 cd16 ct16 oc17 kV17 dc17 pm17 cd17 ct17 oc18 kV18 dc18 pm18 cd18 ct18 oc19 kV19 dc19 pm19 cd19 ct19 oc20 kV20 dc20 pm20 cd20 ct20 oc21 kV21 dc21 pm21 cd21 ct21 oc22 kV22 dc22 pm22 cd22 ct22 oc23 kV23 dc23 pm23 cd23 ct23 oc24 kV24 dc24 pm24 cd24 ct24 oc25 kV25 dc25 pm25 cd25 ct25 oc26 kV26 dc26 pm26 cd26 ct26 oc27 kV27 dc27 pm27 cd27 ct27 oc28 kV28 dc28 pm28 cd28 ct28 oc29 kV29 dc29 pm29 cd29 ct29 oc30 kV30 dc30 pm30 cd30 ct30 oc31 kV31 dc31 pm31 cd31 ct31 oc32 kV32 dc32 pm32 cd32 ct32 oc33 kV33 dc33 pm33 cd33 ct33 oc34 kV34 dc34 pm34 cd34 ct34 oc35 kV35 dc35 pm35 cd35 ct35 oc36 kV36 dc36 pm36 cd36 ct36 oc37 kV37 dc37 pm37 cd37 ct37 oc38 kV38 dc38 pm38 cd38 ct38 : Value}
    {tc2 : Value} {td2 : Option Addr} {tn2 : Nat} {ts2 : Array (Option Value)} {tk2 : Tok}
    (a0 : PySem.W.nsIn K mainGlobals "is_whole" = some (some (.ref f0))) (l0 : K.lookup f0 = some ⟨oc0, od0, .func (PySem.W.fnOf "is_whole" "is_whole" (defArgs s_is_whole) (defBody s_is_whole) (defScope s_is_whole) .none kV0 dc0 pm0 an0 cd0 ct0), sl0⟩) (c0 : PySem.W.codeIn K cd0 "is_whole" = true) (k0 : PySem.W.keepIn K (.ref f0) = true)
    (a1 : PySem.W.nsIn K mainGlobals "divisor_of" = some (some (.ref f1))) (l1 : K.lookup f1 = some ⟨oc1, od1, .func (PySem.W.fnOf "divisor_of" "divisor_of" (defArgs s_divisor_of) (defBody s_divisor_of) (defScope s_divisor_of) .none kV1 dc1 pm1 an1 cd1 ct1), sl1⟩) (c1 : PySem.W.codeIn K cd1 "divisor_of" = true) (k1 : PySem.W.keepIn K (.ref f1) = true)
    (a2 : PySem.W.nsIn K mainGlobals "number" = some (some (.ref f2))) (l2 : K.lookup f2 = some ⟨oc2, od2, .func (PySem.W.fnOf "number" "number" (defArgs s_number) (defBody s_number) (defScope s_number) (.ref dT2) kV2 dc2 pm2 an2 cd2 ct2), sl2⟩) (c2 : PySem.W.codeIn K cd2 "number" = true) (k2 : PySem.W.keepIn K (.ref f2) = true)
    (dl2 : K.lookup dT2 = some ⟨tc2, td2, .seq #[.int 1 tk2] tn2, ts2⟩)
    (a3 : PySem.W.nsIn K mainGlobals "plus" = some (some (.ref f3))) (l3 : K.lookup f3 = some ⟨oc3, od3, .func (PySem.W.fnOf "plus" "plus" (defArgs s_plus) (defBody s_plus) (defScope s_plus) .none kV3 dc3 pm3 an3 cd3 ct3), sl3⟩) (c3 : PySem.W.codeIn K cd3 "plus" = true) (k3 : PySem.W.keepIn K (.ref f3) = true)
    (a4 : PySem.W.nsIn K mainGlobals "minus" = some (some (.ref f4))) (l4 : K.lookup f4 = some ⟨oc4, od4, .func (PySem.W.fnOf "minus" "minus" (defArgs s_minus) (defBody s_minus) (defScope s_minus) .none kV4 dc4 pm4 an4 cd4 ct4), sl4⟩) (c4 : PySem.W.codeIn K cd4 "minus" = true) (k4 : PySem.W.keepIn K (.ref f4) = true)
    (a5 : PySem.W.nsIn K mainGlobals "times" = some (some (.ref f5))) (l5 : K.lookup f5 = some ⟨oc5, od5, .func (PySem.W.fnOf "times" "times" (defArgs s_times) (defBody s_times) (defScope s_times) .none kV5 dc5 pm5 an5 cd5 ct5), sl5⟩) (c5 : PySem.W.codeIn K cd5 "times" = true) (k5 : PySem.W.keepIn K (.ref f5) = true)
    (a6 : PySem.W.nsIn K mainGlobals "over" = some (some (.ref f6))) (l6 : K.lookup f6 = some ⟨oc6, od6, .func (PySem.W.fnOf "over" "over" (defArgs s_over) (defBody s_over) (defScope s_over) .none kV6 dc6 pm6 an6 cd6 ct6), sl6⟩) (c6 : PySem.W.codeIn K cd6 "over" = true) (k6 : PySem.W.keepIn K (.ref f6) = true)
    (a7 : PySem.W.nsIn K mainGlobals "under" = some (some (.ref f7))) (l7 : K.lookup f7 = some ⟨oc7, od7, .func (PySem.W.fnOf "under" "under" (defArgs s_under) (defBody s_under) (defScope s_under) .none kV7 dc7 pm7 an7 cd7 ct7), sl7⟩) (c7 : PySem.W.codeIn K cd7 "under" = true) (k7 : PySem.W.keepIn K (.ref f7) = true)
    (a8 : PySem.W.nsIn K mainGlobals "floor_of" = some (some (.ref f8))) (l8 : K.lookup f8 = some ⟨oc8, od8, .func (PySem.W.fnOf "floor_of" "floor_of" (defArgs s_floor_of) (defBody s_floor_of) (defScope s_floor_of) .none kV8 dc8 pm8 an8 cd8 ct8), sl8⟩) (c8 : PySem.W.codeIn K cd8 "floor_of" = true) (k8 : PySem.W.keepIn K (.ref f8) = true)
    (a9 : PySem.W.nsIn K mainGlobals "straight_place" = some (some (.ref f9))) (l9 : K.lookup f9 = some ⟨oc9, od9, .func (PySem.W.fnOf "straight_place" "straight_place" (defArgs s_straight_place) (defBody s_straight_place) (defScope s_straight_place) .none kV9 dc9 pm9 an9 cd9 ct9), sl9⟩) (c9 : PySem.W.codeIn K cd9 "straight_place" = true) (k9 : PySem.W.keepIn K (.ref f9) = true)
    (a10 : PySem.W.nsIn K mainGlobals "straight_back" = some (some (.ref f10))) (l10 : K.lookup f10 = some ⟨oc10, od10, .func (PySem.W.fnOf "straight_back" "straight_back" (defArgs s_straight_back) (defBody s_straight_back) (defScope s_straight_back) .none kV10 dc10 pm10 an10 cd10 ct10), sl10⟩) (c10 : PySem.W.codeIn K cd10 "straight_back" = true) (k10 : PySem.W.keepIn K (.ref f10) = true)
    (a11 : PySem.W.nsIn K mainGlobals "is_within" = some (some (.ref f11))) (l11 : K.lookup f11 = some ⟨oc11, od11, .func (PySem.W.fnOf "is_within" "is_within" (defArgs s_is_within) (defBody s_is_within) (defScope s_is_within) .none kV11 dc11 pm11 an11 cd11 ct11), sl11⟩) (c11 : PySem.W.codeIn K cd11 "is_within" = true) (k11 : PySem.W.keepIn K (.ref f11) = true)
    (a12 : PySem.W.nsIn K mainGlobals "power_of" = some (some (.ref f12))) (l12 : K.lookup f12 = some ⟨oc12, od12, .func (PySem.W.fnOf "power_of" "power_of" (defArgs s_power_of) (defBody s_power_of) (defScope s_power_of) .none kV12 dc12 pm12 an12 cd12 ct12), sl12⟩) (c12 : PySem.W.codeIn K cd12 "power_of" = true) (k12 : PySem.W.keepIn K (.ref f12) = true)
    (a13 : PySem.W.nsIn K mainGlobals "power_below" = some (some (.ref f13))) (l13 : K.lookup f13 = some ⟨oc13, od13, .func (PySem.W.fnOf "power_below" "power_below" (defArgs s_power_below) (defBody s_power_below) (defScope s_power_below) .none kV13 dc13 pm13 an13 cd13 ct13), sl13⟩) (c13 : PySem.W.codeIn K cd13 "power_below" = true) (k13 : PySem.W.keepIn K (.ref f13) = true)
    (a14 : PySem.W.nsIn K mainGlobals "place_on_straight" = some (some (.ref f14))) (l14 : K.lookup f14 = some ⟨oc14, od14, .func (PySem.W.fnOf "place_on_straight" "place_on_straight" (defArgs s_place_on_straight) (defBody s_place_on_straight) (defScope s_place_on_straight) .none kV14 dc14 pm14 an14 cd14 ct14), sl14⟩) (c14 : PySem.W.codeIn K cd14 "place_on_straight" = true) (k14 : PySem.W.keepIn K (.ref f14) = true)
    (a15 : PySem.W.nsIn K mainGlobals "place_on_turns" = some (some (.ref f15))) (l15 : K.lookup f15 = some ⟨oc15, od15, .func (PySem.W.fnOf "place_on_turns" "place_on_turns" (defArgs s_place_on_turns) (defBody s_place_on_turns) (defScope s_place_on_turns) .none kV15 dc15 pm15 an15 cd15 ct15), sl15⟩) (c15 : PySem.W.codeIn K cd15 "place_on_turns" = true) (k15 : PySem.W.keepIn K (.ref f15) = true)
    (a16 : PySem.W.nsIn K mainGlobals "place_on_broken" = some (some (.ref f16))) (l16 : K.lookup f16 = some ⟨oc16, od16, .func (PySem.W.fnOf "place_on_broken" "place_on_broken" (defArgs s_place_on_broken) (defBody s_place_on_broken) (defScope s_place_on_broken) .none kV16 dc16 pm16 an16 cd16 ct16), sl16⟩) (c16 : PySem.W.codeIn K cd16 "place_on_broken" = true) (k16 : PySem.W.keepIn K (.ref f16) = true)
    (a17 : PySem.W.nsIn K mainGlobals "place_on_days" = some (some (.ref f17))) (l17 : K.lookup f17 = some ⟨oc17, od17, .func (PySem.W.fnOf "place_on_days" "place_on_days" (defArgs s_place_on_days) (defBody s_place_on_days) (defScope s_place_on_days) .none kV17 dc17 pm17 an17 cd17 ct17), sl17⟩) (c17 : PySem.W.codeIn K cd17 "place_on_days" = true) (k17 : PySem.W.keepIn K (.ref f17) = true)
    (a18 : PySem.W.nsIn K mainGlobals "place_on_order" = some (some (.ref f18))) (l18 : K.lookup f18 = some ⟨oc18, od18, .func (PySem.W.fnOf "place_on_order" "place_on_order" (defArgs s_place_on_order) (defBody s_place_on_order) (defScope s_place_on_order) .none kV18 dc18 pm18 an18 cd18 ct18), sl18⟩) (c18 : PySem.W.codeIn K cd18 "place_on_order" = true) (k18 : PySem.W.keepIn K (.ref f18) = true)
    (a19 : PySem.W.nsIn K mainGlobals "place_on" = some (some (.ref f19))) (l19 : K.lookup f19 = some ⟨oc19, od19, .func (PySem.W.fnOf "place_on" "place_on" (defArgs s_place_on) (defBody s_place_on) (defScope s_place_on) .none kV19 dc19 pm19 an19 cd19 ct19), sl19⟩) (c19 : PySem.W.codeIn K cd19 "place_on" = true) (k19 : PySem.W.keepIn K (.ref f19) = true)
    (a20 : PySem.W.nsIn K mainGlobals "read_on_turns" = some (some (.ref f20))) (l20 : K.lookup f20 = some ⟨oc20, od20, .func (PySem.W.fnOf "read_on_turns" "read_on_turns" (defArgs s_read_on_turns) (defBody s_read_on_turns) (defScope s_read_on_turns) .none kV20 dc20 pm20 an20 cd20 ct20), sl20⟩) (c20 : PySem.W.codeIn K cd20 "read_on_turns" = true) (k20 : PySem.W.keepIn K (.ref f20) = true)
    (a21 : PySem.W.nsIn K mainGlobals "read_on_broken" = some (some (.ref f21))) (l21 : K.lookup f21 = some ⟨oc21, od21, .func (PySem.W.fnOf "read_on_broken" "read_on_broken" (defArgs s_read_on_broken) (defBody s_read_on_broken) (defScope s_read_on_broken) .none kV21 dc21 pm21 an21 cd21 ct21), sl21⟩) (c21 : PySem.W.codeIn K cd21 "read_on_broken" = true) (k21 : PySem.W.keepIn K (.ref f21) = true)
    (a22 : PySem.W.nsIn K mainGlobals "read_on" = some (some (.ref f22))) (l22 : K.lookup f22 = some ⟨oc22, od22, .func (PySem.W.fnOf "read_on" "read_on" (defArgs s_read_on) (defBody s_read_on) (defScope s_read_on) .none kV22 dc22 pm22 an22 cd22 ct22), sl22⟩) (c22 : PySem.W.codeIn K cd22 "read_on" = true) (k22 : PySem.W.keepIn K (.ref f22) = true)
    (a23 : PySem.W.nsIn K mainGlobals "_law_cell_at" = some (some (.ref f23))) (l23 : K.lookup f23 = some ⟨oc23, od23, .func (PySem.W.fnOf "_law_cell_at" "_law_cell_at" (defArgs s_l_cell_at) (defBody s_l_cell_at) (defScope s_l_cell_at) .none kV23 dc23 pm23 an23 cd23 ct23), sl23⟩) (c23 : PySem.W.codeIn K cd23 "_law_cell_at" = true) (k23 : PySem.W.keepIn K (.ref f23) = true)
    (a24 : PySem.W.nsIn K mainGlobals "_law_divisor" = some (some (.ref f24))) (l24 : K.lookup f24 = some ⟨oc24, od24, .func (PySem.W.fnOf "_law_divisor" "_law_divisor" (defArgs s_l_divisor) (defBody s_l_divisor) (defScope s_l_divisor) .none kV24 dc24 pm24 an24 cd24 ct24), sl24⟩) (c24 : PySem.W.codeIn K cd24 "_law_divisor" = true) (k24 : PySem.W.keepIn K (.ref f24) = true)
    (a25 : PySem.W.nsIn K mainGlobals "_law_lowest" = some (some (.ref f25))) (l25 : K.lookup f25 = some ⟨oc25, od25, .func (PySem.W.fnOf "_law_lowest" "_law_lowest" (defArgs s_l_lowest) (defBody s_l_lowest) (defScope s_l_lowest) .none kV25 dc25 pm25 an25 cd25 ct25), sl25⟩) (c25 : PySem.W.codeIn K cd25 "_law_lowest" = true) (k25 : PySem.W.keepIn K (.ref f25) = true)
    (a26 : PySem.W.nsIn K mainGlobals "_law_is_number" = some (some (.ref f26))) (l26 : K.lookup f26 = some ⟨oc26, od26, .func (PySem.W.fnOf "_law_is_number" "_law_is_number" (defArgs s_l_is_number) (defBody s_l_is_number) (defScope s_l_is_number) .none kV26 dc26 pm26 an26 cd26 ct26), sl26⟩) (c26 : PySem.W.codeIn K cd26 "_law_is_number" = true) (k26 : PySem.W.keepIn K (.ref f26) = true)
    (a27 : PySem.W.nsIn K mainGlobals "_law_mixed" = some (some (.ref f27))) (l27 : K.lookup f27 = some ⟨oc27, od27, .func (PySem.W.fnOf "_law_mixed" "_law_mixed" (defArgs s_l_mixed) (defBody s_l_mixed) (defScope s_l_mixed) .none kV27 dc27 pm27 an27 cd27 ct27), sl27⟩) (c27 : PySem.W.codeIn K cd27 "_law_mixed" = true) (k27 : PySem.W.keepIn K (.ref f27) = true)
    (a28 : PySem.W.nsIn K mainGlobals "_law_power" = some (some (.ref f28))) (l28 : K.lookup f28 = some ⟨oc28, od28, .func (PySem.W.fnOf "_law_power" "_law_power" (defArgs s_l_power) (defBody s_l_power) (defScope s_l_power) .none kV28 dc28 pm28 an28 cd28 ct28), sl28⟩) (c28 : PySem.W.codeIn K cd28 "_law_power" = true) (k28 : PySem.W.keepIn K (.ref f28) = true)
    (a29 : PySem.W.nsIn K mainGlobals "_law_ends" = some (some (.ref f29))) (l29 : K.lookup f29 = some ⟨oc29, od29, .func (PySem.W.fnOf "_law_ends" "_law_ends" (defArgs s_l_ends) (defBody s_l_ends) (defScope s_l_ends) .none kV29 dc29 pm29 an29 cd29 ct29), sl29⟩) (c29 : PySem.W.codeIn K cd29 "_law_ends" = true) (k29 : PySem.W.keepIn K (.ref f29) = true)
    (a30 : PySem.W.nsIn K mainGlobals "_law_pieces" = some (some (.ref f30))) (l30 : K.lookup f30 = some ⟨oc30, od30, .func (PySem.W.fnOf "_law_pieces" "_law_pieces" (defArgs s_l_pieces) (defBody s_l_pieces) (defScope s_l_pieces) .none kV30 dc30 pm30 an30 cd30 ct30), sl30⟩) (c30 : PySem.W.codeIn K cd30 "_law_pieces" = true) (k30 : PySem.W.keepIn K (.ref f30) = true)
    (a31 : PySem.W.nsIn K mainGlobals "_law_scale" = some (some (.ref f31))) (l31 : K.lookup f31 = some ⟨oc31, od31, .func (PySem.W.fnOf "_law_scale" "_law_scale" (defArgs s_l_scale) (defBody s_l_scale) (defScope s_l_scale) .none kV31 dc31 pm31 an31 cd31 ct31), sl31⟩) (c31 : PySem.W.codeIn K cd31 "_law_scale" = true) (k31 : PySem.W.keepIn K (.ref f31) = true)
    (a32 : PySem.W.nsIn K mainGlobals "_law_turned" = some (some (.ref f32))) (l32 : K.lookup f32 = some ⟨oc32, od32, .func (PySem.W.fnOf "_law_turned" "_law_turned" (defArgs s_l_turned) (defBody s_l_turned) (defScope s_l_turned) .none kV32 dc32 pm32 an32 cd32 ct32), sl32⟩) (c32 : PySem.W.codeIn K cd32 "_law_turned" = true) (k32 : PySem.W.keepIn K (.ref f32) = true)
    (a33 : PySem.W.nsIn K mainGlobals "_law_cell" = some (some (.ref f33))) (l33 : K.lookup f33 = some ⟨oc33, od33, .func (PySem.W.fnOf "_law_cell" "_law_cell" (defArgs s_l_cell) (defBody s_l_cell) (defScope s_l_cell) .none kV33 dc33 pm33 an33 cd33 ct33), sl33⟩) (c33 : PySem.W.codeIn K cd33 "_law_cell" = true) (k33 : PySem.W.keepIn K (.ref f33) = true)
    (a34 : PySem.W.nsIn K mainGlobals "_law_handed" = some (some (.ref f34))) (l34 : K.lookup f34 = some ⟨oc34, od34, .func (PySem.W.fnOf "_law_handed" "_law_handed" (defArgs s_l_handed) (defBody s_l_handed) (defScope s_l_handed) .none kV34 dc34 pm34 an34 cd34 ct34), sl34⟩) (c34 : PySem.W.codeIn K cd34 "_law_handed" = true) (k34 : PySem.W.keepIn K (.ref f34) = true)
    (a35 : PySem.W.nsIn K mainGlobals "_law_above" = some (some (.ref f35))) (l35 : K.lookup f35 = some ⟨oc35, od35, .func (PySem.W.fnOf "_law_above" "_law_above" (defArgs s_l_above) (defBody s_l_above) (defScope s_l_above) .none kV35 dc35 pm35 an35 cd35 ct35), sl35⟩) (c35 : PySem.W.codeIn K cd35 "_law_above" = true) (k35 : PySem.W.keepIn K (.ref f35) = true)
    (a36 : PySem.W.nsIn K mainGlobals "_law_edges" = some (some (.ref f36))) (l36 : K.lookup f36 = some ⟨oc36, od36, .func (PySem.W.fnOf "_law_edges" "_law_edges" (defArgs s_l_edges) (defBody s_l_edges) (defScope s_l_edges) .none kV36 dc36 pm36 an36 cd36 ct36), sl36⟩) (c36 : PySem.W.codeIn K cd36 "_law_edges" = true) (k36 : PySem.W.keepIn K (.ref f36) = true)
    (a37 : PySem.W.nsIn K mainGlobals "_law_right" = some (some (.ref f37))) (l37 : K.lookup f37 = some ⟨oc37, od37, .func (PySem.W.fnOf "_law_right" "_law_right" (defArgs s_l_right) (defBody s_l_right) (defScope s_l_right) .none kV37 dc37 pm37 an37 cd37 ct37), sl37⟩) (c37 : PySem.W.codeIn K cd37 "_law_right" = true) (k37 : PySem.W.keepIn K (.ref f37) = true)
    (a38 : PySem.W.nsIn K mainGlobals "law" = some (some (.ref f38))) (l38 : K.lookup f38 = some ⟨oc38, od38, .func (PySem.W.fnOf "law" "law" (defArgs s_law) (defBody s_law) (defScope s_law) .none kV38 dc38 pm38 an38 cd38 ct38), sl38⟩) (c38 : PySem.W.codeIn K cd38 "law" = true) (k38 : PySem.W.keepIn K (.ref f38) = true)
    (n_NoNumber : PySem.W.nsIn K mainGlobals "NoNumber" = some (some (.ref C_NoNumber))) (x_NoNumber : PySem.W.excIn K C_NoNumber bmVE "ValueError.__new__" = true) (e_NoNumber : PySem.W.exmOne K (.ref C_NoNumber) (.ref C_NoNumber) = some true)
    (z_isinstance : PySem.W.nsIn K mainGlobals "isinstance" = some none)
    (z_int : PySem.W.nsIn K mainGlobals "int" = some none)
    (z_bool : PySem.W.nsIn K mainGlobals "bool" = some none)
    (z_tuple : PySem.W.nsIn K mainGlobals "tuple" = some none)
    (z_str : PySem.W.nsIn K mainGlobals "str" = some none)
    (z_abs : PySem.W.nsIn K mainGlobals "abs" = some none)
    (z_len : PySem.W.nsIn K mainGlobals "len" = some none)
    (z_range : PySem.W.nsIn K mainGlobals "range" = some none)
    (z_max : PySem.W.nsIn K mainGlobals "max" = some none)
    (z_min : PySem.W.nsIn K mainGlobals "min" = some none)
    : ∃ fd : FuncData, (∀ (s : Shared) (v : Value), BindsTo s fd ⟨[v], []⟩ [("_law_script", v)]) ∧ ∀ base : Heap, K.In base → base.Ns mainGlobals mg → FnOk l.prog w K mg base CX0 8 fa fd ["_law_script"] (sp_law K) := by
  have e := hfa.symm.trans (PySem.W.mg_of X G a38)
  cases e
  have F0 := fun_mk (st := s_is_whole) l0 c0 k0
  have b0 := F0.binds (ps := ["thing"]) fun _ _ _ _ _ _ us hl => match us, hl with | [_], _ => rfl
  have F1 := fun_mk (st := s_divisor_of) l1 c1 k1
  have b1 := F1.binds (ps := ["one", "other"]) fun _ _ _ _ _ _ us hl => match us, hl with | [_, _], _ => rfl
  have F2 := fun_mkD (st := s_number) l2 c2 k2
  have b2 : Binds K (PySem.W.fnOf "number" "number" (defArgs s_number) (defBody s_number) (defScope s_number) (.ref dT2) kV2 dc2 pm2 an2 cd2 ct2) ["top", "bottom"] [] := fun s us X hl => match us, hl with | [_, _], _ => BindsTo.of_defaults rfl (X _ _ dl2) rfl rfl rfl
  have bd2 : ∃ ds, Vals [V.int 1] ds ∧ Binds K (PySem.W.fnOf "number" "number" (defArgs s_number) (defBody s_number) (defScope s_number) (.ref dT2) kV2 dc2 pm2 an2 cd2 ct2) ["top", "bottom"] ds := ⟨[.int 1 tk2], .cons ⟨_, rfl⟩ .nil, fun s us X hl => match us, (by simpa using hl : us.length = 1) with | [_], _ => BindsTo.of_defaults rfl (X _ _ dl2) rfl rfl rfl⟩
  have F3 := fun_mk (st := s_plus) l3 c3 k3
  have b3 := F3.binds (ps := ["one", "other"]) fun _ _ _ _ _ _ us hl => match us, hl with | [_, _], _ => rfl
  have F4 := fun_mk (st := s_minus) l4 c4 k4
  have b4 := F4.binds (ps := ["one", "other"]) fun _ _ _ _ _ _ us hl => match us, hl with | [_, _], _ => rfl
  have F5 := fun_mk (st := s_times) l5 c5 k5
  have b5 := F5.binds (ps := ["one", "other"]) fun _ _ _ _ _ _ us hl => match us, hl with | [_, _], _ => rfl
  have F6 := fun_mk (st := s_over) l6 c6 k6
  have b6 := F6.binds (ps := ["one", "other"]) fun _ _ _ _ _ _ us hl => match us, hl with | [_, _], _ => rfl
  have F7 := fun_mk (st := s_under) l7 c7 k7
  have b7 := F7.binds (ps := ["one", "other"]) fun _ _ _ _ _ _ us hl => match us, hl with | [_, _], _ => rfl
  have F8 := fun_mk (st := s_floor_of) l8 c8 k8
  have b8 := F8.binds (ps := ["one"]) fun _ _ _ _ _ _ us hl => match us, hl with | [_], _ => rfl
  have F9 := fun_mk (st := s_straight_place) l9 c9 k9
  have b9 := F9.binds (ps := ["one", "lo", "hi", "begin", "end"]) fun _ _ _ _ _ _ us hl => match us, hl with | [_, _, _, _, _], _ => rfl
  have F10 := fun_mk (st := s_straight_back) l10 c10 k10
  have b10 := F10.binds (ps := ["place", "lo", "hi", "begin", "end"]) fun _ _ _ _ _ _ us hl => match us, hl with | [_, _, _, _, _], _ => rfl
  have F11 := fun_mk (st := s_is_within) l11 c11 k11
  have b11 := F11.binds (ps := ["one", "lo", "hi"]) fun _ _ _ _ _ _ us hl => match us, hl with | [_, _, _], _ => rfl
  have F12 := fun_mk (st := s_power_of) l12 c12 k12
  have b12 := F12.binds (ps := ["base", "exponent"]) fun _ _ _ _ _ _ us hl => match us, hl with | [_, _], _ => rfl
  have F13 := fun_mk (st := s_power_below) l13 c13 k13
  have b13 := F13.binds (ps := ["base", "one"]) fun _ _ _ _ _ _ us hl => match us, hl with | [_, _], _ => rfl
  have F14 := fun_mk (st := s_place_on_straight) l14 c14 k14
  have b14 := F14.binds (ps := ["scale", "cell"]) fun _ _ _ _ _ _ us hl => match us, hl with | [_, _], _ => rfl
  have F15 := fun_mk (st := s_place_on_turns) l15 c15 k15
  have b15 := F15.binds (ps := ["scale", "cell"]) fun _ _ _ _ _ _ us hl => match us, hl with | [_, _], _ => rfl
  have F16 := fun_mk (st := s_place_on_broken) l16 c16 k16
  have b16 := F16.binds (ps := ["scale", "cell"]) fun _ _ _ _ _ _ us hl => match us, hl with | [_, _], _ => rfl
  have F17 := fun_mk (st := s_place_on_days) l17 c17 k17
  have b17 := F17.binds (ps := ["scale", "cell"]) fun _ _ _ _ _ _ us hl => match us, hl with | [_, _], _ => rfl
  have F18 := fun_mk (st := s_place_on_order) l18 c18 k18
  have b18 := F18.binds (ps := ["scale", "cell"]) fun _ _ _ _ _ _ us hl => match us, hl with | [_, _], _ => rfl
  have F19 := fun_mk (st := s_place_on) l19 c19 k19
  have b19 := F19.binds (ps := ["scale", "cell"]) fun _ _ _ _ _ _ us hl => match us, hl with | [_, _], _ => rfl
  have F20 := fun_mk (st := s_read_on_turns) l20 c20 k20
  have b20 := F20.binds (ps := ["scale", "place"]) fun _ _ _ _ _ _ us hl => match us, hl with | [_, _], _ => rfl
  have F21 := fun_mk (st := s_read_on_broken) l21 c21 k21
  have b21 := F21.binds (ps := ["scale", "place"]) fun _ _ _ _ _ _ us hl => match us, hl with | [_, _], _ => rfl
  have F22 := fun_mk (st := s_read_on) l22 c22 k22
  have b22 := F22.binds (ps := ["scale", "place"]) fun _ _ _ _ _ _ us hl => match us, hl with | [_, _], _ => rfl
  have F23 := fun_mk (st := s_l_cell_at) l23 c23 k23
  have b23 := F23.binds (ps := ["_law_script", "_law_k"]) fun _ _ _ _ _ _ us hl => match us, hl with | [_, _], _ => rfl
  have F24 := fun_mk (st := s_l_divisor) l24 c24 k24
  have b24 := F24.binds (ps := ["_law_one", "_law_other"]) fun _ _ _ _ _ _ us hl => match us, hl with | [_, _], _ => rfl
  have F25 := fun_mk (st := s_l_lowest) l25 c25 k25
  have b25 := F25.binds (ps := ["_law_top", "_law_bottom"]) fun _ _ _ _ _ _ us hl => match us, hl with | [_, _], _ => rfl
  have F26 := fun_mk (st := s_l_is_number) l26 c26 k26
  have b26 := F26.binds (ps := ["_law_thing"]) fun _ _ _ _ _ _ us hl => match us, hl with | [_], _ => rfl
  have F27 := fun_mk (st := s_l_mixed) l27 c27 k27
  have b27 := F27.binds (ps := ["_law_cell_here"]) fun _ _ _ _ _ _ us hl => match us, hl with | [_], _ => rfl
  have F28 := fun_mk (st := s_l_power) l28 c28 k28
  have b28 := F28.binds (ps := ["_law_base", "_law_many"]) fun _ _ _ _ _ _ us hl => match us, hl with | [_, _], _ => rfl
  have F29 := fun_mk (st := s_l_ends) l29 c29 k29
  have b29 := F29.binds (ps := ["_law_script", "_law_many"]) fun _ _ _ _ _ _ us hl => match us, hl with | [_, _], _ => rfl
  have F30 := fun_mk (st := s_l_pieces) l30 c30 k30
  have b30 := F30.binds (ps := ["_law_ends_here", "_law_bottom", "_law_cell_here"]) fun _ _ _ _ _ _ us hl => match us, hl with | [_, _, _], _ => rfl
  have F31 := fun_mk (st := s_l_scale) l31 c31 k31
  have b31 := F31.binds (ps := ["_law_script", "_law_ends_here", "_law_bottom"]) fun _ _ _ _ _ _ us hl => match us, hl with | [_, _, _], _ => rfl
  have F32 := fun_mk (st := s_l_turned) l32 c32 k32
  have b32 := F32.binds (ps := ["_law_scale_here", "_law_cell_here", "_law_far"]) fun _ _ _ _ _ _ us hl => match us, hl with | [_, _, _], _ => rfl
  have F33 := fun_mk (st := s_l_cell) l33 c33 k33
  have b33 := F33.binds (ps := ["_law_scale_here", "_law_ends_here", "_law_bottom", "_law_cell_here"]) fun _ _ _ _ _ _ us hl => match us, hl with | [_, _, _, _], _ => rfl
  have F34 := fun_mk (st := s_l_handed) l34 c34 k34
  have b34 := F34.binds (ps := ["_law_scale_here", "_law_cell_here"]) fun _ _ _ _ _ _ us hl => match us, hl with | [_, _], _ => rfl
  have F35 := fun_mk (st := s_l_above) l35 c35 k35
  have b35 := F35.binds (ps := ["_law_one", "_law_other"]) fun _ _ _ _ _ _ us hl => match us, hl with | [_, _], _ => rfl
  have F36 := fun_mk (st := s_l_edges) l36 c36 k36
  have b36 := F36.binds (ps := ["_law_scale_here", "_law_along"]) fun _ _ _ _ _ _ us hl => match us, hl with | [_, _], _ => rfl
  have F37 := fun_mk (st := s_l_right) l37 c37 k37
  have b37 := F37.binds (ps := ["_law_scale_here", "_law_one", "_law_told"]) fun _ _ _ _ _ _ us hl => match us, hl with | [_, _, _], _ => rfl
  have F38 := fun_mk (st := s_law) l38 c38 k38
  have b38 := F38.binds (ps := ["_law_script"]) fun _ _ _ _ _ _ us hl => match us, hl with | [_], _ => rfl
  have T : Txt K mg ⟨_, _, _, _, _, _, _, _, _, _, _, _, _, _, _, _, _, _, _, _, _, _, _, _, _, _, _, _, _, _, _, _, _, _, _, _, _, _, _, _, _, _, _, _, _, _, _, _, _, _, _, _, _, _, _, _, _, _, _, _, _, _, _, _, _, _, _, _, _, _, _, _, _, _, _, _, _, _, C_NoNumber⟩ := ⟨F0, PySem.W.mg_of X G a0, k0, b0, F1, PySem.W.mg_of X G a1, k1, b1, F2, PySem.W.mg_of X G a2, k2, b2, bd2, F3, PySem.W.mg_of X G a3, k3, b3, F4, PySem.W.mg_of X G a4, k4, b4, F5, PySem.W.mg_of X G a5, k5, b5, F6, PySem.W.mg_of X G a6, k6, b6, F7, PySem.W.mg_of X G a7, k7, b7, F8, PySem.W.mg_of X G a8, k8, b8, F9, PySem.W.mg_of X G a9, k9, b9, F10, PySem.W.mg_of X G a10, k10, b10, F11, PySem.W.mg_of X G a11, k11, b11, F12, PySem.W.mg_of X G a12, k12, b12, F13, PySem.W.mg_of X G a13, k13, b13, F14, PySem.W.mg_of X G a14, k14, b14, F15, PySem.W.mg_of X G a15, k15, b15, F16, PySem.W.mg_of X G a16, k16, b16, F17, PySem.W.mg_of X G a17, k17, b17, F18, PySem.W.mg_of X G a18, k18, b18, F19, PySem.W.mg_of X G a19, k19, b19, F20, PySem.W.mg_of X G a20, k20, b20, F21, PySem.W.mg_of X G a21, k21, b21, F22, PySem.W.mg_of X G a22, k22, b22, F23, PySem.W.mg_of X G a23, k23, b23, F24, PySem.W.mg_of X G a24, k24, b24, F25, PySem.W.mg_of X G a25, k25, b25, F26, PySem.W.mg_of X G a26, k26, b26, F27, PySem.W.mg_of X G a27, k27, b27, F28, PySem.W.mg_of X G a28, k28, b28, F29, PySem.W.mg_of X G a29, k29, b29, F30, PySem.W.mg_of X G a30, k30, b30, F31, PySem.W.mg_of X G a31, k31, b31, F32, PySem.W.mg_of X G a32, k32, b32, F33, PySem.W.mg_of X G a33, k33, b33, F34, PySem.W.mg_of X G a34, k34, b34, F35, PySem.W.mg_of X G a35, k35, b35, F36, PySem.W.mg_of X G a36, k36, b36, F37, PySem.W.mg_of X G a37, k37, b37, F38, PySem.W.mg_of X G a38, k38, b38, PySem.W.mg_of X G n_NoNumber, n_NoNumber, x_NoNumber, e_NoNumber, PySem.W.mg_none_of X G z_isinstance, PySem.W.mg_none_of X G z_int, PySem.W.mg_none_of X G z_bool, PySem.W.mg_none_of X G z_tuple, PySem.W.mg_none_of X G z_str, PySem.W.mg_none_of X G z_abs, PySem.W.mg_none_of X G z_len, PySem.W.mg_none_of X G z_range, PySem.W.mg_none_of X G z_max, PySem.W.mg_none_of X G z_min⟩
  exact ⟨PySem.W.fnOf "law" "law" (defArgs s_law) (defBody s_law) (defScope s_law) .none kV38 dc38 pm38 an38 cd38 ct38, fun s v => .of_eq rfl, fun base _ _ => ok_law T⟩
theorem walk {l : PySem.W.OpenLaw} {q : Program} {loose : List Str} {XP : (Str → Option Value) → Heap → Prop} {YP : World → Heap → Prop} {d : DefRec} {K : Params → PySem.W.Frag} (hn : l.most = some 63) (hdf : d.params.defaults = [])
    (hY : ∀ (w : World) (h : Heap), YP w h → (K w.params).In h)
    (F : ∀ (w : World) (mg : Str → Option Value) (fa : Addr) (h : Heap), (K w.params).In h → h.Ns mainGlobals mg → mg d.name = some (.ref fa) →
      ∃ fd : FuncData, (∀ (s : Shared) (u : Value), BindsTo s fd ⟨[u], []⟩ [("_law_script", u)]) ∧ ∀ base : Heap, (K w.params).In base → base.Ns mainGlobals mg → FnOk l.prog w (K w.params) mg base CX0 8 fa fd ["_law_script"] (sp_law (K w.params))) :
    PySem.W.WalkO q loose XP YP l.row.toRowW d [] (fun f vs => PySem.call f vs) :=
  L2.walk_ofB (n := 63) (k := 8) (x := "_law_script") (CX := fun _ => CX0) (sp := fun w => sp_law (K w.params)) hn (by decide) hdf ⟨rfl, by decide, by decide⟩ hY F (fun _ _ a ns hl hbt _ hS => ⟨a, ns, rfl, hS, hl, hbt, fun _ => rfl⟩) fun _ _ _ _ _ z => z
end MyLaw
open PySem PySem.W PyProof.Rows
set_option maxRecDepth 100000 in
set_option maxHeartbeats 0 in
theorem PySem.Challenge.cw_markscale_k24_whole_within_half_a_place_holds : PySem.Challenge.rw_markscale_k24_whole_within_half_a_place.Holds := by
  w_on; o_law; k_head; (case hw => w_witness2)
  k_fill
  refine MyLaw.walk (l := PySem.Challenge.rw_markscale_k24_whole_within_half_a_place) rfl rfl (fun w h Y => PySem.W.kIn_of Y) ?F
  case F =>
    intro w mg fa h KX G hmg
    refine' MyLaw.all_mk KX G hmg ?a0 ?l0 ?c0 ?k0 ?a1 ?l1 ?c1 ?k1 ?a2 ?l2 ?c2 ?k2 ?dl2 ?a3 ?l3 ?c3 ?k3 ?a4 ?l4 ?c4 ?k4 ?a5 ?l5 ?c5 ?k5 ?a6 ?l6 ?c6 ?k6 ?a7 ?l7 ?c7 ?k7 ?a8 ?l8 ?c8 ?k8 ?a9 ?l9 ?c9 ?k9 ?a10 ?l10 ?c10 ?k10 ?a11 ?l11 ?c11 ?k11 ?a12 ?l12 ?c12 ?k12 ?a13 ?l13 ?c13 ?k13 ?a14 ?l14 ?c14 ?k14 ?a15 ?l15 ?c15 ?k15 ?a16 ?l16 ?c16 ?k16 ?a17 ?l17 ?c17 ?k17 ?a18 ?l18 ?c18 ?k18 ?a19 ?l19 ?c19 ?k19 ?a20 ?l20 ?c20 ?k20 ?a21 ?l21 ?c21 ?k21 ?a22 ?l22 ?c22 ?k22 ?a23 ?l23 ?c23 ?k23 ?a24 ?l24 ?c24 ?k24 ?a25 ?l25 ?c25 ?k25 ?a26 ?l26 ?c26 ?k26 ?a27 ?l27 ?c27 ?k27 ?a28 ?l28 ?c28 ?k28 ?a29 ?l29 ?c29 ?k29 ?a30 ?l30 ?c30 ?k30 ?a31 ?l31 ?c31 ?k31 ?a32 ?l32 ?c32 ?k32 ?a33 ?l33 ?c33 ?k33 ?a34 ?l34 ?c34 ?k34 ?a35 ?l35 ?c35 ?k35 ?a36 ?l36 ?c36 ?k36 ?a37 ?l37 ?c37 ?k37 ?a38 ?l38 ?c38 ?k38 ?n_NoNumber ?x_NoNumber ?e_NoNumber ?z_isinstance ?z_int ?z_bool ?z_tuple ?z_str ?z_abs ?z_len ?z_range ?z_max ?z_min
    (case a0 => k_is)
    (case l0 => k_is)
    (case c0 => k_is)
    (case k0 => k_is)
    (case a1 => k_is)
    (case l1 => k_is)
    (case c1 => k_is)
    (case k1 => k_is)
    (case a2 => k_is)
    (case l2 => k_is)
    (case c2 => k_is)
    (case k2 => k_is)
    (case dl2 => k_is)
    (case a3 => k_is)
    (case l3 => k_is)
    (case c3 => k_is)
    (case k3 => k_is)
    (case a4 => k_is)
    (case l4 => k_is)
    (case c4 => k_is)
    (case k4 => k_is)
    (case a5 => k_is)
    (case l5 => k_is)
    (case c5 => k_is)
    (case k5 => k_is)
    (case a6 => k_is)
    (case l6 => k_is)
    (case c6 => k_is)
    (case k6 => k_is)
    (case a7 => k_is)
    (case l7 => k_is)
    (case c7 => k_is)
    (case k7 => k_is)
    (case a8 => k_is)
    (case l8 => k_is)
    (case c8 => k_is)
    (case k8 => k_is)
    (case a9 => k_is)
    (case l9 => k_is)
    (case c9 => k_is)
    (case k9 => k_is)
    (case a10 => k_is)
    (case l10 => k_is)
    (case c10 => k_is)
    (case k10 => k_is)
    (case a11 => k_is)
    (case l11 => k_is)
    (case c11 => k_is)
    (case k11 => k_is)
    (case a12 => k_is)
    (case l12 => k_is)
    (case c12 => k_is)
    (case k12 => k_is)
    (case a13 => k_is)
    (case l13 => k_is)
    (case c13 => k_is)
    (case k13 => k_is)
    (case a14 => k_is)
    (case l14 => k_is)
    (case c14 => k_is)
    (case k14 => k_is)
    (case a15 => k_is)
    (case l15 => k_is)
    (case c15 => k_is)
    (case k15 => k_is)
    (case a16 => k_is)
    (case l16 => k_is)
    (case c16 => k_is)
    (case k16 => k_is)
    (case a17 => k_is)
    (case l17 => k_is)
    (case c17 => k_is)
    (case k17 => k_is)
    (case a18 => k_is)
    (case l18 => k_is)
    (case c18 => k_is)
    (case k18 => k_is)
    (case a19 => k_is)
    (case l19 => k_is)
    (case c19 => k_is)
    (case k19 => k_is)
    (case a20 => k_is)
    (case l20 => k_is)
    (case c20 => k_is)
    (case k20 => k_is)
    (case a21 => k_is)
    (case l21 => k_is)
    (case c21 => k_is)
    (case k21 => k_is)
    (case a22 => k_is)
    (case l22 => k_is)
    (case c22 => k_is)
    (case k22 => k_is)
    (case a23 => k_is)
    (case l23 => k_is)
    (case c23 => k_is)
    (case k23 => k_is)
    (case a24 => k_is)
    (case l24 => k_is)
    (case c24 => k_is)
    (case k24 => k_is)
    (case a25 => k_is)
    (case l25 => k_is)
    (case c25 => k_is)
    (case k25 => k_is)
    (case a26 => k_is)
    (case l26 => k_is)
    (case c26 => k_is)
    (case k26 => k_is)
    (case a27 => k_is)
    (case l27 => k_is)
    (case c27 => k_is)
    (case k27 => k_is)
    (case a28 => k_is)
    (case l28 => k_is)
    (case c28 => k_is)
    (case k28 => k_is)
    (case a29 => k_is)
    (case l29 => k_is)
    (case c29 => k_is)
    (case k29 => k_is)
    (case a30 => k_is)
    (case l30 => k_is)
    (case c30 => k_is)
    (case k30 => k_is)
    (case a31 => k_is)
    (case l31 => k_is)
    (case c31 => k_is)
    (case k31 => k_is)
    (case a32 => k_is)
    (case l32 => k_is)
    (case c32 => k_is)
    (case k32 => k_is)
    (case a33 => k_is)
    (case l33 => k_is)
    (case c33 => k_is)
    (case k33 => k_is)
    (case a34 => k_is)
    (case l34 => k_is)
    (case c34 => k_is)
    (case k34 => k_is)
    (case a35 => k_is)
    (case l35 => k_is)
    (case c35 => k_is)
    (case k35 => k_is)
    (case a36 => k_is)
    (case l36 => k_is)
    (case c36 => k_is)
    (case k36 => k_is)
    (case a37 => k_is)
    (case l37 => k_is)
    (case c37 => k_is)
    (case k37 => k_is)
    (case a38 => k_is)
    (case l38 => k_is)
    (case c38 => k_is)
    (case k38 => k_is)
    (case n_NoNumber => k_is)
    (case x_NoNumber => k_exc)
    (case e_NoNumber => kts_exm)
    (case z_isinstance => k_is)
    (case z_int => k_is)
    (case z_bool => k_is)
    (case z_tuple => k_is)
    (case z_str => k_is)
    (case z_abs => k_is)
    (case z_len => k_is)
    (case z_range => k_is)
    (case z_max => k_is)
    (case z_min => k_is)
