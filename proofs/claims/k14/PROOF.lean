import PyProof.Rows.All
import Wide.All
import OpenK.AllK
import Wide.FinOn
import Lean
import PyProof.EqAt
import PyProof.EqKinds
import PyProof.TupleCall
import PyProof.NeKinds
import PyProof.SumWalkG
import PySem.Challenge.RW_markscale_k14_what_is_a_test
set_option compiler.extract_closed false
set_option Elab.async false
set_option linter.all false
set_option maxRecDepth 100000
namespace L2
open PySem PySem.Spec PyProof.Rows

abbrev Key := Sum Int Str
noncomputable def keyIs : Key → Value → Bool
  | .inl k, v => Value.isInt k v
  | .inr x, v => Value.isStrOf x v
noncomputable def keyH (w : World) : Key → Int
  | .inl k => hashInt k
  | .inr x => hashStr w x
theorem keyIs_shape : ∀ {k : Key} {v : Value}, keyIs k v = true → (∃ i t, k = Sum.inl i ∧ v = Value.int i t) ∨ (∃ x t, k = Sum.inr x ∧ v = Value.str x t)
  | .inl i, v, h => by
    obtain ⟨t, e⟩ := Value.isInt_shape (k := i) (v := v) h
    exact .inl ⟨i, t, rfl, e⟩
  | .inr x, v, h => by
    obtain ⟨t, e⟩ := Value.isStrOf_shape (x := x) (v := v) h
    exact .inr ⟨x, t, rfl, e⟩
theorem key_ll (a b : Int) : decide ((Sum.inl a : Key) = Sum.inl b) = (a == b) := by
  by_cases e : a = b
  · subst e; simp
  · have h : ¬ (Sum.inl a : Key) = Sum.inl b := fun q => e (Sum.inl.inj q)
    rw [decide_eq_false h]
    exact (beq_eq_false_iff_ne.mpr e).symm
theorem key_rr (a b : Str) : decide ((Sum.inr a : Key) = Sum.inr b) = decide (a = b) := by
  by_cases e : a = b
  · subst e; simp
  · have h : ¬ (Sum.inr a : Key) = Sum.inr b := fun q => e (Sum.inr.inj q)
    rw [decide_eq_false h, decide_eq_false e]
theorem key_lr (a : Int) (b : Str) : decide ((Sum.inl a : Key) = Sum.inr b) = false := decide_eq_false (fun q => nomatch q)
theorem key_rl (a : Str) (b : Int) : decide ((Sum.inr a : Key) = Sum.inl b) = false := decide_eq_false (fun q => nomatch q)

noncomputable def mixKind (prog : Program) (w : World) : PySem.KeyKind prog w Key where
  is := keyIs
  hash := keyH w
  inj := fun v a b ha hb => by
    rcases keyIs_shape ha with ⟨i, t, rfl, rfl⟩ | ⟨x, t, rfl, rfl⟩
    · rcases keyIs_shape hb with ⟨j, u, rfl, e⟩ | ⟨y, u, rfl, e⟩
      · injection e with e1 _; rw [e1]
      · exact nomatch e
    · rcases keyIs_shape hb with ⟨j, u, rfl, e⟩ | ⟨y, u, rfl, e⟩
      · exact nomatch e
      · injection e with e1 _; rw [e1]
  byValue := fun k v h => by
    rcases keyIs_shape h with ⟨i, t, rfl, rfl⟩ | ⟨x, t, rfl, rfl⟩ <;> rfl
  pyHash := fun hv h => by
    rcases keyIs_shape hv with ⟨i, t, rfl, rfl⟩ | ⟨x, t, rfl, rfl⟩
    · exact wpAny_pyHash_int h
    · exact wpAny_pyHash_str h
  eqBool := fun hu hv h => by
    rcases keyIs_shape hu with ⟨i, t, rfl, rfl⟩ | ⟨x, t, rfl, rfl⟩
    · rcases keyIs_shape hv with ⟨j, u, rfl, rfl⟩ | ⟨y, u, rfl, rfl⟩
      · rw [key_ll] at h; exact wpAny_eqBool_int h
      · rw [key_lr] at h; exact SeqAt.EqAt.int_str i t y u _ _ _ _ h
    · rcases keyIs_shape hv with ⟨j, u, rfl, rfl⟩ | ⟨y, u, rfl, rfl⟩
      · rw [key_rl] at h; exact SeqAt.EqAt.str_int x t j u _ _ _ _ h
      · rw [key_rr] at h; exact wpAny_eqBool_str h
  «strs» := fun k x t v h => by
    rcases keyIs_shape h with ⟨i, u, rfl, e⟩ | ⟨y, u, rfl, e⟩
    · exact nomatch e
    · injection e with e1 _
      subst e1
      cases v <;> rfl

end L2

namespace L2
open PySem PySem.Spec PyProof.Rows

inductive V where
  | non | bl (b : Bool) | int (i : Int) | str (x : Str) | byt (b : Array UInt8) | flt (b : UInt64) | ref (a : Addr) | ty (n : String)
  deriving DecidableEq

noncomputable def RelV : V → Value → Prop
  | .non, u => u = Value.none
  | .bl b, u => u = Value.bool b
  | .int i, u => ∃ t, u = Value.int i t
  | .str x, u => ∃ t, u = Value.str x t
  | .byt b, u => ∃ t, u = Value.bytes b t
  | .flt b, u => ∃ t, u = Value.float b t
  | .ref a, u => u = Value.ref a
  | .ty n, u => u = Value.type n

abbrev Vals : List V → List Value → Prop := Paired RelV
theorem Vals.length {xs : List V} {us : List Value} (r : Vals xs us) : xs.length = us.length := Paired.length r
theorem Vals.get : ∀ {xs : List V} {us : List Value} {i : Nat} {x : V}, Vals xs us → xs[i]? = some x → ∃ u, us[i]? = some u ∧ RelV x u
  | _, _, _, _, .nil, e => by simp at e
  | _, _, 0, _, .cons r _, e => by simp at e; subst e; exact ⟨_, rfl, r⟩
  | _, _, i + 1, x, .cons _ t, e => by
    obtain ⟨u, h1, h2⟩ := Vals.get (i := i) (x := x) t (by simpa using e)
    exact ⟨u, by simpa using h1, h2⟩
theorem Vals.set {x : V} {u : Value} (r : RelV x u) : ∀ {xs : List V} {us : List Value} (i : Nat), Vals xs us → Vals (xs.set i x) (us.set i u)
  | _, _, _, .nil => .nil
  | _, _, 0, .cons _ t => .cons r t
  | _, _, i + 1, .cons q t => .cons q (Vals.set r i t)
theorem Vals.append : ∀ {xs ys : List V} {us ws : List Value}, Vals xs us → Vals ys ws → Vals (xs ++ ys) (us ++ ws)
  | _, _, _, _, .nil, s => s
  | _, _, _, _, .cons r t, s => .cons r (Vals.append t s)
theorem Vals.take : ∀ {xs : List V} {us : List Value} (n : Nat), Vals xs us → Vals (xs.take n) (us.take n)
  | _, _, 0, _ => .nil
  | _, _, _ + 1, .nil => .nil
  | _, _, n + 1, .cons r t => .cons r (Vals.take n t)
theorem Vals.drop : ∀ {xs : List V} {us : List Value} (n : Nat), Vals xs us → Vals (xs.drop n) (us.drop n)
  | _, _, 0, r => r
  | _, _, _ + 1, .nil => .nil
  | _, _, n + 1, .cons _ t => Vals.drop n t
noncomputable def RelO : Option V → Option Value → Prop
  | some v, some u => RelV v u
  | none, none => True
  | _, _ => False
noncomputable def KV {κ : Type} : List (κ × V) → List (κ × Value) → Prop := Paired fun (p : κ × V) (q : κ × Value) => p.1 = q.1 ∧ RelV p.2 q.2

noncomputable def kV : Key → V
  | .inl i => .int i
  | .inr x => .str x

inductive HO where
  /-- a list -/
  | lst (xs : List V)
  /-- a tuple (never changes) -/
  | tup (xs : List V)
  /-- a dict whose keys are ints and texts; one whose keys are tuples of ints and texts (the empty one is both) -/
  | dK (kvs : List (Key × V)) | dT (kvs : List (List Key × V))
  /-- a set of ints: its members, its size -/
  | set (S : Int → Bool) (n : Nat)
  /-- an instance of the class at C, its dict at dx, its attributes -/
  | ins (C dx : Addr) (fs : List (Str × V))
  /-- the dict of the instance at x -/
  | own (x : Addr)
  /-- the dict of an exception -/
  | xd (fs : List (Str × V))
  /-- a bound method, f of x -/
  | met (f x : Addr)
  /-- a range object lo, lo + 1, .. below hi -/
  | rng (lo hi : Int)
  /-- a thing that is known to the object (the script; a dict while a loop walks it): read, never written while it is so -/
  | frz (o : Obj) (u : HO)
  /-- a code object's table -/
  | tbl (ps : Array Value)
  /-- any other thing, by what is true of its one object (a def of one's own: SetO a S n := HO.ext fun h => ..) -/
  | ext (φ : Heap → Prop)

abbrev Hp := Addr → Option HO
noncomputable def upd (H : Hp) (a : Addr) (o : HO) : Hp := fun b => if b = a then some o else H b
theorem upd_same {H : Hp} {a : Addr} {o : HO} : upd H a o a = some o := by unfold upd; rw [if_pos rfl]
theorem upd_ne {H : Hp} {a b : Addr} {o : HO} (h : b ≠ a) : upd H a o b = H b := by unfold upd; rw [if_neg h]
theorem ne_of {H : Hp} {a b : Addr} {o u : HO} (h : H a = some o) (h' : H b = some u) (d : o ≠ u) : a ≠ b := by
  intro e; subst e; rw [h] at h'; exact d (Option.some.inj h')
theorem ne_of_none {H : Hp} {a b : Addr} {o : HO} (h : H a = some o) (h' : H b = none) : a ≠ b := by
  intro e; subst e; rw [h] at h'; cases h'

section
variable (P : Program) (w : World)
noncomputable def ObjOk (H : Hp) (h : Heap) (a : Addr) : HO → Prop
  | .lst xs => xs.length ≤ sizeLine ∧ ∃ (its : List Value) (n : Nat), Vals xs its ∧ h.get? a = some { cls := .type "list", data := .seq its.toArray n }
  | .tup xs => xs.length ≤ sizeLine ∧ ∃ its : List Value, Vals xs its ∧ IsTup h a its.toArray
  | .dK kvs => kvs.length ≤ sizeLine ∧ (a == sysModules) = false ∧ ∃ vs, KV kvs vs ∧ h.DictOf (mixKind P w) a vs
  | .dT kvs => kvs.length ≤ sizeLine ∧ (a == sysModules) = false ∧ ∃ xs : List (List Key × Addr × Value),
      Paired (fun (p : List Key × V) (q : List Key × Addr × Value) => p.1 = q.1 ∧ H q.2.1 = some (.tup (p.1.map kV)) ∧ RelV p.2 q.2.2) kvs xs ∧
      ∃ o es ep, h.get? a = some o ∧ o.ExactDict ∧ o.data = .dict es ep ∧ es.toList = xs.map (entryOfKey (tupleKind (mixKind P w))) ∧ (xs.map (·.1)).Nodup
  | .set S n => h.SetOf (intKind P w) a S n
  | .ins C dx fs => H dx = some (.own a) ∧ fs.length ≤ 1000 ∧ dx ≠ a ∧ h.get? a = some (PySem.W.instObj C dx) ∧
      ∃ mA, h.Ns1 dx mA ∧ (∀ f, RelO (fs.lookup f) (mA f)) ∧ PySem.Within mA (fs.map (·.1))
  | .own _ => ∃ o, h.get? a = some o
  | .xd fs => ∃ mA, h.Ns1 a mA ∧ ∀ f, RelO (fs.lookup f) (mA f)
  | .rng lo hi => ∃ t u v, h.get? a = some { cls := .type "range", data := .fields #[.int lo t, .int hi u, .int 1 v] }
  | .frz o u => h.get? a = some o ∧ ObjOk H h a u
  | .tbl ps => h.get? a = some { cls := .none, data := .fields ps }
  | .met f x => h.get? a = some (PySem.W.methodObj (.ref f) (.ref x))
  | .ext φ => φ h ∧ (∃ o, h.get? a = some o) ∧ ∀ h1 h2 : Heap, φ h1 → (∀ o, h1.get? a = some o → h2.get? a = some o) → φ h2
noncomputable def HOk (H : Hp) (h : Heap) : Prop := ∀ a o, H a = some o → ObjOk P w H h a o
end

section
variable {P : Program} {w : World} {H H' : Hp} {h h' : Heap} {a : Addr} {o : HO}
theorem ObjOk.lt (x : ObjOk P w H h a o) : a < h.objs.size := by
  cases o with
  | lst xs => obtain ⟨_, _, _, _, e⟩ := x; exact Heap.lt_size e
  | tup xs => obtain ⟨_, _, _, p⟩ := x; exact p.lt
  | dK kvs => obtain ⟨_, _, _, _, o, _, _, e, _⟩ := x; exact Heap.lt_size e
  | dT kvs => obtain ⟨_, _, _, _, o, _, _, e, _⟩ := x; exact Heap.lt_size e
  | set S n => obtain ⟨o, _, _, _, e, _⟩ := x; exact Heap.lt_size e
  | ins C dx fs => obtain ⟨_, _, _, e, _⟩ := x; exact Heap.lt_size e
  | own y => obtain ⟨_, e⟩ := x; exact Heap.lt_size e
  | xd fs => obtain ⟨_, ⟨_, _, _, e, _⟩, _⟩ := x; exact Heap.lt_size e
  | rng lo hi => obtain ⟨_, _, _, e⟩ := x; exact Heap.lt_size e
  | frz ob u => obtain ⟨e, _⟩ := x; exact Heap.lt_size e
  | tbl ps => exact Heap.lt_size (show h.get? a = some _ from x)
  | met f y => exact Heap.lt_size (show h.get? a = some _ from x)
  | ext φ => obtain ⟨_, ⟨_, e⟩, _⟩ := x; exact Heap.lt_size e
theorem Paired.mapP {α β : Type} {F G : α → β → Prop} : ∀ {l₁ : List α} {l₂ : List β}, Paired F l₁ l₂ → (∀ a b, F a b → G a b) → Paired G l₁ l₂
  | _, _, .nil, _ => .nil
  | _, _, .cons r t, f => .cons (f _ _ r) (Paired.mapP t f)
theorem ObjOk.stay (x : ObjOk P w H h a o) (k : ∀ b u, (b = a ∨ H b = some (.own a)) → h.get? b = some u → h'.get? b = some u)
    (ho : ∀ b, H b = some (.own a) → H' b = some (.own a)) (ht : ∀ b xs, H b = some (.tup xs) → H' b = some (.tup xs)) : ObjOk P w H' h' a o := by
  induction o with
  | lst xs => obtain ⟨z, its, n, r, e⟩ := x; exact ⟨z, its, n, r, k _ _ (.inl rfl) e⟩
  | tup xs => obtain ⟨z, its, r, ob, e, c⟩ := x; exact ⟨z, its, r, ob, k _ _ (.inl rfl) e, c⟩
  | dK kvs => obtain ⟨z, y, vs, r, ob, es, ep, e, c⟩ := x; exact ⟨z, y, vs, r, ob, es, ep, k _ _ (.inl rfl) e, c⟩
  | dT kvs =>
    obtain ⟨z, y, xs, r, ob, es, ep, e, c⟩ := x
    exact ⟨z, y, xs, Paired.mapP r fun p q z => ⟨z.1, ht _ _ z.2.1, z.2.2⟩, ob, es, ep, k _ _ (.inl rfl) e, c⟩
  | set S n => obtain ⟨ob, es, ep, t, e, c⟩ := x; exact ⟨ob, es, ep, t, k _ _ (.inl rfl) e, c⟩
  | ins C dx fs =>
    obtain ⟨d, z, ne, e, mA, ⟨od, es, ep, e2, c⟩, r⟩ := x
    exact ⟨ho _ d, z, ne, k _ _ (.inl rfl) e, mA, ⟨od, es, ep, k _ _ (.inr d) e2, c⟩, r⟩
  | own y => obtain ⟨ob, e⟩ := x; exact ⟨ob, k _ _ (.inl rfl) e⟩
  | xd fs => obtain ⟨mA, ⟨od, es, ep, e, c⟩, r⟩ := x; exact ⟨mA, ⟨od, es, ep, k _ _ (.inl rfl) e, c⟩, r⟩
  | rng lo hi => obtain ⟨t, u, v, e⟩ := x; exact ⟨t, u, v, k _ _ (.inl rfl) e⟩
  | frz ob u ih => obtain ⟨e, q⟩ := x; exact ⟨k _ _ (.inl rfl) e, ih q⟩
  | tbl ps =>
    have e : h.get? a = some { cls := .none, data := .fields ps } := x
    show h'.get? a = some { cls := .none, data := .fields ps }
    exact k a _ (.inl rfl) e
  | met f y =>
    have e : h.get? a = some (PySem.W.methodObj (.ref f) (.ref y)) := x
    show h'.get? a = some (PySem.W.methodObj (.ref f) (.ref y))
    exact k a _ (.inl rfl) e
  | ext φ => obtain ⟨p, ⟨o, e⟩, st⟩ := x; exact ⟨st _ _ p fun o q => k _ _ (.inl rfl) q, ⟨o, k _ _ (.inl rfl) e⟩, st⟩
theorem HOk.lt (x : HOk P w H h) (e : H a = some o) : a < h.objs.size := (x a o e).lt
theorem HOk.fresh (x : HOk P w H h) (e : h.objs.size ≤ a) : H a = none := by
  cases q : H a with
  | none => rfl
  | some u => exact absurd (Nat.lt_of_lt_of_le (x.lt q) e) (Nat.lt_irrefl _)
theorem HOk.kept (x : HOk P w H h) (k : ∀ b u, h.get? b = some u → h'.get? b = some u) : HOk P w H h' := fun a o e =>
  (x a o e).stay (fun b u _ q => k b u q) (fun _ q => q) fun _ _ q => q
theorem HOk.laid (x : HOk P w H h) (k : ∀ b u, h.get? b = some u → h'.get? b = some u) (hp : h.objs.size ≤ a) (new : ObjOk P w (upd H a o) h' a o) : HOk P w (upd H a o) h' := fun b u e => by
  have hn := x.fresh hp
  by_cases hb : b = a
  · subst hb; rw [upd_same] at e; cases e; exact new
  · rw [upd_ne hb] at e
    exact (x b u e).stay (fun c v _ q => k c v q) (fun c q => by rw [upd_ne (ne_of_none q hn)]; exact q) fun c xs q => by rw [upd_ne (ne_of_none q hn)]; exact q
end

noncomputable def Rd (H : Hp) (a : Addr) (u : HO) : Prop := H a = some u ∨ ∃ o, H a = some (.frz o u)
theorem Rd.of {H : Hp} {a : Addr} {u : HO} (h : H a = some u) : Rd H a u := .inl h
theorem Rd.ok {P : Program} {w : World} {H : Hp} {h : Heap} {a : Addr} {u : HO} (r : Rd H a u) (x : HOk P w H h) : ObjOk P w H h a u := by
  rcases r with r | ⟨o, r⟩
  · exact x a u r
  · obtain ⟨_, q⟩ := x a _ r
    exact q
noncomputable def Mut : Option HO → Prop
  | some (.lst _) => True
  | some (.dK _) => True
  | some (.dT _) => True
  | some (.set _ _) => True
  | some (.ins _ _ _) => True
  | some (.ext _) => True
  | _ => False
section
variable {P : Program} {w : World} {H : Hp} {h h' : Heap} {x e : Addr} {o' : HO}
theorem HOk.write (ok : HOk P w H h) (mu : Mut (H x)) (he : e = x ∨ H e = some (.own x)) (k : ∀ b u, b ≠ e → h.get? b = some u → h'.get? b = some u) (heo : ∃ u, h'.get? e = some u)
    (new : ObjOk P w (upd H x o') h' x o') : HOk P w (upd H x o') h' := fun b u q => by
  have nown : ∀ c y, H c = some (.own y) → c ≠ x := fun c y r z => by subst z; rw [r] at mu; exact mu
  have ntup : ∀ c xs, H c = some (.tup xs) → c ≠ x := fun c xs r z => by subst z; rw [r] at mu; exact mu
  by_cases hb : b = x
  · subst hb; rw [upd_same] at q; cases q; exact new
  · rw [upd_ne hb] at q
    by_cases hbe : b = e
    · have q' : H b = some (.own x) := by
        rcases he with z | z
        · exact absurd (hbe.trans z) hb
        · rw [hbe]; exact z
      rw [q] at q'; cases q'
      obtain ⟨v, hv⟩ := heo
      exact ⟨v, by rw [hbe]; exact hv⟩
    · refine (ok b u q).stay (fun c v hc r => k c v ?_ r) (fun c r => by rw [upd_ne (nown c b r)]; exact r) fun c xs r => by rw [upd_ne (ntup c xs r)]; exact r
      rcases hc with rfl | hc
      · exact hbe
      · rintro rfl
        rcases he with z | z
        · exact nown c b hc z
        · rw [hc] at z; cases z; exact hb rfl
end

structure Un (fs ex : List Addr) (H H' : Hp) (h h' : Heap) : Prop where
  keep : ∀ b o, h.get? b = some o → H b = none → b ∉ fs → b ∉ ex → h'.get? b = some o
  slot : ∀ b o, h.get? b = some o → H b = none → b ∈ fs → b ∉ ex → ∃ sl, h'.get? b = some { o with slots := sl }
  free : ∀ b o, h.get? b = some o → H b = none → b ∉ ex → H' b = none
  there : ∀ b o, h.get? b = some o → b ∉ ex → ∃ o', h'.get? b = some o'
  tups : ∀ b xs, H b = some (.tup xs) → H' b = some (.tup xs)
  frzs : ∀ b o u, H b = some (.frz o u) → H' b = some (.frz o u)
  tbls : ∀ b ps, H b = some (.tbl ps) → ∃ more, H' b = some (.tbl (ps ++ more))
section
variable {fs fs' ex ex' : List Addr} {H H1 H2 : Hp} {h h1 h2 h' : Heap} {a x e : Addr} {o : HO}
theorem Un.any (u : Un fs ex H H1 h h1) {b : Addr} {ob : Obj} (q : h.get? b = some ob) (n : H b = none) (hx : b ∉ ex) : ∃ sl, h1.get? b = some { ob with slots := sl } := by
  by_cases hb : b ∈ fs
  · exact u.slot b ob q n hb hx
  · exact ⟨ob.slots, u.keep b ob q n hb hx⟩
theorem Un.trans (a : Un fs ex H H1 h h1) (b : Un fs ex H1 H2 h1 h2) : Un fs ex H H2 h h2 where
  keep := fun c ob q n hc hx => b.keep c ob (a.keep c ob q n hc hx) (a.free c ob q n hx) hc hx
  slot := fun c ob q n hc hx => by
    obtain ⟨sl, e1⟩ := a.slot c ob q n hc hx
    obtain ⟨sl', e2⟩ := b.slot c _ e1 (a.free c ob q n hx) hc hx
    exact ⟨sl', e2⟩
  free := fun c ob q n hx => by
    obtain ⟨o', e1⟩ := a.there c ob q hx
    exact b.free c o' e1 (a.free c ob q n hx) hx
  there := fun c ob q hx => by
    obtain ⟨o', e1⟩ := a.there c ob q hx
    exact b.there c o' e1 hx
  tups := fun c xs q => b.tups c xs (a.tups c xs q)
  frzs := fun c ob xs q => b.frzs c ob xs (a.frzs c ob xs q)
  tbls := fun c ps q => by
    obtain ⟨m1, e1⟩ := a.tbls c ps q
    obtain ⟨m2, e2⟩ := b.tbls c _ e1
    exact ⟨m1 ++ m2, by rw [e2, Array.append_assoc]⟩
theorem Un.kept (k : ∀ b u, h.get? b = some u → h'.get? b = some u) : Un fs ex H H h h' :=
  ⟨fun b ob q _ _ _ => k b ob q, fun b ob q _ _ _ => ⟨ob.slots, k b ob q⟩, fun _ _ _ n _ => n, fun b ob q _ => ⟨ob, k b ob q⟩, fun _ _ q => q, fun _ _ _ q => q, fun _ ps q => ⟨#[], by rw [q]; simp⟩⟩
theorem Un.refl : Un fs ex H H h h := Un.kept fun _ _ q => q
theorem Un.laid (k : ∀ b u, h.get? b = some u → h'.get? b = some u) (hp : h.objs.size ≤ a) (hn : H a = none) : Un fs ex H (upd H a o) h h' where
  keep := fun b u q _ _ _ => k b u q
  slot := fun b u q _ _ _ => ⟨u.slots, k b u q⟩
  free := fun b u q n _ => by rw [upd_ne (Nat.ne_of_lt (Nat.lt_of_lt_of_le (Heap.lt_size q) hp))]; exact n
  there := fun b u q _ => ⟨u, k b u q⟩
  tups := fun b xs q => by rw [upd_ne (ne_of_none q hn)]; exact q
  frzs := fun b u xs q => by rw [upd_ne (ne_of_none q hn)]; exact q
  tbls := fun b ps q => ⟨#[], by rw [upd_ne (ne_of_none q hn), q]; simp⟩
theorem Un.write (mu : Mut (H x)) (he : e = x ∨ H e = some (.own x)) (k : ∀ b u, b ≠ e → h.get? b = some u → h'.get? b = some u) (heo : ∃ u, h'.get? e = some u) : Un fs ex H (upd H x o) h h' := by
  have hx : ∀ b, H b = none → b ≠ x := fun b n z => by subst z; rw [n] at mu; exact mu
  have hb : ∀ b, H b = none → b ≠ e := fun b n z => by
    subst z
    rcases he with r | r
    · exact hx b n r
    · rw [n] at r; cases r
  have hm : ∀ b u, H b = some u → ¬ Mut (some u) → b ≠ x := fun b u q nm z => by subst z; rw [q] at mu; exact nm mu
  refine ⟨fun b u q n _ _ => k b u (hb b n) q, fun b u q n _ _ => ⟨u.slots, k b u (hb b n) q⟩, fun b u q n _ => by rw [upd_ne (hx b n)]; exact n, fun b u q _ => ?_,
    fun b xs q => by rw [upd_ne (hm b _ q fun z => z)]; exact q, fun b u xs q => by rw [upd_ne (hm b _ q fun z => z)]; exact q, fun b ps q => ⟨#[], by rw [upd_ne (hm b _ q fun z => z), q]; simp⟩⟩
  by_cases hbe : b = e
  · subst hbe; exact heo
  · exact ⟨u, k b u hbe q⟩
theorem Un.mono (u : Un fs ex H H1 h h1) (hs : ∀ b ∈ fs, b ∈ fs') (hx : ∀ b ∈ ex, b ∈ ex') : Un fs' ex' H H1 h h1 :=
  ⟨fun b ob q n hb he => u.keep b ob q n (fun z => hb (hs b z)) fun z => he (hx b z), fun _ _ q n _ he => u.any q n fun z => he (hx _ z), fun b ob q n he => u.free b ob q n fun z => he (hx b z), fun b ob q he => u.there b ob q fun z => he (hx b z), u.tups, u.frzs, u.tbls⟩
end

noncomputable def trk (h : Heap) (H : Hp) : List Addr := (List.range h.objs.size).filter fun a => (H a).isSome
noncomputable def hidT (h : Heap) (H : Hp) : Heap := PySem.W.hideAll h (trk h H)
theorem hidT_size (h : Heap) (H : Hp) : (hidT h H).objs.size = h.objs.size := PySem.W.hideAll_size _ _
theorem hidT_get {h : Heap} {H : Hp} {b : Addr} {o : Obj} (e : h.get? b = some o) (n : H b = none) : (hidT h H).get? b = some o :=
  PySem.W.hideAll_get _ e fun hm => by
    have q : (H b).isSome = true := (List.mem_filter.mp hm).2
    rw [n] at q; simp at q
theorem of_hidT {h : Heap} {H : Hp} {b : Addr} {o : Obj} (e : (hidT h H).get? b = some o) : h.get? b = some o ∧ H b = none := by
  have e' : h.get? b = some o := PySem.W.of_hideAll (trk h H) e
  refine ⟨e', ?_⟩
  cases q : H b with
  | none => rfl
  | some x =>
    have hm : b ∈ trk h H := List.mem_filter.mpr ⟨List.mem_range.mpr (Heap.lt_size e'), by simp [q]⟩
    have z : (hidT h H).get? b = none := PySem.W.hideAll_none (trk h H) hm
    rw [z] at e; cases e

noncomputable def allNews (g h : Heap) (L : Addr) : List (Addr × Obj) := (List.range h.objs.size).filterMap fun a => if a = L ∨ (g.get? a).isSome = true then none else (h.get? a).map fun o => (a, o)
noncomputable def rest (g h : Heap) (L d : Addr) : List (Addr × Obj) := (allNews g h L).filter fun p => decide (p.1 ≠ d)
end L2

namespace L2
open PySem PySem.Spec PyProof.Rows

structure Mod (K : PySem.W.Frag) (mg : Str → Option Value) (base : Heap) : Prop where
  kin : K.In base
  glob : base.Ns mainGlobals mg
  blt : ∃ mb, base.Ns builtinsNs mb ∧ ∀ x : Str, x ≠ "__name__" → mb x = bootBuiltins x
  nolimit : base.NoLimit

structure Cx where
  prog : Program
  w : World
  K : PySem.W.Frag
  mg : Str → Option Value
  base : Heap
  A : Around
  N : List Str
  s₀ : Shared
  H₀ : Hp
  env : Env
  outer : List Env
  stack : List Env
  ex : List Addr
  fn : Str → Bool
  calm : Bool
  pn : List (Addr × Obj)
  xe : Value → Shared → Prop
noncomputable def frs (l : List Env) : List Addr := l.filterMap (·.frame)
noncomputable abbrev Cx.fs (X : Cx) : List Addr := frs X.outer

noncomputable def Vis (sc : Scope) (x : Str) : Prop := sc.names.lookup x = some .local ∨ sc.names.lookup x = some .cell ∨ sc.names.lookup x = some .free
noncomputable def Loc (sc : Scope) (x : Str) : Prop := sc.names.lookup x = some .local ∨ sc.names.lookup x = some .cell
noncomputable def Look (env : Env) (h : Heap) (m : Str → Option Value) (x : Str) (u : Value) : Prop :=
  (env.kindOf x = some .local ∧ m x = some u) ∨ ((env.kindOf x = some .cell ∨ env.kindOf x = some .free) ∧ ∃ c, env.cells.lookup x = some c ∧ h.IsCell c (some u))

structure Cx.Ok (X : Cx) : Prop where
  mod : Mod X.K X.mg X.base
  kind : X.env.scope.kind = .function
  glob : X.env.globals = mainGlobals
  blt : X.env.builtins = builtinsNs
  above : X.s₀.heap.objs.size ≤ X.env.locals
  inj : ∀ x y c, X.env.cells.lookup x = some c → X.env.cells.lookup y = some c → x = y
  has : ∀ x, (X.env.kindOf x = some .cell ∨ X.env.kindOf x = some .free) → ∃ c, X.env.cells.lookup x = some c
  cab : ∀ x c, X.fn x = true → X.env.cells.lookup x = some c → X.s₀.heap.objs.size ≤ c
  hd : X.calm = true → X.A.handled = none
  frames : X.A.frames = some X.stack
  stk : X.stack = X.outer ∨ (X.stack = X.env :: X.outer ∧ X.env.frame = some X.env.locals)
  exf : ∀ b ∈ X.ex, b ≠ X.env.locals ∧ ∀ x c, X.env.cells.lookup x = some c → c ≠ b
  bs : ∀ b o, X.base.get? b = some o → X.s₀.heap.get? b = some o ∧ X.H₀ b = none
  bsz : X.base.objs.size ≤ X.s₀.heap.objs.size
  noex : ∀ b o, X.base.get? b = some o → b ∉ X.ex
  exfs : ∀ b ∈ X.ex, b ∉ X.fs
  funs : X.s₀.heap.FunFrames X.base X.outer
  frf : ∀ b ∈ X.fs, X.H₀ b = none

structure Inv (X : Cx) (pins : List (Addr × Obj)) (σ : List (Option V)) (H : Hp) (s : Shared) : Prop where
  ok : X.Ok
  os : s.os = X.s₀.os
  bare : AllBare s.gens
  base : Un X.fs X.ex X.H₀ H X.s₀.heap s.heap
  loc : ∃ m, s.heap.Ns X.env.locals m ∧ ∀ (i : Nat) (x : Str) (v : V), X.N[i]? = some x → σ[i]? = some (some v) → Vis X.env.scope x → ∃ u, RelV v u ∧ Look X.env s.heap m x u
  cell : ∀ x c, X.env.cells.lookup x = some c → ∃ v, s.heap.IsCell c v
  free : H X.env.locals = none
  freeC : ∀ x c, X.env.cells.lookup x = some c → H c = none
  pin : ∀ p ∈ X.pn ++ pins, s.heap.get? p.1 = some p.2 ∧ H p.1 = none ∧ p.1 ≠ X.env.locals ∧ p.1 ∉ X.fs ∧ ∀ v, p.2.data ≠ .cell v
  hok : HOk X.prog X.w H s.heap
  len : σ.length = X.N.length

section
variable {X : Cx} {pins : List (Addr × Obj)} {σ : List (Option V)} {H H' : Hp} {s : Shared} {h' : Heap}

theorem Cx.Ok.nofr (ok : X.Ok) {b : Addr} {o : Obj} (e : X.base.get? b = some o) : b ∉ X.fs := fun hb => by
  have := (ok.funs.mem hb).1
  rw [e] at this; cases this
theorem Inv.bs (I : Inv X pins σ H s) : ∀ b o, X.base.get? b = some o → s.heap.get? b = some o ∧ H b = none := fun b o e =>
  ⟨I.base.keep b o (I.ok.bs b o e).1 (I.ok.bs b o e).2 (I.ok.nofr e) (I.ok.noex b o e), I.base.free b o (I.ok.bs b o e).1 (I.ok.bs b o e).2 (I.ok.noex b o e)⟩
theorem Inv.bk (I : Inv X pins σ H s) : ∀ b o, X.base.get? b = some o → s.heap.get? b = some o := fun b o e => (I.bs b o e).1
theorem Inv.mod (I : Inv X pins σ H s) : Mod X.K X.mg X.base := I.ok.mod
theorem Inv.kIn (I : Inv X pins σ H s) : X.K.In s.heap := I.ok.mod.kin.keeps I.bk
theorem Inv.nolimit (I : Inv X pins σ H s) : s.heap.NoLimit := I.ok.mod.nolimit.keeps I.bk
theorem Inv.fr (I : Inv X pins σ H s) : ∃ m, Fr X.base X.env.locals s.heap m :=
  let ⟨m, hn, _⟩ := I.loc
  ⟨m, hn, I.bk, Nat.le_trans I.ok.bsz I.ok.above⟩
theorem Inv.lt (I : Inv X pins σ H s) : X.env.locals < s.heap.objs.size := let ⟨_, hn, _⟩ := I.loc; hn.lt
theorem Inv.sz (I : Inv X pins σ H s) : X.s₀.heap.objs.size ≤ s.heap.objs.size := Nat.le_trans I.ok.above (Nat.le_of_lt I.lt)
theorem Inv.nofs (I : Inv X pins σ H s) {a : Addr} (h : s.heap.objs.size ≤ a) : a ∉ X.fs := fun hb => by
  obtain ⟨_, o, ho, _⟩ := I.ok.funs.mem hb
  exact absurd (Nat.lt_of_lt_of_le (Heap.lt_size ho) (Nat.le_trans I.sz h)) (Nat.lt_irrefl _)
theorem Inv.cne (I : Inv X pins σ H s) : ∀ x c, X.env.cells.lookup x = some c → c ≠ X.env.locals := fun x c e z => by
  obtain ⟨v, o, ho, hd⟩ := I.cell x c e
  obtain ⟨m, ⟨o', es, ep, ho', hd', _⟩, _⟩ := I.loc
  rw [z, ho'] at ho; cases ho; rw [hd'] at hd; cases hd
theorem Inv.funs (I : Inv X pins σ H s) : s.heap.FunFrames X.base X.outer := by
  have all : ∀ (l : List Env), (∀ b ∈ frs l, b ∈ X.fs) → X.s₀.heap.FunFrames X.base l → s.heap.FunFrames X.base l := by
    intro l
    induction l with
    | nil => intro _ _; trivial
    | cons env r ih =>
      intro hs hl
      obtain ⟨hk, ⟨L, o, hf, hn, ho, hd⟩, hr⟩ := hl
      have hL : L ∈ X.fs := hs L (by unfold frs; rw [List.filterMap_cons, hf]; exact List.mem_cons_self)
      obtain ⟨sl, e⟩ := I.base.slot L o ho (I.ok.frf L hL) hL fun z => I.ok.exfs L z hL
      exact ⟨hk, ⟨L, _, hf, hn, e, hd⟩, ih (fun b hb => hs b (by unfold frs; rw [List.filterMap_cons, hf]; exact List.mem_cons_of_mem _ hb)) hr⟩
  exact all X.outer (fun _ hb => hb) I.ok.funs

theorem Inv.stack (I : Inv X pins σ H s) : s.heap.FunFrames X.base X.stack := by
  rcases I.ok.stk with e | ⟨e, hf⟩
  · rw [e]; exact I.funs
  · rw [e]
    obtain ⟨m, hn, _⟩ := I.loc
    refine .cons (by rw [I.ok.kind]; decide) hf hn ?_ I.funs
    exact Heap.get?_none_of_le (Nat.le_trans I.ok.bsz I.ok.above)
theorem Inv.stkSub (I : Inv X pins σ H s) : ∀ b ∈ frs X.stack, b ∈ X.env.locals :: X.fs := fun b hb => by
  rcases I.ok.stk with e | ⟨e, hf⟩
  · rw [e] at hb; exact List.mem_cons_of_mem _ hb
  · rw [e] at hb
    unfold frs at hb
    rw [List.filterMap_cons, hf] at hb
    exact hb
theorem Inv.stkFree (I : Inv X pins σ H s) : ∀ b ∈ frs X.stack, H b = none := fun b hb => by
  rcases List.mem_cons.mp (I.stkSub b hb) with e | hb
  · rw [e]; exact I.free
  · obtain ⟨_, o, ho, _⟩ := I.ok.funs.mem hb
    exact I.base.free b o ho (I.ok.frf b hb) fun z => I.ok.exfs b z hb

theorem Inv.step {g' : Array GenState} {t' : Nat} {d' : Drawn} {ch : List Addr} (I : Inv X pins σ H s)
    (hch : ∀ b ∈ ch, (b ∈ X.ex ∨ X.s₀.heap.objs.size ≤ b) ∧ b ≠ X.env.locals ∧ (∀ x c, X.env.cells.lookup x = some c → c ≠ b) ∧ ∀ p ∈ X.pn ++ pins, p.1 ≠ b)
    (keep : ∀ b o, b ≠ X.env.locals → b ∉ X.fs → b ∉ ch → s.heap.get? b = some o → H b = none → h'.get? b = some o)
    (slot : ∀ b o, b ≠ X.env.locals → b ∈ X.fs → b ∉ ch → s.heap.get? b = some o → H b = none → ∃ sl, h'.get? b = some { o with slots := sl }) (free : ∀ b o, b ∉ ch → s.heap.get? b = some o → H b = none → H' b = none)
    (there : ∀ b o, b ∉ ch → s.heap.get? b = some o → ∃ o', h'.get? b = some o')
    (tups : ∀ b xs, H b = some (.tup xs) → H' b = some (.tup xs)) (frzs : ∀ b o u, H b = some (.frz o u) → H' b = some (.frz o u)) (tbls : ∀ b ps, H b = some (.tbl ps) → ∃ more, H' b = some (.tbl (ps ++ more)))
    (ns : ∀ m, s.heap.Ns X.env.locals m → h'.Ns X.env.locals m) (hok : HOk X.prog X.w H' h') (hg : AllBare g') :
    Inv X pins σ H' { s with heap := h', gens := g', drawn := d', toks := t' } := by
  have neL : ∀ b o, X.s₀.heap.get? b = some o → b ≠ X.env.locals := fun b o e => Nat.ne_of_lt (Nat.lt_of_lt_of_le (Heap.lt_size e) I.ok.above)
  have neC : ∀ b o, X.s₀.heap.get? b = some o → b ∉ X.ex → b ∉ ch := fun b o e hx hb => by
    rcases (hch b hb).1 with z | z
    · exact hx z
    · exact absurd (Nat.lt_of_lt_of_le (Heap.lt_size e) z) (Nat.lt_irrefl _)
  have cellK : ∀ x c, X.env.cells.lookup x = some c → ∀ v, s.heap.IsCell c v → h'.IsCell c v := fun x c e v ⟨o, ho, hd⟩ => by
    have nch : c ∉ ch := fun z => (hch c z).2.2.1 x c e rfl
    by_cases hc : c ∈ X.fs
    · obtain ⟨sl, q⟩ := slot c o (I.cne x c e) hc nch ho (I.freeC x c e)
      exact ⟨_, q, hd⟩
    · exact ⟨o, keep c o (I.cne x c e) hc nch ho (I.freeC x c e), hd⟩
  refine ⟨I.ok, I.os, hg, ⟨fun b o e n hb hx => ?_, fun b o e n hb hx => ?_, fun b o e n hx => ?_, fun b o e hx => ?_, fun b xs e => tups b xs (I.base.tups b xs e), fun b o xs e => frzs b o xs (I.base.frzs b o xs e), fun b ps e => ?_⟩, ?_, fun x c e => ?_, ?_, fun x c e => ?_, fun p hp => ?_, hok, I.len⟩
  · exact keep b o (neL b o e) hb (neC b o e hx) (I.base.keep b o e n hb hx) (I.base.free b o e n hx)
  · obtain ⟨sl, e1⟩ := I.base.slot b o e n hb hx
    obtain ⟨sl', e2⟩ := slot b _ (neL b o e) hb (neC b o e hx) e1 (I.base.free b o e n hx)
    exact ⟨sl', e2⟩
  · obtain ⟨o', e1⟩ := I.base.there b o e hx
    exact free b o' (neC b o e hx) e1 (I.base.free b o e n hx)
  · obtain ⟨o', e1⟩ := I.base.there b o e hx
    exact there b o' (neC b o e hx) e1
  · obtain ⟨m1, e1⟩ := I.base.tbls b ps e
    obtain ⟨m2, e2⟩ := tbls b _ e1
    exact ⟨m1 ++ m2, by rw [e2, Array.append_assoc]⟩
  · obtain ⟨m, hn, hl⟩ := I.loc
    refine ⟨m, ns m hn, fun i x v e1 e2 e3 => ?_⟩
    obtain ⟨u, r, l⟩ := hl i x v e1 e2 e3
    refine ⟨u, r, ?_⟩
    rcases l with l | ⟨k, c, e, z⟩
    · exact .inl l
    · exact .inr ⟨k, c, e, cellK x c e _ z⟩
  · obtain ⟨v, z⟩ := I.cell x c e
    exact ⟨v, cellK x c e v z⟩
  · obtain ⟨m, ⟨o, _, _, ho, _⟩, _⟩ := I.loc
    exact free _ o (fun z => (hch _ z).2.1 rfl) ho I.free
  · obtain ⟨v, o, ho, hd⟩ := I.cell x c e
    exact free c o (fun z => (hch c z).2.2.1 x c e rfl) ho (I.freeC x c e)
  · obtain ⟨e, n, ne, nf, d⟩ := I.pin p hp
    have nch : p.1 ∉ ch := fun z => (hch p.1 z).2.2.2 p hp rfl
    exact ⟨keep p.1 p.2 ne nf nch e n, free p.1 p.2 nch e n, ne, nf, d⟩
theorem Inv.un {t' : Nat} (I : Inv X pins σ H s) (u : Un X.fs [] H H' s.heap h') (hok : HOk X.prog X.w H' h') : Inv X pins σ H' { s with heap := h', toks := t' } := by
  obtain ⟨m, ⟨o, es, ep, ho, r⟩, _⟩ := id I.loc
  obtain ⟨sl, hL⟩ := u.any ho I.free (by simp)
  exact I.step (g' := s.gens) (d' := s.drawn) (ch := []) (fun _ z => nomatch z) (fun b o _ hb _ e n => u.keep b o e n hb (by simp)) (fun b o _ hb _ e n => u.slot b o e n hb (by simp)) (fun b o _ e n => u.free b o e n (by simp)) (fun b o _ e => u.there b o e (by simp)) u.tups u.frzs u.tbls (fun m' hm => by
    obtain ⟨o', es', ep', ho', r'⟩ := hm
    rw [ho] at ho'; cases ho'
    exact ⟨_, es', ep', hL, r'⟩) hok I.bare
theorem Inv.call {g' : Array GenState} {t' : Nat} {d' : Drawn} {ch : List Addr} (I : Inv X pins σ H s) (u : Un (frs X.stack) ch H H' s.heap h') (hok : HOk X.prog X.w H' h') (hg : AllBare g')
    (hch : ∀ b ∈ ch, (b ∈ X.ex ∨ X.s₀.heap.objs.size ≤ b) ∧ b ≠ X.env.locals ∧ (∀ x c, X.env.cells.lookup x = some c → c ≠ b) ∧ ∀ p ∈ X.pn ++ pins, p.1 ≠ b) :
    Inv X pins σ H' { s with heap := h', gens := g', drawn := d', toks := t' } := by
  obtain ⟨m, ⟨o, es, ep, ho, r⟩, _⟩ := id I.loc
  obtain ⟨sl, hL⟩ := u.any ho I.free fun z => (hch _ z).2.1 rfl
  exact I.step (ch := ch) hch (fun b o hL hb hc e n => u.keep b o e n (fun z => (List.mem_cons.mp (I.stkSub b z)).elim hL hb) hc) (fun b o _ _ hc e n => u.any e n hc) (fun b o hc e n => u.free b o e n hc) (fun b o hc e => u.there b o e hc) u.tups u.frzs u.tbls (fun m' hm => by
    obtain ⟨o', es', ep', ho', r'⟩ := hm
    rw [ho] at ho'; cases ho'
    exact ⟨_, es', ep', hL, r'⟩) hok hg
theorem Inv.turned {t' : Nat} {it : Addr} (I : Inv X pins σ H s) (k : ∀ b o, b ≠ it → s.heap.get? b = some o → h'.get? b = some o) (hn : H it = none) (hL : it ≠ X.env.locals)
    (h1 : it ∈ X.ex ∨ X.s₀.heap.objs.size ≤ it) (h2 : ∀ x c, X.env.cells.lookup x = some c → c ≠ it) (h3 : ∀ p ∈ X.pn ++ pins, p.1 ≠ it) : Inv X pins σ H { s with heap := h', toks := t' } := by
  have nit : ∀ b u, H b = some u → b ≠ it := fun b u e z => by rw [z, hn] at e; cases e
  refine I.step (g' := s.gens) (d' := s.drawn) (ch := [it]) (fun b hb => ?_) (fun b o _ _ hc e _ => k b o (fun z => hc (by simp [z])) e) (fun b o _ _ hc e _ => ⟨o.slots, k b o (fun z => hc (by simp [z])) e⟩) (fun _ _ _ _ n => n)
    (fun b o hc e => ⟨o, k b o (fun z => hc (by simp [z])) e⟩) (fun _ _ e => e) (fun _ _ _ e => e) (fun b ps e => ⟨#[], by rw [e]; simp⟩) (fun m hm => ?_) (fun b u e => ?_) I.bare
  · have e : b = it := by simpa using hb
    subst e
    exact ⟨h1, hL, h2, h3⟩
  · obtain ⟨o, es, ep, ho, r⟩ := hm
    exact ⟨o, es, ep, k _ o (Ne.symm hL) ho, r⟩
  · refine (I.hok b u e).stay (fun c v hc q => k c v ?_ q) (fun _ q => q) fun _ _ q => q
    rcases hc with z | z
    · rw [z]; exact nit b u e
    · exact nit c _ z
theorem Inv.tok (I : Inv X pins σ H s) (t : Nat) : Inv X pins σ H { s with toks := t } := I.un (h' := s.heap) (t' := t) Un.refl I.hok
theorem Inv.kept {t' : Nat} (I : Inv X pins σ H s) (k : ∀ b u, s.heap.get? b = some u → h'.get? b = some u) : Inv X pins σ H { s with heap := h', toks := t' } := I.un (Un.kept k) (I.hok.kept k)
theorem Inv.laid {a : Addr} {o : HO} {t' : Nat} (I : Inv X pins σ H s) (k : ∀ b u, s.heap.get? b = some u → h'.get? b = some u) (hp : s.heap.objs.size ≤ a) (new : ObjOk X.prog X.w (upd H a o) h' a o) :
    Inv X pins σ (upd H a o) { s with heap := h', toks := t' } := I.un (Un.laid k hp (I.hok.fresh hp)) (I.hok.laid k hp new)
theorem Inv.write {x e : Addr} {o : HO} {t' : Nat} (I : Inv X pins σ H s) (mu : Mut (H x)) (he : e = x ∨ H e = some (.own x)) (k : ∀ b u, b ≠ e → s.heap.get? b = some u → h'.get? b = some u) (heo : ∃ u, h'.get? e = some u)
    (new : ObjOk X.prog X.w (upd H x o) h' x o) : Inv X pins σ (upd H x o) { s with heap := h', toks := t' } := I.un (Un.write mu he k heo) (I.hok.write mu he k heo new)
theorem Inv.pins_of {pins' : List (Addr × Obj)} (I : Inv X pins σ H s) (h : ∀ p ∈ pins', s.heap.get? p.1 = some p.2 ∧ H p.1 = none ∧ p.1 ≠ X.env.locals ∧ p.1 ∉ X.fs ∧ ∀ v, p.2.data ≠ .cell v) : Inv X pins' σ H s :=
  ⟨I.ok, I.os, I.bare, I.base, I.loc, I.cell, I.free, I.freeC, fun p hp => (List.mem_append.mp hp).elim (fun z => I.pin p (List.mem_append_left _ z)) (h p), I.hok, I.len⟩

theorem nodup_ix {N : List Str} (hN : N.Nodup) {i j : Nat} {x : Str} (a : N[i]? = some x) (b : N[j]? = some x) : i = j := by
  obtain ⟨h1, e1⟩ := List.getElem?_eq_some_iff.mp a
  obtain ⟨h2, e2⟩ := List.getElem?_eq_some_iff.mp b
  exact (List.getElem_inj hN).mp (e1.trans e2.symm)

theorem store_ok2 {M : Model} {A : Around} {E : Value → Shared → Prop} {i : Nat} {x : Str} {v : V} {u : Value} {Q : Unit → Shared → Prop} (I : Inv X pins σ H s) (hN : X.N.Nodup) (hi : X.N[i]? = some x) (hx : Loc X.env.scope x) (r : RelV v u)
    (h : ∀ s', Inv X pins (σ.set i (some v)) H s' → (∃ a, Heap.SameBut a s.heap s'.heap ∧ (a = X.env.locals ∨ X.env.cells.lookup x = some a)) → Q () s') (hf : X.fn x = true ∨ X.env.scope.names.lookup x = some .local := by first | exact .inl rfl | exact .inr rfl | assumption) : wpAny M A (storeName X.env x u) Q E s := by
  obtain ⟨m, hn, hl⟩ := id I.loc
  have hcls : (X.env.scope.kind == .class || (X.env.scope.kind == .module && X.env.locals != X.env.globals)) = false := by rw [I.ok.kind]; rfl
  have hiσ : i < σ.length := by rw [I.len]; exact (List.getElem?_eq_some_iff.mp hi).1
  have cne := I.cne
  have tracked : ∀ {a : Addr} {h' : Heap}, (∃ o, s.heap.get? a = some o ∧ H a = none) → Heap.SameBut a s.heap h' → HOk X.prog X.w H h' := fun {a h'} ha hs b ob e => by
    obtain ⟨_, _, hfree⟩ := ha
    refine (I.hok b ob e).stay (fun c w' hc q => (hs.2 c ?_).trans q) (fun _ q => q) fun _ _ q => q
    rintro rfl
    rcases hc with rfl | hc
    · rw [hfree] at e; cases e
    · rw [hfree] at hc; cases hc
  rcases hx with hk | hk
  · refine wpAny_storeName_local hk hn (fun h' hn' hs => ?_) hcls
    obtain ⟨oL, _, _, hoL, _⟩ := id hn
    refine h _ ⟨I.ok, I.os, I.bare, ⟨fun b o e n hb hx => ?_, fun b o e n hb hx => ?_, I.base.free, fun b o e hx => ?_, I.base.tups, I.base.frzs, I.base.tbls⟩, ⟨_, hn', fun j y v' e1 e2 e3 => ?_⟩, fun y c e => ?_, I.free, I.freeC, fun p hp => ?_, tracked ⟨oL, hoL, I.free⟩ hs, by simpa using I.len⟩ ⟨_, hs, .inl rfl⟩
    · exact (hs.2 b (Nat.ne_of_lt (Nat.lt_of_lt_of_le (Heap.lt_size e) I.ok.above))).trans (I.base.keep b o e n hb hx)
    · obtain ⟨sl, e1⟩ := I.base.slot b o e n hb hx
      exact ⟨sl, (hs.2 b (Nat.ne_of_lt (Nat.lt_of_lt_of_le (Heap.lt_size e) I.ok.above))).trans e1⟩
    · obtain ⟨o', e1⟩ := I.base.there b o e hx
      exact ⟨o', (hs.2 b (Nat.ne_of_lt (Nat.lt_of_lt_of_le (Heap.lt_size e) I.ok.above))).trans e1⟩
    · by_cases hj : j = i
      · subst hj
        rw [hi] at e1; cases e1
        rw [List.getElem?_set_self hiσ] at e2
        cases e2
        exact ⟨u, r, .inl ⟨hk, by simp⟩⟩
      · rw [List.getElem?_set_ne (Ne.symm hj)] at e2
        obtain ⟨u', r', q⟩ := hl j y v' e1 e2 e3
        refine ⟨u', r', ?_⟩
        rcases q with ⟨k, e⟩ | ⟨k, c, e, z⟩
        · refine .inl ⟨k, ?_⟩
          have : y ≠ x := fun e => hj (nodup_ix hN e1 (e ▸ hi))
          simp [this, e]
        · exact .inr ⟨k, c, e, z.sameBut hs (cne y c e)⟩
    · obtain ⟨w', z⟩ := I.cell y c e
      exact ⟨w', z.sameBut hs (cne y c e)⟩
    · obtain ⟨e, n, ne, nf, d⟩ := I.pin p hp
      exact ⟨(hs.2 p.1 ne).trans e, n, ne, nf, d⟩
  · have hfn : X.fn x = true := by
      rcases hf with z | z
      · exact z
      · rw [z] at hk; cases hk
    obtain ⟨c, hc⟩ := I.ok.has x (.inl hk)
    obtain ⟨w', z⟩ := I.cell x c hc
    refine wpAny_storeName_cell I.ok.kind hk hc z (fun h' hc' hs => ?_)
    obtain ⟨oc, hoc, hocd⟩ := id z
    refine h { s with heap := h' } ⟨I.ok, I.os, I.bare, ⟨fun b o e n hb hx => ?_, fun b o e n hb hx => ?_, I.base.free, fun b o e hx => ?_, I.base.tups, I.base.frzs, I.base.tbls⟩, ⟨m, hn.sameBut hs (Ne.symm (cne x c hc)), fun j y v' e1 e2 e3 => ?_⟩, fun y c' e => ?_, I.free, I.freeC, fun p hp => ?_, tracked ⟨oc, hoc, I.freeC x c hc⟩ hs, by simpa using I.len⟩ ⟨c, hs, .inr hc⟩
    · exact (hs.2 b (Nat.ne_of_lt (Nat.lt_of_lt_of_le (Heap.lt_size e) (I.ok.cab x c hfn hc)))).trans (I.base.keep b o e n hb hx)
    · obtain ⟨sl, e1⟩ := I.base.slot b o e n hb hx
      exact ⟨sl, (hs.2 b (Nat.ne_of_lt (Nat.lt_of_lt_of_le (Heap.lt_size e) (I.ok.cab x c hfn hc)))).trans e1⟩
    · obtain ⟨o', e1⟩ := I.base.there b o e hx
      exact ⟨o', (hs.2 b (Nat.ne_of_lt (Nat.lt_of_lt_of_le (Heap.lt_size e) (I.ok.cab x c hfn hc)))).trans e1⟩
    · by_cases hj : j = i
      · subst hj
        rw [hi] at e1; cases e1
        rw [List.getElem?_set_self hiσ] at e2
        cases e2
        exact ⟨u, r, .inr ⟨.inl hk, c, hc, hc'⟩⟩
      · rw [List.getElem?_set_ne (Ne.symm hj)] at e2
        obtain ⟨u', r', q⟩ := hl j y v' e1 e2 e3
        refine ⟨u', r', ?_⟩
        rcases q with q | ⟨k, c', e, z'⟩
        · exact .inl q
        · refine .inr ⟨k, c', e, z'.sameBut hs ?_⟩
          rintro rfl
          exact hj (nodup_ix hN e1 (I.ok.inj _ _ _ e hc ▸ hi))
    · by_cases hcc : c' = c
      · subst hcc; exact ⟨_, hc'⟩
      · obtain ⟨w2, z2⟩ := I.cell y c' e
        exact ⟨w2, z2.sameBut hs hcc⟩
    · obtain ⟨e, n, ne, nf, d⟩ := I.pin p hp
      refine ⟨(hs.2 p.1 ?_).trans e, n, ne, nf, d⟩
      intro q
      rw [q, hoc] at e
      have q' : oc = p.2 := Option.some.inj e
      exact d w' (by rw [← q']; exact hocd)
theorem store_ok {M : Model} {A : Around} {E : Value → Shared → Prop} {i : Nat} {x : Str} {v : V} {u : Value} {Q : Unit → Shared → Prop} (I : Inv X pins σ H s) (hN : X.N.Nodup) (hi : X.N[i]? = some x) (hx : Loc X.env.scope x) (r : RelV v u)
    (h : ∀ s', Inv X pins (σ.set i (some v)) H s' → Q () s') (hf : X.fn x = true ∨ X.env.scope.names.lookup x = some .local := by first | exact .inl rfl | exact .inr rfl | assumption) : wpAny M A (storeName X.env x u) Q E s :=
  store_ok2 I hN hi hx r (fun s' I' _ => h s' I') hf
end

abbrev XK := Value → Option Addr → Hp → Prop
abbrev St := List (Option V)
abbrev VK := V → Hp → Prop
abbrev TE := St → Hp → VK → Prop
abbrev TT := St → Hp → (Bool → Hp → Prop) → Prop
abbrev TA := St → Hp → (List V → Hp → Prop) → Prop
structure Ends where
  nx : St → Hp → Prop
  rt : VK
  bk : St → Hp → Prop := fun _ _ => False
  ct : St → Hp → Prop := fun _ _ => False
abbrev TS := Ends → St → Hp → Prop

noncomputable def EP (X : Cx) (pins : List (Addr × Obj)) (σ : St) (Q : VK) (u : Value) (s' : Shared) : Prop := ∃ v H', Inv X pins σ H' s' ∧ RelV v u ∧ Q v H'
noncomputable def TP (X : Cx) (pins : List (Addr × Obj)) (σ : St) (Q : Bool → Hp → Prop) (b : Bool) (s' : Shared) : Prop := ∃ H', Inv X pins σ H' s' ∧ Q b H'
noncomputable def AP (X : Cx) (pins : List (Addr × Obj)) (σ : St) (Q : List V → Hp → Prop) (us : List Value) (s' : Shared) : Prop := ∃ vs H', Inv X pins σ H' s' ∧ Vals vs us ∧ Q vs H'
noncomputable def SP (X : Cx) (pins : List (Addr × Obj)) (D : Ends) (f : Flow) (s' : Shared) : Prop :=
  match f with
  | .next => ∃ σ' H', Inv X pins σ' H' s' ∧ D.nx σ' H'
  | .brk => ∃ σ' H', Inv X pins σ' H' s' ∧ D.bk σ' H'
  | .cont => ∃ σ' H', Inv X pins σ' H' s' ∧ D.ct σ' H'
  | .ret u => ∃ v σ' H', Inv X pins σ' H' s' ∧ RelV v u ∧ D.rt v H'

noncomputable def PE (X : Cx) (e : Expr) (t : TE) : Prop :=
  ∀ (pins : List (Addr × Obj)) (s : Shared) (σ : St) (H : Hp) (Q : VK), Inv X pins σ H s → t σ H Q → wpAny (model X.prog X.w) X.A (eval e X.env) (EP X pins σ Q) X.xe s
noncomputable def PT (X : Cx) (e : Expr) (t : TT) : Prop :=
  ∀ (pins : List (Addr × Obj)) (s : Shared) (σ : St) (H : Hp) (Q : Bool → Hp → Prop), Inv X pins σ H s → t σ H Q → wpAny (model X.prog X.w) X.A (isTrue e X.env (eval e X.env)) (TP X pins σ Q) X.xe s
noncomputable def PW (X : Cx) (e : Expr) (t : TT) : Prop :=
  ∀ (whole : Sem Value) (pins : List (Addr × Obj)) (s : Shared) (σ : St) (H : Hp) (Q : Bool → Hp → Prop), Inv X pins σ H s → t σ H Q → wpAny (model X.prog X.w) X.A (isTrue e X.env whole) (TP X pins σ Q) X.xe s
theorem PW.pt {X : Cx} {e : Expr} {t : TT} (h : PW X e t) : PT X e t := h _
noncomputable def PA (X : Cx) (es : List Expr) (t : TA) : Prop :=
  ∀ (pos : Pos) (pins : List (Addr × Obj)) (s : Shared) (σ : St) (H : Hp) (Q : List V → Hp → Prop), Inv X pins σ H s → t σ H Q → wpAny (model X.prog X.w) X.A (spliced (backTo pos (starEach es X.env))) (AP X pins σ Q) X.xe s
noncomputable def PS (X : Cx) (st : Stmt) (t : TS) : Prop :=
  ∀ (pins : List (Addr × Obj)) (s : Shared) (σ : St) (H : Hp) (D : Ends), Inv X pins σ H s → t D σ H → wpAny (model X.prog X.w) X.A (exec st X.env) (SP X pins D) X.xe s
noncomputable def PSs (X : Cx) (st : List Stmt) (t : TS) : Prop :=
  ∀ (pins : List (Addr × Obj)) (s : Shared) (σ : St) (H : Hp) (D : Ends), Inv X pins σ H s → t D σ H → wpAny (model X.prog X.w) X.A (execs st X.env) (SP X pins D) X.xe s
theorem thn {α : Type} {t : Sem α} {Q Q' : α → Shared → Prop} {M : Model} {A : Around} {E : Value → Shared → Prop} {s : Shared} (h : wpAny M A t Q E s) (hQ : ∀ a s, Q a s → Q' a s) : wpAny M A t Q' E s := wpAny_mono h hQ fun _ _ x => x
end L2

namespace L2
open PySem PySem.Spec PyProof.Rows
section
variable {X : Cx}

noncomputable def tVar (i : Nat) : TE := fun σ H Q => ∃ v, σ[i]? = some (some v) ∧ Q v H
noncomputable def tC (v : V) : TE := fun _ H Q => Q v H
theorem pe_var {i : Nat} {x : Str} {pos : Pos} (hN : X.N[i]? = some x) (hv : Vis X.env.scope x) (hd : (x == ("__debug__" : Str)) = false := by decide) (hcd : (x == ("__classdict__" : Str)) = false := by decide) : PE X (.Name x pos) (tVar i) := by
  intro pins s σ H Q I h
  obtain ⟨v, e, h⟩ := h
  obtain ⟨m, hn, hl⟩ := I.loc
  obtain ⟨u, r, l⟩ := hl i x v hN e hv
  have fin : EP X pins σ Q u s := ⟨v, H, I, r, h⟩
  rcases l with ⟨hk, hm⟩ | ⟨hk, c, hc, hcell⟩
  · exact wpAny_Name (wpAny_loadName_local I.ok.kind hk hn hm fin) hd
  · rcases hk with hk | hk
    · exact wpAny_Name (wpAny_loadName_cell I.ok.kind hk hc hcell fin) hd
    · exact wpAny_Name (wpAny_loadName_free I.ok.kind hk hc hcell fin hcd) hd
theorem pe_int {i j pos} : PE X (.Constant (.int i) j pos) (tC (.int i)) := fun _ _ _ H _ I h => wpAny_Constant_int ⟨.int i, H, I.tok _, ⟨_, rfl⟩, h⟩
theorem pe_bl {b j pos} : PE X (.Constant (.bool b) j pos) (tC (.bl b)) := fun _ _ _ H _ I h => Constant_bool ⟨.bl b, H, I, rfl, h⟩
theorem pe_non {j pos} : PE X (.Constant .none j pos) (tC .non) := fun _ _ _ H _ I h => Constant_none ⟨.non, H, I, rfl, h⟩
theorem pe_str {x j pos} : PE X (.Constant (.str x) j pos) (tC (.str x)) := fun _ _ _ H _ I h => Calls.Constant_str ⟨.str x, H, I.tok _, ⟨_, rfl⟩, h⟩

noncomputable def Gl (X : Cx) (x : Str) : Prop := X.env.kindOf x = some .globalImplicit
theorem ld_glob {E : Value → Shared → Prop} {pins : List (Addr × Obj)} {s : Shared} {σ : St} {H : Hp} {x : Str} {u : Value} {pos : Pos} {Q : Value → Shared → Prop} (I : Inv X pins σ H s) (hg : Gl X x) (hm : X.mg x = some u) (h : Q u s)
    (hd : (x == ("__debug__" : Str)) = false := by decide) : wpAny (model X.prog X.w) X.A (eval (.Name x pos) X.env) Q E s :=
  Calls.Name_function_global I.ok.kind hg (Calls.loadGlobal_global (by rw [I.ok.glob]; exact I.mod.glob.keeps I.bk) hm h) hd
theorem ld_blt {E : Value → Shared → Prop} {pins : List (Addr × Obj)} {s : Shared} {σ : St} {H : Hp} {x : Str} {u : Value} {pos : Pos} {Q : Value → Shared → Prop} (I : Inv X pins σ H s) (hg : Gl X x) (hm : X.mg x = none) (hv : bootBuiltins x = some u) (h : Q u s)
    (hn : x ≠ "__name__" := by decide) (hd : (x == ("__debug__" : Str)) = false := by decide) : wpAny (model X.prog X.w) X.A (eval (.Name x pos) X.env) Q E s := by
  obtain ⟨mb, h1, h2⟩ := I.mod.blt
  exact Calls.Name_function_global I.ok.kind hg (Calls.loadGlobal_builtin (by rw [I.ok.glob]; exact I.mod.glob.keeps I.bk) hm (by rw [I.ok.blt]; exact h1.keeps I.bk) ((h2 x hn).trans hv) h) hd
theorem pe_glob {x : Str} {v : V} {u : Value} {pos : Pos} (hg : Gl X x) (hm : X.mg x = some u) (r : RelV v u) (hd : (x == ("__debug__" : Str)) = false := by decide) : PE X (.Name x pos) (tC v) :=
  fun _ _ _ H _ I h => ld_glob I hg hm ⟨v, H, I, r, h⟩ hd
theorem pe_bltn {x : Str} {v : V} {u : Value} {pos : Pos} (hg : Gl X x) (hm : X.mg x = none) (hv : bootBuiltins x = some u) (r : RelV v u) (hn : x ≠ "__name__" := by decide) (hd : (x == ("__debug__" : Str)) = false := by decide) : PE X (.Name x pos) (tC v) :=
  fun _ _ _ H _ I h => ld_blt I hg hm hv ⟨v, H, I, r, h⟩ hn hd

variable {a b : Expr} {ta tb : TE} {pos : Pos}
noncomputable def tB (t : TE) : TT := fun σ H Q => t σ H fun x H1 => ∃ c, x = .bl c ∧ Q c H1
theorem pt_val {e : Expr} {t : TE} (h : PE X e t) (he : ∀ whole, isTrue e X.env whole = (do let v ← whole; standAt e.pos; holding [v] (truthy v)) := by intro _; rfl) : PT X e (tB t) := by
  intro pins s σ H Q I hw
  refine isTrue_plain (thn (h pins s σ H _ I hw) fun v s1 ⟨x, H1, I1, r1, q1⟩ => ?_) (he _)
  obtain ⟨d, rfl, q⟩ := q1
  cases r1
  exact wpAny_truthy_bool ⟨H1, I1, q⟩

variable {tA tB' : TT} {rest : List Expr}
noncomputable def tAnd (t u : TT) : TT := fun σ H Q => t σ H fun c H1 => if c = true then u σ H1 Q else Q false H1
noncomputable def tOr (t u : TT) : TT := fun σ H Q => t σ H fun c H1 => if c = true then Q true H1 else u σ H1 Q
noncomputable def tNot (t : TT) : TT := fun σ H Q => t σ H fun c H1 => Q (!c) H1
theorem pw_and1 (ha : PT X a tA) : PW X (.BoolOp .And [a] pos) tA := by
  intro wh pins s σ H Q I h
  refine isTrue_and (thn (ha pins s σ H Q I h) fun c s1 e => ?_)
  cases c with
  | true => exact isTrue_and_nil e
  | false => exact e
theorem pw_or1 (ha : PT X a tA) : PW X (.BoolOp .Or [a] pos) tA := by
  intro wh pins s σ H Q I h
  refine isTrue_or (thn (ha pins s σ H Q I h) fun c s1 e => ?_)
  cases c with
  | false => exact isTrue_or_nil e
  | true => exact e
theorem pw_and (ha : PT X a tA) (hb : PW X (.BoolOp .And (b :: rest) pos) tB') : PW X (.BoolOp .And (a :: b :: rest) pos) (tAnd tA tB') := by
  intro wh pins s σ H Q I h
  refine isTrue_and (thn (ha pins s σ H _ I h) fun c s1 ⟨H1, I1, q1⟩ => ?_)
  cases c with
  | true => exact hb wh pins s1 σ H1 Q I1 q1
  | false => exact ⟨H1, I1, q1⟩
theorem pw_or (ha : PT X a tA) (hb : PW X (.BoolOp .Or (b :: rest) pos) tB') : PW X (.BoolOp .Or (a :: b :: rest) pos) (tOr tA tB') := by
  intro wh pins s σ H Q I h
  refine isTrue_or (thn (ha pins s σ H _ I h) fun c s1 ⟨H1, I1, q1⟩ => ?_)
  cases c with
  | true => exact ⟨H1, I1, q1⟩
  | false => exact hb wh pins s1 σ H1 Q I1 q1
theorem pt_not (ha : PT X a tA) : PT X (.UnaryOp .Not a pos) (tNot tA) := by
  intro pins s σ H Q I h
  exact isTrue_not (ha pins s σ H (fun c H1 => Q (!c) H1) I h)
noncomputable def tAndV (ta tb : TE) : TE := fun σ H Q => ta σ H fun x H1 => ∃ c, x = .bl c ∧ if c = true then tb σ H1 Q else Q (.bl false) H1
noncomputable def tOrV (ta tb : TE) : TE := fun σ H Q => ta σ H fun x H1 => ∃ c, x = .bl c ∧ if c = true then Q (.bl true) H1 else tb σ H1 Q
noncomputable def tNotV (ta : TE) : TE := fun σ H Q => ta σ H fun x H1 => ∃ c, x = .bl c ∧ Q (.bl (!c)) H1
theorem pe_one {op} {t : TE} (h : PE X a t) : PE X (.BoolOp op [a] pos) t := fun pins s σ H Q I hw => BoolOp_one (h pins s σ H Q I hw)
theorem pe_and (ha : PE X a ta) (hb : PE X (.BoolOp .And (b :: rest) pos) tb) : PE X (.BoolOp .And (a :: b :: rest) pos) (tAndV ta tb) := by
  intro pins s σ H Q I h
  refine BoolOp_and (thn (ha pins s σ H _ I h) fun v s1 ⟨x, H1, I1, r1, q1⟩ => ?_)
  obtain ⟨c, rfl, q1⟩ := q1
  cases r1
  refine wpAny_truthy_bool ?_
  cases c with
  | true => exact hb pins s1 σ H1 Q I1 q1
  | false => exact ⟨.bl false, H1, I1, rfl, q1⟩
theorem pe_or (ha : PE X a ta) (hb : PE X (.BoolOp .Or (b :: rest) pos) tb) : PE X (.BoolOp .Or (a :: b :: rest) pos) (tOrV ta tb) := by
  intro pins s σ H Q I h
  refine BoolOp_or (thn (ha pins s σ H _ I h) fun v s1 ⟨x, H1, I1, r1, q1⟩ => ?_)
  obtain ⟨c, rfl, q1⟩ := q1
  cases r1
  refine wpAny_truthy_bool ?_
  cases c with
  | false => exact hb pins s1 σ H1 Q I1 q1
  | true => exact ⟨.bl true, H1, I1, rfl, q1⟩
theorem pe_not (ha : PE X a ta) : PE X (.UnaryOp .Not a pos) (tNotV ta) := by
  intro pins s σ H Q I h
  refine UnaryOp_ (thn (ha pins s σ H _ I h) fun v s1 ⟨x, H1, I1, r1, q1⟩ => ?_)
  obtain ⟨c, rfl, q1⟩ := q1
  cases r1
  exact not_of (wpAny_truthy_bool ⟨.bl (!c), H1, I1, rfl, q1⟩)
noncomputable def tIf (t : TT) (ta tb : TE) : TE := fun σ H Q => t σ H fun c H1 => if c = true then ta σ H1 Q else tb σ H1 Q
theorem pe_ifExp {c : Expr} (hc : PT X c tA) (ha : PE X a ta) (hb : PE X b tb) : PE X (.IfExp c a b pos) (tIf tA ta tb) := by
  intro pins s σ H Q I h
  refine wpAny_IfExp (thn (hc pins s σ H _ I h) fun d s1 ⟨H1, I1, q1⟩ => ?_)
  cases d with
  | true => exact ha pins s1 σ H1 Q I1 q1
  | false => exact hb pins s1 σ H1 Q I1 q1
end
end L2

namespace L2
open PySem PySem.Spec PyProof.Rows

noncomputable def SqL (K : PySem.W.Frag) (H : Hp) (a : Addr) (xs : List V) : Prop :=
  Rd H a (.lst xs) ∨
    ∃ (o : Obj) (its : Array Value) (n : Nat), K.lookup a = some o ∧ o.cls = .type "list" ∧ o.dict = none ∧ o.data = .seq its n ∧ its.size ≤ sizeLine ∧ Vals xs its.toList
noncomputable def SqT (K : PySem.W.Frag) (H : Hp) (a : Addr) (xs : List V) : Prop :=
  Rd H a (.tup xs) ∨
    ∃ (o : Obj) (its : Array Value) (n : Nat), K.lookup a = some o ∧ o.cls = .type "tuple" ∧ o.data = .seq its n ∧ its.size ≤ sizeLine ∧ Vals xs its.toList
noncomputable def absV : Value → Option V
  | .none => some .non
  | .bool b => some (.bl b)
  | .int i _ => some (.int i)
  | .str x _ => some (.str x)
  | .bytes b _ => some (.byt b)
  | .float b _ => some (.flt b)
  | .ref a => some (.ref a)
  | .type n => some (.ty n)
  | _ => none
theorem RelV.abs {x : V} {u : Value} (r : RelV x u) : absV u = some x := by
  cases x with
  | non => cases r; rfl
  | bl _ => cases r; rfl
  | int _ => obtain ⟨t, rfl⟩ := r; rfl
  | str _ => obtain ⟨t, rfl⟩ := r; rfl
  | byt _ => obtain ⟨t, rfl⟩ := r; rfl
  | flt _ => obtain ⟨t, rfl⟩ := r; rfl
  | ref _ => cases r; rfl
  | ty _ => cases r; rfl
theorem RelV.inj {x y : V} {u : Value} (r : RelV x u) (q : RelV y u) : x = y := Option.some.inj (r.abs.symm.trans q.abs)
theorem Vals.inj : ∀ {xs ys : List V} {us : List Value}, Vals xs us → Vals ys us → xs = ys
  | _, _, _, .nil, .nil => rfl
  | _, _, _, .cons r t, .cons r' t' => by rw [r.inj r', Vals.inj t t']
section
variable {X : Cx} {pins : List (Addr × Obj)} {σ : St} {H : Hp} {s : Shared} {a : Addr} {xs ys : List V}
theorem SqL.of {K : PySem.W.Frag} (h : H a = some (.lst xs)) : SqL K H a xs := .inl (.inl h)
theorem SqT.of {K : PySem.W.Frag} (h : H a = some (.tup xs)) : SqT K H a xs := .inl (.inl h)
theorem Inv.list (I : Inv X pins σ H s) (h : SqL X.K H a xs) : ∃ its : List Value, Vals xs its ∧ PlainL s.heap a its.toArray ∧ xs.length ≤ sizeLine := by
  rcases h with h | ⟨o, its, n, hk, hc, hd, hs, hz, r⟩
  · obtain ⟨z, its, n, r, e⟩ := h.ok I.hok
    exact ⟨its, r, ⟨_, n, e, rfl, rfl, rfl⟩, z⟩
  · refine ⟨its.toList, r, ⟨o, n, I.kIn a o hk, hc, hd, by simpa using hs⟩, ?_⟩
    have e := r.length
    simp only [Array.length_toList] at e
    omega
theorem Inv.tuple (I : Inv X pins σ H s) (h : SqT X.K H a xs) : ∃ its : List Value, Vals xs its ∧ IsTup s.heap a its.toArray ∧ xs.length ≤ sizeLine := by
  rcases h with h | ⟨o, its, n, hk, hc, hs, hz, r⟩
  · obtain ⟨z, its, r, p⟩ := h.ok I.hok
    exact ⟨its, r, p, z⟩
  · refine ⟨its.toList, r, ⟨o, I.kIn a o hk, hc, n, by simpa using hs⟩, ?_⟩
    have e := r.length
    simp only [Array.length_toList] at e
    omega
theorem Inv.list_inj (I : Inv X pins σ H s) (h : SqL X.K H a xs) (h' : SqL X.K H a ys) : xs = ys := by
  obtain ⟨its, r, ⟨o, n, e, _, _, d⟩, _⟩ := I.list h
  obtain ⟨its', r', ⟨o', n', e', _, _, d'⟩, _⟩ := I.list h'
  rw [e] at e'; cases e'
  rw [d] at d'
  injection d' with d1 _
  have : its = its' := by simpa using congrArg Array.toList d1
  subst this
  exact r.inj r'
end

noncomputable abbrev Cx.wish (X : Cx) (E : Value → Shared → Prop) : Cx := { X with xe := E }
noncomputable abbrev Cx.nox (X : Cx) : Cx := X.wish fun _ _ => False
theorem Cx.Ok.wish {X : Cx} (ok : X.Ok) (E : Value → Shared → Prop) : (X.wish E).Ok :=
  ⟨ok.mod, ok.kind, ok.glob, ok.blt, ok.above, ok.inj, ok.has, ok.cab, ok.hd, ok.frames, ok.stk, ok.exf, ok.bs, ok.bsz, ok.noex, ok.exfs, ok.funs, ok.frf⟩
theorem Cx.Ok.unwish {X : Cx} {E : Value → Shared → Prop} (ok : (X.wish E).Ok) : X.Ok :=
  ⟨ok.mod, ok.kind, ok.glob, ok.blt, ok.above, ok.inj, ok.has, ok.cab, ok.hd, ok.frames, ok.stk, ok.exf, ok.bs, ok.bsz, ok.noex, ok.exfs, ok.funs, ok.frf⟩
section
variable {X : Cx} {pins : List (Addr × Obj)} {σ : St} {H : Hp} {s : Shared} {E : Value → Shared → Prop}
theorem Inv.wish (I : Inv X pins σ H s) (E : Value → Shared → Prop) : Inv (X.wish E) pins σ H s := ⟨I.ok.wish E, I.os, I.bare, I.base, I.loc, I.cell, I.free, I.freeC, I.pin, I.hok, I.len⟩
theorem Inv.unwish (I : Inv (X.wish E) pins σ H s) : Inv X pins σ H s := ⟨I.ok.unwish, I.os, I.bare, I.base, I.loc, I.cell, I.free, I.freeC, I.pin, I.hok, I.len⟩
theorem SP.unwish {D : Ends} {f : Flow} {s' : Shared} (h : SP (X.wish E) pins D f s') : SP X pins D f s' := by
  cases f with
  | next => obtain ⟨σ', H', I, q⟩ := h; exact ⟨σ', H', I.unwish, q⟩
  | brk => obtain ⟨σ', H', I, q⟩ := h; exact ⟨σ', H', I.unwish, q⟩
  | cont => obtain ⟨σ', H', I, q⟩ := h; exact ⟨σ', H', I.unwish, q⟩
  | ret u => obtain ⟨v, σ', H', I, r, q⟩ := h; exact ⟨v, σ', H', I.unwish, r, q⟩
theorem PE.nox {e : Expr} {t : TE} (h : PE X.nox e t) : PE X e t := fun pins s σ H Q I hw =>
  wpAny_mono (h pins s σ H Q (I.wish _) hw) (fun _ _ ⟨v, H', I', r, q⟩ => ⟨v, H', I'.unwish, r, q⟩) fun _ _ z => False.elim z
theorem PT.nox {e : Expr} {t : TT} (h : PT X.nox e t) : PT X e t := fun pins s σ H Q I hw =>
  wpAny_mono (h pins s σ H Q (I.wish _) hw) (fun _ _ ⟨H', I', q⟩ => ⟨H', I'.unwish, q⟩) fun _ _ z => False.elim z
theorem PSs.nox {st : List Stmt} {t : TS} (h : PSs X.nox st t) : PSs X st t := fun pins s σ H D I hw =>
  wpAny_mono (h pins s σ H D (I.wish _) hw) (fun _ _ q => q.unwish) fun _ _ z => False.elim z
end

section
variable {X : Cx} {st : Stmt} {rest : List Stmt} {t u : TS} {e : Expr} {te : TE} {pos : Pos}
noncomputable def tNext : TS := fun D σ H => D.nx σ H
noncomputable def tSeq (t u : TS) : TS := fun D σ H => t { D with nx := u D } σ H
theorem pss_nil : PSs X [] tNext := fun _ _ σ H _ I h => wpAny_execs_nil ⟨σ, H, I, h⟩
theorem pss_cons (h1 : PS X st t) (h2 : PSs X rest u) : PSs X (st :: rest) (tSeq t u) := by
  intro pins s σ H D I h
  refine wpAny_execs_cons (thn (h1 pins s σ H { D with nx := u D } I h) fun f s1 q => ?_)
  cases f with
  | next =>
    obtain ⟨σ', H', I', q⟩ := q
    exact h2 pins s1 σ' H' D I' q
  | ret v => exact q
  | brk => exact q
  | cont => exact q
theorem pss_one (h1 : PS X st t) : PSs X [st] t := by
  intro pins s σ H D I h
  refine wpAny_execs_cons (thn (h1 pins s σ H D I h) fun f s1 q => ?_)
  cases f with
  | next => exact wpAny_execs_nil q
  | ret v => exact q
  | brk => exact q
  | cont => exact q
theorem Inv.quiet {pins : List (Addr × Obj)} {σ : St} {H : Hp} {s : Shared} (I : Inv X pins σ H s) : interactive X.env = false := by simp [interactive, I.ok.kind]
noncomputable def tDrop (te : TE) : TS := fun D σ H => te σ H fun _ H1 => D.nx σ H1
theorem ps_expr (he : PE X e te) (hs : swapsWith e none pos.line X.env = pure false := by rfl) : PS X (.Expr e pos) (tDrop te) := by
  intro pins s σ H D I h
  exact wpAny_Expr_any (thn (he pins s σ H _ I h) fun v s1 ⟨x, H1, I1, r1, q1⟩ => ⟨σ, H1, I1, q1⟩) I.quiet hs
noncomputable def tRet (te : TE) : TS := fun D σ H => te σ H D.rt
theorem ps_ret (he : PE X e te) : PS X (.Return (some e) pos) (tRet te) := by
  intro pins s σ H D I h
  exact wpAny_Return_some (thn (he pins s σ H _ I h) fun v s1 ⟨x, H1, I1, r1, q1⟩ => ⟨x, σ, H1, I1, r1, q1⟩)
noncomputable def tIfS (c : TT) (t u : TS) : TS := fun D σ H => c σ H fun b H1 => if b = true then t D σ H1 else u D σ H1
theorem ps_if {c : Expr} {a b : List Stmt} {tc : TT} (hc : PT X c tc) (ha : PSs X a t) (hb : PSs X b u) : PS X (.If c a b pos) (tIfS tc t u) := by
  intro pins s σ H D I h
  refine wpAny_If (thn (hc pins s σ H _ I h) fun d s1 ⟨H1, I1, q1⟩ => ?_)
  cases d with
  | true => exact ha pins s1 σ H1 D I1 q1
  | false => exact hb pins s1 σ H1 D I1 q1
end

abbrev TG := V → St → Hp → (St → Hp → Prop) → Prop
abbrev TGs := List V → St → Hp → (St → Hp → Prop) → Prop
noncomputable def PG (X : Cx) (target : Expr) (t : TG) : Prop :=
  ∀ (pins : List (Addr × Obj)) (s : Shared) (σ : St) (H : Hp) (v : V) (u : Value) (Q : St → Hp → Prop), Inv X pins σ H s → RelV v u → t v σ H Q →
    wpAny (model X.prog X.w) X.A (assign target X.env u) (fun _ s' => ∃ σ' H', Inv X pins σ' H' s' ∧ Q σ' H') X.xe s
noncomputable def PGs (X : Cx) (ts : List Expr) (t : TGs) : Prop :=
  ∀ (pins : List (Addr × Obj)) (s : Shared) (σ : St) (H : Hp) (vs : List V) (us : List Value) (Q : St → Hp → Prop), Inv X pins σ H s → Vals vs us → t vs σ H Q →
    wpAny (model X.prog X.w) X.A (assignInOrder ((assignEach ts X.env).map (·.2)) us) (fun _ s' => ∃ σ' H', Inv X pins σ' H' s' ∧ Q σ' H') X.xe s
abbrev TSet := V → V → V → Hp → (Hp → Prop) → Prop
noncomputable def PSet (X : Cx) (t : TSet) : Prop :=
  ∀ (pins : List (Addr × Obj)) (s : Shared) (σ : St) (H : Hp) (o i v : V) (ov iv u : Value) (Q : Hp → Prop), Inv X pins σ H s → RelV o ov → RelV i iv → RelV v u → t o i v H Q →
    wpAny (model X.prog X.w) X.A (setItem ov iv u) (fun _ s' => ∃ H', Inv X pins σ H' s' ∧ Q H') X.xe s
abbrev TIp := V → V → Hp → VK → Prop
noncomputable def PIp (X : Cx) (op : Operator) (t : TIp) : Prop :=
  ∀ (pins : List (Addr × Obj)) (s : Shared) (σ : St) (H : Hp) (x y : V) (v u : Value) (Q : VK), Inv X pins σ H s → RelV x v → RelV y u → t x y H Q →
    wpAny (model X.prog X.w) X.A (inplaceOp op v u) (EP X pins σ Q) X.xe s
section
variable {X : Cx} {pos : Pos}
noncomputable def gName (i : Nat) : TG := fun v σ H Q => Q (σ.set i (some v)) H
theorem pg_name {i : Nat} {x : Str} (hN : X.N.Nodup) (hi : X.N[i]? = some x) (hx : Loc X.env.scope x) (hf : X.fn x = true ∨ X.env.scope.names.lookup x = some .local := by first | exact .inl rfl | exact .inr rfl | assumption) : PG X (.Name x pos) (gName i) := by
  intro pins s σ H v u Q I r h
  exact wpAny_assign_Name (store_ok I hN hi hx r (fun s' I' => ⟨_, H, I', h⟩) hf)
noncomputable def gNil : TGs := fun vs σ H Q => vs = [] ∧ Q σ H
noncomputable def gCons (t : TG) (u : TGs) : TGs := fun vs σ H Q => ∃ v r, vs = v :: r ∧ t v σ H fun σ' H' => u r σ' H' Q
theorem pgs_nil : PGs X [] gNil := by
  intro pins s σ H vs us Q I r h
  obtain ⟨e, h⟩ := h
  subst e
  cases r
  exact assignInOrder_nil ⟨σ, H, I, h⟩
theorem pgs_cons {e : Expr} {es : List Expr} {t : TG} {u : TGs} (h1 : PG X e t) (h2 : PGs X es u)
    (hs : (assignEach (e :: es) X.env).map (·.2) = assign e X.env :: (assignEach es X.env).map (·.2) := by rfl) : PGs X (e :: es) (gCons t u) := by
  intro pins s σ H vs us Q I r h
  obtain ⟨v, vr, e1, h⟩ := h
  subst e1
  cases r with
  | cons r rr =>
    rw [hs]
    refine assignInOrder_cons (thn (h1 pins s σ H _ _ _ I r h) fun _ s1 ⟨σ1, H1, I1, q1⟩ => ?_)
    exact h2 pins s1 σ1 H1 _ _ Q I1 rr q1
noncomputable def gTup (K : PySem.W.Frag) (n : Nat) (t : TGs) : TG := fun v σ H Q => ∃ a xs, v = .ref a ∧ SqT K H a xs ∧ xs.length = n ∧ t xs σ H Q
theorem pg_tup {es : List Expr} {k : Nat} {t : TGs} {n : Nat} (hc : X.calm = true) (h : PGs X es t)
    (hn : (assignEach es X.env).length = n := by rfl) (hst : (assignEach es X.env).findIdx? (·.1) = none := by rfl) : PG X (.Tuple es k pos) (gTup X.K n t) := by
  intro pins s σ H v u Q I r hw
  obtain ⟨a, xs, e1, hq, hl, hw⟩ := hw
  subst e1
  cases r
  obtain ⟨its, rv, ht, hz⟩ := I.tuple hq
  refine assign_Tuple_tuple (I.ok.hd hc) ht (by simp [hn, ← hl, rv.length]) hst fun h' hx => ?_
  have I1 : Inv X pins σ H { s with heap := h' } := I.kept (t' := s.toks) fun b o e => hx b o (Nat.ne_of_lt (Heap.lt_size e)) e
  exact h pins _ σ H xs _ Q I1 (by simpa using rv) hw
noncomputable def gSub (to ti : TE) (t : TSet) : TG := fun v σ H Q => to σ H fun o H1 => ti σ H1 fun i H2 => t o i v H2 fun H3 => Q σ H3
theorem pg_sub {o i : Expr} {to ti : TE} {t : TSet} (ho : PE X o to) (hi : PE X i ti) (hs : PSet X t)
    (ha : ∀ v, assign (.Subscript o i pos) X.env v = (do
      let ov ← holding [v] (eval o X.env)
      let iv ← holding [v, ov] (eval i X.env)
      standAt pos
      holding [v, ov, iv] (setItem ov iv v)
      release [v, ov, iv] []) := by intro _; rfl) : PG X (.Subscript o i pos) (gSub to ti t) := by
  intro pins s σ H v u Q I r h
  rw [ha]
  refine wpAny_bind (wpAny_holding (thn (ho pins s σ H _ I h) fun ov s1 ⟨x, H1, I1, r1, q1⟩ => ?_))
  refine wpAny_bind (wpAny_holding (thn (hi pins s1 σ H1 _ I1 q1) fun iv s2 ⟨y, H2, I2, r2, q2⟩ => ?_))
  refine wpAny_bind (wpAny_standAt (wpAny_bind (wpAny_holding (thn (hs pins s2 σ H2 x y v ov iv u _ I2 r1 r2 r q2) fun _ s3 ⟨H3, I3, q3⟩ => ?_))))
  exact wpAny_release ⟨σ, H3, I3, q3⟩
noncomputable def tAsg (te : TE) (g : TG) : TS := fun D σ H => te σ H fun x H1 => g x σ H1 D.nx
theorem ps_asg {tg e : Expr} {te : TE} {g : TG} (he : PE X e te) (hg : PG X tg g) (hs : swapsWithSole [tg] e pos.line X.env = pure false := by rfl) (hw : swappedStores [tg] e X.env = pure none := by rfl)
    (h1 : (assignEach [tg] X.env).map (·.2) = [assign tg X.env] := by rfl) : PS X (.Assign [tg] e pos) (tAsg te g) := by
  intro pins s σ H D I h
  refine wpAny_Assign_stores (thn (he pins s σ H _ I h) fun v s1 ⟨x, H1, I1, r1, q1⟩ => ?_) hs hw
  rw [h1]
  exact thn (hg pins s1 σ H1 x v _ I1 r1 q1) fun _ s2 q => q
theorem ps_set {i : Nat} {x : Str} {e : Expr} {te : TE} {pos' : Pos} (hN : X.N.Nodup) (hi : X.N[i]? = some x) (hx : Loc X.env.scope x) (he : PE X e te) (hs : swapsWith e (some (.Name x pos')) pos.line X.env = pure false := by rfl) (hf : X.fn x = true ∨ X.env.scope.names.lookup x = some .local := by first | exact .inl rfl | exact .inr rfl | assumption) :
    PS X (.Assign [.Name x pos'] e pos) (tAsg te (gName i)) := by
  intro pins s σ H D I h
  refine wpAny_Assign_Name (thn (he pins s σ H _ I h) fun v s1 ⟨y, H1, I1, r1, q1⟩ => ?_) hs
  exact store_ok I1 hN hi hx r1 (fun s2 I2 => ⟨_, H1, I2, q1⟩) hf
noncomputable def tPar (i j : Nat) (ta : TA) : TS := fun D σ H => ta σ H fun vs H1 => ∃ v w, vs = [v, w] ∧ D.nx ((σ.set i (some v)).set j (some w)) H1
theorem ps_par {i j : Nat} {x y : Str} {a b : Expr} {ta : TA} {px py pt : Pos} {kt k2 pt2} (hc : X.calm = true) (hN : X.N.Nodup) (hi : X.N[i]? = some x) (hj : X.N[j]? = some y) (hij : i ≠ j)
    (hx : X.env.scope.names.lookup x = some .local) (hy : X.env.scope.names.lookup y = some .local) (ha : PA X [a, b] ta)
    (hw : swappedStores [.Tuple [.Name x px, .Name y py] kt pt] (.Tuple [a, b] k2 pt2) X.env = pure (some [x, y]))
    (hs : swapsWithSole [.Tuple [.Name x px, .Name y py] kt pt] (.Tuple [a, b] k2 pt2) pos.line X.env = pure false := by rfl) :
    PS X (.Assign [.Tuple [.Name x px, .Name y py] kt pt] (.Tuple [a, b] k2 pt2) pos) (tPar i j ta) := by
  intro pins s σ H D I h
  rw [exec_Assign_arm]
  refine wpAny_bind (wpAny_standAt ?_)
  rw [hs]
  refine wpAny_bind (wpAny_pure ?_)
  rw [if_neg (by decide)]
  refine wpAny_bind (Tuple_ (thn (ha _ pins s σ H _ I h) fun us s1 ⟨vs, H1, I1, r1, q1⟩ => ?_))
  obtain ⟨v, w, e1, q1⟩ := q1
  subst e1
  obtain ⟨u1, u2, rfl, rv, rw'⟩ : ∃ u1 u2, us = [u1, u2] ∧ RelV v u1 ∧ RelV w u2 := by
    cases r1 with
    | cons p q =>
      cases q with
      | cons p' q' =>
        cases q'
        exact ⟨_, _, rfl, p, p'⟩
  refine wpAny_newObj_type ?_ (by show 2 ≤ sizeLine; decide)
  have I2 : Inv X pins σ H1 { s1 with heap := s1.heap.push { cls := .type "tuple", data := .seq [u1, u2].toArray } } := I1.kept (t' := s1.toks) fun b o e => Heap.get?_push_of_some _ e
  rw [hw]
  refine wpAny_bind (wpAny_pure ?_)
  show wpAny (model X.prog X.w) X.A (do rule "assign.swapped-stores"; let items ← unpackItems (.ref s1.heap.objs.size) 2 none; assignInOrder [fun v => bindName X.env y v, fun v => bindName X.env x v] items.reverse; pure Flow.next) _ _ _
  refine wpAny_bind (wpAny_rule (wpAny_bind (unpackItems_tuple (items := #[u1, u2]) (I.ok.hd hc) (IsTup.new s1.heap _) fun h' hx' => ?_)))
  have I3 := I2.kept (h' := h') (t' := s1.toks) fun b o e => hx' b o (Nat.ne_of_lt (Heap.lt_size e)) e
  show wpAny _ _ (assignInOrder [fun v => bindName X.env y v, fun v => bindName X.env x v] [u2, u1] >>= fun _ => pure Flow.next) _ _ _
  refine wpAny_bind (assignInOrder_cons (wpAny_bindName (store_ok I3 hN hj (.inl hy) rw' (fun s2 I4 => ?_) (.inr hy))))
  refine assignInOrder_cons (wpAny_bindName (store_ok I4 hN hi (.inl hx) rv (fun s3 I5 => assignInOrder_nil (wpAny_pure ?_)) (.inr hx)))
  rw [List.set_comm _ _ (Ne.symm hij)] at I5
  exact ⟨_, H1, I5, q1⟩
noncomputable def tAug (i : Nat) (te : TE) (ti : TIp) : TS := fun D σ H => ∃ x, σ[i]? = some (some x) ∧ te σ H fun y H1 => ti x y H1 fun z H2 => D.nx (σ.set i (some z)) H2
theorem ps_aug {i : Nat} {x : Str} {e : Expr} {te : TE} {op : Operator} {ti : TIp} {pos' : Pos} (hN : X.N.Nodup) (hi : X.N[i]? = some x) (hx : Loc X.env.scope x) (he : PE X e te) (ho : PIp X op ti) (hf : X.fn x = true ∨ X.env.scope.names.lookup x = some .local := by first | exact .inl rfl | exact .inr rfl | assumption) :
    PS X (.AugAssign (.Name x pos') op e pos) (tAug i te ti) := by
  intro pins s σ H D I h
  obtain ⟨v, e1, h⟩ := h
  obtain ⟨m, hn, hl⟩ := I.loc
  have vis : Vis X.env.scope x := by rcases hx with k | k; exact .inl k; exact .inr (.inl k)
  obtain ⟨u, r, l⟩ := hl i x v hi e1 vis
  refine wpAny_AugAssign_Name ?_
  have go : wpAny (model X.prog X.w) X.A (eval e X.env) (fun w s₂ => wpAny (model X.prog X.w) X.A (inplaceOp op u w) (fun r s₃ => wpAny (model X.prog X.w) X.A (storeName X.env x r) (fun _ => SP X pins D .next) X.xe s₃) X.xe s₂) X.xe s := by
    refine thn (he pins s σ H _ I h) fun w s1 ⟨y, H1, I1, r1, q1⟩ => ?_
    refine thn (ho pins s1 σ H1 v y u w _ I1 r r1 q1) fun z s2 ⟨zv, H2, I2, r2, q2⟩ => ?_
    exact store_ok I2 hN hi hx r2 (fun s3 I3 => ⟨_, H2, I3, q2⟩) hf
  rcases l with ⟨hk, hm⟩ | ⟨hk, c, hc, hcell⟩
  · exact wpAny_loadName_local I.ok.kind hk hn hm go
  · rcases hk with hk | hk
    · exact wpAny_loadName_cell I.ok.kind hk hc hcell go
    · rcases hx with k | k
      · have : X.env.scope.names.lookup x = some .free := hk
        rw [k] at this; cases this
      · have : X.env.scope.names.lookup x = some .free := hk
        rw [k] at this; cases this
noncomputable def ipI (f : Int → Int → Int) : TIp := fun x y H Q => ∃ i j, x = .int i ∧ y = .int j ∧ Q (.int (f i j)) H
theorem ip_add : PIp X .Add (ipI fun i j => i + j) := by
  intro pins s σ H x y v u Q I r1 r2 h
  obtain ⟨i, j, e1, e2, q⟩ := h
  subst e1; subst e2
  obtain ⟨t, rfl⟩ := r1
  obtain ⟨t', rfl⟩ := r2
  exact iadd_int ⟨.int _, H, I.tok _, ⟨_, rfl⟩, q⟩
theorem ip_sub : PIp X .Sub (ipI fun i j => i - j) := by
  intro pins s σ H x y v u Q I r1 r2 h
  obtain ⟨i, j, e1, e2, q⟩ := h
  subst e1; subst e2
  obtain ⟨t, rfl⟩ := r1
  obtain ⟨t', rfl⟩ := r2
  exact isub_int ⟨.int _, H, I.tok _, ⟨_, rfl⟩, q⟩
end

section
variable {X : Cx} {pos : Pos}
noncomputable def tWhile (c : TT) (tb : TS) : TS := fun D σ H => ∃ W : Nat → St → Hp → Prop, (∃ m, W m σ H) ∧ ∀ m σ H, W m σ H →
  c σ H fun b H1 => if b = true then ∃ N : St → Hp → Prop, (∀ σ' H', N σ' H' → ∃ m', m' < m ∧ W m' σ' H') ∧ tb { D with nx := N, ct := N, bk := D.nx } σ H1 else D.nx σ H1
theorem ps_while {c : Expr} {body : List Stmt} {tc : TT} {tb : TS} (hp : PassesOwn (model X.prog X.w) X.A X.env X.xe) (hc : PT X c tc) (hb : PSs X body tb) : PS X (.While c body [] pos) (tWhile tc tb) := by
  intro pins s σ H D I h
  obtain ⟨W, ⟨m0, w0⟩, turn⟩ := h
  refine wpAny_While (codeAny_whileLoop (fun n s' => ∃ σ' H', Inv X pins σ' H' s' ∧ W n σ' H') ?_ m0 ⟨σ, H, I, w0⟩)
  rintro n s1 ⟨σ1, H1, I1, w1⟩
  refine wpAny_passesOwn hp (thn (hc pins s1 σ1 H1 _ I1 (turn n σ1 H1 w1)) fun b s2 ⟨H2, I2, q2⟩ => ?_)
  cases b with
  | true =>
    obtain ⟨N, hN, q2⟩ := q2
    rw [if_pos rfl]
    refine wpAny_passesOwn hp (thn (hb pins s2 σ1 H2 _ I2 q2) fun f s3 q3 => ?_)
    cases f with
    | next =>
      obtain ⟨σ3, H3, I3, n3⟩ := q3
      obtain ⟨m', hm, w3⟩ := hN σ3 H3 n3
      exact ⟨m', hm, σ3, H3, I3, w3⟩
    | cont =>
      obtain ⟨σ3, H3, I3, n3⟩ := q3
      obtain ⟨m', hm, w3⟩ := hN σ3 H3 n3
      exact ⟨m', hm, σ3, H3, I3, w3⟩
    | brk => exact q3
    | ret v => exact q3
  | false =>
    rw [if_neg Bool.false_ne_true]
    exact wpAny_execs_nil ⟨σ1, H2, I2, q2⟩
end

structure It where
  go : Nat → Hp → Prop
  yld : Nat → Hp → V → Hp → Prop
  stop : Nat → Hp → Prop
noncomputable def FpOk (X : Cx) (pins : List (Addr × Obj)) (H : Hp) (b : Addr) : Prop :=
  H b = none ∧ b ≠ X.env.locals ∧ b ∉ X.fs ∧ (b ∈ X.ex ∨ X.s₀.heap.objs.size ≤ b) ∧ (∀ x c, X.env.cells.lookup x = some c → c ≠ b) ∧ ∀ p ∈ X.pn ++ pins, p.1 ≠ b
theorem Inv.fpOk {X : Cx} {pins : List (Addr × Obj)} {σ : St} {H H' : Hp} {s : Shared} {b : Addr} (I : Inv X pins σ H s) (hb : s.heap.objs.size ≤ b) (hn : H' b = none) : FpOk X pins H' b := by
  refine ⟨hn, Nat.ne_of_gt (Nat.lt_of_lt_of_le I.lt hb), I.nofs hb, .inr (Nat.le_trans I.sz hb), fun x c e z => ?_, fun p hp z => ?_⟩
  · obtain ⟨v, q⟩ := I.cell x c e
    exact absurd (Nat.lt_of_lt_of_le q.lt (by rw [z]; exact hb)) (Nat.lt_irrefl _)
  · exact absurd (Nat.lt_of_lt_of_le (Heap.lt_size (I.pin p hp).1) (by rw [z]; exact hb)) (Nat.lt_irrefl _)
structure Turn (P : Program) (w : World) (K : PySem.W.Frag) (tg : Expr) (J : It) (fp : List Addr) (it : Addr) (tn : Nat → Heap → Prop) : Prop where
  mem : it ∈ fp
  obj : ∀ i h, tn i h → ∀ b ∈ fp, ∃ o, h.get? b = some o ∧ ∀ v, o.data ≠ .cell v
  keep : ∀ i h h', tn i h → (∀ b ∈ fp, ∀ o, h.get? b = some o → h'.get? b = some o) → tn i h'
  item : ∀ (X : Cx), X.prog = P → X.w = w → X.K = K → X.calm = true → ∀ (i : Nat) (pins : List (Addr × Obj)) (s : Shared) (σ : St) (H : Hp) (E : Value → Shared → Prop), Inv X pins σ H s → (∀ b ∈ fp, FpOk X pins H b) → tn i s.heap → J.go i H →
    wpAny (model P w) X.A (pyNext (.ref it)) (fun r s1 => ∃ u, r = some u ∧
      wpAny (model P w) X.A (letOwnedTupleGo tg (.ref it) u) (fun _ s2 => ∃ x H', Inv X pins σ H' s2 ∧ RelV x u ∧ J.yld i H x H' ∧ tn (i + 1) s2.heap ∧ ∀ b ∈ fp, H' b = none) E s1) E s
  done : ∀ (X : Cx), X.prog = P → X.w = w → X.K = K → X.calm = true → ∀ (i : Nat) (pins : List (Addr × Obj)) (s : Shared) (σ : St) (H : Hp) (E : Value → Shared → Prop), Inv X pins σ H s → (∀ b ∈ fp, FpOk X pins H b) → tn i s.heap → J.stop i H →
    wpAny (model P w) X.A (pyNext (.ref it)) (fun r s1 => r = none ∧ Inv X pins σ H s1) E s
  self : ∀ (A : Around) (i : Nat) (s : Shared) (Q : Value → Shared → Prop) (E : Value → Shared → Prop), tn i s.heap → Q (.ref it) s → wpAny (model P w) A (pyIter (.ref it)) Q E s
abbrev TI := St → Hp → (It → Hp → Prop) → Prop
noncomputable def PIE (X : Cx) (pins : List (Addr × Obj)) (σ : St) (tg : Expr) (R : It → Hp → Prop) (itv : Value) (s2 : Shared) : Prop :=
  ∃ (it : Addr) (fp : List Addr) (tn : Nat → Heap → Prop) (J : It) (H' : Hp), itv = .ref it ∧ Inv X pins σ H' s2 ∧ Turn X.prog X.w X.K tg J fp it tn ∧ tn 0 s2.heap ∧ (∀ b ∈ fp, FpOk X pins H' b) ∧ R J H'
noncomputable def PI (X : Cx) (tg iter : Expr) (wi : TI) : Prop :=
  ∀ (pins : List (Addr × Obj)) (s : Shared) (σ : St) (H : Hp) (R : It → Hp → Prop), Inv X pins σ H s → wi σ H R →
    wpAny (model X.prog X.w) X.A (eval iter X.env) (fun v s1 => wpAny (model X.prog X.w) X.A (pyIter v) (PIE X pins σ tg R) X.xe s1) X.xe s

theorem go_of {M : Model} {A : Around} {E : Value → Shared → Prop} {s : Shared} {tg : Expr} {it : Addr} {u : Value} {o : Obj} {n : String} {vs : Array Value} {Q : Unit → Shared → Prop} (ho : s.heap.get? it = some o) (hc : o.cls = .type n) (hd : o.data = .fields vs)
    (hn : ["enumerate", "zip", "dict_itemiterator", "dict_reverseitemiterator", "odict_iterator", "itertools.zip_longest", "itertools.pairwise"].contains n = false) (hQ : Q () s) : wpAny M A (letOwnedTupleGo tg (.ref it) u) Q E s := by
  unfold letOwnedTupleGo
  cases tg <;> first
    | exact wpAny_pure hQ
    | (cases u <;> first
        | exact wpAny_pure hQ
        | (refine wpAny_bind (wpAny_load ho ?_)
           rw [hc, hd]
           show wpAny M A (if (["enumerate", "zip", "dict_itemiterator", "dict_reverseitemiterator", "odict_iterator", "itertools.zip_longest", "itertools.pairwise"].contains n && vs[0]? == some (rawInt _)) = true then _ else _) Q E s
           rw [if_neg (by intro h; rw [hn, Bool.false_and] at h; cases h)]
           exact wpAny_pure hQ))

noncomputable def Itl (K : PySem.W.Frag) (a : Addr) : It :=
  ⟨fun i H => ∃ xs x, SqL K H a xs ∧ xs[i]? = some x, fun i H x H' => H' = H ∧ ∀ xs, SqL K H a xs → xs[i]? = some x, fun i H => ∃ xs, SqL K H a xs ∧ xs.length ≤ i⟩
noncomputable def Itt (K : PySem.W.Frag) (a : Addr) : It :=
  ⟨fun i H => ∃ xs x, SqT K H a xs ∧ xs[i]? = some x, fun i H x H' => H' = H ∧ ∀ xs, SqT K H a xs → xs[i]? = some x, fun i H => ∃ xs, SqT K H a xs ∧ xs.length ≤ i⟩
noncomputable def Itr (lo : Int) (n : Nat) : It := ⟨fun i _ => i < n, fun i H x H' => H' = H ∧ x = .int (lo + i), fun i _ => n ≤ i⟩
theorem turn_list {P : Program} {w : World} {K : PySem.W.Frag} {tg : Expr} (a it : Addr) : Turn P w K tg (Itl K a) [it] it (fun i h => h.IsListIter it a i) where
  mem := by simp
  obj := fun i h st b hb => by
    have e : b = it := by simpa using hb
    subst e
    obtain ⟨o, e, c, d⟩ := st
    exact ⟨o, e, fun v z => by rw [d] at z; cases z⟩
  keep := fun i h h' st k => st.at fun o e => k it (by simp) o e
  item := by
    intro X hP hw hK hc i pins s σ H E I hf st hg
    subst hP hw hK
    obtain ⟨xs, x, hq, hx⟩ := hg
    obtain ⟨its, rv, p, hz⟩ := I.list hq
    obtain ⟨u, hu, ru⟩ := rv.get hx
    obtain ⟨f0, f1, f2, f3, f4, f5⟩ := hf it (by simp)
    refine wpAny_pyNext_list_item st p.isList (x := u) (by simpa using hu) fun h' st' sb => ?_
    have I1 : Inv X pins σ H { s with heap := h' } := I.turned (t' := s.toks) (fun b o hb e => (sb.2 b hb).trans e) f0 f1 f3 f4 f5
    obtain ⟨o, e, c, d⟩ := id st'
    exact ⟨u, rfl, go_of (s := { s with heap := h' }) e c d (by decide) ⟨x, H, I1, ru, ⟨rfl, fun ys hy => by rw [I.list_inj hy hq]; exact hx⟩, st', fun b hb => (hf b hb).1⟩⟩
  done := by
    intro X hP hw hK hc i pins s σ H E I hf st hg
    subst hP hw hK
    obtain ⟨xs, hq, hx⟩ := hg
    obtain ⟨its, rv, p, hz⟩ := I.list hq
    obtain ⟨f0, f1, f2, f3, f4, f5⟩ := hf it (by simp)
    have hl := rv.length
    exact wpAny_pyNext_list_end (I.ok.hd hc) st p.isList (by simp; omega) fun h' eb => ⟨rfl, I.turned (t' := s.toks) (fun b o hb e => eb b o hb e) f0 f1 f3 f4 f5⟩
  self := fun _ _ _ _ _ st h => wpAny_pyIter_listiter st h
theorem turn_range {P : Program} {w : World} {K : PySem.W.Frag} {tg : Expr} (it : Addr) (lo : Int) (n : Nat) : Turn P w K tg (Itr lo n) [it] it (fun i h => IsRangeIter h it (lo + (i : Nat) * 1) ((n : Int) - (i : Nat)) 1) where
  mem := by simp
  obj := fun i h st b hb => by
    have e : b = it := by simpa using hb
    subst e
    exact ⟨_, st, fun v z => by
      have z' : Data.fields _ = Data.cell v := z
      cases z'⟩
  keep := fun i h h' st k => k it (by simp) _ st
  item := by
    intro X hP hw hK hc i pins s σ H E I hf st hg
    subst hP hw hK
    obtain ⟨f0, f1, f2, f3, f4, f5⟩ := hf it (by simp)
    have W := Walks.range (prog := X.prog) (w := X.w) (I.ok.hd hc) it lo 1 n
    refine W.item i s _ _ hg st fun v h' tk hv st' kk => ?_
    obtain ⟨t, rfl⟩ := hv
    have I1 : Inv X pins σ H { s with heap := h', toks := tk } := I.turned (fun b o hb e => kk b o (by simpa using hb) e) f0 f1 f3 f4 f5
    refine ⟨_, rfl, go_of (s := { s with heap := h', toks := tk }) (n := "range_iterator") st' rfl rfl (by decide) ⟨.int (lo + i), H, I1, ⟨t, ?_⟩, ⟨rfl, rfl⟩, st', fun b hb => (hf b hb).1⟩⟩
    rw [Int.mul_one]
  done := by
    intro X hP hw hK hc i pins s σ H E I hf st hg
    subst hP hw hK
    obtain ⟨f0, f1, f2, f3, f4, f5⟩ := hf it (by simp)
    exact wpAny_pyNext_range_end (I.ok.hd hc) st (by have : n ≤ i := hg; omega) fun h' eb => ⟨rfl, I.turned (t' := s.toks) (fun b o hb e => eb b o hb e) f0 f1 f3 f4 f5⟩
  self := fun _ _ _ _ _ st h => wpAny_pyIter_rangeiter st h
end L2

namespace L2
open PySem PySem.Spec PyProof.Rows
section
variable {X : Cx} {tg : Expr}
noncomputable def iList (K : PySem.W.Frag) (tl : TE) : TI := fun σ H R => tl σ H fun x H1 => ∃ a, x = .ref a ∧ (∃ xs, SqL K H1 a xs) ∧ R (Itl K a) H1
noncomputable def iTup (K : PySem.W.Frag) (tl : TE) : TI := fun σ H R => tl σ H fun x H1 => ∃ a, x = .ref a ∧ (∃ xs, SqT K H1 a xs) ∧ R (Itt K a) H1
theorem pi_list {l : Expr} {tl : TE} (hl : PE X l tl) : PI X tg l (iList X.K tl) := by
  intro pins s σ H R I h
  refine thn (hl pins s σ H _ I h) fun v s1 ⟨x, H1, I1, r1, q1⟩ => ?_
  obtain ⟨a, e, ⟨xs, hq⟩, q⟩ := q1
  subst e
  cases r1
  obtain ⟨its, rv, p, hz⟩ := I1.list hq
  refine wpAny_pyIter_list p.isList ?_
  refine ⟨s1.heap.objs.size, [s1.heap.objs.size], _, _, H1, rfl, I1.kept (t' := s1.toks) fun b o e => Heap.get?_push_of_some _ e, turn_list a _, ⟨_, Heap.get?_push_size _ rfl, rfl, rfl⟩, fun b hb => ?_, q⟩
  have e : b = s1.heap.objs.size := by simpa using hb
  subst e
  exact I1.fpOk (Nat.le_refl _) (I1.hok.fresh (Nat.le_refl _))
theorem range_it {pins : List (Addr × Obj)} {σ : St} {H : Hp} {s : Shared} {R : It → Hp → Prop} {E : Value → Shared → Prop} {lo hi : Int} {t u v : Tok} {tk : Nat} (I : Inv X pins σ H s) (h1 : -(2 ^ 62) ≤ lo) (h2 : lo < 2 ^ 62) (h3 : -(2 ^ 62) ≤ hi) (h4 : hi < 2 ^ 62)
    (q : R (Itr lo (hi - lo).toNat) H) : wpAny (model X.prog X.w) X.A (pyIter (.ref s.heap.objs.size)) (PIE X pins σ tg R) E { s with heap := s.heap.push { cls := .type "range", data := .fields #[.int lo t, .int hi u, .int 1 v] }, toks := tk } := by
  refine wpAny_pyIter_range (IsRange.new ..) (small_one h1 h2 h3 h4) ?_
  have I1 : Inv X pins σ H { s with heap := s.heap.push { cls := .type "range", data := .fields #[.int lo t, .int hi u, .int 1 v] }, toks := tk } := I.kept fun b o e => Heap.get?_push_of_some _ e
  refine ⟨(s.heap.push { cls := .type "range", data := .fields #[.int lo t, .int hi u, .int 1 v] }).objs.size, [(s.heap.push { cls := .type "range", data := .fields #[.int lo t, .int hi u, .int 1 v] }).objs.size], _, _, H, rfl,
    I1.kept (t' := tk) fun b o e => Heap.get?_push_of_some _ e, turn_range _ lo (hi - lo).toNat, ?_, fun b hb => ?_, q⟩
  · have e1 : lo + ((0 : Nat) : Int) * 1 = lo := by simp
    have e2 : (((hi - lo).toNat : Nat) : Int) - ((0 : Nat) : Int) = Builtin.Range.rangeSize lo hi 1 := by rw [rangeSize_one]; split <;> omega
    show IsRangeIter _ _ (lo + ((0 : Nat) : Int) * 1) ((((hi - lo).toNat : Nat) : Int) - ((0 : Nat) : Int)) 1
    rw [e1, e2]
    exact Heap.get?_push_size _ rfl
  · have e : b = (s.heap.push { cls := .type "range", data := .fields #[.int lo t, .int hi u, .int 1 v] }).objs.size := by simpa using hb
    subst e
    exact I1.fpOk (Nat.le_refl _) (I1.hok.fresh (Nat.le_refl _))
noncomputable def iRng1 (ta : TA) : TI := fun σ H R => ta σ H fun vs H1 => ∃ j : Int, vs = [.int j] ∧ -(2 ^ 62) ≤ j ∧ j < 2 ^ 62 ∧ R (Itr 0 j.toNat) H1
noncomputable def iRng2 (ta : TA) : TI := fun σ H R => ta σ H fun vs H1 => ∃ i j : Int, vs = [.int i, .int j] ∧ (-(2 ^ 62) ≤ i ∧ i < 2 ^ 62 ∧ -(2 ^ 62) ≤ j ∧ j < 2 ^ 62) ∧ R (Itr i (j - i).toNat) H1
theorem pi_range1 {a : Expr} {ta : TA} {p pos : Pos} (hg : Gl X "range") (hm : X.mg "range" = none) (ha : PA X [a] ta) (hs : starEach [a] X.env = [(false, eval a X.env)] := by rfl) : PI X tg (.Call (.Name "range" p) [a] [] pos) (iRng1 ta) := by
  intro pins s σ H R I h
  refine Call_ (ld_blt I hg hm boot_range (PyProof.Rows.callWith_type1 (thn (ha pos pins s σ H _ I h) fun us s1 ⟨vs, H1, I1, r1, q1⟩ => ?_) hs rfl))
  obtain ⟨j, e, q1, q2, q⟩ := q1
  subst e
  cases r1 with
  | cons r rr =>
    cases rr
    obtain ⟨t, rfl⟩ := r
    exact call_range_1 (range_it I1 (by omega) (by omega) q1 q2 (by simpa using q))
noncomputable def tFor (wi : TI) (g : TG) (tb : TS) : TS := fun D σ H => wi σ H fun J H1 => ∃ W : Nat → Nat → St → Hp → Prop, (∃ m, W 0 m σ H1) ∧ ∀ i m σ H, W i m σ H →
  (J.stop i H ∧ D.nx σ H) ∨ (J.go i H ∧ ∃ N : St → Hp → Prop, (∀ σ' H', N σ' H' → ∃ m', m' < m ∧ W (i + 1) m' σ' H') ∧ ∀ x H', J.yld i H x H' → g x σ H' fun σ2 H2 => tb { D with nx := N, ct := N, bk := D.nx } σ2 H2)
noncomputable def pinsAt (fp : List Addr) (h : Heap) : List (Addr × Obj) := fp.filterMap fun b => (h.get? b).map fun o => (b, o)
theorem mem_pinsAt {fp : List Addr} {h : Heap} {b : Addr} {o : Obj} (hb : b ∈ fp) (e : h.get? b = some o) : (b, o) ∈ pinsAt fp h := List.mem_filterMap.mpr ⟨b, hb, by rw [e]; rfl⟩
theorem of_pinsAt {fp : List Addr} {h : Heap} {p : Addr × Obj} (hp : p ∈ pinsAt fp h) : p.1 ∈ fp ∧ h.get? p.1 = some p.2 := by
  obtain ⟨b, hb, e⟩ := List.mem_filterMap.mp hp
  cases q : h.get? b with
  | none => rw [q] at e; cases e
  | some o =>
    rw [q] at e
    have e' : (b, o) = p := Option.some.inj e
    subst e'
    exact ⟨hb, q⟩
theorem Inv.pinned {pins : List (Addr × Obj)} {σ : St} {H : Hp} {s : Shared} {fp : List Addr} (I : Inv X pins σ H s) (hf : ∀ b ∈ fp, FpOk X pins H b) (ho : ∀ b ∈ fp, ∃ o, s.heap.get? b = some o ∧ ∀ v, o.data ≠ .cell v) : Inv X (pins ++ pinsAt fp s.heap) σ H s :=
  I.pins_of fun p hp => (List.mem_append.mp hp).elim (fun z => I.pin p (List.mem_append_right _ z)) fun z => by
    obtain ⟨hb, e⟩ := of_pinsAt z
    obtain ⟨f0, f1, f2, _⟩ := hf p.1 hb
    obtain ⟨o, e', d⟩ := ho p.1 hb
    rw [e] at e'; cases e'
    exact ⟨e, f0, f1, f2, d⟩
theorem Inv.unpinned {pins pl : List (Addr × Obj)} {σ : St} {H : Hp} {s : Shared} (I : Inv X (pins ++ pl) σ H s) : Inv X pins σ H s := I.pins_of fun p hp => I.pin p (List.mem_append_right _ (List.mem_append_left _ hp))
theorem ps_for {iter : Expr} {body : List Stmt} {wi : TI} {g : TG} {tb : TS} {pos : Pos} (hp : PassesOwn (model X.prog X.w) X.A X.env X.xe) (hc : X.calm = true) (hi : PI X tg iter wi) (hg : PG X tg g) (hb : PSs X body tb)
    (hs : ∀ x, foldedSetIterable iter X.env x = pure x := by intro _; rfl) : PS X (.For tg iter body [] pos) (tFor wi g tb) := by
  intro pins s σ H D I h
  refine wpAny_For (thn (hi pins s σ H _ I h) fun v s1 h1 => thn h1 fun itv s2 h2 => ?_) hs
  obtain ⟨it, fp, tn, J, H2, e, I2, T, st2, f2, W, ⟨m0, w0⟩, turn⟩ := h2
  subst e
  -- what stays true of the iterator's objects through the loop
  have stat : ∀ {H' : Hp}, (∀ b ∈ fp, H' b = none) → ∀ b ∈ fp, FpOk X pins H' b := fun hn b hb => ⟨hn b hb, (f2 b hb).2⟩
  refine codeAny_forLoop_any (fun n s' => ∃ i σ' H', Inv X pins σ' H' s' ∧ tn i s'.heap ∧ (∀ b ∈ fp, H' b = none) ∧ W i n σ' H') ?_ m0 ⟨0, σ, H2, I2, st2, fun b hb => (f2 b hb).1, w0⟩
  rintro n s3 ⟨i, σ3, H3, I3, st3, fr3, w3⟩
  rcases turn i n σ3 H3 w3 with ⟨stop, qn⟩ | ⟨go, N, hN, step⟩
  · refine wpAny_passesOwn hp (thn (T.done X rfl rfl rfl hc i pins s3 σ3 H3 X.xe I3 (stat fr3) st3 stop) fun r s4 ⟨hr, I4⟩ => ?_)
    subst hr
    exact wpAny_execs_nil ⟨σ3, H3, I4, qn⟩
  · refine wpAny_passesOwn hp (thn (T.item X rfl rfl rfl hc i pins s3 σ3 H3 X.xe I3 (stat fr3) st3 go) fun r s4 ⟨u, hr, h4⟩ => ?_)
    subst hr
    refine wpAny_passesOwn hp (thn h4 fun _ s5 ⟨x, H5, I5, r5, y5, st5, fr5⟩ => ?_)
    have I5' := I5.pinned (stat fr5) (T.obj _ _ st5)
    refine wpAny_passesOwn hp (thn (hg _ s5 σ3 H5 x u _ I5' r5 (step x H5 y5)) fun _ s6 ⟨σ6, H6, I6, q6⟩ => ?_)
    refine wpAny_passesOwn hp (thn (hb _ s6 σ6 H6 _ I6 q6) fun f s7 q7 => ?_)
    have again : ∀ {σ7 : St} {H7 : Hp}, Inv X (pins ++ pinsAt fp s5.heap) σ7 H7 s7 → N σ7 H7 → ∃ m, m < n ∧ ∃ i σ' H', Inv X pins σ' H' s7 ∧ tn i s7.heap ∧ (∀ b ∈ fp, H' b = none) ∧ W i m σ' H' := fun {σ7 H7} I7 n7 => by
      obtain ⟨m', hm, w7⟩ := hN σ7 H7 n7
      refine ⟨m', hm, i + 1, σ7, H7, I7.unpinned, T.keep _ _ _ st5 fun b hb o e => (I7.pin (b, o) (List.mem_append_right _ (List.mem_append_right _ (mem_pinsAt hb e)))).1, fun b hb => ?_, w7⟩
      obtain ⟨o, e, d⟩ := T.obj _ _ st5 b hb
      exact (I7.pin (b, o) (List.mem_append_right _ (List.mem_append_right _ (mem_pinsAt hb e)))).2.1
    cases f with
    | next => obtain ⟨σ7, H7, I7, n7⟩ := q7; exact again I7 n7
    | cont => obtain ⟨σ7, H7, I7, n7⟩ := q7; exact again I7 n7
    | brk => obtain ⟨σ7, H7, I7, q7⟩ := q7; exact ⟨σ7, H7, I7.unpinned, q7⟩
    | ret v => obtain ⟨x7, σ7, H7, I7, r7, q7⟩ := q7; exact ⟨x7, σ7, H7, I7.unpinned, r7, q7⟩
end

theorem for_list {K : PySem.W.Frag} {a : Addr} {xs : List V} {g : TG} {tb : TS} {D : Ends} {σ : St} {H : Hp} (Pv : Nat → St → Hp → Prop) (h0 : Pv 0 σ H) (hl : ∀ i σ H, i ≤ xs.length → Pv i σ H → SqL K H a xs)
    (hs : ∀ i x σ H, xs[i]? = some x → Pv i σ H → g x σ H fun σ2 H2 => tb { D with nx := Pv (i + 1), ct := Pv (i + 1), bk := D.nx } σ2 H2) (hd : ∀ σ H, Pv xs.length σ H → D.nx σ H) :
    ∃ W : Nat → Nat → St → Hp → Prop, (∃ m, W 0 m σ H) ∧ ∀ i m σ H, W i m σ H →
      ((Itl K a).stop i H ∧ D.nx σ H) ∨ ((Itl K a).go i H ∧ ∃ N : St → Hp → Prop, (∀ σ' H', N σ' H' → ∃ m', m' < m ∧ W (i + 1) m' σ' H') ∧ ∀ x H', (Itl K a).yld i H x H' → g x σ H' fun σ2 H2 => tb { D with nx := N, ct := N, bk := D.nx } σ2 H2) := by
  refine ⟨fun i m σ H => m = xs.length - i ∧ i ≤ xs.length ∧ Pv i σ H, ⟨xs.length, by simp, Nat.zero_le _, h0⟩, ?_⟩
  rintro i m σ H ⟨rfl, hi, p⟩
  have q := hl i σ H hi p
  by_cases hlt : i < xs.length
  · refine .inr ⟨⟨xs, xs[i], q, by simp [hlt]⟩, Pv (i + 1), fun σ' H' p' => ⟨xs.length - (i + 1), by omega, rfl, hlt, p'⟩, fun x H' y => ?_⟩
    obtain ⟨e, y⟩ := y
    subst e
    exact hs i x σ _ (y xs q) p
  · have e : i = xs.length := by omega
    subst e
    exact .inl ⟨⟨xs, q, Nat.le_refl _⟩, hd σ H p⟩
theorem for_range {lo : Int} {n : Nat} {g : TG} {tb : TS} {D : Ends} {σ : St} {H : Hp} (Pv : Nat → St → Hp → Prop) (h0 : Pv 0 σ H)
    (hs : ∀ i σ H, i < n → Pv i σ H → g (.int (lo + i)) σ H fun σ2 H2 => tb { D with nx := Pv (i + 1), ct := Pv (i + 1), bk := D.nx } σ2 H2) (hd : ∀ σ H, Pv n σ H → D.nx σ H) :
    ∃ W : Nat → Nat → St → Hp → Prop, (∃ m, W 0 m σ H) ∧ ∀ i m σ H, W i m σ H →
      ((Itr lo n).stop i H ∧ D.nx σ H) ∨ ((Itr lo n).go i H ∧ ∃ N : St → Hp → Prop, (∀ σ' H', N σ' H' → ∃ m', m' < m ∧ W (i + 1) m' σ' H') ∧ ∀ x H', (Itr lo n).yld i H x H' → g x σ H' fun σ2 H2 => tb { D with nx := N, ct := N, bk := D.nx } σ2 H2) := by
  refine ⟨fun i m σ H => m = n - i ∧ i ≤ n ∧ Pv i σ H, ⟨n, by simp, Nat.zero_le _, h0⟩, ?_⟩
  rintro i m σ H ⟨rfl, hi, p⟩
  by_cases hlt : i < n
  · refine .inr ⟨hlt, Pv (i + 1), fun σ' H' p' => ⟨n - (i + 1), by omega, rfl, hlt, p'⟩, fun x H' y => ?_⟩
    obtain ⟨e, y⟩ := y
    subst e y
    exact hs i σ _ hlt p
  · have e : i = n := by omega
    subst e
    exact .inl ⟨Nat.le_refl _, hd σ H p⟩
theorem while_by {c : TT} {tb : TS} {D : Ends} {σ : St} {H : Hp} (Pv : St → Hp → Prop) (μ : St → Hp → Nat) (h0 : Pv σ H)
    (hs : ∀ σ H, Pv σ H → c σ H fun b H1 => if b = true then tb { D with nx := fun σ' H' => Pv σ' H' ∧ μ σ' H' < μ σ H, ct := fun σ' H' => Pv σ' H' ∧ μ σ' H' < μ σ H, bk := D.nx } σ H1 else D.nx σ H1)
    (mono : ∀ σ H Q Q', (∀ b H1, Q b H1 → Q' b H1) → c σ H Q → c σ H Q') : tWhile c tb D σ H := by
  refine ⟨fun m σ H => m = μ σ H ∧ Pv σ H, ⟨_, rfl, h0⟩, ?_⟩
  rintro m σ H ⟨rfl, p⟩
  refine mono σ H _ _ (fun b H1 q => ?_) (hs σ H p)
  cases b with
  | true => exact ⟨_, fun σ' H' ⟨p', l⟩ => ⟨_, l, rfl, p'⟩, q⟩
  | false => exact q
end L2

namespace L2
open PySem PySem.Spec PyProof.Rows

abbrev R2 := V → V → Hp → VK → Prop
noncomputable def OpR (X : Cx) (f : Value → Value → Sem Value) (r : R2) : Prop :=
  ∀ (pins : List (Addr × Obj)) (s : Shared) (σ : St) (H : Hp) (x y : V) (v u : Value) (Q : VK), Inv X pins σ H s → RelV x v → RelV y u → r x y H Q →
    wpAny (model X.prog X.w) X.A (f v u) (EP X pins σ Q) X.xe s
noncomputable def CallR (X : Cx) (f : Value) (r : List V → Hp → VK → Prop) : Prop :=
  ∀ (pins : List (Addr × Obj)) (s : Shared) (σ : St) (H : Hp) (xs : List V) (us : List Value) (Q : VK), Inv X pins σ H s → Vals xs us → r xs H Q →
    wpAny (model X.prog X.w) X.A (call f us) (EP X pins σ Q) X.xe s
noncomputable def TruR (X : Cx) (r : V → Hp → (Bool → Hp → Prop) → Prop) : Prop :=
  ∀ (pins : List (Addr × Obj)) (s : Shared) (σ : St) (H : Hp) (x : V) (v : Value) (Q : Bool → Hp → Prop), Inv X pins σ H s → RelV x v → r x H Q →
    wpAny (model X.prog X.w) X.A (truthy v) (TP X pins σ Q) X.xe s

noncomputable def tOp (r : R2) (ta tb : TE) : TE := fun σ H Q => ta σ H fun x H1 => tb σ H1 fun y H2 => r x y H2 Q
noncomputable def tUn (r : V → Hp → VK → Prop) (ta : TE) : TE := fun σ H Q => ta σ H fun x H1 => r x H1 Q
noncomputable def rI (C : Int → Int → Prop) (g : Int → Int → V) : R2 := fun x y H Q => ∃ i j, x = .int i ∧ y = .int j ∧ C i j ∧ Q (g i j) H
noncomputable def rI0 (g : Int → Int → V) : R2 := fun x y H Q => ∃ i j, x = .int i ∧ y = .int j ∧ Q (g i j) H
noncomputable def rU (g : Int → V) : V → Hp → VK → Prop := fun x H Q => ∃ i, x = .int i ∧ Q (g i) H

section
variable {X : Cx} {a b c : Expr} {ta tb tc : TE} {pos : Pos}

theorem binT (ha : PE X a ta) (hb : PE X b tb) {pins : List (Addr × Obj)} {s : Shared} {σ : St} {H : Hp} {R : V → V → Hp → Prop} (I : Inv X pins σ H s)
    (h : ta σ H fun x H1 => tb σ H1 fun y H2 => R x y H2) {Q : Value → Shared → Prop} {f : Value → Value → Sem Value}
    (hf : ∀ v u s2 x y H2, Inv X pins σ H2 s2 → RelV x v → RelV y u → R x y H2 → wpAny (model X.prog X.w) X.A (f v u) Q X.xe s2) :
    wpAny (model X.prog X.w) X.A (eval a X.env) (fun v s₁ => wpAny (model X.prog X.w) X.A (eval b X.env) (fun u s₂ => wpAny (model X.prog X.w) X.A (f v u) Q X.xe s₂) X.xe s₁) X.xe s := by
  refine thn (ha pins s σ H _ I h) fun v s1 ⟨x, H1, I1, r1, q1⟩ => ?_
  refine thn (hb pins s1 σ H1 _ I1 q1) fun u s2 ⟨y, H2, I2, r2, q2⟩ => ?_
  exact hf v u s2 x y H2 I2 r1 r2 q2

theorem pe_op {op : Operator} {r : R2} (ho : OpR X (binaryOp op) r) (ha : PE X a ta) (hb : PE X b tb) : PE X (.BinOp a op b pos) (tOp r ta tb) := by
  intro pins s σ H Q I h
  exact wpAny_BinOp (binT ha hb I h fun v u s2 x y H2 I2 rx ry q => ho pins s2 σ H2 x y v u Q I2 rx ry q)
theorem opI {f : Value → Value → Sem Value} {C : Int → Int → Prop} {g : Int → Int → Int}
    (rule : ∀ (i j : Int) (t u : Tok) (s : Shared) (Q : Value → Shared → Prop) (E : Value → Shared → Prop), C i j → Q (.int (g i j) s.toks) { s with toks := s.toks + 1 } → wpAny (model X.prog X.w) X.A (f (.int i t) (.int j u)) Q E s) :
    OpR X f (rI C fun i j => .int (g i j)) := by
  intro pins s σ H x y v u Q I rx ry h
  obtain ⟨i, j, rfl, rfl, hc, q⟩ := h
  obtain ⟨t, rfl⟩ := rx
  obtain ⟨t', rfl⟩ := ry
  exact rule i j t t' s _ _ hc ⟨.int (g i j), H, I.tok _, ⟨_, rfl⟩, q⟩
theorem opI0 {f : Value → Value → Sem Value} {g : Int → Int → Int}
    (rule : ∀ (i j : Int) (t u : Tok) (s : Shared) (Q : Value → Shared → Prop) (E : Value → Shared → Prop), Q (.int (g i j) s.toks) { s with toks := s.toks + 1 } → wpAny (model X.prog X.w) X.A (f (.int i t) (.int j u)) Q E s) :
    OpR X f (rI0 fun i j => .int (g i j)) := by
  intro pins s σ H x y v u Q I rx ry h
  obtain ⟨i, j, rfl, rfl, q⟩ := h
  obtain ⟨t, rfl⟩ := rx
  obtain ⟨t', rfl⟩ := ry
  exact rule i j t t' s _ _ ⟨.int (g i j), H, I.tok _, ⟨_, rfl⟩, q⟩
theorem opB0 {f : Value → Value → Sem Value} {g : Int → Int → Bool}
    (rule : ∀ (i j : Int) (t u : Tok) (s : Shared) (Q : Value → Shared → Prop) (E : Value → Shared → Prop), Q (.bool (g i j)) s → wpAny (model X.prog X.w) X.A (f (.int i t) (.int j u)) Q E s) :
    OpR X f (rI0 fun i j => .bl (g i j)) := by
  intro pins s σ H x y v u Q I rx ry h
  obtain ⟨i, j, rfl, rfl, q⟩ := h
  obtain ⟨t, rfl⟩ := rx
  obtain ⟨t', rfl⟩ := ry
  exact rule i j t t' s _ _ ⟨.bl (g i j), H, I, rfl, q⟩

noncomputable def CPow (i j : Int) : Prop := 0 ≤ j ∧ j ≤ 1000000 ∧ i.natAbs < 2 ^ 64
noncomputable def CMul (i j : Int) : Prop := (-(2 ^ 64) < i ∧ i < 2 ^ 64) ∨ (-(2 ^ 64) < j ∧ j < 2 ^ 64)
theorem CMul.ok {i j : Int} (h : CMul i j) : IntMulOk i j := by
  rcases h with ⟨h1, h2⟩ | ⟨h1, h2⟩
  · exact .of_left (intBits_le_64 h1 h2)
  · exact .of_right (intBits_le_64 h1 h2)
theorem op_add : OpR X (binaryOp .Add) (rI0 fun i j => .int (i + j)) := opI0 fun _ _ _ _ _ _ _ q => add_int q
theorem op_sub : OpR X (binaryOp .Sub) (rI0 fun i j => .int (i - j)) := opI0 fun _ _ _ _ _ _ _ q => sub_int q
theorem op_mul : OpR X (binaryOp .Mult) (rI CMul fun i j => .int (i * j)) := opI fun _ _ _ _ _ _ _ hc q => mul_int q hc.ok
theorem op_mod : OpR X (binaryOp .Mod) (rI (fun _ j => 0 < j) fun i j => .int (i % j)) := opI fun i j _ _ _ _ _ hc q => by
  have h1 : (0 : Int) < j := hc
  exact mod_int' (by omega) (by rw [Int.fmod_eq_emod_of_nonneg i (by omega)]; exact q)
theorem op_pow : OpR X (binaryOp .Pow) (rI CPow fun i j => .int (i ^ j.toNat)) := opI fun _ _ _ _ _ _ _ hc q => pow_int_small hc.1 hc.2.1 hc.2.2 q
end

noncomputable def scal : V → V → Bool
  | .non, .non => true | .non, .int _ => true | .int _, .non => true | .non, .bl _ => true | .bl _, .non => true | .non, .str _ => true | .str _, .non => true
  | .int _, .int _ => true | .bl _, .bl _ => true | .str _, .str _ => true | .byt _, .byt _ => true
  | .int _, .str _ => true | .str _, .int _ => true | .bl _, .str _ => true | .str _, .bl _ => true
  | _, _ => false
noncomputable def rEq : R2 := fun x y H Q => scal x y = true ∧ Q (.bl (decide (x = y))) H
noncomputable def rNe : R2 := fun x y H Q => scal x y = true ∧ Q (.bl (!decide (x = y))) H

theorem dec_int {i j : Int} : decide (V.int i = V.int j) = (i == j) := by
  rw [Bool.eq_iff_iff]
  simp
theorem dec_bl {i j : Bool} : decide (V.bl i = V.bl j) = (i == j) := by
  rw [Bool.eq_iff_iff]
  simp
theorem dec_str {i j : Str} : decide (V.str i = V.str j) = (i == j) := by
  rw [Bool.eq_iff_iff]
  simp
theorem dec_byt {i j : Array UInt8} : decide (V.byt i = V.byt j) = (i.toList == j.toList) := by
  rw [Bool.eq_iff_iff]
  cases i
  cases j
  simp

section
variable {X : Cx} {a b c : Expr} {ta tb tc : TE} {pos : Pos}
theorem fin_bl {pins : List (Addr × Obj)} {σ : St} {H : Hp} {s : Shared} {Q : VK} {k k' : Bool} (I : Inv X pins σ H s) (q : Q (.bl k) H) (e : k = k') : EP X pins σ Q (.bool k') s := by
  subst e
  exact ⟨.bl k, H, I, rfl, q⟩
theorem op_eq : OpR X (compareOp .Eq) rEq := by
  intro pins s σ H x y v u Q I rx ry h
  obtain ⟨hs, q⟩ := h
  cases x with
  | non =>
    cases rx
    cases y with
    | non => cases ry; exact PySem.EqNone.eq_none_none (fin_bl I q (by simp))
    | bl j => cases ry; exact PySem.EqNone.eq_none_bool (fin_bl I q (by simp))
    | int j => obtain ⟨t', rfl⟩ := ry; exact PySem.EqNone.eq_none_int (fin_bl I q (by simp))
    | str j => obtain ⟨t', rfl⟩ := ry; exact PySem.EqNone.eq_none_str (fin_bl I q (by simp))
    | _ => exact absurd (show false = true from hs) Bool.false_ne_true
  | bl i =>
    cases rx
    cases y with
    | non => cases ry; exact PySem.EqNone.eq_bool_none (fin_bl I q (by simp))
    | bl j => cases ry; exact eq_bool (fin_bl I q dec_bl)
    | str j => obtain ⟨t', rfl⟩ := ry; exact PySem.EqMixed.eq_bool_str (fin_bl I q (by simp))
    | _ => exact absurd (show false = true from hs) Bool.false_ne_true
  | int i =>
    obtain ⟨t, rfl⟩ := rx
    cases y with
    | non => cases ry; exact PySem.EqNone.eq_int_none (fin_bl I q (by simp))
    | int j => obtain ⟨t', rfl⟩ := ry; exact eq_int (fin_bl I q dec_int)
    | str j => obtain ⟨t', rfl⟩ := ry; exact PySem.EqMixed.eq_int_str (fin_bl I q (by simp))
    | _ => exact absurd (show false = true from hs) Bool.false_ne_true
  | str i =>
    obtain ⟨t, rfl⟩ := rx
    cases y with
    | non => cases ry; exact PySem.EqNone.eq_str_none (fin_bl I q (by simp))
    | bl j => cases ry; exact PySem.EqMixed.eq_str_bool (fin_bl I q (by simp))
    | int j => obtain ⟨t', rfl⟩ := ry; exact PySem.EqMixed.eq_str_int (fin_bl I q (by simp))
    | str j => obtain ⟨t', rfl⟩ := ry; exact eq_str (fin_bl I q dec_str)
    | _ => exact absurd (show false = true from hs) Bool.false_ne_true
  | byt i =>
    obtain ⟨t, rfl⟩ := rx
    cases y with
    | byt j => obtain ⟨t', rfl⟩ := ry; exact PySem.W.eq_bytes (fin_bl I q dec_byt)
    | _ => exact absurd (show false = true from hs) Bool.false_ne_true
  | _ => cases y <;> exact absurd (show false = true from hs) Bool.false_ne_true
theorem op_ne : OpR X (compareOp .NotEq) rNe := by
  intro pins s σ H x y v u Q I rx ry h
  obtain ⟨hs, q⟩ := h
  cases x with
  | non =>
    cases rx
    cases y with
    | non => cases ry; exact PySem.EqNone.ne_none_none (fin_bl I q (by simp))
    | bl j => cases ry; exact PySem.EqNone.ne_none_bool (fin_bl I q (by simp))
    | int j => obtain ⟨t', rfl⟩ := ry; exact PySem.EqNone.ne_none_int (fin_bl I q (by simp))
    | str j => obtain ⟨t', rfl⟩ := ry; exact PySem.EqNone.ne_none_str (fin_bl I q (by simp))
    | _ => exact absurd (show false = true from hs) Bool.false_ne_true
  | bl i =>
    cases rx
    cases y with
    | non => cases ry; exact PySem.EqNone.ne_bool_none (fin_bl I q (by simp))
    | bl j => cases ry; exact ne_bool (fin_bl I q (congrArg not dec_bl))
    | str j => obtain ⟨t', rfl⟩ := ry; exact PySem.EqMixed.ne_bool_str (fin_bl I q (by simp))
    | _ => exact absurd (show false = true from hs) Bool.false_ne_true
  | int i =>
    obtain ⟨t, rfl⟩ := rx
    cases y with
    | non => cases ry; exact PySem.EqNone.ne_int_none (fin_bl I q (by simp))
    | int j => obtain ⟨t', rfl⟩ := ry; exact ne_int (fin_bl I q (congrArg not dec_int))
    | str j => obtain ⟨t', rfl⟩ := ry; exact PySem.EqMixed.ne_int_str (fin_bl I q (by simp))
    | _ => exact absurd (show false = true from hs) Bool.false_ne_true
  | str i =>
    obtain ⟨t, rfl⟩ := rx
    cases y with
    | non => cases ry; exact PySem.EqNone.ne_str_none (fin_bl I q (by simp))
    | bl j => cases ry; exact PySem.EqMixed.ne_str_bool (fin_bl I q (by simp))
    | int j => obtain ⟨t', rfl⟩ := ry; exact PySem.EqMixed.ne_str_int (fin_bl I q (by simp))
    | str j => obtain ⟨t', rfl⟩ := ry; exact ne_str (fin_bl I q (congrArg not dec_str))
    | _ => exact absurd (show false = true from hs) Bool.false_ne_true
  | byt i =>
    obtain ⟨t, rfl⟩ := rx
    cases y with
    | byt j => obtain ⟨t', rfl⟩ := ry; exact PySem.W.ne_bytes (fin_bl I q (congrArg not dec_byt))
    | _ => exact absurd (show false = true from hs) Bool.false_ne_true
  | _ => cases y <;> exact absurd (show false = true from hs) Bool.false_ne_true

theorem op_lt : OpR X (compareOp .Lt) (rI0 fun i j => .bl (decide (i < j))) := opB0 fun _ _ _ _ _ _ _ q => lt_int q
theorem op_le : OpR X (compareOp .LtE) (rI0 fun i j => .bl (decide (i ≤ j))) := opB0 fun _ _ _ _ _ _ _ q => le_int q
theorem op_gt : OpR X (compareOp .Gt) (rI0 fun i j => .bl (decide (j < i))) := opB0 fun _ _ _ _ _ _ _ q => gt_int q
theorem op_ge : OpR X (compareOp .GtE) (rI0 fun i j => .bl (decide (j ≤ i))) := opB0 fun _ _ _ _ _ _ _ q => ge_int q
theorem op_in_str : OpR X (compareOp .In) (fun x y H Q => ∃ i j, x = .str i ∧ y = .str j ∧ Q (.bl (!(Builtin.Str.occurrences j i 0 j.length 1).isEmpty)) H) := by
  intro pins s σ H x y v u Q I rx ry h
  obtain ⟨i, j, rfl, rfl, q⟩ := h
  obtain ⟨t, rfl⟩ := rx
  obtain ⟨t', rfl⟩ := ry
  exact in_str (fin_bl I q rfl)

theorem op_isN : OpR X (compareOp .Is) (fun x y H Q => y = .non ∧ Q (.bl (decide (x = .non))) H) := by
  intro pins s σ H x y v u Q I rx ry h
  obtain ⟨rfl, q⟩ := h
  cases ry
  refine is_none_gen (fin_bl I q ?_)
  cases x <;> first
    | (cases rx; rfl)
    | (obtain ⟨t, rfl⟩ := rx; rfl)
theorem op_notN : OpR X (compareOp .IsNot) (fun x y H Q => y = .non ∧ Q (.bl (!decide (x = .non))) H) := by
  intro pins s σ H x y v u Q I rx ry h
  obtain ⟨rfl, q⟩ := h
  cases ry
  refine isnot_none_gen (fin_bl I q ?_)
  cases x <;> first
    | (cases rx; rfl)
    | (obtain ⟨t, rfl⟩ := rx; rfl)

theorem nomark (b : Expr) {op : CmpOp} (h : op ≠ .In := by decide) (h2 : op ≠ .NotIn := by decide) : behindInMarks op b = false := by
  have e1 : (op == CmpOp.In) = false := by cases op <;> first | rfl | exact absurd rfl h
  have e2 : (op == CmpOp.NotIn) = false := by cases op <;> first | rfl | exact absurd rfl h2
  cases b <;> simp [behindInMarks, e1, e2]
theorem pe_cmpR {op : CmpOp} {r : R2} (ho : OpR X (compareOp op) r) (ha : PE X a ta) (hb : PE X b tb) (hm : behindInMarks op b = false) : PE X (.Compare a [op] [b] pos) (tOp r ta tb) := by
  intro pins s σ H Q I h
  exact wpAny_Compare1 (binT ha hb I h fun v u s2 x y H2 I2 rx ry q => ho pins s2 σ H2 x y v u Q I2 rx ry q) hm
noncomputable def tTest (t : TE) : TT := fun σ H Q => t σ H fun x H' => ∃ k, x = .bl k ∧ Q k H'
theorem pt_cmpR {op : CmpOp} {r : R2} (ho : OpR X (compareOp op) r) (ha : PE X a ta) (hb : PE X b tb) (hm : behindInMarks op b = false) : PT X (.Compare a [op] [b] pos) (tTest (tOp r ta tb)) := by
  intro pins s σ H Q I h
  refine wpAny_isTrue_Compare1 (thn (ha pins s σ H _ I h) fun v s1 ⟨x, H1, I1, r1, q1⟩ => thn (hb pins s1 σ H1 _ I1 q1) fun u s2 ⟨y, H2, I2, r2, q2⟩ =>
    thn (ho pins s2 σ H2 x y v u _ I2 r1 r2 q2) fun c s3 ⟨z, H3, I3, r3, k, e, q3⟩ => ?_) hm
  subst e
  cases r3
  exact wpAny_truthy_bool ⟨H3, I3, q3⟩
noncomputable def tChain (r r' : R2) (ta tb tc : TE) : TE := fun σ H Q => ta σ H fun x H1 => tb σ H1 fun y H2 => r x y H2 fun z H3 => ∃ k, z = .bl k ∧
  (if k = true then tc σ H3 fun w' H4 => r' y w' H4 Q else Q (.bl false) H3)
theorem pe_chain {op op' : CmpOp} {r r' : R2} (ho : OpR X (compareOp op) r) (ho' : OpR X (compareOp op') r') (ha : PE X a ta) (hb : PE X b tb) (hc : PE X c tc)
    (hm : lastMarks [op, op'] [b, c] = false := by with_unfolding_all rfl) : PE X (.Compare a [op, op'] [b, c] pos) (tChain r r' ta tb tc) := by
  intro pins s σ H Q I h
  refine Compare_chain (thn (ha pins s σ H _ I h) fun v s1 ⟨x, H1, I1, r1, q1⟩ => chain_link (thn (hb pins s1 σ H1 _ I1 q1) fun u s2 ⟨y, H2, I2, r2, q2⟩ =>
    thn (ho pins s2 σ H2 x y v u _ I2 r1 r2 q2) fun d s3 ⟨z, H3, I3, r3, k, e, q3⟩ => ?_)) hm
  subst e
  cases r3
  refine wpAny_truthy_bool ?_
  cases k with
  | false => exact ite_ff ⟨.bl false, H3, I3, rfl, q3⟩
  | true => exact ite_tt (chain_last (thn (hc pins s3 σ H3 _ I3 q3) fun w' s4 ⟨z', H4, I4, r4, q4⟩ => ho' pins s4 σ H4 y z' u w' Q I4 r2 r4 q4))
theorem pt_chain {op op' : CmpOp} {r r' : R2} (ho : OpR X (compareOp op) r) (ho' : OpR X (compareOp op') r') (ha : PE X a ta) (hb : PE X b tb) (hc : PE X c tc)
    (hm : lastMarks [op, op'] [b, c] = false := by with_unfolding_all rfl) : PT X (.Compare a [op, op'] [b, c] pos) (tTest (tChain r r' ta tb tc)) := by
  intro pins s σ H Q I h
  refine isTrue_chain (thn (ha pins s σ H _ I h) fun v s1 ⟨x, H1, I1, r1, q1⟩ => test_link (thn (hb pins s1 σ H1 _ I1 q1) fun u s2 ⟨y, H2, I2, r2, q2⟩ =>
    thn (ho pins s2 σ H2 x y v u _ I2 r1 r2 q2) fun d s3 ⟨z, H3, I3, r3, k, e, q3⟩ => ?_)) hm
  subst e
  cases r3
  refine wpAny_truthy_bool ?_
  cases k with
  | false =>
    obtain ⟨k', e', q'⟩ := q3
    cases e'
    exact ite_ff ⟨H3, I3, q'⟩
  | true =>
    refine ite_tt (test_last (thn (hc pins s3 σ H3 _ I3 q3) fun w' s4 ⟨z', H4, I4, r4, q4⟩ => thn (ho' pins s4 σ H4 y z' u w' _ I4 r2 r4 q4) fun d' s5 ⟨z2, H5, I5, r5, k2, e2, q5⟩ => ?_))
    subst e2
    cases r5
    exact wpAny_truthy_bool ⟨H5, I5, q5⟩

noncomputable def TruV (K : PySem.W.Frag) (x : V) (H : Hp) (k : Bool) : Prop :=
  match x with
  | .non => k = false
  | .bl b => k = b
  | .int i => k = (i != 0)
  | .str y => y.length ≤ sizeLine ∧ k = ((y.length : Int) != 0)
  | .byt y => y.size ≤ sizeLine ∧ k = ((y.size : Int) != 0)
  | .ref p => (∃ xs, SqL K H p xs ∧ k = !xs.isEmpty) ∨ (∃ xs, SqT K H p xs ∧ k = !xs.isEmpty) ∨ ∃ kvs, H p = some (.dK kvs) ∧ k = !kvs.isEmpty
  | _ => False
theorem isEmpty_kv {κ : Type} {kvs : List (κ × V)} {vs : List (κ × Value)} (r : KV kvs vs) : (!vs.isEmpty) = !kvs.isEmpty := by
  cases r <;> rfl
theorem isEmpty_of {xs : List V} {its : List Value} (r : Vals xs its) : (!its.toArray.isEmpty) = !xs.isEmpty := by
  cases r <;> simp
theorem line63 : (sizeLine : Nat) < 2 ^ 63 := by rw [sizeLine_eq]; decide
theorem tru_ok : TruR X (fun x H Q => ∃ k, TruV X.K x H k ∧ Q k H) := by
  intro pins s σ H x v Q I rx h
  obtain ⟨k, e, q⟩ := h
  have hl := line63
  have hs : sizeLine = 16777216 := sizeLine_eq
  cases x with
  | non =>
    cases rx
    have e' : k = false := e
    subst e'
    exact truthy_none ⟨H, I, q⟩
  | bl b =>
    cases rx
    have e' : k = b := e
    subst e'
    exact wpAny_truthy_bool ⟨H, I, q⟩
  | int i =>
    obtain ⟨t, rfl⟩ := rx
    have e' : k = (i != 0) := e
    subst e'
    exact PySem.P.truthy_int ⟨H, I, q⟩
  | str y =>
    obtain ⟨t, rfl⟩ := rx
    obtain ⟨hy, e'⟩ : y.length ≤ sizeLine ∧ k = ((y.length : Int) != 0) := e
    subst e'
    exact PySem.P.truthy_str (by omega) ⟨H, I.tok _, q⟩
  | byt y =>
    obtain ⟨t, rfl⟩ := rx
    obtain ⟨hy, e'⟩ : y.size ≤ sizeLine ∧ k = ((y.size : Int) != 0) := e
    subst e'
    exact PySem.W.truthy_bytes (by omega) ⟨H, I.tok _, q⟩
  | ref p =>
    cases rx
    have e' : (∃ xs, SqL X.K H p xs ∧ k = !xs.isEmpty) ∨ (∃ xs, SqT X.K H p xs ∧ k = !xs.isEmpty) ∨ ∃ kvs, H p = some (.dK kvs) ∧ k = !kvs.isEmpty := e
    rcases e' with ⟨xs, hx, e'⟩ | ⟨xs, hx, e'⟩ | ⟨kvs, hx, e'⟩
    · subst e'
      obtain ⟨its, r, pl, hz⟩ := I.list hx
      have hlen := r.length
      exact wpAny_truthy_list pl.isList (by simp only [List.size_toArray]; omega) ⟨H, I.tok _, by rw [isEmpty_of r]; exact q⟩
    · subst e'
      obtain ⟨its, r, pl, hz⟩ := I.tuple hx
      have hlen := r.length
      exact truthy_tuple pl (by simp only [List.size_toArray]; omega) ⟨H, I.tok _, by rw [isEmpty_of r]; exact q⟩
    · subst e'
      obtain ⟨hz, hS, vs, r, m⟩ : kvs.length ≤ sizeLine ∧ (p == sysModules) = false ∧ ∃ vs, KV kvs vs ∧ s.heap.DictOf (mixKind X.prog X.w) p vs := I.hok p _ hx
      have hlen : kvs.length = vs.length := Paired.length r
      exact wpAny_truthy_dict hS m (by omega) ⟨H, I.tok _, by rw [isEmpty_kv r]; exact q⟩
  | _ => exact (show False from e).elim
theorem pt_truth (ha : PE X a ta) (he : ∀ whole, isTrue a X.env whole = (do let v ← whole; standAt a.pos; holding [v] (truthy v))) :
    PT X a (fun σ H Q => ta σ H fun x H' => ∃ k, TruV X.K x H' k ∧ Q k H') := by
  intro pins s σ H Q I h
  exact isTrue_plain (thn (ha pins s σ H _ I h) fun v s1 ⟨x, H1, I1, r1, q1⟩ => tru_ok pins s1 σ H1 x v Q I1 r1 q1) (he _)

theorem op_add_str : OpR X (binaryOp .Add) (fun x y H Q => ∃ i j, x = .str i ∧ y = .str j ∧ i.length + j.length ≤ sizeLine ∧ Q (.str (i ++ j)) H) := by
  intro pins s σ H x y v u Q I rx ry h
  obtain ⟨i, j, rfl, rfl, hz, q⟩ := h
  obtain ⟨t, rfl⟩ := rx
  obtain ⟨t', rfl⟩ := ry
  exact add_str (fun t' tk => ⟨.str (i ++ j), H, I.tok _, ⟨_, rfl⟩, q⟩) hz
theorem vals1 {x : V} {us : List Value} (r : Vals [x] us) : ∃ u, us = [u] ∧ RelV x u := by
  cases r with
  | cons r1 r2 => cases r2; exact ⟨_, rfl, r1⟩
theorem vals2 {x y : V} {us : List Value} (r : Vals [x, y] us) : ∃ u w', us = [u, w'] ∧ RelV x u ∧ RelV y w' := by
  cases r with
  | cons r1 r2 =>
    cases r2 with
    | cons r3 r4 => cases r4; exact ⟨_, _, rfl, r1, r3⟩
theorem call_abs : CallR X (.builtin "abs") (fun xs H Q => ∃ i, xs = [.int i] ∧ Q (.int (if i < 0 then -i else i)) H) := by
  intro pins s σ H xs us Q I r h
  obtain ⟨i, rfl, q⟩ := h
  obtain ⟨u, rfl, t, rfl⟩ := vals1 r
  exact call_abs_int fun u tk => ⟨.int (if i < 0 then -i else i), H, I.tok _, ⟨_, rfl⟩, q⟩
theorem call_max2 (hc : X.calm = true) : CallR X (.builtin "max") (fun xs H Q => ∃ i j, xs = [.int i, .int j] ∧ Q (.int (if j > i then j else i)) H) := by
  intro pins s σ H xs us Q I r h
  obtain ⟨i, j, rfl, q⟩ := h
  obtain ⟨u, w', rfl, ⟨t, rfl⟩, ⟨t', rfl⟩⟩ := vals2 r
  refine max_two_ints (I.ok.hd hc) fun h' tk k => ⟨_, H, I.kept k, ?_, q⟩
  by_cases hj : j > i
  · rw [if_pos hj, if_pos hj]; exact ⟨_, rfl⟩
  · rw [if_neg hj, if_neg hj]; exact ⟨_, rfl⟩
theorem call_min2 (hc : X.calm = true) : CallR X (.builtin "min") (fun xs H Q => ∃ i j, xs = [.int i, .int j] ∧ Q (.int (if j < i then j else i)) H) := by
  intro pins s σ H xs us Q I r h
  obtain ⟨i, j, rfl, q⟩ := h
  obtain ⟨u, w', rfl, ⟨t, rfl⟩, ⟨t', rfl⟩⟩ := vals2 r
  refine min_two_ints (I.ok.hd hc) fun h' tk k => ⟨_, H, I.kept k, ?_, q⟩
  by_cases hj : j < i
  · rw [if_pos hj, if_pos hj]; exact ⟨_, rfl⟩
  · rw [if_neg hj, if_neg hj]; exact ⟨_, rfl⟩
theorem call_int1 : CallR X (.type "int") (fun xs H Q => (∃ i, xs = [.int i] ∧ Q (.int i) H) ∨ ∃ k, xs = [.bl k] ∧ Q (.int (if k then 1 else 0)) H) := by
  intro pins s σ H xs us Q I r h
  rcases h with ⟨i, rfl, q⟩ | ⟨k, rfl, q⟩
  · obtain ⟨u, rfl, t, rfl⟩ := vals1 r
    exact call_int_int ⟨.int i, H, I, ⟨_, rfl⟩, q⟩
  · obtain ⟨u, rfl, r1⟩ := vals1 r
    cases r1
    exact call_int_bool ⟨.int (if k then 1 else 0), H, I.tok _, ⟨_, rfl⟩, q⟩
end
end L2

namespace L2
open PySem PySem.Spec PyProof.Rows

section
variable {prog : Program} {w : World} {A : Around} {E : Value → Shared → Prop} {s : Shared} {K : PySem.W.Frag} {x dx C f : Addr} {mA : Str → Option Value} {name : Str} {v : Value}

end

section
variable {P : Program} {w : World} {H H' : Hp} {h h' : Heap} {a C dx : Addr} {fs fs' : List (Str × V)}
end

structure Cls (K : PySem.W.Frag) (C : Addr) : Prop where
  pg : PySem.W.plainGet K C Str.empty = true
  hd : PySem.W.hasDictIn K C = true
  po : PySem.W.plainOver K C = true
  sa : PySem.W.findIn K (.ref C) "__setattr__" = some (some (.builtin "object.__setattr__"))
theorem Cls.get {K : PySem.W.Frag} {C : Addr} (c : Cls K C) (f : Str) : PySem.W.plainGet K C f = true := c.pg
section
variable {X : Cx} {pins : List (Addr × Obj)} {σ : St} {H : Hp} {s : Shared} {a C dx : Addr} {fs : List (Str × V)} {f : Str} {v : V} {A : Around} {E : Value → Shared → Prop}

theorem Inv.made (I : Inv X pins σ H s) : Inv X pins σ (upd (upd H s.heap.objs.size (.own (s.heap.objs.size + 1))) (s.heap.objs.size + 1) (.ins C s.heap.objs.size []))
    { s with heap := (s.heap.push PySem.W.emptyDict).push (PySem.W.instObj C s.heap.objs.size) } := by
  have e1 : (s.heap.push PySem.W.emptyDict).get? s.heap.objs.size = some PySem.W.emptyDict := Heap.get?_push_size s.heap rfl
  have e2 : ((s.heap.push PySem.W.emptyDict).push (PySem.W.instObj C s.heap.objs.size)).get? (s.heap.objs.size + 1) = some (PySem.W.instObj C s.heap.objs.size) := by
    have := Heap.get?_push_size (s.heap.push PySem.W.emptyDict) (o := PySem.W.instObj C s.heap.objs.size) rfl
    rwa [Heap.size_push] at this
  have e3 : (s.heap.push PySem.W.emptyDict).Ns s.heap.objs.size (fun _ => none) := ⟨PySem.W.emptyDict, #[], _, e1, rfl, (fun e he => absurd he (by simp)), fun _ => rfl⟩
  have I1 := I.laid (a := s.heap.objs.size) (o := .own (s.heap.objs.size + 1)) (h' := s.heap.push PySem.W.emptyDict) (t' := s.toks) (fun b u q => Heap.get?_push_of_some _ q) (Nat.le_refl _) ⟨_, e1⟩
  refine I1.laid (a := s.heap.objs.size + 1) (o := .ins C s.heap.objs.size []) (t' := s.toks) (fun b u q => Heap.get?_push_of_some _ q) (Nat.le_of_eq (Heap.size_push _ _)) ?_
  have ne : s.heap.objs.size ≠ s.heap.objs.size + 1 := Nat.ne_of_lt (Nat.lt_succ_self _)
  refine ⟨by rw [upd_ne ne, upd_same], Nat.zero_le _, ne, e2, fun _ => none, (Heap.Ns1.of_empty e3).at fun o q => Heap.get?_push_of_some _ q, fun _ => True.intro, fun y hy => absurd rfl hy⟩

end

section
variable {X : Cx} {o e value : Expr} {f : Str} {pos pos' tpos : Pos} {ta tv : TE}
end

section
variable {X : Cx} {pins : List (Addr × Obj)} {σ : St} {H : Hp} {s : Shared} {A : Around} {E : Value → Shared → Prop} {Q : Value → Shared → Prop} {c : Value} {b : Bool}
end
end L2

namespace L2
open PySem PySem.Spec PyProof.Rows

structure Room (k : Nat) (A : Around) : Prop where
  hd : A.handled = none
  dp : A.depth + 3 * k + 5 < recursionLimit
  un : A.units + 16 * k + 200 < cLine
theorem Room.mono {j k : Nat} {A : Around} (r : Room k A) (h : j ≤ k) : Room j A := ⟨r.hd, by have := r.dp; omega, by have := r.un; omega⟩
theorem Room.deeper {k : Nat} {A : Around} (r : Room (k + 1) A) (env : Env) : Room k (A.deeper env) :=
  ⟨r.hd, by have := r.dp; show A.depth + 1 + 3 * k + 5 < _; omega, by have := r.un; show A.units + 3 + 16 * k + 200 < _; omega⟩
theorem Room.in1 {k : Nat} {A : Around} (r : Room (k + 1) A) : Room k A.in1 :=
  ⟨r.hd, by have := r.dp; show A.depth + 3 * k + 5 < _; omega, by have := r.un; show A.units + 1 + 16 * k + 200 < _; omega⟩
theorem Room.depth {k : Nat} {A : Around} (r : Room k A) : A.depth < recursionLimit := by have := r.dp; omega
theorem Room.units {k : Nat} {A : Around} (r : Room k A) : A.units + 64 < cLine := by have := r.un; omega
noncomputable def tNil : TA := fun _ H Q => Q [] H
noncomputable def tCons (ta : TE) (tr : TA) : TA := fun σ H Q => ta σ H fun x H1 => tr σ H1 fun xs H2 => Q (x :: xs) H2
section
variable {X : Cx} {e : Expr} {es : List Expr} {te : TE} {t : TA} {pos : Pos}
theorem pa_nil : PA X [] tNil := fun _ _ _ _ H Q I h => Calls.spliced_nil ⟨[], H, I, .nil, h⟩
theorem pa_cons (ha : PE X e te) (hr : PA X es t) (hs : starEach (e :: es) X.env = (false, eval e X.env) :: starEach es X.env := by rfl) : PA X (e :: es) (tCons te t) := by
  intro pos pins s σ H Q I h
  rw [hs]
  show wpAny _ _ (spliced ((false, eval e X.env) :: backTo pos (starEach es X.env))) _ _ s
  refine Calls.spliced_cons (thn (ha pins s σ H _ I h) fun u s1 ⟨x, H1, I1, r1, q1⟩ => ?_)
  exact thn (hr pos pins s1 σ H1 _ I1 q1) fun us s2 ⟨xs, H2, I2, r2, q2⟩ => ⟨x :: xs, H2, I2, .cons r1 r2, q2⟩

noncomputable def tTup (t : TA) : TE := fun σ H Q => t σ H fun xs H1 => xs.length ≤ sizeLine ∧ ∀ p, H1 p = none → Q (.ref p) (upd H1 p (.tup xs))
noncomputable def tLst (t : TA) : TE := fun σ H Q => t σ H fun xs H1 => xs.length ≤ sizeLine ∧ ∀ p, H1 p = none → Q (.ref p) (upd H1 p (.lst xs))
theorem pe_tup {x1} (h : PA X es t) : PE X (.Tuple es x1 pos) (tTup t) := by
  intro pins s σ H Q I hq
  refine wpAny_Tuple_spliced (thn (h pos pins s σ H _ I hq) fun us s1 ⟨xs, H1, I1, r, z, q⟩ => ⟨by rw [← r.length]; exact z, ?_⟩)
  have hf : H1 s1.heap.objs.size = none := I1.hok.fresh (Nat.le_refl _)
  refine ⟨.ref s1.heap.objs.size, upd H1 s1.heap.objs.size (.tup xs), I1.laid (t' := s1.toks) (fun b u e => Heap.get?_push_of_some _ e) (Nat.le_refl _) ?_, rfl, q _ hf⟩
  exact ⟨z, us, r, ⟨_, Heap.get?_push_size _ rfl, rfl, _, rfl⟩⟩
theorem pe_lst (h : PA X es t) : PE X (.List es pos) (tLst t) := by
  intro pins s σ H Q I hq
  refine wpAny_List_spliced (thn (h pos pins s σ H _ I hq) fun us s1 ⟨xs, H1, I1, r, z, q⟩ => ⟨by rw [← r.length]; exact z, ?_⟩)
  have hf : H1 s1.heap.objs.size = none := I1.hok.fresh (Nat.le_refl _)
  refine ⟨.ref s1.heap.objs.size, upd H1 s1.heap.objs.size (.lst xs), I1.laid (t' := s1.toks) (fun b u e => Heap.get?_push_of_some _ e) (Nat.le_refl _) ?_, rfl, q _ hf⟩
  exact ⟨z, us, 0, r, Heap.get?_push_size _ rfl⟩
end

abbrev Sp := List V → Hp → VK → XK → Prop
abbrev CXT := List Env → Hp → Shared → XK → Value → Shared → Prop

structure Env0 (P : Program) (w : World) (K : PySem.W.Frag) (mg : Str → Option Value) (base : Heap) (A : Around) (outer : List Env) (s : Shared) (H : Hp) : Prop where
  frames : A.frames = some outer
  mod : Mod K mg base
  bs : ∀ b o, base.get? b = some o → s.heap.get? b = some o ∧ H b = none
  bsz : base.objs.size ≤ s.heap.objs.size
  funs : s.heap.FunFrames base outer
  frf : ∀ b ∈ frs outer, H b = none
  hok : HOk P w H s.heap
  bare : AllBare s.gens
noncomputable def CE (outer : List Env) (P : Program) (w : World) (H : Hp) (s : Shared) (Q : VK) (u : Value) (s' : Shared) : Prop :=
  ∃ v H', s'.os = s.os ∧ AllBare s'.gens ∧ Un (frs outer) [] H H' s.heap s'.heap ∧ HOk P w H' s'.heap ∧ RelV v u ∧ Q v H'
noncomputable def CR (CX : CXT) (outer : List Env) (P : Program) (w : World) (H : Hp) (s : Shared) (Q : VK) (E : XK) (r : Result) (s' : Shared) : Prop :=
  match r with
  | .ok (.ret u) => CE outer P w H s Q u s'
  | .ok _ => False
  | .error e => CX outer H s E e s'
structure FnOk (P : Program) (w : World) (K : PySem.W.Frag) (mg : Str → Option Value) (base : Heap) (CX : CXT) (k : Nat) (f : Addr) (fd : FuncData) (ps : List Str) (sp : Sp) : Prop where
  len : ∀ vs H Q E, sp vs H Q E → vs.length = ps.length
  run : ∀ (A : Around) (outer : List Env) (s : Shared) (H : Hp) (args : Args) (us : List Value) (vs : List V) (Q : VK) (E : XK), Room k A → Env0 P w K mg base A outer s H → BindsTo s fd args (ps.zip us) → Vals vs us → sp vs H Q E →
    codeAny (model P w) A (.call (.ref f) args) (CR CX outer P w H s Q E) s
theorem FnOk.mono {P : Program} {w : World} {K : PySem.W.Frag} {mg : Str → Option Value} {base : Heap} {CX : CXT} {j k : Nat} {f : Addr} {fd : FuncData} {ps : List Str} {sp : Sp} (F : FnOk P w K mg base CX j f fd ps sp) (h : j ≤ k) :
    FnOk P w K mg base CX k f fd ps sp := ⟨F.len, fun A outer s H args us vs Q E hr => F.run A outer s H args us vs Q E (hr.mono h)⟩
theorem FnOk.imp {P : Program} {w : World} {K : PySem.W.Frag} {mg : Str → Option Value} {base : Heap} {CX : CXT} {k : Nat} {f : Addr} {fd : FuncData} {ps : List Str} {sp sp' : Sp} (F : FnOk P w K mg base CX k f fd ps sp)
    (h : ∀ vs H Q E, sp' vs H Q E → sp vs H Q E) : FnOk P w K mg base CX k f fd ps sp' :=
  ⟨fun vs H Q E q => F.len vs H Q E (h _ _ _ _ q), fun A outer s H args us vs Q E hr he hb hv hs => F.run A outer s H args us vs Q E hr he hb hv (h _ _ _ _ hs)⟩

theorem Env0.in1 {P : Program} {w : World} {K : PySem.W.Frag} {mg : Str → Option Value} {base : Heap} {A : Around} {outer : List Env} {s : Shared} {H : Hp} (e : Env0 P w K mg base A outer s H) :
    Env0 P w K mg base A.in1 outer s H := ⟨e.frames, e.mod, e.bs, e.bsz, e.funs, e.frf, e.hok, e.bare⟩

section
variable {X : Cx} {pins : List (Addr × Obj)} {σ : St} {H : Hp} {s s' : Shared}
theorem Inv.env0 (I : Inv X pins σ H s) : Env0 X.prog X.w X.K X.mg X.base X.A X.stack s H :=
  ⟨I.ok.frames, I.ok.mod, I.bs, Nat.le_trans I.ok.bsz I.sz, I.stack, I.stkFree, I.hok, I.bare⟩
theorem Inv.after {Q : VK} {u : Value} (I : Inv X pins σ H s) (h : CE X.stack X.prog X.w H s Q u s') : EP X pins σ Q u s' := by
  obtain ⟨v, H', os, bare, un, hok, r, q⟩ := h
  obtain ⟨hh, g, d, t, os'⟩ := s'
  obtain rfl : os' = s.os := os
  exact ⟨v, H', I.call (h' := hh) (g' := g) (d' := d) (t' := t) (ch := []) un hok bare (fun b z => absurd z (by simp)), r, q⟩
end

noncomputable def tCall (sp : Sp) (dvs : List V) (E : XK) (t : TA) : TE := fun σ H Q => t σ H fun vs H1 => sp (vs ++ dvs) H1 Q E
noncomputable def Binds (K : PySem.W.Frag) (fd : FuncData) (ps : List Str) (ds : List Value) : Prop :=
  ∀ (s : Shared) (us : List Value), K.In s.heap → (us ++ ds).length = ps.length → BindsTo s fd ⟨us, []⟩ (ps.zip (us ++ ds))
theorem Binds.all {K : PySem.W.Frag} {fd : FuncData} {ps : List Str} (h : ∀ us : List Value, us.length = ps.length → bindArgs fd ⟨us, []⟩ = pure (ps.zip us)) : Binds K fd ps [] := fun s us _ hl => by
  rw [List.append_nil] at hl ⊢
  exact .of_eq (h us hl)

noncomputable def Passes (CX : CXT) (X : Cx) (E : XK) : Prop := ∀ (pins : List (Addr × Obj)) (σ : St) (H : Hp) (s : Shared) (e : Value) (s' : Shared), Inv X pins σ H s → CX X.stack H s E e s' → X.xe e s'

section
variable {X : Cx} {CX : CXT} {k : Nat} {f C : Addr} {fd : FuncData} {ps : List Str} {sp : Sp} {dvs : List V} {ds : List Value} {E : XK} {x m : Str} {p pos apos : Pos} {e o : Expr} {es : List Expr} {ta : TE} {t : TA}

theorem run_fn {pins : List (Addr × Obj)} {σ : St} {H : Hp} {s : Shared} {Q : VK} {us : List Value} {vs : List V} (F : FnOk X.prog X.w X.K X.mg X.base CX k f fd ps sp) (hr : Room k X.A) (hb : Binds X.K fd ps ds) (hd : Vals dvs ds) (hx : Passes CX X E)
    (I : Inv X pins σ H s) (r : Vals vs us) (h : sp (vs ++ dvs) H Q E) : wpAny (model X.prog X.w) X.A (call (.ref f) us) (EP X pins σ Q) X.xe s := by
  have r2 : Vals (vs ++ dvs) (us ++ ds) := r.append hd
  have hl : (us ++ ds).length = ps.length := by rw [← r2.length]; exact F.len _ _ _ _ h
  refine wpAny_call (codeAny_mono (F.run X.A X.stack s H ⟨us, []⟩ (us ++ ds) (vs ++ dvs) Q E hr I.env0 (hb s us I.kIn hl) r2 h) fun r s' hq => ?_)
  cases r with
  | error e => exact hx pins σ H s e s' I hq
  | ok fl =>
    cases fl with
    | ret u => exact I.after hq
    | next => exact False.elim hq
    | brk => exact False.elim hq
    | cont => exact False.elim hq

theorem pe_call (F : FnOk X.prog X.w X.K X.mg X.base CX k f fd ps sp) (hr : Room k X.A) (hg : Gl X x) (hm : X.mg x = some (.ref f)) (hk : PySem.W.keepIn X.K (.ref f) = true) (hb : Binds X.K fd ps ds) (hd : Vals dvs ds) (hx : Passes CX X E)
    (ha : PA X (e :: es) t) (hdb : (x == ("__debug__" : Str)) = false := by decide) (he : starEach (e :: es) X.env = (false, eval e X.env) :: starEach es X.env := by rfl) (hpl : (backTo pos (starEach es X.env)).any (·.1) = false := by rfl) :
    PE X (.Call (.Name x p) (e :: es) [] pos) (tCall sp dvs E t) := by
  intro pins s σ H Q I h
  refine wpAny_Call_Name_kw (ld_glob I hg hm ?_ hdb)
  refine PySem.W.callWith_K (h₀ := X.base) I.ok.mod.kin hk (thn (ha pos pins s σ H _ I h) fun us s1 ⟨vs, H1, I1, r, q⟩ => ⟨I1.kIn, ?_⟩) he hpl
  exact run_fn F hr hb hd hx I1 r q
end

section
variable {X : Cx} {CX : CXT} {k : Nat} {f C : Addr} {fd : FuncData} {ps ks : List Str} {sp : Sp} {E : XK} {x m : Str} {p pos apos kpos : Pos} {e o : Expr} {es : List Expr} {kws : List Keyword} {te ta : TE} {t tk : TA} {nm : Option Str}
variable {g : List Value → List Value → List Value} {gV : List V → List V → List V}
end

structure FnScope (N P : List Str) (sc : Scope) : Prop where
  kind : sc.kind = .function
  co : sc.isCoroutine = false
  gen : sc.isGenerator = false
  nd : N.Nodup
  pre : N.take P.length = P
  par : ∀ x ∈ P, sc.names.lookup x = some .local ∨ sc.names.lookup x = some .cell
  nofree : ∀ y ∈ sc.names, y.2 ≠ .free

theorem bindL_out {kindOf : Str → Option NameKind} {x : Str} : ∀ {binds : List (Str × Value)} {m : Str → Option Value}, (∀ v, (x, v) ∉ binds) → bindL kindOf binds m x = m x
  | [], _, _ => rfl
  | (n, v) :: r, m, h => by
    unfold bindL
    rw [bindL_out fun w hw => h w (List.mem_cons_of_mem _ hw)]
    split
    · have : x ≠ n := by rintro rfl; exact h v List.mem_cons_self
      simp [this]
    · rfl
theorem bindC_out {kindOf : Str → Option NameKind} {x : Str} : ∀ {binds : List (Str × Value)} {m : Str → Option Value}, (∀ v, (x, v) ∉ binds) → bindC kindOf binds m x = m x
  | [], _, _ => rfl
  | (n, v) :: r, m, h => by
    unfold bindC
    rw [bindC_out fun w hw => h w (List.mem_cons_of_mem _ hw)]
    split
    · rfl
    · have : x ≠ n := by rintro rfl; exact h v List.mem_cons_self
      simp [this]
theorem bindL_get {kindOf : Str → Option NameKind} {x : Str} {v : Value} : ∀ {P : List Str} {vs : List Value} {i : Nat} {m : Str → Option Value}, P.Nodup → P[i]? = some x → vs[i]? = some v → kindOf x = some .local →
    bindL kindOf (P.zip vs) m x = some v
  | [], _, _, _, _, h, _, _ => by simp at h
  | _ :: _, [], _, _, _, _, h, _ => by simp at h
  | p :: P, w :: vs, 0, m, nd, h1, h2, hk => by
    simp at h1 h2; subst h1; subst h2
    show bindL kindOf ((p, w) :: P.zip vs) m p = _
    unfold bindL
    rw [bindL_out fun v hv => (List.nodup_cons.mp nd).1 (List.of_mem_zip hv).1, if_pos hk]
    simp
  | p :: P, w :: vs, i + 1, m, nd, h1, h2, hk => by
    show bindL kindOf ((p, w) :: P.zip vs) m x = _
    unfold bindL
    exact bindL_get (i := i) (List.nodup_cons.mp nd).2 (by simpa using h1) (by simpa using h2) hk
theorem bindC_get {kindOf : Str → Option NameKind} {x : Str} {v : Value} : ∀ {P : List Str} {vs : List Value} {i : Nat} {m : Str → Option Value}, P.Nodup → P[i]? = some x → vs[i]? = some v → kindOf x ≠ some .local →
    bindC kindOf (P.zip vs) m x = some v
  | [], _, _, _, _, h, _, _ => by simp at h
  | _ :: _, [], _, _, _, _, h, _ => by simp at h
  | p :: P, w :: vs, 0, m, nd, h1, h2, hk => by
    simp at h1 h2; subst h1; subst h2
    show bindC kindOf ((p, w) :: P.zip vs) m p = _
    unfold bindC
    rw [bindC_out fun v hv => (List.nodup_cons.mp nd).1 (List.of_mem_zip hv).1, if_neg hk]
    simp
  | p :: P, w :: vs, i + 1, m, nd, h1, h2, hk => by
    show bindC kindOf ((p, w) :: P.zip vs) m x = _
    unfold bindC
    exact bindC_get (i := i) (List.nodup_cons.mp nd).2 (by simpa using h1) (by simpa using h2) hk

noncomputable def start (N : List Str) (vs : List V) : St := vs.map some ++ List.replicate (N.length - vs.length) none

noncomputable def cxOf (CX : CXT) (P : Program) (w : World) (K : PySem.W.Frag) (mg : Str → Option Value) (base : Heap) (N : List Str) (qual : Str) (scope : Scope) (f : Addr) (cd : Value) (A : Around) (outer : List Env) (s : Shared) (H : Hp) (E : XK) : Cx where
  prog := P
  w := w
  K := K
  mg := mg
  base := base
  A := A.deeper (envOfC qual scope s.heap.objs.size f cd)
  N := N
  s₀ := s
  H₀ := H
  env := envOfC qual scope s.heap.objs.size f cd
  outer := outer
  stack := envOfC qual scope s.heap.objs.size f cd :: outer
  ex := []
  calm := true
  fn := fun _ => true
  pn := []
  xe := fun e s' => wpAny (model P w) (A.deeper (envOfC qual scope s.heap.objs.size f cd)) (leaving (envOfC qual scope s.heap.objs.size f cd) e) (fun _ s'' => CX outer H s E e s'') (fun e' s'' => CX outer H s E e' s'') s'

theorem cell_has {sc : Scope} {n : Nat} {x : Str} (h : sc.names.lookup x = some .cell) : ∃ c, (cellsFrom n sc.names []).lookup x = some c := by
  have q := PySem.W.cellsFrom_some sc.names n [] (.inl h)
  exact Option.isSome_iff_exists.mp q

theorem inv_start {CX : CXT} {P : Program} {w : World} {K : PySem.W.Frag} {mg : Str → Option Value} {base : Heap} {N ps : List Str} {qual : Str} {scope : Scope} {f : Addr} {cd : Value} {A : Around} {outer : List Env} {s s1 : Shared} {H : Hp} {E : XK} {us : List Value} {vs : List V}
    (S : FnScope N ps scope) (hd : A.handled = none) (e0 : Env0 P w K mg base A outer s H) (hl : vs.length = ps.length) (r : Vals vs us)
    (x : InCallC s s.heap.objs.size (bindL (envOfC qual scope s.heap.objs.size f cd).kindOf (ps.zip us) fun _ => none) (cellsFrom (s.heap.objs.size + 1) scope.names []) (bindC (envOfC qual scope s.heap.objs.size f cd).kindOf (ps.zip us) fun _ => none) s1) :
    Inv (cxOf CX P w K mg base N qual scope f cd A outer s H E) [] (start N vs) H s1 := by
  have hpl : ps.length ≤ N.length := by have := congrArg List.length S.pre; rw [List.length_take] at this; omega
  obtain ⟨h1, tk, rfl, hk⟩ := x.done
  have noA : ∀ b : Addr, b ∉ (cxOf CX P w K mg base N qual scope f cd A outer s H E).ex := fun b z => absurd (show b ∈ ([] : List Addr) from z) (by simp)
  refine ⟨⟨e0.mod, S.kind, rfl, rfl, Nat.le_refl _, fun y z c h1 h2 => ?_, fun y hy => ?_, fun y c _ h => ?_, fun _ => hd, Around.frames_deeper e0.frames, .inr ⟨rfl, rfl⟩, fun b z => absurd z (noA b), e0.bs, e0.bsz, fun b _ _ => noA b, fun b z => absurd z (noA b), e0.funs, e0.frf⟩,
    rfl, e0.bare, Un.kept hk, ⟨_, x.toInCall.ns, fun i y v h1 h2 h3 => ?_⟩, fun y c h => ⟨_, x.cell y c h⟩, e0.hok.fresh (Nat.le_refl _), fun y c h => ?_, fun p hp => absurd (show p ∈ ([] : List (Addr × Obj)) from hp) (by simp), e0.hok.kept hk, ?_⟩
  · exact name_of_addr x.apart (PySem.mem_of_lookup h1) (PySem.mem_of_lookup h2)
  · have hy : scope.names.lookup y = some .cell ∨ scope.names.lookup y = some .free := hy
    rcases hy with hy | hy
    · exact cell_has hy
    · exact absurd rfl (S.nofree _ (PySem.mem_of_lookup hy))
  · exact Nat.le_of_lt (x.above y c (PySem.mem_of_lookup h))
  · have hi : i < vs.length := by
      unfold start at h2
      by_cases hi : i < vs.length
      · exact hi
      · rw [List.getElem?_append_right (by simpa using hi)] at h2
        rw [List.getElem?_replicate] at h2
        split at h2 <;> cases h2
    have ha : vs[i]? = some v := by
      unfold start at h2
      rw [List.getElem?_append_left (by simpa using hi), List.getElem?_map] at h2
      cases e : vs[i]? with
      | none => rw [e] at h2; cases h2
      | some a => rw [e] at h2; cases h2; rfl
    obtain ⟨u, hu, rv⟩ := r.get ha
    have hp : ps[i]? = some y := by
      rw [← S.pre, List.getElem?_take_of_lt (by omega)]; exact h1
    have ndP : ps.Nodup := by rw [← S.pre]; exact S.nd.sublist (List.take_sublist _ _)
    refine ⟨u, rv, ?_⟩
    rcases S.par y (List.mem_of_getElem? hp) with k | k
    · exact .inl ⟨k, bindL_get ndP hp hu k⟩
    · obtain ⟨c, e⟩ := cell_has (n := s.heap.objs.size + 1) k
      refine .inr ⟨.inl k, c, e, ?_⟩
      have q := x.cell y c e
      rw [bindC_get ndP hp hu (by show scope.names.lookup y ≠ _; rw [k]; decide)] at q
      exact q
  · exact e0.hok.fresh (Nat.le_of_lt (x.above y c (PySem.mem_of_lookup h)))
  · unfold start
    show _ = N.length
    rw [List.length_append, List.length_map, List.length_replicate]
    omega

theorem fn_of {CX : CXT} {P : Program} {w : World} {K : PySem.W.Frag} {mg : Str → Option Value} {base : Heap} {k : Nat} {f : Addr} {name qual : Str} {params : Arguments} {body : List Stmt} {scope : Scope} {dV kV doc pm cdv ct oc : Value} {an od : Option Addr}
    {osl : Array (Option Value)} {N ps : List Str} {sp : Sp} (lk : K.lookup f = some ⟨oc, od, .func (PySem.W.fnOf name qual params body scope dV kV doc pm an cdv ct), osl⟩) (hcd : PySem.W.codeIn K cdv qual = true) (S : FnScope N ps scope)
    (len : ∀ vs H Q E, sp vs H Q E → vs.length = ps.length)
    (hbody : ∀ (A : Around) (outer : List Env) (s : Shared) (H : Hp) (vs : List V) (Q : VK) (E : XK), Room k (A.deeper (envOfC qual scope s.heap.objs.size f cdv)) → sp vs H Q E →
      ∃ t, PSs (cxOf CX P w K mg base N qual scope f cdv A outer s H E) body t ∧ t { nx := fun _ H' => Q .non H', rt := Q } (start N vs) H) :
    FnOk P w K mg base CX (k + 1) f (PySem.W.fnOf name qual params body scope dV kV doc pm an cdv ct) ps sp := by
  refine ⟨len, fun A outer s H args us vs Q E hr e0 hb r hsp => ?_⟩
  have hl := len _ _ _ _ hsp
  have KX : K.In s.heap := e0.mod.kin.keeps fun b o e => (e0.bs b o e).1
  have lim : s.heap.NoLimit := e0.mod.nolimit.keeps fun b o e => (e0.bs b o e).1
  have hkind : ∀ y ∈ ps.zip us, scope.names.lookup y.1 = some .local ∨ (scope.names.lookup y.1 = some .cell ∧ ((cellsFrom (s.heap.objs.size + 1) scope.names []).lookup y.1).isSome = true) := fun ⟨n, v⟩ hy => by
    rcases S.par n (List.of_mem_zip hy).1 with q | q
    · exact .inl q
    · exact .inr ⟨q, PySem.W.cellsFrom_some _ _ _ (.inl q)⟩
  refine codeAny_call_function hr.depth (KX _ _ lk) rfl S.co S.gen rfl (PySem.W.codeRec_of KX hcd) (hb _ _ _ _ ?_)
  refine wpAny_newFunctionEnv_cells S.kind hkind fun env he s1 x => ?_
  subst he
  refine ⟨lim.keeps x.toInCall.keep, codeAny_func ?_⟩
  obtain ⟨t, ht, hq⟩ := hbody A outer s H vs Q E (hr.deeper _) hsp
  have I : Inv (cxOf CX P w K mg base N qual scope f cdv A outer s H E) [] (start N vs) H s1 := inv_start S hr.hd e0 hl r x
  refine wpAny_mono (ht [] s1 (start N vs) H _ I hq) (fun fl s' hs => ?_) fun e s' hs => hs
  have fin : ∀ {σ' : St} {H' : Hp} {v : V} {u : Value}, Inv (cxOf CX P w K mg base N qual scope f cdv A outer s H E) [] σ' H' s' → RelV v u → Q v H' → CE outer P w H s Q u s' :=
    fun {σ' H' v u} J rv q => ⟨v, H', J.os, J.bare, J.base, J.hok, rv, q⟩
  cases fl with
  | ret u =>
    obtain ⟨v, σ', H', J, rv, q⟩ := hs
    exact fin J rv q
  | next =>
    obtain ⟨σ', H', J, q⟩ := hs
    exact fin (v := V.non) (u := Value.none) J rfl q
  | brk =>
    obtain ⟨_, _, _, q⟩ := hs
    exact False.elim q
  | cont =>
    obtain ⟨_, _, _, q⟩ := hs
    exact False.elim q
end L2

namespace L2
open PySem PySem.Spec PyProof.Rows
section
variable {X : Cx} {x : Str} {p pos : Pos} {e : Expr} {es : List Expr} {t : TA} {id T : String} {r : List V → Hp → VK → Prop}

noncomputable def tCB (r : List V → Hp → VK → Prop) (t : TA) : TE := fun σ H Q => t σ H fun vs H1 => r vs H1 Q
theorem pe_callB (hc : CallR X (.builtin id) r) (hg : Gl X x) (hm : X.mg x = none) (hv : bootBuiltins x = some (.builtin id)) (ha : PA X (e :: es) t) (hn : x ≠ "__name__" := by decide) (hdb : (x == ("__debug__" : Str)) = false := by decide)
    (he : starEach (e :: es) X.env = (false, eval e X.env) :: starEach es X.env := by rfl) (hpl : (backTo pos (starEach es X.env)).any (·.1) = false := by rfl) : PE X (.Call (.Name x p) (e :: es) [] pos) (tCB r t) := by
  intro pins s σ H Q I h
  refine wpAny_Call_Name_kw (ld_blt I hg hm hv ?_ hn hdb)
  exact PyProof.Rows.callWith_builtin1 (thn (ha pos pins s σ H _ I h) fun us s1 ⟨vs, H1, I1, r1, q1⟩ => hc pins s1 σ H1 vs us Q I1 r1 q1) he hpl
theorem pe_callTy (hc : CallR X (.type T) r) (hg : Gl X x) (hm : X.mg x = none) (hv : bootBuiltins x = some (.type T)) (ha : PA X (e :: es) t) (hn : x ≠ "__name__" := by decide) (hdb : (x == ("__debug__" : Str)) = false := by decide)
    (he : starEach (e :: es) X.env = (false, eval e X.env) :: starEach es X.env := by rfl) (hpl : (backTo pos (starEach es X.env)).any (·.1) = false := by rfl) : PE X (.Call (.Name x p) (e :: es) [] pos) (tCB r t) := by
  intro pins s σ H Q I h
  refine wpAny_Call_Name_kw (ld_blt I hg hm hv ?_ hn hdb)
  exact PyProof.Rows.callWith_type1 (thn (ha pos pins s σ H _ I h) fun us s1 ⟨vs, H1, I1, r1, q1⟩ => hc pins s1 σ H1 vs us Q I1 r1 q1) he hpl
end
end L2

namespace HT
open PySem PyProof.Rows

section
open PySem.SeqAt
open PySem.AutoSeq1 (wpAny_loadPart')
open PySem.MeetsSeq PySem.MeetsSeq2 PySem.MeetsSeq3

end

section
variable {prog : Program} {w : World} {A : Around} {E : Value → Shared → Prop} {s : Shared}

noncomputable def sIx (n d : Nat) : Option Int → Nat
  | none => d
  | some v => if v < 0 then (v + (n : Int)).toNat else min v.toNat n
theorem sIx_nat (n d k : Nat) : sIx n d (some (k : Int)) = min k n := by
  show (if (k : Int) < 0 then ((k : Int) + (n : Int)).toNat else min (k : Int).toNat n) = min k n
  rw [if_neg (by omega), Int.toNat_natCast]
theorem sIx_le (n d : Nat) (hd : d ≤ n) (o : Option Int) : sIx n d o ≤ n := by
  cases o with
  | none => exact hd
  | some v =>
    show (if v < 0 then (v + (n : Int)).toNat else min v.toNat n) ≤ n
    by_cases hv : v < 0
    · rw [if_pos hv]; omega
    · rw [if_neg hv]; exact Nat.min_le_right _ _
theorem clip_eq (v : Int) (n d : Nat) : (if v < 0 then max (v + (n : Int)) 0 else min v (n : Int)) = ((sIx n d (some v) : Nat) : Int) := by
  show (if v < 0 then max (v + (n : Int)) 0 else min v (n : Int)) = (((if v < 0 then (v + (n : Int)).toNat else min v.toNat n) : Nat) : Int)
  by_cases hv : v < 0
  · simp only [if_pos hv]; omega
  · simp only [if_neg hv]; omega
theorem adjust_gen (lo hi : Option Int) (n : Nat) : Builtin.Slice.sliceAdjust lo hi 1 (n : Int) = (((sIx n 0 lo : Nat) : Int), ((sIx n n hi : Nat) : Int)) := by
  have h1 : ¬ ((1 : Int) < 0) := by omega
  unfold Builtin.Slice.sliceAdjust
  simp only [h1, if_false]
  refine Prod.ext ?_ ?_
  · cases lo with
    | none => rfl
    | some v => exact clip_eq v n 0
  · cases hi with
    | none => rfl
    | some v => exact clip_eq v n n
theorem places_gen (i j : Nat) : Builtin.Slice.slicePlaces (i : Int) (j : Int) 1 = j - i := by
  unfold Builtin.Slice.slicePlaces
  have h1 : (1 : Int) > 0 := by omega
  simp only [h1, if_true, Int.ediv_one]
  split <;> omega
theorem slicePart_ {v : Value} {o : Option Int} {Q : Option Int → Shared → Prop} (p : IsPart v o) (h : Q o s) : wpAny (model prog w) A (Builtin.Slice.slicePartIndex v) Q E s := by
  cases p with
  | none => exact slicePart_none h
  | int i t => exact slicePart_int h
theorem sliceApplied_gen {sl : Addr} {vl vu : Value} {lo hi : Option Int} {n : Nat} {Q : Int × Int × Nat → Shared → Prop} (hs : s.heap.IsSliceOf sl vl vu .none) (pl : IsPart vl lo) (pu : IsPart vu hi)
    (h : Q (((sIx n 0 lo : Nat) : Int), 1, sIx n n hi - sIx n 0 lo) s) : wpAny (model prog w) A (Builtin.Slice.sliceApplied (.ref sl) (pure (n : Int))) Q E s := by
  obtain ⟨os, hos, hcs, hds⟩ := id hs
  unfold Builtin.Slice.sliceApplied Builtin.Slice.sliceFields
  refine wpAny_bind (wpAny_bind (wpAny_field hos hds (x := vl) rfl (wpAny_bind (wpAny_field hos hds (x := vu) rfl (wpAny_bind (wpAny_field hos hds (x := .none) rfl (wpAny_pure ?_)))))))
  refine wpAny_bind (slicePart_none ?_)
  show wpAny _ _ (if ((1 : Int) == 0) = true then _ else _) _ _ s
  rw [if_neg (by decide)]
  refine wpAny_bind (slicePart_ pl (wpAny_bind (slicePart_ pu (wpAny_bind (wpAny_pure ?_)))))
  show wpAny _ _ (match Builtin.Slice.sliceAdjust lo hi 1 (n : Int) with | (lo, hi) => pure (lo, (1 : Int), Builtin.Slice.slicePlaces lo hi 1)) _ _ s
  rw [adjust_gen lo hi n]
  show wpAny _ _ (pure (((sIx n 0 lo : Nat) : Int), (1 : Int), Builtin.Slice.slicePlaces ((sIx n 0 lo : Nat) : Int) ((sIx n n hi : Nat) : Int) 1)) _ _ s
  rw [places_gen]
  exact wpAny_pure h
theorem pick_gen (xs : Array Value) (i k : Nat) : ((List.range k).filterMap fun (m : Nat) => xs[((i : Int) + (m : Int) * 1).toNat]?).toArray = ((xs.toList.drop i).take k).toArray := by
  have e : (fun (m : Nat) => xs[((i : Int) + (m : Int) * 1).toNat]?) = fun m => xs[i + m]? := by
    funext m
    have : ((i : Int) + (m : Int) * 1).toNat = i + m := by omega
    rw [this]
  rw [e]
  have := pick_run xs i k
  rw [List.filterMap_map] at this
  have e2 : ((fun x => xs[x]?) ∘ fun x => i + x) = fun m => xs[i + m]? := rfl
  rw [e2] at this
  rw [this]

theorem getItem_tuple_cut {t sl : Addr} {items : Array Value} {vl vu : Value} {lo hi : Option Int} {Q : Value → Shared → Prop} (ht : IsTup s.heap t items) (hs : s.heap.IsSliceOf sl vl vu .none) (pl : IsPart vl lo) (pu : IsPart vu hi)
    (hw : ¬ (sIx items.size 0 lo = 0 ∧ sIx items.size items.size hi = items.size))
    (h : Q (.ref s.heap.objs.size) { s with heap := s.heap.push { cls := .type "tuple", data := .seq ((items.toList.drop (sIx items.size 0 lo)).take (sIx items.size items.size hi - sIx items.size 0 lo)).toArray } })
    (hsz : items.size ≤ sizeLine) : wpAny (model prog w) A (getItem (.ref t) (.ref sl)) Q E s := by
  have htake : sizeOk (.seq ((items.toList.drop (sIx items.size 0 lo)).take (sIx items.size items.size hi - sIx items.size 0 lo)).toArray) := by
    show ((items.toList.drop (sIx items.size 0 lo)).take (sIx items.size items.size hi - sIx items.size 0 lo)).toArray.size ≤ sizeLine
    rw [List.size_toArray, List.length_take, List.length_drop, Array.length_toList]
    omega
  have hj : sIx items.size items.size hi ≤ items.size := sIx_le _ _ (Nat.le_refl _) hi
  obtain ⟨os, hos, hcs, hds⟩ := id hs
  have hTs : s.TypeIs (.ref sl) "slice" := ⟨os, hos, hcs⟩
  unfold getItem
  try with_reducible refine wpAny_holding ?_
  first | refine wpAny_bind (wpAny_pure ?_) | skip
  refine wpAny_bind (wpAny_sequenceKey ht.typeIs (by decide) ?_)
  refine wpAny_bind (wpAny_callSpecial?_slot (name := Str.ofString "__getitem__") ht.typeIs PyProof.Rows.slot_tuple_getitem
    (wpAny_call_entry PyProof.Rows.slot_tuple_getitem ht.typeIs entry_tuple_getitem ?_ (args_tuple_getitem _ _)))
  show wpAny _ _ (Builtin.Tuple.tupleItemsOf (.ref t) >>= _) _ _ s
  refine wpAny_bind (tupleItemsOf_ ht ?_)
  refine wpAny_bind (wpAny_typeOf hTs ?_)
  rw [if_pos (by decide)]
  refine wpAny_bind (sliceApplied_gen hs pl pu ?_)
  have hno : ¬ ((((sIx items.size 0 lo : Nat) : Int) == 0 && (1 : Int) == 1 && (sIx items.size items.size hi - sIx items.size 0 lo) == items.size) = true) := by
    intro q
    rw [Bool.and_eq_true, Bool.and_eq_true] at q
    have q1 : ((sIx items.size 0 lo : Nat) : Int) = 0 := eq_of_beq q.1.1
    have q2 : sIx items.size items.size hi - sIx items.size 0 lo = items.size := eq_of_beq q.2
    exact hw ⟨by omega, by omega⟩
  show wpAny _ _ (if (((sIx items.size 0 lo : Nat) : Int) == 0 && (1 : Int) == 1 && (sIx items.size items.size hi - sIx items.size 0 lo) == items.size) = true then _ else _) _ _ s
  rw [if_neg hno, pick_gen]
  first
    | exact wpAny_bind (m := Builtin.Tuple.tupleExact _) (wpAny_newObj_type (wpAny_pure ⟨_, rfl, wpAny_pure h⟩) htake)
    | exact wpAny_bind (m := Builtin.Tuple.tupleExact _) (wpAny_newObj_type (wpAny_bind (wpAny_pure (wpAny_pure ⟨_, rfl, wpAny_pure h⟩))) htake)
    | exact wpAny_bind (wpAny_bind (m := Builtin.Tuple.tupleExact _) (wpAny_newObj_type (wpAny_pure (wpAny_pure ⟨_, rfl, wpAny_pure h⟩)) htake))
    | exact wpAny_bind (wpAny_bind (m := Builtin.Tuple.tupleExact _) (wpAny_newObj_type (wpAny_pure ⟨_, rfl, wpAny_pure h⟩) htake))
end
end HT

namespace L2
open PySem PySem.Spec PyProof.Rows

abbrev TO := St → Hp → (Option Int → Hp → Prop) → Prop
noncomputable def PO (X : Cx) (e : Option Expr) (t : TO) : Prop :=
  ∀ (pins : List (Addr × Obj)) (s : Shared) (σ : St) (H : Hp) (Q : Option Int → Hp → Prop), Inv X pins σ H s → t σ H Q →
    wpAny (model X.prog X.w) X.A (evalPart e X.env) (fun u s' => ∃ o H', Inv X pins σ H' s' ∧ IsPart u o ∧ Q o H') X.xe s
noncomputable def tNoPart : TO := fun _ H Q => Q none H
noncomputable def tPart (t : TE) : TO := fun σ H Q => t σ H fun x H1 => ∃ i, x = .int i ∧ Q (some i) H1

section
variable {X : Cx} {e : Expr} {te : TE} {lo hi : Option Expr} {tl th : TO} {pos p2 : Pos}

theorem po_none : PO X none tNoPart := by
  intro pins s σ H Q I h
  rw [evalPart_none]
  exact wpAny_pure ⟨none, H, I, .none, h⟩
theorem po_some (h : PE X e te) : PO X (some e) (tPart te) := by
  intro pins s σ H Q I hw
  rw [evalPart_some]
  refine thn (h pins s σ H _ I hw) fun u s1 ⟨x, H1, I1, r1, q1⟩ => ?_
  obtain ⟨i, rfl, q⟩ := q1
  obtain ⟨t, rfl⟩ := r1
  exact ⟨some i, H1, I1, .int i t, q⟩

noncomputable def SlR (X : Cx) (r : V → Option Int → Option Int → Hp → VK → Prop) : Prop :=
  ∀ (pins : List (Addr × Obj)) (s : Shared) (σ : St) (H : Hp) (x : V) (v vl vu : Value) (lo hi : Option Int) (sl : Addr) (Q : VK), Inv X pins σ H s → RelV x v → s.heap.IsSliceOf sl vl vu .none → IsPart vl lo → IsPart vu hi → r x lo hi H Q →
    ∃ T id, typeLookup (.type T) "__getitem__" = pure (some (.builtin id)) ∧ s.TypeIs v T ∧ wpAny (model X.prog X.w) X.A (getItem v (.ref sl)) (EP X pins σ Q) X.xe s
noncomputable def tSl (r : V → Option Int → Option Int → Hp → VK → Prop) (te : TE) (tl th : TO) : TE := fun σ H Q => te σ H fun x H1 => tl σ H1 fun l H2 => th σ H2 fun u H3 => r x l u H3 Q
theorem pe_slice {r : V → Option Int → Option Int → Hp → VK → Prop} (hr : SlR X r) (he : PE X e te) (hl : PO X lo tl) (hu : PO X hi th) : PE X (.Subscript e (.Slice lo hi none p2) pos) (tSl r te tl th) := by
  intro pins s σ H Q I h
  refine Subscript_ (thn (he pins s σ H _ I h) fun v s1 ⟨x, H1, I1, r1, q1⟩ => ?_)
  refine wpAny_Slice (thn (hl pins s1 σ H1 _ I1 q1) fun vl s2 ⟨l, H2, I2, pl, q2⟩ => thn (hu pins s2 σ H2 _ I2 q2) fun vu s3 ⟨u, H3, I3, pu, q3⟩ => ?_)
  rw [evalPart_none]
  refine wpAny_pure ?_
  have I4 : Inv X pins σ H3 { s3 with heap := s3.heap.push { cls := .type "slice", data := .fields #[vl, vu, .none] } } := I3.kept (t' := s3.toks) fun b ob q => Heap.get?_push_of_some _ q
  obtain ⟨T, id, hT, ht, hg⟩ := hr pins { s3 with heap := s3.heap.push { cls := .type "slice", data := .fields #[vl, vu, .none] } } σ H3 x v vl vu l u s3.heap.objs.size Q I4 r1 (Heap.IsSliceOf.new ..) pl pu q3
  show wpAny (model X.prog X.w) X.A (subscriptTail e (.Slice lo hi none p2) v (.ref s3.heap.objs.size)) (EP X pins σ Q) X.xe { s3 with heap := s3.heap.push { cls := .type "slice", data := .fields #[vl, vu, .none] } }
  exact tail_any (ops := [.ref s3.heap.objs.size, v]) ht hT hg (by with_unfolding_all rfl)

noncomputable def cutV (xs : List V) (lo hi : Option Int) : List V := (xs.drop (HT.sIx xs.length 0 lo)).take (HT.sIx xs.length xs.length hi - HT.sIx xs.length 0 lo)
theorem cutV_length (xs : List V) (lo hi : Option Int) : (cutV xs lo hi).length ≤ xs.length := by
  unfold cutV
  rw [List.length_take, List.length_drop]
  omega
noncomputable def rSlT (K : PySem.W.Frag) : V → Option Int → Option Int → Hp → VK → Prop := fun x lo hi H Q => ∃ a xs, x = .ref a ∧ SqT K H a xs ∧
  ¬ (HT.sIx xs.length 0 lo = 0 ∧ HT.sIx xs.length xs.length hi = xs.length) ∧ ∀ p, H p = none → Q (.ref p) (upd H p (.tup (cutV xs lo hi)))
theorem sl_tup : SlR X (rSlT X.K) := by
  intro pins s σ H x v vl vu lo hi sl Q I rx hs pl pu h
  obtain ⟨a, xs, rfl, hx, hw, q⟩ := h
  cases rx
  obtain ⟨its, r, ht, hz⟩ := I.tuple hx
  have hlen : its.toArray.size = xs.length := by rw [List.size_toArray]; exact r.length.symm
  refine ⟨"tuple", _, PyProof.Rows.slot_tuple_getitem.lookup, ht.typeIs, ?_⟩
  refine HT.getItem_tuple_cut ht hs pl pu (by rw [hlen]; exact hw) ?_ (by rw [hlen]; exact hz)
  rw [hlen]
  refine ⟨.ref s.heap.objs.size, _, I.laid (t' := s.toks) (o := .tup (cutV xs lo hi)) (fun b ob q => Heap.get?_push_of_some _ q) (Nat.le_refl _) ?_, rfl, q _ (I.hok.fresh (Nat.le_refl _))⟩
  exact ⟨Nat.le_trans (cutV_length xs lo hi) hz, _, (r.drop (HT.sIx xs.length 0 lo)).take (HT.sIx xs.length xs.length hi - HT.sIx xs.length 0 lo), IsTup.new _ _⟩

end
end L2

namespace L2
open PySem PySem.Spec PyProof.Rows

noncomputable def ixN (n : Nat) (i : Int) : Option Nat := if 0 ≤ i then (if i < n then some i.toNat else none) else if -(n : Int) ≤ i then some (i + n).toNat else none
noncomputable def atI {α : Type} (xs : List α) (i : Int) : Option α := (ixN xs.length i).bind fun j => xs[j]?
theorem ixN_seq {n : Nat} {i : Int} {j : Nat} (h : ixN n i = some j) : seqIndex? i n = some j ∧ j < n ∧ -(n : Int) ≤ i ∧ i < n := by
  unfold ixN at h
  by_cases h0 : 0 ≤ i
  · rw [if_pos h0] at h
    by_cases h1 : i < n
    · rw [if_pos h1] at h
      have e : i.toNat = j := Option.some.inj h
      exact ⟨by rw [seqIndex_of h0 h1, e], by omega, by omega, h1⟩
    · rw [if_neg h1] at h; cases h
  · rw [if_neg h0] at h
    by_cases h1 : -(n : Int) ≤ i
    · rw [if_pos h1] at h
      have e : (i + n).toNat = j := Option.some.inj h
      exact ⟨by rw [seqIndex_neg (by omega) h1, e], by omega, h1, by omega⟩
    · rw [if_neg h1] at h; cases h
theorem atI_get {α : Type} {xs : List α} {i : Int} {v : α} (h : atI xs i = some v) : ∃ j, seqIndex? i xs.length = some j ∧ xs[j]? = some v ∧ j < xs.length ∧ -(xs.length : Int) ≤ i ∧ i < xs.length := by
  unfold atI at h
  cases e : ixN xs.length i with
  | none => rw [e] at h; cases h
  | some j =>
    rw [e] at h
    obtain ⟨h1, h2, h3, h4⟩ := ixN_seq e
    exact ⟨j, h1, h, h2, h3, h4⟩
theorem atI_nat {α : Type} {xs : List α} {j : Nat} {v : α} (h : xs[j]? = some v) : atI xs (j : Int) = some v := by
  have hj : j < xs.length := (List.getElem?_eq_some_iff.mp h).1
  have e : ixN xs.length (j : Int) = some j := by
    unfold ixN
    rw [if_pos (by omega), if_pos (by omega)]; simp
  unfold atI; rw [e]; exact h
noncomputable def PlainIx (b : Expr) : Prop := ∀ o i, subscripted b false o i = operate [o, i] (getItem o i)
noncomputable def IxR (X : Cx) (r : R2) : Prop :=
  ∀ (value slice : Expr) (pins : List (Addr × Obj)) (s : Shared) (σ : St) (H : Hp) (x y : V) (v u : Value) (Q : VK), Inv X pins σ H s → RelV x v → RelV y u → r x y H Q →
    subscripted slice false v u = operate [v, u] (getItem v u) → wpAny (model X.prog X.w) X.A (subscriptTail value slice v u) (EP X pins σ Q) X.xe s
noncomputable def MtR (X : Cx) (id : String) (r : V → List V → Hp → VK → Prop) : Prop :=
  ∀ (pins : List (Addr × Obj)) (s : Shared) (σ : St) (H : Hp) (x : V) (xs : List V) (v : Value) (us : List Value) (Q : VK), Inv X pins σ H s → RelV x v → Vals xs us → r x xs H Q →
    wpAny (model X.prog X.w) X.A (call (.builtin id) (v :: us)) (EP X pins σ Q) X.xe s
section
variable {X : Cx} {a b : Expr} {ta tb : TE} {pos : Pos}
theorem pe_ix {r : R2} (hr : IxR X r) (ha : PE X a ta) (hb : PE X b tb) (hs : PlainIx b) : PE X (.Subscript a b pos) (tOp r ta tb) := by
  intro pins s σ H Q I h
  exact Subscript_ (binT ha hb I h fun v u s2 x y H2 I2 rx ry q => hr a b pins s2 σ H2 x y v u Q I2 rx ry q (hs _ _))

noncomputable def rIxL (K : PySem.W.Frag) : R2 := fun x y H Q => ∃ p xs i v, x = .ref p ∧ y = .int i ∧ SqL K H p xs ∧ atI xs i = some v ∧ Q v H
noncomputable def rIxT (K : PySem.W.Frag) : R2 := fun x y H Q => ∃ p xs i v, x = .ref p ∧ y = .int i ∧ SqT K H p xs ∧ atI xs i = some v ∧ Q v H
noncomputable def rIxS : R2 := fun x y H Q => ∃ z i c, x = .str z ∧ y = .int i ∧ z.length ≤ sizeLine ∧ atI z.cps.toList i = some c ∧ Q (.str ⟨#[c]⟩) H
theorem ix_list : IxR X (rIxL X.K) := by
  intro value slice pins s σ H x y v u Q I rx ry h hs
  obtain ⟨p, xs, i, z, rfl, rfl, hq, he, q⟩ := h
  cases rx
  obtain ⟨t, rfl⟩ := ry
  obtain ⟨its, r, pl, hz⟩ := I.list hq
  obtain ⟨j, h1, h2, h3, h4, h5⟩ := atI_get he
  obtain ⟨w, ew, rw'⟩ := r.get h2
  have hl := r.length
  have hn := line63
  have fin : EP X pins σ Q w s := ⟨z, H, I, rw', q⟩
  by_cases h0 : 0 ≤ i
  · have hj : i.toNat = j := by
      rw [seqIndex_of h0 h5] at h1
      exact Option.some.inj h1
    exact item_listR pl.isList h0 (by omega) (by rw [hj]; simpa using ew) fin hs
  · have hj : (i + (its.toArray.size : Int)).toNat = j := by
      rw [seqIndex_neg (by omega) h4] at h1
      rw [List.size_toArray, ← hl]
      exact Option.some.inj h1
    exact subscriptTail_builtinR (x := w) pl.isList.typeIs slot_list_getitem.lookup
      (wpAny_getItem_list_neg (Q := fun r s' => r = w ∧ EP X pins σ Q r s') pl.isList (by omega) (by rw [List.size_toArray] <;> omega) (by omega) (by rw [hj]; simpa using ew) ⟨rfl, fin⟩) hs
theorem ix_tup : IxR X (rIxT X.K) := by
  intro value slice pins s σ H x y v u Q I rx ry h hs
  obtain ⟨p, xs, i, z, rfl, rfl, hq, he, q⟩ := h
  cases rx
  obtain ⟨t, rfl⟩ := ry
  obtain ⟨its, r, pl, hz⟩ := I.tuple hq
  obtain ⟨j, h1, h2, h3, h4, h5⟩ := atI_get he
  obtain ⟨w, ew, rw'⟩ := r.get h2
  have hl := r.length
  have hn := line63
  have fin : EP X pins σ Q w s := ⟨z, H, I, rw', q⟩
  exact subscriptTail_builtinR (x := w) pl.typeIs slot_tuple_getitem.lookup
    (getItem_tuple (j := j) (Q := fun r s' => r = w ∧ EP X pins σ Q r s') pl (by omega) (by omega) (by rw [List.size_toArray, ← hl]; exact h1) (by simpa using ew) ⟨rfl, fin⟩) hs
theorem ix_str : IxR X rIxS := by
  intro value slice pins s σ H x y v u Q I rx ry h hs
  obtain ⟨z, i, c, rfl, rfl, hz, he, q⟩ := h
  obtain ⟨t, rfl⟩ := rx
  obtain ⟨t', rfl⟩ := ry
  obtain ⟨j, h1, h2, h3, h4, h5⟩ := atI_get he
  have hl : z.cps.toList.length = z.length := by simp [Str.length]
  rw [hl] at h1 h4 h5
  have hn := line63
  exact tail_any (typeIs_str s z t) slot_str_getitem.lookup (getItem_str (c := c) (by
    have e1 : decide (i < -(2 ^ 63 : Int)) = false := decide_eq_false (by omega)
    have e2 : decide (i ≥ 2 ^ 63) = false := decide_eq_false (by omega)
    rw [e1, e2, Bool.or_false]) (by rw [h1]; simpa using h2) ⟨.str ⟨#[c]⟩, H, I.tok _, ⟨_, rfl⟩, q⟩) hs
theorem mapSeq_set (its : List Value) (n j : Nat) (u : Value) : Obj.mapSeq (·.setIfInBounds j u) { cls := .type "list", data := .seq its.toArray n } = { cls := .type "list", data := .seq (its.set j u).toArray n } := by
  simp [Obj.mapSeq]
theorem Inv.lst {pins : List (Addr × Obj)} {σ : St} {H : Hp} {s : Shared} {p : Addr} {xs : List V} (I : Inv X pins σ H s) (h : H p = some (.lst xs)) :
    ∃ (its : List Value) (n : Nat), Vals xs its ∧ s.heap.get? p = some { cls := .type "list", data := .seq its.toArray n } ∧ xs.length ≤ sizeLine := by
  obtain ⟨z, its, n, r, e⟩ := I.hok p _ h
  exact ⟨its, n, r, e, z⟩
theorem Inv.lstUpd {pins : List (Addr × Obj)} {σ : St} {H : Hp} {s : Shared} {p : Addr} {xs ys : List V} {its its' : List Value} {n n' : Nat} {f : Obj → Obj} (I : Inv X pins σ H s) (h : H p = some (.lst xs))
    (ho : s.heap.get? p = some { cls := .type "list", data := .seq its.toArray n }) (hf : f { cls := .type "list", data := .seq its.toArray n } = { cls := .type "list", data := .seq its'.toArray n' }) (r : Vals ys its') (hz : ys.length ≤ sizeLine) (t : Nat) :
    Inv X pins σ (upd H p (.lst ys)) { s with heap := s.heap.update p f, toks := t } := by
  have e : (s.heap.update p f).get? p = some { cls := .type "list", data := .seq its'.toArray n' } := by
    rw [Heap.get?_update_self f ho (by rw [hf] <;> rfl), hf]
  refine I.write (x := p) (e := p) (by rw [h]; trivial) (.inl rfl) (fun b u hb q => (Heap.get?_update_other _ _ (Ne.symm hb)).trans q) ⟨_, e⟩ ?_
  exact ⟨hz, its', n', r, e⟩
noncomputable def rSetL : V → V → V → Hp → (Hp → Prop) → Prop := fun o i v H Q => ∃ p xs k j, o = .ref p ∧ i = .int k ∧ H p = some (.lst xs) ∧ ixN xs.length k = some j ∧ Q (upd H p (.lst (xs.set j v)))
theorem set_list : PSet X rSetL := by
  intro pins s σ H o i v ov iv u Q I ro ri rv h
  obtain ⟨p, xs, k, j, rfl, rfl, hp, hj, q⟩ := h
  cases ro
  obtain ⟨t, rfl⟩ := ri
  obtain ⟨its, n, r, ho, hz⟩ := I.lst hp
  obtain ⟨h1, h2, h3, h4⟩ := ixN_seq hj
  have hl := r.length
  have hn := line63
  have I' : Inv X pins σ (upd H p (.lst (xs.set j v))) { s with heap := s.heap.update p (Obj.mapSeq (·.setIfInBounds j u)) } :=
    I.lstUpd hp ho (mapSeq_set its n j u) (r.set rv j) (by rw [List.length_set]; exact hz) s.toks
  by_cases h0 : 0 ≤ k
  · have hk : k.toNat = j := by
      rw [seqIndex_of h0 h4] at h1
      exact Option.some.inj h1
    exact PySem.W.ki_setAt ho h0 (by omega) (by rw [List.size_toArray, ← hl]; exact h4) (by rw [hk]; exact ⟨_, I', q⟩)
  · have hk : (k + (its.toArray.size : Int)).toNat = j := by
      rw [seqIndex_neg (by omega) h3] at h1
      rw [List.size_toArray, ← hl]
      exact Option.some.inj h1
    exact PySem.W.ki_setBack ho (by omega) (by rw [List.size_toArray, ← hl]; exact h3) (by omega) (by rw [hk]; exact ⟨_, I', q⟩)

theorem slice_bounds (lo hi : Option Int) (n : Nat) : (sliceBounds lo hi none n).1 = ((HT.sIx n 0 lo : Nat) : Int) ∧ (sliceBounds lo hi none n).2.1 = ((HT.sIx n n hi : Nat) : Int) ∧ (sliceBounds lo hi none n).2.2 = 1 := by
  refine ⟨?_, ?_, rfl⟩
  · cases lo with
    | none => simp [sliceBounds, HT.sIx]
    | some i =>
      simp only [sliceBounds, HT.sIx, Option.getD_none, show (1 : Int) > 0 by decide, if_true]
      by_cases h : i < 0
      · simp only [h, if_true] <;> omega
      · simp only [h, if_false] <;> omega
  · cases hi with
    | none => simp [sliceBounds, HT.sIx]
    | some i =>
      simp only [sliceBounds, HT.sIx, Option.getD_none, show (1 : Int) > 0 by decide, if_true]
      by_cases h : i < 0
      · simp only [h, if_true] <;> omega
      · simp only [h, if_false] <;> omega
theorem slicePick_cut (its : List Value) (lo hi : Option Int) : slicePick its.toArray lo hi none = ((its.drop (HT.sIx its.length 0 lo)).take (HT.sIx its.length its.length hi - HT.sIx its.length 0 lo)).toArray := by
  obtain ⟨h1, h2, h3⟩ := slice_bounds lo hi its.toArray.size
  unfold slicePick
  rw [h1, h2, h3]
  simp only [sliceRange_one, pick_run, List.size_toArray] <;> rfl
noncomputable def rSlL (K : PySem.W.Frag) : V → Option Int → Option Int → Hp → VK → Prop := fun x lo hi H Q => ∃ a xs, x = .ref a ∧ SqL K H a xs ∧ ∀ p, H p = none → Q (.ref p) (upd H p (.lst (cutV xs lo hi)))
theorem sl_list : SlR X (rSlL X.K) := by
  intro pins s σ H x v vl vu lo hi sl Q I rx hs pl pu h
  obtain ⟨a, xs, rfl, hx, q⟩ := h
  cases rx
  obtain ⟨its, r, ht, hz⟩ := I.list hx
  have hlen := r.length
  refine ⟨"list", _, slot_list_getitem.lookup, ht.isList.typeIs, ?_⟩
  refine wpAny_getItem_list_slice ht.isList hs pl pu .none (by simp) ?_ (by rw [List.size_toArray] <;> omega)
  rw [slicePick_cut, ← hlen]
  refine ⟨.ref s.heap.objs.size, _, I.laid (t' := s.toks) (o := .lst (cutV xs lo hi)) (fun b ob q => Heap.get?_push_of_some _ q) (Nat.le_refl _) ?_, rfl, q _ (I.hok.fresh (Nat.le_refl _))⟩
  exact ⟨Nat.le_trans (cutV_length xs lo hi) hz, _, 0, (r.drop (HT.sIx xs.length 0 lo)).take (HT.sIx xs.length xs.length hi - HT.sIx xs.length 0 lo), Heap.get?_push_size _ rfl⟩

noncomputable def flatV : V → Bool
  | .non => true
  | .bl _ => true
  | .int _ => true
  | .str _ => true
  | _ => false
noncomputable def eqV : V → V → Bool
  | .non, .non => true
  | .bl a, .bl b => a == b
  | .bl a, .int b => (if a then 1 else 0) == b
  | .int a, .bl b => a == (if b then 1 else 0)
  | .int a, .int b => a == b
  | .str a, .str b => a == b
  | _, _ => false
theorem eqAt_V {A : Around} {s : Shared} {y x : V} {u v : Value} (ry : RelV y u) (rx : RelV x v) (fy : flatV y = true) (fx : flatV x = true) : SeqAt.EqAt A s u v (eqV y x) := by
  cases y with
  | non =>
    cases ry
    cases x with
    | non => cases rx; exact SeqAt.EqAt.same _
    | bl b => cases rx; exact SeqAt.EqAt.none_bool b
    | int b => obtain ⟨t, rfl⟩ := rx; exact SeqAt.EqAt.none_int b t
    | str b => obtain ⟨t, rfl⟩ := rx; exact SeqAt.EqAt.none_str b t
    | _ => exact absurd (show false = true from fx) Bool.false_ne_true
  | bl a =>
    cases ry
    cases x with
    | non => cases rx; exact SeqAt.EqAt.bool_none a
    | bl b => cases rx; exact SeqAt.EqAt.bool_bool a b
    | int b => obtain ⟨t, rfl⟩ := rx; exact SeqAt.EqAt.bool_int a b t
    | str b => obtain ⟨t, rfl⟩ := rx; exact SeqAt.EqAt.bool_str a b t
    | _ => exact absurd (show false = true from fx) Bool.false_ne_true
  | int a =>
    obtain ⟨t', rfl⟩ := ry
    cases x with
    | non => cases rx; exact SeqAt.EqAt.int_none a t'
    | bl b => cases rx; exact SeqAt.EqAt.int_bool a t' b
    | int b => obtain ⟨t, rfl⟩ := rx; exact SeqAt.EqAt.int_int a t' b t
    | str b => obtain ⟨t, rfl⟩ := rx; exact SeqAt.EqAt.int_str a t' b t
    | _ => exact absurd (show false = true from fx) Bool.false_ne_true
  | str a =>
    obtain ⟨t', rfl⟩ := ry
    cases x with
    | non => cases rx; exact SeqAt.EqAt.str_none a t'
    | bl b => cases rx; exact SeqAt.EqAt.str_bool a t' b
    | int b => obtain ⟨t, rfl⟩ := rx; exact SeqAt.EqAt.str_int a t' b t
    | str b => obtain ⟨t, rfl⟩ := rx; exact SeqAt.EqAt.str_str a t' b t
    | _ => exact absurd (show false = true from fx) Bool.false_ne_true
  | _ => exact absurd (show false = true from fy) Bool.false_ne_true
noncomputable def eqU (x : V) (u : Value) : Bool := match u with
  | .none => eqV .non x
  | .bool b => eqV (.bl b) x
  | .int i _ => eqV (.int i) x
  | .str z _ => eqV (.str z) x
  | _ => false
theorem eqU_of {x y : V} {u : Value} (r : RelV y u) (f : flatV y = true) : eqU x u = eqV y x := by
  cases y with
  | non => cases r; rfl
  | bl b => cases r; rfl
  | int i => obtain ⟨t, rfl⟩ := r; rfl
  | str z => obtain ⟨t, rfl⟩ := r; rfl
  | _ => exact absurd (show false = true from f) Bool.false_ne_true
theorem any_eqU {x : V} : ∀ {xs : List V} {us : List Value}, Vals xs us → xs.all flatV = true → us.any (eqU x) = xs.any fun y => eqV y x
  | _, _, .nil, _ => rfl
  | y :: xs, u :: us, .cons r t, f => by
    rw [List.all_cons, Bool.and_eq_true] at f
    rw [List.any_cons, List.any_cons, eqU_of r f.1, any_eqU t f.2]
theorem mem_eqAt {A : Around} {s : Shared} {x : V} {v : Value} (rx : RelV x v) (fx : flatV x = true) : ∀ {xs : List V} {us : List Value}, Vals xs us → xs.all flatV = true → ∀ u ∈ us, SeqAt.EqAt A s u v (eqU x u)
  | _, _, .nil, _ => fun u hu => by cases hu
  | y :: xs, u :: us, .cons r t, f => fun u' hu => by
    rw [List.all_cons, Bool.and_eq_true] at f
    rcases List.mem_cons.mp hu with rfl | hu
    · rw [eqU_of r f.1]; exact eqAt_V r rx f.1 fx
    · exact mem_eqAt rx fx t f.2 u' hu
noncomputable def inV (x : V) (xs : List V) : Bool := xs.any fun y => eqV y x
noncomputable def rIn (K : PySem.W.Frag) (neg : Bool) : R2 := fun x y H Q => ∃ p xs, y = .ref p ∧ (SqL K H p xs ∨ SqT K H p xs) ∧ flatV x = true ∧ xs.all flatV = true ∧ Q (.bl (if neg then !inV x xs else inV x xs)) H
theorem op_in_seq : OpR X (compareOp .In) (rIn X.K false) := by
  intro pins s σ H x y v u Q I rx ry h
  obtain ⟨p, xs, rfl, hq, fx, fs, q⟩ := h
  cases ry
  rcases hq with hq | hq
  · obtain ⟨its, r, pl, hz⟩ := I.list hq
    refine SeqAt.in_listAt (eqU x) pl.isList (fun w hw => mem_eqAt rx fx r fs w (by simpa using hw)) ⟨.bl _, H, I, rfl, ?_⟩
    rw [show its.toArray.any (eqU x) = its.any (eqU x) by simp, any_eqU r fs]
    exact q
  · obtain ⟨its, r, pl, hz⟩ := I.tuple hq
    refine SeqAt.in_tupleAt (eqU x) pl (fun w hw => mem_eqAt rx fx r fs w (by simpa using hw)) ⟨.bl _, H, I, rfl, ?_⟩
    rw [show its.toArray.any (eqU x) = its.any (eqU x) by simp, any_eqU r fs]
    exact q
theorem call_len_seq : CallR X (.builtin "len") (fun xs H Q => ∃ p ys, xs = [.ref p] ∧ (SqL X.K H p ys ∨ SqT X.K H p ys) ∧ Q (.int ys.length) H) := by
  intro pins s σ H xs us Q I r h
  obtain ⟨p, ys, rfl, hq, q⟩ := h
  obtain ⟨u, rfl, rx⟩ := vals1 r
  cases rx
  have hn := line63
  rcases hq with hq | hq
  · obtain ⟨its, r', pl, hz⟩ := I.list hq
    have hlen := r'.length
    exact Calls.call_len_list pl.isList (by simp only [List.size_toArray] <;> omega) ⟨.int ys.length, H, I.tok _, ⟨s.toks + 1, by rw [List.size_toArray, hlen]⟩, q⟩
  · obtain ⟨its, r', pl, hz⟩ := I.tuple hq
    have hlen := r'.length
    exact len_tuple pl (by simp only [List.size_toArray] <;> omega) ⟨.int ys.length, H, I.tok _, ⟨s.toks + 1, by rw [List.size_toArray, hlen]⟩, q⟩
theorem call_len_str : CallR X (.builtin "len") (fun xs H Q => ∃ z, xs = [.str z] ∧ z.length ≤ sizeLine ∧ Q (.int z.length) H) := by
  intro pins s σ H xs us Q I r h
  obtain ⟨z, rfl, hz, q⟩ := h
  obtain ⟨u, rfl, t, rfl⟩ := vals1 r
  have hn := line63
  exact len_str (by omega) ⟨.int z.length, H, I.tok _, ⟨_, rfl⟩, q⟩
theorem call_list_of : CallR X (.type "list") (fun xs H Q => ∃ p ys, xs = [.ref p] ∧ (SqL X.K H p ys ∨ SqT X.K H p ys) ∧ ∀ l, H l = none → Q (.ref l) (upd H l (.lst ys))) := by
  intro pins s σ H xs us Q I r h
  obtain ⟨p, ys, rfl, hq, q⟩ := h
  obtain ⟨u, rfl, rx⟩ := vals1 r
  cases rx
  have fin : ∀ (its : List Value), Vals ys its → ys.length ≤ sizeLine → ∀ (h' : Heap) (c' : Nat), (∀ b o', s.heap.get? b = some o' → h'.get? b = some o') →
      h'.get? s.heap.objs.size = some { cls := .type "list", dict := none, data := .seq its.toArray c', slots := #[] } → EP X pins σ Q (.ref s.heap.objs.size) { s with heap := h' } := fun its r' hz h' c' kp e =>
    ⟨.ref s.heap.objs.size, _, I.laid (t' := s.toks) kp (Nat.le_refl _) (show ObjOk X.prog X.w _ h' _ (.lst ys) from ⟨hz, its, c', r', e⟩), rfl, q _ (I.hok.fresh (Nat.le_refl _))⟩
  rcases hq with hq | hq
  · obtain ⟨its, r', pl, hz⟩ := I.list hq
    have hlen := r'.length
    obtain ⟨o, ho, hc, n, hd⟩ := pl.isList
    exact call_list_seq p (.inl rfl) ho hc hd (fun h' c' kp e => fin its r' hz h' c' kp e) (by simp only [List.size_toArray] <;> omega)
  · obtain ⟨its, r', pl, hz⟩ := I.tuple hq
    have hlen := r'.length
    obtain ⟨o, ho, hc, n, hd⟩ := pl
    exact call_list_seq p (.inr rfl) ho hc hd (fun h' c' kp e => fin its r' hz h' c' kp e) (by simp only [List.size_toArray] <;> omega)
theorem call_tuple_of : CallR X (.type "tuple") (fun xs H Q => ∃ p ys, xs = [.ref p] ∧ ((SqL X.K H p ys ∧ ∀ l, H l = none → Q (.ref l) (upd H l (.tup ys))) ∨ (SqT X.K H p ys ∧ Q (.ref p) H))) := by
  intro pins s σ H xs us Q I r h
  obtain ⟨p, ys, rfl, h⟩ := h
  obtain ⟨u, rfl, rx⟩ := vals1 r
  cases rx
  rcases h with ⟨hq, q⟩ | ⟨hq, q⟩
  · obtain ⟨its, r', pl, hz⟩ := I.list hq
    have hlen := r'.length
    refine call_tuple_list pl.isList (fun h' kp => ?_) (by simp only [List.size_toArray] <;> omega)
    have I1 : Inv X pins σ H { s with heap := h' } := I.kept (t' := s.toks) kp
    have I2 : Inv X pins σ (upd H h'.objs.size (.tup ys)) { s with heap := h'.push { cls := .type "tuple", data := .seq its.toArray } } :=
      I1.laid (t' := s.toks) (fun b o e => Heap.get?_push_of_some _ e) (Nat.le_refl _) (show ObjOk X.prog X.w _ _ _ (.tup ys) from ⟨hz, its, r', IsTup.new _ _⟩)
    exact ⟨.ref h'.objs.size, _, I2, rfl, q _ (I1.hok.fresh (Nat.le_refl _))⟩
  · obtain ⟨its, r', pl, hz⟩ := I.tuple hq
    exact call_tuple_same pl ⟨.ref p, H, I, rfl, q⟩

noncomputable def tyV (K : PySem.W.Frag) (T : String) (x : V) (H : Hp) : Prop := match x with
  | .str _ => T = "str"
  | .int _ => T = "int"
  | .ref p => (T = "list" ∧ ∃ xs, SqL K H p xs) ∨ (T = "tuple" ∧ ∃ o, K.lookup p = some o ∧ o.cls = .type "tuple" ∧ o.dict = none) ∨
      (T = "dict" ∧ ((∃ kvs, H p = some (.dK kvs)) ∨ ∃ kvs, H p = some (.dT kvs))) ∨ (T = "set" ∧ ∃ S n, H p = some (.set S n))
  | _ => False
theorem tyV_is {pins : List (Addr × Obj)} {σ : St} {H : Hp} {s : Shared} {T : String} {x : V} {v : Value} (I : Inv X pins σ H s) (r : RelV x v) (ty : tyV X.K T x H) :
    s.TypeIs v T ∧ ∀ a, v = .ref a → ∃ ob, s.heap.get? a = some ob ∧ ob.dict = none := by
  cases x with
  | str z =>
    obtain ⟨t, rfl⟩ := r
    cases (show T = "str" from ty)
    exact ⟨typeIs_str s z t, fun _ e => nomatch e⟩
  | int i =>
    obtain ⟨t, rfl⟩ := r
    cases (show T = "int" from ty)
    exact ⟨typeIs_int s i t, fun _ e => nomatch e⟩
  | ref p =>
    cases r
    rcases ty with ⟨rfl, xs, hq⟩ | ⟨rfl, o, hk, hc, hd⟩ | ⟨rfl, hk⟩ | ⟨rfl, S, n, hk⟩
    · obtain ⟨its, _, pl, _⟩ := I.list hq
      refine ⟨pl.isList.typeIs, fun a e => ?_⟩
      cases e
      obtain ⟨o, n, e, c, hd, _⟩ := pl
      exact ⟨o, e, hd⟩
    · refine ⟨⟨o, I.kIn p o hk, hc⟩, fun a e => ?_⟩
      cases e
      exact ⟨o, I.kIn _ o hk, hd⟩
    · have z : ∃ o, s.heap.get? p = some o ∧ o.ExactDict := by
        rcases hk with ⟨kvs, hk⟩ | ⟨kvs, hk⟩
        · obtain ⟨_, _, _, _, o, _, _, e, ex, _⟩ := I.hok p _ hk
          exact ⟨o, e, ex⟩
        · obtain ⟨_, _, _, _, o, _, _, e, ex, _⟩ := I.hok p _ hk
          exact ⟨o, e, ex⟩
      obtain ⟨o, e, ex⟩ := z
      refine ⟨⟨o, e, ex.1⟩, fun a e2 => ?_⟩
      cases e2
      exact ⟨o, e, ex.2.1⟩
    · obtain ⟨o, _, _, _, e, ex, _⟩ := I.hok p _ hk
      refine ⟨⟨o, e, ex.1⟩, fun a e2 => ?_⟩
      cases e2
      exact ⟨o, e, ex.2.1⟩
  | _ => exact False.elim ty
noncomputable def tBM0 (K : PySem.W.Frag) (T : String) (r : V → List V → Hp → VK → Prop) (to : TE) : TE := fun σ H Q => to σ H fun x H1 => tyV K T x H1 ∧ r x [] H1 Q
noncomputable def tBM (K : PySem.W.Frag) (T : String) (r : V → List V → Hp → VK → Prop) (to : TE) (t : TA) : TE := fun σ H Q => to σ H fun x H1 => tyV K T x H1 ∧ t σ H1 fun xs H2 => r x xs H2 Q
variable {o e : Expr} {es : List Expr} {to : TE} {t : TA} {name : Str} {apos cpos : Pos} {T id : String} {r : V → List V → Hp → VK → Prop}
theorem pe_bm (pa : PlainAttrs T) (slot : Slot T name id) (hty : typeOf (.builtin id) = pure (.type "method_descriptor")) (hm : MtR X id r) (ho : PE X o to) (ha : PA X (e :: es) t)
    (hbase : attributeBase o name X.env (eval o X.env) = eval o X.env := by rfl)
    (hfew : ((backTo cpos (starEach (e :: es) X.env)).all (fun x => !x.1) && (backToKw cpos (keywordEach [] X.env)).all (fun x => x.1.isSome)
      && decide ((e :: es).length + ([] : List Keyword).length + (if ([] : List Keyword).isEmpty then 0 else 1) < 30)) = true := by rfl)
    (hline : (apos.endLine == cpos.line) = true := by rfl) (hs : starEach (e :: es) X.env = (false, eval e X.env) :: starEach es X.env := by rfl) (hplain : (backTo cpos (starEach es X.env)).any (·.1) = false := by rfl) :
    PE X (.Call (.Attribute o name apos) (e :: es) [] cpos) (tBM X.K T r to t) := by
  intro pins s σ H Q I h
  refine wpAny_Call_method_late hbase hfew hline rfl (thn (ho pins s σ H _ I h) fun v s1 ⟨x, H1, I1, r1, ty, q1⟩ => ?_)
  obtain ⟨h1, h2⟩ := tyV_is I1 r1 ty
  refine ⟨T, id, pa, slot, hty, h1, h2, ?_⟩
  have hA := ha cpos pins s1 σ H1 _ I1 q1
  rw [hs] at hA ⊢
  refine Calls.callWith_builtin (by show (false || (backTo cpos (starEach es X.env)).any (·.1)) = false; rw [hplain] <;> rfl) (Calls.evalArgs_plain ?_)
  exact thn hA fun us s2 ⟨vs, H2, I2, r2, q2⟩ => hm pins s2 σ H2 x vs v us Q I2 r1 r2 q2
/- xs.append(e), list.index on a module's tuple .. are MtR facts of 06m -/
end
end L2

namespace L2
open PySem PySem.Spec PyProof.Rows

noncomputable def MtM (X : Cx) (id : String) (r : V → List V → Hp → VK → Prop) : Prop :=
  ∀ (pins : List (Addr × Obj)) (s : Shared) (σ : St) (H : Hp) (x : V) (xs : List V) (v : Value) (us : List Value) (Q : VK), Inv X pins σ H s → RelV x v → Vals xs us → r x xs H Q →
    wpAny (model X.prog X.w) X.A (call (.builtin id) (v :: us)) (EP X pins σ Q) X.xe s

theorem Vals.one : ∀ {x : V} {us : List Value}, Vals [x] us → ∃ u, us = [u] ∧ RelV x u
  | _, _, .cons r .nil => ⟨_, rfl, r⟩
theorem Vals.two : ∀ {x y : V} {us : List Value}, Vals [x, y] us → ∃ u v, us = [u, v] ∧ RelV x u ∧ RelV y v
  | _, _, _, .cons r (.cons q .nil) => ⟨_, _, rfl, r, q⟩
theorem Vals.zero : ∀ {us : List Value}, Vals [] us → us = []
  | _, .nil => rfl
theorem Vals.reverse {xs : List V} {us : List Value} (h : Vals xs us) : Vals xs.reverse us.reverse := by
  induction h with
  | nil => exact .nil
  | cons r t ih => rw [List.reverse_cons, List.reverse_cons]; exact Vals.append ih (.cons r .nil)
section
variable {X : Cx} {pins : List (Addr × Obj)} {σ : St} {H : Hp} {s : Shared} {l b : Addr} {xs ys zs : List V}

theorem Inv.lset {its its' : List Value} {n : Nat} {f : Array Value → Array Value} {t' : Nat} (I : Inv X pins σ H s) (hH : H l = some (.lst xs))
    (e : s.heap.get? l = some { cls := .type "list", data := .seq its.toArray n }) (hf : f its.toArray = its'.toArray) (hv : Vals ys its') (hz : ys.length ≤ sizeLine) :
    Inv X pins σ (upd H l (.lst ys)) { s with heap := s.heap.update l (Obj.mapSeq f), toks := t' } := by
  have q := PySem.IsL.update e f
  rw [hf] at q
  refine I.write (x := l) (e := l) (by rw [hH]; exact trivial) (.inl rfl) (fun b' u hb hu => (Heap.get?_update_other s.heap (Obj.mapSeq f) (Ne.symm hb)).trans hu) ⟨_, q⟩ ?_
  exact ⟨hz, its', _, hv, q⟩
theorem Inv.lnew {its : List Value} {t' : Nat} (I : Inv X pins σ H s) (hv : Vals ys its) (hz : ys.length ≤ sizeLine) :
    Inv X pins σ (upd H s.heap.objs.size (.lst ys)) { s with heap := s.heap.push { cls := .type "list", data := .seq its.toArray }, toks := t' } :=
  I.laid (fun _ _ q => Heap.get?_push_of_some _ q) (Nat.le_refl _) ⟨hz, its, 0, hv, Heap.get?_push_size _ rfl⟩
theorem Inv.fresh (I : Inv X pins σ H s) : H s.heap.objs.size = none := I.hok.fresh (Nat.le_refl _)
theorem Inv.lstM (I : Inv X pins σ H s) (hH : H l = some (.lst xs)) : xs.length ≤ sizeLine ∧ ∃ (its : List Value) (n : Nat), Vals xs its ∧ xs.length = its.length ∧ s.heap.get? l = some { cls := .type "list", data := .seq its.toArray n } := by
  obtain ⟨z, its, n, r, e⟩ := I.hok l _ hH
  exact ⟨z, its, n, r, r.length, e⟩

theorem notLongL {n : Nat} (h : n ≤ sizeLine) : Builtin.List.listTooLong n = false := by
  unfold Builtin.List.listTooLong
  exact decide_eq_false (by omega)
end

section
variable {X : Cx}

noncomputable def rAppend : V → List V → Hp → VK → Prop := fun x vs H Q => ∃ l xs y, x = .ref l ∧ vs = [y] ∧ H l = some (.lst xs) ∧ xs.length < sizeLine ∧ Q .non (upd H l (.lst (xs ++ [y])))
theorem mt_append : MtM X "list.append" rAppend := by
  intro pins s σ H x vs v us Q I rx rv h
  obtain ⟨l, xs, y, rfl, rfl, hH, hz, q⟩ := h
  cases rx
  obtain ⟨u, rfl, ru⟩ := rv.one
  obtain ⟨z, its, n, r, hl, e⟩ := I.lstM hH
  refine call_meets F.slot_list_append ⟨_, e, rfl⟩ F.entry_list_append (F.args_list_append_2 _ _) (PySem.list_append l its.toArray n u (by rw [List.size_toArray]; omega)) ⟨e, ?_⟩
  refine ⟨.non, _, I.lset (its' := its ++ [u]) hH e (by simp) (r.append (.cons ru .nil)) ?_, rfl, q⟩
  rw [List.length_append, List.length_singleton]
  omega

noncomputable def rExtend : V → List V → Hp → VK → Prop := fun x vs H Q => ∃ l b xs zs, x = .ref l ∧ vs = [.ref b] ∧ H l = some (.lst xs) ∧ H b = some (.lst zs) ∧ xs.length + zs.length ≤ sizeLine ∧ Q .non (upd H l (.lst (xs ++ zs)))
theorem mt_extend : MtM X "list.extend" rExtend := by
  intro pins s σ H x vs v us Q I rx rv h
  obtain ⟨l, b, xs, zs, rfl, rfl, hH, hB, hz, q⟩ := h
  cases rx
  obtain ⟨u, rfl, ru⟩ := rv.one
  cases ru
  obtain ⟨z, its, n, r, hl, e⟩ := I.lstM hH
  obtain ⟨z2, its2, n2, r2, hl2, e2⟩ := I.lstM hB
  have hsz : its.toArray.size + its2.toArray.size ≤ sizeLine := by rw [List.size_toArray, List.size_toArray]; omega
  have hlong : ¬ (!its.toArray.isEmpty && Builtin.List.listTooLong (its.toArray.size + its2.toArray.size)) = true := by
    rw [notLongL hsz, Bool.and_false]
    exact Bool.false_ne_true
  refine call_meets F.slot_list_extend ⟨_, e, rfl⟩ F.entry_list_extend (F.args_list_extend_2 _ _)
    (AutoSeq1.list_extend_list_list_0 l its.toArray n b its2.toArray n2 hlong (by rw [List.size_toArray]; omega) (by omega)) ⟨e, e2, ?_⟩
  refine ⟨.non, _, I.lset (its' := its ++ its2) hH e (by simp) (r.append r2) ?_, rfl, q⟩
  rw [List.length_append]
  omega

noncomputable def rReverse : V → List V → Hp → VK → Prop := fun x vs H Q => ∃ l xs, x = .ref l ∧ vs = [] ∧ H l = some (.lst xs) ∧ Q .non (upd H l (.lst xs.reverse))
noncomputable def rClear : V → List V → Hp → VK → Prop := fun x vs H Q => ∃ l xs, x = .ref l ∧ vs = [] ∧ H l = some (.lst xs) ∧ Q .non (upd H l (.lst []))
noncomputable def rRep : R2 := fun x y H Q => ∃ l k xs, x = .ref l ∧ y = .int k ∧ H l = some (.lst xs) ∧ -(2 ^ 63) ≤ k ∧ k < 2 ^ 63 ∧ xs.length * k.toNat ≤ sizeLine ∧
  ∀ p, H p = none → Q (.ref p) (upd H p (.lst (List.replicate k.toNat xs).flatten))
end

section
variable {prog : Program} {w : World} {A : Around} {E : Value → Shared → Prop} {s : Shared}
set_option maxRecDepth 100000 in
end

section
variable {X : Cx}
end
end L2

namespace Att
open PySem PySem.W PySem.Calls PyProof.Rows

theorem ints_of_wellAll {P : Params} {h : Heap} : ∀ (ns : List Int) (vs : List Value), WellAll P h vs (ns.map WData.int) → IntsAre vs ns := by
  intro ns
  induction ns with
  | nil =>
    intro vs w
    rw [List.map_nil] at w
    cases w
    exact .nil
  | cons n ns ih =>
    intro vs w
    rw [List.map_cons] at w
    cases w with
    | cons a b =>
      cases a
      exact .cons _ _ (ih _ b)

theorem script_of {l : OpenLaw} {n : Nat} (hn : l.most = some n) {P : Params} {h : Heap} {args : List WData} {vals : List Value}
    (hpre : l.row.toRowW.claim.pre args = true) (hwl : WellAll P h vals args) :
    ∃ a vs ns, vals = [Value.ref a] ∧ args = [WData.list (ns.map WData.int)] ∧ h.get? a = some { cls := .type "list", data := .seq vs.toArray } ∧ IntsAre vs ns ∧ ns.length ≤ n := by
  have hsh : WShape.hasAll [] args [.list .int] = true := (pre_splitW hpre).1
  have hc : l.pre.holds [] { args := args } = true := (pre_splitW hpre).2
  obtain ⟨d, r, rfl, h1, h2⟩ := hasAllW_cons hsh
  obtain rfl := hasAllW_nil h2
  obtain ⟨xs, rfl, h3⟩ := hasW_list h1
  obtain ⟨ns, rfl⟩ := items_int h3
  have hlen : ns.length ≤ n := by
    unfold OpenLaw.pre at hc
    have h4 : (WTm.not (.lt (.lit (.int (n : Int))) (.len (.arg 0)))).holds [] { args := [.list (ns.map .int)] } = true := by
      have h4 := (holds_andW hc).1
      rw [hn] at h4
      exact h4
    have h5 := condW_of h4 (w_not (w_lt w_lit (w_len_list (w_arg rfl))))
    rw [List.length_map] at h5
    refine Nat.le_of_not_lt fun q => ?_
    have q' : (n : Int) < ((ns.length : Nat) : Int) := by omega
    first
      | (rw [decide_eq_true q'] at h5; exact absurd h5 (by decide))
      | (simp at h5; omega)
  cases hwl with
  | cons w1 w2 =>
    cases w2
    cases w1 with
    | list ho hall => exact ⟨_, _, ns, rfl, rfl, ho, ints_of_wellAll ns _ hall, hlen⟩

theorem post_true (l : OpenLaw) (args : List WData) : l.row.toRowW.claim.post args (.bool true) args = true :=
  postW_of (r := l.row.toRowW) (X := (true == true))
    (show WShape.has [] (.bool true) .bool = true by first | rfl | decide | simp [WShape.has, WShape.arms, WShape.armsAll])
    (show (WTm.eq .res (.lit (.bool true))).value [] { args := args, res := some (.bool true), after := args } = some (.bool (true == true)) from w_eq_bool (w_res rfl) w_lit) rfl

theorem attach_call {l : OpenLaw} {n : Nat} {q : Program} {loose : List Str} {XP : (Str → Option Value) → Heap → Prop} {YP : World → Heap → Prop} {d : DefRec}
    (hn : l.most = some n) (hdf : d.params.defaults = [])
    (call : ∀ (w : World) (s₀ s₁ : Shared) (mg mb : Str → Option Value) (fa : Addr) (o : Obj) (pm cd doc : Value) (a : Addr) (vs : List Value) (ns : List Int),
      Ground q loose [] XP w s₀ mg mb s₁.heap → YP w s₁.heap →
      s₁.heap.get? fa = some o → o.data = .func (docDef d.name d.params d.body d.scope pm cd doc) → s₁.heap.CodeRec cd d.name → mg d.name = some (.ref fa) →
      s₁.heap.get? a = some { cls := .type "list", data := .seq vs.toArray } → IntsAre vs ns → ns.length ≤ n → s₁.gens = #[] →
      codeAny (model l.prog w) callerA (.call (.ref fa) ⟨[.ref a], []⟩) (fun r s' => r = .ok (.ret (.bool true)) ∧ OldK s₁.heap s'.heap ∧ s'.os = s₁.os ∧ AllBare s'.gens) s₁) :
    WalkO q loose XP YP l.row.toRowW d [] (fun f vs => PySem.call f vs) := by
  intro w s₀ s₁ mg mb G Y fa o pm cd doc dV kV ho hd hcd hD hmg hg args vals as hpre hlay hrd hwl hlo
  obtain rfl : dV = .none := Dflts.none hD hdf
  obtain rfl : kV = .none := Dflts.noKw hD
  obtain ⟨a, vs, ns, rfl, rfl, hobj, hints, hlen⟩ := script_of hn hpre hwl
  refine enter_call (codeAny_mono (call w s₀ s₁ mg mb fa o pm cd doc a vs ns G Y ho (fd_plain hd) hcd hmg hobj hints hlen hg) fun r s' hq => ?_)
  obtain ⟨rfl, h2, h3, h4⟩ := hq
  exact ⟨.inl ⟨.bool true, .bool true, [], rfl, fun _ => rfl, .bool true, post_true l _, fun _ => ⟨List.Pairwise.nil, fun _ hm => (nomatch hm)⟩⟩, h2, h3, h4⟩

section
variable {prog : Program} {w : World} {A : Around} {E : Value → Shared → Prop} {s : Shared} {K : Frag}

end
end Att

namespace L2
open PySem PySem.Spec PyProof.Rows

theorem vals_ints : ∀ {vs : List Value} {ns : List Int}, IntsAre vs ns → Vals (ns.map V.int) vs
  | _, _, .nil => .nil
  | _, _, .cons n t h => .cons ⟨t, rfl⟩ (vals_ints h)

noncomputable def Only (H : Hp) : Prop := ∀ b, H b = none ∨ ∃ o xs, H b = some (.frz o (.lst xs))

theorem law_call {P : Program} {w : World} {K : PySem.W.Frag} {mg mb : Str → Option Value} {CX : CXT} {k : Nat} {fa a : Addr} {fd : FuncData} {x : Str} {sp : Sp} {s₁ : Shared} {vs : List Value} {ns : List Int}
    (KX : K.In s₁.heap) (hns : s₁.heap.Ns mainGlobals mg) (hb : s₁.heap.Ns builtinsNs mb) (hbb : ∀ x : Str, x ≠ "__name__" → mb x = bootBuiltins x) (hlim : s₁.heap.NoLimit) (hg : s₁.gens = #[])
    (ha : s₁.heap.get? a = some { cls := .type "list", data := .seq vs.toArray }) (hi : IntsAre vs ns) (hl : ns.length ≤ sizeLine) (hr : Room k callerA)
    (F : ∀ base : Heap, K.In base → base.Ns mainGlobals mg → FnOk P w K mg base CX k fa fd [x] sp) (hbind : ∀ (s : Shared) (u : Value), BindsTo s fd ⟨[u], []⟩ [(x, u)])
    (hsp : ∀ H : Hp, Only H → SqL K H a (ns.map V.int) → sp [.ref a] H (fun v _ => v = .bl true) fun _ _ _ => False)
    (hCX : ∀ H e s', CX [] H s₁ (fun _ _ _ => False) e s' → False) :
    codeAny (model P w) callerA (.call (.ref fa) ⟨[.ref a], []⟩) (fun r s' => r = .ok (.ret (.bool true)) ∧ OldK s₁.heap s'.heap ∧ s'.os = s₁.os ∧ AllBare s'.gens) s₁ := by
  have rv := vals_ints hi
  have lenV := hi.length
  -- from an abstract heap in which nothing but the script may be tracked
  have core : ∀ H : Hp, Only H → SqL K H a (ns.map V.int) → HOk P w H s₁.heap → (∀ b, H b ≠ none → b = a) → (H a ≠ none → K.lookup a = none) →
      codeAny (model P w) callerA (.call (.ref fa) ⟨[.ref a], []⟩) (fun r s' => r = .ok (.ret (.bool true)) ∧ OldK s₁.heap s'.heap ∧ s'.os = s₁.os ∧ AllBare s'.gens) s₁ := by
    intro H hO hS hok hA hK
    have base_of : ∀ {b : Addr} {o : Obj}, s₁.heap.get? b = some o → H b = none → (hidT s₁.heap H).get? b = some o := fun e n => hidT_get e n
    have noA : ∀ {b : Addr} {o : Obj} {es : Array DictEntry} {ep : Nat}, s₁.heap.get? b = some o → o.data = .dict es ep → H b = none := fun {b o es ep} e d => by
      cases q : H b with
      | none => rfl
      | some u =>
        have e' : b = a := hA b (by rw [q]; simp)
        subst e'
        rw [ha] at e; cases e
        have d' : Data.seq vs.toArray _ = Data.dict es ep := d
        cases d'
    have nsK : ∀ {b : Addr} {m : Str → Option Value}, s₁.heap.Ns b m → (hidT s₁.heap H).Ns b m := fun {b m} ⟨o, es, ep, e, d, r⟩ => ⟨o, es, ep, base_of e (noA e d), d, r⟩
    have hKb : K.In (hidT s₁.heap H) := fun b o e => base_of (KX b o e) (by
      cases q : H b with
      | none => rfl
      | some u =>
        have e' : b = a := hA b (by rw [q]; simp)
        subst e'
        rw [hK (by rw [q]; simp)] at e; cases e)
    have hM : Mod K mg (hidT s₁.heap H) := ⟨hKb, nsK hns, ⟨mb, nsK hb, hbb⟩, let ⟨mc, h1, h2⟩ := hlim; ⟨mc, nsK h1, h2⟩⟩
    have e0 : Env0 P w K mg (hidT s₁.heap H) callerA [] s₁ H := ⟨rfl, hM, fun b o e => of_hidT e, Nat.le_of_eq (hidT_size _ _), trivial, fun b hb => absurd (show b ∈ ([] : List Addr) from hb) (by simp), hok, .of_eq hg⟩
    refine codeAny_mono ((F _ hKb (nsK hns)).run callerA [] s₁ H ⟨[.ref a], []⟩ [.ref a] [.ref a] _ _ hr e0 (hbind s₁ (.ref a)) (.cons rfl .nil) (hsp H hO hS)) fun r s' h => ?_
    cases r with
    | error e => exact (hCX H e s' h).elim
    | ok fl =>
      cases fl with
      | next => exact False.elim h
      | brk => exact False.elim h
      | cont => exact False.elim h
      | ret u =>
        obtain ⟨v, H', os, bare, un, hok', r', q⟩ := h
        have q' : v = .bl true := q
        subst q'
        obtain rfl : u = Value.bool true := r'
        refine ⟨rfl, OldK.of_keep fun b o e => ?_, os, bare⟩
        cases q : H b with
        | none => exact un.keep b o e q (by intro z; exact absurd (show b ∈ ([] : List Addr) from z) (by simp)) (by simp)
        | some u =>
          rcases hO b with z | ⟨ob, xs, z⟩
          · rw [q] at z; cases z
          · have z2 := un.frzs b ob _ z
            obtain ⟨e1, _⟩ := hok b _ z
            obtain ⟨e2, _⟩ := hok' b _ z2
            rw [e] at e1; cases e1
            exact e2
  cases hk : K.lookup a with
  | some o =>
    -- the script is one of the module's own objects
    have e := KX a o hk
    rw [ha] at e
    cases e
    refine core (fun _ => none) (fun _ => .inl rfl) (.inr ⟨_, vs.toArray, _, hk, rfl, rfl, rfl, by rw [List.size_toArray, lenV]; exact hl, by simpa using rv⟩) (fun b u z => by have z' : (none : Option HO) = some u := z; cases z') (fun b z => absurd rfl z) fun z => absurd rfl z
  | none =>
    refine core (fun b => if b = a then some (.frz { cls := .type "list", data := .seq vs.toArray } (.lst (ns.map V.int))) else none) (fun b => ?_) (.inl (.inr ⟨{ cls := .type "list", data := .seq vs.toArray }, if_pos rfl⟩)) (fun b u z => ?_) (fun b z => ?_) fun _ => hk
    · by_cases hb : b = a
      · exact .inr ⟨_, _, if_pos hb⟩
      · exact .inl (if_neg hb)
    · by_cases hb : b = a
      · have z' := (if_pos hb).symm.trans z
        cases z'
        subst hb
        exact ⟨ha, by rw [List.length_map]; exact hl, vs, _, rv, ha⟩
      · have z' := (if_neg hb).symm.trans z
        cases z'
    · by_cases hb : b = a
      · exact hb
      · exact absurd (if_neg hb) z
end L2

namespace L2
open PySem PySem.Spec PyProof.Rows

abbrev KOf {K : PySem.W.Frag} {h : Heap} (_ : K.In h) : PySem.W.Frag := K

theorem walk_of {l : PySem.W.OpenLaw} {n k : Nat} {q : Program} {loose : List Str} {XP : (Str → Option Value) → Heap → Prop} {YP : World → Heap → Prop} {d : DefRec} {K : Params → PySem.W.Frag} {CX : World → CXT} {sp : World → Sp} {x : Str}
    (hn : l.most = some n) (hn2 : n ≤ sizeLine) (hdf : d.params.defaults = []) (hr : Room k callerA)
    (hY : ∀ (w : World) (h : Heap), YP w h → (K w.params).In h)
    (F : ∀ (w : World) (mg : Str → Option Value) (fa : Addr) (h : Heap), (K w.params).In h → h.Ns mainGlobals mg → mg d.name = some (.ref fa) →
      ∃ fd : FuncData, (∀ (s : Shared) (u : Value), BindsTo s fd ⟨[u], []⟩ [(x, u)]) ∧
        ∀ base : Heap, (K w.params).In base → base.Ns mainGlobals mg → FnOk l.prog w (K w.params) mg base (CX w) k fa fd [x] (sp w))
    (hsp : ∀ (w : World) (H : Hp) (a : Addr) (ns : List Int), ns.length ≤ n → Only H → SqL (K w.params) H a (ns.map V.int) → sp w [.ref a] H (fun v _ => v = .bl true) fun _ _ _ => False)
    (hCX : ∀ (w : World) (H : Hp) (s : Shared) (e : Value) (s' : Shared), CX w [] H s (fun _ _ _ => False) e s' → False) :
    PySem.W.WalkO q loose XP YP l.row.toRowW d [] (fun f vs => PySem.call f vs) := by
  refine Att.attach_call hn hdf fun w s₀ s₁ mg mb fa o pm cd doc a vs ns G Y ho hd hcd hmg hobj hints hlen hg => ?_
  have KX := hY w _ Y
  obtain ⟨fd, hb, hF⟩ := F w mg fa _ KX G.T.g hmg
  exact law_call KX G.T.g G.T.b G.T.builtins G.T.nolimit hg hobj hints (Nat.le_trans hlen hn2) hr hF hb (fun H hO hS => hsp w H a ns hlen hO hS) fun H e s' => hCX w H s₁ e s'
end L2

/- THE LAST THEOREM (shape; LID, My.* are yours):
   My.Adr: a structure of the addresses that your layer names (classes, functions); My.Txt K t: a structure (Prop) of the equations over K;
   My.txt_mk : {K} {implicit addresses ..} (e1 : nsIn K mainGlobals "law" = some (some (.ref f))) (e2 : K.lookup f = some ⟨oc, od, .func (fnOf "law" "law" params body scope dV kV doc pm an cdv ct), sl⟩) (e3 : codeIn K cdv "law" = true) .. : ∃ t, My.Txt K t

set_option maxRecDepth 100000 in
set_option maxHeartbeats 0 in
theorem PySem.Challenge.cw_LID_holds : PySem.Challenge.rw_LID.Holds := by
  w_on; o_law; k_head; (case hw => w_witness2)
  k_fill
  refine L2.walk_of (l := PySem.Challenge.rw_LID) (n := 63) (k := 40) (x := "script") (CX := fun w => ..) (sp := fun _ => My.sp_law) rfl (by decide) rfl ⟨rfl, by decide, by decide⟩ (fun w h Y => PySem.W.kIn_of Y) ?F ?S ?C
  case F =>
    intro w mg fa h KX G hmg
    have T : ∃ t, My.Txt (L2.KOf KX) t := by
      dsimp only [L2.KOf]                          -- K must stand as «<heap const> w.params» for k_is
      refine' My.txt_mk ?e1 ?e2 ?e3 ..
      (case e1 => PySem.W.k_is)                    -- in the order: a name -> its address -> its object -> its parts
      (case e2 => PySem.W.k_is)
      ..
    obtain ⟨t, T⟩ := T
    have e0 := hmg.symm.trans (PySem.W.mg_of KX G T.law)
    cases e0                                       -- fa is the law's own address
    exact ⟨_, fun s u => .of_eq rfl, fun base kb nb => My.law_fn T kb nb⟩     -- if «.of_eq rfl» comes too early: refine' ⟨_, ?b, fun base kb nb => My.law_fn T kb nb⟩; exact fun s u => .of_eq rfl
  case S => exact fun w H a ns hl hO hS => ..
  case C => exact ..
(the tactic k_is has no namespace: write k_is) -/

namespace L2
open PySem PySem.Spec PyProof.Rows

noncomputable def defArgs (s : Stmt) : Arguments := match s with
  | .FunctionDef _ a _ _ _ _ _ _ _ _ => a
  | _ => { posonlyargs := [], args := [], vararg := none, kwonlyargs := [], kw_defaults := [], kwarg := none, defaults := [] }
noncomputable def defBody (s : Stmt) : List Stmt := match s with
  | .FunctionDef _ _ b _ _ _ _ _ _ _ => b
  | _ => []
noncomputable def defScope (s : Stmt) : Scope := match s with
  | .FunctionDef _ _ _ _ _ _ sc _ _ _ => sc
  | _ => { kind := .function, names := [], isGenerator := false, isCoroutine := false }

abbrev CX0 : CXT := fun _ _ _ _ _ _ => False
abbrev E0 : XK := fun _ _ _ => False
theorem pass0 {X : Cx} : Passes CX0 X E0 := fun _ _ _ _ _ _ _ h => h.elim

structure Fun (K : PySem.W.Frag) (x qual : Str) (st : Stmt) (f : Addr) (fd : FuncData) : Prop where
  ex : ∃ (oc : Value) (od : Option Addr) (kV doc pm : Value) (an : Option Addr) (cdv ct : Value) (osl : Array (Option Value)),
    fd = PySem.W.fnOf x qual (defArgs st) (defBody st) (defScope st) .none kV doc pm an cdv ct ∧ K.lookup f = some ⟨oc, od, .func fd, osl⟩ ∧ PySem.W.codeIn K cdv qual = true
  kp : PySem.W.keepIn K (.ref f) = true
section
variable {P : Program} {w : World} {K : PySem.W.Frag} {mg : Str → Option Value} {base : Heap}
theorem Fun.ok {x qual : Str} {st : Stmt} {f : Addr} {fd : FuncData} {N ps : List Str} {k : Nat} {sp : Sp} (F : Fun K x qual st f fd) (S : FnScope N ps (defScope st)) (len : ∀ vs H Q E, sp vs H Q E → vs.length = ps.length)
    (hbody : ∀ (cdv : Value) (A : Around) (outer : List Env) (s : Shared) (H : Hp) (vs : List V) (Q : VK) (E : XK), Room k (A.deeper (envOfC qual (defScope st) s.heap.objs.size f cdv)) → sp vs H Q E →
      ∃ t, PSs (cxOf CX0 P w K mg base N qual (defScope st) f cdv A outer s H E).nox (defBody st) t ∧ t { nx := fun _ H' => Q .non H', rt := Q } (start N vs) H) : FnOk P w K mg base CX0 (k + 1) f fd ps sp := by
  obtain ⟨oc, od, kV, doc, pm, an, cdv, ct, osl, rfl, lk, hcd⟩ := F.ex
  refine fn_of lk hcd S len fun A outer s H vs Q E hr hsp => ?_
  obtain ⟨t, h, q⟩ := hbody cdv A outer s H vs Q E hr hsp
  exact ⟨t, h.nox, q⟩
theorem Fun.binds {x qual : Str} {st : Stmt} {f : Addr} {fd : FuncData} {ps : List Str} (F : Fun K x qual st f fd)
    (h : ∀ (kV doc pm : Value) (an : Option Addr) (cdv ct : Value) (us : List Value), us.length = ps.length → bindArgs (PySem.W.fnOf x qual (defArgs st) (defBody st) (defScope st) .none kV doc pm an cdv ct) ⟨us, []⟩ = pure (ps.zip us)) : Binds K fd ps [] := by
  obtain ⟨oc, od, kV, doc, pm, an, cdv, ct, osl, rfl, lk, hcd⟩ := F.ex
  exact .all (h kV doc pm an cdv ct)
theorem fun_mk {x qual : Str} {st : Stmt} {f : Addr} {oc : Value} {od an : Option Addr} {osl : Array (Option Value)} {kV doc pm cdv ct : Value} (l : K.lookup f = some ⟨oc, od, .func (PySem.W.fnOf x qual (defArgs st) (defBody st) (defScope st) .none kV doc pm an cdv ct), osl⟩)
    (c : PySem.W.codeIn K cdv qual = true) (k : PySem.W.keepIn K (.ref f) = true) : Fun K x qual st f (PySem.W.fnOf x qual (defArgs st) (defBody st) (defScope st) .none kV doc pm an cdv ct) := ⟨⟨oc, od, kV, doc, pm, an, cdv, ct, osl, rfl, l, c⟩, k⟩
end
section
variable {X : Cx}
theorem pv (i : Nat) {x : Str} {pos : Pos} (hN : X.N[i]? = some x := by rfl) (hv : Vis X.env.scope x := by first | exact Or.inl rfl | exact Or.inr (Or.inl rfl) | exact Or.inr (Or.inr rfl)) (hd : (x == ("__debug__" : Str)) = false := by decide)
    (hcd : (x == ("__classdict__" : Str)) = false := by decide) : PE X (.Name x pos) (tVar i) := pe_var hN hv hd hcd
end

theorem iteF {A B : Prop} (h : B) : if false = true then A else B := by
  rw [if_neg Bool.false_ne_true]
  exact h
theorem iteT {A B : Prop} (h : A) : if true = true then A else B := by
  rw [if_pos rfl]
  exact h
theorem iteNS {c A B : Prop} [Decidable c] (hc : c) (h : B) : if (!decide c) = true then A else B := by
  rw [decide_eq_true hc]
  exact iteF h

noncomputable def Same (H H' : Hp) : Prop := ∀ b o, H b = some o → H' b = some o
theorem Same.refl (H : Hp) : Same H H := fun _ _ h => h
theorem Same.trans {H H1 H2 : Hp} (a : Same H H1) (b : Same H1 H2) : Same H H2 := fun c o h => b c o (a c o h)
theorem Same.free {H H' : Hp} (e : Same H H') {l : Addr} (h : H' l = Option.none) : H l = Option.none := by
  cases q : H l with
  | none => rfl
  | some o =>
    rw [e l o q] at h
    cases h
theorem Same.seq {K : PySem.W.Frag} {H H' : Hp} {a : Addr} {xs : List V} (e : Same H H') (h : SqL K H a xs) : SqL K H' a xs := by
  rcases h with (h | ⟨o, h⟩) | h
  · exact .inl (.inl (e _ _ h))
  · exact .inl (.inr ⟨o, e _ _ h⟩)
  · exact .inr h

end L2

set_option maxHeartbeats 4000000
namespace My
noncomputable def Bd (n : Nat) (x : Int) : Prop := x.natAbs < 2 ^ n
theorem Bd.mono {m n : Nat} {x : Int} (h : Bd m x) (hn : m ≤ n) : Bd n x := Nat.lt_of_lt_of_le h (Nat.pow_le_pow_right (by decide) hn)
theorem Bd.neg {n : Nat} {x : Int} (h : Bd n x) : Bd n (-x) := by unfold Bd at *; rw [Int.natAbs_neg]; exact h
theorem Bd.mul {m n : Nat} {x y : Int} (h : Bd m x) (g : Bd n y) : Bd (m + n) (x * y) := by
  unfold Bd at *
  rw [Int.natAbs_mul, Nat.pow_add]
  exact Nat.mul_lt_mul'' h g
theorem Bd.add {n : Nat} {x y : Int} (h : Bd n x) (g : Bd n y) : Bd (n + 1) (x + y) := by
  unfold Bd at *
  rw [Nat.pow_succ]
  have := Int.natAbs_add_le x y
  omega
theorem Bd.sub {n : Nat} {x y : Int} (h : Bd n x) (g : Bd n y) : Bd (n + 1) (x - y) := by
  rw [Int.sub_eq_add_neg]; exact h.add g.neg
theorem Bd.mod {n : Nat} {x y : Int} (hy : 0 < y) (g : Bd n y) : Bd n (x % y) := by
  unfold Bd at *
  have h1 := Int.emod_nonneg x (Int.ne_of_gt hy)
  have h2 := Int.emod_lt_of_pos x hy
  omega
theorem Bd.of_le {n : Nat} {x y : Int} (g : Bd n y) (h0 : 0 ≤ x) (h : x ≤ y) : Bd n x := by
  unfold Bd at *
  omega
theorem div_bounds (x y : Int) (hy : 0 < y) : y * (x / y) ≤ x ∧ x < y * (x / y) + y := by
  have h1 := Int.mul_ediv_add_emod x y
  have h2 := Int.emod_nonneg x (Int.ne_of_gt hy)
  have h3 := Int.emod_lt_of_pos x hy
  omega
theorem Bd.div {n : Nat} {x y : Int} (hy : 0 < y) (g : Bd n x) : Bd n (x / y) := by
  unfold Bd at *
  refine Nat.lt_of_le_of_lt ?_ g
  obtain ⟨h1, h2⟩ := div_bounds x y hy
  rcases Int.lt_or_le (x / y) 0 with h | h
  · -- q < 0: x < y q + y = y (q + 1) <= q + 1
    have h3 : y * (x / y + 1) ≤ 1 * (x / y + 1) := Int.mul_le_mul_of_nonpos_right (by omega) (by omega)
    rw [Int.mul_add, Int.mul_one, Int.one_mul] at h3
    omega
  · have h3 : 1 * (x / y) ≤ y * (x / y) := Int.mul_le_mul_of_nonneg_right (by omega) h
    rw [Int.one_mul] at h3
    omega
theorem gcd_step (a b : Int) : Int.gcd b (a % b) = Int.gcd a b := by
  apply Nat.dvd_antisymm
  · apply Int.dvd_gcd
    · have h1 : ((Int.gcd b (a % b) : Nat) : Int) ∣ b := Int.gcd_dvd_left ..
      have h2 : ((Int.gcd b (a % b) : Nat) : Int) ∣ a % b := Int.gcd_dvd_right ..
      have h3 := Int.mul_ediv_add_emod a b
      have h4 := Int.dvd_add (Int.dvd_trans h1 (Int.dvd_mul_right b (a / b))) h2
      rw [h3] at h4
      exact h4
    · exact Int.gcd_dvd_left ..
  · apply Int.dvd_gcd
    · exact Int.gcd_dvd_right ..
    · have h1 : ((Int.gcd a b : Nat) : Int) ∣ a := Int.gcd_dvd_left ..
      have h2 : ((Int.gcd a b : Nat) : Int) ∣ b := Int.gcd_dvd_right ..
      have h3 := Int.mul_ediv_add_emod a b
      have h4 : a % b = a - b * (a / b) := by omega
      rw [h4]
      exact Int.dvd_sub h1 (Int.dvd_trans h2 (Int.dvd_mul_right b (a / b)))
theorem gcd_pos {a b : Int} (hb : 0 < b) : 0 < ((Int.gcd a b : Nat) : Int) := by
  have : 0 < Int.gcd a b := Int.gcd_pos_of_ne_zero_right a (Int.ne_of_gt hb)
  omega
theorem gcd_le {a b : Int} (hb : 0 < b) : ((Int.gcd a b : Nat) : Int) ≤ b :=
  Int.le_of_dvd hb (Int.gcd_dvd_right ..)
end My

namespace My
noncomputable def sg (t m : Int) : Int := if m < 0 then -((Int.gcd t m : Nat) : Int) else ((Int.gcd t m : Nat) : Int)
theorem sg_ne {t m : Int} (hm : m ≠ 0) : sg t m ≠ 0 := by
  have h : 0 < Int.gcd t m := Int.gcd_pos_of_ne_zero_right t hm
  unfold sg
  split <;> omega
theorem sg_dvd_left (t m : Int) : sg t m ∣ t := by
  unfold sg
  split
  · exact Int.neg_dvd.mpr (Int.gcd_dvd_left ..)
  · exact Int.gcd_dvd_left ..
theorem sg_dvd_right (t m : Int) : sg t m ∣ m := by
  unfold sg
  split
  · exact Int.neg_dvd.mpr (Int.gcd_dvd_right ..)
  · exact Int.gcd_dvd_right ..
theorem fdiv_mul {a b : Int} (hb : b ≠ 0) (h : b ∣ a) : a.fdiv b * b = a := Int.fdiv_mul_cancel h
theorem natAbs_sg (t m : Int) : (sg t m).natAbs = Int.gcd t m := by
  unfold sg
  split
  · rw [Int.natAbs_neg, Int.natAbs_natCast]
  · rw [Int.natAbs_natCast]
structure Made (t m a b : Int) : Prop where
  pos : 0 < b
  low : Int.gcd a b = 1
  same : a * m = t * b
  ba : a.natAbs ≤ t.natAbs
  bb : b.natAbs ≤ m.natAbs
theorem made_of {t m : Int} (hm : m ≠ 0) : Made t m (t.fdiv (sg t m)) (m.fdiv (sg t m)) := by
  have hs := sg_ne (t := t) hm
  have e1 := fdiv_mul hs (sg_dvd_left t m)
  have e2 := fdiv_mul hs (sg_dvd_right t m)
  have hg : 0 < Int.gcd t m := Int.gcd_pos_of_ne_zero_right t hm
  generalize ha : t.fdiv (sg t m) = a at *
  generalize hb : m.fdiv (sg t m) = b at *
  have n1 : a.natAbs * Int.gcd t m = t.natAbs := by rw [← natAbs_sg, ← Int.natAbs_mul, e1]
  have n2 : b.natAbs * Int.gcd t m = m.natAbs := by rw [← natAbs_sg, ← Int.natAbs_mul, e2]
  refine ⟨?_, ?_, ?_, ?_, ?_⟩
  · -- sign
    unfold sg at e2
    by_cases h : m < 0
    · rw [if_pos h, Int.mul_neg] at e2
      rcases Int.lt_or_le 0 b with q | q
      · exact q
      · have := Int.mul_nonpos_of_nonpos_of_nonneg q (show (0 : Int) ≤ ((Int.gcd t m : Nat) : Int) by omega)
        omega
    · rw [if_neg h] at e2
      rcases Int.lt_or_le 0 b with q | q
      · exact q
      · have := Int.mul_nonpos_of_nonpos_of_nonneg q (show (0 : Int) ≤ ((Int.gcd t m : Nat) : Int) by omega)
        omega
  · have q : Int.gcd a b * Int.gcd t m = Int.gcd t m := by
      have h := Nat.gcd_mul_right a.natAbs (Int.gcd t m) b.natAbs
      rw [n1, n2] at h
      exact h.symm
    exact Nat.eq_of_mul_eq_mul_right hg (by rw [q, Nat.one_mul])
  · have q : a * m = a * (b * sg t m) := by rw [e2]
    have q2 : t * b = a * sg t m * b := by rw [e1]
    rw [q, q2, Int.mul_assoc, Int.mul_comm b]
  · rw [← n1]; exact Nat.le_mul_of_pos_right _ hg
  · rw [← n2]; exact Nat.le_mul_of_pos_right _ hg
theorem natAbs_abs (i : Int) : (if i < 0 then -i else i) = ((i.natAbs : Nat) : Int) := by split <;> omega
end My

namespace L2
open PySem PySem.Spec PyProof.Rows


abbrev Mid (x : Int) : Prop := My.Bd 4000 x
section
variable {X : Cx}
theorem log2_of_Mid {j : Int} (h : Mid j) : j.natAbs.log2 < 9000 := by
  by_cases h0 : j.natAbs = 0
  · rw [h0]; decide +kernel
  · have h1 : j.natAbs.log2 < 4000 := (Nat.log2_lt h0).mpr h
    omega
theorem op_fdivB : OpR X (binaryOp .FloorDiv) (rI (fun _ j => 0 < j ∧ Mid j) fun i j => .int (i / j)) := opI fun i j _ _ _ _ _ hc q => by
  have h1 : (0 : Int) < j := hc.1
  exact floordiv_int (by omega) (by rw [Int.fdiv_eq_ediv_of_nonneg i (by omega)]; exact q) (.inl (PyProof.noPylong_of_log2 (log2_of_Mid hc.2)))
end

theorem bt_int : bootBuiltins "int" = some (.type "int") := by decide +kernel
theorem bt_bool : bootBuiltins "bool" = some (.type "bool") := by decide +kernel
theorem bt_str : bootBuiltins "str" = some (.type "str") := by decide +kernel
theorem bt_list : bootBuiltins "list" = some (.type "list") := by decide +kernel
theorem bt_tuple : bootBuiltins "tuple" = some (.type "tuple") := by decide +kernel
theorem bt_abs : bootBuiltins "abs" = some (.builtin "abs") := by decide +kernel
theorem bt_isinstance : bootBuiltins "isinstance" = some (.builtin "isinstance") := by decide +kernel
inductive Tg where
  | non | bl | int | str | tup | lst | dic
noncomputable def tgIs (K : PySem.W.Frag) (H : Hp) : V → Tg → Prop
  | .non, .non => True
  | .bl _, .bl => True
  | .int _, .int => True
  | .str _, .str => True
  | .ref a, .tup => ∃ xs, SqT K H a xs
  | .ref a, .lst => ∃ xs, SqL K H a xs
  | .ref a, .dic => ∃ kvs, H a = some (.dK kvs)
  | _, _ => False
noncomputable def Tg.isInt : Tg → Bool
  | .int => true | .bl => true | _ => false
noncomputable def Tg.isBool : Tg → Bool
  | .bl => true | _ => false
noncomputable def Tg.isStr : Tg → Bool
  | .str => true | _ => false
noncomputable def Tg.isTup : Tg → Bool
  | .tup => true | _ => false
noncomputable def Tg.isLst : Tg → Bool
  | .lst => true | _ => false
noncomputable def rIsi (K : PySem.W.Frag) (n : String) (f : Tg → Bool) : List V → Hp → VK → Prop := fun xs H Q => ∃ x g, xs = [x, .ty n] ∧ tgIs K H x g ∧ Q (.bl (f g)) H
section
variable {X : Cx}
theorem isi_of {n : String} {f : Tg → Bool}
    (h1 : ∀ {A : Around} {E : Value → Shared → Prop} {s : Shared} {Q : Value → Shared → Prop}, (∀ t, Q (.bool (f .non)) { s with toks := t }) → wpAny (model X.prog X.w) A (call (.builtin "isinstance") [.none, .type n]) Q E s)
    (h2 : ∀ {A : Around} {E : Value → Shared → Prop} {s : Shared} {Q : Value → Shared → Prop} {b : Bool}, (∀ t, Q (.bool (f .bl)) { s with toks := t }) → wpAny (model X.prog X.w) A (call (.builtin "isinstance") [.bool b, .type n]) Q E s)
    (h3 : ∀ {A : Around} {E : Value → Shared → Prop} {s : Shared} {Q : Value → Shared → Prop} {b : Int} {u : Tok}, (∀ t, Q (.bool (f .int)) { s with toks := t }) → wpAny (model X.prog X.w) A (call (.builtin "isinstance") [.int b u, .type n]) Q E s)
    (h4 : ∀ {A : Around} {E : Value → Shared → Prop} {s : Shared} {Q : Value → Shared → Prop} {b : Str} {u : Tok}, (∀ t, Q (.bool (f .str)) { s with toks := t }) → wpAny (model X.prog X.w) A (call (.builtin "isinstance") [.str b u, .type n]) Q E s)
    (h5 : ∀ {A : Around} {E : Value → Shared → Prop} {s : Shared} {Q : Value → Shared → Prop} {a : Addr} {o : Obj}, s.heap.get? a = some o → o.cls = .type "tuple" → (∀ t, Q (.bool (f .tup)) { s with toks := t }) → wpAny (model X.prog X.w) A (call (.builtin "isinstance") [.ref a, .type n]) Q E s)
    (h6 : ∀ {A : Around} {E : Value → Shared → Prop} {s : Shared} {Q : Value → Shared → Prop} {a : Addr} {o : Obj}, s.heap.get? a = some o → o.cls = .type "list" → (∀ t, Q (.bool (f .lst)) { s with toks := t }) → wpAny (model X.prog X.w) A (call (.builtin "isinstance") [.ref a, .type n]) Q E s)
    (h7 : ∀ {A : Around} {E : Value → Shared → Prop} {s : Shared} {Q : Value → Shared → Prop} {a : Addr} {o : Obj}, s.heap.get? a = some o → o.cls = .type "dict" → (∀ t, Q (.bool (f .dic)) { s with toks := t }) → wpAny (model X.prog X.w) A (call (.builtin "isinstance") [.ref a, .type n]) Q E s) :
    CallR X (.builtin "isinstance") (rIsi X.K n f) := by
  intro pins s σ H xs us Q I r h
  obtain ⟨x, g, rfl, e, q⟩ := h
  obtain ⟨u, w, rfl, rx, rw'⟩ := vals2 r
  cases rw'
  have fin : ∀ k : Bool, Q (.bl k) H → ∀ t, EP X pins σ Q (.bool k) { s with toks := t } := fun k q t => ⟨.bl k, H, I.tok t, rfl, q⟩
  cases x with
  | non => cases g <;> first | exact (show False from e).elim | (cases rx; exact h1 (fin _ q))
  | bl b => cases g <;> first | exact (show False from e).elim | (cases rx; exact h2 (fin _ q))
  | int i => cases g <;> first | exact (show False from e).elim | (obtain ⟨t, rfl⟩ := rx; exact h3 (fin _ q))
  | str y => cases g <;> first | exact (show False from e).elim | (obtain ⟨t, rfl⟩ := rx; exact h4 (fin _ q))
  | ref a =>
    cases rx
    cases g with
    | tup =>
      obtain ⟨xs, hx⟩ := (show ∃ xs, SqT X.K H a xs from e)
      obtain ⟨its, _, ⟨o, ho, hc, _⟩, _⟩ := I.tuple hx
      exact h5 ho hc (fin _ q)
    | lst =>
      obtain ⟨xs, hx⟩ := (show ∃ xs, SqL X.K H a xs from e)
      obtain ⟨its, _, ⟨o, n, ho, hc, _⟩, _⟩ := I.list hx
      exact h6 ho hc (fin _ q)
    | dic =>
      obtain ⟨kvs, hx⟩ := (show ∃ kvs, H a = some (.dK kvs) from e)
      obtain ⟨_, _, vs, _, o, es, ep, ho, hc, _⟩ := (show ObjOk X.prog X.w H s.heap a (.dK kvs) from I.hok a _ hx)
      exact h7 ho hc.1 (fin _ q)
    | non => exact (show False from e).elim
    | bl => exact (show False from e).elim
    | int => exact (show False from e).elim
    | str => exact (show False from e).elim
  | _ => exact (show False from e).elim
theorem isi_int : CallR X (.builtin "isinstance") (rIsi X.K "int" Tg.isInt) := isi_of (fun q => IsiPair.NoneType_int (q _)) (fun q => IsiPair.bool_int (q _)) (fun q => IsiPair.int_int (q _)) (fun q => IsiPair.str_int (q _))
  (fun ho hc q => call_isinstance (isinstance_false_tuple (by decide) PySem.F.isi_meta_int PySem.F.sub_tuple_int) ⟨⟨_, ho, hc⟩, q _⟩) (fun ho hc q => call_isinstance (isinstance_false_list (by decide) PySem.F.isi_meta_int PySem.F.sub_list_int) ⟨⟨_, ho, hc⟩, q _⟩) (fun ho hc q => call_isinstance (isinstance_false_dict (by decide) PySem.F.isi_meta_int PySem.F.sub_dict_int) ⟨⟨_, ho, hc⟩, q _⟩)
theorem isi_bool : CallR X (.builtin "isinstance") (rIsi X.K "bool" Tg.isBool) := isi_of (fun q => IsiPair.NoneType_bool (q _)) (fun q => IsiPair.bool_bool (q _)) (fun q => IsiPair.int_bool (q _)) (fun q => IsiPair.str_bool (q _))
  (fun ho hc q => call_isinstance (isinstance_false_tuple (by decide) PySem.F.isi_meta_bool PySem.F.sub_tuple_bool) ⟨⟨_, ho, hc⟩, q _⟩) (fun ho hc q => call_isinstance (isinstance_false_list (by decide) PySem.F.isi_meta_bool PySem.F.sub_list_bool) ⟨⟨_, ho, hc⟩, q _⟩) (fun ho hc q => call_isinstance (isinstance_false_dict (by decide) PySem.F.isi_meta_bool PySem.F.sub_dict_bool) ⟨⟨_, ho, hc⟩, q _⟩)
theorem isi_str : CallR X (.builtin "isinstance") (rIsi X.K "str" Tg.isStr) := isi_of (fun q => IsiPair.NoneType_str (q _)) (fun q => IsiPair.bool_str (q _)) (fun q => IsiPair.int_str (q _)) (fun q => IsiPair.str_str (q _))
  (fun ho hc q => call_isinstance (isinstance_false_tuple (by decide) PySem.F.isi_meta_str PySem.F.sub_tuple_str) ⟨⟨_, ho, hc⟩, q _⟩) (fun ho hc q => call_isinstance (isinstance_false_list (by decide) PySem.F.isi_meta_str PySem.F.sub_list_str) ⟨⟨_, ho, hc⟩, q _⟩) (fun ho hc q => call_isinstance (isinstance_false_dict (by decide) PySem.F.isi_meta_str PySem.F.sub_dict_str) ⟨⟨_, ho, hc⟩, q _⟩)
theorem isi_tuple : CallR X (.builtin "isinstance") (rIsi X.K "tuple" Tg.isTup) := isi_of (fun q => IsiPair.NoneType_tuple (q _)) (fun q => IsiPair.bool_tuple (q _)) (fun q => IsiPair.int_tuple (q _)) (fun q => IsiPair.str_tuple (q _))
  (fun ho hc q => call_isinstance (isinstance_true (Tx := "tuple") PySem.F.isi_meta_tuple PySem.F.sub_tuple_tuple) ⟨⟨_, ho, hc⟩, q _⟩) (fun ho hc q => call_isinstance (isinstance_false_list (by decide) PySem.F.isi_meta_tuple PySem.F.sub_list_tuple) ⟨⟨_, ho, hc⟩, q _⟩) (fun ho hc q => call_isinstance (isinstance_false_dict (by decide) PySem.F.isi_meta_tuple PySem.F.sub_dict_tuple) ⟨⟨_, ho, hc⟩, q _⟩)
theorem pe_isi {e : Expr} {te : TE} {n : Str} {T : String} {f : Tg → Bool} {p p2 pos : Pos} (hc : CallR X (.builtin "isinstance") (rIsi X.K T f)) (hg : Gl X "isinstance") (hg2 : Gl X n) (hm : X.mg "isinstance" = none) (hm2 : X.mg n = none) (hb : bootBuiltins n = some (.type T)) (he : PE X e te)
    (hn : n ≠ "__name__" := by decide) (hd : (n == ("__debug__" : Str)) = false := by decide)
    (hs1 : starEach [e, .Name n p2] X.env = (false, eval e X.env) :: starEach [.Name n p2] X.env := by rfl) (hs2 : starEach [.Name n p2] X.env = (false, eval (.Name n p2) X.env) :: starEach [] X.env := by rfl)
    (hpl : (backTo pos (starEach [.Name n p2] X.env)).any (·.1) = false := by rfl) :
    PE X (.Call (.Name "isinstance" p) [e, .Name n p2] [] pos) (tCB (rIsi X.K T f) (tCons te (tCons (tC (.ty T)) tNil))) :=
  pe_callB hc hg hm bt_isinstance (pa_cons he (pa_cons (pe_bltn (v := .ty T) hg2 hm2 hb rfl hn hd) pa_nil hs2) hs1) (by decide) (by decide) hs1 hpl
end

noncomputable def Itr3 (lo c : Int) (n : Nat) : It := ⟨fun i _ => i < n, fun i H x H' => H' = H ∧ x = .int (lo + (i : Nat) * c), fun i _ => n ≤ i⟩
noncomputable def rngN (i j c : Int) : Nat := (Builtin.Range.rangeSize i j c).toNat
noncomputable def iRng3 (ta : TA) : TI := fun σ H R => ta σ H fun vs H1 => ∃ i j c : Int, vs = [.int i, .int j, .int c] ∧ 0 < c ∧ c < 1073741824 ∧ Builtin.Range.small i j c = true ∧ R (Itr3 i c (rngN i j c)) H1
section
variable {X : Cx} {tg : Expr}
end
theorem Same.new {H : Hp} {p : Addr} (h : H p = none) (o : HO) : Same H (upd H p o) := fun b u q => by rw [upd_ne (ne_of_none q h)]; exact q
theorem Same.tup {K : PySem.W.Frag} {H H' : Hp} {a : Addr} {xs : List V} (e : Same H H') (h : SqT K H a xs) : SqT K H' a xs := by
  rcases h with (h | ⟨o, h⟩) | h
  · exact .inl (.inl (e _ _ h))
  · exact .inl (.inr ⟨o, e _ _ h⟩)
  · exact .inr h
section
variable {X : Cx}
end
end L2

namespace L2
open PySem PySem.Spec PyProof.Rows

section
variable {P : Program} {w : World} {K : PySem.W.Frag} {mg : Str → Option Value} {base : Heap} {N : List Str} {qual : Str} {scope : Scope} {f : Addr} {cd : Value} {A : Around} {outer : List Env} {s : Shared} {H : Hp} {E : XK}
  {pins : List (Addr × Obj)} {σ : St} {H1 : Hp} {s1 : Shared}
end

section
variable {X : Cx} {E : XK} {x : Str} {np cpos pos : Pos} {e0 : Expr} {es : List Expr} {t : TA} {C : Addr}
end

section
variable {X : Cx} {pins : List (Addr × Obj)} {σ : St} {H H' : Hp} {s s' : Shared}
end
section
variable {X : Cx} {pins : List (Addr × Obj)} {σ : St} {H : Hp} {s s' : Shared} {E : XK} {ex : Value} {x : Str} {T : Addr} {np hpos : Pos} {b0 : Stmt} {suite : List Stmt} {ts : TS} {D : Ends} {Q0 : Hp → Prop}
end
section
variable {X : Cx} {k : Nat} {f : Addr} {fd : FuncData} {ps : List Str} {sp : Sp} {dvs : List V} {ds : List Value} {fx x cx : Str} {p cpos px apos np hpos pos : Pos} {e : Expr} {es : List Expr} {t : TA} {T : Addr} {b0 : Stmt} {suite : List Stmt} {ts : TS} {i : Nat}
end
end L2

namespace L2
open PySem PySem.Spec PyProof.Rows

section
variable {prog : Program} {w : World} {A : Around} {R : Result → Shared → Prop} {s : Shared}
abbrev NB (prog : Program) (w : World) (A : Around) (env : Env) (R : Result → Shared → Prop) : Value → Shared → Prop := notedBy (model prog w) A env fun e s' => R (.error e) s'
theorem comp_loop {elt tg iter : Expr} {scope : Scope} {pos : Pos} {itv acc : Value} {env : Env} (J : Nat → Shared → Prop)
    (turn : ∀ n s, J n s → wpAny (model prog w) A (pyNext itv) (fun r s1 => match r with
      | none => R (.ok .next) s1
      | some v => wpAny (model prog w) A (letOwnedTupleGo tg itv v) (fun _ s2 => wpAny (model prog w) A (assign tg env v) (fun _ s3 => wpAny (model prog w) A (eval elt env) (fun x s4 =>
          wpAny (model prog w) A (call (.builtin "list.append") [acc, x]) (fun _ s5 => ∃ m, m < n ∧ J m s5) (NB prog w A env R) s4) (NB prog w A env R) s3) (NB prog w A env R) s2) (NB prog w A env R) s1) (NB prog w A env R) s)
    (n : Nat) (h : J n s) : codeAny (model prog w) A (.compLoop (.ListComp elt [⟨tg, iter, [], 0⟩] scope pos) 0 itv acc env) R s := by
  refine codeAny_loop rfl J (fun n s hJ => ?_) n h
  show wpAny _ _ ((compTurn (.ListComp elt [⟨tg, iter, [], 0⟩] scope pos) 0 itv acc env).onRaise (fun x => do noteFrame x env; theTreesLotGoes x)) _ _ s
  refine wpAny_noted ?_
  rw [compTurn_list1]
  refine wpAny_bind (wpAny_standAt (wpAny_bind (wpAny_mono (turn n s hJ) (fun r s1 z => ?_) fun _ _ q => q)))
  match r, z with
  | none, z => exact wpAny_pure z
  | some v, z =>
    exact wpAny_bind (wpAny_mono z (fun _ s2 z => wpAny_bind (wpAny_mono z (fun _ s3 z => wpAny_bind (wpAny_bind (wpAny_mono z (fun x s4 z =>
      wpAny_bind (wpAny_mono z (fun _ s5 z => wpAny_pure (wpAny_pure ⟨rfl, z⟩)) fun _ _ q => q)) fun _ _ q => q))) fun _ _ q => q)) fun _ _ q => q)
end

theorem closure_from {env : Env} : ∀ (names : List (Str × NameKind)) (acc : List (Str × Addr)), (∀ y ∈ names, y.2 = .free → ∃ c, env.cells.lookup y.1 = some c) → (∀ x c, acc.lookup x = some c → env.cells.lookup x = some c) →
    ∃ cl, (forIn names acc (fun (x : Str × NameKind) cs => if (x.2 == NameKind.free) = true then (do let __do_lift ← cellOf env x.1; pure (ForInStep.yield ((x.1, __do_lift) :: cs))) else pure (ForInStep.yield cs)) : Sem (List (Str × Addr))) = pure cl ∧
      (∀ x c, cl.lookup x = some c → env.cells.lookup x = some c) ∧ (∀ x, (∃ c, acc.lookup x = some c) → ∃ c, cl.lookup x = some c) ∧ ∀ y ∈ names, y.2 = .free → ∃ c, cl.lookup y.1 = some c
  | [], acc, _, ha => ⟨acc, rfl, ha, fun _ h => h, fun _ h => nomatch h⟩
  | y :: r, acc, hn, ha => by
    by_cases hf : y.2 = .free
    · obtain ⟨c, hc⟩ := hn y List.mem_cons_self hf
      obtain ⟨cl, e, h1, h2, h3⟩ := closure_from r ((y.1, c) :: acc) (fun z hz => hn z (List.mem_cons_of_mem _ hz)) (fun x d e => by
        rw [List.lookup_cons] at e
        cases q : x == y.1 with
        | true => rw [q] at e; cases e; rw [eq_of_beq q]; exact hc
        | false => rw [q] at e; exact ha x d e)
      refine ⟨cl, ?_, h1, fun x ⟨d, hd⟩ => h2 x ?_, fun z hz zf => ?_⟩
      · rw [List.forIn_cons, if_pos (by rw [hf]; rfl)]
        have ec : cellOf env y.1 = pure c := by unfold cellOf; rw [hc]
        rw [ec]
        exact e
      · rw [List.lookup_cons]
        cases q : x == y.1 with
        | true => exact ⟨c, rfl⟩
        | false => exact ⟨d, hd⟩
      · rcases List.mem_cons.mp hz with z1 | z1
        · subst z1
          exact h2 z.1 ⟨c, by rw [List.lookup_cons, beq_self_eq_true]⟩
        · exact h3 z z1 zf
    · obtain ⟨cl, e, h1, h2, h3⟩ := closure_from r acc (fun z hz => hn z (List.mem_cons_of_mem _ hz)) ha
      refine ⟨cl, ?_, h1, h2, fun z hz zf => ?_⟩
      · rw [List.forIn_cons, if_neg (by simpa using hf)]
        exact e
      · rcases List.mem_cons.mp hz with z1 | z1
        · subst z1; exact absurd zf hf
        · exact h3 z z1 zf
theorem closure_of {env : Env} {sc : Scope} (h : ∀ y ∈ sc.names, y.2 = .free → ∃ c, env.cells.lookup y.1 = some c) :
    ∃ cl, closureFor sc env = pure cl ∧ (∀ x c, cl.lookup x = some c → env.cells.lookup x = some c) ∧ ∀ y ∈ sc.names, y.2 = .free → ∃ c, cl.lookup y.1 = some c := by
  obtain ⟨cl, e, h1, _, h3⟩ := closure_from sc.names [] h (fun x c e => by simp at e)
  refine ⟨cl, ?_, h1, h3⟩
  unfold closureFor
  simp only [e]
  rfl

structure CompOk (X : Cx) (tg : Str) (sc : Scope) (fr : List (Str × Nat)) : Prop where
  kind : sc.kind = .function
  nocell : ∀ y ∈ sc.names, y.2 ≠ .cell
  locs : ∀ y ∈ sc.names, y.2 = .local → sc.names.lookup y.1 = some .local
  tgl : sc.names.lookup tg = some .local
  fre : ∀ y ∈ sc.names, y.2 = .free → X.env.scope.names.lookup y.1 = some .cell ∨ X.env.scope.names.lookup y.1 = some .free
  nd : (tg :: fr.map (·.1)).Nodup
  vis : ∀ p ∈ fr, X.N[p.2]? = some p.1 ∧ (X.env.scope.names.lookup p.1 = some .cell ∨ X.env.scope.names.lookup p.1 = some .free) ∧ sc.names.lookup p.1 = some .free
noncomputable abbrev Cx.blk (X : Cx) (Nc : List Str) (sc : Scope) (cl : List (Str × Addr)) (C : Addr) (s3 : Shared) (H3 : Hp) (fp : List Addr) : Cx :=
  { X with N := Nc, s₀ := s3, H₀ := H3, env := compEnvC sc cl C X.env, outer := X.stack, ex := fp, fn := fun _ => false, pn := [], xe := fun _ _ => False }
theorem relabel_free {env : Env} : ∀ {names : List (Str × NameKind)} {x : Str} {k : NameKind}, (∀ y ∈ names, y.2 ≠ .cell) → (k = .cell ∨ k = .free) →
    (names.map fun (n, k) => if (k == NameKind.free && env.scope.kind == .function && env.kindOf n == some .cell) then (n, NameKind.cell) else (n, k)).lookup x = some k → ∃ y ∈ names, y.1 = x ∧ y.2 = .free
  | [], _, _, _, _, e => by simp at e
  | (n, k') :: r, x, k, hn, hk, e => by
    have ih := @relabel_free env r x k (fun y hy => hn y (List.mem_cons_of_mem _ hy)) hk
    rw [List.map_cons] at e
    by_cases hc : (k' == NameKind.free && env.scope.kind == .function && env.kindOf n == some .cell) = true
    · simp only [hc, if_true, List.lookup_cons] at e
      cases q : x == n with
      | true =>
        have hf : k' = .free := by
          simp only [Bool.and_eq_true, beq_iff_eq] at hc
          exact hc.1.1
        exact ⟨(n, k'), List.mem_cons_self, (eq_of_beq q).symm, hf⟩
      | false =>
        rw [q] at e
        obtain ⟨y, h1, h2⟩ := ih e
        exact ⟨y, List.mem_cons_of_mem _ h1, h2⟩
    · simp only [hc, Bool.false_eq_true, if_false, List.lookup_cons] at e
      cases q : x == n with
      | true =>
        rw [q] at e
        have ek : k' = k := Option.some.inj e
        rcases hk with z | z
        · exact absurd (ek.trans z) (hn (n, k') List.mem_cons_self)
        · exact ⟨(n, k'), List.mem_cons_self, (eq_of_beq q).symm, ek.trans z⟩
      | false =>
        rw [q] at e
        obtain ⟨y, h1, h2⟩ := ih e
        exact ⟨y, List.mem_cons_of_mem _ h1, h2⟩
theorem relabel_seen {env : Env} : ∀ {names : List (Str × NameKind)} {x : Str}, names.lookup x = some .free →
    (names.map fun (n, k) => if (k == NameKind.free && env.scope.kind == .function && env.kindOf n == some .cell) then (n, NameKind.cell) else (n, k)).lookup x = some .cell ∨
    (names.map fun (n, k) => if (k == NameKind.free && env.scope.kind == .function && env.kindOf n == some .cell) then (n, NameKind.cell) else (n, k)).lookup x = some .free
  | [], _, e => by simp at e
  | (n, k') :: r, x, e => by
    have ih := @relabel_seen env r x
    rw [List.map_cons]
    rw [List.lookup_cons] at e
    by_cases hc : (k' == NameKind.free && env.scope.kind == .function && env.kindOf n == some .cell) = true
    · simp only [hc, if_true, List.lookup_cons]
      cases q : x == n with
      | true => exact .inl rfl
      | false => rw [q] at e; exact ih e
    · simp only [hc, Bool.false_eq_true, if_false, List.lookup_cons]
      cases q : x == n with
      | true => rw [q] at e; exact .inr e
      | false => rw [q] at e; exact ih e
section
variable {X : Cx} {pins : List (Addr × Obj)} {σ : St} {H : Hp} {s3 s4 : Shared} {tg : Str} {sc : Scope} {fr : List (Str × Nat)} {fp : List Addr} {cl : List (Str × Addr)}
noncomputable def inSt (σ : St) (fr : List (Str × Nat)) : St := fr.map fun p => (σ[p.2]?).join
theorem blk_start (ok : CompOk X tg sc fr) (I : Inv X pins σ H s3) (hf : ∀ b ∈ fp, FpOk X pins H b) (hfo : ∀ b ∈ fp, ∃ o, s3.heap.get? b = some o) (hk : ∀ x c, cl.lookup x = some c → X.env.cells.lookup x = some c) (hc : ∀ y ∈ sc.names, y.2 = .free → ∃ c, cl.lookup y.1 = some c)
    {h4 : Heap} {t4 : Nat} (hns : ∃ m, h4.Ns s3.heap.objs.size m) (hkeep : ∀ b o, s3.heap.get? b = some o → h4.get? b = some o) :
    Inv (X.blk (tg :: fr.map (·.1)) sc cl s3.heap.objs.size s3 H fp) [] (none :: inSt σ fr) H { s3 with heap := h4, toks := t4 } := by
  have hasc : ∀ x, ((relabel sc X.env).names.lookup x = some .cell ∨ (relabel sc X.env).names.lookup x = some .free) → ∃ c, cl.lookup x = some c := fun x hx => by
    obtain ⟨y, h1, h2, h3⟩ : ∃ y ∈ sc.names, y.1 = x ∧ y.2 = .free := by
      rcases hx with z | z
      · exact relabel_free ok.nocell (.inl rfl) z
      · exact relabel_free ok.nocell (.inr rfl) z
    subst h2
    exact hc y h1 h3
  have cell4 : ∀ x c, cl.lookup x = some c → ∀ v, s3.heap.IsCell c v → h4.IsCell c v := fun x c _ v ⟨o, ho, hd⟩ => ⟨o, hkeep c o ho, hd⟩
  have fresh : H s3.heap.objs.size = none := I.hok.fresh (Nat.le_refl _)
  refine ⟨⟨I.mod, ok.kind, I.ok.glob, I.ok.blt, Nat.le_refl _, fun x y c e1 e2 => I.ok.inj x y c (hk x c e1) (hk y c e2), hasc, (fun x c e => nomatch e), I.ok.hd, I.ok.frames, .inl rfl, fun b hb => ?_, I.bs, Nat.le_trans I.ok.bsz I.sz, fun b o e hb => ?_, fun b hb z => ?_, I.stack, I.stkFree⟩,
    rfl, I.bare, Un.kept hkeep, ?_, fun x c e => ?_, fresh, fun x c e => I.freeC x c (hk x c e), (fun p hp => nomatch hp), I.hok.kept hkeep, ?_⟩
  · obtain ⟨f0, f1, f2, f3, f4, f5⟩ := hf b hb
    refine ⟨fun z => ?_, fun x c e => f4 x c (hk x c e)⟩
    obtain ⟨o, eo⟩ := hfo b hb
    have z' : b = s3.heap.objs.size := z
    rw [z'] at eo
    exact absurd (Heap.lt_size eo) (Nat.lt_irrefl _)
  · obtain ⟨f0, f1, f2, f3, f4, f5⟩ := hf b hb
    rcases f3 with z | z
    · exact I.ok.noex b o e z
    · exact absurd (Nat.lt_of_lt_of_le (Nat.lt_of_lt_of_le (Heap.lt_size e) I.ok.bsz) z) (Nat.lt_irrefl _)
  · obtain ⟨f0, f1, f2, f3, f4, f5⟩ := hf b hb
    rcases List.mem_cons.mp (I.stkSub b z) with q | q
    · exact f1 q
    · exact f2 q
  · obtain ⟨m, hn⟩ := hns
    obtain ⟨m0, _, hl0⟩ := I.loc
    refine ⟨m, hn, fun i x v e1 e2 _ => ?_⟩
    cases i with
    | zero => cases e2
    | succ i =>
      have e2' : ((fr.map fun p => (σ[p.2]?).join))[i]? = some (some v) := e2
      have e1' : (fr.map (·.1))[i]? = some x := e1
      rw [List.getElem?_map] at e1' e2'
      cases q : fr[i]? with
      | none => rw [q] at e1'; cases e1'
      | some p =>
        rw [q] at e1' e2'
        have ex : p.1 = x := Option.some.inj e1'
        have ev : (σ[p.2]?).join = some v := Option.some.inj e2'
        obtain ⟨g1, g2, g3⟩ := ok.vis p (List.mem_of_getElem? q)
        have ev' : σ[p.2]? = some (some v) := by
          cases z : σ[p.2]? with
          | none => rw [z] at ev; cases ev
          | some w => rw [z] at ev; exact congrArg some ev
        have gv : Vis X.env.scope p.1 := g2.elim (fun z => .inr (.inl z)) fun z => .inr (.inr z)
        obtain ⟨u, ru, lk⟩ := hl0 p.2 p.1 v g1 ev' gv
        subst ex
        refine ⟨u, ru, .inr ⟨relabel_seen g3, ?_⟩⟩
        rcases lk with ⟨k1, _⟩ | ⟨_, c, ec, hcell⟩
        · rcases g2 with z | z
          · have k2 : X.env.scope.names.lookup p.1 = some .local := k1
            rw [z] at k2; cases k2
          · have k2 : X.env.scope.names.lookup p.1 = some .local := k1
            rw [z] at k2; cases k2
        · obtain ⟨c', ec'⟩ := hasc p.1 (relabel_seen g3)
          have e3 := hk _ _ ec'
          rw [ec] at e3
          cases e3
          exact ⟨c, ec', cell4 _ c ec' _ hcell⟩
  · obtain ⟨v, z⟩ := I.cell x c (hk x c e)
    exact ⟨v, cell4 x c e v z⟩
  · show (none :: inSt σ fr).length = (tg :: fr.map (·.1)).length
    simp [inSt]
end

noncomputable def tLC (fr : List (Str × Nat)) (wi : TI) (te : TE) : TE := fun σ H Q => wi σ H fun J H1 => ∀ acc, H1 acc = none → ∃ W : Nat → Nat → Hp → Prop, (∃ m, W 0 m (upd H1 acc (.lst []))) ∧ ∀ i m H2, W i m H2 →
  (J.stop i H2 ∧ Q (.ref acc) H2) ∨ (J.go i H2 ∧ ∀ x H3, J.yld i H2 x H3 → te (some x :: inSt σ fr) H3 fun v H4 => ∃ xs m', H4 acc = some (.lst xs) ∧ xs.length < sizeLine ∧ m' < m ∧ W (i + 1) m' (upd H4 acc (.lst (xs ++ [v]))))
section
variable {X : Cx} {elt iter : Expr} {x : Str} {px pos : Pos} {sc : Scope} {fr : List (Str × Nat)} {wi : TI} {te : TE}
theorem pe_lc (hc : X.calm = true) (ok : CompOk X x sc fr) (hi : PI X (.Name x px) iter wi) (he : ∀ cl C s3 H3 fp, PE (X.blk (x :: fr.map (·.1)) sc cl C s3 H3 fp) elt te) (hs : ∀ x, foldedSetIterable iter X.env x = pure x := by intro _; rfl) :
    PE X (.ListComp elt [⟨.Name x px, iter, [], 0⟩] sc pos) (tLC fr wi te) := by
  intro pins s σ H Q I h
  obtain ⟨cl, ecl, hk, hcx⟩ := closure_of (env := X.env) (sc := sc) (fun y hy yf => I.ok.has y.1 (ok.fre y hy yf))
  rw [eval_ListComp]
  refine wpAny_comprehension_free (use := none) rfl hs ecl ok.kind ok.locs (thn (hi pins s σ H _ I h) fun v s1 h1 => thn h1 fun itv s2 h2 => ?_)
  obtain ⟨it, fp, tn, J, H2, e, I2, T, st2, f2, q⟩ := h2
  subst e
  have hacc : H2 s2.heap.objs.size = none := I2.hok.fresh (Nat.le_refl _)
  obtain ⟨W, ⟨m0, w0⟩, turn⟩ := q s2.heap.objs.size hacc
  refine wpAny_newObj_type ?_
  have I3 := I2.laid (a := s2.heap.objs.size) (o := .lst []) (h' := s2.heap.push { cls := .type "list", data := .seq ([] : List Value).toArray }) (t' := s2.toks) (fun b u e => Heap.get?_push_of_some _ e) (Nat.le_refl _) ⟨Nat.zero_le _, [], 0, .nil, Heap.get?_push_size _ rfl⟩
  refine wpAny_newFunctionEnv ok.nocell (by intro y hy; simp at hy) (fun h4 hns4 hsb4 => ?_) ok.kind
  generalize hs3 : ({ s2 with heap := s2.heap.push { cls := .type "list", data := .seq ([] : List Value).toArray } } : Shared) = s3 at *
  have keep4 : ∀ b o, s3.heap.get? b = some o → h4.get? b = some o := fun b o e => hsb4.extBut b o (Nat.ne_of_lt (Heap.lt_size e)) (Heap.get?_push_of_some _ e)
  have keep3 : ∀ b o, s2.heap.get? b = some o → s3.heap.get? b = some o := fun b o e => by rw [← hs3]; exact Heap.get?_push_of_some _ e
  have hfo : ∀ b ∈ fp, ∃ o, s3.heap.get? b = some o := fun b hb => by
    obtain ⟨o, eo, _⟩ := T.obj 0 _ st2 b hb
    exact ⟨o, keep3 b o eo⟩
  have f3 : ∀ b ∈ fp, FpOk X pins (upd H2 s2.heap.objs.size (.lst [])) b := fun b hb => by
    obtain ⟨o, eo, _⟩ := T.obj 0 _ st2 b hb
    exact ⟨by rw [upd_ne (Nat.ne_of_lt (Heap.lt_size eo))]; exact (f2 b hb).1, (f2 b hb).2⟩
  have I4 := blk_start (t4 := s3.toks + ([] : List (Str × Value)).length) ok I3 f3 hfo hk hcx ⟨_, hns4⟩ keep4
  have st4 : tn 0 h4 := T.keep 0 s2.heap h4 st2 fun b hb o e => keep4 b o (keep3 b o e)
  have stat : ∀ {H' : Hp}, (∀ b ∈ fp, H' b = none) → ∀ b ∈ fp, FpOk (X.blk (x :: fr.map (·.1)) sc cl s3.heap.objs.size s3 (upd H2 s2.heap.objs.size (.lst [])) fp) [] H' b := fun hn b hb =>
    ⟨hn b hb, (I4.ok.exf b hb).1, I4.ok.exfs b hb, .inl hb, (I4.ok.exf b hb).2, fun p hp => nomatch hp⟩
  have lk : (relabel sc X.env).names.lookup x = some .local := lookup_relabel_local ok.tgl
  have loop : codeAny (model X.prog X.w) X.A (.compLoop (.ListComp elt [⟨.Name x px, iter, [], 0⟩] sc pos) 0 (.ref it) (.ref s2.heap.objs.size) (compEnvC sc cl s3.heap.objs.size X.env))
      (compPost (model X.prog X.w) X.A X.xe none (EP X pins σ Q) (.ref s2.heap.objs.size) s3.heap.objs.size) { s3 with heap := h4, toks := s3.toks + ([] : List (Str × Value)).length } := by
    refine comp_loop (fun n s' => ∃ i x0 H', Inv (X.blk (x :: fr.map (·.1)) sc cl s3.heap.objs.size s3 (upd H2 s2.heap.objs.size (.lst [])) fp) [] (x0 :: inSt σ fr) H' s' ∧ tn i s'.heap ∧ (∀ b ∈ fp, H' b = none) ∧ W i n H') ?_ m0
      ⟨0, none, _, I4, st4, fun b hb => (f3 b hb).1, w0⟩
    rintro n s5 ⟨i, x0, H5, I5, st5, fr5, w5⟩
    rcases turn i n H5 w5 with ⟨stop, qq⟩ | ⟨go, step⟩
    · refine thn (T.done (X.blk (x :: fr.map (·.1)) sc cl s3.heap.objs.size s3 (upd H2 s2.heap.objs.size (.lst [])) fp) rfl rfl rfl hc i [] s5 _ H5 _ I5 (stat fr5) st5 stop) fun r s6 ⟨hr, I6⟩ => ?_
      subst hr
      obtain ⟨m6, hn6, _⟩ := I6.loc
      refine ⟨m6, hn6, fun h7 hsb7 => ?_⟩
      have ne : ∀ b o, s3.heap.get? b = some o → b ≠ s3.heap.objs.size := fun b o e => Nat.ne_of_lt (Heap.lt_size e)
      have u6 : Un (frs X.stack) fp (upd H2 s2.heap.objs.size (.lst [])) H5 s3.heap s6.heap := I6.base
      have u7 : Un (frs X.stack) fp (upd H2 s2.heap.objs.size (.lst [])) H5 s3.heap h7 := {
        keep := fun b o e n hb hx => hsb7.extBut b o (ne b o e) (u6.keep b o e n hb hx)
        slot := fun b o e n hb hx => by
          obtain ⟨sl, e1⟩ := u6.slot b o e n hb hx
          exact ⟨sl, hsb7.extBut b _ (ne b o e) e1⟩
        free := u6.free
        there := fun b o e hx => by
          obtain ⟨o', e1⟩ := u6.there b o e hx
          exact ⟨o', hsb7.extBut b _ (ne b o e) e1⟩
        tups := u6.tups
        frzs := u6.frzs
        tbls := u6.tbls }
      have hok7 : HOk X.prog X.w H5 h7 := fun b u eu => (I6.hok b u eu).stay (fun c v hcx q => hsb7.extBut c v (fun z => by
        have nf := I6.free
        have z' : H5 s3.heap.objs.size = none := nf
        rw [← z] at z'
        rcases hcx with y | y
        · rw [y, eu] at z'; cases z'
        · rw [y] at z'; cases z') q) (fun _ q => q) fun _ _ q => q
      have os6 : s6.os = s3.os := I6.os
      have bare6 := I6.bare
      obtain ⟨hh, g, d, t, os'⟩ := s6
      obtain rfl : os' = s3.os := os6
      refine ⟨.ref s2.heap.objs.size, H5, ?_, rfl, qq⟩
      show Inv X pins σ H5 { s3 with heap := h7, gens := g, drawn := d, toks := t }
      exact I3.call (h' := h7) (g' := g) (d' := d) (t' := t) (ch := fp) u7 hok7 bare6 fun b hb => ⟨(f3 b hb).2.2.2.1, (f3 b hb).2.1, (f3 b hb).2.2.2.2.1, (f3 b hb).2.2.2.2.2⟩
    · refine thn (T.item (X.blk (x :: fr.map (·.1)) sc cl s3.heap.objs.size s3 (upd H2 s2.heap.objs.size (.lst [])) fp) rfl rfl rfl hc i [] s5 _ H5 _ I5 (stat fr5) st5 go) fun r s6 ⟨u, hr, h6⟩ => ?_
      subst hr
      refine thn h6 fun _ s7 ⟨y, H7, I7, r7, y7, st7, fr7⟩ => ?_
      have I7' := I7.pinned (stat fr7) (T.obj _ _ st7)
      refine wpAny_mono (pg_name (X := X.blk (x :: fr.map (·.1)) sc cl s3.heap.objs.size s3 (upd H2 s2.heap.objs.size (.lst [])) fp) (i := 0) (pos := px) ok.nd rfl (Or.inl lk) (.inr lk) _ s7 _ H7 y u (fun σ' H' => σ' = some y :: inSt σ fr ∧ H' = H7) I7' r7 ⟨rfl, rfl⟩) (fun _ s8 z => ?_) (fun e s z => (show False from z).elim)
      obtain ⟨σ8, H8, I8, e8, e8'⟩ := z
      subst e8 e8'
      refine wpAny_mono (he cl s3.heap.objs.size s3 (upd H2 s2.heap.objs.size (.lst [])) fp _ s8 _ H8 _ I8 (step y H8 y7)) (fun v s9 z => ?_) (fun e s z => (show False from z).elim)
      obtain ⟨z, H9, I9, r9, xs, m', ha, hl, hm, w9⟩ := z
      refine wpAny_mono (mt_append (X := X.blk (x :: fr.map (·.1)) sc cl s3.heap.objs.size s3 (upd H2 s2.heap.objs.size (.lst [])) fp) _ s9 _ H9 (.ref s2.heap.objs.size) [z] (.ref s2.heap.objs.size) [v] (fun _ H' => H' = upd H9 s2.heap.objs.size (.lst (xs ++ [z]))) I9 rfl (.cons r9 .nil) ⟨_, xs, z, rfl, rfl, ha, hl, rfl⟩) (fun _ s10 z => ?_) (fun e s z => (show False from z).elim)
      obtain ⟨_, H10, I10, _, e10⟩ := z
      subst e10
      refine ⟨m', hm, i + 1, some y, _, I10.unpinned, T.keep _ _ _ st7 fun b hb o e => (I10.pin (b, o) (List.mem_append_right _ (List.mem_append_right _ (mem_pinsAt hb e)))).1, fun b hb => ?_, w9⟩
      obtain ⟨o, e, d⟩ := T.obj _ _ st7 b hb
      exact (I10.pin (b, o) (List.mem_append_right _ (List.mem_append_right _ (mem_pinsAt hb e)))).2.1
  exact codeAny_compStart_list loop (T.self X.A 0 _ _ _ st4 loop)
end
end L2

namespace L2
open PySem PySem.Spec PyProof.Rows
section
variable {X : Cx}
end
noncomputable def tSetLC (iy : Nat) (fr : List (Str × Nat)) (wi : TI) (te : TE) : TS := fun D σ H => tLC fr wi te σ H fun v H' => D.nx (σ.set iy (some v)) H'
section
variable {X : Cx} {elt iter : Expr} {x : Str} {px pos : Pos} {sc : Scope} {fr : List (Str × Nat)} {wi : TI} {te : TE}
theorem ps_setLC {y : Str} {py spos : Pos} {iy : Nat} (hN : X.N.Nodup) (hi' : X.N[iy]? = some y) (hy : Loc X.env.scope y) (hc : X.calm = true) (ok : CompOk X x sc fr) (hi : PI X (.Name x px) iter wi) (he : ∀ cl C s3 H3 fp, PE (X.blk (x :: fr.map (·.1)) sc cl C s3 H3 fp) elt te) (hs : ∀ x, foldedSetIterable iter X.env x = pure x := by intro _; rfl)
    (hsw : swapsWith (.ListComp elt [⟨.Name x px, iter, [], 0⟩] sc pos) (some (.Name y py)) spos.line X.env = pure true := by rfl) (hfn : X.fn y = true ∨ X.env.scope.names.lookup y = some .local := by first | exact .inl rfl | exact .inr rfl | assumption) :
    PS X (.Assign [.Name y py] (.ListComp elt [⟨.Name x px, iter, [], 0⟩] sc pos) spos) (tSetLC iy fr wi te) := by
  intro pins s σ H D I h
  obtain ⟨cl, ecl, hk, hcx⟩ := closure_of (env := X.env) (sc := sc) (fun y hy yf => I.ok.has y.1 (ok.fre y hy yf))
  rw [exec_Assign_Name_used _ _ _ _ hsw]
  refine wpAny_bind (wpAny_standAt (wpAny_bind ?_))
  show wpAny _ X.A (do let _ ← comprehension (.ListComp elt [⟨.Name x px, iter, [], 0⟩] sc pos) sc X.env _ (newList []) false (eval iter X.env) (some (assign (.Name y py) X.env))) _ _ s
  refine wpAny_bind (wpAny_mono (wpAny_comprehension_free (use := some (assign (.Name y py) X.env)) (Q := fun _ s' => SP X pins D .next s') rfl hs ecl ok.kind ok.locs ?_) (fun _ s' z => wpAny_pure (wpAny_pure z)) fun _ _ z => z)
  refine (thn (hi pins s σ H _ I h) fun v s1 h1 => thn h1 fun itv s2 h2 => ?_)
  obtain ⟨it, fp, tn, J, H2, e, I2, T, st2, f2, q⟩ := h2
  subst e
  have hacc : H2 s2.heap.objs.size = none := I2.hok.fresh (Nat.le_refl _)
  obtain ⟨W, ⟨m0, w0⟩, turn⟩ := q s2.heap.objs.size hacc
  refine wpAny_newObj_type ?_
  have I3 := I2.laid (a := s2.heap.objs.size) (o := .lst []) (h' := s2.heap.push { cls := .type "list", data := .seq ([] : List Value).toArray }) (t' := s2.toks) (fun b u e => Heap.get?_push_of_some _ e) (Nat.le_refl _) ⟨Nat.zero_le _, [], 0, .nil, Heap.get?_push_size _ rfl⟩
  refine wpAny_newFunctionEnv ok.nocell (by intro y hy; simp at hy) (fun h4 hns4 hsb4 => ?_) ok.kind
  generalize hs3 : ({ s2 with heap := s2.heap.push { cls := .type "list", data := .seq ([] : List Value).toArray } } : Shared) = s3 at *
  have keep4 : ∀ b o, s3.heap.get? b = some o → h4.get? b = some o := fun b o e => hsb4.extBut b o (Nat.ne_of_lt (Heap.lt_size e)) (Heap.get?_push_of_some _ e)
  have keep3 : ∀ b o, s2.heap.get? b = some o → s3.heap.get? b = some o := fun b o e => by rw [← hs3]; exact Heap.get?_push_of_some _ e
  have hfo : ∀ b ∈ fp, ∃ o, s3.heap.get? b = some o := fun b hb => by
    obtain ⟨o, eo, _⟩ := T.obj 0 _ st2 b hb
    exact ⟨o, keep3 b o eo⟩
  have f3 : ∀ b ∈ fp, FpOk X pins (upd H2 s2.heap.objs.size (.lst [])) b := fun b hb => by
    obtain ⟨o, eo, _⟩ := T.obj 0 _ st2 b hb
    exact ⟨by rw [upd_ne (Nat.ne_of_lt (Heap.lt_size eo))]; exact (f2 b hb).1, (f2 b hb).2⟩
  have I4 := blk_start (t4 := s3.toks + ([] : List (Str × Value)).length) ok I3 f3 hfo hk hcx ⟨_, hns4⟩ keep4
  have st4 : tn 0 h4 := T.keep 0 s2.heap h4 st2 fun b hb o e => keep4 b o (keep3 b o e)
  have stat : ∀ {H' : Hp}, (∀ b ∈ fp, H' b = none) → ∀ b ∈ fp, FpOk (X.blk (x :: fr.map (·.1)) sc cl s3.heap.objs.size s3 (upd H2 s2.heap.objs.size (.lst [])) fp) [] H' b := fun hn b hb =>
    ⟨hn b hb, (I4.ok.exf b hb).1, I4.ok.exfs b hb, .inl hb, (I4.ok.exf b hb).2, fun p hp => nomatch hp⟩
  have lk : (relabel sc X.env).names.lookup x = some .local := lookup_relabel_local ok.tgl
  have loop : codeAny (model X.prog X.w) X.A (.compLoop (.ListComp elt [⟨.Name x px, iter, [], 0⟩] sc pos) 0 (.ref it) (.ref s2.heap.objs.size) (compEnvC sc cl s3.heap.objs.size X.env))
      (compPost (model X.prog X.w) X.A X.xe (some (assign (.Name y py) X.env)) (fun _ s' => SP X pins D .next s') (.ref s2.heap.objs.size) s3.heap.objs.size) { s3 with heap := h4, toks := s3.toks + ([] : List (Str × Value)).length } := by
    refine comp_loop (fun n s' => ∃ i x0 H', Inv (X.blk (x :: fr.map (·.1)) sc cl s3.heap.objs.size s3 (upd H2 s2.heap.objs.size (.lst [])) fp) [] (x0 :: inSt σ fr) H' s' ∧ tn i s'.heap ∧ (∀ b ∈ fp, H' b = none) ∧ W i n H') ?_ m0
      ⟨0, none, _, I4, st4, fun b hb => (f3 b hb).1, w0⟩
    rintro n s5 ⟨i, x0, H5, I5, st5, fr5, w5⟩
    rcases turn i n H5 w5 with ⟨stop, qq⟩ | ⟨go, step⟩
    · refine thn (T.done (X.blk (x :: fr.map (·.1)) sc cl s3.heap.objs.size s3 (upd H2 s2.heap.objs.size (.lst [])) fp) rfl rfl rfl hc i [] s5 _ H5 _ I5 (stat fr5) st5 stop) fun r s6 ⟨hr, I6⟩ => ?_
      subst hr
      obtain ⟨m6, hn6, _⟩ := I6.loc
      have u6 : Un (frs X.stack) fp (upd H2 s2.heap.objs.size (.lst [])) H5 s3.heap s6.heap := I6.base
      have hok6 : HOk X.prog X.w H5 s6.heap := I6.hok
      have os6 : s6.os = s3.os := I6.os
      have bare6 := I6.bare
      have free6 : H5 s3.heap.objs.size = none := I6.free
      have IX : Inv X pins σ H5 s6 := by
        obtain ⟨hh, g, d, t, os'⟩ := s6
        obtain rfl : os' = s3.os := os6
        show Inv X pins σ H5 { s3 with heap := hh, gens := g, drawn := d, toks := t }
        exact I3.call (h' := hh) (g' := g) (d' := d) (t' := t) (ch := fp) u6 hok6 bare6 fun b hb => ⟨(f3 b hb).2.2.2.1, (f3 b hb).2.1, (f3 b hb).2.2.2.2.1, (f3 b hb).2.2.2.2.2⟩
      obtain ⟨oC, es, ep, hoC, hdC, rC⟩ := hn6
      have hfC : FpOk X pins H5 s3.heap.objs.size := I3.fpOk (Nat.le_refl _) free6
      have IX' : Inv X (pins ++ [(s3.heap.objs.size, oC)]) σ H5 s6 := IX.pins_of fun p hp => by
        rcases List.mem_append.mp hp with z | z
        · exact IX.pin p (List.mem_append_right _ z)
        · have z' := List.mem_singleton.mp z
          subst z'
          exact ⟨hoC, free6, hfC.2.1, hfC.2.2.1, fun v z => by
            have z2 : oC.data = .cell v := z
            rw [hdC] at z2; cases z2⟩
      refine thn (pg_name (X := X) (i := iy) (pos := py) hN hi' hy hfn _ s6 σ H5 (.ref s2.heap.objs.size) (.ref s2.heap.objs.size) (fun σ' H' => σ' = σ.set iy (some (.ref s2.heap.objs.size)) ∧ H' = H5) IX' rfl ⟨rfl, rfl⟩) fun _ s7 z => ?_
      obtain ⟨σ7, H7, I7, e7, e7'⟩ := z
      subst e7 e7'
      have pC := I7.pin (s3.heap.objs.size, oC) (List.mem_append_right _ (List.mem_append_right _ (List.mem_singleton.mpr rfl)))
      refine ⟨m6, ⟨oC, es, ep, pC.1, hdC, rC⟩, fun h8 hsb8 => ?_⟩
      have I7u : Inv X pins (σ.set iy (some (.ref s2.heap.objs.size))) H7 s7 := I7.unpinned
      refine ⟨_, H7, ?_, qq⟩
      exact I7u.turned (it := s3.heap.objs.size) (t' := s7.toks) (fun b o hb e => hsb8.extBut b o hb e) free6 hfC.2.1 hfC.2.2.2.1 hfC.2.2.2.2.1 hfC.2.2.2.2.2
    · refine thn (T.item (X.blk (x :: fr.map (·.1)) sc cl s3.heap.objs.size s3 (upd H2 s2.heap.objs.size (.lst [])) fp) rfl rfl rfl hc i [] s5 _ H5 _ I5 (stat fr5) st5 go) fun r s6 ⟨u, hr, h6⟩ => ?_
      subst hr
      refine thn h6 fun _ s7 ⟨y, H7, I7, r7, y7, st7, fr7⟩ => ?_
      have I7' := I7.pinned (stat fr7) (T.obj _ _ st7)
      refine wpAny_mono (pg_name (X := X.blk (x :: fr.map (·.1)) sc cl s3.heap.objs.size s3 (upd H2 s2.heap.objs.size (.lst [])) fp) (i := 0) (pos := px) ok.nd rfl (Or.inl lk) (.inr lk) _ s7 _ H7 y u (fun σ' H' => σ' = some y :: inSt σ fr ∧ H' = H7) I7' r7 ⟨rfl, rfl⟩) (fun _ s8 z => ?_) (fun e s z => (show False from z).elim)
      obtain ⟨σ8, H8, I8, e8, e8'⟩ := z
      subst e8 e8'
      refine wpAny_mono (he cl s3.heap.objs.size s3 (upd H2 s2.heap.objs.size (.lst [])) fp _ s8 _ H8 _ I8 (step y H8 y7)) (fun v s9 z => ?_) (fun e s z => (show False from z).elim)
      obtain ⟨z, H9, I9, r9, xs, m', ha, hl, hm, w9⟩ := z
      refine wpAny_mono (mt_append (X := X.blk (x :: fr.map (·.1)) sc cl s3.heap.objs.size s3 (upd H2 s2.heap.objs.size (.lst [])) fp) _ s9 _ H9 (.ref s2.heap.objs.size) [z] (.ref s2.heap.objs.size) [v] (fun _ H' => H' = upd H9 s2.heap.objs.size (.lst (xs ++ [z]))) I9 rfl (.cons r9 .nil) ⟨_, xs, z, rfl, rfl, ha, hl, rfl⟩) (fun _ s10 z => ?_) (fun e s z => (show False from z).elim)
      obtain ⟨_, H10, I10, _, e10⟩ := z
      subst e10
      refine ⟨m', hm, i + 1, some y, _, I10.unpinned, T.keep _ _ _ st7 fun b hb o e => (I10.pin (b, o) (List.mem_append_right _ (List.mem_append_right _ (mem_pinsAt hb e)))).1, fun b hb => ?_, w9⟩
      obtain ⟨o, e, d⟩ := T.obj _ _ st7 b hb
      exact (I10.pin (b, o) (List.mem_append_right _ (List.mem_append_right _ (mem_pinsAt hb e)))).2.1
  exact codeAny_compStart_list loop (T.self X.A 0 _ _ _ st4 loop)
end
end L2

namespace L2
open PySem PySem.Spec PyProof.Rows
noncomputable def compOkB (osc : Scope) (N : List Str) (tg : Str) (sc : Scope) (fr : List (Str × Nat)) : Bool :=
  decide (sc.kind = .function) && (sc.names.all fun y => decide (y.2 ≠ .cell)) && (sc.names.all fun y => decide (y.2 ≠ .local) || decide (sc.names.lookup y.1 = some .local)) && decide (sc.names.lookup tg = some .local) &&
  (sc.names.all fun y => decide (y.2 ≠ .free) || decide (osc.names.lookup y.1 = some .cell) || decide (osc.names.lookup y.1 = some .free)) && decide ((tg :: fr.map (·.1)).Nodup) &&
  (fr.all fun p => decide (N[p.2]? = some p.1) && (decide (osc.names.lookup p.1 = some .cell) || decide (osc.names.lookup p.1 = some .free)) && decide (sc.names.lookup p.1 = some .free))
theorem compOk_of {X : Cx} {tg : Str} {sc : Scope} {fr : List (Str × Nat)} {osc : Scope} {N : List Str} (ho : X.env.scope = osc) (hN : X.N = N) (h : compOkB osc N tg sc fr = true) : CompOk X tg sc fr := by
  subst ho hN
  unfold compOkB at h
  simp only [Bool.and_eq_true, decide_eq_true_eq, List.all_eq_true, Bool.or_eq_true] at h
  obtain ⟨⟨⟨⟨⟨⟨h1, h2⟩, h3⟩, h4⟩, h5⟩, h6⟩, h7⟩ := h
  refine ⟨h1, h2, fun y hy e => ?_, h4, fun y hy e => ?_, h6, fun p hp => ?_⟩
  · rcases h3 y hy with z | z
    · exact absurd e z
    · exact z
  · rcases h5 y hy with (z | z) | z
    · exact absurd e z
    · exact .inl z
    · exact .inr z
  · obtain ⟨⟨a, b⟩, c⟩ := h7 p hp
    exact ⟨a, b, c⟩
end L2

namespace L2
open PySem
end L2

namespace L2
open PySem
theorem pa_consI {X : Cx} {es : List Expr} {t : TA} {i : Int} {j} {pos : Pos} (hr : PA X es t) : PA X (.Constant (.int i) j pos :: es) (tCons (tC (.int i)) t) := pa_cons pe_int hr rfl
end L2

namespace L2
open PySem
noncomputable def intsOf : List Expr → Option (List Int)
  | [] => some []
  | .Constant (.int i) _ _ :: es => (intsOf es).map (i :: ·)
  | _ :: _ => none
noncomputable def tInts (ns : List Int) : TA := fun _ H Q => Q (ns.map V.int) H
theorem pa_ints {X : Cx} {es : List Expr} (ns : List Int) (h : intsOf es = some ns) : PA X es (tInts ns) := by
  induction es generalizing ns with
  | nil =>
    have e : ns = [] := (Option.some.inj h).symm
    subst e
    exact pa_nil
  | cons e es ih =>
    unfold intsOf at h
    split at h
    · rename_i he; cases he
    · rename_i i j pos es' he
      obtain ⟨rfl, rfl⟩ := List.cons.inj he
      cases hr : intsOf es with
      | none => rw [hr] at h; cases h
      | some ms =>
        rw [hr] at h
        have e : ns = i :: ms := (Option.some.inj h).symm
        subst e
        exact pa_consI (j := j) (pos := pos) (ih ms hr)
    · cases h
end L2

namespace L2
open PySem PySem.Spec PyProof.Rows
section
variable {prog : Program} {w : World} {A : Around} {R : Result → Shared → Prop} {s : Shared}
abbrev testsOf (ifs : List Expr) (env : Env) : Sem Bool := forIn ifs true fun c r => if r = true then do let ok ← isTrue c env (eval c env); pure (ForInStep.yield ok) else pure (ForInStep.yield r)
theorem comp_loopG {elt tg iter : Expr} {ifs : List Expr} {scope : Scope} {pos : Pos} {itv acc : Value} {env : Env} (J : Nat → Shared → Prop)
    (turn : ∀ n s, J n s → wpAny (model prog w) A (pyNext itv) (fun r s1 => match r with
      | none => R (.ok .next) s1
      | some v => wpAny (model prog w) A (letOwnedTupleGo tg itv v) (fun _ s2 => wpAny (model prog w) A (assign tg env v) (fun _ s3 => wpAny (model prog w) A (testsOf ifs env) (fun ok s4 =>
          if ok = true then wpAny (model prog w) A (eval elt env) (fun x s5 => wpAny (model prog w) A (call (.builtin "list.append") [acc, x]) (fun _ s6 => ∃ m, m < n ∧ J m s6) (NB prog w A env R) s5) (NB prog w A env R) s4
          else ∃ m, m < n ∧ J m s4) (NB prog w A env R) s3) (NB prog w A env R) s2) (NB prog w A env R) s1) (NB prog w A env R) s)
    (n : Nat) (h : J n s) : codeAny (model prog w) A (.compLoop (.ListComp elt [⟨tg, iter, ifs, 0⟩] scope pos) 0 itv acc env) R s := by
  refine codeAny_loop rfl J (fun n s hJ => ?_) n h
  show wpAny _ _ ((compTurn (.ListComp elt [⟨tg, iter, ifs, 0⟩] scope pos) 0 itv acc env).onRaise (fun x => do noteFrame x env; theTreesLotGoes x)) _ _ s
  refine wpAny_noted ?_
  rw [compTurn_list]
  refine wpAny_bind (wpAny_standAt (wpAny_bind (wpAny_mono (turn n s hJ) (fun r s1 z => ?_) fun _ _ q => q)))
  match r, z with
  | none, z => exact wpAny_pure z
  | some v, z =>
    refine wpAny_bind (wpAny_mono z (fun _ s2 z => wpAny_bind (wpAny_mono z (fun _ s3 z => wpAny_bind (wpAny_mono z (fun ok s4 z => ?_) fun _ _ q => q)) fun _ _ q => q)) fun _ _ q => q)
    cases ok with
    | true =>
      have z' := (if_pos rfl).mp z
      exact wpAny_bind (wpAny_bind (wpAny_mono z' (fun x s5 z => wpAny_bind (wpAny_mono z (fun _ s6 z => wpAny_pure (wpAny_pure ⟨rfl, z⟩)) fun _ _ q => q)) fun _ _ q => q))
    | false =>
      have z' := (if_neg Bool.false_ne_true).mp z
      exact wpAny_bind (wpAny_pure (wpAny_pure ⟨rfl, z'⟩))
end
structure CompOkG (X : Cx) (tgs : List Str) (sc : Scope) (fr : List (Str × Nat)) : Prop where
  kind : sc.kind = .function
  nocell : ∀ y ∈ sc.names, y.2 ≠ .cell
  locs : ∀ y ∈ sc.names, y.2 = .local → sc.names.lookup y.1 = some .local
  fre : ∀ y ∈ sc.names, y.2 = .free → X.env.scope.names.lookup y.1 = some .cell ∨ X.env.scope.names.lookup y.1 = some .free
  nd : (tgs ++ fr.map (·.1)).Nodup
  vis : ∀ p ∈ fr, X.N[p.2]? = some p.1 ∧ (X.env.scope.names.lookup p.1 = some .cell ∨ X.env.scope.names.lookup p.1 = some .free) ∧ sc.names.lookup p.1 = some .free
noncomputable def PIF (X : Cx) (ifs : List Expr) (t : TT) : Prop :=
  ∀ (pins : List (Addr × Obj)) (s : Shared) (σ : St) (H : Hp) (Q : Bool → Hp → Prop), Inv X pins σ H s → t σ H Q → wpAny (model X.prog X.w) X.A (testsOf ifs X.env) (TP X pins σ Q) X.xe s
noncomputable def tYes : TT := fun _ H Q => Q true H
theorem pif_nil {X : Cx} : PIF X [] tYes := fun _ _ _ H _ I h => wpAny_tests_nil ⟨H, I, h⟩
theorem pif_one {X : Cx} {c : Expr} {t : TT} (h : PT X c t) : PIF X [c] t := fun pins s σ H Q I q => wpAny_tests_one (h pins s σ H Q I q)
section
variable {X : Cx} {pins : List (Addr × Obj)} {σ : St} {H : Hp} {s3 s4 : Shared} {tgs : List Str} {sc : Scope} {fr : List (Str × Nat)} {fp : List Addr} {cl : List (Str × Addr)}
theorem blk_startG (ok : CompOkG X tgs sc fr) (I : Inv X pins σ H s3) (hf : ∀ b ∈ fp, FpOk X pins H b) (hfo : ∀ b ∈ fp, ∃ o, s3.heap.get? b = some o) (hk : ∀ x c, cl.lookup x = some c → X.env.cells.lookup x = some c) (hc : ∀ y ∈ sc.names, y.2 = .free → ∃ c, cl.lookup y.1 = some c)
    {h4 : Heap} {t4 : Nat} (hns : ∃ m, h4.Ns s3.heap.objs.size m) (hkeep : ∀ b o, s3.heap.get? b = some o → h4.get? b = some o) :
    Inv (X.blk (tgs ++ fr.map (·.1)) sc cl s3.heap.objs.size s3 H fp) [] (List.replicate tgs.length none ++ inSt σ fr) H { s3 with heap := h4, toks := t4 } := by
  have hasc : ∀ x, ((relabel sc X.env).names.lookup x = some .cell ∨ (relabel sc X.env).names.lookup x = some .free) → ∃ c, cl.lookup x = some c := fun x hx => by
    obtain ⟨y, h1, h2, h3⟩ : ∃ y ∈ sc.names, y.1 = x ∧ y.2 = .free := by
      rcases hx with z | z
      · exact relabel_free ok.nocell (.inl rfl) z
      · exact relabel_free ok.nocell (.inr rfl) z
    subst h2
    exact hc y h1 h3
  have cell4 : ∀ x c, cl.lookup x = some c → ∀ v, s3.heap.IsCell c v → h4.IsCell c v := fun x c _ v ⟨o, ho, hd⟩ => ⟨o, hkeep c o ho, hd⟩
  have fresh : H s3.heap.objs.size = none := I.hok.fresh (Nat.le_refl _)
  refine ⟨⟨I.mod, ok.kind, I.ok.glob, I.ok.blt, Nat.le_refl _, fun x y c e1 e2 => I.ok.inj x y c (hk x c e1) (hk y c e2), hasc, (fun x c e => nomatch e), I.ok.hd, I.ok.frames, .inl rfl, fun b hb => ?_, I.bs, Nat.le_trans I.ok.bsz I.sz, fun b o e hb => ?_, fun b hb z => ?_, I.stack, I.stkFree⟩,
    rfl, I.bare, Un.kept hkeep, ?_, fun x c e => ?_, fresh, fun x c e => I.freeC x c (hk x c e), (fun p hp => nomatch hp), I.hok.kept hkeep, ?_⟩
  · obtain ⟨f0, f1, f2, f3, f4, f5⟩ := hf b hb
    refine ⟨fun z => ?_, fun x c e => f4 x c (hk x c e)⟩
    obtain ⟨o, eo⟩ := hfo b hb
    have z' : b = s3.heap.objs.size := z
    rw [z'] at eo
    exact absurd (Heap.lt_size eo) (Nat.lt_irrefl _)
  · obtain ⟨f0, f1, f2, f3, f4, f5⟩ := hf b hb
    rcases f3 with z | z
    · exact I.ok.noex b o e z
    · exact absurd (Nat.lt_of_lt_of_le (Nat.lt_of_lt_of_le (Heap.lt_size e) I.ok.bsz) z) (Nat.lt_irrefl _)
  · obtain ⟨f0, f1, f2, f3, f4, f5⟩ := hf b hb
    rcases List.mem_cons.mp (I.stkSub b z) with q | q
    · exact f1 q
    · exact f2 q
  · obtain ⟨m, hn⟩ := hns
    obtain ⟨m0, _, hl0⟩ := I.loc
    refine ⟨m, hn, fun i x v e1 e2 _ => ?_⟩
    have hge : tgs.length ≤ i := by
      rcases Nat.lt_or_ge i tgs.length with z | z
      · rw [List.getElem?_append_left (by rw [List.length_replicate]; exact z), List.getElem?_replicate, if_pos z] at e2
        cases e2
      · exact z
    have e1x : (tgs ++ fr.map (·.1))[i]? = some x := e1
    rw [List.getElem?_append_right hge] at e1x
    rw [List.getElem?_append_right (by rw [List.length_replicate]; exact hge), List.length_replicate] at e2
    generalize i - tgs.length = i at *
    · have e2' : ((fr.map fun p => (σ[p.2]?).join))[i]? = some (some v) := e2
      have e1' : (fr.map (·.1))[i]? = some x := e1x
      rw [List.getElem?_map] at e1' e2'
      cases q : fr[i]? with
      | none => rw [q] at e1'; cases e1'
      | some p =>
        rw [q] at e1' e2'
        have ex : p.1 = x := Option.some.inj e1'
        have ev : (σ[p.2]?).join = some v := Option.some.inj e2'
        obtain ⟨g1, g2, g3⟩ := ok.vis p (List.mem_of_getElem? q)
        have ev' : σ[p.2]? = some (some v) := by
          cases z : σ[p.2]? with
          | none => rw [z] at ev; cases ev
          | some w => rw [z] at ev; exact congrArg some ev
        have gv : Vis X.env.scope p.1 := g2.elim (fun z => .inr (.inl z)) fun z => .inr (.inr z)
        obtain ⟨u, ru, lk⟩ := hl0 p.2 p.1 v g1 ev' gv
        subst ex
        refine ⟨u, ru, .inr ⟨relabel_seen g3, ?_⟩⟩
        rcases lk with ⟨k1, _⟩ | ⟨_, c, ec, hcell⟩
        · rcases g2 with z | z
          · have k2 : X.env.scope.names.lookup p.1 = some .local := k1
            rw [z] at k2; cases k2
          · have k2 : X.env.scope.names.lookup p.1 = some .local := k1
            rw [z] at k2; cases k2
        · obtain ⟨c', ec'⟩ := hasc p.1 (relabel_seen g3)
          have e3 := hk _ _ ec'
          rw [ec] at e3
          cases e3
          exact ⟨c, ec', cell4 _ c ec' _ hcell⟩
  · obtain ⟨v, z⟩ := I.cell x c (hk x c e)
    exact ⟨v, cell4 x c e v z⟩
  · show (List.replicate tgs.length none ++ inSt σ fr).length = (tgs ++ fr.map (·.1)).length
    simp [inSt]
end


noncomputable def tLCG (k : Nat) (fr : List (Str × Nat)) (wi : TI) (g : TG) (tc : TT) (te : TE) : TE := fun σ H Q => wi σ H fun J H1 => ∀ acc, H1 acc = none → ∃ W : Nat → Nat → St → Hp → Prop, (∃ m, W 0 m (List.replicate k none ++ inSt σ fr) (upd H1 acc (.lst []))) ∧ ∀ i m σb H2, W i m σb H2 →
  (J.stop i H2 ∧ Q (.ref acc) H2) ∨ (J.go i H2 ∧ ∀ x H3, J.yld i H2 x H3 → g x σb H3 fun σ2 H4 => tc σ2 H4 fun b H5 =>
    if b = true then te σ2 H5 fun v H6 => ∃ xs m', H6 acc = some (.lst xs) ∧ xs.length < sizeLine ∧ m' < m ∧ W (i + 1) m' σ2 (upd H6 acc (.lst (xs ++ [v]))) else ∃ m', m' < m ∧ W (i + 1) m' σ2 H5)
section
variable {X : Cx} {elt iter tg : Expr} {ifs : List Expr} {tgs : List Str} {pos : Pos} {sc : Scope} {fr : List (Str × Nat)} {wi : TI} {te : TE} {g : TG} {tc : TT}
theorem pe_lcG (hc : X.calm = true) (ok : CompOkG X tgs sc fr) (hi : PI X tg iter wi) (hg : ∀ cl C s3 H3 fp, PG (X.blk (tgs ++ fr.map (·.1)) sc cl C s3 H3 fp) tg g) (ht : ∀ cl C s3 H3 fp, PIF (X.blk (tgs ++ fr.map (·.1)) sc cl C s3 H3 fp) ifs tc) (he : ∀ cl C s3 H3 fp, PE (X.blk (tgs ++ fr.map (·.1)) sc cl C s3 H3 fp) elt te) (hs : ∀ x, foldedSetIterable iter X.env x = pure x := by intro _; rfl) :
    PE X (.ListComp elt [⟨tg, iter, ifs, 0⟩] sc pos) (tLCG tgs.length fr wi g tc te) := by
  intro pins s σ H Q I h
  obtain ⟨cl, ecl, hk, hcx⟩ := closure_of (env := X.env) (sc := sc) (fun y hy yf => I.ok.has y.1 (ok.fre y hy yf))
  rw [eval_ListComp]
  refine wpAny_comprehension_free (use := none) rfl hs ecl ok.kind ok.locs (thn (hi pins s σ H _ I h) fun v s1 h1 => thn h1 fun itv s2 h2 => ?_)
  obtain ⟨it, fp, tn, J, H2, e, I2, T, st2, f2, q⟩ := h2
  subst e
  have hacc : H2 s2.heap.objs.size = none := I2.hok.fresh (Nat.le_refl _)
  obtain ⟨W, ⟨m0, w0⟩, turn⟩ := q s2.heap.objs.size hacc
  refine wpAny_newObj_type ?_
  have I3 := I2.laid (a := s2.heap.objs.size) (o := .lst []) (h' := s2.heap.push { cls := .type "list", data := .seq ([] : List Value).toArray }) (t' := s2.toks) (fun b u e => Heap.get?_push_of_some _ e) (Nat.le_refl _) ⟨Nat.zero_le _, [], 0, .nil, Heap.get?_push_size _ rfl⟩
  refine wpAny_newFunctionEnv ok.nocell (by intro y hy; simp at hy) (fun h4 hns4 hsb4 => ?_) ok.kind
  generalize hs3 : ({ s2 with heap := s2.heap.push { cls := .type "list", data := .seq ([] : List Value).toArray } } : Shared) = s3 at *
  have keep4 : ∀ b o, s3.heap.get? b = some o → h4.get? b = some o := fun b o e => hsb4.extBut b o (Nat.ne_of_lt (Heap.lt_size e)) (Heap.get?_push_of_some _ e)
  have keep3 : ∀ b o, s2.heap.get? b = some o → s3.heap.get? b = some o := fun b o e => by rw [← hs3]; exact Heap.get?_push_of_some _ e
  have hfo : ∀ b ∈ fp, ∃ o, s3.heap.get? b = some o := fun b hb => by
    obtain ⟨o, eo, _⟩ := T.obj 0 _ st2 b hb
    exact ⟨o, keep3 b o eo⟩
  have f3 : ∀ b ∈ fp, FpOk X pins (upd H2 s2.heap.objs.size (.lst [])) b := fun b hb => by
    obtain ⟨o, eo, _⟩ := T.obj 0 _ st2 b hb
    exact ⟨by rw [upd_ne (Nat.ne_of_lt (Heap.lt_size eo))]; exact (f2 b hb).1, (f2 b hb).2⟩
  have I4 := blk_startG (t4 := s3.toks + ([] : List (Str × Value)).length) ok I3 f3 hfo hk hcx ⟨_, hns4⟩ keep4
  have st4 : tn 0 h4 := T.keep 0 s2.heap h4 st2 fun b hb o e => keep4 b o (keep3 b o e)
  have stat : ∀ {H' : Hp}, (∀ b ∈ fp, H' b = none) → ∀ b ∈ fp, FpOk (X.blk (tgs ++ fr.map (·.1)) sc cl s3.heap.objs.size s3 (upd H2 s2.heap.objs.size (.lst [])) fp) [] H' b := fun hn b hb =>
    ⟨hn b hb, (I4.ok.exf b hb).1, I4.ok.exfs b hb, .inl hb, (I4.ok.exf b hb).2, fun p hp => nomatch hp⟩
  have loop : codeAny (model X.prog X.w) X.A (.compLoop (.ListComp elt [⟨tg, iter, ifs, 0⟩] sc pos) 0 (.ref it) (.ref s2.heap.objs.size) (compEnvC sc cl s3.heap.objs.size X.env))
      (compPost (model X.prog X.w) X.A X.xe none (EP X pins σ Q) (.ref s2.heap.objs.size) s3.heap.objs.size) { s3 with heap := h4, toks := s3.toks + ([] : List (Str × Value)).length } := by
    refine comp_loopG (fun n s' => ∃ i σb H', Inv (X.blk (tgs ++ fr.map (·.1)) sc cl s3.heap.objs.size s3 (upd H2 s2.heap.objs.size (.lst [])) fp) [] σb H' s' ∧ tn i s'.heap ∧ (∀ b ∈ fp, H' b = none) ∧ W i n σb H') ?_ m0
      ⟨0, _, _, I4, st4, fun b hb => (f3 b hb).1, w0⟩
    rintro n s5 ⟨i, σb, H5, I5, st5, fr5, w5⟩
    rcases turn i n σb H5 w5 with ⟨stop, qq⟩ | ⟨go, step⟩
    · refine thn (T.done (X.blk (tgs ++ fr.map (·.1)) sc cl s3.heap.objs.size s3 (upd H2 s2.heap.objs.size (.lst [])) fp) rfl rfl rfl hc i [] s5 _ H5 _ I5 (stat fr5) st5 stop) fun r s6 ⟨hr, I6⟩ => ?_
      subst hr
      obtain ⟨m6, hn6, _⟩ := I6.loc
      refine ⟨m6, hn6, fun h7 hsb7 => ?_⟩
      have ne : ∀ b o, s3.heap.get? b = some o → b ≠ s3.heap.objs.size := fun b o e => Nat.ne_of_lt (Heap.lt_size e)
      have u6 : Un (frs X.stack) fp (upd H2 s2.heap.objs.size (.lst [])) H5 s3.heap s6.heap := I6.base
      have u7 : Un (frs X.stack) fp (upd H2 s2.heap.objs.size (.lst [])) H5 s3.heap h7 := {
        keep := fun b o e n hb hx => hsb7.extBut b o (ne b o e) (u6.keep b o e n hb hx)
        slot := fun b o e n hb hx => by
          obtain ⟨sl, e1⟩ := u6.slot b o e n hb hx
          exact ⟨sl, hsb7.extBut b _ (ne b o e) e1⟩
        free := u6.free
        there := fun b o e hx => by
          obtain ⟨o', e1⟩ := u6.there b o e hx
          exact ⟨o', hsb7.extBut b _ (ne b o e) e1⟩
        tups := u6.tups
        frzs := u6.frzs
        tbls := u6.tbls }
      have hok7 : HOk X.prog X.w H5 h7 := fun b u eu => (I6.hok b u eu).stay (fun c v hcx q => hsb7.extBut c v (fun z => by
        have nf := I6.free
        have z' : H5 s3.heap.objs.size = none := nf
        rw [← z] at z'
        rcases hcx with y | y
        · rw [y, eu] at z'; cases z'
        · rw [y] at z'; cases z') q) (fun _ q => q) fun _ _ q => q
      have os6 : s6.os = s3.os := I6.os
      have bare6 := I6.bare
      obtain ⟨hh, g, d, t, os'⟩ := s6
      obtain rfl : os' = s3.os := os6
      refine ⟨.ref s2.heap.objs.size, H5, ?_, rfl, qq⟩
      show Inv X pins σ H5 { s3 with heap := h7, gens := g, drawn := d, toks := t }
      exact I3.call (h' := h7) (g' := g) (d' := d) (t' := t) (ch := fp) u7 hok7 bare6 fun b hb => ⟨(f3 b hb).2.2.2.1, (f3 b hb).2.1, (f3 b hb).2.2.2.2.1, (f3 b hb).2.2.2.2.2⟩
    · refine thn (T.item (X.blk (tgs ++ fr.map (·.1)) sc cl s3.heap.objs.size s3 (upd H2 s2.heap.objs.size (.lst [])) fp) rfl rfl rfl hc i [] s5 _ H5 _ I5 (stat fr5) st5 go) fun r s6 ⟨u, hr, h6⟩ => ?_
      subst hr
      refine thn h6 fun _ s7 ⟨y, H7, I7, r7, y7, st7, fr7⟩ => ?_
      have I7' := I7.pinned (stat fr7) (T.obj _ _ st7)
      refine wpAny_mono (hg cl s3.heap.objs.size s3 (upd H2 s2.heap.objs.size (.lst [])) fp _ s7 _ H7 y u _ I7' r7 (step y H7 y7)) (fun _ s8 z => ?_) (fun e s z => (show False from z).elim)
      obtain ⟨σ8, H8, I8, q8⟩ := z
      refine wpAny_mono (ht cl s3.heap.objs.size s3 (upd H2 s2.heap.objs.size (.lst [])) fp _ s8 σ8 H8 _ I8 q8) (fun b s8' z => ?_) (fun e s z => (show False from z).elim)
      obtain ⟨H8', I8', q8'⟩ := z
      have goOn : ∀ {s10 : Shared} {H10 : Hp} {m' : Nat}, Inv (X.blk (tgs ++ fr.map (·.1)) sc cl s3.heap.objs.size s3 (upd H2 s2.heap.objs.size (.lst [])) fp) _ σ8 H10 s10 → m' < n → W (i + 1) m' σ8 H10 → ∃ m, m < n ∧ ∃ i σb H', Inv (X.blk (tgs ++ fr.map (·.1)) sc cl s3.heap.objs.size s3 (upd H2 s2.heap.objs.size (.lst [])) fp) [] σb H' s10 ∧ tn i s10.heap ∧ (∀ b ∈ fp, H' b = none) ∧ W i m σb H' := fun {s10 H10 m'} I10 hm w9 => by
        refine ⟨m', hm, i + 1, σ8, _, I10.unpinned, T.keep _ _ _ st7 fun b hb o e => (I10.pin (b, o) (List.mem_append_right _ (List.mem_append_right _ (mem_pinsAt hb e)))).1, fun b hb => ?_, w9⟩
        obtain ⟨o, e, d⟩ := T.obj _ _ st7 b hb
        exact (I10.pin (b, o) (List.mem_append_right _ (List.mem_append_right _ (mem_pinsAt hb e)))).2.1
      cases b with
      | false =>
        obtain ⟨m', hm, w9⟩ := (if_neg Bool.false_ne_true).mp q8'
        exact (if_neg Bool.false_ne_true).mpr (goOn I8' hm w9)
      | true =>
        refine (if_pos rfl).mpr ?_
        refine wpAny_mono (he cl s3.heap.objs.size s3 (upd H2 s2.heap.objs.size (.lst [])) fp _ s8' _ H8' _ I8' ((if_pos rfl).mp q8')) (fun v s9 z => ?_) (fun e s z => (show False from z).elim)
        obtain ⟨z, H9, I9, r9, xs, m', ha, hl, hm, w9⟩ := z
        refine wpAny_mono (mt_append (X := X.blk (tgs ++ fr.map (·.1)) sc cl s3.heap.objs.size s3 (upd H2 s2.heap.objs.size (.lst [])) fp) _ s9 _ H9 (.ref s2.heap.objs.size) [z] (.ref s2.heap.objs.size) [v] (fun _ H' => H' = upd H9 s2.heap.objs.size (.lst (xs ++ [z]))) I9 rfl (.cons r9 .nil) ⟨_, xs, z, rfl, rfl, ha, hl, rfl⟩) (fun _ s10 z => ?_) (fun e s z => (show False from z).elim)
        obtain ⟨_, H10, I10, _, e10⟩ := z
        subst e10
        exact goOn I10 hm w9
  exact codeAny_compStart_list loop (T.self X.A 0 _ _ _ st4 loop)
end
end L2

namespace L2
open PySem PySem.Spec PyProof.Rows
section
variable {X : Cx}
end
end L2

namespace My
noncomputable def qv (a b : Int) : Rat := (a : Rat) / (b : Rat)
theorem cast_ne {b : Int} (h : b ≠ 0) : (b : Rat) ≠ 0 := fun z => h (Rat.intCast_inj.mp z)
theorem qv_eq {a b t m : Int} (hb : b ≠ 0) (hm : m ≠ 0) (h : a * m = t * b) : qv a b = qv t m := by
  have hb' := cast_ne hb
  have hm' := cast_ne hm
  have h' : (a : Rat) * m = t * b := by rw [← Rat.intCast_mul, ← Rat.intCast_mul, h]
  unfold qv
  grind
theorem eq_of_qv {a b t m : Int} (hb : b ≠ 0) (hm : m ≠ 0) (h : qv a b = qv t m) : a * m = t * b := by
  have hb' := cast_ne hb
  have hm' := cast_ne hm
  unfold qv at h
  refine Rat.intCast_inj.mp ?_
  rw [Rat.intCast_mul, Rat.intCast_mul]
  grind
end My

namespace My
theorem part_in {E A C : Rat} (h : A < C) (h1 : A ≤ E) (h2 : E ≤ C) : 0 ≤ (E - A) / (C - A) ∧ (E - A) / (C - A) ≤ 1 := by
  have hp : 0 < C - A := by grind
  constructor
  · rw [← Rat.not_lt, Rat.div_lt_iff hp]
    grind
  · rw [← Rat.not_lt, Rat.lt_div_iff hp]
    grind
theorem along_in {E A C F T : Rat} (h : A < C) (hf : F < T) (h1 : A ≤ E) (h2 : E ≤ C) : F ≤ F + (E - A) / (C - A) * (T - F) ∧ F + (E - A) / (C - A) * (T - F) ≤ T := by
  obtain ⟨p0, p1⟩ := part_in h h1 h2
  generalize (E - A) / (C - A) = r at *
  have w1 : 0 ≤ r * (T - F) := Rat.mul_nonneg p0 (by grind)
  have w2 : r * (T - F) ≤ 1 * (T - F) := Rat.mul_le_mul_of_nonneg_right p1 (by grind)
  grind
end My

namespace My
noncomputable def leap (y : Int) : Bool := if y % 4 = 0 then (if y % 100 = 0 then decide (y % 400 = 0) else true) else false
noncomputable def mls : List Int := [31, 28, 31, 30, 31, 30, 31, 31, 30, 31, 30, 31]
noncomputable def ml (L : Bool) (m : Int) : Int := if m = 2 ∧ L = true then 29 else mls.getD (m - 1).toNat 0
noncomputable def mlen (y m : Int) : Int := ml (leap y) m
noncomputable def bf (L : Bool) (m : Int) : Int := ((List.range (m - 1).toNat).map fun i : Nat => ml L (1 + i)).sum
noncomputable def ybeg (y : Int) : Int := 365 * (y - 1) + (y - 1) / 4 - (y - 1) / 100 + (y - 1) / 400
noncomputable def ylen (L : Bool) : Int := if L then 366 else 365
theorem ybeg_next (y : Int) : ybeg (y + 1) = ybeg y + ylen (leap y) := by
  unfold ybeg ylen leap
  by_cases h4 : y % 4 = 0
  · rw [if_pos h4]
    by_cases h1 : y % 100 = 0
    · rw [if_pos h1]
      by_cases h3 : y % 400 = 0
      · rw [decide_eq_true h3, if_pos rfl]; omega
      · rw [decide_eq_false h3, if_neg (by decide)]; omega
    · rw [if_neg h1, if_pos rfl]; omega
  · rw [if_neg h4, if_neg (by decide)]; omega
theorem m_cases {m : Int} (h1 : 1 ≤ m) (h2 : m ≤ 12) : m = 1 ∨ m = 2 ∨ m = 3 ∨ m = 4 ∨ m = 5 ∨ m = 6 ∨ m = 7 ∨ m = 8 ∨ m = 9 ∨ m = 10 ∨ m = 11 ∨ m = 12 := by omega
theorem bf_next {L : Bool} {m : Int} (h1 : 1 ≤ m) (h2 : m ≤ 12) : bf L (m + 1) = bf L m + ml L m := by
  cases L <;> rcases m_cases h1 h2 with h | h | h | h | h | h | h | h | h | h | h | h <;> subst h <;> decide
theorem bf_first (L : Bool) : bf L 1 = 0 := by cases L <;> decide
theorem bf_last (L : Bool) : bf L 13 = ylen L := by cases L <;> decide
theorem ml_pos {L : Bool} {m : Int} (h1 : 1 ≤ m) (h2 : m ≤ 12) : 28 ≤ ml L m ∧ ml L m ≤ 31 := by
  cases L <;> rcases m_cases h1 h2 with h | h | h | h | h | h | h | h | h | h | h | h <;> subst h <;> decide
noncomputable def dayOf (y m e : Int) : Int := ybeg y + bf (leap y) m + e - 1
structure Valid (y m e : Int) : Prop where
  y1 : 1 ≤ y
  y2 : y ≤ 9999
  m1 : 1 ≤ m
  m2 : m ≤ 12
  e1 : 1 ≤ e
  e2 : e ≤ mlen y m
theorem bf_mono {L : Bool} {m n : Int} (h1 : 1 ≤ m) (h : m < n) (h2 : n ≤ 13) : bf L m + ml L m ≤ bf L n := by
  have key : ∀ (k : Nat) (n : Int), n = m + 1 + k → n ≤ 13 → bf L m + ml L m ≤ bf L n := by
    intro k
    induction k with
    | zero =>
      intro n hn hn2
      have e : n = m + 1 := by omega
      rw [e, bf_next h1 (by omega)]
      exact Int.le_refl _
    | succ k ih =>
      intro n hn hn2
      have q := ih (n - 1) (by omega) (by omega)
      have e := bf_next (L := L) (m := n - 1) (by omega) (by omega)
      rw [Int.sub_add_cancel] at e
      have p := (ml_pos (L := L) (m := n - 1) (by omega) (by omega)).1
      omega
  exact key (n - m - 1).toNat n (by omega) h2
theorem Valid.range {y m e : Int} (v : Valid y m e) : ybeg y ≤ dayOf y m e ∧ dayOf y m e < ybeg (y + 1) := by
  have h1 : 0 ≤ bf (leap y) m := by
    by_cases h : m = 1
    · rw [h, bf_first]; exact Int.le_refl _
    · have q := bf_mono (L := leap y) (m := 1) (n := m) (by omega) (by have := v.m1; omega) (by have := v.m2; omega)
      have p := (ml_pos (L := leap y) (m := 1) (by omega) (by omega)).1
      rw [bf_first] at q
      omega
  have h2 := bf_mono (L := leap y) (m := m) (n := 13) v.m1 (by have := v.m2; omega) (by omega)
  rw [bf_last] at h2
  have h3 := ybeg_next y
  have h4 := v.e2
  have h5 := v.e1
  unfold mlen at h4
  unfold dayOf
  omega
theorem ybeg_mono {y z : Int} (h : y ≤ z) : ybeg y ≤ ybeg z := by unfold ybeg; omega
theorem Valid.inj {y m e y' m' e' : Int} (v : Valid y m e) (v' : Valid y' m' e') (h : dayOf y m e = dayOf y' m' e') : y = y' ∧ m = m' ∧ e = e' := by
  have r := v.range
  have r' := v'.range
  have hy : y = y' := by
    rcases Int.lt_trichotomy y y' with q | q | q
    · have := ybeg_mono (show y + 1 ≤ y' by omega); omega
    · exact q
    · have := ybeg_mono (show y' + 1 ≤ y by omega); omega
  subst hy
  have a := v.e2; have a' := v'.e2; have b := v.e1; have b' := v'.e1
  unfold mlen at a a'
  unfold dayOf at h
  have hm : m = m' := by
    rcases Int.lt_trichotomy m m' with q | q | q
    · have := bf_mono (L := leap y) v.m1 q (by have := v'.m2; omega); omega
    · exact q
    · have := bf_mono (L := leap y) v'.m1 q (by have := v.m2; omega); omega
  subst hm
  refine ⟨rfl, rfl, by omega⟩
noncomputable def yearOf (d : Int) : Int := if ybeg (d * 400 / 146097 + 1 + 1) ≤ d then d * 400 / 146097 + 1 + 1 else d * 400 / 146097 + 1
theorem yearOf_ok {d : Int} (h0 : 0 ≤ d) (h1 : d ≤ 3652058) : 1 ≤ yearOf d ∧ yearOf d ≤ 9999 ∧ ybeg (yearOf d) ≤ d ∧ d < ybeg (yearOf d + 1) := by
  unfold yearOf ybeg
  split <;> rename_i h <;> refine ⟨by omega, by omega, by omega, by omega⟩
end My

namespace My
structure Sc (R : Rat → Rat → Prop) (len : Rat) : Prop where
  lo : ∀ {v r : Rat}, R v r → 0 ≤ r
  hi : ∀ {v r : Rat}, R v r → r ≤ len
  up : ∀ {v w r s : Rat}, R v r → R w s → v < w → r < s
  fn : ∀ {v r s : Rat}, R v r → R v s → r = s
theorem Sc.lt {R : Rat → Rat → Prop} {len : Rat} (S : Sc R len) {v w r s : Rat} (h1 : R v r) (h2 : R w s) : v < w ↔ r < s := by
  refine ⟨S.up h1 h2, fun h => ?_⟩
  rcases (Rat.le_total : v ≤ w ∨ w ≤ v) with z | z
  · rcases Rat.le_iff_lt_or_eq.mp z with y | y
    · exact y
    · subst y
      have := S.fn h1 h2
      grind
  · rcases Rat.le_iff_lt_or_eq.mp z with y | y
    · have := S.up h2 h1 y
      grind
    · subst y
      have := S.fn h1 h2
      grind
theorem Sc.eq {R : Rat → Rat → Prop} {len : Rat} (S : Sc R len) {v w r s : Rat} (h1 : R v r) (h2 : R w s) : v = w ↔ r = s := by
  have a := S.lt h1 h2
  have b := S.lt h2 h1
  rcases (Rat.le_total : v ≤ w ∨ w ≤ v) with z | z <;> rcases (Rat.le_total : r ≤ s ∨ s ≤ r) with y | y <;> grind
noncomputable def RStr (A C L : Rat) : Rat → Rat → Prop := fun v r => A ≤ v ∧ v ≤ C ∧ r = (v - A) / (C - A) * L
theorem div_lt_div {x y d : Rat} (hd : 0 < d) (h : x < y) : x / d < y / d := by
  rw [Rat.div_lt_iff hd]
  have : y / d * d = y := by grind
  rw [this]
  exact h
theorem along_lt {A C F T v w : Rat} (h : A < C) (hf : F < T) (hv : v < w) : F + (v - A) / (C - A) * (T - F) < F + (w - A) / (C - A) * (T - F) := by
  have h1 : (v - A) / (C - A) < (w - A) / (C - A) := div_lt_div (by grind) (by grind)
  have h2 : (v - A) / (C - A) * (T - F) < (w - A) / (C - A) * (T - F) := Rat.mul_lt_mul_of_pos_right h1 (by grind)
  grind
theorem Sc.str {A C L : Rat} (h : A < C) (hl : 0 < L) : Sc (RStr A C L) L where
  lo := fun ⟨a, b, e⟩ => by
    have := (along_in (F := 0) (T := L) h hl a b).1
    grind
  hi := fun ⟨a, b, e⟩ => by
    have := (along_in (F := 0) (T := L) h hl a b).2
    grind
  up := fun ⟨a, b, e⟩ ⟨c, d, f⟩ z => by
    have := along_lt (F := 0) (T := L) h hl z
    grind
  fn := fun ⟨_, _, e⟩ ⟨_, _, f⟩ => by rw [e, f]
structure Pq where
  (A C F T : Rat)
noncomputable def RBrk (ps : List Pq) : Rat → Rat → Prop := fun v r => ∃ x ∈ ps, x.A ≤ v ∧ v ≤ x.C ∧ r = x.F + (v - x.A) / (x.C - x.A) * (x.T - x.F)
theorem Sc.brk {ps : List Pq} {L : Rat} (h1 : ∀ x ∈ ps, x.A < x.C ∧ x.F < x.T ∧ 0 ≤ x.F ∧ x.T ≤ L) (h2 : ∀ x ∈ ps, ∀ y ∈ ps, x = y ∨ (x.C < y.A ∧ x.T < y.F) ∨ (y.C < x.A ∧ y.T < x.F)) : Sc (RBrk ps) L where
  lo := fun ⟨x, hx, a, b, e⟩ => by
    obtain ⟨w1, w2, w3, w4⟩ := h1 x hx
    have := (along_in w1 w2 a b).1
    grind
  hi := fun ⟨x, hx, a, b, e⟩ => by
    obtain ⟨w1, w2, w3, w4⟩ := h1 x hx
    have := (along_in w1 w2 a b).2
    grind
  up := fun ⟨x, hx, a, b, e⟩ ⟨y, hy, c, d, f⟩ z => by
    obtain ⟨w1, w2, w3, w4⟩ := h1 x hx
    obtain ⟨v1, v2, v3, v4⟩ := h1 y hy
    have p := (along_in w1 w2 a b).2
    have q := (along_in v1 v2 c d).1
    rcases h2 x hx y hy with k | ⟨k1, k2⟩ | ⟨k1, k2⟩
    · subst k
      have := along_lt w1 w2 z
      grind
    · grind
    · grind
  fn := fun ⟨x, hx, a, b, e⟩ ⟨y, hy, c, d, f⟩ => by
    rcases h2 x hx y hy with k | ⟨k1, k2⟩ | ⟨k1, k2⟩
    · subst k; rw [e, f]
    · grind
    · grind
end My

namespace My
end My

namespace L2
open PySem PySem.Spec PyProof.Rows
noncomputable def rIsN : R2 := fun x y H Q => y = .non ∧ Q (.bl (decide (x = .non))) H
noncomputable def rNotN : R2 := fun x y H Q => y = .non ∧ Q (.bl (!decide (x = .non))) H
theorem op_isN' {X : Cx} : OpR X (compareOp .Is) rIsN := op_isN
theorem op_notN' {X : Cx} : OpR X (compareOp .IsNot) rNotN := op_notN
noncomputable def MkT (xs : List V) (H : Hp) (Q : VK) : Prop := xs.length ≤ sizeLine ∧ ∀ p, H p = none → Q (.ref p) (upd H p (.tup xs))
noncomputable def MkL (xs : List V) (H : Hp) (Q : VK) : Prop := xs.length ≤ sizeLine ∧ ∀ p, H p = none → Q (.ref p) (upd H p (.lst xs))
inductive SetTo : St → Nat → Option V → St → Prop
  | here {x : Option V} {r : St} {v : Option V} : SetTo (x :: r) 0 v (v :: r)
  | next {x : Option V} {r : St} {v : Option V} {i : Nat} {r' : St} : SetTo r i v r' → SetTo (x :: r) (i + 1) v (x :: r')
theorem SetTo.eq {σ σ' : St} {i : Nat} {v : Option V} (h : SetTo σ i v σ') : σ.set i v = σ' := by
  induction h with
  | here => rfl
  | next _ ih => rw [List.set_cons_succ, ih]
inductive GetTo : St → Nat → V → Prop
  | here {v : V} {r : St} : GetTo (some v :: r) 0 v
  | next {x : Option V} {r : St} {v : V} {i : Nat} : GetTo r i v → GetTo (x :: r) (i + 1) v
theorem GetTo.eq {σ : St} {i : Nat} {v : V} (h : GetTo σ i v) : σ[i]? = some (some v) := by
  induction h with
  | here => rfl
  | next _ ih => rw [List.getElem?_cons_succ, ih]
section
variable {σ σ' : St} {H : Hp} {Q : VK} {i j : Int} {k : Nat} {v x y : V} {te ta tb tc : TE} {t u : TS} {nx bk ct : St → Hp → Prop} {rt : VK} {c d : TT} {R : Bool → Hp → Prop} {r r' : R2} {b : Bool}
theorem z_var (h : GetTo σ k v) (q : Q v H) : tVar k σ H Q := ⟨v, h.eq, q⟩
theorem z_c (q : Q v H) : tC v σ H Q := q
theorem z_op (h : ta σ H fun x H1 => tb σ H1 fun y H2 => r x y H2 Q) : tOp r ta tb σ H Q := h
theorem z_un {r : V → Hp → VK → Prop} (h : ta σ H fun x H1 => r x H1 Q) : tUn r ta σ H Q := h
theorem z_I {C : Int → Int → Prop} {g : Int → Int → V} (hc : C i j) (q : Q (g i j) H) : rI C g (.int i) (.int j) H Q := ⟨i, j, rfl, rfl, hc, q⟩
theorem z_I0 {g : Int → Int → V} (q : Q (g i j) H) : rI0 g (.int i) (.int j) H Q := ⟨i, j, rfl, rfl, q⟩
theorem z_U {g : Int → V} (q : Q (g i) H) : rU g (.int i) H Q := ⟨i, rfl, q⟩
theorem zdec_int : decide (V.int i = V.int j) = decide (i = j) := by
  by_cases h : i = j
  · subst h; simp
  · rw [decide_eq_false h, decide_eq_false (fun z => h (V.int.inj z))]
theorem zdec_str {a b : Str} : decide (V.str a = V.str b) = decide (a = b) := by
  by_cases h : a = b
  · subst h; simp
  · rw [decide_eq_false h, decide_eq_false (fun z => h (V.str.inj z))]
theorem z_EqI (q : Q (.bl (decide (i = j))) H) : rEq (.int i) (.int j) H Q := ⟨rfl, by rw [zdec_int]; exact q⟩
theorem z_NeI (q : Q (.bl (!decide (i = j))) H) : rNe (.int i) (.int j) H Q := ⟨rfl, by rw [zdec_int]; exact q⟩
theorem z_EqS {a b : Str} (q : Q (.bl (decide (a = b))) H) : rEq (.str a) (.str b) H Q := ⟨rfl, by rw [zdec_str]; exact q⟩
theorem z_NeS {a b : Str} (q : Q (.bl (!decide (a = b))) H) : rNe (.str a) (.str b) H Q := ⟨rfl, by rw [zdec_str]; exact q⟩
theorem z_test (h : te σ H fun x H' => ∃ k, x = .bl k ∧ R k H') : tTest te σ H R := h
theorem z_tB (h : te σ H fun x H' => ∃ k, x = .bl k ∧ R k H') : tB te σ H R := h
theorem z_ebl {S : Bool → Prop} (q : S b) : ∃ k, V.bl b = .bl k ∧ S k := ⟨b, rfl, q⟩
theorem z_and (h : c σ H fun k H1 => if k = true then d σ H1 R else R false H1) : tAnd c d σ H R := h
theorem z_or (h : c σ H fun k H1 => if k = true then R true H1 else d σ H1 R) : tOr c d σ H R := h
theorem z_not (h : c σ H fun k H1 => R (!k) H1) : tNot c σ H R := h
theorem z_andV (h : ta σ H fun x H1 => ∃ c, x = .bl c ∧ if c = true then tb σ H1 Q else Q (.bl false) H1) : tAndV ta tb σ H Q := h
theorem z_orV (h : ta σ H fun x H1 => ∃ c, x = .bl c ∧ if c = true then Q (.bl true) H1 else tb σ H1 Q) : tOrV ta tb σ H Q := h
theorem z_notV (h : ta σ H fun x H1 => ∃ c, x = .bl c ∧ Q (.bl (!c)) H1) : tNotV ta σ H Q := h
theorem z_if (h : c σ H fun k H1 => if k = true then ta σ H1 Q else tb σ H1 Q) : tIf c ta tb σ H Q := h
theorem z_chain (h : ta σ H fun x H1 => tb σ H1 fun y H2 => r x y H2 fun z H3 => ∃ k, z = .bl k ∧ (if k = true then tc σ H3 fun w' H4 => r' y w' H4 Q else Q (.bl false) H3)) : tChain r r' ta tb tc σ H Q := h
theorem z_nil {S : List V → Hp → Prop} (q : S [] H) : tNil σ H S := q
theorem z_cons {S : List V → Hp → Prop} {tr : TA} (h : ta σ H fun x H1 => tr σ H1 fun xs H2 => S (x :: xs) H2) : tCons ta tr σ H S := h
theorem z_seq (h : t ⟨u ⟨nx, rt, bk, ct⟩, rt, bk, ct⟩ σ H) : tSeq t u ⟨nx, rt, bk, ct⟩ σ H := h
theorem z_next (h : nx σ H) : tNext ⟨nx, rt, bk, ct⟩ σ H := h
theorem z_drop (h : te σ H fun _ H1 => nx σ H1) : tDrop te ⟨nx, rt, bk, ct⟩ σ H := h
theorem z_ret (h : te σ H rt) : tRet te ⟨nx, rt, bk, ct⟩ σ H := h
theorem z_ifs (h : c σ H fun b H1 => if b = true then t ⟨nx, rt, bk, ct⟩ σ H1 else u ⟨nx, rt, bk, ct⟩ σ H1) : tIfS c t u ⟨nx, rt, bk, ct⟩ σ H := h
theorem z_asg {g : TG} (h : te σ H fun x H1 => g x σ H1 nx) : tAsg te g ⟨nx, rt, bk, ct⟩ σ H := h
theorem z_name {S : St → Hp → Prop} (h : SetTo σ k (some v) σ') (q : S σ' H) : gName k v σ H S := by
  show S (σ.set k (some v)) H
  rw [h.eq]; exact q
theorem z_par {i j : Nat} {tA : TA} (h : tA σ H fun vs H1 => ∃ v w, vs = [v, w] ∧ nx ((σ.set i (some v)).set j (some w)) H1) : tPar i j tA ⟨nx, rt, bk, ct⟩ σ H := h
theorem z_par2 {i j : Nat} {v w : V} {σ2 : St} (h1 : SetTo σ i (some v) σ') (h2 : SetTo σ' j (some w) σ2) (q : nx σ2 H) : ∃ v' w', [v, w] = [v', w'] ∧ nx ((σ.set i (some v')).set j (some w')) H := ⟨v, w, rfl, by rw [h1.eq, h2.eq]; exact q⟩
theorem z_iteD {c A B : Prop} [Decidable c] (h1 : c → A) (h2 : ¬ c → B) : if decide c = true then A else B := by
  by_cases h : c
  · rw [decide_eq_true h]; exact iteT (h1 h)
  · rw [decide_eq_false h]; exact iteF (h2 h)
theorem z_iteNb {b : Bool} {A B : Prop} (h : if b = true then B else A) : if (!b) = true then A else B := by
  cases b with
  | true => exact iteF h
  | false => exact iteT h
theorem z_ite2 {b : Bool} {A B : Prop} (h1 : b = true → A) (h2 : b = false → B) : if b = true then A else B := by
  cases b with
  | true => exact iteT (h1 rfl)
  | false => exact iteF (h2 rfl)
theorem z_call0 {sp : Sp} {E : XK} {tA : TA} (h : tA σ H fun vs H1 => sp vs H1 Q E) : tCall sp [] E tA σ H Q := by
  unfold tCall
  simpa using h
theorem z_callD {sp : Sp} {E : XK} {tA : TA} {w : V} (h : tA σ H fun vs H1 => sp (vs ++ [w]) H1 Q E) : tCall sp [w] E tA σ H Q := h
theorem z_cb {rr : List V → Hp → VK → Prop} {tA : TA} (h : tA σ H fun vs H1 => rr vs H1 Q) : tCB rr tA σ H Q := h
theorem z_e1 {S : Int → Prop} (q : S i) : ∃ i', [V.int i] = [.int i'] ∧ S i' := ⟨i, rfl, q⟩
theorem z_e2 {S : Int → Int → Prop} (q : S i j) : ∃ i' j', [V.int i, V.int j] = [.int i', .int j'] ∧ S i' j' := ⟨i, j, rfl, q⟩
theorem z_tup {tA : TA} (h : tA σ H fun xs H1 => MkT xs H1 Q) : tTup tA σ H Q := h
theorem z_mkt {xs : List V} (hl : xs.length ≤ 100) (q : ∀ p H', H p = none → Same H H' → H' p = some (.tup xs) → Q (.ref p) H') : MkT xs H Q :=
  ⟨Nat.le_trans hl (by decide), fun p hp => q p _ hp (Same.new hp _) upd_same⟩
theorem z_ixT {K : PySem.W.Frag} {p : Addr} {xs : List V} (hs : SqT K H p xs) (ha : atI xs i = some v) (q : Q v H) : rIxT K (.ref p) (.int i) H Q := ⟨p, xs, i, v, rfl, rfl, hs, ha, q⟩
theorem z_ixL {K : PySem.W.Frag} {p : Addr} {xs : List V} (hs : SqL K H p xs) (ha : atI xs i = some v) (q : Q v H) : rIxL K (.ref p) (.int i) H Q := ⟨p, xs, i, v, rfl, rfl, hs, ha, q⟩
theorem z_nonN (q : Q (.bl true) H) : rIsN .non .non H Q := ⟨rfl, q⟩
theorem z_nonI (q : Q (.bl false) H) : rIsN (.int i) .non H Q := ⟨rfl, q⟩
theorem z_nonS {a : Str} (q : Q (.bl false) H) : rIsN (.str a) .non H Q := ⟨rfl, q⟩
theorem z_nonR {p : Addr} (q : Q (.bl false) H) : rIsN (.ref p) .non H Q := ⟨rfl, q⟩
theorem z_notN (q : Q (.bl false) H) : rNotN .non .non H Q := ⟨rfl, q⟩
theorem z_notI (q : Q (.bl true) H) : rNotN (.int i) .non H Q := ⟨rfl, q⟩
theorem z_notS {a : Str} (q : Q (.bl true) H) : rNotN (.str a) .non H Q := ⟨rfl, q⟩
theorem z_notR {p : Addr} (q : Q (.bl true) H) : rNotN (.ref p) .non H Q := ⟨rfl, q⟩
theorem z_len {K : PySem.W.Frag} {p : Addr} {ys : List V} {S : List V → Prop} (hs : SqL K H p ys ∨ SqT K H p ys) (q : S ys) : ∃ p' ys', [V.ref p] = [V.ref p'] ∧ (SqL K H p' ys' ∨ SqT K H p' ys') ∧ S ys' := ⟨p, ys, rfl, hs, q⟩
theorem z_toI {S1 S2 : Int → Prop} {S3 : Bool → Prop} (q : S1 i) : (∃ i', [V.int i] = [.int i'] ∧ S1 i') ∨ ∃ k, [V.int i] = [.bl k] ∧ S3 k := .inl ⟨i, rfl, q⟩
theorem z_toB {S1 : Int → Prop} {S3 : Bool → Prop} (q : S3 b) : (∃ i', [V.bl b] = [.int i'] ∧ S1 i') ∨ ∃ k, [V.bl b] = [.bl k] ∧ S3 k := .inr ⟨b, rfl, q⟩
theorem z_gtup {K : PySem.W.Frag} {p : Addr} {n : Nat} {tg : TGs} {xs : List V} {S : St → Hp → Prop} (hs : SqT K H p xs) (hl : xs.length = n) (q : tg xs σ H S) : gTup K n tg (.ref p) σ H S := ⟨p, xs, rfl, hs, hl, q⟩
theorem z_gnil {S : St → Hp → Prop} (q : S σ H) : gNil [] σ H S := ⟨rfl, q⟩
theorem z_gcons {g : TG} {tg : TGs} {v : V} {r : List V} {S : St → Hp → Prop} (q : g v σ H fun σ' H' => tg r σ' H' S) : gCons g tg (v :: r) σ H S := ⟨v, r, rfl, q⟩
theorem z_sl {r : V → Option Int → Option Int → Hp → VK → Prop} {tl th : TO} (h : te σ H fun x H1 => tl σ H1 fun l H2 => th σ H2 fun u H3 => r x l u H3 Q) : tSl r te tl th σ H Q := h
theorem z_noP {S : Option Int → Hp → Prop} (q : S none H) : tNoPart σ H S := q
theorem z_part {S : Option Int → Hp → Prop} (h : te σ H fun x H1 => ∃ i, x = .int i ∧ S (some i) H1) : tPart te σ H S := h
theorem z_eint {S : Int → Prop} (q : S i) : ∃ i', V.int i = .int i' ∧ S i' := ⟨i, rfl, q⟩
theorem z_lst {tA : TA} (h : tA σ H fun xs H1 => MkL xs H1 Q) : tLst tA σ H Q := h
theorem z_mkl {xs : List V} (hl : xs.length ≤ 100) (q : ∀ p H', H p = none → Same H H' → H' p = some (.lst xs) → Q (.ref p) H') : MkL xs H Q :=
  ⟨Nat.le_trans hl (by decide), fun p hp => q p _ hp (Same.new hp _) upd_same⟩
theorem z_bm {K : PySem.W.Frag} {T : String} {rr : V → List V → Hp → VK → Prop} {tA : TA} (h : te σ H fun x H1 => tyV K T x H1 ∧ tA σ H1 fun xs H2 => rr x xs H2 Q) : tBM K T rr te tA σ H Q := h
end
theorem sm2 {A B C : Hp} (g : Same B C) (h : Same A B) : Same A C := h.trans g
noncomputable def But (l : Addr) (H H' : Hp) : Prop := ∀ b o, b ≠ l → H b = some o → H' b = some o
theorem But.upd {H : Hp} {l : Addr} {o : HO} : But l H (upd H l o) := fun b u hb q => by rw [upd_ne hb]; exact q
theorem But.tup {K : PySem.W.Frag} {H H' : Hp} {l a : Addr} {xs ys : List V} (e : But l H H') (hl : H l = some (.lst ys)) (h : SqT K H a xs) : SqT K H' a xs := by
  rcases h with (h | ⟨o, h⟩) | h
  · exact .inl (.inl (e _ _ (fun z => by rw [z, hl] at h; cases h) h))
  · exact .inl (.inr ⟨o, e _ _ (fun z => by rw [z, hl] at h; cases h) h⟩)
  · exact .inr h
theorem But.seq {K : PySem.W.Frag} {H H' : Hp} {l a : Addr} {xs : List V} (e : But l H H') (hne : a ≠ l) (h : SqL K H a xs) : SqL K H' a xs := by
  rcases h with (h | ⟨o, h⟩) | h
  · exact .inl (.inl (e _ _ hne h))
  · exact .inl (.inr ⟨o, e _ _ hne h⟩)
  · exact .inr h
section
variable {σ σ' : St} {H : Hp} {Q : VK}
theorem z_append {l : Addr} {xs : List V} {v : V} (h : H l = some (.lst xs)) (hl : xs.length < sizeLine) (q : ∀ H', But l H H' → H' l = some (.lst (xs ++ [v])) → Q .non H') : rAppend (.ref l) [v] H Q :=
  ⟨l, xs, v, rfl, rfl, h, hl, q _ But.upd upd_same⟩
end
section
variable {σ : St} {H : Hp} {te : TE} {tb : TS} {g : TG} {nx bk ct : St → Hp → Prop} {rt : VK} {wi : TI} {K : PySem.W.Frag} {a : Addr} {xs : List V}
noncomputable def FW (J : It) (g : TG) (tb : TS) (nx : St → Hp → Prop) (rt : VK) (σ : St) (H : Hp) : Prop := ∃ W : Nat → Nat → St → Hp → Prop, (∃ m, W 0 m σ H) ∧ ∀ i m σ H, W i m σ H →
  (J.stop i H ∧ nx σ H) ∨ (J.go i H ∧ ∃ N : St → Hp → Prop, (∀ σ' H', N σ' H' → ∃ m', m' < m ∧ W (i + 1) m' σ' H') ∧ ∀ x H', J.yld i H x H' → g x σ H' fun σ2 H2 => tb ⟨N, rt, nx, N⟩ σ2 H2)
theorem z_for (h : wi σ H fun J H1 => FW J g tb nx rt σ H1) : tFor wi g tb ⟨nx, rt, bk, ct⟩ σ H := h
theorem z_iL {R : It → Hp → Prop} (h : te σ H fun x H1 => ∃ a, x = .ref a ∧ (∃ xs, SqL K H1 a xs) ∧ R (Itl K a) H1) : iList K te σ H R := h
theorem z_iT {R : It → Hp → Prop} (h : te σ H fun x H1 => ∃ a, x = .ref a ∧ (∃ xs, SqT K H1 a xs) ∧ R (Itt K a) H1) : iTup K te σ H R := h
theorem z_iL2 {S : Addr → Prop} (hs : SqL K H a xs) (q : S a) : ∃ a', V.ref a = .ref a' ∧ (∃ xs, SqL K H a' xs) ∧ S a' := ⟨a, rfl, ⟨xs, hs⟩, q⟩
theorem z_iT2 {S : Addr → Prop} (hs : SqT K H a xs) (q : S a) : ∃ a', V.ref a = .ref a' ∧ (∃ xs, SqT K H a' xs) ∧ S a' := ⟨a, rfl, ⟨xs, hs⟩, q⟩
theorem z_iR1 {tA : TA} {R : It → Hp → Prop} (h : tA σ H fun vs H1 => ∃ j : Int, vs = [.int j] ∧ -(2 ^ 62) ≤ j ∧ j < 2 ^ 62 ∧ R (Itr 0 j.toNat) H1) : iRng1 tA σ H R := h
theorem z_iR2 {tA : TA} {R : It → Hp → Prop} (h : tA σ H fun vs H1 => ∃ i j : Int, vs = [.int i, .int j] ∧ (-(2 ^ 62) ≤ i ∧ i < 2 ^ 62 ∧ -(2 ^ 62) ≤ j ∧ j < 2 ^ 62) ∧ R (Itr i (j - i).toNat) H1) : iRng2 tA σ H R := h
theorem z_iR3 {tA : TA} {R : It → Hp → Prop} (h : tA σ H fun vs H1 => ∃ i j c : Int, vs = [.int i, .int j, .int c] ∧ 0 < c ∧ c < 1073741824 ∧ Builtin.Range.small i j c = true ∧ R (Itr3 i c (rngN i j c)) H1) : iRng3 tA σ H R := h
theorem z_r1c {J : It} {j : Int} (h1 : -(2 ^ 62) ≤ j) (h2 : j < 2 ^ 62) (q : FW J g tb nx rt σ H) : -(2 ^ 62) ≤ j ∧ j < 2 ^ 62 ∧ FW J g tb nx rt σ H := ⟨h1, h2, q⟩
theorem z_r2c {J : It} {i j : Int} (h1 : -(2 ^ 62) ≤ i) (h2 : i < 2 ^ 62) (h3 : -(2 ^ 62) ≤ j) (h4 : j < 2 ^ 62) (q : FW J g tb nx rt σ H) : (-(2 ^ 62) ≤ i ∧ i < 2 ^ 62 ∧ -(2 ^ 62) ≤ j ∧ j < 2 ^ 62) ∧ FW J g tb nx rt σ H := ⟨⟨h1, h2, h3, h4⟩, q⟩
theorem f_list (Pv : Nat → St → Hp → Prop) (h0 : Pv 0 σ H) (hl : ∀ i σ H, i ≤ xs.length → Pv i σ H → SqL K H a xs)
    (hs : ∀ i x σ H, xs[i]? = some x → Pv i σ H → g x σ H fun σ2 H2 => tb ⟨Pv (i + 1), rt, nx, Pv (i + 1)⟩ σ2 H2) (hd : ∀ σ H, Pv xs.length σ H → nx σ H) : FW (Itl K a) g tb nx rt σ H := for_list (D := ⟨nx, rt, nx, nx⟩) Pv h0 hl hs hd
theorem f_range {lo : Int} {n : Nat} (Pv : Nat → St → Hp → Prop) (h0 : Pv 0 σ H)
    (hs : ∀ i σ H, i < n → Pv i σ H → g (.int (lo + i)) σ H fun σ2 H2 => tb ⟨Pv (i + 1), rt, nx, Pv (i + 1)⟩ σ2 H2) (hd : ∀ σ H, Pv n σ H → nx σ H) : FW (Itr lo n) g tb nx rt σ H := for_range (D := ⟨nx, rt, nx, nx⟩) Pv h0 hs hd
theorem z_while {c : TT} (W : Nat → St → Hp → Prop) (m0 : Nat) (h0 : W m0 σ H)
    (hs : ∀ m σ H, W m σ H → c σ H fun b H1 => if b = true then ∃ N : St → Hp → Prop, (∀ σ' H', N σ' H' → ∃ m', m' < m ∧ W m' σ' H') ∧ tb ⟨N, rt, nx, N⟩ σ H1 else nx σ H1) : tWhile c tb ⟨nx, rt, bk, ct⟩ σ H := ⟨W, ⟨m0, h0⟩, hs⟩
theorem z_whN {W : Nat → St → Hp → Prop} {m : Nat} (h : tb ⟨fun σ' H' => ∃ m', m' < m ∧ W m' σ' H', rt, nx, fun σ' H' => ∃ m', m' < m ∧ W m' σ' H'⟩ σ H) : ∃ N : St → Hp → Prop, (∀ σ' H', N σ' H' → ∃ m', m' < m ∧ W m' σ' H') ∧ tb ⟨N, rt, nx, N⟩ σ H := ⟨_, fun _ _ z => z, h⟩
end
noncomputable def IsiG (K : PySem.W.Frag) (n : String) (f : Tg → Bool) (xs : List V) (H : Hp) (Q : VK) : Prop := rIsi K n f xs H Q
theorem z_isi0 {K : PySem.W.Frag} {n : String} {f : Tg → Bool} {xs : List V} {H : Hp} {Q : VK} (h : IsiG K n f xs H Q) : rIsi K n f xs H Q := h
section
variable {H : Hp} {Q : VK} {K : PySem.W.Frag} {i : Int} {a : Str} {b : Bool} {p : Addr} {xs : List V}
theorem z_isN_int (q : Q (.bl false) H) : IsiG K "int" Tg.isInt [.non, .ty "int"] H Q := ⟨_, .non, rfl, True.intro, q⟩
theorem z_isB_int (q : Q (.bl true) H) : IsiG K "int" Tg.isInt [.bl b, .ty "int"] H Q := ⟨_, .bl, rfl, True.intro, q⟩
theorem z_isI_int (q : Q (.bl true) H) : IsiG K "int" Tg.isInt [.int i, .ty "int"] H Q := ⟨_, .int, rfl, True.intro, q⟩
theorem z_isS_int (q : Q (.bl false) H) : IsiG K "int" Tg.isInt [.str a, .ty "int"] H Q := ⟨_, .str, rfl, True.intro, q⟩
theorem z_isT_int (hs : SqT K H p xs) (q : Q (.bl false) H) : IsiG K "int" Tg.isInt [.ref p, .ty "int"] H Q := ⟨_, .tup, rfl, ⟨xs, hs⟩, q⟩
theorem z_isL_int (hs : SqL K H p xs) (q : Q (.bl false) H) : IsiG K "int" Tg.isInt [.ref p, .ty "int"] H Q := ⟨_, .lst, rfl, ⟨xs, hs⟩, q⟩
theorem z_isN_bool (q : Q (.bl false) H) : IsiG K "bool" Tg.isBool [.non, .ty "bool"] H Q := ⟨_, .non, rfl, True.intro, q⟩
theorem z_isB_bool (q : Q (.bl true) H) : IsiG K "bool" Tg.isBool [.bl b, .ty "bool"] H Q := ⟨_, .bl, rfl, True.intro, q⟩
theorem z_isI_bool (q : Q (.bl false) H) : IsiG K "bool" Tg.isBool [.int i, .ty "bool"] H Q := ⟨_, .int, rfl, True.intro, q⟩
theorem z_isS_bool (q : Q (.bl false) H) : IsiG K "bool" Tg.isBool [.str a, .ty "bool"] H Q := ⟨_, .str, rfl, True.intro, q⟩
theorem z_isT_bool (hs : SqT K H p xs) (q : Q (.bl false) H) : IsiG K "bool" Tg.isBool [.ref p, .ty "bool"] H Q := ⟨_, .tup, rfl, ⟨xs, hs⟩, q⟩
theorem z_isL_bool (hs : SqL K H p xs) (q : Q (.bl false) H) : IsiG K "bool" Tg.isBool [.ref p, .ty "bool"] H Q := ⟨_, .lst, rfl, ⟨xs, hs⟩, q⟩
theorem z_isN_str (q : Q (.bl false) H) : IsiG K "str" Tg.isStr [.non, .ty "str"] H Q := ⟨_, .non, rfl, True.intro, q⟩
theorem z_isB_str (q : Q (.bl false) H) : IsiG K "str" Tg.isStr [.bl b, .ty "str"] H Q := ⟨_, .bl, rfl, True.intro, q⟩
theorem z_isI_str (q : Q (.bl false) H) : IsiG K "str" Tg.isStr [.int i, .ty "str"] H Q := ⟨_, .int, rfl, True.intro, q⟩
theorem z_isS_str (q : Q (.bl true) H) : IsiG K "str" Tg.isStr [.str a, .ty "str"] H Q := ⟨_, .str, rfl, True.intro, q⟩
theorem z_isT_str (hs : SqT K H p xs) (q : Q (.bl false) H) : IsiG K "str" Tg.isStr [.ref p, .ty "str"] H Q := ⟨_, .tup, rfl, ⟨xs, hs⟩, q⟩
theorem z_isL_str (hs : SqL K H p xs) (q : Q (.bl false) H) : IsiG K "str" Tg.isStr [.ref p, .ty "str"] H Q := ⟨_, .lst, rfl, ⟨xs, hs⟩, q⟩
theorem z_isN_tuple (q : Q (.bl false) H) : IsiG K "tuple" Tg.isTup [.non, .ty "tuple"] H Q := ⟨_, .non, rfl, True.intro, q⟩
theorem z_isB_tuple (q : Q (.bl false) H) : IsiG K "tuple" Tg.isTup [.bl b, .ty "tuple"] H Q := ⟨_, .bl, rfl, True.intro, q⟩
theorem z_isI_tuple (q : Q (.bl false) H) : IsiG K "tuple" Tg.isTup [.int i, .ty "tuple"] H Q := ⟨_, .int, rfl, True.intro, q⟩
theorem z_isS_tuple (q : Q (.bl false) H) : IsiG K "tuple" Tg.isTup [.str a, .ty "tuple"] H Q := ⟨_, .str, rfl, True.intro, q⟩
theorem z_isT_tuple (hs : SqT K H p xs) (q : Q (.bl true) H) : IsiG K "tuple" Tg.isTup [.ref p, .ty "tuple"] H Q := ⟨_, .tup, rfl, ⟨xs, hs⟩, q⟩
theorem z_isL_tuple (hs : SqL K H p xs) (q : Q (.bl false) H) : IsiG K "tuple" Tg.isTup [.ref p, .ty "tuple"] H Q := ⟨_, .lst, rfl, ⟨xs, hs⟩, q⟩
theorem z_isN_list (q : Q (.bl false) H) : IsiG K "list" Tg.isLst [.non, .ty "list"] H Q := ⟨_, .non, rfl, True.intro, q⟩
theorem z_isB_list (q : Q (.bl false) H) : IsiG K "list" Tg.isLst [.bl b, .ty "list"] H Q := ⟨_, .bl, rfl, True.intro, q⟩
theorem z_isI_list (q : Q (.bl false) H) : IsiG K "list" Tg.isLst [.int i, .ty "list"] H Q := ⟨_, .int, rfl, True.intro, q⟩
theorem z_isS_list (q : Q (.bl false) H) : IsiG K "list" Tg.isLst [.str a, .ty "list"] H Q := ⟨_, .str, rfl, True.intro, q⟩
theorem z_isT_list (hs : SqT K H p xs) (q : Q (.bl false) H) : IsiG K "list" Tg.isLst [.ref p, .ty "list"] H Q := ⟨_, .tup, rfl, ⟨xs, hs⟩, q⟩
theorem z_isL_list (hs : SqL K H p xs) (q : Q (.bl true) H) : IsiG K "list" Tg.isLst [.ref p, .ty "list"] H Q := ⟨_, .lst, rfl, ⟨xs, hs⟩, q⟩
end
theorem bd_mul {m n : Nat} {x y : Int} (h : My.Bd m x) (g : My.Bd n y) : My.Bd (m + n) (x * y) := h.mul g
theorem bd_add {m n : Nat} {x y : Int} (h : My.Bd m x) (g : My.Bd n y) : My.Bd (max m n + 1) (x + y) := (h.mono (show m ≤ max m n by omega)).add (g.mono (show n ≤ max m n by omega))
theorem bd_sub {m n : Nat} {x y : Int} (h : My.Bd m x) (g : My.Bd n y) : My.Bd (max m n + 1) (x - y) := (h.mono (show m ≤ max m n by omega)).sub (g.mono (show n ≤ max m n by omega))
theorem bd_60 {n : Int} (h1 : -1152921504606846976 < n) (h2 : n < 1152921504606846976) : My.Bd 60 n := by unfold My.Bd; omega
theorem bt_max : bootBuiltins "max" = some (.builtin "max") := by decide +kernel
theorem bt_min : bootBuiltins "min" = some (.builtin "min") := by decide +kernel
theorem Same.but {H H2 H3 : Hp} {l : Addr} (s : Same H H2) (n : H l = none) (b : But l H2 H3) : Same H H3 := fun c o e => b c o (fun z => by rw [z, n] at e; cases e) (s c o e)
theorem z_tyL {K : PySem.W.Frag} {l : Addr} {xs : List V} {H : Hp} {S : Prop} (h : SqL K H l xs) (q : S) : tyV K "list" (.ref l) H ∧ S := ⟨.inl ⟨rfl, xs, h⟩, q⟩
theorem z_joinI {c : TT} {te : TE} {k : Nat} {σ σ' : St} {H : Hp} {R bk ct : St → Hp → Prop} {rt : VK} (b : Bool) (i1 i2 : Int) (hc : ∀ S : Bool → Hp → Prop, S b H → c σ H S) (h1 : b = true → ∀ S : V → Hp → Prop, S (.int i1) H → te σ H S) (hold : GetTo σ k (.int i2)) (hs : SetTo σ k (some (.int (if b = true then i1 else i2))) σ') (q : R σ' H) :
    tIfS c (tAsg te (gName k)) tNext ⟨R, rt, bk, ct⟩ σ H := by
  refine hc _ ?_
  cases b with
  | true =>
    refine iteT (h1 rfl _ ?_)
    show R (σ.set k (some (.int i1))) H
    have := hs.eq
    rw [if_pos rfl] at this
    rw [this]; exact q
  | false =>
    refine iteF ?_
    show R σ H
    have e := hs.eq
    rw [if_neg Bool.false_ne_true] at e
    have e2 : σ.set k (some (.int i2)) = σ := by
      apply List.ext_getElem?
      intro j
      rw [List.getElem?_set]
      split
      · next z =>
        subst z
        have := hold.eq
        rw [this]
        split
        · rfl
        · next y => rw [List.getElem?_eq_none (by omega)] at this; cases this
      · rfl
    rw [← e2, e]; exact q
theorem z_go {N : List Str} {vs : List V} {σ : St} {t : TS} {D : Ends} {H : Hp} (h : start N vs = σ) (q : t D σ H) : t D (start N vs) H := by rw [h]; exact q
end L2

namespace L2
open PySem PySem.Spec PyProof.Rows
theorem compOkG_of {X : Cx} {tg : Str} {sc : Scope} {fr : List (Str × Nat)} {osc : Scope} {N : List Str} (ho : X.env.scope = osc) (hN : X.N = N) (h : compOkB osc N tg sc fr = true) : CompOkG X [tg] sc fr ∧ sc.names.lookup tg = some .local := by
  have o := compOk_of ho hN h
  exact ⟨⟨o.kind, o.nocell, o.locs, o.fre, o.nd, o.vis⟩, o.tgl⟩
noncomputable def LCW (k : Nat) (st : St) (J : It) (g : TG) (tc : TT) (te : TE) (H1 : Hp) (Q : VK) : Prop := ∀ acc, H1 acc = none → ∃ W : Nat → Nat → St → Hp → Prop, (∃ m, W 0 m (List.replicate k none ++ st) (upd H1 acc (.lst []))) ∧ ∀ i m σb H2, W i m σb H2 →
  (J.stop i H2 ∧ Q (.ref acc) H2) ∨ (J.go i H2 ∧ ∀ x H3, J.yld i H2 x H3 → g x σb H3 fun σ2 H4 => tc σ2 H4 fun b H5 =>
    if b = true then te σ2 H5 fun v H6 => ∃ xs m', H6 acc = some (.lst xs) ∧ xs.length < sizeLine ∧ m' < m ∧ W (i + 1) m' σ2 (upd H6 acc (.lst (xs ++ [v]))) else ∃ m', m' < m ∧ W (i + 1) m' σ2 H5)
theorem z_lcg {k : Nat} {fr : List (Str × Nat)} {wi : TI} {g : TG} {tc : TT} {te : TE} {σ : St} {H : Hp} {Q : VK} (h : wi σ H fun J H1 => LCW k (inSt σ fr) J g tc te H1 Q) : tLCG k fr wi g tc te σ H Q := h
noncomputable def picked (p : Nat → Bool) (f : Nat → V) (n : Nat) : List V := ((List.range n).filter p).map f
theorem picked_le (p : Nat → Bool) (f : Nat → V) (n : Nat) : (picked p f n).length ≤ n := by
  unfold picked
  rw [List.length_map]
  exact Nat.le_trans (List.length_filter_le _ _) (by rw [List.length_range]; exact Nat.le_refl _)
theorem picked_succ (p : Nat → Bool) (f : Nat → V) (n : Nat) : picked p f (n + 1) = if p n = true then picked p f n ++ [f n] else picked p f n := by
  unfold picked
  rw [List.range_succ, List.filter_append, List.map_append]
  by_cases h : p n = true
  · rw [if_pos h, List.filter_cons_of_pos h]; rfl
  · rw [if_neg h, List.filter_cons_of_neg h]; simp
theorem lcw {J : It} {st : St} {tc : TT} {te : TE} {H1 : Hp} {Q : VK} (n : Nat) (it f : Nat → V) (p : Nat → Bool) (hn : n ≤ sizeLine)
    (hgo : ∀ i H2, Same H1 H2 → i < n → J.go i H2 ∧ ∀ x H3, J.yld i H2 x H3 → H3 = H2 ∧ x = it i) (hstop : ∀ H2, Same H1 H2 → J.stop n H2)
    (ht : ∀ i H2 (S : Bool → Hp → Prop), i < n → Same H1 H2 → (∀ H3, Same H2 H3 → S (p i) H3) → tc (some (it i) :: st) H2 S)
    (he : ∀ i H2 (S : V → Hp → Prop), i < n → p i = true → Same H1 H2 → (∀ H3, Same H2 H3 → S (f i) H3) → te (some (it i) :: st) H2 S)
    (fin : ∀ acc H2, H1 acc = none → Same H1 H2 → H2 acc = some (.lst (picked p f n)) → Q (.ref acc) H2) : LCW 1 st J (gName 0) tc te H1 Q := by
  intro acc hacc
  refine ⟨fun i m σb H2 => m = n - i ∧ i ≤ n ∧ Same H1 H2 ∧ H2 acc = some (.lst (picked p f i)) ∧ ∃ u, σb = u :: st, ⟨n, by simp, Nat.zero_le _, Same.new hacc _, upd_same, none, rfl⟩, ?_⟩
  rintro i m σb H2 ⟨rfl, hi, sH, ha, u, rfl⟩
  by_cases hlt : i < n
  · obtain ⟨g1, g2⟩ := hgo i H2 sH hlt
    refine .inr ⟨g1, fun x H3 y => ?_⟩
    obtain ⟨rfl, rfl⟩ := g2 x H3 y
    show tc (some (it i) :: st) H3 _
    refine ht i H3 _ hlt sH (fun H5 s5 => ?_)
    have ps := picked_succ p f i
    by_cases hp : p i = true
    · rw [if_pos hp] at ps ⊢
      refine he i H5 _ hlt hp (sH.trans s5) (fun H6 s6 => ?_)
      refine ⟨picked p f i, n - (i + 1), s6 _ _ (s5 _ _ ha), Nat.lt_of_le_of_lt (picked_le p f i) (by omega), by omega, rfl, hlt, ?_, by rw [upd_same, ps], _, rfl⟩
      exact Same.but (sH.trans (s5.trans s6)) hacc But.upd
    · rw [if_neg hp] at ps ⊢
      exact ⟨n - (i + 1), by omega, rfl, hlt, sH.trans s5, by rw [ps]; exact s5 _ _ ha, _, rfl⟩
  · have e : i = n := by omega
    subst e
    exact .inl ⟨hstop H2 sH, fin acc H2 hacc sH ha⟩
theorem lcw_list {K : PySem.W.Frag} {a : Addr} {xs : List V} {st : St} {tc : TT} {te : TE} {H1 : Hp} {Q : VK} (f : Nat → V) (p : Nat → Bool) (hs : SqL K H1 a xs) (hn : xs.length ≤ sizeLine)
    (ht : ∀ i x H2 (S : Bool → Hp → Prop), xs[i]? = some x → Same H1 H2 → (∀ H3, Same H2 H3 → S (p i) H3) → tc (some x :: st) H2 S)
    (he : ∀ i x H2 (S : V → Hp → Prop), xs[i]? = some x → p i = true → Same H1 H2 → (∀ H3, Same H2 H3 → S (f i) H3) → te (some x :: st) H2 S)
    (fin : ∀ acc H2, H1 acc = none → Same H1 H2 → H2 acc = some (.lst (picked p f xs.length)) → Q (.ref acc) H2) : LCW 1 st (Itl K a) (gName 0) tc te H1 Q := by
  have at_ : ∀ i, i < xs.length → xs[i]? = some (xs.getD i .non) := fun i hi => by rw [List.getElem?_eq_getElem hi, List.getD_eq_getElem?_getD, List.getElem?_eq_getElem hi]; rfl
  refine lcw xs.length (fun i => xs.getD i .non) f p hn (fun i H2 s2 hi => ⟨⟨xs, _, s2.seq hs, at_ i hi⟩, fun x H3 y => ⟨y.1, ?_⟩⟩) (fun H2 s2 => ⟨xs, s2.seq hs, Nat.le_refl _⟩)
    (fun i H2 S hi s2 k => ht i _ H2 S (at_ i hi) s2 k) (fun i H2 S hi hp s2 k => he i _ H2 S (at_ i hi) hp s2 k) fin
  have := y.2 xs (s2.seq hs)
  rw [at_ i hi] at this
  exact (Option.some.inj this).symm
end L2

namespace L2
open PySem PySem.Spec PyProof.Rows
section
variable {X : Cx} {elt iter tg : Expr} {ifs : List Expr} {tgs : List Str} {pos : Pos} {sc : Scope} {fr : List (Str × Nat)} {wi : TI} {te : TE} {g : TG} {tc : TT}
theorem ps_setLCG {y : Str} {py spos : Pos} {iy : Nat} (hN : X.N.Nodup) (hi' : X.N[iy]? = some y) (hy : Loc X.env.scope y) (hc : X.calm = true) (ok : CompOkG X tgs sc fr) (hi : PI X tg iter wi) (hg : ∀ cl C s3 H3 fp, PG (X.blk (tgs ++ fr.map (·.1)) sc cl C s3 H3 fp) tg g) (ht : ∀ cl C s3 H3 fp, PIF (X.blk (tgs ++ fr.map (·.1)) sc cl C s3 H3 fp) ifs tc) (he : ∀ cl C s3 H3 fp, PE (X.blk (tgs ++ fr.map (·.1)) sc cl C s3 H3 fp) elt te) (hs : ∀ x, foldedSetIterable iter X.env x = pure x := by intro _; rfl)
    (hsw : swapsWith (.ListComp elt [⟨tg, iter, ifs, 0⟩] sc pos) (some (.Name y py)) spos.line X.env = pure true := by rfl) (hfn : X.fn y = true ∨ X.env.scope.names.lookup y = some .local := by first | exact .inl rfl | exact .inr rfl | assumption) :
    PS X (.Assign [.Name y py] (.ListComp elt [⟨tg, iter, ifs, 0⟩] sc pos) spos) (tAsg (tLCG tgs.length fr wi g tc te) (gName iy)) := by
  intro pins s σ H D I h
  obtain ⟨cl, ecl, hk, hcx⟩ := closure_of (env := X.env) (sc := sc) (fun y hy yf => I.ok.has y.1 (ok.fre y hy yf))
  rw [exec_Assign_Name_used _ _ _ _ hsw]
  refine wpAny_bind (wpAny_standAt (wpAny_bind ?_))
  show wpAny _ X.A (do let _ ← comprehension (.ListComp elt [⟨tg, iter, ifs, 0⟩] sc pos) sc X.env _ (newList []) false (eval iter X.env) (some (assign (.Name y py) X.env))) _ _ s
  refine wpAny_bind (wpAny_mono (wpAny_comprehension_free (use := some (assign (.Name y py) X.env)) (Q := fun _ s' => SP X pins D .next s') rfl hs ecl ok.kind ok.locs ?_) (fun _ s' z => wpAny_pure (wpAny_pure z)) fun _ _ z => z)
  refine (thn (hi pins s σ H _ I h) fun v s1 h1 => thn h1 fun itv s2 h2 => ?_)
  obtain ⟨it, fp, tn, J, H2, e, I2, T, st2, f2, q⟩ := h2
  subst e
  have hacc : H2 s2.heap.objs.size = none := I2.hok.fresh (Nat.le_refl _)
  obtain ⟨W, ⟨m0, w0⟩, turn⟩ := q s2.heap.objs.size hacc
  refine wpAny_newObj_type ?_
  have I3 := I2.laid (a := s2.heap.objs.size) (o := .lst []) (h' := s2.heap.push { cls := .type "list", data := .seq ([] : List Value).toArray }) (t' := s2.toks) (fun b u e => Heap.get?_push_of_some _ e) (Nat.le_refl _) ⟨Nat.zero_le _, [], 0, .nil, Heap.get?_push_size _ rfl⟩
  refine wpAny_newFunctionEnv ok.nocell (by intro y hy; simp at hy) (fun h4 hns4 hsb4 => ?_) ok.kind
  generalize hs3 : ({ s2 with heap := s2.heap.push { cls := .type "list", data := .seq ([] : List Value).toArray } } : Shared) = s3 at *
  have keep4 : ∀ b o, s3.heap.get? b = some o → h4.get? b = some o := fun b o e => hsb4.extBut b o (Nat.ne_of_lt (Heap.lt_size e)) (Heap.get?_push_of_some _ e)
  have keep3 : ∀ b o, s2.heap.get? b = some o → s3.heap.get? b = some o := fun b o e => by rw [← hs3]; exact Heap.get?_push_of_some _ e
  have hfo : ∀ b ∈ fp, ∃ o, s3.heap.get? b = some o := fun b hb => by
    obtain ⟨o, eo, _⟩ := T.obj 0 _ st2 b hb
    exact ⟨o, keep3 b o eo⟩
  have f3 : ∀ b ∈ fp, FpOk X pins (upd H2 s2.heap.objs.size (.lst [])) b := fun b hb => by
    obtain ⟨o, eo, _⟩ := T.obj 0 _ st2 b hb
    exact ⟨by rw [upd_ne (Nat.ne_of_lt (Heap.lt_size eo))]; exact (f2 b hb).1, (f2 b hb).2⟩
  have I4 := blk_startG (t4 := s3.toks + ([] : List (Str × Value)).length) ok I3 f3 hfo hk hcx ⟨_, hns4⟩ keep4
  have st4 : tn 0 h4 := T.keep 0 s2.heap h4 st2 fun b hb o e => keep4 b o (keep3 b o e)
  have stat : ∀ {H' : Hp}, (∀ b ∈ fp, H' b = none) → ∀ b ∈ fp, FpOk (X.blk (tgs ++ fr.map (·.1)) sc cl s3.heap.objs.size s3 (upd H2 s2.heap.objs.size (.lst [])) fp) [] H' b := fun hn b hb =>
    ⟨hn b hb, (I4.ok.exf b hb).1, I4.ok.exfs b hb, .inl hb, (I4.ok.exf b hb).2, fun p hp => nomatch hp⟩
  have loop : codeAny (model X.prog X.w) X.A (.compLoop (.ListComp elt [⟨tg, iter, ifs, 0⟩] sc pos) 0 (.ref it) (.ref s2.heap.objs.size) (compEnvC sc cl s3.heap.objs.size X.env))
      (compPost (model X.prog X.w) X.A X.xe (some (assign (.Name y py) X.env)) (fun _ s' => SP X pins D .next s') (.ref s2.heap.objs.size) s3.heap.objs.size) { s3 with heap := h4, toks := s3.toks + ([] : List (Str × Value)).length } := by
    refine comp_loopG (fun n s' => ∃ i σb H', Inv (X.blk (tgs ++ fr.map (·.1)) sc cl s3.heap.objs.size s3 (upd H2 s2.heap.objs.size (.lst [])) fp) [] σb H' s' ∧ tn i s'.heap ∧ (∀ b ∈ fp, H' b = none) ∧ W i n σb H') ?_ m0
      ⟨0, _, _, I4, st4, fun b hb => (f3 b hb).1, w0⟩
    rintro n s5 ⟨i, σb, H5, I5, st5, fr5, w5⟩
    rcases turn i n σb H5 w5 with ⟨stop, qq⟩ | ⟨go, step⟩
    · refine thn (T.done (X.blk (tgs ++ fr.map (·.1)) sc cl s3.heap.objs.size s3 (upd H2 s2.heap.objs.size (.lst [])) fp) rfl rfl rfl hc i [] s5 _ H5 _ I5 (stat fr5) st5 stop) fun r s6 ⟨hr, I6⟩ => ?_
      subst hr
      obtain ⟨m6, hn6, _⟩ := I6.loc
      have u6 : Un (frs X.stack) fp (upd H2 s2.heap.objs.size (.lst [])) H5 s3.heap s6.heap := I6.base
      have hok6 : HOk X.prog X.w H5 s6.heap := I6.hok
      have os6 : s6.os = s3.os := I6.os
      have bare6 := I6.bare
      have free6 : H5 s3.heap.objs.size = none := I6.free
      have IX : Inv X pins σ H5 s6 := by
        obtain ⟨hh, g, d, t, os'⟩ := s6
        obtain rfl : os' = s3.os := os6
        show Inv X pins σ H5 { s3 with heap := hh, gens := g, drawn := d, toks := t }
        exact I3.call (h' := hh) (g' := g) (d' := d) (t' := t) (ch := fp) u6 hok6 bare6 fun b hb => ⟨(f3 b hb).2.2.2.1, (f3 b hb).2.1, (f3 b hb).2.2.2.2.1, (f3 b hb).2.2.2.2.2⟩
      obtain ⟨oC, es, ep, hoC, hdC, rC⟩ := hn6
      have hfC : FpOk X pins H5 s3.heap.objs.size := I3.fpOk (Nat.le_refl _) free6
      have IX' : Inv X (pins ++ [(s3.heap.objs.size, oC)]) σ H5 s6 := IX.pins_of fun p hp => by
        rcases List.mem_append.mp hp with z | z
        · exact IX.pin p (List.mem_append_right _ z)
        · have z' := List.mem_singleton.mp z
          subst z'
          exact ⟨hoC, free6, hfC.2.1, hfC.2.2.1, fun v z => by
            have z2 : oC.data = .cell v := z
            rw [hdC] at z2; cases z2⟩
      refine thn (pg_name (X := X) (i := iy) (pos := py) hN hi' hy hfn _ s6 σ H5 (.ref s2.heap.objs.size) (.ref s2.heap.objs.size) (fun σ' H' => σ' = σ.set iy (some (.ref s2.heap.objs.size)) ∧ H' = H5) IX' rfl ⟨rfl, rfl⟩) fun _ s7 z => ?_
      obtain ⟨σ7, H7, I7, e7, e7'⟩ := z
      subst e7 e7'
      have pC := I7.pin (s3.heap.objs.size, oC) (List.mem_append_right _ (List.mem_append_right _ (List.mem_singleton.mpr rfl)))
      refine ⟨m6, ⟨oC, es, ep, pC.1, hdC, rC⟩, fun h8 hsb8 => ?_⟩
      have I7u : Inv X pins (σ.set iy (some (.ref s2.heap.objs.size))) H7 s7 := I7.unpinned
      refine ⟨_, H7, ?_, qq⟩
      exact I7u.turned (it := s3.heap.objs.size) (t' := s7.toks) (fun b o hb e => hsb8.extBut b o hb e) free6 hfC.2.1 hfC.2.2.2.1 hfC.2.2.2.2.1 hfC.2.2.2.2.2
    · refine thn (T.item (X.blk (tgs ++ fr.map (·.1)) sc cl s3.heap.objs.size s3 (upd H2 s2.heap.objs.size (.lst [])) fp) rfl rfl rfl hc i [] s5 _ H5 _ I5 (stat fr5) st5 go) fun r s6 ⟨u, hr, h6⟩ => ?_
      subst hr
      refine thn h6 fun _ s7 ⟨y, H7, I7, r7, y7, st7, fr7⟩ => ?_
      have I7' := I7.pinned (stat fr7) (T.obj _ _ st7)
      refine wpAny_mono (hg cl s3.heap.objs.size s3 (upd H2 s2.heap.objs.size (.lst [])) fp _ s7 _ H7 y u _ I7' r7 (step y H7 y7)) (fun _ s8 z => ?_) (fun e s z => (show False from z).elim)
      obtain ⟨σ8, H8, I8, q8⟩ := z
      refine wpAny_mono (ht cl s3.heap.objs.size s3 (upd H2 s2.heap.objs.size (.lst [])) fp _ s8 σ8 H8 _ I8 q8) (fun b s8' z => ?_) (fun e s z => (show False from z).elim)
      obtain ⟨H8', I8', q8'⟩ := z
      have goOn : ∀ {s10 : Shared} {H10 : Hp} {m' : Nat}, Inv (X.blk (tgs ++ fr.map (·.1)) sc cl s3.heap.objs.size s3 (upd H2 s2.heap.objs.size (.lst [])) fp) _ σ8 H10 s10 → m' < n → W (i + 1) m' σ8 H10 → ∃ m, m < n ∧ ∃ i σb H', Inv (X.blk (tgs ++ fr.map (·.1)) sc cl s3.heap.objs.size s3 (upd H2 s2.heap.objs.size (.lst [])) fp) [] σb H' s10 ∧ tn i s10.heap ∧ (∀ b ∈ fp, H' b = none) ∧ W i m σb H' := fun {s10 H10 m'} I10 hm w9 => by
        refine ⟨m', hm, i + 1, σ8, _, I10.unpinned, T.keep _ _ _ st7 fun b hb o e => (I10.pin (b, o) (List.mem_append_right _ (List.mem_append_right _ (mem_pinsAt hb e)))).1, fun b hb => ?_, w9⟩
        obtain ⟨o, e, d⟩ := T.obj _ _ st7 b hb
        exact (I10.pin (b, o) (List.mem_append_right _ (List.mem_append_right _ (mem_pinsAt hb e)))).2.1
      cases b with
      | false =>
        obtain ⟨m', hm, w9⟩ := (if_neg Bool.false_ne_true).mp q8'
        exact (if_neg Bool.false_ne_true).mpr (goOn I8' hm w9)
      | true =>
        refine (if_pos rfl).mpr ?_
        refine wpAny_mono (he cl s3.heap.objs.size s3 (upd H2 s2.heap.objs.size (.lst [])) fp _ s8' _ H8' _ I8' ((if_pos rfl).mp q8')) (fun v s9 z => ?_) (fun e s z => (show False from z).elim)
        obtain ⟨z, H9, I9, r9, xs, m', ha, hl, hm, w9⟩ := z
        refine wpAny_mono (mt_append (X := X.blk (tgs ++ fr.map (·.1)) sc cl s3.heap.objs.size s3 (upd H2 s2.heap.objs.size (.lst [])) fp) _ s9 _ H9 (.ref s2.heap.objs.size) [z] (.ref s2.heap.objs.size) [v] (fun _ H' => H' = upd H9 s2.heap.objs.size (.lst (xs ++ [z]))) I9 rfl (.cons r9 .nil) ⟨_, xs, z, rfl, rfl, ha, hl, rfl⟩) (fun _ s10 z => ?_) (fun e s z => (show False from z).elim)
        obtain ⟨_, H10, I10, _, e10⟩ := z
        subst e10
        exact goOn I10 hm w9
  exact codeAny_compStart_list loop (T.self X.A 0 _ _ _ st4 loop)
end
theorem ps_setLCIf {X : Cx} {elt iter c : Expr} {tg : Str} {ps pos : Pos} {sc : Scope} {fr : List (Str × Nat)} {wi : TI} {te : TE} {tc : TT} {y : Str} {py spos : Pos} {iy : Nat} (hN : X.N.Nodup) (hi' : X.N[iy]? = some y) (hy : Loc X.env.scope y) (hc : X.calm = true) (ok : CompOkG X [tg] sc fr ∧ sc.names.lookup tg = some .local) (hi : PI X (.Name tg ps) iter wi)
    (ht : ∀ cl C s3 H3 fp, PT (X.blk ([tg] ++ fr.map (·.1)) sc cl C s3 H3 fp) c tc) (he : ∀ cl C s3 H3 fp, PE (X.blk ([tg] ++ fr.map (·.1)) sc cl C s3 H3 fp) elt te) (hs : ∀ x, foldedSetIterable iter X.env x = pure x := by intro _; rfl)
    (hsw : swapsWith (.ListComp elt [⟨.Name tg ps, iter, [c], 0⟩] sc pos) (some (.Name y py)) spos.line X.env = pure true := by rfl) (hfn : X.fn y = true ∨ X.env.scope.names.lookup y = some .local := by first | exact .inl rfl | exact .inr rfl | assumption) :
    PS X (.Assign [.Name y py] (.ListComp elt [⟨.Name tg ps, iter, [c], 0⟩] sc pos) spos) (tAsg (tLCG 1 fr wi (gName 0) tc te) (gName iy)) :=
  ps_setLCG (tgs := [tg]) hN hi' hy hc ok.1 hi (fun _ _ _ _ _ => pg_name ok.1.nd rfl (.inl (lookup_relabel_local ok.2)) (.inr (lookup_relabel_local ok.2))) (fun _ _ _ _ _ => pif_one (ht _ _ _ _ _)) he hs hsw hfn
noncomputable def rLen (K : PySem.W.Frag) : List V → Hp → VK → Prop := fun xs H Q => ∃ p ys, xs = [.ref p] ∧ (SqL K H p ys ∨ SqT K H p ys) ∧ Q (.int ys.length) H
end L2

namespace L2
open PySem PySem.Spec PyProof.Rows
inductive Alike (K : PySem.W.Frag) (H : Hp) : Nat → V → V → Prop
  | int {n : Nat} {i : Int} : Alike K H n (.int i) (.int i)
  | str {n : Nat} {x : Str} : Alike K H n (.str x) (.str x)
  | bl {n : Nat} {b : Bool} : Alike K H n (.bl b) (.bl b)
  | non {n : Nat} : Alike K H n .non .non
  | ref {n : Nat} {a : Addr} : Alike K H n (.ref a) (.ref a)
  | tup {n : Nat} {p q : Addr} {xs ys : List V} (h1 : SqT K H p xs) (h2 : SqT K H q ys) (hl : xs.length = ys.length) (he : ∀ (j : Nat) (x y : V), xs[j]? = some x → ys[j]? = some y → Alike K H n x y) : Alike K H (n + 1) (.ref p) (.ref q)
  | lst {n : Nat} {p q : Addr} {xs ys : List V} (h1 : SqL K H p xs) (h2 : SqL K H q ys) (hl : xs.length = ys.length) (he : ∀ (j : Nat) (x y : V), xs[j]? = some x → ys[j]? = some y → Alike K H n x y) : Alike K H (n + 1) (.ref p) (.ref q)
theorem vals_at {xs : List V} {us : List Value} (h : Vals xs us) : ∀ {j : Nat} {u : Value}, us[j]? = some u → ∃ x, xs[j]? = some x ∧ RelV x u := by
  induction h with
  | nil => intro j u e; simp at e
  | cons r rr ih =>
    intro j u e
    cases j with
    | zero => exact ⟨_, rfl, by rw [List.getElem?_cons_zero] at e; cases e; exact r⟩
    | succ j => exact ih (by rw [List.getElem?_cons_succ] at e; exact e)
theorem all_true {n : Nat} : (List.range n).all (fun _ => true) = true := by rw [List.all_eq_true]; intro _ _; rfl
section
variable {X : Cx} {pins : List (Addr × Obj)} {σ : St} {H : Hp} {s : Shared}
theorem Inv.alike (I : Inv X pins σ H s) {n : Nat} {x y : V} (h : Alike X.K H n x y) : ∀ {A : Around} {u v : Value}, A.units + n < cLine → RelV x u → RelV y v → SeqAt.EqAt A s u v true := by
  induction h with
  | @int n i =>
    intro A u v hu r1 r2
    obtain ⟨t, rfl⟩ := r1
    obtain ⟨t', rfl⟩ := r2
    have := SeqAt.EqAt.int_int (A := A) (s := s) i t i t'
    rw [beq_self_eq_true] at this
    exact this
  | @str n x =>
    intro A u v hu r1 r2
    obtain ⟨t, rfl⟩ := r1
    obtain ⟨t', rfl⟩ := r2
    have := SeqAt.EqAt.str_str (A := A) (s := s) x t x t'
    rw [beq_self_eq_true] at this
    exact this
  | bl => intro A u v hu r1 r2; cases r1; cases r2; exact SeqAt.EqAt.same _
  | non => intro A u v hu r1 r2; cases r1; cases r2; exact SeqAt.EqAt.same _
  | ref => intro A u v hu r1 r2; cases r1; cases r2; exact SeqAt.EqAt.same _
  | @tup n p q xs ys h1 h2 hl he ih =>
    intro A u v hu r1 r2
    cases r1
    cases r2
    by_cases e : p = q
    · subst e; exact SeqAt.EqAt.same _
    · refine SeqAt.EqAt.of_refs e ?_
      obtain ⟨its, v1, p1, _⟩ := I.tuple h1
      obtain ⟨its2, v2, p2, _⟩ := I.tuple h2
      have l1 := v1.length
      have l2 := v2.length
      have key := SeqAt.RcAt.tuples (A := A) (s := s) (l := p) (b := q) (items := its.toArray) (items2 := its2.toArray) (e := fun _ => true) p1 p2 (by omega) (fun j g1 g2 => by
        have g1' : j < its.length := by simpa using g1
        have g2' : j < its2.length := by simpa using g2
        obtain ⟨x, ex, rx⟩ := vals_at v1 (List.getElem?_eq_getElem g1')
        obtain ⟨y, ey, ry⟩ := vals_at v2 (List.getElem?_eq_getElem g2')
        have w1 : its.toArray[j] = its[j] := by simp
        have w2 : its2.toArray[j] = its2[j] := by simp
        rw [w1, w2]
        exact ih j x y ex ey (by show A.units + 1 + n < cLine; omega) rx ry)
      have e2 : ((List.range (min its.toArray.size its2.toArray.size)).all (fun _ => true) && its.toArray.size == its2.toArray.size) = true := by
        rw [all_true, Bool.true_and, List.size_toArray, List.size_toArray, ← l1, ← l2, hl, beq_self_eq_true]
      rw [e2] at key
      exact key
  | @lst n p q xs ys h1 h2 hl he ih =>
    intro A u v hu r1 r2
    cases r1
    cases r2
    by_cases e : p = q
    · subst e; exact SeqAt.EqAt.same _
    · refine SeqAt.EqAt.of_refs e ?_
      obtain ⟨its, v1, p1, _⟩ := I.list h1
      obtain ⟨its2, v2, p2, _⟩ := I.list h2
      have l1 := v1.length
      have l2 := v2.length
      have key := SeqAt.RcAt.lists (A := A) (s := s) (l := p) (b := q) (items := its.toArray) (items2 := its2.toArray) (e := fun _ => true) p1.isList p2.isList (by rw [List.size_toArray, List.size_toArray, ← l1, ← l2, hl]) (by omega) (fun j g1 g2 => by
        have g1' : j < its.length := by simpa using g1
        have g2' : j < its2.length := by simpa using g2
        obtain ⟨x, ex, rx⟩ := vals_at v1 (List.getElem?_eq_getElem g1')
        obtain ⟨y, ey, ry⟩ := vals_at v2 (List.getElem?_eq_getElem g2')
        have w1 : its.toArray[j] = its[j] := by simp
        have w2 : its2.toArray[j] = its2[j] := by simp
        rw [w1, w2]
        exact ih j x y ex ey (by show A.units + 1 + n < cLine; omega) rx ry)
      rw [all_true] at key
      exact key
noncomputable def AlikeS (K : PySem.W.Frag) (H : Hp) (p q : Addr) : Prop := ∃ (n : Nat) (xs ys : List V), n ≤ 100 ∧ ((SqT K H p xs ∧ SqT K H q ys) ∨ (SqL K H p xs ∧ SqL K H q ys)) ∧ xs.length = ys.length ∧ ∀ (j : Nat) (x y : V), xs[j]? = some x → ys[j]? = some y → Alike K H n x y
noncomputable def rAlk (K : PySem.W.Frag) (b : Bool) : R2 := fun x y H Q => ∃ p q, x = .ref p ∧ y = .ref q ∧ AlikeS K H p q ∧ Q (.bl b) H
theorem z_alk {K : PySem.W.Frag} {H : Hp} {Q : VK} {b : Bool} {p q : Addr} (h : AlikeS K H p q) (k : Q (.bl b) H) : rAlk K b (.ref p) (.ref q) H Q := ⟨p, q, rfl, rfl, h, k⟩
theorem op_eqA (hu : X.A.units + 150 < cLine) : OpR X (compareOp .Eq) (rAlk X.K true) := by
  intro pins s σ H x y v u Q I rx ry h
  obtain ⟨p, q, rfl, rfl, ⟨n, xs, ys, hn, hs, hl, he⟩, k⟩ := h
  cases rx
  cases ry
  rcases hs with ⟨h1, h2⟩ | ⟨h1, h2⟩
  · obtain ⟨its, v1, p1, _⟩ := I.tuple h1
    obtain ⟨its2, v2, p2, _⟩ := I.tuple h2
    have l1 := v1.length
    have l2 := v2.length
    have key := SeqAt.RcAt.tuples (A := X.A) (s := s) (l := p) (b := q) (items := its.toArray) (items2 := its2.toArray) (e := fun _ => true) p1 p2 (by omega) (fun j g1 g2 => by
      have g1' : j < its.length := by simpa using g1
      have g2' : j < its2.length := by simpa using g2
      obtain ⟨x, ex, rx⟩ := vals_at v1 (List.getElem?_eq_getElem g1')
      obtain ⟨y, ey, ry⟩ := vals_at v2 (List.getElem?_eq_getElem g2')
      have w1 : its.toArray[j] = its[j] := by simp
      have w2 : its2.toArray[j] = its2[j] := by simp
      rw [w1, w2]
      exact I.alike (he j x y ex ey) (by show X.A.units + 1 + n < cLine; omega) rx ry)
    have e2 : ((List.range (min its.toArray.size its2.toArray.size)).all (fun _ => true) && its.toArray.size == its2.toArray.size) = true := by
      rw [all_true, Bool.true_and, List.size_toArray, List.size_toArray, ← l1, ← l2, hl, beq_self_eq_true]
    rw [e2] at key
    exact key _ _ _ _ ⟨.bl true, H, I, rfl, k⟩
  · obtain ⟨its, v1, p1, _⟩ := I.list h1
    obtain ⟨its2, v2, p2, _⟩ := I.list h2
    have l1 := v1.length
    have l2 := v2.length
    have key := SeqAt.RcAt.lists (A := X.A) (s := s) (l := p) (b := q) (items := its.toArray) (items2 := its2.toArray) (e := fun _ => true) p1.isList p2.isList (by rw [List.size_toArray, List.size_toArray, ← l1, ← l2, hl]) (by omega) (fun j g1 g2 => by
      have g1' : j < its.length := by simpa using g1
      have g2' : j < its2.length := by simpa using g2
      obtain ⟨x, ex, rx⟩ := vals_at v1 (List.getElem?_eq_getElem g1')
      obtain ⟨y, ey, ry⟩ := vals_at v2 (List.getElem?_eq_getElem g2')
      have w1 : its.toArray[j] = its[j] := by simp
      have w2 : its2.toArray[j] = its2[j] := by simp
      rw [w1, w2]
      exact I.alike (he j x y ex ey) (by show X.A.units + 1 + n < cLine; omega) rx ry)
    rw [all_true] at key
    exact key _ _ _ _ ⟨.bl true, H, I, rfl, k⟩
end
theorem Room.un150 {k : Nat} {A : Around} (r : Room k A) : A.units + 150 < cLine := by have := r.un; omega
end L2

namespace L2
open PySem PySem.Spec PyProof.Rows PySem.W PySem.Calls
theorem bits_of_script : ∀ {ns : List Int}, WData.weightAll (ns.map WData.int) ≤ 2 ^ 20 → ∀ x ∈ ns, My.Bd 1048576 x
  | y :: r, h, x, hx => by
    have h' : WData.weight (.int y) + 1 + WData.weightAll (r.map WData.int) ≤ 2 ^ 20 := h
    rcases List.mem_cons.mp hx with e | e
    · subst e
      have w : WData.weight (.int x) = (if x == 0 then 0 else x.natAbs.log2 + 1) := by
        first | rfl | simp [WData.weight]
      unfold My.Bd
      by_cases z : x = 0
      · subst z
        exact Nat.two_pow_pos _
      · have zb : (x == 0) = false := by simpa using z
        rw [w, zb] at h'
        have h2 : x.natAbs.log2 < 1048576 := by
          have e20 : (2 : Nat) ^ 20 = 1048576 := by decide
          rw [e20] at h'
          simp only [Bool.false_eq_true, if_false] at h'
          omega
        exact (Nat.log2_lt (by omega)).mp h2
    · exact bits_of_script (by omega) x e
theorem attach_callB {l : OpenLaw} {n : Nat} {q : Program} {loose : List Str} {XP : (Str → Option Value) → Heap → Prop} {YP : World → Heap → Prop} {d : DefRec}
    (hn : l.most = some n) (hdf : d.params.defaults = [])
    (call : ∀ (w : World) (s₀ s₁ : Shared) (mg mb : Str → Option Value) (fa : Addr) (o : Obj) (pm cd doc : Value) (a : Addr) (vs : List Value) (ns : List Int),
      Ground q loose [] XP w s₀ mg mb s₁.heap → YP w s₁.heap →
      s₁.heap.get? fa = some o → o.data = .func (docDef d.name d.params d.body d.scope pm cd doc) → s₁.heap.CodeRec cd d.name → mg d.name = some (.ref fa) →
      s₁.heap.get? a = some { cls := .type "list", data := .seq vs.toArray } → IntsAre vs ns → ns.length ≤ n → (∀ x ∈ ns, My.Bd 1048576 x) → s₁.gens = #[] →
      codeAny (model l.prog w) callerA (.call (.ref fa) ⟨[.ref a], []⟩) (fun r s' => r = .ok (.ret (.bool true)) ∧ OldK s₁.heap s'.heap ∧ s'.os = s₁.os ∧ AllBare s'.gens) s₁) :
    WalkO q loose XP YP l.row.toRowW d [] (fun f vs => PySem.call f vs) := by
  intro w s₀ s₁ mg mb G Y fa o pm cd doc dV kV ho hd hcd hD hmg hg args vals as hpre hlay hrd hwl hlo
  obtain rfl : dV = .none := Dflts.none hD hdf
  obtain rfl : kV = .none := Dflts.noKw hD
  obtain ⟨a, vs, ns, rfl, rfl, hobj, hints, hlen⟩ := Att.script_of hn hpre hwl
  have hb : ∀ x ∈ ns, My.Bd 1048576 x := by
    have h1 : (WData.list (ns.map WData.int)).layable = true := by
      have h2 : ([WData.list (ns.map WData.int)].all WData.layable) = true := hlay
      simpa using h2
    obtain ⟨_, _, h3⟩ := layableW_iff.mp h1
    refine bits_of_script ?_
    have e : WData.weight (.list (ns.map WData.int)) = WData.weightAll (ns.map WData.int) := by
      first | rfl | simp [WData.weight]
    rw [e] at h3
    exact h3
  refine enter_call (codeAny_mono (call w s₀ s₁ mg mb fa o pm cd doc a vs ns G Y ho (fd_plain hd) hcd hmg hobj hints hlen hb hg) fun r s' hq => ?_)
  obtain ⟨rfl, h2, h3, h4⟩ := hq
  exact ⟨.inl ⟨.bool true, .bool true, [], rfl, fun _ => rfl, .bool true, Att.post_true l _, fun _ => ⟨List.Pairwise.nil, fun _ hm => (nomatch hm)⟩⟩, h2, h3, h4⟩
theorem walk_ofB {l : PySem.W.OpenLaw} {n k : Nat} {q : Program} {loose : List Str} {XP : (Str → Option Value) → Heap → Prop} {YP : World → Heap → Prop} {d : DefRec} {K : Params → PySem.W.Frag} {CX : World → CXT} {sp : World → Sp} {x : Str}
    (hn : l.most = some n) (hn2 : n ≤ sizeLine) (hdf : d.params.defaults = []) (hr : Room k callerA)
    (hY : ∀ (w : World) (h : Heap), YP w h → (K w.params).In h)
    (F : ∀ (w : World) (mg : Str → Option Value) (fa : Addr) (h : Heap), (K w.params).In h → h.Ns mainGlobals mg → mg d.name = some (.ref fa) →
      ∃ fd : FuncData, (∀ (s : Shared) (u : Value), BindsTo s fd ⟨[u], []⟩ [(x, u)]) ∧
        ∀ base : Heap, (K w.params).In base → base.Ns mainGlobals mg → FnOk l.prog w (K w.params) mg base (CX w) k fa fd [x] (sp w))
    (hsp : ∀ (w : World) (H : Hp) (a : Addr) (ns : List Int), ns.length ≤ n → (∀ x ∈ ns, My.Bd 1048576 x) → Only H → SqL (K w.params) H a (ns.map V.int) → sp w [.ref a] H (fun v _ => v = .bl true) fun _ _ _ => False)
    (hCX : ∀ (w : World) (H : Hp) (s : Shared) (e : Value) (s' : Shared), CX w [] H s (fun _ _ _ => False) e s' → False) :
    PySem.W.WalkO q loose XP YP l.row.toRowW d [] (fun f vs => PySem.call f vs) := by
  refine attach_callB hn hdf fun w s₀ s₁ mg mb fa o pm cd doc a vs ns G Y ho hd hcd hmg hobj hints hlen hbits hg => ?_
  have KX := hY w _ Y
  obtain ⟨fd, hb, hF⟩ := F w mg fa _ KX G.T.g hmg
  exact law_call KX G.T.g G.T.b G.T.builtins G.T.nolimit hg hobj hints (Nat.le_trans hlen hn2) hr hF hb (fun H hO hS => hsp w H a ns hlen hbits hO hS) fun H e s' => hCX w H s₁ e s'
end L2

namespace L2
open PySem PySem.Spec PyProof.Rows
noncomputable def rJoin (K : PySem.W.Frag) : V → List V → Hp → VK → Prop := fun x vs H Q => ∃ (l : Addr) (sep : Str) (ts : List Str), x = .str sep ∧ vs = [.ref l] ∧ SqL K H l (ts.map V.str) ∧ JoinOk sep ts = true ∧ Q (.str (Txt.join sep ts)) H
section
variable {X : Cx}
theorem strs_of : ∀ {ts : List Str} {us : List Value}, Vals (ts.map V.str) us → ∃ l : List (Str × Tok), strValues l = us ∧ l.map (·.1) = ts
  | [], _, .nil => ⟨[], rfl, rfl⟩
  | x :: r, _, .cons h t => by
    obtain ⟨tk, rfl⟩ := h
    obtain ⟨l, e1, e2⟩ := strs_of (ts := r) t
    exact ⟨(x, tk) :: l, by rw [← e1]; rfl, by rw [← e2]; rfl⟩
theorem mt_join : MtM X "str.join" (rJoin X.K) := by
  intro pins s σ H x vs v us Q I rx rv h
  obtain ⟨l, sep, ts, rfl, rfl, hq, hok, q⟩ := h
  obtain ⟨t, rfl⟩ := rx
  obtain ⟨u, rfl, ru⟩ := rv.one
  cases ru
  obtain ⟨its, r, pl, hsz⟩ := I.list hq
  obtain ⟨ll, e1, e2⟩ := strs_of r
  refine SC.join (l := ll) (texts := ts) (by rw [e1]; exact pl.isList) e2 hok (fun t' k => ⟨.str _, H, I.tok _, ⟨_, rfl⟩, q⟩)
noncomputable def rSlS : V → Option Int → Option Int → Hp → VK → Prop := fun x lo hi H Q => ∃ z : Str, x = .str z ∧ z.length ≤ sizeLine ∧ Q (.str (Txt.slice z lo hi)) H
theorem sl_str : SlR X rSlS := by
  intro pins s σ H x v vl vu lo hi sl Q I rx hs pl pu h
  obtain ⟨z, rfl, hz, q⟩ := h
  obtain ⟨t, rfl⟩ := rx
  have fin : ∀ (l u : Option (Int × Tok)), s.heap.IsSlice sl l u none → Q (.str (Txt.slice z (l.map (·.1)) (u.map (·.1)))) H → wpAny (model X.prog X.w) X.A (getItem (.str z t) (.ref sl)) (EP X pins σ Q) X.xe s := fun l u hs q =>
    wpAny_getItem_str_slice (l := l) (u := u) (st := none) hs rfl (post_val_or_str ⟨Nat.le_trans (Txt.slice_le z _ _) hz, fun t' k => ⟨.str _, H, I.tok _, ⟨_, rfl⟩, q⟩⟩)
  refine ⟨"str", _, PySem.F.slot_str_getitem.lookup, typeIs_str _ _ _, ?_⟩
  cases pl with
  | none =>
    cases pu with
    | none => exact fin none none hs q
    | int j tj => exact fin none (some (j, tj)) hs q
  | int i ti =>
    cases pu with
    | none => exact fin (some (i, ti)) none hs q
    | int j tj => exact fin (some (i, ti)) (some (j, tj)) hs q
noncomputable def rAddS : R2 := fun x y H Q => ∃ i j, x = .str i ∧ y = .str j ∧ i.length + j.length ≤ sizeLine ∧ Q (.str (i ++ j)) H
theorem op_addS : OpR X (binaryOp .Add) rAddS := op_add_str
end
section
variable {σ : St} {H : Hp} {Q : VK} {K : PySem.W.Frag} {p q : Addr} {xs : List V} {f : Bool → Bool}
theorem z_slS {z : Str} {lo hi : Option Int} (h : z.length ≤ sizeLine) (k : Q (.str (Txt.slice z lo hi)) H) : rSlS (.str z) lo hi H Q := ⟨z, rfl, h, k⟩
theorem z_ixS {z : Str} {i : Int} {c : Nat} (h : z.length ≤ sizeLine) (ha : atI z.cps.toList i = some c) (k : Q (.str ⟨#[c]⟩) H) : rIxS (.str z) (.int i) H Q := ⟨z, i, c, rfl, rfl, h, ha, k⟩
theorem z_in {b : Bool} {x : V} (h : SqL K H p xs) (fx : flatV x = true) (fs : xs.all flatV = true) (k : Q (.bl (if b then !inV x xs else inV x xs)) H) : rIn K b x (.ref p) H Q := ⟨p, xs, rfl, .inl h, fx, fs, k⟩
theorem z_join {sep : Str} {ts : List Str} (h : SqL K H p (ts.map V.str)) (ok : JoinOk sep ts = true) (k : Q (.str (Txt.join sep ts)) H) : rJoin K (.str sep) [.ref p] H Q := ⟨p, sep, ts, rfl, rfl, h, ok, k⟩
theorem z_tyS {z : Str} {S : Prop} (q : S) : tyV K "str" (.str z) H ∧ S := ⟨rfl, q⟩
end
end L2

namespace L2
open PySem PySem.Spec PyProof.Rows
noncomputable def IsMax (ns : List Int) (m : Int) : Prop := m ∈ ns ∧ ∀ n ∈ ns, n ≤ m
noncomputable def rMax (K : PySem.W.Frag) : List V → Hp → VK → Prop := fun xs H Q => ∃ (p : Addr) (ns : List Int) (m : Int), xs = [.ref p] ∧ SqL K H p (ns.map V.int) ∧ IsMax ns m ∧ Q (.int m) H
theorem z_max {K : PySem.W.Frag} {H : Hp} {Q : VK} {p : Addr} {ns : List Int} {m : Int} (h : SqL K H p (ns.map V.int)) (hm : IsMax ns m) (q : Q (.int m) H) : rMax K [.ref p] H Q := ⟨p, ns, m, rfl, h, hm, q⟩
section
variable {prog : Program} {w : World} {A : Around} {R : Result → Shared → Prop} {I : Addr} {fp wr : List Addr} {n : Nat} {P : Nat → Value → Prop} {St : Nat → Heap → Prop} {kw : List (Str × Value)}
end
section
variable {X : Cx}
end
end L2

namespace L2
open PySem PySem.Spec PyProof.Rows
noncomputable def rIsB : R2 := fun x y H Q => ∃ a b : Bool, x = .bl a ∧ y = .bl b ∧ Q (.bl (a == b)) H
theorem op_isB {X : Cx} : OpR X (compareOp .Is) rIsB := by
  intro pins s σ H x y v u Q I rx ry h
  obtain ⟨a, b, rfl, rfl, q⟩ := h
  cases rx
  cases ry
  exact is_bool (fin_bl I q rfl)
section
variable {σ : St} {H : Hp} {Q : VK}
theorem z_isB {a b : Bool} (q : Q (.bl (a == b)) H) : rIsB (.bl a) (.bl b) H Q := ⟨a, b, rfl, rfl, q⟩
theorem z_gsub {to ti : TE} {t : TSet} {v : V} {S : St → Hp → Prop} (h : to σ H fun o H1 => ti σ H1 fun i H2 => t o i v H2 fun H3 => S σ H3) : gSub to ti t v σ H S := h
theorem z_setL {p : Addr} {xs : List V} {k : Int} {j : Nat} {v : V} {S : Hp → Prop} (h : H p = some (.lst xs)) (hj : ixN xs.length k = some j) (q : ∀ H', But p H H' → H' p = some (.lst (xs.set j v)) → S H') : rSetL (.ref p) (.int k) v H S := ⟨p, xs, k, j, rfl, rfl, h, hj, q _ But.upd upd_same⟩
end
noncomputable def LCN (st : St) (J : It) (te : TE) (H1 : Hp) (Q : VK) : Prop := ∀ acc, H1 acc = none → ∃ W : Nat → Nat → Hp → Prop, (∃ m, W 0 m (upd H1 acc (.lst []))) ∧ ∀ i m H2, W i m H2 →
  (J.stop i H2 ∧ Q (.ref acc) H2) ∨ (J.go i H2 ∧ ∀ x H3, J.yld i H2 x H3 → te (some x :: st) H3 fun v H4 => ∃ xs m', H4 acc = some (.lst xs) ∧ xs.length < sizeLine ∧ m' < m ∧ W (i + 1) m' (upd H4 acc (.lst (xs ++ [v]))))
theorem z_lcn {fr : List (Str × Nat)} {wi : TI} {te : TE} {σ : St} {H : Hp} {Q : VK} (h : wi σ H fun J H1 => LCN (inSt σ fr) J te H1 Q) : tLC fr wi te σ H Q := h
theorem z_r1N {J : It} {j : Int} {st : St} {te : TE} {H : Hp} {Q : VK} (h1 : -(2 ^ 62) ≤ j) (h2 : j < 2 ^ 62) (q : LCN st J te H Q) : -(2 ^ 62) ≤ j ∧ j < 2 ^ 62 ∧ LCN st J te H Q := ⟨h1, h2, q⟩
theorem lcn_range {lo : Int} {n : Nat} {st : St} {te : TE} {H1 : Hp} {Q : VK} (Pv : Nat → List V → Hp → Prop) (hn : n ≤ sizeLine) (h0 : Pv 0 [] H1)
    (hup : ∀ i xs H2 acc o, H1 acc = none → Pv i xs H2 → Pv i xs (upd H2 acc o))
    (step : ∀ i xs acc H2 (S : V → Hp → Prop), i < n → H1 acc = none → Pv i xs H2 → H2 acc = some (.lst xs) → (∀ v H3, Pv (i + 1) (xs ++ [v]) H3 → H3 acc = some (.lst xs) → S v H3) → te (some (.int (lo + (i : Nat))) :: st) H2 S)
    (fin : ∀ acc xs H2, H1 acc = none → xs.length = n → Pv n xs H2 → H2 acc = some (.lst xs) → Q (.ref acc) H2) : LCN st (Itr lo n) te H1 Q := by
  intro acc hacc
  refine ⟨fun i m H2 => ∃ xs, m = n - i ∧ i ≤ n ∧ xs.length = i ∧ Pv i xs H2 ∧ H2 acc = some (.lst xs), ⟨n, [], by simp, Nat.zero_le _, rfl, hup _ _ _ _ _ hacc h0, upd_same⟩, ?_⟩
  rintro i m H2 ⟨xs, rfl, hi, hx, pv, ha⟩
  by_cases hlt : i < n
  · refine .inr ⟨hlt, fun x H3 y => ?_⟩
    obtain ⟨e, y⟩ := y
    subst e y
    refine step i xs acc _ _ hlt hacc pv ha fun v H4 pv4 e4 => ⟨xs, n - (i + 1), e4, by omega, by omega, xs ++ [v], rfl, hlt, by rw [List.length_append, hx]; rfl, hup _ _ _ _ _ hacc pv4, upd_same⟩
  · have e : i = n := by omega
    subst e
    exact .inl ⟨Nat.le_refl _, fin acc xs H2 hacc hx pv ha⟩
theorem z_EqB {H : Hp} {Q : VK} {a b : Bool} (q : Q (.bl (decide (a = b))) H) : rEq (.bl a) (.bl b) H Q := by
  refine ⟨rfl, ?_⟩
  have e : decide (V.bl a = V.bl b) = decide (a = b) := by
    by_cases h : a = b
    · subst h; simp
    · rw [decide_eq_false h, decide_eq_false (fun z => h (V.bl.inj z))]
  rw [e]; exact q
end L2

namespace L2
open PySem PySem.Spec PyProof.Rows PySem.Builtin PySem.Builtin.Str
section
variable {X : Cx}
noncomputable def rStarts : V → List V → Hp → VK → Prop := fun x vs H Q => ∃ z y : Str, x = .str z ∧ vs = [.str y] ∧ Q (.bl (Txt.startswith z y)) H
noncomputable def rAll (K : PySem.W.Frag) : List V → Hp → VK → Prop := fun xs H Q => ∃ (p : Addr) (bs : List Bool), xs = [.ref p] ∧ SqL K H p (bs.map V.bl) ∧ Q (.bl (bs.all fun b => b)) H
theorem bools_at : ∀ {bs : List Bool} {us : List Value}, Vals (bs.map V.bl) us → us = bs.map Value.bool
  | [], _, .nil => rfl
  | b :: r, _, .cons h t => by
    cases h
    rw [bools_at (bs := r) t]; rfl
theorem range_all (bs : List Bool) : (List.range bs.length).all (fun i => bs.getD i true) = bs.all fun b => b := by
  rw [Bool.eq_iff_iff, List.all_eq_true, List.all_eq_true]
  constructor
  · intro h x hx
    obtain ⟨i, hi, e⟩ := List.getElem_of_mem hx
    have := h i (List.mem_range.mpr hi)
    rw [List.getD_eq_getElem?_getD, List.getElem?_eq_getElem hi] at this
    rw [← e]; exact this
  · intro h i hi
    have hi := List.mem_range.mp hi
    rw [List.getD_eq_getElem?_getD, List.getElem?_eq_getElem hi]
    exact h _ (List.getElem_mem hi)
theorem call_all (hc : X.calm = true) : CallR X (.builtin "all") (rAll X.K) := by
  intro pins s σ H xs us Q I r h
  obtain ⟨p, bs, rfl, hq, q⟩ := h
  obtain ⟨u, rfl, ru⟩ := r.one
  cases ru
  obtain ⟨its, v, pl, _⟩ := I.list hq
  have ev := bools_at v
  have hl : s.heap.IsList p its.toArray := pl.isList
  have hlt : p < s.heap.objs.size := by
    obtain ⟨o, ho, _⟩ := hl
    exact Heap.lt_size ho
  refine call_all_walk (wpAny_pyIter_list hl ⟨s.heap.objs.size, [s.heap.objs.size, p], [s.heap.objs.size], its.toArray.size, (fun i v => its.toArray[i]? = some v), _, (fun i => bs.getD i true), rfl, Walks.list (prog := X.prog) (w := X.w) (A := X.A.in1) (I.ok.hd hc) _ p (Nat.ne_of_lt hlt) its.toArray, ⟨⟨_, Heap.get?_push_size _ rfl, rfl, rfl⟩, hl.at fun o e => Heap.get?_push_of_some _ e⟩, ?_, ?_⟩)
  · intro i v s' Q' E' hv hQ
    rw [ev] at hv
    have hv' : (bs.map Value.bool)[i]? = some v := by simpa using hv
    rw [List.getElem?_map] at hv'
    cases hb : bs[i]? with
    | none => rw [hb] at hv'; cases hv'
    | some b =>
      rw [hb] at hv'
      cases hv'
      have : bs.getD i true = b := by rw [List.getD_eq_getElem?_getD, hb]; rfl
      refine wpAny_truthy_bool ?_
      rw [← this]; exact hQ
  · intro h' tk hk
    have e : (List.range its.toArray.size).all (fun i => bs.getD i true) = bs.all fun b => b := by
      rw [← range_all]
      have : its.toArray.size = bs.length := by rw [ev]; simp
      rw [this]
    rw [e]
    exact ⟨.bl _, H, I.kept (t' := tk) (fun b o ho => hk b o (by simp only [List.mem_singleton]; exact Nat.ne_of_lt (Heap.lt_size ho)) (Heap.get?_push_of_some _ ho)), rfl, q⟩
theorem bt_all : bootBuiltins "all" = some (.builtin "all") := by decide +kernel
noncomputable def tFv (te : TE) : TE := fun σ H Q => te σ H fun x H1 => ∃ i : Int, x = .int i ∧ i.natAbs.log2 < 1920 ∧ Q (.str (Str.ofString (toString i))) H1
noncomputable def tFs : List TE → Str → TE
  | [], acc => fun _ H Q => Q (.str acc) H
  | t :: r, acc => fun σ H Q => t σ H fun x H1 => ∃ a : Str, x = .str a ∧ (acc ++ a).length ≤ sizeLine ∧ tFs r (acc ++ a) σ H1 Q
noncomputable def Its (z : Str) : It := ⟨fun i _ => i < z.cps.size, fun i H x H' => H' = H ∧ ∃ c, z.cps.toList[i]? = some c ∧ x = .str ⟨#[c]⟩, fun i _ => z.cps.size ≤ i⟩
theorem turn_str {P : Program} {w : World} {K : PySem.W.Frag} {tg : Expr} (ty : String) (hn : ["enumerate", "zip", "dict_itemiterator", "dict_reverseitemiterator", "odict_iterator", "itertools.zip_longest", "itertools.pairwise"].contains ty = false) (z : Str) (t : Tok) (it : Addr)
    (W : ∀ A : Around, A.handled = none → Walks P w A it [it] [it] z.cps.size (SignAt z) (fun i h => h.IsStrIter it ty z t i))
    (slf : ∀ (A : Around) (i : Nat) (s : Shared) (Q : Value → Shared → Prop) (E : Value → Shared → Prop), s.heap.IsStrIter it ty z t i → Q (.ref it) s → wpAny (model P w) A (pyIter (.ref it)) Q E s) :
    Turn P w K tg (Its z) [it] it (fun i h => h.IsStrIter it ty z t i ∧ i ≤ z.cps.size) where
  mem := by simp
  obj := fun i h st b hb => by
    have e : b = it := by simpa using hb
    subst e
    obtain ⟨o, e, c, d⟩ := st.1
    exact ⟨o, e, fun v z => by rw [d] at z; cases z⟩
  keep := fun i h h' st k => ⟨let ⟨o, ho, r⟩ := st.1; ⟨o, k it (by simp) o ho, r⟩, st.2⟩
  item := by
    intro X hP hw hK hc i pins s σ H E I hf st hg
    subst hP hw hK
    obtain ⟨f0, f1, f2, f3, f4, f5⟩ := hf it (by simp)
    refine (W X.A (I.ok.hd hc)).item i s _ _ hg st.1 fun v h' tk hv st' kk => ?_
    obtain ⟨c, u, hc', rfl⟩ := hv
    have I1 : Inv X pins σ H { s with heap := h', toks := tk } := I.turned (fun b o hb e => kk b o (by simpa using hb) e) f0 f1 f3 f4 f5
    obtain ⟨o, e, c1, d⟩ := id st'
    refine ⟨_, rfl, go_of (s := { s with heap := h', toks := tk }) e c1 d hn ⟨.str ⟨#[c]⟩, H, I1, ⟨_, rfl⟩, ⟨rfl, c, by rw [Array.getElem?_toList]; exact hc', rfl⟩, ⟨st', hg⟩, fun b hb => (hf b hb).1⟩⟩
  done := by
    intro X hP hw hK hc i pins s σ H E I hf st hg
    subst hP hw hK
    obtain ⟨f0, f1, f2, f3, f4, f5⟩ := hf it (by simp)
    have e : i = z.cps.size := Nat.le_antisymm st.2 hg
    have st1 := st.1
    rw [e] at st1
    exact (W X.A (I.ok.hd hc)).done s _ _ st1 fun h' tk kk => ⟨rfl, I.turned (t' := tk) (fun b o hb e => kk b o (by simpa using hb) e) f0 f1 f3 f4 f5⟩
  self := fun A i s Q E st h => slf A i s Q E st.1 h
noncomputable def iStr (te : TE) : TI := fun σ H R => te σ H fun x H1 => ∃ z : Str, x = .str z ∧ R (Its z) H1
theorem pi_str {tg e : Expr} {te : TE} (he : PE X e te) : PI X tg e (iStr te) := by
  intro pins s σ H R I h
  refine thn (he pins s σ H _ I h) fun v s1 ⟨x, H1, I1, r1, q1⟩ => ?_
  obtain ⟨z, rfl, q⟩ := q1
  obtain ⟨t, rfl⟩ := r1
  have fr : ∀ b ∈ [s1.heap.objs.size], FpOk X pins H1 b := fun b hb => by
    have e : b = s1.heap.objs.size := by simpa using hb
    subst e
    exact I1.fpOk (Nat.le_refl _) (I1.hok.fresh (Nat.le_refl _))
  cases ha : z.cps.all (· < 128)
  · exact wpAny_pyIter_wide ha ⟨s1.heap.objs.size, [s1.heap.objs.size], _, _, H1, rfl, I1.kept (t' := s1.toks) fun b o e => Heap.get?_push_of_some _ e, turn_str "str_iterator" (by decide) z t _ (fun A hA => Walks.strWide hA _ z t) (fun _ _ _ _ _ st h => wpAny_pyIter_striter_wide st h), ⟨⟨_, Heap.get?_push_size _ rfl, rfl, rfl⟩, Nat.zero_le _⟩, fr, q⟩
  · exact wpAny_pyIter_ascii ha ⟨s1.heap.objs.size, [s1.heap.objs.size], _, _, H1, rfl, I1.kept (t' := s1.toks) fun b o e => Heap.get?_push_of_some _ e, turn_str "str_ascii_iterator" (by decide) z t _ (fun A hA => Walks.strAscii hA _ z t) (fun _ _ _ _ _ st h => wpAny_pyIter_striter_ascii st h), ⟨⟨_, Heap.get?_push_size _ rfl, rfl, rfl⟩, Nat.zero_le _⟩, fr, q⟩
end
section
variable {σ : St} {H : Hp} {Q : VK} {te : TE}
theorem z_starts {z y : Str} (q : Q (.bl (Txt.startswith z y)) H) : rStarts (.str z) [.str y] H Q := ⟨z, y, rfl, rfl, q⟩
theorem z_all {K : PySem.W.Frag} {p : Addr} {bs : List Bool} (h : SqL K H p (bs.map V.bl)) (q : Q (.bl (bs.all fun b => b)) H) : rAll K [.ref p] H Q := ⟨p, bs, rfl, h, q⟩
theorem z_fv (h : te σ H fun x H1 => ∃ i : Int, x = .int i ∧ i.natAbs.log2 < 1920 ∧ Q (.str (Str.ofString (toString i))) H1) : tFv te σ H Q := h
theorem z_fsn {acc : Str} (q : Q (.str acc) H) : tFs [] acc σ H Q := q
theorem z_fsc {acc : Str} {r : List TE} (h : te σ H fun x H1 => ∃ a : Str, x = .str a ∧ (acc ++ a).length ≤ sizeLine ∧ tFs r (acc ++ a) σ H1 Q) : tFs (te :: r) acc σ H Q := h
theorem z_iS {R : It → Hp → Prop} (h : te σ H fun x H1 => ∃ z : Str, x = .str z ∧ R (Its z) H1) : iStr te σ H R := h
theorem z_iS2 {z : Str} {S : Str → Prop} (q : S z) : ∃ z' : Str, V.str z = .str z' ∧ S z' := ⟨z, rfl, q⟩
theorem z_inS {i j : Str} {S : Str → Str → Prop} (q : S i j) : ∃ i' j' : Str, V.str i = .str i' ∧ V.str j = .str j' ∧ S i' j' := ⟨i, j, rfl, rfl, q⟩
end
theorem lcn_str {z : Str} {st : St} {te : TE} {H1 : Hp} {Q : VK} (g : Nat → V) (hn : z.cps.size ≤ sizeLine)
    (step : ∀ c H2 (S : V → Hp → Prop), c ∈ z.cps.toList → Same H1 H2 → (∀ H3, Same H2 H3 → S (g c) H3) → te (some (.str ⟨#[c]⟩) :: st) H2 S)
    (fin : ∀ acc H2, H1 acc = none → Same H1 H2 → H2 acc = some (.lst (z.cps.toList.map g)) → Q (.ref acc) H2) : LCN st (Its z) te H1 Q := by
  intro acc hacc
  have hsz : z.cps.toList.length = z.cps.size := by simp
  refine ⟨fun i m H2 => m = z.cps.size - i ∧ i ≤ z.cps.size ∧ Same H1 H2 ∧ H2 acc = some (.lst ((z.cps.toList.take i).map g)), ⟨z.cps.size, by simp, Nat.zero_le _, Same.new hacc _, by rw [upd_same]; rfl⟩, ?_⟩
  rintro i m H2 ⟨rfl, hi, sH, ha⟩
  by_cases hlt : i < z.cps.size
  · refine .inr ⟨hlt, fun x H3 y => ?_⟩
    obtain ⟨e, c, hc, ex⟩ := y
    subst e ex
    refine step c _ _ (List.mem_of_getElem? hc) sH fun H4 s4 => ⟨_, z.cps.size - (i + 1), s4 _ _ ha, ?_, by omega, rfl, hlt, fun b o e => ?_, ?_⟩
    · rw [List.length_map, List.length_take]; omega
    · rw [upd_ne (fun z => by rw [z, hacc] at e; cases e)]
      exact s4 _ _ (sH _ _ e)
    · rw [upd_same, List.take_succ, hc, List.map_append]; rfl
  · have e : i = z.cps.size := by omega
    subst e
    refine .inl ⟨Nat.le_refl _, fin acc H2 hacc sH ?_⟩
    rw [ha, ← hsz, List.take_length]
end L2

namespace L2
open PySem PySem.Spec PyProof.Rows PySem.Builtin PySem.Builtin.Str
section
variable {X : Cx}
end
end L2

namespace My
open PySem PySem.NumText
noncomputable def dg (n : Nat) : List Nat := (Nat.toDigits 10 n).map Char.toNat
noncomputable def txt (n : Int) : List Nat := if n < 0 then 45 :: dg n.natAbs else dg n.natAbs
noncomputable def hd (A : List Nat) : List Nat := if A.head? = some 45 then A.tail else A
noncomputable def val (A : List Nat) : Int := if A.head? = some 45 then -((digitsVal A.tail : Nat) : Int) else ((digitsVal A : Nat) : Int)
noncomputable def plain (cs : List Nat) : Prop := cs ≠ [] ∧ cs.length ≤ 60 ∧ ¬ (cs.head? = some 48 ∧ cs ≠ [48]) ∧ AllDigits cs
end My

namespace My
open PySem PySem.NumText PySem.StrLaws
abbrev cs (z : Str) : List Nat := z.cps.toList
theorem cs_len (z : Str) : (cs z).length = z.length := by simp [Str.length]
theorem cs_app (a b : Str) : cs (a ++ b) = cs a ++ cs b := by
  show (a.cps ++ b.cps).toList = _
  rw [Array.toList_append]
end My

namespace My
open PySem PySem.NumText
noncomputable def pad4 (n : Nat) : List Nat := [48 + n / 1000, 48 + n / 100 % 10, 48 + n / 10 % 10, 48 + n % 10]
noncomputable def pad2 (n : Nat) : List Nat := [48 + n / 10, 48 + n % 10]
noncomputable def dtx (y m e : Nat) : List Nat := pad4 y ++ 45 :: (pad2 m ++ 45 :: pad2 e)
end My

namespace My
open PySem PySem.NumText PySem.StrLaws PySem.Builtin PySem.Builtin.Str
theorem clip_ss (a b n : Nat) : strSliceIndices (some (a : Int)) (some (b : Int)) 1 n = strSliceIndices (some ((min a n : Nat) : Int)) (some ((min b n : Nat) : Int)) 1 n := by
  have e1 : ¬ ((a : Int) < 0) := by omega
  have e2 : ¬ ((b : Int) < 0) := by omega
  have e3 : ¬ (((min a n : Nat) : Int) < 0) := by omega
  have e4 : ¬ (((min b n : Nat) : Int) < 0) := by omega
  have h1 : max (0 : Int) (min (a : Int) (n : Int)) = max 0 (min ((min a n : Nat) : Int) n) := by omega
  have h2 : max (0 : Int) (min (b : Int) (n : Int)) = max 0 (min ((min b n : Nat) : Int) n) := by omega
  unfold strSliceIndices
  simp only [e1, e2, e3, e4, if_false, show (1 : Int) > 0 by decide, if_true]
  rw [h1, h2]
theorem sl_ss (z : Str) (a b : Nat) : cs (Txt.slice z (some (a : Int)) (some (b : Int))) = ((cs z).drop a).take (b - a) := by
  have hl := cs_len z
  have e : Txt.slice z (some (a : Int)) (some (b : Int)) = Txt.slice z (some ((min a z.length : Nat) : Int)) (some ((min b z.length : Nat) : Int)) := by
    unfold Txt.slice
    rw [clip_ss]
  rw [e]
  by_cases h : min a z.length ≤ min b z.length
  · show cs (sliceText z _ _) = _
    rw [sliceText_nat z h (Nat.min_le_right ..)]
    show ((z.cps.toList.drop _).take _).toArray.toList = _
    rw [List.toList_toArray]
    show ((cs z).drop _).take _ = _
    by_cases ha : a ≤ z.length
    · rw [Nat.min_eq_left ha]
      by_cases hb : b ≤ z.length
      · rw [Nat.min_eq_left hb]
      · rw [Nat.min_eq_right (by omega), List.take_of_length_le (by rw [List.length_drop]; omega), List.take_of_length_le (by rw [List.length_drop]; omega)]
    · rw [Nat.min_eq_right (by omega), List.drop_of_length_le (by omega), List.drop_of_length_le (by omega), List.take_nil, List.take_nil]
  · have e0 : strSliceIndices (some ((min a z.length : Nat) : Int)) (some ((min b z.length : Nat) : Int)) 1 z.length = [] := by
      apply List.eq_nil_of_length_eq_zero
      unfold strSliceIndices sliceRange
      have e3 : ¬ (((min a z.length : Nat) : Int) < 0) := by omega
      have e4 : ¬ (((min b z.length : Nat) : Int) < 0) := by omega
      simp only [e3, e4, if_false, show (1 : Int) > 0 by decide, if_true, List.length_map, List.length_range]
      rw [if_neg (by omega)]
      rfl
    have hz : (0 == z.length) = false := by
      rw [beq_eq_false_iff_ne]
      omega
    unfold Txt.slice
    rw [e0]
    simp only [List.length_nil, hz, Bool.and_false]
    show [] = _
    symm
    apply List.eq_nil_of_length_eq_zero
    rw [List.length_take, List.length_drop]
    omega
theorem sl_0s (z : Str) (b : Nat) : cs (Txt.slice z none (some (b : Int))) = (cs z).take b := by
  have e : Txt.slice z none (some (b : Int)) = Txt.slice z (some ((0 : Nat) : Int)) (some (b : Int)) := by
    unfold Txt.slice; rw [sliceIdx_none_lo]; rfl
  rw [e, sl_ss, List.drop_zero, Nat.sub_zero]
theorem pad4_dig (n : Nat) (h : n < 10000) : AllDigits (pad4 n) := by
  intro c hc
  unfold pad4 at hc
  simp only [List.mem_cons, List.not_mem_nil, or_false] at hc
  rcases hc with e | e | e | e <;> omega
theorem pad2_dig (n : Nat) (h : n < 100) : AllDigits (pad2 n) := by
  intro c hc
  unfold pad2 at hc
  simp only [List.mem_cons, List.not_mem_nil, or_false] at hc
  rcases hc with e | e <;> omega
theorem pad4_val {n : Nat} (h : n < 10000) : digitsVal (pad4 n) = n := by
  show ((((0 * 10 + (48 + n / 1000 - 48)) * 10 + (48 + n / 100 % 10 - 48)) * 10 + (48 + n / 10 % 10 - 48)) * 10 + (48 + n % 10 - 48)) = n
  omega
theorem pad2_val {n : Nat} (h : n < 100) : digitsVal (pad2 n) = n := by
  show ((0 * 10 + (48 + n / 10 - 48)) * 10 + (48 + n % 10 - 48)) = n
  omega
noncomputable def DueDay (c : List Nat) (y m e : Int) : Prop := Valid y m e ∧ c = dtx y.toNat m.toNat e.toNat
theorem Valid.bd {y m e : Int} (v : Valid y m e) : y.toNat < 10000 ∧ m.toNat < 100 ∧ e.toNat < 100 := by
  have v1 := v.y2
  have v2 := v.m2
  have v3 := v.e2
  have v4 : mlen y m ≤ 31 := (ml_pos (L := leap y) v.m1 v.m2).2
  omega
theorem DueDay.parts {c : List Nat} {y m e : Int} (d : DueDay c y m e) : ∃ A B C, c = A ++ 45 :: (B ++ 45 :: C) ∧ A.length = 4 ∧ AllDigits A ∧ B.length = 2 ∧ AllDigits B ∧ C.length = 2 ∧ AllDigits C ∧ y = (digitsVal A : Nat) ∧ m = (digitsVal B : Nat) ∧ e = (digitsVal C : Nat) := by
  obtain ⟨v, rfl⟩ := d
  obtain ⟨w1, w2, w3⟩ := v.bd
  have y1 := v.y1
  have m1 := v.m1
  have z1 := v.e1
  exact ⟨_, _, _, rfl, rfl, pad4_dig _ w1, rfl, pad2_dig _ w2, rfl, pad2_dig _ w3, by rw [pad4_val w1]; omega, by rw [pad2_val w2]; omega, by rw [pad2_val w3]; omega⟩
end My

namespace L2
open PySem PySem.Spec PyProof.Rows
noncomputable def rNotB : R2 := fun x y H Q => ∃ a b : Bool, x = .bl a ∧ y = .bl b ∧ Q (.bl (a != b)) H
theorem op_notB {X : Cx} : OpR X (compareOp .IsNot) rNotB := by
  intro pins s σ H x y v u Q I rx ry h
  obtain ⟨a, b, rfl, rfl, q⟩ := h
  cases rx
  cases ry
  exact isnot_bool (fin_bl I q rfl)
theorem z_notB {H : Hp} {Q : VK} {a b : Bool} (q : Q (.bl (a != b)) H) : rNotB (.bl a) (.bl b) H Q := ⟨a, b, rfl, rfl, q⟩
theorem z_NeB {H : Hp} {Q : VK} {a b : Bool} (q : Q (.bl (!decide (a = b))) H) : rNe (.bl a) (.bl b) H Q := by
  refine ⟨rfl, ?_⟩
  have e : decide (V.bl a = V.bl b) = decide (a = b) := by cases a <;> cases b <;> rfl
  rw [e]; exact q
theorem z_cut {t : TS} {σ : St} {H : Hp} {U bk ct : St → Hp → Prop} {rt : VK} (J : St → Hp → Prop) (h : ∀ U' : St → Hp → Prop, (∀ σ' H', J σ' H' → U' σ' H') → t ⟨U', rt, bk, ct⟩ σ H) (q : ∀ σ' H', J σ' H' → U σ' H') : t ⟨U, rt, bk, ct⟩ σ H := h U q
theorem z_ints {is : List Int} {σ : St} {H : Hp} {S : List V → Hp → Prop} (q : S (is.map V.int) H) : tInts is σ H S := q
end L2
namespace L2
open PySem PySem.Spec PyProof.Rows
noncomputable def rCatL (K : PySem.W.Frag) : R2 := fun x y H Q => ∃ l m xs zs, x = .ref l ∧ y = .ref m ∧ SqL K H l xs ∧ SqL K H m zs ∧ xs.length + zs.length ≤ sizeLine ∧ ∀ p, H p = none → Q (.ref p) (upd H p (.lst (xs ++ zs)))
theorem op_catL {X : Cx} : OpR X (binaryOp .Add) (rCatL X.K) := by
  intro pins s σ H x y v u Q I rx ry h
  obtain ⟨l, b, xs, zs, rfl, rfl, hH, hB, hz, q⟩ := h
  cases rx
  cases ry
  obtain ⟨its, r, p1, _⟩ := I.list hH
  obtain ⟨its2, r2, p2, _⟩ := I.list hB
  have l1 := r.length
  have l2 := r2.length
  obtain ⟨⟨cls, dd, data, sl⟩, ho, hc, n, hd⟩ := p1.isList
  obtain ⟨⟨cls2, dd2, data2, sl2⟩, ho2, hc2, n2, hd2⟩ := p2.isList
  simp only at hc hd hc2 hd2
  subst hc hd hc2 hd2
  have e : its.toArray ++ its2.toArray = (its ++ its2).toArray := by simp
  refine concat_meets ⟨_, ho, rfl⟩ ⟨_, ho2, rfl⟩ noFill_list_add seq_list_add PySem.F.slot_list_add PySem.F.entry_list_add (PySem.F.args_list_add_2 _ _) (list_addW l b its.toArray its2.toArray n n2 dd dd2 sl sl2 (by rw [List.size_toArray, List.size_toArray]; omega)) ⟨ho, ho2, ?_⟩
  rw [e]
  exact ⟨.ref _, _, I.lnew (t' := s.toks) (r.append r2) (by rw [List.length_append]; omega), rfl, q _ I.fresh⟩
end L2

namespace L2
open PySem PySem.Spec PyProof.Rows
section
variable {X : Cx} {pins : List (Addr × Obj)} {σ : St} {H : Hp} {s : Shared} {h' : Heap}
theorem Inv.turnedL {t' : Nat} {fp : List Addr} (I : Inv X pins σ H s) (k : ∀ b o, b ∉ fp → s.heap.get? b = some o → h'.get? b = some o) (hf : ∀ b ∈ fp, FpOk X pins H b) : Inv X pins σ H { s with heap := h', toks := t' } := by
  have nit : ∀ b u, H b = some u → b ∉ fp := fun b u e z => by rw [(hf b z).1] at e; cases e
  refine I.step (g' := s.gens) (d' := s.drawn) (ch := fp) (fun b hb => ?_) (fun b o _ _ hc e _ => k b o hc e) (fun b o _ _ hc e _ => ⟨o.slots, k b o hc e⟩) (fun _ _ _ _ n => n)
    (fun b o hc e => ⟨o, k b o hc e⟩) (fun _ _ e => e) (fun _ _ _ e => e) (fun b ps e => ⟨#[], by rw [e]; simp⟩) (fun m hm => ?_) (fun b u e => ?_) I.bare
  · obtain ⟨_, f1, _, f3, f4, f5⟩ := hf b hb
    exact ⟨f3, f1, f4, f5⟩
  · obtain ⟨o, es, ep, ho, r⟩ := hm
    exact ⟨o, es, ep, k _ o (fun z => (hf _ z).2.1 rfl) ho, r⟩
  · refine (I.hok b u e).stay (fun c v hc q => k c v ?_ q) (fun _ q => q) fun _ _ q => q
    rcases hc with z | z
    · rw [z]; exact nit b u e
    · exact nit c _ z
end
noncomputable def Ite (K : PySem.W.Frag) (a : Addr) : It :=
  ⟨fun i H => ∃ xs x, SqL K H a xs ∧ xs[i]? = some x, fun i H v H' => ∃ p x, v = .ref p ∧ H p = none ∧ (∀ xs, SqL K H a xs → xs[i]? = some x) ∧ H' = upd H p (.tup [.int i, x]), fun i H => ∃ xs, SqL K H a xs ∧ xs.length ≤ i⟩
theorem turn_enum {P : Program} {w : World} {K : PySem.W.Frag} {elts : List Expr} {x1 : _} {pos : Pos} (a e it : Addr) (hne : e ≠ it) : Turn P w K (.Tuple elts x1 pos) (Ite K a) [e, it] e (fun i h => (∃ old, IsEnum h e it i old) ∧ h.IsListIter it a i) where
  mem := by simp
  obj := fun i h st b hb => by
    obtain ⟨⟨old, he⟩, o, ho, c, d⟩ := st
    have hb' : b = e ∨ b = it := by simpa using hb
    rcases hb' with rfl | rfl
    · exact ⟨_, he, fun v z => by cases z⟩
    · exact ⟨o, ho, fun v z => by rw [d] at z; cases z⟩
  keep := fun i h h' st k => by
    obtain ⟨⟨old, he⟩, hi⟩ := st
    exact ⟨⟨old, k e (by simp) _ he⟩, hi.at fun o e' => k it (by simp) o e'⟩
  item := by
    intro X hP hw hK hc i pins s σ H E I hf st hg
    subst hP hw hK
    obtain ⟨xs, x, hq, hx⟩ := hg
    obtain ⟨⟨old, he⟩, hit⟩ := st
    obtain ⟨its, rv, p, hz⟩ := I.list hq
    obtain ⟨u, hu, ru⟩ := rv.get hx
    have hel := Heap.lt_size he
    have hil : it < s.heap.objs.size := by obtain ⟨o, ho, _⟩ := hit; exact Heap.lt_size ho
    refine wpAny_pyNext_enum_item he hit p.isList (x := u) (by simpa using hu) hne fun h1 ho hit1 htup hsz kk => ?_
    refine ⟨.ref s.heap.objs.size, rfl, wpAny_letOwnedTupleGo_enum ho fun h2 he2 sb => ?_⟩
    have sb2 : ∀ b, b ≠ e → h2.get? b = h1.get? b := sb.2
    have hfr : H s.heap.objs.size = none := I.hok.fresh (Nat.le_refl _)
    have I1 : Inv X pins σ (upd H s.heap.objs.size (.tup [.int i, x])) { s with heap := s.heap.push { cls := .type "tuple", data := .seq #[.int i s.toks, u] }, toks := s.toks + 1 } :=
      I.laid (fun b o e => Heap.get?_push_of_some _ e) (Nat.le_refl _) ⟨by show 2 ≤ sizeLine; decide, [.int i s.toks, u], .cons ⟨_, rfl⟩ (.cons ru .nil), _, Heap.get?_push_size _ rfl, rfl, _, rfl⟩
    have hf2 : ∀ b ∈ [e, it], FpOk X pins (upd H s.heap.objs.size (.tup [.int i, x])) b := fun b hb => by
      obtain ⟨f0, f1, f2, f3, f4, f5⟩ := hf b hb
      have hb' : b = e ∨ b = it := by simpa using hb
      have hlt : b < s.heap.objs.size := by rcases hb' with rfl | rfl <;> assumption
      exact ⟨by rw [upd_ne (Nat.ne_of_lt hlt)]; exact f0, f1, f2, f3, f4, f5⟩
    have I2 := Inv.turnedL (h' := h2) (t' := s.toks + 1) (fp := [e, it]) I1 (fun b o hb e' => by
      have hbe : b ≠ e := fun z => hb (by simp [z])
      have hbi : b ≠ it := fun z => hb (by simp [z])
      rw [sb2 b hbe]
      rcases Heap.get?_push_cases e' with ⟨z1, z2⟩ | z
      · rw [z1, z2]; exact htup
      · exact kk b o hbe hbi z) hf2
    refine ⟨.ref s.heap.objs.size, _, I2, rfl, ⟨_, x, rfl, hfr, fun ys hy => by rw [I.list_inj hy hq]; exact hx, rfl⟩, ⟨⟨u, by simpa using he2⟩, ?_⟩, fun b hb => (hf2 b hb).1⟩
    obtain ⟨o, ho', r⟩ := hit1
    exact ⟨o, (sb2 it (Ne.symm hne)).trans ho', r⟩
  done := by
    intro X hP hw hK hc i pins s σ H E I hf st hg
    subst hP hw hK
    obtain ⟨xs, hq, hx⟩ := hg
    obtain ⟨⟨old, he⟩, hit⟩ := st
    obtain ⟨its, rv, p, hz⟩ := I.list hq
    obtain ⟨f0, f1, f2, f3, f4, f5⟩ := hf it (by simp)
    have hl := rv.length
    exact wpAny_pyNext_enum_end (I.ok.hd hc) he hit p.isList (by simp; omega) fun h' eb => ⟨rfl, I.turned (t' := s.toks) (fun b o hb e => eb b o hb e) f0 f1 f3 f4 f5⟩
  self := fun _ _ _ _ _ st h => by
    obtain ⟨⟨old, he⟩, _⟩ := st
    exact wpAny_pyIter_enum he h
section
variable {X : Cx}
noncomputable def iEnum (K : PySem.W.Frag) (ta : TA) : TI := fun σ H R => ta σ H fun vs H1 => ∃ a, vs = [.ref a] ∧ (∃ xs, SqL K H1 a xs) ∧ R (Ite K a) H1
theorem pi_enum {l : Expr} {ta : TA} {elts : List Expr} {x1 : _} {p pos pos' : Pos} (hg : Gl X "enumerate") (hm : X.mg "enumerate" = none) (ha : PA X [l] ta) (hs : starEach [l] X.env = [(false, eval l X.env)] := by rfl) :
    PI X (.Tuple elts x1 pos') (.Call (.Name "enumerate" p) [l] [] pos) (iEnum X.K ta) := by
  intro pins s σ H R I h
  refine Call_ (ld_blt I hg hm PyProof.Rows.boot_enumerate (PyProof.Rows.callWith_type1 (thn (ha pos pins s σ H _ I h) fun us s1 ⟨vs, H1, I1, r1, q1⟩ => ?_) hs rfl))
  obtain ⟨a, e, ⟨xs, hq⟩, q⟩ := q1
  subst e
  cases r1 with
  | cons r rr =>
    cases rr
    cases r
    obtain ⟨its, rv, p, hz⟩ := I1.list hq
    refine call_enumerate_list p.isList fun h' he hit hsz kk => ?_
    have I2 : Inv X pins σ H1 { s1 with heap := h' } := I1.kept (t' := s1.toks) kk
    refine wpAny_pyIter_enum he ⟨s1.heap.objs.size + 1, [s1.heap.objs.size + 1, s1.heap.objs.size], _, _, H1, rfl, I2, turn_enum a _ _ (Nat.succ_ne_self _), ⟨⟨_, he⟩, hit⟩, fun b hb => ?_, q⟩
    have hb' : b = s1.heap.objs.size + 1 ∨ b = s1.heap.objs.size := by simpa using hb
    rcases hb' with rfl | rfl
    · exact I1.fpOk (Nat.le_succ _) (I1.hok.fresh (Nat.le_succ _))
    · exact I1.fpOk (Nat.le_refl _) (I1.hok.fresh (Nat.le_refl _))
end
section
variable {σ : St} {H : Hp} {g : TG} {tb : TS} {nx : St → Hp → Prop} {rt : VK} {K : PySem.W.Frag} {a : Addr} {xs : List V}
theorem z_iE {ta : TA} {R : It → Hp → Prop} (h : ta σ H fun vs H1 => ∃ a, vs = [.ref a] ∧ (∃ xs, SqL K H1 a xs) ∧ R (Ite K a) H1) : iEnum K ta σ H R := h
theorem z_iE2 {S : Addr → Prop} (hs : SqL K H a xs) (q : S a) : ∃ a', [V.ref a] = [.ref a'] ∧ (∃ xs, SqL K H a' xs) ∧ S a' := ⟨a, rfl, ⟨xs, hs⟩, q⟩
theorem f_enum (Pv : Nat → St → Hp → Prop) (h0 : Pv 0 σ H) (hl : ∀ i σ H, i ≤ xs.length → Pv i σ H → SqL K H a xs)
    (hs : ∀ i x σ H, xs[i]? = some x → Pv i σ H → ∀ p H', Same H H' → H' p = some (.tup [.int i, x]) → g (.ref p) σ H' fun σ2 H2 => tb ⟨Pv (i + 1), rt, nx, Pv (i + 1)⟩ σ2 H2) (hd : ∀ σ H, Pv xs.length σ H → nx σ H) : FW (Ite K a) g tb nx rt σ H := by
  refine ⟨fun i m σ H => Pv i σ H ∧ i ≤ xs.length ∧ m = xs.length - i, ⟨_, h0, Nat.zero_le _, rfl⟩, fun i m σ H ⟨hp, hi, hm⟩ => ?_⟩
  rcases Nat.lt_or_ge i xs.length with hlt | hge
  · obtain ⟨x, hx⟩ : ∃ x, xs[i]? = some x := ⟨_, List.getElem?_eq_getElem hlt⟩
    refine .inr ⟨⟨xs, x, hl i σ H hi hp, hx⟩, Pv (i + 1), fun σ' H' h => ⟨xs.length - (i + 1), by omega, h, by omega, rfl⟩, ?_⟩
    rintro v H' ⟨p, y, rfl, hn, hy, rfl⟩
    have e := hy _ (hl i σ H hi hp)
    rw [hx] at e
    cases e
    exact hs i x σ H hx hp p _ (Same.new hn _) upd_same
  · have e : i = xs.length := by omega
    subst e
    exact .inl ⟨⟨xs, hl _ σ H hi hp, Nat.le_refl _⟩, hd σ H hp⟩
end
end L2

namespace L2
open PySem PySem.Spec PyProof.Rows

section
variable {κ : Type} [DecidableEq κ]
noncomputable def valV (kvs : List (κ × V)) (k : κ) : Option V := (kvs.find? fun kv => decide (kv.1 = k)).map (·.2)
noncomputable def putK (kvs : List (κ × V)) (k : κ) (v : V) : List (κ × V) :=
  if (kvs.any fun kv => decide (kv.1 = k)) = true then kvs.map (fun kv => if kv.1 = k then (kv.1, v) else kv) else kvs ++ [(k, v)]
noncomputable def dropK (kvs : List (κ × V)) (k : κ) : List (κ × V) := kvs.filter fun kv => decide (kv.1 ≠ k)

theorem valV_pos {p : κ × V} {r : List (κ × V)} {k : κ} (e : p.1 = k) : valV (p :: r) k = some p.2 := by simp [valV, List.find?_cons, e]
theorem valV_neg {p : κ × V} {r : List (κ × V)} {k : κ} (e : ¬ p.1 = k) : valV (p :: r) k = valV r k := by simp [valV, List.find?_cons, e]
theorem RelO.getD {o : Option V} {u : Option Value} {d : V} {d' : Value} (r : RelO o u) (rd : RelV d d') : RelV (o.getD d) (u.getD d') := by
  cases o with
  | none => cases u with
    | none => exact rd
    | some _ => exact (show False from r).elim
  | some _ => cases u with
    | none => exact (show False from r).elim
    | some _ => exact r

theorem KV.val {kvs : List (κ × V)} {vs : List (κ × Value)} (r : KV kvs vs) (k : κ) : RelO (valV kvs k) (valueAt vs k) := by
  unfold KV at r
  induction r with
  | nil => exact True.intro
  | @cons p q ps qs h t ih =>
    obtain ⟨h1, h2⟩ := h
    by_cases e : p.1 = k
    · have e' : q.1 = k := h1.symm.trans e
      have b : valueAt (q :: qs) k = some q.2 := by simp [valueAt, List.find?_cons, e']
      rw [valV_pos e, b]; exact h2
    · have e' : ¬ q.1 = k := fun z => e (h1.trans z)
      have b : valueAt (q :: qs) k = valueAt qs k := by simp [valueAt, List.find?_cons, e']
      rw [valV_neg e, b]; exact ih
theorem KV.any {kvs : List (κ × V)} {vs : List (κ × Value)} (r : KV kvs vs) (k : κ) : (kvs.any fun kv => decide (kv.1 = k)) = vs.any fun kv => decide (kv.1 = k) := by
  unfold KV at r
  induction r with
  | nil => rfl
  | cons h t ih => rw [List.any_cons, List.any_cons, ih, h.1]
theorem KV.drop {kvs : List (κ × V)} {vs : List (κ × Value)} (r : KV kvs vs) (k : κ) : KV (dropK kvs k) (without vs k) := by
  unfold KV at r ⊢
  unfold dropK without
  induction r with
  | nil => exact .nil
  | @cons p q ps qs h t ih =>
    obtain ⟨h1, h2⟩ := h
    rw [List.filter_cons, List.filter_cons]
    by_cases e : p.1 = k
    · have a : ¬ decide (p.1 ≠ k) = true := by simp [e]
      have b : ¬ decide (q.1 ≠ k) = true := by simp [h1.symm.trans e]
      rw [if_neg a, if_neg b]; exact ih
    · have e' : ¬ q.1 = k := fun z => e (h1.trans z)
      have a : decide (p.1 ≠ k) = true := by simp [e]
      have b : decide (q.1 ≠ k) = true := by simp [e']
      rw [if_pos a, if_pos b]; exact .cons ⟨h1, h2⟩ ih
theorem KV.length {kvs : List (κ × V)} {vs : List (κ × Value)} (r : KV kvs vs) : kvs.length = vs.length := Paired.length r
end


abbrev KT (H : Hp) : List (List Key × V) → List (List Key × Addr × Value) → Prop := Paired fun p q => p.1 = q.1 ∧ H q.2.1 = some (.tup (p.1.map kV)) ∧ RelV p.2 q.2.2
theorem KT.val {H : Hp} {kvs : List (List Key × V)} {xs : List (List Key × Addr × Value)} (r : KT H kvs xs) (k : List Key) : RelO (valV kvs k) ((atKey xs k).map (·.2)) := by
  induction r with
  | nil => exact True.intro
  | @cons p q ps qs h t ih =>
    obtain ⟨h1, _, h2⟩ := h
    by_cases e : p.1 = k
    · have e' : q.1 = k := h1.symm.trans e
      have b : atKey (q :: qs) k = some q.2 := by simp [atKey, List.find?_cons, e']
      rw [valV_pos e, b]; exact h2
    · have e' : ¬ q.1 = k := fun z => e (h1.trans z)
      have b : atKey (q :: qs) k = atKey qs k := by simp [atKey, List.find?_cons, e']
      rw [valV_neg e, b]; exact ih
theorem KT.keeps {H H' : Hp} {kvs : List (List Key × V)} {xs : List (List Key × Addr × Value)} (r : KT H kvs xs) (ht : ∀ b ys, H b = some (.tup ys) → H' b = some (.tup ys)) : KT H' kvs xs :=
  Paired.mapP r fun _ _ z => ⟨z.1, ht _ _ z.2.1, z.2.2⟩

section
variable {P : Program} {w : World} {H : Hp} {h : Heap} {a : Addr}
end

noncomputable def DGet (H : Hp) (a : Addr) (y : V) (r : Option V) : Prop :=
  (∃ kvs k, Rd H a (.dK kvs) ∧ y = kV k ∧ r = valV kvs k) ∨ ∃ kvs k b, Rd H a (.dT kvs) ∧ y = .ref b ∧ H b = some (.tup (k.map kV)) ∧ r = valV kvs k
noncomputable def DPut (H : Hp) (a : Addr) (y v : V) (H' : Hp) : Prop :=
  (∃ kvs k, H a = some (.dK kvs) ∧ y = kV k ∧ kvs.length < sizeLine ∧ H' = upd H a (.dK (putK kvs k v))) ∨
  ∃ kvs k b, H a = some (.dT kvs) ∧ y = .ref b ∧ H b = some (.tup (k.map kV)) ∧ kvs.length < sizeLine ∧ H' = upd H a (.dT (putK kvs k v))
theorem DGet.k {H : Hp} {a : Addr} {kvs : List (Key × V)} {k : Key} (e : H a = some (.dK kvs)) : DGet H a (kV k) (valV kvs k) := .inl ⟨kvs, k, .inl e, rfl, rfl⟩
theorem DGet.t {H : Hp} {a b : Addr} {kvs : List (List Key × V)} {k : List Key} (e : H a = some (.dT kvs)) (eb : H b = some (.tup (k.map kV))) : DGet H a (.ref b) (valV kvs k) := .inr ⟨kvs, k, b, .inl e, rfl, eb, rfl⟩
theorem DPut.k {H : Hp} {a : Addr} {kvs : List (Key × V)} {k : Key} {v : V} (e : H a = some (.dK kvs)) (hl : kvs.length < sizeLine) : DPut H a (kV k) v (upd H a (.dK (putK kvs k v))) := .inl ⟨kvs, k, e, rfl, hl, rfl⟩
theorem DPut.t {H : Hp} {a b : Addr} {kvs : List (List Key × V)} {k : List Key} {v : V} (e : H a = some (.dT kvs)) (eb : H b = some (.tup (k.map kV))) (hl : kvs.length < sizeLine) :
    DPut H a (.ref b) v (upd H a (.dT (putK kvs k v))) := .inr ⟨kvs, k, b, e, rfl, eb, hl, rfl⟩


section
variable {X : Cx} {pins : List (Addr × Obj)} {σ : St} {H : Hp} {s : Shared} {a : Addr} {y v : V} {u r : Value} {o : Option V} {A : Around} {E : Value → Shared → Prop}

theorem Inv.big (I : Inv X pins σ H s) : sysModules < s.heap.objs.size := by
  have h : mainGlobals < s.heap.objs.size := (I.mod.glob.keeps I.bk).lt
  exact Nat.lt_trans (by decide) h

end

section
variable {X : Cx} {pins : List (Addr × Obj)} {σ : St} {H : Hp} {s : Shared} {a : Addr} {kvs : List (Key × V)} {k : Key} {u : Value} {A : Around} {E : Value → Shared → Prop}
end


section
variable {X : Cx} {o i e value : Expr} {pos pos' tpos : Pos} {td ty tv : TE}
end


theorem dk_empty {P : Program} {w : World} {H : Hp} (h : Heap) (hb : sysModules < h.objs.size) : ObjOk P w H (h.push { cls := .type "dict", data := .dict #[] }) h.objs.size (.dK []) :=
  ⟨Nat.zero_le _, beq_eq_false_iff_ne.mpr (Ne.symm (Nat.ne_of_lt hb)), [], .nil, Heap.DictOf.new h⟩
noncomputable def tDNewK : TE := fun _ H Q => ∀ p, H p = none → Q (.ref p) (upd H p (.dK []))
section
variable {X : Cx} {pos : Pos}
theorem pe_dnewK : PE X (.Dict [] [] pos) tDNewK := fun pins s σ H Q I h =>
  wpAny_Dict_empty ⟨.ref s.heap.objs.size, _, I.laid (a := s.heap.objs.size) (o := .dK []) (t' := s.toks) (fun _ _ q => Heap.get?_push_of_some _ q) (Nat.le_refl _) (dk_empty s.heap I.big), rfl, h _ (I.hok.fresh (Nat.le_refl _))⟩
end

section
variable {X : Cx} {pins : List (Addr × Obj)} {σ : St} {H : Hp} {s : Shared} {a : Addr} {y d : V} {u r : Value} {o : Option V} {A : Around} {E : Value → Shared → Prop}
end

section
variable {X : Cx} {o e f : Expr} {apos cpos : Pos} {td ty tx : TE}
end

section
variable {X : Cx} {pins : List (Addr × Obj)} {σ : St} {H : Hp} {s : Shared} {a : Addr} {kvs : List (Key × V)} {A : Around} {E : Value → Shared → Prop}
end


section
variable {X : Cx} {pins : List (Addr × Obj)} {σ : St} {H : Hp} {s : Shared} {a : Addr} {y : V} {u : Value} {A : Around} {E : Value → Shared → Prop}
end
end L2


namespace L2
open PySem PySem.Spec PyProof.Rows
section
variable {X : Cx}
end
section
variable {κ : Type} [DecidableEq κ]
end
end L2

namespace L2
open PySem PySem.Spec PyProof.Rows PySem.Builtin
section
variable {X : Cx}
end
theorem z_tupL {K : PySem.W.Frag} {H : Hp} {Q : VK} {p : Addr} {ys : List V} (h : SqL K H p ys) (q : ∀ l H', H l = none → Same H H' → H' l = some (.tup ys) → Q (.ref l) H') : ∃ p' ys', [V.ref p] = [.ref p'] ∧ ((SqL K H p' ys' ∧ ∀ l, H l = none → Q (.ref l) (upd H l (.tup ys'))) ∨ (SqT K H p' ys' ∧ Q (.ref p') H)) :=
  ⟨p, ys, rfl, .inl ⟨h, fun l hl => q l _ hl (Same.new hl _) upd_same⟩⟩
theorem lct_list {K : PySem.W.Frag} {a : Addr} {xs : List V} {st : St} {te : TE} {H1 : Hp} {Q : VK} (pr : Nat → V × V) (f : Nat → V) (hs : SqL K H1 a xs) (hn : xs.length ≤ sizeLine)
    (hp : ∀ i x, xs[i]? = some x → ∃ p, x = .ref p ∧ SqT K H1 p [(pr i).1, (pr i).2])
    (he : ∀ i H2 (S : V → Hp → Prop), i < xs.length → Same H1 H2 → (∀ H3, Same H2 H3 → S (f i) H3) → te (some (pr i).1 :: some (pr i).2 :: st) H2 S)
    (fin : ∀ acc H2, H1 acc = none → Same H1 H2 → H2 acc = some (.lst ((List.range xs.length).map f)) → Q (.ref acc) H2) :
    LCW 2 st (Itl K a) (gTup K 2 (gCons (gName 0) (gCons (gName 1) gNil))) tYes te H1 Q := by
  intro acc hacc
  refine ⟨fun i m σb H2 => m = xs.length - i ∧ i ≤ xs.length ∧ Same H1 H2 ∧ H2 acc = some (.lst ((List.range i).map f)) ∧ ∃ u v, σb = u :: v :: st, ⟨xs.length, by simp, Nat.zero_le _, Same.new hacc _, upd_same, none, none, rfl⟩, ?_⟩
  rintro i m σb H2 ⟨rfl, hi, sH, ha, u, v, rfl⟩
  by_cases hlt : i < xs.length
  · have hx : xs[i]? = some xs[i] := List.getElem?_eq_getElem hlt
    refine .inr ⟨⟨xs, _, sH.seq hs, hx⟩, fun x H3 y => ?_⟩
    have e := y.2 xs (sH.seq hs)
    obtain ⟨p, rfl, hpt⟩ := hp i x e
    rw [y.1]
    refine ⟨p, _, rfl, sH.tup hpt, rfl, _, _, rfl, _, _, rfl, rfl, ?_⟩
    unfold tYes
    refine iteT ?_
    refine he i H2 _ hlt sH (fun H6 s6 => ⟨_, xs.length - (i + 1), s6 _ _ ha, by rw [List.length_map, List.length_range]; omega, by omega, rfl, hlt, Same.but (sH.trans s6) hacc But.upd, ?_, _, _, rfl⟩)
    rw [upd_same, List.range_succ, List.map_append]
    rfl
  · have e : i = xs.length := by omega
    subst e
    exact .inl ⟨⟨xs, sH.seq hs, Nat.le_refl _⟩, fin acc H2 hacc sH ha⟩
theorem compOkG2_of {X : Cx} {t1 t2 : Str} {sc : Scope} {fr : List (Str × Nat)} {osc : Scope} {N : List Str} (ho : X.env.scope = osc) (hN : X.N = N) (h1 : compOkB osc N t1 sc fr = true) (h2 : compOkB osc N t2 sc fr = true) (hne : t1 ≠ t2) : CompOkG X [t1, t2] sc fr ∧ sc.names.lookup t1 = some .local ∧ sc.names.lookup t2 = some .local := by
  have o1 := compOk_of ho hN h1
  have o2 := compOk_of ho hN h2
  refine ⟨⟨o1.kind, o1.nocell, o1.locs, o1.fre, ?_, o1.vis⟩, o1.tgl, o2.tgl⟩
  obtain ⟨a1, a2⟩ := List.nodup_cons.mp o1.nd
  exact List.nodup_cons.mpr ⟨fun m => (List.mem_cons.mp m).elim hne a1, o2.nd⟩
theorem pe_lcP {X : Cx} {elt iter : Expr} {t1 t2 : Str} {x1 : _} {p1 p2 p3 pos : Pos} {sc : Scope} {fr : List (Str × Nat)} {wi : TI} {te : TE} (hc : X.calm = true) (ok : CompOkG X [t1, t2] sc fr ∧ sc.names.lookup t1 = some .local ∧ sc.names.lookup t2 = some .local)
    (hi : PI X (.Tuple [.Name t1 p1, .Name t2 p2] x1 p3) iter wi) (he : ∀ cl C s3 H3 fp, PE (X.blk ([t1, t2] ++ fr.map (·.1)) sc cl C s3 H3 fp) elt te) (hs : ∀ x, foldedSetIterable iter X.env x = pure x := by intro _; rfl) :
    PE X (.ListComp elt [⟨.Tuple [.Name t1 p1, .Name t2 p2] x1 p3, iter, [], 0⟩] sc pos) (tLCG 2 fr wi (gTup X.K 2 (gCons (gName 0) (gCons (gName 1) gNil))) tYes te) :=
  pe_lcG (tgs := [t1, t2]) hc ok.1 hi (fun _ _ _ _ _ => pg_tup hc (pgs_cons (pg_name ok.1.nd rfl (.inl (lookup_relabel_local ok.2.1)) (.inr (lookup_relabel_local ok.2.1))) (pgs_cons (pg_name ok.1.nd rfl (.inl (lookup_relabel_local ok.2.2)) (.inr (lookup_relabel_local ok.2.2))) pgs_nil))) (fun _ _ _ _ _ => pif_nil) he hs
end L2

namespace L2
open PySem PySem.Spec PyProof.Rows
theorem pe_lcPIf {X : Cx} {elt iter c : Expr} {t1 t2 : Str} {x1 : _} {p1 p2 p3 pos : Pos} {sc : Scope} {fr : List (Str × Nat)} {wi : TI} {te : TE} {tc : TT} (hc : X.calm = true) (ok : CompOkG X [t1, t2] sc fr ∧ sc.names.lookup t1 = some .local ∧ sc.names.lookup t2 = some .local)
    (hi : PI X (.Tuple [.Name t1 p1, .Name t2 p2] x1 p3) iter wi) (ht : ∀ cl C s3 H3 fp, PT (X.blk ([t1, t2] ++ fr.map (·.1)) sc cl C s3 H3 fp) c tc) (he : ∀ cl C s3 H3 fp, PE (X.blk ([t1, t2] ++ fr.map (·.1)) sc cl C s3 H3 fp) elt te) (hs : ∀ x, foldedSetIterable iter X.env x = pure x := by intro _; rfl) :
    PE X (.ListComp elt [⟨.Tuple [.Name t1 p1, .Name t2 p2] x1 p3, iter, [c], 0⟩] sc pos) (tLCG 2 fr wi (gTup X.K 2 (gCons (gName 0) (gCons (gName 1) gNil))) tc te) :=
  pe_lcG (tgs := [t1, t2]) hc ok.1 hi (fun _ _ _ _ _ => pg_tup hc (pgs_cons (pg_name ok.1.nd rfl (.inl (lookup_relabel_local ok.2.1)) (.inr (lookup_relabel_local ok.2.1))) (pgs_cons (pg_name ok.1.nd rfl (.inl (lookup_relabel_local ok.2.2)) (.inr (lookup_relabel_local ok.2.2))) pgs_nil))) (fun _ _ _ _ _ => pif_one (ht _ _ _ _ _)) he hs
end L2

namespace L2
open PySem PySem.Spec PyProof.Rows

section
open PySem.W PySem.Calls PySem.Builtin PySem.Builtin.ObjectAttr PySem.Builtin.Getset_descriptor
variable {prog : Program} {w : World} {A : Around} {E : Value → Shared → Prop} {s : Shared} {K : Frag} {a C : Addr} {oe : Obj}
end
end L2

namespace L2
open PySem PySem.Spec PyProof.Rows
section
variable {X : Cx} {pins : List (Addr × Obj)} {σ : St} {H H' : Hp} {s s' : Shared}
end
section
variable {X : Cx} {pins : List (Addr × Obj)} {σ : St} {H : Hp} {s s' : Shared} {E : XK} {ex : Value} {x n : Str} {T C : Addr} {np hpos : Pos} {b0 : Stmt} {suite : List Stmt} {ts : Addr → TS} {D : Ends} {j : Nat}
end
section
variable {X : Cx} {k : Nat} {f : Addr} {fd : FuncData} {ps : List Str} {sp : Sp} {dvs : List V} {ds : List Value} {fx x cx n : Str} {p cpos px apos np hpos pos : Pos} {e : Expr} {es : List Expr} {t : TA} {T C : Addr} {b0 : Stmt} {suite : List Stmt} {ts : Addr → TS} {i j : Nat}
end
end L2

namespace L2
open PySem PySem.Spec PyProof.Rows
section
variable {X : Cx} {pins : List (Addr × Obj)} {σ : St} {H : Hp} {s : Shared}
end
section
variable {X : Cx} {C : Addr} {b : Bool}
end
section
variable {P : Program} {w : World} {K : PySem.W.Frag} {mg : Str → Option Value} {base : Heap}
end
section
variable {X : Cx} {k : Nat} {f : Addr} {fd : FuncData} {ps : List Str} {sp : Sp} {x : Str} {p pos : Pos} {e : Expr} {es : List Expr} {t : TA}
end
section
variable {X : Cx} {pins : List (Addr × Obj)} {σ : St} {H : Hp} {s s' : Shared} {E : XK} {ex : Value} {x n : Str} {T C : Addr} {np hpos : Pos} {b0 : Stmt} {suite : List Stmt} {ts : Addr → TS} {D : Ends} {j : Nat}
end
section
variable {X : Cx} {k : Nat} {f : Addr} {fd : FuncData} {ps : List Str} {sp : Sp} {dvs : List V} {ds : List Value} {fx x cx n : Str} {p cpos px apos np hpos pos : Pos} {e : Expr} {es : List Expr} {t : TA} {T C : Addr} {b0 : Stmt} {suite : List Stmt} {ts : Addr → TS} {i j : Nat}
end
end L2

namespace L2
open PySem PySem.Spec PyProof.Rows
end L2

namespace L2
open PySem PySem.Spec PyProof.Rows
noncomputable def rIsiTL (K : PySem.W.Frag) : List V → Hp → VK → Prop := fun xs H Q => ∃ x g tp, xs = [x, .ref tp] ∧ SqT K H tp [.ty "tuple", .ty "list"] ∧ tgIs K H x g ∧ Q (.bl (g.isTup || g.isLst)) H
section
variable {K : PySem.W.Frag}
end
end L2

namespace L2
open PySem PySem.Spec PyProof.Rows
noncomputable def QIt (q : Bool) (h : Heap) (n a : Addr) (k : Nat) : Prop := ∃ o, h.get? n = some o ∧ o.cls = .type (if q = true then "tuple_iterator" else "list_iterator") ∧ o.data = .fields #[.ref a, .int k 0]
noncomputable def QSq (q : Bool) (h : Heap) (a : Addr) (us : Array Value) : Prop := ∃ o, h.get? a = some o ∧ o.cls = .type (if q = true then "tuple" else "list") ∧ ∃ n, o.data = .seq us n
theorem QIt.at {q : Bool} {h h' : Heap} {n a : Addr} {k : Nat} (x : QIt q h n a k) (e : ∀ o, h.get? n = some o → h'.get? n = some o) : QIt q h' n a k := by
  obtain ⟨o, ho, r⟩ := x; exact ⟨o, e o ho, r⟩
theorem QSq.at {q : Bool} {h h' : Heap} {a : Addr} {us : Array Value} (x : QSq q h a us) (e : ∀ o, h.get? a = some o → h'.get? a = some o) : QSq q h' a us := by
  obtain ⟨o, ho, r⟩ := x; exact ⟨o, e o ho, r⟩
section
variable {P : Program} {w : World} {A : Around} {E : Value → Shared → Prop} {s : Shared} {q : Bool} {n a : Addr} {k : Nat} {us : Array Value} {u : Value}
end
section
variable {P : Program} {w : World} {A : Around} {E : Value → Shared → Prop} {s : Shared} {q1 q2 : Bool} {z ti to n1 n2 a1 a2 : Addr} {k : Nat} {us vs : Array Value} {u v c d : Value}
end
end L2

namespace L2
open PySem PySem.Spec PyProof.Rows
noncomputable def SqB (q : Bool) (K : PySem.W.Frag) (H : Hp) (a : Addr) (xs : List V) : Prop := if q = true then SqT K H a xs else SqL K H a xs
section
variable {X : Cx} {pins : List (Addr × Obj)} {σ : St} {H : Hp} {s : Shared} {q : Bool} {a : Addr} {xs ys : List V}
end
section
variable {X : Cx}
end
end L2

namespace L2
open PySem PySem.Spec PyProof.Rows
inductive Tr where
  | non | bl (b : Bool) | int (i : Int) | str (x : Str) | tup (ts : List Tr) | lst (ts : List Tr) | dct (kvs : List (Key × Tr)) | ty (n : String)
mutual
inductive Is (K : PySem.W.Frag) (F : Hp) : V → Tr → Prop
  | non : Is K F .non .non
  | bl {b : Bool} : Is K F (.bl b) (.bl b)
  | int {i : Int} : Is K F (.int i) (.int i)
  | str {x : Str} : Is K F (.str x) (.str x)
  | ty {n : String} : Is K F (.ty n) (.ty n)
  | tup {p : Addr} {vs : List V} {ts : List Tr} : SqT K F p vs → IsL K F vs ts → Is K F (.ref p) (.tup ts)
  | lst {p : Addr} {vs : List V} {ts : List Tr} : SqL K F p vs → IsL K F vs ts → Is K F (.ref p) (.lst ts)
  | dct {p : Addr} {kvs : List (Key × V)} {ts : List (Key × Tr)} : F p = some (.dK kvs) → kvs.map (·.1) = ts.map (·.1) → IsL K F (kvs.map (·.2)) (ts.map (·.2)) → Is K F (.ref p) (.dct ts)
inductive IsL (K : PySem.W.Frag) (F : Hp) : List V → List Tr → Prop
  | nil : IsL K F [] []
  | cons {v : V} {t : Tr} {vs : List V} {ts : List Tr} : Is K F v t → IsL K F vs ts → IsL K F (v :: vs) (t :: ts)
end
mutual
theorem Is.same {K : PySem.W.Frag} {F F' : Hp} (s : Same F F') : ∀ {v : V} {t : Tr}, Is K F v t → Is K F' v t
  | _, _, .non => .non
  | _, _, .bl => .bl
  | _, _, .int => .int
  | _, _, .str => .str
  | _, _, .ty => .ty
  | _, _, .tup h g => .tup (s.tup h) (IsL.same s g)
  | _, _, .lst h g => .lst (s.seq h) (IsL.same s g)
  | _, _, .dct h e g => .dct (s _ _ h) e (IsL.same s g)
theorem IsL.same {K : PySem.W.Frag} {F F' : Hp} (s : Same F F') : ∀ {vs : List V} {ts : List Tr}, IsL K F vs ts → IsL K F' vs ts
  | _, _, .nil => .nil
  | _, _, .cons h g => .cons (Is.same s h) (IsL.same s g)
end
section
variable {K : PySem.W.Frag} {F : Hp}
theorem IsL.length : ∀ {vs : List V} {ts : List Tr}, IsL K F vs ts → vs.length = ts.length
  | _, _, .nil => rfl
  | _, _, .cons _ g => congrArg (· + 1) (IsL.length g)
theorem IsL.get : ∀ {vs : List V} {ts : List Tr} {i : Nat} {t : Tr}, IsL K F vs ts → ts[i]? = some t → ∃ v, vs[i]? = some v ∧ Is K F v t
  | _, _, _, _, .nil, e => by simp at e
  | _, _, 0, _, .cons h _, e => by simp at e; subst e; exact ⟨_, rfl, h⟩
  | _, _, i + 1, t, .cons _ g, e => by
    obtain ⟨u, h1, h2⟩ := IsL.get (i := i) (t := t) g (by simpa using e)
    exact ⟨u, by simpa using h1, h2⟩
theorem IsL.get2 : ∀ {vs : List V} {ts : List Tr} {i : Nat} {v : V}, IsL K F vs ts → vs[i]? = some v → ∃ t, ts[i]? = some t ∧ Is K F v t
  | _, _, _, _, .nil, e => by simp at e
  | _, _, 0, _, .cons h _, e => by simp at e; subst e; exact ⟨_, rfl, h⟩
  | _, _, i + 1, t, .cons _ g, e => by
    obtain ⟨u, h1, h2⟩ := IsL.get2 (i := i) (v := t) g (by simpa using e)
    exact ⟨u, by simpa using h1, h2⟩
theorem IsL.app : ∀ {vs ws : List V} {ts us : List Tr}, IsL K F vs ts → IsL K F ws us → IsL K F (vs ++ ws) (ts ++ us)
  | _, _, _, _, .nil, s => s
  | _, _, _, _, .cons h g, s => .cons h (IsL.app g s)
theorem IsL.take : ∀ {vs : List V} {ts : List Tr} (n : Nat), IsL K F vs ts → IsL K F (vs.take n) (ts.take n)
  | _, _, 0, _ => .nil
  | _, _, _ + 1, .nil => .nil
  | _, _, n + 1, .cons h g => .cons h (IsL.take n g)
theorem IsL.drop : ∀ {vs : List V} {ts : List Tr} (n : Nat), IsL K F vs ts → IsL K F (vs.drop n) (ts.drop n)
  | _, _, 0, h => h
  | _, _, _ + 1, .nil => .nil
  | _, _, n + 1, .cons _ g => IsL.drop n g
theorem IsL.snoc {vs : List V} {ts : List Tr} {v : V} {t : Tr} (h : IsL K F vs ts) (g : Is K F v t) : IsL K F (vs ++ [v]) (ts ++ [t]) := h.app (.cons g .nil)
theorem IsL.rev : ∀ {vs : List V} {ts : List Tr}, IsL K F vs ts → IsL K F vs.reverse ts.reverse
  | _, _, .nil => .nil
  | _, _, .cons h g => by rw [List.reverse_cons, List.reverse_cons]; exact (IsL.rev g).snoc h
theorem IsL.strs : ∀ {vs : List V} {ns : List Str}, IsL K F vs (ns.map Tr.str) → vs = ns.map V.str
  | _, [], .nil => rfl
  | _, _ :: _, .cons .str g => by rw [List.map_cons, IsL.strs g]
theorem IsL.ofInts : ∀ (ns : List Int), IsL K F (ns.map V.int) (ns.map Tr.int)
  | [] => .nil
  | _ :: r => .cons .int (IsL.ofInts r)
end
noncomputable def Mb : HO → Prop
  | .lst _ => True
  | .dK _ => True
  | .tbl _ => True
  | _ => False
structure Bk where
  K : PySem.W.Frag
  F0 : Hp
  H0 : Hp
  W : Addr → Prop
  J : Hp → Prop
  rt : Addr
  jl : ∀ H H' : Hp, (∀ p, W p → H p = H' p) → (∀ p φ, H p = some (.ext φ) → H' p = some (.ext φ)) → J H → J H'
  jm : ∀ (H : Hp) (p : Addr), J H → W p → ∃ o, H p = some o ∧ Mb o
structure Up (B : Bk) (F H F' H' : Hp) : Prop where
  f : Same F F'
  h : ∀ p o, ¬ B.W p → H p = some o → H' p = some o
  i : Same F' H'
  m : ∀ p o, H p = some o → Mb o → F p = none → F' p = none
  w : ∀ p, H' p = none → H p = none
  x : ∀ p, B.W p → F p = none → F' p = none
  j : B.J H → B.J H'
theorem Up.refl {B : Bk} {F H : Hp} (i : Same F H) : Up B F H F H := ⟨Same.refl _, fun _ _ _ h => h, i, fun _ _ _ _ h => h, fun _ h => h, fun _ _ h => h, fun h => h⟩
theorem Up.trans {B : Bk} {F H F1 H1 F2 H2 : Hp} (a : Up B F H F1 H1) (b : Up B F1 H1 F2 H2) : Up B F H F2 H2 := ⟨a.f.trans b.f, fun p o n h => b.h p o n (a.h p o n h), b.i, fun p o h mb n => by
  by_cases hw : B.W p
  · exact b.x p hw (a.x p hw n)
  · exact b.m p o (a.h p o hw h) mb (a.m p o h mb n), fun p h => a.w p (b.w p h), fun p hw n => b.x p hw (a.x p hw n), fun h => b.j (a.j h)⟩
inductive Ow (K : PySem.W.Frag) (F H : Hp) (l : Addr) : Tr → Prop
  | lst {vs : List V} {ts : List Tr} : H l = some (.lst vs) → IsL K F vs ts → Ow K F H l (.lst ts)
  | dct {kvs : List (Key × V)} {ts : List (Key × Tr)} : H l = some (.dK kvs) → kvs.map (·.1) = ts.map (·.1) → IsL K F (kvs.map (·.2)) (ts.map (·.2)) → Ow K F H l (.dct ts)
theorem Ow.mb {K : PySem.W.Frag} {F H : Hp} {l : Addr} {t : Tr} (h : Ow K F H l t) : ∃ o, H l = some o ∧ Mb o := by
  cases h with
  | lst h _ => exact ⟨_, h, trivial⟩
  | dct h _ _ => exact ⟨_, h, trivial⟩
theorem Ow.to {K : PySem.W.Frag} {F F' H H' : Hp} {l : Addr} {t : Tr} (h : Ow K F H l t) (s : Same F F') (e : ∀ o, H l = some o → H' l = some o) : Ow K F' H' l t := by
  cases h with
  | lst h g => exact .lst (e _ h) (g.same s)
  | dct h e' g => exact .dct (e _ h) e' (g.same s)
theorem Ow.is {K : PySem.W.Frag} {F H F' : Hp} {l : Addr} {t : Tr} (h : Ow K F H l t) (s : Same F F') (e : F' l = H l) : Is K F' (.ref l) t := by
  cases h with
  | lst h g => exact .lst (SqL.of (by rw [e, h])) (g.same s)
  | dct h e' g => exact .dct (by rw [e, h]) e' (g.same s)
inductive Sl where
  | no | fz (t : Tr) | own (t : Tr) | vw (t : Tr) | wd
abbrev TSt := List Sl
abbrev SAt (σ : St) (i : Nat) (v : V) : Prop := σ[i]? = some (some v)
abbrev TAt (τ : TSt) (i : Nat) (s : Sl) : Prop := τ[i]? = some s
structure Rp (B : Bk) (F H : Hp) (σ : St) (τ : TSt) : Prop where
  up : Up B B.F0 B.H0 F H
  wa : ∀ p, B.W p → B.H0 p ≠ none
  wf : ∀ p, B.W p → F p = none
  wj : B.J H
  wd : ∀ i, TAt τ i .wd → SAt σ i (.ref B.rt)
  len : σ.length = τ.length
  fz : ∀ i t, TAt τ i (.fz t) → ∃ v, SAt σ i v ∧ Is B.K F v t
  ow : ∀ i t, TAt τ i (.own t) → ∃ l, SAt σ i (.ref l) ∧ Ow B.K F H l t ∧ F l = none ∧ B.H0 l = none
  vw : ∀ i t, TAt τ i (.vw t) → ∃ l, SAt σ i (.ref l) ∧ Ow B.K F H l t ∧ F l = none ∧ ¬ B.W l
  ap : ∀ i j t u l, TAt τ i (.own t) → TAt τ j (.own u) → i ≠ j → SAt σ i (.ref l) → SAt σ j (.ref l) → False
  av : ∀ i j t u l, TAt τ i (.own t) → TAt τ j (.vw u) → SAt σ i (.ref l) → SAt σ j (.ref l) → False
inductive Kd where
  | fz (t : Tr) | nw (t : Tr) | sl (i : Nat) | wd
noncomputable def KdOk (B : Bk) (F H : Hp) (σ : St) (τ : TSt) (v : V) : Kd → Prop
  | .fz t => Is B.K F v t
  | .nw t => ∃ l, v = .ref l ∧ Ow B.K F H l t ∧ F l = none ∧ B.H0 l = none ∧ ∀ i u, TAt τ i (.own u) ∨ TAt τ i (.vw u) → ¬ SAt σ i (.ref l)
  | .sl i => SAt σ i v
  | .wd => v = .ref B.rt
noncomputable def NewK (H : Hp) (v : V) : Kd → Prop
  | .nw _ => ∀ l, v = .ref l → H l = none
  | _ => True
structure Fr (B : Bk) (σ : St) (τ : TSt) (F H : Hp) (τ' : TSt) (F' H' : Hp) : Prop where
  f : Same F F'
  k : ∀ p o, H p = some o → ¬ B.W p → (∀ i t, TAt τ i (.own t) → ¬ SAt σ i (.ref p)) → H' p = some o ∧ (Mb o → F p = none → F' p = none)
  o : ∀ i t, TAt τ' i (.own t) → ∃ u, TAt τ i (.own u)
  h : ∀ p, H' p = none → H p = none
theorem Fr.refl {B : Bk} {σ : St} {τ : TSt} {F H : Hp} : Fr B σ τ F H τ F H := ⟨Same.refl _, fun _ _ h _ _ => ⟨h, fun _ z => z⟩, fun _ t h => ⟨t, h⟩, fun _ h => h⟩
theorem Fr.trans {B : Bk} {σ : St} {τ τ1 τ2 : TSt} {F H F1 H1 F2 H2 : Hp} (a : Fr B σ τ F H τ1 F1 H1) (b : Fr B σ τ1 F1 H1 τ2 F2 H2) : Fr B σ τ F H τ2 F2 H2 :=
  ⟨a.f.trans b.f, fun p o h nw n => by
    obtain ⟨h1, h2⟩ := a.k p o h nw n
    obtain ⟨h3, h4⟩ := b.k p o h1 nw fun i t e => by
      obtain ⟨u, e'⟩ := a.o i t e
      exact n i u e'
    exact ⟨h3, fun mb z => h4 mb (h2 mb z)⟩, fun i t e => by
    obtain ⟨u, e'⟩ := b.o i t e
    exact a.o i u e', fun p h => a.h p (b.h p h)⟩
abbrev TK := Kd → TSt → Prop
noncomputable def CT (B : Bk) (σ : St) (τ : TSt) (F H : Hp) (Φ : TK) (Q : VK) : Prop := ∀ v F' H' k τ', Fr B σ τ F H τ' F' H' → Rp B F' H' σ τ' → KdOk B F' H' σ τ' v k → NewK H v k → Φ k τ' → Q v H'
noncomputable def EV (B : Bk) (te : TE) (τ : TSt) (Φ : TK) : Prop := ∀ σ F H Q, Rp B F H σ τ → CT B σ τ F H Φ Q → te σ H Q
noncomputable def TV (B : Bk) (tt : TT) (τ : TSt) (Φ : Bool → TSt → Prop) : Prop := ∀ σ F H (Q : Bool → Hp → Prop), Rp B F H σ τ → (∀ b F' H' τ', Fr B σ τ F H τ' F' H' → Rp B F' H' σ τ' → Φ b τ' → Q b H') → tt σ H Q
noncomputable def EVA (B : Bk) (ta : TA) (τ : TSt) (Φ : List Tr → TSt → Prop) : Prop := ∀ σ F H (Q : List V → Hp → Prop), Rp B F H σ τ → (∀ vs F' H' ts τ', Fr B σ τ F H τ' F' H' → Rp B F' H' σ τ' → IsL B.K F' vs ts → Φ ts τ' → Q vs H') → ta σ H Q
noncomputable def AsF (k : Kd) (τ : TSt) (S : Tr → TSt → Prop) : Prop := match k with
  | .fz t => S t τ
  | .nw t => S t τ
  | .sl i => (∃ t, TAt τ i (.own t) ∧ S t (τ.set i (.fz t))) ∨ ∃ t, TAt τ i (.fz t) ∧ S t τ
  | .wd => False
noncomputable def Pnd (k : Kd) (τ : TSt) (S : TK) : Prop := match k with
  | .fz t => S (.fz t) τ
  | .nw t => S (.fz t) τ
  | .sl i => S (.sl i) τ
  | .wd => False
noncomputable def PdOk (K : PySem.W.Frag) (F : Hp) (σ : St) (v : V) : Kd → Prop
  | .fz t => Is K F v t
  | .nw _ => False
  | .sl i => SAt σ i v
  | .wd => False
theorem PdOk.same {K : PySem.W.Frag} {F F' : Hp} {σ : St} {v : V} {k : Kd} (s : Same F F') (h : PdOk K F σ v k) : PdOk K F' σ v k := by
  cases k with
  | fz t => exact Is.same s h
  | nw t => exact h
  | sl i => exact h
  | wd => exact h
section
variable {B : Bk} {F H F1 H1 F' H' : Hp} {σ : St} {τ τ1 τ' : TSt}
theorem CT.on {Φ : TK} {Q : VK} (c : CT B σ τ F H Φ Q) (f : Fr B σ τ F H τ1 F1 H1) : CT B σ τ1 F1 H1 Φ Q := fun v F' H' k τ' f' r ok n φ => c v F' H' k τ' (f.trans f') r ok (by
  cases k with
  | nw t => exact fun l e => f.h l (n l e)
  | fz t => exact trivial
  | sl i => exact trivial
  | wd => exact trivial) φ
theorem Rp.go (r : Rp B F H σ τ) (u : Up B F H F' H') : Rp B F' H' σ τ where
  up := r.up.trans u
  wa := r.wa
  wf := fun p hw => u.x p hw (r.wf p hw)
  wj := u.j r.wj
  wd := r.wd
  len := r.len
  fz := fun i t h => by obtain ⟨v, e, g⟩ := r.fz i t h; exact ⟨v, e, g.same u.f⟩
  ow := fun i t h => by
    obtain ⟨l, e, g, n, n0⟩ := r.ow i t h
    obtain ⟨o, ho, mb⟩ := g.mb
    exact ⟨l, e, g.to u.f (fun o => u.h l o fun hw => r.wa l hw n0), u.m l o ho mb n, n0⟩
  vw := fun i t h => by
    obtain ⟨l, e, g, n, nw⟩ := r.vw i t h
    obtain ⟨o, ho, mb⟩ := g.mb
    exact ⟨l, e, g.to u.f (fun o => u.h l o nw), u.m l o ho mb n, nw⟩
  ap := r.ap
  av := r.av
theorem Fr.up (u : Up B F H F' H') : Fr B σ τ F H τ F' H' := ⟨u.f, fun p o h nw _ => ⟨u.h p o nw h, fun mb n => u.m p o h mb n⟩, fun _ t h => ⟨t, h⟩, u.w⟩
theorem upd_none {H : Hp} {a b : Addr} {o : HO} (h : upd H a o b = none) : H b = none := by
  by_cases e : b = a
  · rw [e, upd_same] at h; cases h
  · rw [upd_ne e] at h; exact h
theorem Rp.tup {p : Addr} {vs : List V} (r : Rp B F H σ τ) (n : H p = none) : Up B F H (upd F p (.tup vs)) (upd H p (.tup vs)) where
  f := Same.new (r.up.i.free n) _
  h := fun q o _ z => Same.new n _ q o z
  i := fun b o e => by
    by_cases hb : b = p
    · subst hb; rw [upd_same] at e ⊢; exact e
    · rw [upd_ne hb] at e ⊢; exact r.up.i b o e
  m := fun q o h _ z => by
    have : q ≠ p := fun e => by rw [e, n] at h; cases h
    rw [upd_ne this]; exact z
  w := fun q h => upd_none h
  x := fun q hw z => by
    have : q ≠ p := fun e => r.wa q hw (r.up.w q (by rw [e]; exact n))
    rw [upd_ne this]; exact z
  j := fun h => B.jl _ _ (fun q hw => by
    have : q ≠ p := fun e => r.wa q hw (r.up.w q (by rw [e]; exact n))
    rw [upd_ne this]) (fun q φ z => Same.new n _ q _ z) h
theorem Rp.new {p : Addr} {o : HO} (r : Rp B F H σ τ) (n : H p = none) : Up B F H F (upd H p o) where
  f := Same.refl _
  h := fun q o _ z => Same.new n _ q o z
  i := r.up.i.trans (Same.new n _)
  m := fun q o h _ z => z
  w := fun q h => upd_none h
  x := fun q hw z => z
  j := fun h => B.jl _ _ (fun q hw => by
    have : q ≠ p := fun e => r.wa q hw (r.up.w q (by rw [e]; exact n))
    rw [upd_ne this]) (fun q φ z => Same.new n _ q _ z) h
theorem Rp.inc (r : Rp B F H σ τ) : Same F H := r.up.i
theorem Rp.fixA {l : Addr} {o : HO} (r : Rp B F H σ τ) (ho : H l = some o) (n : F l = none) (n0 : B.H0 l = none) (ne : ∀ i u, TAt τ i (.own u) ∨ TAt τ i (.vw u) → ¬ SAt σ i (.ref l)) : Rp B (upd F l o) H σ τ where
  wa := r.wa
  wf := fun p hw => by
    have : p ≠ l := fun e => r.wa p hw (by rw [e]; exact n0)
    rw [upd_ne this]; exact r.wf p hw
  wj := r.wj
  wd := r.wd
  up := { f := r.up.f.trans (Same.new n o), h := r.up.h, w := r.up.w, j := r.up.j
          m := fun p q hp mb z => by
            have : p ≠ l := fun e => by rw [e, n0] at hp; cases hp
            rw [upd_ne this]; exact r.up.m p q hp mb z
          x := fun p hw z => by
            have : p ≠ l := fun e => r.wa p hw (by rw [e]; exact n0)
            rw [upd_ne this]; exact r.up.x p hw z
          i := fun b q e => by
            by_cases hb : b = l
            · subst hb; rw [upd_same] at e; cases e; exact ho
            · rw [upd_ne hb] at e; exact r.up.i b q e }
  len := r.len
  fz := fun i t h => by obtain ⟨v, e, g⟩ := r.fz i t h; exact ⟨v, e, g.same (Same.new n o)⟩
  ow := fun i t h => by
    obtain ⟨l', e, g, n', n0'⟩ := r.ow i t h
    have hl : l' ≠ l := fun z => ne i t (.inl h) (by rw [← z]; exact e)
    exact ⟨l', e, g.to (Same.new n o) (fun _ q => q), by rw [upd_ne hl]; exact n', n0'⟩
  vw := fun i t h => by
    obtain ⟨l', e, g, n', nw⟩ := r.vw i t h
    have hl : l' ≠ l := fun z => ne i t (.inr h) (by rw [← z]; exact e)
    exact ⟨l', e, g.to (Same.new n o) (fun _ q => q), by rw [upd_ne hl]; exact n', nw⟩
  ap := r.ap
  av := r.av
theorem tset {τ : TSt} {i j : Nat} {s u : Sl} (h : TAt (τ.set i s) j u) : (j = i ∧ u = s ∧ i < τ.length) ∨ (j ≠ i ∧ TAt τ j u) := by
  unfold TAt at h
  rw [List.getElem?_set] at h
  by_cases e : i = j
  · subst e
    rw [if_pos rfl] at h
    by_cases g : i < τ.length
    · rw [if_pos g] at h; cases h; exact .inl ⟨rfl, rfl, g⟩
    · rw [if_neg g] at h; cases h
  · rw [if_neg e] at h; exact .inr ⟨fun z => e z.symm, h⟩
theorem sset {σ : St} {i j : Nat} {x : Option V} {v : V} (h : SAt (σ.set i x) j v) : (j = i ∧ x = some v) ∨ (j ≠ i ∧ SAt σ j v) := by
  unfold SAt at h
  rw [List.getElem?_set] at h
  by_cases e : i = j
  · subst e
    rw [if_pos rfl] at h
    by_cases g : i < σ.length
    · rw [if_pos g] at h; cases h; exact .inl ⟨rfl, rfl⟩
    · rw [if_neg g] at h; cases h
  · rw [if_neg e] at h; exact .inr ⟨fun z => e z.symm, h⟩
theorem ssetHere {σ : St} {i : Nat} {v : V} (h : i < σ.length) : SAt (σ.set i (some v)) i v := by
  unfold SAt
  rw [List.getElem?_set, if_pos rfl, if_pos h]
theorem ssetNe {σ : St} {i j : Nat} {x : Option V} {v : V} (n : j ≠ i) (h : SAt σ j v) : SAt (σ.set i x) j v := by
  unfold SAt at h ⊢
  rw [List.getElem?_set, if_neg (fun z => n z.symm)]; exact h
theorem Rp.setF {i : Nat} {v : V} {t : Tr} (r : Rp B F H σ τ) (h : Is B.K F v t) : Rp B F H (σ.set i (some v)) (τ.set i (.fz t)) where
  up := r.up
  wa := r.wa
  wf := r.wf
  wj := r.wj
  wd := fun j e => by
    rcases tset e with ⟨_, e, _⟩ | ⟨n, e⟩
    · cases e
    · exact ssetNe n (r.wd j e)
  len := by rw [List.length_set, List.length_set]; exact r.len
  fz := fun j u e => by
    rcases tset e with ⟨rfl, e, g⟩ | ⟨n, e⟩
    · cases e; exact ⟨v, ssetHere (by rw [r.len]; exact g), h⟩
    · obtain ⟨w, a, b⟩ := r.fz j u e
      exact ⟨w, ssetNe n a, b⟩
  ow := fun j u e => by
    rcases tset e with ⟨rfl, e, g⟩ | ⟨n, e⟩
    · cases e
    · obtain ⟨w, a, b⟩ := r.ow j u e
      exact ⟨w, ssetNe n a, b⟩
  vw := fun j u e => by
    rcases tset e with ⟨rfl, e, g⟩ | ⟨n, e⟩
    · cases e
    · obtain ⟨w, a, b⟩ := r.vw j u e
      exact ⟨w, ssetNe n a, b⟩
  ap := fun a b t u l ha hb ne hi hj => by
    rcases tset ha with ⟨_, e, _⟩ | ⟨na, ha⟩
    · cases e
    rcases tset hb with ⟨_, e, _⟩ | ⟨nb, hb⟩
    · cases e
    rcases sset hi with ⟨e, _⟩ | ⟨_, hi⟩
    · exact na e
    rcases sset hj with ⟨e, _⟩ | ⟨_, hj⟩
    · exact nb e
    exact r.ap a b t u l ha hb ne hi hj
  av := fun a b t u l ha hb hi hj => by
    rcases tset ha with ⟨_, e, _⟩ | ⟨na, ha⟩
    · cases e
    rcases tset hb with ⟨_, e, _⟩ | ⟨nb, hb⟩
    · cases e
    rcases sset hi with ⟨e, _⟩ | ⟨_, hi⟩
    · exact na e
    rcases sset hj with ⟨e, _⟩ | ⟨_, hj⟩
    · exact nb e
    exact r.av a b t u l ha hb hi hj
theorem Rp.setN {i : Nat} {v : V} {t : Tr} (r : Rp B F H σ τ) (h : KdOk B F H σ τ v (.nw t)) : Rp B F H (σ.set i (some v)) (τ.set i (.own t)) := by
  obtain ⟨l0, rfl, hw, n, n0, dis⟩ := h
  exact {
  up := r.up
  wa := r.wa
  wf := r.wf
  wj := r.wj
  wd := fun j e => by
    rcases tset e with ⟨_, e, _⟩ | ⟨n, e⟩
    · cases e
    · exact ssetNe n (r.wd j e)
  len := by rw [List.length_set, List.length_set]; exact r.len
  fz := fun j u e => by
    rcases tset e with ⟨rfl, e, g⟩ | ⟨n, e⟩
    · cases e
    · obtain ⟨w, a, b⟩ := r.fz j u e
      exact ⟨w, ssetNe n a, b⟩
  ow := fun j u e => by
    rcases tset e with ⟨rfl, e, g⟩ | ⟨n, e⟩
    · cases e; exact ⟨l0, ssetHere (by rw [r.len]; exact g), hw, n, n0⟩
    · obtain ⟨w, a, b⟩ := r.ow j u e
      exact ⟨w, ssetNe n a, b⟩
  vw := fun j u e => by
    rcases tset e with ⟨rfl, e, g⟩ | ⟨n, e⟩
    · cases e
    · obtain ⟨w, a, b⟩ := r.vw j u e
      exact ⟨w, ssetNe n a, b⟩
  ap := fun a b t u l ha hb ne hi hj => by
    rcases tset ha with ⟨ea, _, _⟩ | ⟨na, ha⟩
    · rcases tset hb with ⟨eb, _, _⟩ | ⟨nb, hb⟩
      · exact ne (ea.trans eb.symm)
      · rcases sset hi with ⟨_, e⟩ | ⟨na, _⟩
        · cases e
          rcases sset hj with ⟨e, _⟩ | ⟨_, hj⟩
          · exact nb e
          · exact dis b u (.inl hb) hj
        · exact na ea
    · rcases sset hi with ⟨e, _⟩ | ⟨_, hi⟩
      · exact na e
      rcases tset hb with ⟨eb, _, _⟩ | ⟨nb, hb⟩
      · rcases sset hj with ⟨_, e⟩ | ⟨nb, _⟩
        · cases e; exact dis a t (.inl ha) hi
        · exact nb eb
      · rcases sset hj with ⟨e, _⟩ | ⟨_, hj⟩
        · exact nb e
        · exact r.ap a b t u l ha hb ne hi hj
  av := fun a b t u l ha hb hi hj => by
    rcases tset hb with ⟨_, e, _⟩ | ⟨nb, hb⟩
    · cases e
    rcases sset hj with ⟨e, _⟩ | ⟨_, hj⟩
    · exact nb e
    rcases tset ha with ⟨ea, _, _⟩ | ⟨na, ha⟩
    · rcases sset hi with ⟨_, e⟩ | ⟨na, _⟩
      · cases e; exact dis b u (.inr hb) hj
      · exact na ea
    · rcases sset hi with ⟨e, _⟩ | ⟨_, hi⟩
      · exact na e
      · exact r.av a b t u l ha hb hi hj }
theorem Rp.forget {i : Nat} (r : Rp B F H σ τ) : Rp B F H σ (τ.set i .no) where
  up := r.up
  wa := r.wa
  wf := r.wf
  wj := r.wj
  wd := fun j e => by
    rcases tset e with ⟨_, e, _⟩ | ⟨n, e⟩
    · cases e
    · exact r.wd j e
  len := by rw [List.length_set]; exact r.len
  fz := fun j u e => by
    rcases tset e with ⟨_, e, _⟩ | ⟨_, e⟩
    · cases e
    · exact r.fz j u e
  ow := fun j u e => by
    rcases tset e with ⟨_, e, _⟩ | ⟨_, e⟩
    · cases e
    · exact r.ow j u e
  vw := fun j u e => by
    rcases tset e with ⟨_, e, _⟩ | ⟨_, e⟩
    · cases e
    · exact r.vw j u e
  ap := fun a b t u l ha hb => by
    rcases tset ha with ⟨_, e, _⟩ | ⟨_, ha⟩
    · cases e
    rcases tset hb with ⟨_, e, _⟩ | ⟨_, hb⟩
    · cases e
    exact r.ap a b t u l ha hb
  av := fun a b t u l ha hb => by
    rcases tset ha with ⟨_, e, _⟩ | ⟨_, ha⟩
    · cases e
    rcases tset hb with ⟨_, e, _⟩ | ⟨_, hb⟩
    · cases e
    exact r.av a b t u l ha hb
theorem sat_unique {σ : St} {i : Nat} {v w : V} (h : SAt σ i v) (g : SAt σ i w) : v = w := by
  unfold SAt at h g
  rw [h] at g; exact Option.some.inj (Option.some.inj g)
theorem set_same {σ : St} {i : Nat} {v : V} (h : SAt σ i v) : σ.set i (some v) = σ := by
  apply List.ext_getElem?
  intro j
  rw [List.getElem?_set]
  by_cases e : i = j
  · subst e
    rw [if_pos rfl, if_pos (List.getElem?_eq_some_iff.mp h).1]; exact h.symm
  · rw [if_neg e]
theorem Rp.fixS {i : Nat} {t : Tr} (r : Rp B F H σ τ) (h : TAt τ i (.own t)) : ∃ F2 l, SAt σ i (.ref l) ∧ Same F F2 ∧ Rp B F2 H σ (τ.set i (.fz t)) ∧ Is B.K F2 (.ref l) t ∧ ∀ p, p ≠ l → F2 p = F p := by
  obtain ⟨l, e, g, n, n0⟩ := r.ow i t h
  obtain ⟨o, ho, mb⟩ := g.mb
  have r1 : Rp B F H σ (τ.set i .no) := r.forget
  have r2 := r1.fixA ho n n0 (fun j u hj hs => by
    rcases hj with hj | hj
    · rcases tset hj with ⟨_, z, _⟩ | ⟨nj, hj⟩
      · cases z
      · exact r.ap i j t u l h hj (fun z => nj z.symm) e hs
    · rcases tset hj with ⟨_, z, _⟩ | ⟨nj, hj⟩
      · cases z
      · exact r.av i j t u l h hj e hs)
  have hi : Is B.K (upd F l o) (.ref l) t := g.is (Same.new n o) (by rw [upd_same, ho])
  have r3 := r2.setF (i := i) hi
  rw [set_same e, List.set_set] at r3
  exact ⟨_, l, e, Same.new n o, r3, hi, fun p hp => upd_ne hp⟩
theorem asF_ok {v : V} {k : Kd} {S : Tr → TSt → Prop} (f : Fr B σ τ F H τ1 F1 H1) (r : Rp B F1 H1 σ τ1) (ok : KdOk B F1 H1 σ τ1 v k) (nk : NewK H v k) (h : AsF k τ1 S) : ∃ F2 t τ2, Fr B σ τ F H τ2 F2 H1 ∧ Rp B F2 H1 σ τ2 ∧ Is B.K F2 v t ∧ S t τ2 ∧ Same F1 F2 := by
  cases k with
  | fz t => exact ⟨F1, t, τ1, f, r, ok, h, Same.refl _⟩
  | nw t =>
    obtain ⟨l, rfl, g, n, n0, ne⟩ := ok
    obtain ⟨o, ho, mb⟩ := g.mb
    refine ⟨upd F1 l o, t, τ1, ⟨f.f.trans (Same.new n o), fun p q hp nw no => ?_, f.o, f.h⟩, r.fixA ho n n0 ne, g.is (Same.new n o) (by rw [upd_same, ho]), h, Same.new n o⟩
    obtain ⟨h1, h2⟩ := f.k p q hp nw no
    refine ⟨h1, fun mb z => ?_⟩
    have : p ≠ l := fun e => by rw [e, nk l rfl] at hp; cases hp
    rw [upd_ne this]; exact h2 mb z
  | sl i =>
    rcases h with ⟨t, ht, hs⟩ | ⟨t, ht, hs⟩
    · obtain ⟨F2, l, e, sF, r2, hi, ne⟩ := r.fixS ht
      cases sat_unique e ok
      refine ⟨F2, t, _, ⟨f.f.trans sF, fun p q hp nw no => ?_, fun j u hj => ?_, f.h⟩, r2, hi, hs, sF⟩
      · obtain ⟨h1, h2⟩ := f.k p q hp nw no
        refine ⟨h1, fun mb z => ?_⟩
        obtain ⟨u, hu⟩ := f.o i t ht
        have : p ≠ l := fun e' => no i u hu (by rw [e']; exact e)
        rw [ne p this]; exact h2 mb z
      · rcases tset hj with ⟨_, z, _⟩ | ⟨_, hj⟩
        · cases z
        · exact f.o j u hj
    · obtain ⟨w, e, hi⟩ := r.fz i t ht
      cases sat_unique e ok
      exact ⟨F1, t, τ1, f, r, hi, hs, Same.refl _⟩
  | wd => exact h.elim
theorem pnd_ok {v : V} {k : Kd} {S : TK} (f : Fr B σ τ F H τ1 F1 H1) (r : Rp B F1 H1 σ τ1) (ok : KdOk B F1 H1 σ τ1 v k) (nk : NewK H v k) (h : Pnd k τ1 S) : ∃ F2 k', Fr B σ τ F H τ1 F2 H1 ∧ Rp B F2 H1 σ τ1 ∧ PdOk B.K F2 σ v k' ∧ S k' τ1 ∧ Same F1 F2 := by
  cases k with
  | fz t => exact ⟨F1, .fz t, f, r, ok, h, Same.refl _⟩
  | nw t =>
    obtain ⟨F2, t2, τ2, f2, r2, i2, ⟨s2, rfl, rfl⟩, sF⟩ := asF_ok (S := fun t' τ' => S (.fz t') τ' ∧ t' = t ∧ τ' = τ1) f r ok nk ⟨h, rfl, rfl⟩
    exact ⟨F2, _, f2, r2, (show PdOk B.K F2 σ v (.fz _) from i2), s2, sF⟩
  | sl i => exact ⟨F1, .sl i, f, r, ok, h, Same.refl _⟩
  | wd => exact h.elim
end
end L2

namespace L2
open PySem PySem.Spec PyProof.Rows
inductive Gt {α : Type} : List α → Nat → α → Prop
  | here {v : α} {r : List α} : Gt (v :: r) 0 v
  | next {x v : α} {r : List α} {i : Nat} : Gt r i v → Gt (x :: r) (i + 1) v
theorem Gt.eq {α : Type} {σ : List α} {i : Nat} {v : α} (h : Gt σ i v) : σ[i]? = some v := by
  induction h with
  | here => rfl
  | next _ ih => rw [List.getElem?_cons_succ, ih]
inductive Sto {α : Type} : List α → Nat → α → List α → Prop
  | here {x v : α} {r : List α} : Sto (x :: r) 0 v (v :: r)
  | next {x v : α} {r r' : List α} {i : Nat} : Sto r i v r' → Sto (x :: r) (i + 1) v (x :: r')
theorem Sto.eq {α : Type} {σ σ' : List α} {i : Nat} {v : α} (h : Sto σ i v σ') : σ.set i v = σ' := by
  induction h with
  | here => rfl
  | next _ ih => rw [List.set_cons_succ, ih]
inductive Rk (τ : TSt) : Kd → Tr → Prop
  | fz {t : Tr} : Rk τ (.fz t) t
  | own {i : Nat} {t : Tr} : Gt τ i (.own t) → Rk τ (.sl i) t
  | vw {i : Nat} {t : Tr} : Gt τ i (.vw t) → Rk τ (.sl i) t
  | sfz {i : Nat} {t : Tr} : Gt τ i (.fz t) → Rk τ (.sl i) t
section
variable {B : Bk} {F H : Hp} {σ : St} {τ : TSt}
theorem Rk.list {v : V} {k : Kd} {ts : List Tr} (h : Rk τ k (.lst ts)) (r : Rp B F H σ τ) (ok : PdOk B.K F σ v k) : ∃ p vs, v = .ref p ∧ SqL B.K H p vs ∧ IsL B.K F vs ts := by
  cases h with
  | fz =>
    cases ok with
    | lst a b => exact ⟨_, _, rfl, r.inc.seq a, b⟩
  | own g =>
    obtain ⟨l, e, hw, _⟩ := r.ow _ _ g.eq
    cases sat_unique e ok
    cases hw with
    | lst a b => exact ⟨_, _, rfl, SqL.of a, b⟩
  | vw g =>
    obtain ⟨l, e, hw, _⟩ := r.vw _ _ g.eq
    cases sat_unique e ok
    cases hw with
    | lst a b => exact ⟨_, _, rfl, SqL.of a, b⟩
  | sfz g =>
    obtain ⟨w, e, hi⟩ := r.fz _ _ g.eq
    cases sat_unique e ok
    cases hi with
    | lst a b => exact ⟨_, _, rfl, r.inc.seq a, b⟩
theorem Rk.tuple {v : V} {k : Kd} {ts : List Tr} (h : Rk τ k (.tup ts)) (r : Rp B F H σ τ) (ok : PdOk B.K F σ v k) : ∃ p vs, v = .ref p ∧ SqT B.K H p vs ∧ IsL B.K F vs ts := by
  cases h with
  | fz =>
    cases ok with
    | tup a b => exact ⟨_, _, rfl, r.inc.tup a, b⟩
  | own g =>
    obtain ⟨l, e, hw, _⟩ := r.ow _ _ g.eq
    cases hw
  | vw g =>
    obtain ⟨l, e, hw, _⟩ := r.vw _ _ g.eq
    cases hw
  | sfz g =>
    obtain ⟨w, e, hi⟩ := r.fz _ _ g.eq
    cases sat_unique e ok
    cases hi with
    | tup a b => exact ⟨_, _, rfl, r.inc.tup a, b⟩
theorem Rk.dict {v : V} {k : Kd} {ts : List (Key × Tr)} (h : Rk τ k (.dct ts)) (r : Rp B F H σ τ) (ok : PdOk B.K F σ v k) : ∃ p kvs, v = .ref p ∧ H p = some (.dK kvs) ∧ kvs.map (·.1) = ts.map (·.1) ∧ IsL B.K F (kvs.map (·.2)) (ts.map (·.2)) := by
  cases h with
  | fz =>
    cases ok with
    | dct a b c => exact ⟨_, _, rfl, r.inc _ _ a, b, c⟩
  | own g =>
    obtain ⟨l, e, hw, _⟩ := r.ow _ _ g.eq
    cases sat_unique e ok
    cases hw with
    | dct a b c => exact ⟨_, _, rfl, a, b, c⟩
  | vw g =>
    obtain ⟨l, e, hw, _⟩ := r.vw _ _ g.eq
    cases sat_unique e ok
    cases hw with
    | dct a b c => exact ⟨_, _, rfl, a, b, c⟩
  | sfz g =>
    obtain ⟨w, e, hi⟩ := r.fz _ _ g.eq
    cases sat_unique e ok
    cases hi with
    | dct a b c => exact ⟨_, _, rfl, r.inc _ _ a, b, c⟩
end
section
variable {B : Bk} {τ τ' : TSt} {Φ : TK} {te ta tb tc : TE} {k : Nat} {t : Tr} {i j : Int} {x y : Kd} {b : Bool} {c d : TT} {Ψ : Bool → TSt → Prop}
theorem p_fz {S : TK} (h : S (.fz t) τ) : Pnd (.fz t) τ S := h
theorem p_nw {S : TK} (h : S (.fz t) τ) : Pnd (.nw t) τ S := h
theorem p_sl {S : TK} (h : S (.sl k) τ) : Pnd (.sl k) τ S := h
theorem as_fz {S : Tr → TSt → Prop} (h : S t τ) : AsF (.fz t) τ S := h
theorem as_nw {S : Tr → TSt → Prop} (h : S t τ) : AsF (.nw t) τ S := h
theorem as_own {S : Tr → TSt → Prop} (g : Gt τ k (.own t)) (s : Sto τ k (.fz t) τ') (h : S t τ') : AsF (.sl k) τ S := .inl ⟨t, g.eq, by rw [s.eq]; exact h⟩
theorem as_sfz {S : Tr → TSt → Prop} (g : Gt τ k (.fz t)) (h : S t τ) : AsF (.sl k) τ S := .inr ⟨t, g.eq, h⟩
theorem CT.pl {F H : Hp} {σ : St} {Q : VK} {v : V} (c : CT B σ τ F H Φ Q) (r : Rp B F H σ τ) (h : Is B.K F v t) (φ : Φ (.fz t) τ) : Q v H := c v F H (.fz t) τ Fr.refl r h trivial φ
theorem e_var (g : Gt τ k (.fz t)) (q : Φ (.fz t) τ) : EV B (tVar k) τ Φ := fun σ F H Q r c => by
  obtain ⟨v, e, h⟩ := r.fz _ _ g.eq
  exact ⟨v, e, c.pl r h q⟩
theorem e_varO (g : Gt τ k (.own t)) (q : Φ (.sl k) τ) : EV B (tVar k) τ Φ := fun σ F H Q r c => by
  obtain ⟨l, e, h⟩ := r.ow _ _ g.eq
  exact ⟨_, e, c _ F H (.sl k) τ Fr.refl r e trivial q⟩
theorem e_varV (g : Gt τ k (.vw t)) (q : Φ (.sl k) τ) : EV B (tVar k) τ Φ := fun σ F H Q r c => by
  obtain ⟨l, e, h⟩ := r.vw _ _ g.eq
  exact ⟨_, e, c _ F H (.sl k) τ Fr.refl r e trivial q⟩
theorem e_varW (g : Gt τ k .wd) (q : Φ .wd τ) : EV B (tVar k) τ Φ := fun σ F H Q r c => by
  have e := r.wd _ g.eq
  exact ⟨_, e, c _ F H .wd τ Fr.refl r rfl trivial q⟩
theorem e_cI (q : Φ (.fz (.int i)) τ) : EV B (tC (.int i)) τ Φ := fun _ _ _ _ r c => c.pl r .int q
theorem e_cB (q : Φ (.fz (.bl b)) τ) : EV B (tC (.bl b)) τ Φ := fun _ _ _ _ r c => c.pl r .bl q
theorem e_cN (q : Φ (.fz .non) τ) : EV B (tC .non) τ Φ := fun _ _ _ _ r c => c.pl r .non q
theorem e_cS {z : Str} (q : Φ (.fz (.str z)) τ) : EV B (tC (.str z)) τ Φ := fun _ _ _ _ r c => c.pl r .str q
theorem e_cT {z : String} (q : Φ (.fz (.ty z)) τ) : EV B (tC (.ty z)) τ Φ := fun _ _ _ _ r c => c.pl r .ty q
noncomputable def RO (B : Bk) (r : R2) (x y : Kd) (τ : TSt) (Φ : TK) : Prop := ∀ σ F H v w Q, Rp B F H σ τ → PdOk B.K F σ v x → PdOk B.K F σ w y → CT B σ τ F H Φ Q → r v w H Q
theorem e_op {r : R2} (h : EV B ta τ fun x τ1 => Pnd x τ1 fun x τ1 => EV B tb τ1 fun y τ2 => Pnd y τ2 fun y τ2 => RO B r x y τ2 Φ) : EV B (tOp r ta tb) τ Φ := fun σ F H Q rp c => by
  refine h σ F H _ rp fun v F1 H1 k τ1 f1 r1 ok1 n1 h1 => ?_
  obtain ⟨F2, k', f2, r2, ok2, h2, _⟩ := pnd_ok f1 r1 ok1 n1 h1
  refine h2 σ F2 H1 _ r2 fun w F3 H3 k3 τ3 f3 r3 ok3 n3 h3 => ?_
  obtain ⟨F4, k4, f4, r4, ok4, h4, _⟩ := pnd_ok f3 r3 ok3 n3 h3
  exact h4 σ F4 H3 v w Q r4 (ok2.same f4.f) ok4 (c.on (f2.trans f4))
noncomputable def RU (B : Bk) (r : V → Hp → VK → Prop) (x : Kd) (τ : TSt) (Φ : TK) : Prop := ∀ σ F H v Q, Rp B F H σ τ → PdOk B.K F σ v x → CT B σ τ F H Φ Q → r v H Q
theorem e_un {r : V → Hp → VK → Prop} (h : EV B ta τ fun x τ1 => Pnd x τ1 fun x τ1 => RU B r x τ1 Φ) : EV B (tUn r ta) τ Φ := fun σ F H Q rp c => by
  refine h σ F H _ rp fun v F1 H1 k τ1 f1 r1 ok1 n1 h1 => ?_
  obtain ⟨F2, k', f2, r2, ok2, h2, _⟩ := pnd_ok f1 r1 ok1 n1 h1
  exact h2 σ F2 H1 v Q r2 ok2 (c.on f2)
theorem pd_int {K : PySem.W.Frag} {F : Hp} {σ : St} {v : V} (h : PdOk K F σ v (.fz (.int i))) : v = .int i := by cases h; rfl
theorem pd_bl {K : PySem.W.Frag} {F : Hp} {σ : St} {v : V} (h : PdOk K F σ v (.fz (.bl b))) : v = .bl b := by cases h; rfl
theorem pd_str {K : PySem.W.Frag} {F : Hp} {σ : St} {v : V} {z : Str} (h : PdOk K F σ v (.fz (.str z))) : v = .str z := by cases h; rfl
theorem pd_non {K : PySem.W.Frag} {F : Hp} {σ : St} {v : V} (h : PdOk K F σ v (.fz .non)) : v = .non := by cases h; rfl
theorem ro_I {C : Int → Int → Prop} {g : Int → Int → Int} (hc : C i j) (q : Φ (.fz (.int (g i j))) τ) : RO B (rI C fun i j => .int (g i j)) (.fz (.int i)) (.fz (.int j)) τ Φ := fun _ _ _ _ _ _ r a b c => by
  cases pd_int a; cases pd_int b
  exact ⟨i, j, rfl, rfl, hc, c.pl r .int q⟩
theorem ro_IB {C : Int → Int → Prop} {g : Int → Int → Bool} (hc : C i j) (q : Φ (.fz (.bl (g i j))) τ) : RO B (rI C fun i j => .bl (g i j)) (.fz (.int i)) (.fz (.int j)) τ Φ := fun _ _ _ _ _ _ r a b c => by
  cases pd_int a; cases pd_int b
  exact ⟨i, j, rfl, rfl, hc, c.pl r .bl q⟩
theorem ro_I0 {g : Int → Int → Int} (q : Φ (.fz (.int (g i j))) τ) : RO B (rI0 fun i j => .int (g i j)) (.fz (.int i)) (.fz (.int j)) τ Φ := fun _ _ _ _ _ _ r a b c => by
  cases pd_int a; cases pd_int b
  exact ⟨i, j, rfl, rfl, c.pl r .int q⟩
theorem ro_I0B {g : Int → Int → Bool} (q : Φ (.fz (.bl (g i j))) τ) : RO B (rI0 fun i j => .bl (g i j)) (.fz (.int i)) (.fz (.int j)) τ Φ := fun _ _ _ _ _ _ r a b c => by
  cases pd_int a; cases pd_int b
  exact ⟨i, j, rfl, rfl, c.pl r .bl q⟩
theorem ru_U {g : Int → Int} (q : Φ (.fz (.int (g i))) τ) : RU B (rU fun i => .int (g i)) (.fz (.int i)) τ Φ := fun _ _ _ _ _ r a c => by
  cases pd_int a
  exact ⟨i, rfl, c.pl r .int q⟩
theorem ro_EqI (q : Φ (.fz (.bl (decide (i = j)))) τ) : RO B rEq (.fz (.int i)) (.fz (.int j)) τ Φ := fun _ _ _ _ _ _ r a b c => by
  cases pd_int a; cases pd_int b
  exact z_EqI (c.pl r .bl q)
theorem ro_NeI (q : Φ (.fz (.bl (!decide (i = j)))) τ) : RO B rNe (.fz (.int i)) (.fz (.int j)) τ Φ := fun _ _ _ _ _ _ r a b c => by
  cases pd_int a; cases pd_int b
  exact z_NeI (c.pl r .bl q)
theorem ro_EqS {z u : Str} (q : Φ (.fz (.bl (decide (z = u)))) τ) : RO B rEq (.fz (.str z)) (.fz (.str u)) τ Φ := fun _ _ _ _ _ _ r a b c => by
  cases pd_str a; cases pd_str b
  exact z_EqS (c.pl r .bl q)
theorem ro_NeS {z u : Str} (q : Φ (.fz (.bl (!decide (z = u)))) τ) : RO B rNe (.fz (.str z)) (.fz (.str u)) τ Φ := fun _ _ _ _ _ _ r a b c => by
  cases pd_str a; cases pd_str b
  exact z_NeS (c.pl r .bl q)
theorem ro_NeB {b1 b2 : Bool} (q : Φ (.fz (.bl (!decide (b1 = b2)))) τ) : RO B rNe (.fz (.bl b1)) (.fz (.bl b2)) τ Φ := fun _ _ _ _ _ _ r a b c => by
  cases pd_bl a; cases pd_bl b
  exact z_NeB (c.pl r .bl q)
theorem ro_EqB {b1 b2 : Bool} (q : Φ (.fz (.bl (decide (b1 = b2)))) τ) : RO B rEq (.fz (.bl b1)) (.fz (.bl b2)) τ Φ := fun _ _ _ _ _ _ r a b c => by
  cases pd_bl a; cases pd_bl b
  exact z_EqB (c.pl r .bl q)
theorem ro_isB {b1 b2 : Bool} (q : Φ (.fz (.bl (b1 == b2))) τ) : RO B rIsB (.fz (.bl b1)) (.fz (.bl b2)) τ Φ := fun _ _ _ _ _ _ r a b c => by
  cases pd_bl a; cases pd_bl b
  exact ⟨b1, b2, rfl, rfl, c.pl r .bl q⟩
theorem ro_notB {b1 b2 : Bool} (q : Φ (.fz (.bl (b1 != b2))) τ) : RO B rNotB (.fz (.bl b1)) (.fz (.bl b2)) τ Φ := fun _ _ _ _ _ _ r a b c => by
  cases pd_bl a; cases pd_bl b
  exact ⟨b1, b2, rfl, rfl, c.pl r .bl q⟩
noncomputable def Tr.isN : Tr → Bool
  | .non => true
  | _ => false
theorem is_non {K : PySem.W.Frag} {F : Hp} {v : V} (h : Is K F v t) : decide (v = .non) = t.isN := by cases h <;> rfl
theorem ro_isN (q : Φ (.fz (.bl t.isN)) τ) : RO B rIsN (.fz t) (.fz .non) τ Φ := fun _ _ _ v _ _ r a b c => by
  cases pd_non b
  refine ⟨rfl, ?_⟩
  rw [is_non (show Is B.K _ v t from a)]
  exact c.pl r .bl q
theorem ro_notN (q : Φ (.fz (.bl (!t.isN))) τ) : RO B rNotN (.fz t) (.fz .non) τ Φ := fun _ _ _ v _ _ r a b c => by
  cases pd_non b
  refine ⟨rfl, ?_⟩
  rw [is_non (show Is B.K _ v t from a)]
  exact c.pl r .bl q
theorem isl_at {K : PySem.W.Frag} {F : Hp} {vs : List V} {ts : List Tr} (h : IsL K F vs ts) (e : atI ts i = some t) : ∃ v, atI vs i = some v ∧ Is K F v t := by
  unfold atI at e ⊢
  rw [h.length]
  cases hx : ixN ts.length i with
  | none => rw [hx] at e; cases e
  | some n =>
    rw [hx] at e
    exact h.get e
theorem ro_ixL {K : PySem.W.Frag} {ts : List Tr} (hK : K = B.K) (rk : Rk τ x (.lst ts)) (e : atI ts i = some t) (q : Φ (.fz t) τ) : RO B (rIxL K) x (.fz (.int i)) τ Φ := fun _ _ _ _ _ _ r a b c => by
  subst hK
  cases pd_int b
  obtain ⟨p, vs, rfl, s, l⟩ := rk.list r a
  obtain ⟨w, ew, hw⟩ := isl_at l e
  exact ⟨p, vs, i, w, rfl, rfl, s, ew, c.pl r hw q⟩
theorem ro_ixT {K : PySem.W.Frag} {ts : List Tr} (hK : K = B.K) (rk : Rk τ x (.tup ts)) (e : atI ts i = some t) (q : Φ (.fz t) τ) : RO B (rIxT K) x (.fz (.int i)) τ Φ := fun _ _ _ _ _ _ r a b c => by
  subst hK
  cases pd_int b
  obtain ⟨p, vs, rfl, s, l⟩ := rk.tuple r a
  obtain ⟨w, ew, hw⟩ := isl_at l e
  exact ⟨p, vs, i, w, rfl, rfl, s, ew, c.pl r hw q⟩
theorem t_test (h : EV B te τ fun x τ1 => ∃ b, x = .fz (.bl b) ∧ Ψ b τ1) : TV B (tTest te) τ Ψ := fun σ F H Q r c => by
  refine h σ F H _ r fun v F1 H1 k τ1 f1 r1 ok1 _ ⟨b, e, h1⟩ => ?_
  subst e
  cases ok1
  exact ⟨b, rfl, c b F1 H1 τ1 f1 r1 h1⟩
theorem t_B (h : EV B te τ fun x τ1 => ∃ b, x = .fz (.bl b) ∧ Ψ b τ1) : TV B (tB te) τ Ψ := t_test h
theorem t_ebl {S : Bool → Prop} (q : S b) : ∃ b', Kd.fz (.bl b) = .fz (.bl b') ∧ S b' := ⟨b, rfl, q⟩
theorem TV.on {σ : St} {F H F1 H1 : Hp} {τ1 : TSt} {Q : Bool → Hp → Prop} (c : ∀ b F' H' τ', Fr B σ τ F H τ' F' H' → Rp B F' H' σ τ' → Ψ b τ' → Q b H') (f : Fr B σ τ F H τ1 F1 H1) : ∀ b F' H' τ', Fr B σ τ1 F1 H1 τ' F' H' → Rp B F' H' σ τ' → Ψ b τ' → Q b H' :=
  fun b F' H' τ' f' r h => c b F' H' τ' (f.trans f') r h
theorem t_and (h : TV B c τ fun k τ1 => if k = true then TV B d τ1 Ψ else Ψ false τ1) : TV B (tAnd c d) τ Ψ := fun σ F H Q r k => by
  refine h σ F H _ r fun b F1 H1 τ1 f1 r1 h1 => ?_
  cases b with
  | true => rw [if_pos rfl] at h1 ⊢; exact h1 σ F1 H1 Q r1 (TV.on k f1)
  | false => rw [if_neg Bool.false_ne_true] at h1 ⊢; exact k _ F1 H1 τ1 f1 r1 h1
theorem t_or (h : TV B c τ fun k τ1 => if k = true then Ψ true τ1 else TV B d τ1 Ψ) : TV B (tOr c d) τ Ψ := fun σ F H Q r k => by
  refine h σ F H _ r fun b F1 H1 τ1 f1 r1 h1 => ?_
  cases b with
  | true => rw [if_pos rfl] at h1 ⊢; exact k _ F1 H1 τ1 f1 r1 h1
  | false => rw [if_neg Bool.false_ne_true] at h1 ⊢; exact h1 σ F1 H1 Q r1 (TV.on k f1)
theorem t_not (h : TV B c τ fun k τ1 => Ψ (!k) τ1) : TV B (tNot c) τ Ψ := fun σ F H Q r k => h σ F H _ r fun b F1 H1 τ1 f1 r1 h1 => k _ F1 H1 τ1 f1 r1 h1
theorem e_andV (h : EV B ta τ fun x τ1 => ∃ b, x = .fz (.bl b) ∧ if b = true then EV B tb τ1 Φ else Φ (.fz (.bl false)) τ1) : EV B (tAndV ta tb) τ Φ := fun σ F H Q r c => by
  refine h σ F H _ r fun v F1 H1 k τ1 f1 r1 ok1 _ ⟨b, e, h1⟩ => ?_
  subst e
  cases ok1
  refine ⟨b, rfl, ?_⟩
  cases b with
  | true => rw [if_pos rfl] at h1 ⊢; exact h1 σ F1 H1 Q r1 (c.on f1)
  | false => rw [if_neg Bool.false_ne_true] at h1 ⊢; exact (c.on f1).pl r1 .bl h1
theorem e_orV (h : EV B ta τ fun x τ1 => ∃ b, x = .fz (.bl b) ∧ if b = true then Φ (.fz (.bl true)) τ1 else EV B tb τ1 Φ) : EV B (tOrV ta tb) τ Φ := fun σ F H Q r c => by
  refine h σ F H _ r fun v F1 H1 k τ1 f1 r1 ok1 _ ⟨b, e, h1⟩ => ?_
  subst e
  cases ok1
  refine ⟨b, rfl, ?_⟩
  cases b with
  | true => rw [if_pos rfl] at h1 ⊢; exact (c.on f1).pl r1 .bl h1
  | false => rw [if_neg Bool.false_ne_true] at h1 ⊢; exact h1 σ F1 H1 Q r1 (c.on f1)
theorem e_notV (h : EV B ta τ fun x τ1 => ∃ b, x = .fz (.bl b) ∧ Φ (.fz (.bl (!b))) τ1) : EV B (tNotV ta) τ Φ := fun σ F H Q r c => by
  refine h σ F H _ r fun v F1 H1 k τ1 f1 r1 ok1 _ ⟨b, e, h1⟩ => ?_
  subst e
  cases ok1
  exact ⟨b, rfl, (c.on f1).pl r1 .bl h1⟩
theorem e_if (h : TV B c τ fun k τ1 => if k = true then EV B ta τ1 Φ else EV B tb τ1 Φ) : EV B (tIf c ta tb) τ Φ := fun σ F H Q r k => by
  refine h σ F H _ r fun b F1 H1 τ1 f1 r1 h1 => ?_
  cases b with
  | true => rw [if_pos rfl] at h1 ⊢; exact h1 σ F1 H1 Q r1 (k.on f1)
  | false => rw [if_neg Bool.false_ne_true] at h1 ⊢; exact h1 σ F1 H1 Q r1 (k.on f1)
theorem e_chain {r r' : R2} (h : EV B ta τ fun x τ1 => Pnd x τ1 fun x τ1 => EV B tb τ1 fun y τ2 => Pnd y τ2 fun y τ2 => RO B r x y τ2 fun z τ3 => ∃ b, z = .fz (.bl b) ∧ if b = true then EV B tc τ3 fun w τ4 => Pnd w τ4 fun w τ4 => RO B r' y w τ4 Φ else Φ (.fz (.bl false)) τ3) : EV B (tChain r r' ta tb tc) τ Φ := fun σ F H Q rp c => by
  refine h σ F H _ rp fun v F1 H1 k τ1 f1 r1 ok1 n1 h1 => ?_
  obtain ⟨F2, k', f2, r2, ok2, h2, _⟩ := pnd_ok f1 r1 ok1 n1 h1
  refine h2 σ F2 H1 _ r2 fun w F3 H3 k3 τ3 f3 r3 ok3 n3 h3 => ?_
  obtain ⟨F4, k4, f4, r4, ok4, h4, _⟩ := pnd_ok f3 r3 ok3 n3 h3
  refine h4 σ F4 H3 v w _ r4 (ok2.same f4.f) ok4 fun u F5 H5 k5 τ5 f5 r5 ok5 n5 ⟨b, e, h5⟩ => ?_
  subst e
  cases ok5
  refine ⟨b, rfl, ?_⟩
  have f05 := f2.trans (f4.trans f5)
  cases b with
  | true =>
    rw [if_pos rfl] at h5 ⊢
    refine h5 σ F5 H5 _ r5 fun w6 F6 H6 k6 τ6 f6 r6 ok6 n6 h6 => ?_
    obtain ⟨F7, k7, f7, r7, ok7, h7, _⟩ := pnd_ok f6 r6 ok6 n6 h6
    exact h7 σ F7 H6 w w6 Q r7 ((ok4.same f5.f).same f7.f) ok7 (c.on (f05.trans f7))
  | false => rw [if_neg Bool.false_ne_true] at h5 ⊢; exact (c.on f05).pl r5 .bl h5
theorem a_nil {S : List Tr → TSt → Prop} (q : S [] τ) : EVA B tNil τ S := fun σ F H Q r c => c [] F H [] τ Fr.refl r .nil q
theorem a_ints {S : List Tr → TSt → Prop} {ns : List Int} (q : S (ns.map Tr.int) τ) : EVA B (tInts ns) τ S := fun σ F H Q r c => c _ F H _ τ Fr.refl r (.ofInts ns) q
theorem a_cons {tr : TA} {S : List Tr → TSt → Prop} (h : EV B te τ fun x τ1 => AsF x τ1 fun t τ2 => EVA B tr τ2 fun ts τ3 => S (t :: ts) τ3) : EVA B (tCons te tr) τ S := fun σ F H Q r c => by
  refine h σ F H _ r fun v F1 H1 k τ1 f1 r1 ok1 n1 h1 => ?_
  obtain ⟨F2, t, τ2, f2, r2, i2, h2, _⟩ := asF_ok f1 r1 ok1 n1 h1
  exact h2 σ F2 H1 _ r2 fun vs F3 H3 ts τ3 f3 r3 l3 h3 => c _ F3 H3 _ τ3 (f2.trans f3) r3 (.cons (i2.same f3.f) l3) h3
theorem e_tup {tA : TA} (h : EVA B tA τ fun ts τ1 => ts.length ≤ 1000 ∧ Φ (.fz (.tup ts)) τ1) : EV B (tTup tA) τ Φ := fun σ F H Q r c => by
  refine h σ F H _ r fun vs F1 H1 ts τ1 f1 r1 l1 ⟨hl, h1⟩ => ⟨by rw [l1.length]; exact Nat.le_trans hl (by decide), fun p hp => ?_⟩
  have u := r1.tup (vs := vs) hp
  exact c _ _ _ (.fz (.tup ts)) τ1 (f1.trans (Fr.up u)) (r1.go u) (Is.tup (SqT.of upd_same) (l1.same u.f)) trivial h1
theorem nw_new {F H : Hp} {σ : St} {vs : List V} {ts : List Tr} {p : Addr} (r : Rp B F H σ τ) (l : IsL B.K F vs ts) (hp : H p = none) : KdOk B F (upd H p (.lst vs)) σ τ (.ref p) (.nw (.lst ts)) := by
  refine ⟨p, rfl, .lst upd_same l, r.inc.free hp, r.up.w p hp, fun i u h e => ?_⟩
  rcases h with h | h
  · obtain ⟨l', e', g, _⟩ := r.ow i u h
    obtain ⟨o, ho, _⟩ := g.mb
    have := sat_unique e' e
    cases this
    rw [hp] at ho; cases ho
  · obtain ⟨l', e', g, _⟩ := r.vw i u h
    obtain ⟨o, ho, _⟩ := g.mb
    have := sat_unique e' e
    cases this
    rw [hp] at ho; cases ho
theorem CT.nl {F H : Hp} {σ : St} {Q : VK} {vs : List V} {ts : List Tr} {p : Addr} (c : CT B σ τ F H Φ Q) (r : Rp B F H σ τ) (l : IsL B.K F vs ts) (hp : H p = none) (φ : Φ (.nw (.lst ts)) τ) : Q (.ref p) (upd H p (.lst vs)) :=
  c _ F _ (.nw (.lst ts)) τ (Fr.up (r.new hp)) (r.go (r.new hp)) (nw_new r l hp) (fun l e => by cases e; exact hp) φ
theorem CT.nt {F H : Hp} {σ : St} {Q : VK} {vs : List V} {ts : List Tr} {p : Addr} (c : CT B σ τ F H Φ Q) (r : Rp B F H σ τ) (l : IsL B.K F vs ts) (hp : H p = none) (φ : Φ (.fz (.tup ts)) τ) : Q (.ref p) (upd H p (.tup vs)) := by
  have u := r.tup (vs := vs) hp
  exact c _ _ _ (.fz (.tup ts)) τ (Fr.up u) (r.go u) (Is.tup (SqT.of upd_same) (l.same u.f)) trivial φ
theorem e_lst {tA : TA} (h : EVA B tA τ fun ts τ1 => ts.length ≤ 1000 ∧ Φ (.nw (.lst ts)) τ1) : EV B (tLst tA) τ Φ := fun σ F H Q r c => by
  refine h σ F H _ r fun vs F1 H1 ts τ1 f1 r1 l1 ⟨hl, h1⟩ => ⟨by rw [l1.length]; exact Nat.le_trans hl (by decide), fun p hp => ?_⟩
  exact (c.on f1).nl r1 l1 hp h1
theorem e_cb1 {r : List V → Hp → VK → Prop} (h : EV B te τ fun x τ1 => Pnd x τ1 fun x τ1 => RU B (fun v H Q => r [v] H Q) x τ1 Φ) : EV B (tCB r (tCons te tNil)) τ Φ := fun σ F H Q rp c => by
  refine h σ F H _ rp fun v F1 H1 k τ1 f1 r1 ok1 n1 h1 => ?_
  obtain ⟨F2, k', f2, r2, ok2, h2, _⟩ := pnd_ok f1 r1 ok1 n1 h1
  exact h2 σ F2 H1 v Q r2 ok2 (c.on f2)
theorem e_cb2 {r : List V → Hp → VK → Prop} (h : EV B ta τ fun x τ1 => Pnd x τ1 fun x τ1 => EV B tb τ1 fun y τ2 => Pnd y τ2 fun y τ2 => RO B (fun v w H Q => r [v, w] H Q) x y τ2 Φ) : EV B (tCB r (tCons ta (tCons tb tNil))) τ Φ := fun σ F H Q rp c => by
  refine h σ F H _ rp fun v F1 H1 k τ1 f1 r1 ok1 n1 h1 => ?_
  obtain ⟨F2, k', f2, r2, ok2, h2, _⟩ := pnd_ok f1 r1 ok1 n1 h1
  refine h2 σ F2 H1 _ r2 fun w F3 H3 k3 τ3 f3 r3 ok3 n3 h3 => ?_
  obtain ⟨F4, k4, f4, r4, ok4, h4, _⟩ := pnd_ok f3 r3 ok3 n3 h3
  exact h4 σ F4 H3 v w Q r4 (ok2.same f4.f) ok4 (c.on (f2.trans f4))
noncomputable def OV (B : Bk) (to : TO) (τ : TSt) (Φ : Option Int → TSt → Prop) : Prop := ∀ σ F H (Q : Option Int → Hp → Prop), Rp B F H σ τ → (∀ b F' H' τ', Fr B σ τ F H τ' F' H' → Rp B F' H' σ τ' → Φ b τ' → Q b H') → to σ H Q
theorem o_no {S : Option Int → TSt → Prop} (q : S none τ) : OV B tNoPart τ S := fun _ F H _ r c => c none F H τ Fr.refl r q
theorem o_part {S : Option Int → TSt → Prop} (h : EV B te τ fun x τ1 => ∃ i, x = .fz (.int i) ∧ S (some i) τ1) : OV B (tPart te) τ S := fun σ F H Q r c => by
  refine h σ F H _ r fun v F1 H1 k τ1 f1 r1 ok1 _ ⟨b, e, h1⟩ => ?_
  subst e
  cases ok1
  exact ⟨b, rfl, c _ F1 H1 τ1 f1 r1 h1⟩
theorem t_eint {S : Int → Prop} (q : S i) : ∃ b', Kd.fz (.int i) = .fz (.int b') ∧ S b' := ⟨i, rfl, q⟩
noncomputable def RSl (B : Bk) (r : V → Option Int → Option Int → Hp → VK → Prop) (x : Kd) (lo hi : Option Int) (τ : TSt) (Φ : TK) : Prop := RU B (fun v H Q => r v lo hi H Q) x τ Φ
theorem e_sl {r : V → Option Int → Option Int → Hp → VK → Prop} {tl th : TO} (h : EV B te τ fun x τ1 => Pnd x τ1 fun x τ1 => OV B tl τ1 fun lo τ2 => OV B th τ2 fun hi τ3 => RSl B r x lo hi τ3 Φ) : EV B (tSl r te tl th) τ Φ := fun σ F H Q rp c => by
  refine h σ F H _ rp fun v F1 H1 k τ1 f1 r1 ok1 n1 h1 => ?_
  obtain ⟨F2, k', f2, r2, ok2, h2, _⟩ := pnd_ok f1 r1 ok1 n1 h1
  refine h2 σ F2 H1 _ r2 fun lo F3 H3 τ3 f3 r3 h3 => ?_
  refine h3 σ F3 H3 _ r3 fun hi F4 H4 τ4 f4 r4 h4 => ?_
  exact h4 σ F4 H4 v Q r4 ((ok2.same f3.f).same f4.f) (c.on (f2.trans (f3.trans f4)))
noncomputable def cutT (xs : List Tr) (lo hi : Option Int) : List Tr := (xs.drop (HT.sIx xs.length 0 lo)).take (HT.sIx xs.length xs.length hi - HT.sIx xs.length 0 lo)
theorem isl_cut {K : PySem.W.Frag} {F : Hp} {vs : List V} {ts : List Tr} {lo hi : Option Int} (h : IsL K F vs ts) : IsL K F (cutV vs lo hi) (cutT ts lo hi) := by
  unfold cutV cutT
  rw [h.length]
  exact (h.drop _).take _
theorem rs_L {K : PySem.W.Frag} {ts : List Tr} {lo hi : Option Int} (hK : K = B.K) (rk : Rk τ x (.lst ts)) (q : Φ (.nw (.lst (cutT ts lo hi))) τ) : RSl B (rSlL K) x lo hi τ Φ := fun _ _ _ _ _ r a c => by
  subst hK
  obtain ⟨p, vs, rfl, s, l⟩ := rk.list r a
  exact ⟨p, vs, rfl, s, fun p' hp => c.nl r (isl_cut l) hp q⟩
theorem rs_T {K : PySem.W.Frag} {ts : List Tr} {lo hi : Option Int} (hK : K = B.K) (rk : Rk τ x (.tup ts)) (hw : ¬ (HT.sIx ts.length 0 lo = 0 ∧ HT.sIx ts.length ts.length hi = ts.length)) (q : Φ (.fz (.tup (cutT ts lo hi))) τ) : RSl B (rSlT K) x lo hi τ Φ := fun _ _ H _ Q r a c => by
  subst hK
  obtain ⟨p, vs, rfl, s, l⟩ := rk.tuple r a
  rw [← l.length] at hw
  exact ⟨p, vs, rfl, s, hw, fun p' hp => c.nt r (isl_cut l) hp q⟩
end
end L2

namespace L2
open PySem PySem.Spec PyProof.Rows
section
variable {B : Bk} {F H : Hp} {σ : St} {τ τ' : TSt}
theorem Rp.setO {i : Nat} {t t' : Tr} {l : Addr} {o' : HO} (r : Rp B F H σ τ) (h : TAt τ i (.own t)) (e : SAt σ i (.ref l)) (g : Ow B.K F (upd H l o') l t') : Rp B F (upd H l o') σ (τ.set i (.own t')) ∧ Fr B σ τ F H (τ.set i (.own t')) F (upd H l o') := by
  obtain ⟨l', e', g0, n, n0⟩ := r.ow i t h
  cases sat_unique e e'
  have keep : ∀ q, q ≠ l → ∀ o, H q = some o → (upd H l o') q = some o := fun q hq o z => by rw [upd_ne hq]; exact z
  have kx : ∀ q φ, H q = some (.ext φ) → (upd H l o') q = some (.ext φ) := fun q φ z => keep q (fun e => by
    obtain ⟨o, ho, mb⟩ := g0.mb
    rw [e, ho] at z; cases z; exact mb) _ z
  refine ⟨{
    wa := r.wa
    wf := r.wf
    wj := B.jl _ _ (fun q hw => by
      have : q ≠ l := fun e => r.wa q hw (by rw [e]; exact n0)
      rw [upd_ne this]) kx r.wj
    wd := fun j z => by
      rcases tset z with ⟨_, z, _⟩ | ⟨_, z⟩
      · cases z
      · exact r.wd j z
    up := { f := r.up.f, h := fun q o nw z => by
              have : q ≠ l := fun e => by rw [e, n0] at z; cases z
              exact keep q this o (r.up.h q o nw z)
            w := fun q z => r.up.w q (upd_none z)
            x := r.up.x
            j := fun z => B.jl _ _ (fun q hw => by
              have : q ≠ l := fun e => r.wa q hw (by rw [e]; exact n0)
              rw [upd_ne this]) kx r.wj
            i := fun q o z => by
              have : q ≠ l := fun e => by rw [e, n] at z; cases z
              exact keep q this o (r.up.i q o z)
            m := r.up.m }
    len := by rw [List.length_set]; exact r.len
    fz := fun j u z => by
      rcases tset z with ⟨_, z, _⟩ | ⟨_, z⟩
      · cases z
      · exact r.fz j u z
    ow := fun j u z => by
      rcases tset z with ⟨rfl, z, _⟩ | ⟨nj, z⟩
      · cases z; exact ⟨l, e, g, n, n0⟩
      · obtain ⟨l2, a, b, c⟩ := r.ow j u z
        have : l2 ≠ l := fun q => r.ap i j t u l h z (fun q => nj q.symm) e (by rw [← q]; exact a)
        exact ⟨l2, a, b.to (Same.refl _) (keep l2 this), c⟩
    vw := fun j u z => by
      rcases tset z with ⟨_, z, _⟩ | ⟨nj, z⟩
      · cases z
      · obtain ⟨l2, a, b, c⟩ := r.vw j u z
        have : l2 ≠ l := fun q => r.av i j t u l h z e (by rw [← q]; exact a)
        exact ⟨l2, a, b.to (Same.refl _) (keep l2 this), c⟩
    ap := fun a b u w l2 ha hb ne hi hj => by
      obtain ⟨u', ha'⟩ : ∃ u, TAt τ a (.own u) := by
        rcases tset ha with ⟨rfl, _, _⟩ | ⟨_, z⟩
        · exact ⟨_, h⟩
        · exact ⟨_, z⟩
      obtain ⟨w', hb'⟩ : ∃ u, TAt τ b (.own u) := by
        rcases tset hb with ⟨rfl, _, _⟩ | ⟨_, z⟩
        · exact ⟨_, h⟩
        · exact ⟨_, z⟩
      exact r.ap a b u' w' l2 ha' hb' ne hi hj
    av := fun a b u w l2 ha hb hi hj => by
      obtain ⟨u', ha'⟩ : ∃ u, TAt τ a (.own u) := by
        rcases tset ha with ⟨rfl, _, _⟩ | ⟨_, z⟩
        · exact ⟨_, h⟩
        · exact ⟨_, z⟩
      rcases tset hb with ⟨_, z, _⟩ | ⟨_, z⟩
      · cases z
      · exact r.av a b u' w l2 ha' z hi hj }, ?_⟩
  refine ⟨Same.refl _, fun p o hp _ no => ?_, fun j u z => ?_, fun p hp => ?_⟩
  · have : p ≠ l := fun q => no i t h (by rw [q]; exact e)
    exact ⟨keep p this o hp, fun _ z => z⟩
  · rcases tset z with ⟨rfl, _, _⟩ | ⟨_, z⟩
    · exact ⟨_, h⟩
    · exact ⟨_, z⟩
  · by_cases q : p = l
    · rw [q, upd_same] at hp; cases hp
    · rw [upd_ne q] at hp; exact hp
end
section
variable {B : Bk} {τ τ' τ2 : TSt} {Φ : TK} {te ta tb : TE} {i k : Nat} {t u : Tr} {x : Kd} {ts us : List Tr}
noncomputable def tyT (T : String) : Tr → Prop
  | .str _ => T = "str"
  | .lst _ => T = "list"
  | .dct _ => T = "dict"
  | _ => False
noncomputable def TyK (T : String) (x : Kd) (τ : TSt) : Prop := ∃ t, Rk τ x t ∧ tyT T t
theorem TyK.v {F H : Hp} {σ : St} {T : String} {v : V} (h : TyK T x τ) (r : Rp B F H σ τ) (ok : PdOk B.K F σ v x) : tyV B.K T v H := by
  obtain ⟨t, rk, ht⟩ := h
  cases t with
  | lst ts =>
    obtain ⟨p, vs, rfl, s, _⟩ := rk.list r ok
    exact .inl ⟨ht, vs, s⟩
  | dct ts =>
    obtain ⟨p, vs, rfl, s, _⟩ := rk.dict r ok
    exact .inr (.inr (.inl ⟨ht, .inl ⟨vs, s⟩⟩))
  | str z =>
    have : v = .str z := by
      cases rk with
      | fz => cases ok; rfl
      | own g => obtain ⟨l, e, hw, _⟩ := r.ow _ _ g.eq; cases hw
      | vw g => obtain ⟨l, e, hw, _⟩ := r.vw _ _ g.eq; cases hw
      | sfz g =>
        obtain ⟨w, e, hi⟩ := r.fz _ _ g.eq
        cases sat_unique e ok
        cases hi; rfl
    subst this
    exact ht
  | _ => exact ht.elim
noncomputable def RM (B : Bk) (rr : V → List V → Hp → VK → Prop) (x : Kd) (ts : List Tr) (τ : TSt) (Φ : TK) : Prop := ∀ σ F H v vs Q, Rp B F H σ τ → PdOk B.K F σ v x → IsL B.K F vs ts → CT B σ τ F H Φ Q → rr v vs H Q
theorem e_bm {K : PySem.W.Frag} (hK : K = B.K) {T : String} {rr : V → List V → Hp → VK → Prop} {tA : TA} (h : EV B te τ fun x τ1 => Pnd x τ1 fun x τ1 => TyK T x τ1 ∧ EVA B tA τ1 fun ts τ2 => RM B rr x ts τ2 Φ) : EV B (tBM K T rr te tA) τ Φ := fun σ F H Q rp c => by
  subst hK
  refine h σ F H _ rp fun v F1 H1 k τ1 f1 r1 ok1 n1 h1 => ?_
  obtain ⟨F2, k', f2, r2, ok2, ⟨ty, h2⟩, _⟩ := pnd_ok f1 r1 ok1 n1 h1
  refine ⟨ty.v r2 ok2, h2 σ F2 H1 _ r2 fun vs F3 H3 ts τ3 f3 r3 l3 h3 => ?_⟩
  exact h3 σ F3 H3 v vs Q r3 (ok2.same f3.f) l3 (c.on (f2.trans f3))
theorem e_bm0 {K : PySem.W.Frag} (hK : K = B.K) {T : String} {rr : V → List V → Hp → VK → Prop} (h : EV B te τ fun x τ1 => Pnd x τ1 fun x τ1 => TyK T x τ1 ∧ RM B rr x [] τ1 Φ) : EV B (tBM0 K T rr te) τ Φ := fun σ F H Q rp c => by
  subst hK
  refine h σ F H _ rp fun v F1 H1 k τ1 f1 r1 ok1 n1 h1 => ?_
  obtain ⟨F2, k', f2, r2, ok2, ⟨ty, h2⟩, _⟩ := pnd_ok f1 r1 ok1 n1 h1
  exact ⟨ty.v r2 ok2, h2 σ F2 H1 v [] Q r2 ok2 .nil (c.on f2)⟩
theorem ty_list {S : Prop} (rk : Rk τ x (.lst ts)) (q : S) : TyK "list" x τ ∧ S := ⟨⟨_, rk, rfl⟩, q⟩
theorem ty_str {S : Prop} {z : Str} (q : S) : TyK "str" (.fz (.str z)) τ ∧ S := ⟨⟨_, .fz, rfl⟩, q⟩
theorem rm_own {rr : V → List V → Hp → VK → Prop} {ts us : List Tr} {as : List Tr} {res : Tr} (g : Gt τ k (.own (.lst ts))) (st : Sto τ k (.own (.lst us)) τ')
    (h : ∀ (K : PySem.W.Frag) (F H : Hp) (l : Addr) (vs ws : List V) (Q : VK), H l = some (.lst vs) → IsL K F vs ts → IsL K F ws as → (∀ v vs', IsL K F vs' us → Is K F v res → Q v (upd H l (.lst vs'))) → rr (.ref l) ws H Q) (q : Φ (.fz res) τ') : RM B rr (.sl k) as τ Φ := fun σ F H v ws Q r a l c => by
  obtain ⟨l0, e, hw, n, n0⟩ := r.ow _ _ g.eq
  cases sat_unique e a
  cases hw with
  | lst h1 h2 =>
    refine h B.K F H l0 _ ws Q h1 h2 l fun v vs' l' hv => ?_
    obtain ⟨r2, f2⟩ := r.setO g.eq e (.lst upd_same l')
    rw [st.eq] at r2 f2
    exact c _ F _ (.fz res) τ' f2 r2 hv trivial q
theorem rm_append (g : Gt τ k (.own (.lst ts))) (hl : ts.length ≤ 10000) (st : Sto τ k (.own (.lst (ts ++ [t]))) τ') (q : Φ (.fz .non) τ') : RM B rAppend (.sl k) [t] τ Φ :=
  rm_own g st (fun K F H l vs ws Q h1 h2 h3 c => by
    cases h3 with
    | cons a b =>
      cases b
      exact ⟨l, vs, _, rfl, rfl, h1, by rw [h2.length]; exact Nat.lt_of_le_of_lt hl (by decide), c _ _ (h2.snoc a) .non⟩) q
theorem rm_clear (g : Gt τ k (.own (.lst ts))) (st : Sto τ k (.own (.lst [])) τ') (q : Φ (.fz .non) τ') : RM B rClear (.sl k) [] τ Φ :=
  rm_own g st (fun K F H l vs ws Q h1 h2 h3 c => by
    cases h3
    exact ⟨l, vs, rfl, rfl, h1, c _ _ .nil .non⟩) q
theorem rm_reverse (g : Gt τ k (.own (.lst ts))) (st : Sto τ k (.own (.lst ts.reverse)) τ') (q : Φ (.fz .non) τ') : RM B rReverse (.sl k) [] τ Φ :=
  rm_own g st (fun K F H l vs ws Q h1 h2 h3 c => by
    cases h3
    exact ⟨l, vs, rfl, rfl, h1, c _ _ h2.rev .non⟩) q
inductive Ar where
  | fz (t : Tr) | wd
noncomputable def ArOk (B : Bk) (F : Hp) (v : V) : Ar → Prop
  | .fz t => Is B.K F v t
  | .wd => v = .ref B.rt
inductive ArL (B : Bk) (F : Hp) : List V → List Ar → Prop
  | nil : ArL B F [] []
  | cons {v : V} {a : Ar} {vs : List V} {as : List Ar} : ArOk B F v a → ArL B F vs as → ArL B F (v :: vs) (a :: as)
theorem ArL.length {B : Bk} {F : Hp} : ∀ {vs : List V} {as : List Ar}, ArL B F vs as → vs.length = as.length
  | _, _, .nil => rfl
  | _, _, .cons _ g => congrArg (· + 1) (ArL.length g)
theorem ArOk.same {B : Bk} {F F' : Hp} {v : V} {a : Ar} (s : Same F F') (h : ArOk B F v a) : ArOk B F' v a := by
  cases a with
  | fz t => exact Is.same s h
  | wd => exact h
theorem ArL.get {B : Bk} {F : Hp} : ∀ {vs : List V} {as : List Ar} {i : Nat} {a : Ar}, ArL B F vs as → as[i]? = some a → ∃ v, vs[i]? = some v ∧ ArOk B F v a
  | _, _, _, _, .nil, e => by simp at e
  | _, _, 0, _, .cons h _, e => by simp at e; subst e; exact ⟨_, rfl, h⟩
  | _, _, i + 1, t, .cons _ g, e => by
    obtain ⟨u, h1, h2⟩ := ArL.get (i := i) (a := t) g (by simpa using e)
    exact ⟨u, by simpa using h1, h2⟩
theorem ArL.app {B : Bk} {F : Hp} : ∀ {vs ws : List V} {as bs : List Ar}, ArL B F vs as → ArL B F ws bs → ArL B F (vs ++ ws) (as ++ bs)
  | _, _, _, _, .nil, s => s
  | _, _, _, _, .cons h g, s => .cons h (ArL.app g s)
noncomputable def EVW (B : Bk) (ta : TA) (τ : TSt) (Φ : List Ar → TSt → Prop) : Prop := ∀ σ F H (Q : List V → Hp → Prop), Rp B F H σ τ → (∀ vs F' H' as τ', Fr B σ τ F H τ' F' H' → Rp B F' H' σ τ' → ArL B F' vs as → Φ as τ' → Q vs H') → ta σ H Q
noncomputable def AsA (k : Kd) (τ : TSt) (S : Ar → TSt → Prop) : Prop := match k with
  | .wd => S .wd τ
  | .fz t => S (.fz t) τ
  | .nw t => S (.fz t) τ
  | .sl i => (∃ t, TAt τ i (.own t) ∧ S (.fz t) (τ.set i (.fz t))) ∨ ∃ t, TAt τ i (.fz t) ∧ S (.fz t) τ
theorem aa_wd {S : Ar → TSt → Prop} (h : S .wd τ) : AsA .wd τ S := h
theorem aa_fz {S : Ar → TSt → Prop} (h : S (.fz t) τ) : AsA (.fz t) τ S := h
theorem aa_nw {S : Ar → TSt → Prop} (h : S (.fz t) τ) : AsA (.nw t) τ S := h
theorem aa_own {S : Ar → TSt → Prop} (g : Gt τ k (.own t)) (s : Sto τ k (.fz t) τ') (h : S (.fz t) τ') : AsA (.sl k) τ S := as_own (S := fun t τ' => S (.fz t) τ') g s h
theorem aa_sfz {S : Ar → TSt → Prop} (g : Gt τ k (.fz t)) (h : S (.fz t) τ) : AsA (.sl k) τ S := as_sfz (S := fun t τ' => S (.fz t) τ') g h
theorem w_nil {S : List Ar → TSt → Prop} (q : S [] τ) : EVW B tNil τ S := fun σ F H Q r c => c [] F H [] τ Fr.refl r .nil q
theorem w_cons {tr : TA} {S : List Ar → TSt → Prop} (h : EV B te τ fun x τ1 => AsA x τ1 fun a τ2 => EVW B tr τ2 fun as τ3 => S (a :: as) τ3) : EVW B (tCons te tr) τ S := fun σ F H Q r c => by
  refine h σ F H _ r fun v F1 H1 k τ1 f1 r1 ok1 n1 h1 => ?_
  have go : AsF k τ1 (fun t τ2 => EVW B tr τ2 fun as τ3 => S (.fz t :: as) τ3) → tr σ H1 fun vs H2 => Q (v :: vs) H2 := fun h => by
    obtain ⟨F2, t, τ2, f2, r2, i2, h2, _⟩ := asF_ok f1 r1 ok1 n1 h
    exact h2 σ F2 H1 _ r2 fun vs F3 H3 ts τ3 f3 r3 l3 h3 => c _ F3 H3 _ τ3 (f2.trans f3) r3 (.cons (ArOk.same (a := .fz t) f3.f i2) l3) h3
  cases k with
  | wd => exact h1 σ F1 H1 _ r1 fun vs F3 H3 ts τ3 f3 r3 l3 h3 => c _ F3 H3 _ τ3 (f1.trans f3) r3 (.cons (a := .wd) ok1 l3) h3
  | fz t => exact go h1
  | nw t => exact go h1
  | sl i => exact go h1
noncomputable def RetOk (B : Bk) (F H : Hp) (v : V) : Kd → Prop
  | .fz t => Is B.K F v t
  | .nw t => ∃ l, v = .ref l ∧ Ow B.K F H l t ∧ F l = none ∧ B.H0 l = none
  | .sl _ => False
  | .wd => False
abbrev SpT := Bk → List Ar → (Kd → Prop) → (Addr → Prop) → Prop
structure BkOk (B : Bk) : Prop where
  i : Same B.F0 B.H0
  wa : ∀ p, B.W p → B.H0 p ≠ none
  wf : ∀ p, B.W p → B.F0 p = none
  wj : B.J B.H0
noncomputable def toSp (K : PySem.W.Frag) (S : SpT) : Sp := fun vs H Q E => ∃ B as Φ Ψ, B.K = K ∧ B.H0 = H ∧ BkOk B ∧ ArL B B.F0 vs as ∧ S B as Φ Ψ ∧ (∀ v F' H' k, Up B B.F0 H F' H' → RetOk B F' H' v k → Φ k → Q v H') ∧ ∀ C F' H', Up B B.F0 H F' H' → Ψ C → E (.ref C) none H'
theorem toSp_len {K : PySem.W.Frag} {S : SpT} {n : Nat} (hn : ∀ B as Φ Ψ, S B as Φ Ψ → as.length = n) : ∀ vs H Q E, toSp K S vs H Q E → vs.length = n := fun vs H Q E h => by
  obtain ⟨B, as, Φ, Ψ, _, _, _, l, s, _⟩ := h
  rw [l.length]; exact hn B as Φ Ψ s
theorem ret_kd {F H F' H' : Hp} {σ : St} {v : V} {kd : Kd} {B' : Bk} (r : Rp B F H σ τ) (hK : B'.K = B.K) (hH : B'.H0 = H) (h : RetOk B' F' H' v kd) : KdOk B F' H' σ τ v kd ∧ NewK H v kd := by
  cases kd with
  | fz t => exact ⟨by
      have h2 : Is B'.K F' v t := h
      rw [hK] at h2; exact h2, trivial⟩
  | sl i => exact h.elim
  | wd => exact h.elim
  | nw t =>
    obtain ⟨l, rfl, g, n, n0⟩ := h
    rw [hH] at n0
    rw [hK] at g
    refine ⟨⟨l, rfl, g, n, r.up.w l n0, fun i w h e => ?_⟩, fun l' e => by cases e; exact n0⟩
    rcases h with h | h
    · obtain ⟨l', e', g, _⟩ := r.ow i w h
      obtain ⟨o, ho, _⟩ := g.mb
      cases sat_unique e' e
      rw [n0] at ho; cases ho
    · obtain ⟨l', e', g, _⟩ := r.vw i w h
      obtain ⟨o, ho, _⟩ := g.mb
      cases sat_unique e' e
      rw [n0] at ho; cases ho
abbrev Bk.now (B : Bk) (F H : Hp) : Bk := { B with F0 := F, H0 := H }
theorem Up.of_now {F H F1 H1 F' H' : Hp} (u : Up (B.now F1 H1) F H F' H') : Up B F H F' H' := ⟨u.f, u.h, u.i, u.m, u.w, u.x, u.j⟩
theorem Rp.bkok {F H : Hp} {σ : St} (r : Rp B F H σ τ) : BkOk (B.now F H) := ⟨r.inc, fun p hw z => r.wa p hw (r.up.w p z), r.wf, r.wj⟩
theorem ArL.now {F F1 H1 : Hp} : ∀ {vs : List V} {as : List Ar}, ArL B F vs as → ArL (B.now F1 H1) F vs as
  | _, _, .nil => .nil
  | _, _, .cons (a := .fz _) h g => .cons (a := .fz _) h (ArL.now g)
  | _, _, .cons (a := .wd) h g => .cons (a := .wd) h (ArL.now g)
theorem e_callX {K : PySem.W.Frag} (hK : K = B.K) {S : SpT} {E : XK} {tA : TA} {Ψ : Addr → Prop} (hE : ∀ C F H, Up B B.F0 B.H0 F H → Ψ C → E (.ref C) none H) (h : EVW B tA τ fun as τ1 => ∀ F H, S (B.now F H) as (fun k => Φ k τ1) Ψ) : EV B (tCall (toSp K S) [] E tA) τ Φ := fun σ F H Q rp c => by
  subst hK
  unfold tCall
  simp only [List.append_nil]
  refine h σ F H _ rp fun vs F1 H1 as τ1 f1 r1 l1 h1 => ?_
  refine ⟨B.now F1 H1, as, _, _, rfl, rfl, r1.bkok, ?_, h1 F1 H1, fun v F2 H2 kd u ok φ => ?_, fun C F2 H2 u ψ => hE C F2 H2 (r1.up.trans u.of_now) ψ⟩
  · exact l1.now
  obtain ⟨a, b⟩ := ret_kd r1 (B' := B.now F1 H1) rfl rfl ok
  exact c.on f1 v F2 H2 kd τ1 (Fr.up u.of_now) (r1.go u.of_now) (by
    cases kd with
    | nw t => exact ⟨a.choose, a.choose_spec.1, a.choose_spec.2.1, a.choose_spec.2.2⟩
    | _ => exact a) b φ
theorem e_call {K : PySem.W.Frag} (hK : K = B.K) {S : SpT} {E : XK} {tA : TA} (h : EVW B tA τ fun as τ1 => ∀ F H, S (B.now F H) as (fun k => Φ k τ1) fun _ => False) : EV B (tCall (toSp K S) [] E tA) τ Φ := e_callX hK (fun _ _ _ _ z => z.elim) h
end
structure ET where
  nx : TSt → Prop
  rt : Kd → Prop
  bk : TSt → Prop
  ct : TSt → Prop
structure EO (B : Bk) (F : Hp) (D : Ends) (D' : ET) : Prop where
  nx : ∀ σ F' H τ, Same F F' → Rp B F' H σ τ → D'.nx τ → D.nx σ H
  rt : ∀ v F' H k, Up B B.F0 B.H0 F' H → RetOk B F' H v k → D'.rt k → D.rt v H
  bk : ∀ σ F' H τ, Same F F' → Rp B F' H σ τ → D'.bk τ → D.bk σ H
  ct : ∀ σ F' H τ, Same F F' → Rp B F' H σ τ → D'.ct τ → D.ct σ H
noncomputable def SV (B : Bk) (t : TS) (τ : TSt) (D' : ET) : Prop := ∀ σ F H D, Rp B F H σ τ → EO B F D D' → t D σ H
section
variable {B : Bk} {τ τ' τ2 : TSt} {te ta tb : TE} {i k : Nat} {t u : Tr} {x : Kd} {ts us : List Tr} {s1 s2 : TS} {nx bk ct : TSt → Prop} {rt : Kd → Prop} {c : TT}
theorem EO.on {F F1 : Hp} {D : Ends} {D' : ET} (e : EO B F D D') (s : Same F F1) : EO B F1 D D' := ⟨fun σ F' H τ z => e.nx σ F' H τ (s.trans z), e.rt, fun σ F' H τ z => e.bk σ F' H τ (s.trans z), fun σ F' H τ z => e.ct σ F' H τ (s.trans z)⟩
theorem s_seq (h : SV B s1 τ ⟨fun τ1 => SV B s2 τ1 ⟨nx, rt, bk, ct⟩, rt, bk, ct⟩) : SV B (tSeq s1 s2) τ ⟨nx, rt, bk, ct⟩ := fun σ F H D r e => h σ F H _ r ⟨fun σ' F' H' τ' s r' h' => h' σ' F' H' D r' (e.on s), e.rt, e.bk, e.ct⟩
theorem s_next (h : nx τ) : SV B tNext τ ⟨nx, rt, bk, ct⟩ := fun σ F H D r e => e.nx σ F H τ (Same.refl _) r h
theorem s_drop (h : EV B te τ fun _ τ1 => nx τ1) : SV B (tDrop te) τ ⟨nx, rt, bk, ct⟩ := fun σ F H D r e => h σ F H _ r fun v F1 H1 k τ1 f r1 _ _ h1 => e.nx σ F1 H1 τ1 f.f r1 h1
noncomputable def RtK (k : Kd) (τ : TSt) (R : Kd → Prop) : Prop := match k with
  | .fz t => R (.fz t)
  | .nw t => R (.nw t) ∨ R (.fz t)
  | .sl i => (∃ t, TAt τ i (.own t) ∧ (R (.nw t) ∨ R (.fz t))) ∨ ∃ t, TAt τ i (.fz t) ∧ R (.fz t)
  | .wd => False
theorem s_ret (h : EV B te τ fun k τ1 => RtK k τ1 rt) : SV B (tRet te) τ ⟨nx, rt, bk, ct⟩ := fun σ F H D r e => h σ F H _ r fun v F1 H1 k τ1 f r1 ok n h1 => by
  have fixed : ∀ l t, v = .ref l → Ow B.K F1 H1 l t → F1 l = none → B.H0 l = none → rt (.fz t) → D.rt v H1 := fun l t ev g nn n0 h => by
    subst ev
    obtain ⟨o, ho, mb⟩ := g.mb
    refine e.rt _ (upd F1 l o) H1 (.fz t) ⟨r1.up.f.trans (Same.new nn o), r1.up.h, fun q z hz => ?_, fun q z hz mz nz => ?_, r1.up.w, fun q hw nz => ?_, r1.up.j⟩ (g.is (Same.new nn o) (by rw [upd_same, ho])) h
    · by_cases hq : q = l
      · rw [hq, upd_same] at hz; cases hz; rw [hq]; exact ho
      · rw [upd_ne hq] at hz; exact r1.up.i q z hz
    · have : q ≠ l := fun e' => by rw [e', n0] at hz; cases hz
      rw [upd_ne this]; exact r1.up.m q z hz mz nz
    · have : q ≠ l := fun e' => r1.wa q hw (by rw [e']; exact n0)
      rw [upd_ne this]; exact r1.up.x q hw nz
  cases k with
  | fz t => exact e.rt v F1 H1 (.fz t) r1.up ok h1
  | nw t =>
    obtain ⟨l, ev, g, nn, n0, _⟩ := ok
    rcases h1 with h1 | h1
    · exact e.rt v F1 H1 (.nw t) r1.up ⟨l, ev, g, nn, n0⟩ h1
    · exact fixed l t ev g nn n0 h1
  | sl i =>
    rcases h1 with ⟨t, ht, h1⟩ | ⟨t, ht, h1⟩
    · obtain ⟨l, es, g, nn, n0⟩ := r1.ow i t ht
      have ev : v = .ref l := sat_unique ok es
      rcases h1 with h1 | h1
      · exact e.rt v F1 H1 (.nw t) r1.up ⟨l, ev, g, nn, n0⟩ h1
      · exact fixed l t ev g nn n0 h1
    · obtain ⟨w, es, g⟩ := r1.fz i t ht
      cases sat_unique es ok
      exact e.rt v F1 H1 (.fz t) r1.up g h1
  | wd => exact h1.elim
theorem rt_fz {R : Kd → Prop} (h : R (.fz t)) : RtK (.fz t) τ R := h
theorem rt_nw {R : Kd → Prop} (h : R (.nw t)) : RtK (.nw t) τ R := .inl h
theorem s_ifs (h : TV B c τ fun b τ1 => if b = true then SV B s1 τ1 ⟨nx, rt, bk, ct⟩ else SV B s2 τ1 ⟨nx, rt, bk, ct⟩) : SV B (tIfS c s1 s2) τ ⟨nx, rt, bk, ct⟩ := fun σ F H D r e => h σ F H _ r fun b F1 H1 τ1 f r1 h1 => by
  cases b with
  | true => rw [if_pos rfl] at h1 ⊢; exact h1 σ F1 H1 D r1 (e.on f.f)
  | false => rw [if_neg Bool.false_ne_true] at h1 ⊢; exact h1 σ F1 H1 D r1 (e.on f.f)
noncomputable def GA (B : Bk) (g : TG) (k : Kd) (τ : TSt) (N : TSt → Prop) : Prop := ∀ σ F H v (S : St → Hp → Prop), Rp B F H σ τ → KdOk B F H σ τ v k → (∀ σ' F' H' τ', Same F F' → Rp B F' H' σ' τ' → N τ' → S σ' H') → g v σ H S
theorem s_asg {g : TG} (h : EV B te τ fun k τ1 => GA B g k τ1 nx) : SV B (tAsg te g) τ ⟨nx, rt, bk, ct⟩ := fun σ F H D r e => h σ F H _ r fun v F1 H1 k τ1 f r1 ok _ h1 => h1 σ F1 H1 v _ r1 ok fun σ' F' H' τ' s r' n => e.nx σ' F' H' τ' (f.f.trans s) r' n
theorem g_fz {N : TSt → Prop} (s : Sto τ k (.fz t) τ') (h : N τ') : GA B (gName k) (.fz t) τ N := fun σ F H v S r ok q => q _ F H τ' (Same.refl _) (by have := r.setF (i := k) ok; rw [s.eq] at this; exact this) h
theorem g_nw {N : TSt → Prop} (s : Sto τ k (.own t) τ') (h : N τ') : GA B (gName k) (.nw t) τ N := fun σ F H v S r ok q => q _ F H τ' (Same.refl _) (by have := r.setN (i := k) ok; rw [s.eq] at this; exact this) h
theorem g_sl {N : TSt → Prop} (g : Gt τ i (.own t)) (s : Sto τ i (.fz t) τ') (s2 : Sto τ' k (.fz t) τ2) (h : N τ2) : GA B (gName k) (.sl i) τ N := fun σ F H v S r ok q => by
  obtain ⟨F2, l, e, sF, r2, hi, _⟩ := r.fixS g.eq
  cases sat_unique e ok
  rw [s.eq] at r2
  have r3 := r2.setF (i := k) hi
  rw [s2.eq] at r3
  exact q _ F2 H τ2 sF r3 h
noncomputable def GAs (B : Bk) (g : TGs) (ts : List Tr) (τ : TSt) (N : TSt → Prop) : Prop := ∀ σ F H vs (S : St → Hp → Prop), Rp B F H σ τ → IsL B.K F vs ts → (∀ σ' F' H' τ', Same F F' → Rp B F' H' σ' τ' → N τ' → S σ' H') → g vs σ H S
theorem g_tup {K : PySem.W.Frag} (hK : K = B.K) {N : TSt → Prop} {n : Nat} {g : TGs} (hl : ts.length = n) (h : GAs B g ts τ N) : GA B (gTup K n g) (.fz (.tup ts)) τ N := fun σ F H v S r ok q => by
  subst hK
  cases (show Is B.K F v (.tup ts) from ok) with
  | tup a b => exact ⟨_, _, rfl, r.inc.tup a, by rw [b.length]; exact hl, h σ F H _ S r b q⟩
theorem gs_nil {N : TSt → Prop} (h : N τ) : GAs B gNil [] τ N := fun σ F H vs S r l q => by
  cases l
  exact ⟨rfl, q σ F H τ (Same.refl _) r h⟩
theorem gs_cons {N : TSt → Prop} {g : TG} {gr : TGs} (h : GA B g (.fz t) τ fun τ1 => GAs B gr ts τ1 N) : GAs B (gCons g gr) (t :: ts) τ N := fun σ F H vs S r l q => by
  cases l with
  | cons a b => exact ⟨_, _, rfl, h σ F H _ _ r a fun σ1 F1 H1 τ1 s1 r1 h1 => h1 σ1 F1 H1 _ S r1 (b.same s1) fun σ' F' H' τ' s' r' n => q σ' F' H' τ' (s1.trans s') r' n⟩
theorem s_par {i j : Nat} {tA : TA} (h : EVA B tA τ fun ts τ1 => ∃ t u τ2 τ3, ts = [t, u] ∧ Sto τ1 i (.fz t) τ2 ∧ Sto τ2 j (.fz u) τ3 ∧ nx τ3) : SV B (tPar i j tA) τ ⟨nx, rt, bk, ct⟩ := fun σ F H D r e => h σ F H _ r fun vs F1 H1 ts τ1 f r1 l ⟨t, u, τ2, τ3, e1, s1, s2, hn⟩ => by
  subst e1
  cases l with
  | cons a b =>
    cases b with
    | cons b z =>
      cases z
      have r2 := r1.setF (i := i) a
      rw [s1.eq] at r2
      have r3 := r2.setF (i := j) b
      rw [s2.eq] at r3
      exact ⟨_, _, rfl, e.nx _ F1 H1 τ3 f.f r3 hn⟩
theorem par2 {i j : Nat} {t u : Tr} {N : TSt → Prop} (s1 : Sto τ i (.fz t) τ') (s2 : Sto τ' j (.fz u) τ2) (h : N τ2) : ∃ t' u' τa τb, [t, u] = [t', u'] ∧ Sto τ i (.fz t') τa ∧ Sto τa j (.fz u') τb ∧ N τb := ⟨t, u, τ', τ2, rfl, s1, s2, h⟩
theorem s_aug {ff : Int → Int → Int} {a : Int} (g : Gt τ k (.fz (.int a))) (h : EV B te τ fun x τ1 => ∃ b, x = .fz (.int b) ∧ ∃ τ2, Sto τ1 k (.fz (.int (ff a b))) τ2 ∧ nx τ2) : SV B (tAug k te (ipI ff)) τ ⟨nx, rt, bk, ct⟩ := fun σ F H D r e => by
  obtain ⟨v, ev, hv⟩ := r.fz _ _ g.eq
  cases hv
  refine ⟨_, ev, h σ F H _ r fun w F1 H1 kd τ1 f r1 ok _ ⟨b, e1, τ2, s, hn⟩ => ?_⟩
  subst e1
  cases ok
  refine ⟨a, b, rfl, rfl, ?_⟩
  have r2 := r1.setF (i := k) (v := .int (ff a b)) (t := .int (ff a b)) .int
  rw [s.eq] at r2
  exact e.nx _ F1 H1 τ2 f.f r2 hn
theorem sto2 {s : Sl} {N : TSt → Prop} (g : Sto τ k s τ') (h : N τ') : ∃ τ2, Sto τ k s τ2 ∧ N τ2 := ⟨τ', g, h⟩
noncomputable def ItOk (B : Bk) (F : Hp) (J : It) (ts : List Tr) : Prop := ∀ σ τ F' H', Same F F' → Rp B F' H' σ τ → (∀ i t, ts[i]? = some t → J.go i H' ∧ ∀ x H2, J.yld i H' x H2 → ∃ F2, Up B F' H' F2 H2 ∧ Is B.K F2 x t) ∧ J.stop ts.length H'
noncomputable def IV (B : Bk) (wi : TI) (τ : TSt) (Φ : List Tr → TSt → Prop) : Prop := ∀ σ F H (R : It → Hp → Prop), Rp B F H σ τ → (∀ J F' H' ts τ', Fr B σ τ F H τ' F' H' → Rp B F' H' σ τ' → ItOk B F' J ts → Φ ts τ' → R J H') → wi σ H R
theorem i_list {K : PySem.W.Frag} (hK : K = B.K) {Φ : List Tr → TSt → Prop} (h : EV B te τ fun x τ1 => AsF x τ1 fun t τ2 => ∃ ts, t = .lst ts ∧ Φ ts τ2) : IV B (iList K te) τ Φ := fun σ F H R r c => by
  subst hK
  refine h σ F H _ r fun v F1 H1 k τ1 f1 r1 ok1 n1 h1 => ?_
  obtain ⟨F2, t, τ2, f2, r2, i2, ⟨ts, e, h2⟩, _⟩ := asF_ok f1 r1 ok1 n1 h1
  subst e
  cases i2 with
  | lst a b =>
    refine ⟨_, rfl, ⟨_, r2.inc.seq a⟩, c _ F2 H1 ts τ2 f2 r2 (fun σ' τ' F' H' sF rH => ⟨fun i t e => ?_, ⟨_, rH.inc.seq (sF.seq a), by rw [b.length]; exact Nat.le_refl _⟩⟩) h2⟩
    obtain ⟨w, ew, hw⟩ := b.get e
    refine ⟨⟨_, w, rH.inc.seq (sF.seq a), ew⟩, fun x H2 y => ?_⟩
    obtain ⟨rfl, y2⟩ := y
    have := y2 _ (rH.inc.seq (sF.seq a))
    rw [ew] at this
    cases this
    exact ⟨F', Up.refl rH.inc, hw.same sF⟩
theorem i_tup {K : PySem.W.Frag} (hK : K = B.K) {Φ : List Tr → TSt → Prop} (h : EV B te τ fun x τ1 => AsF x τ1 fun t τ2 => ∃ ts, t = .tup ts ∧ Φ ts τ2) : IV B (iTup K te) τ Φ := fun σ F H R r c => by
  subst hK
  refine h σ F H _ r fun v F1 H1 k τ1 f1 r1 ok1 n1 h1 => ?_
  obtain ⟨F2, t, τ2, f2, r2, i2, ⟨ts, e, h2⟩, _⟩ := asF_ok f1 r1 ok1 n1 h1
  subst e
  cases i2 with
  | tup a b =>
    refine ⟨_, rfl, ⟨_, r2.inc.tup a⟩, c _ F2 H1 ts τ2 f2 r2 (fun σ' τ' F' H' sF rH => ⟨fun i t e => ?_, ⟨_, rH.inc.tup (sF.tup a), by rw [b.length]; exact Nat.le_refl _⟩⟩) h2⟩
    obtain ⟨w, ew, hw⟩ := b.get e
    refine ⟨⟨_, w, rH.inc.tup (sF.tup a), ew⟩, fun x H2 y => ?_⟩
    obtain ⟨rfl, y2⟩ := y
    have := y2 _ (rH.inc.tup (sF.tup a))
    rw [ew] at this
    cases this
    exact ⟨F', Up.refl rH.inc, hw.same sF⟩
theorem t_lst {S : List Tr → Prop} (q : S ts) : ∃ ts', Tr.lst ts = .lst ts' ∧ S ts' := ⟨ts, rfl, q⟩
theorem t_tup {S : List Tr → Prop} (q : S ts) : ∃ ts', Tr.tup ts = .tup ts' ∧ S ts' := ⟨ts, rfl, q⟩
noncomputable def rangeT (lo : Int) (n : Nat) : List Tr := (List.range n).map fun i => .int (lo + (i : Nat))
theorem rangeT_at {lo : Int} {n i : Nat} {t : Tr} (h : (rangeT lo n)[i]? = some t) : i < n ∧ t = .int (lo + (i : Nat)) := by
  unfold rangeT at h
  rw [List.getElem?_map] at h
  by_cases hi : i < n
  · rw [List.getElem?_range hi] at h; cases h; exact ⟨hi, rfl⟩
  · rw [List.getElem?_eq_none (by rw [List.length_range]; omega)] at h; cases h
theorem rangeT_len {lo : Int} {n : Nat} : (rangeT lo n).length = n := by unfold rangeT; rw [List.length_map, List.length_range]
theorem itr_ok {F : Hp} {lo : Int} {n : Nat} : ItOk B F (Itr lo n) (rangeT lo n) := fun σ' τ' F' H' sF rH => ⟨fun i t e => by
    obtain ⟨hi, rfl⟩ := rangeT_at e
    exact ⟨hi, fun x H2 y => by obtain ⟨rfl, rfl⟩ := y; exact ⟨F', Up.refl rH.inc, .int⟩⟩, by rw [rangeT_len]; exact Nat.le_refl _⟩
theorem i_rng1 {Φ : List Tr → TSt → Prop} (h : EV B te τ fun x τ1 => ∃ j, x = .fz (.int j) ∧ (-(2 ^ 62) ≤ j ∧ j < 2 ^ 62) ∧ Φ (rangeT 0 j.toNat) τ1) : IV B (iRng1 (tCons te tNil)) τ Φ := fun σ F H R r c => by
  refine h σ F H _ r fun v F1 H1 k τ1 f1 r1 ok1 n1 ⟨j, e, hb, h1⟩ => ?_
  subst e
  cases ok1
  exact ⟨j, rfl, hb.1, hb.2, c _ F1 H1 _ τ1 f1 r1 itr_ok h1⟩
theorem i_rng2 {Φ : List Tr → TSt → Prop} (h : EV B ta τ fun x τ1 => ∃ i, x = .fz (.int i) ∧ EV B tb τ1 fun y τ2 => ∃ j, y = .fz (.int j) ∧ (-(2 ^ 62) ≤ i ∧ i < 2 ^ 62 ∧ -(2 ^ 62) ≤ j ∧ j < 2 ^ 62) ∧ Φ (rangeT i (j - i).toNat) τ2) : IV B (iRng2 (tCons ta (tCons tb tNil))) τ Φ := fun σ F H R r c => by
  refine h σ F H _ r fun v F1 H1 k τ1 f1 r1 ok1 n1 ⟨i, e, h1⟩ => ?_
  subst e
  cases ok1
  refine h1 σ F1 H1 _ r1 fun w F2 H2 k2 τ2 f2 r2 ok2 n2 ⟨j, e, hb, h2⟩ => ?_
  subst e
  cases ok2
  exact ⟨i, j, rfl, hb, c _ F2 H2 _ τ2 (f1.trans f2) r2 itr_ok h2⟩
noncomputable def zipT (n : Nat) (ts : List Tr) : List Tr := (List.range ts.length).map fun i => .tup [.int ((n + i : Nat) : Int), ts.getD i .non]
theorem zipT_at {ts : List Tr} {i : Nat} {t : Tr} (h : (zipT 0 ts)[i]? = some t) : ∃ x, ts[i]? = some x ∧ t = .tup [.int (i : Nat), x] := by
  unfold zipT at h
  rw [List.getElem?_map] at h
  by_cases hi : i < ts.length
  · rw [List.getElem?_range hi] at h
    cases h
    refine ⟨ts[i], List.getElem?_eq_getElem hi, ?_⟩
    show Tr.tup [.int ((0 + i : Nat) : Int), ts.getD i .non] = _
    rw [List.getD_eq_getElem?_getD, List.getElem?_eq_getElem hi, Nat.zero_add]
    rfl
  · rw [List.getElem?_eq_none (by rw [List.length_range]; omega)] at h; cases h
theorem zipT_len {n : Nat} {ts : List Tr} : (zipT n ts).length = ts.length := by unfold zipT; rw [List.length_map, List.length_range]
theorem i_enum {K : PySem.W.Frag} (hK : K = B.K) {Φ : List Tr → TSt → Prop} (h : EV B te τ fun x τ1 => AsF x τ1 fun t τ2 => ∃ ts, t = .lst ts ∧ Φ (zipT 0 ts) τ2) : IV B (iEnum K (tCons te tNil)) τ Φ := fun σ F H R r c => by
  subst hK
  refine h σ F H _ r fun v F1 H1 k τ1 f1 r1 ok1 n1 h1 => ?_
  obtain ⟨F2, t, τ2, f2, r2, i2, ⟨ts, e, h2⟩, _⟩ := asF_ok f1 r1 ok1 n1 h1
  subst e
  cases i2 with
  | lst a b =>
    refine ⟨_, rfl, ⟨_, r2.inc.seq a⟩, c _ F2 H1 _ τ2 f2 r2 (fun σ' τ' F' H' sF rH => ⟨fun i t e => ?_, ⟨_, rH.inc.seq (sF.seq a), by rw [b.length, zipT_len]; exact Nat.le_refl _⟩⟩) h2⟩
    obtain ⟨x0, ex, rfl⟩ := zipT_at e
    obtain ⟨w, ew, hw⟩ := b.get ex
    refine ⟨⟨_, w, rH.inc.seq (sF.seq a), ew⟩, ?_⟩
    rintro x H2 ⟨p, y, rfl, hn, hy, rfl⟩
    have := hy _ (rH.inc.seq (sF.seq a))
    rw [ew] at this
    cases this
    have u := rH.tup (vs := [.int (i : Nat), w]) hn
    exact ⟨_, u, .tup (SqT.of upd_same) (.cons .int (.cons ((hw.same sF).same u.f) .nil))⟩
theorem s_for {wi : TI} {g : TG} {tbd : TS} (h : IV B wi τ fun ts τ1 => ∃ I : Nat → TSt → Prop, I 0 τ1 ∧ (∀ i t τ2, ts[i]? = some t → I i τ2 → GA B g (.fz t) τ2 fun τ3 => SV B tbd τ3 ⟨I (i + 1), rt, nx, I (i + 1)⟩) ∧ ∀ τ2, I ts.length τ2 → nx τ2) : SV B (tFor wi g tbd) τ ⟨nx, rt, bk, ct⟩ := fun σ F H D r e => by
  refine h σ F H _ r fun J F1 H1 ts τ1 f1 r1 itk ⟨I, i0, step, fin⟩ => ?_
  refine ⟨fun i m σ H => ∃ F2 τ2, Same F1 F2 ∧ Rp B F2 H σ τ2 ∧ I i τ2 ∧ i ≤ ts.length ∧ m = ts.length - i, ⟨_, F1, τ1, Same.refl _, r1, i0, Nat.zero_le _, rfl⟩, ?_⟩
  rintro i m σ H ⟨F2, τ2, s2, r2, i2, hi, rfl⟩
  obtain ⟨itg, its⟩ := itk σ τ2 F2 H s2 r2
  by_cases hlt : i < ts.length
  · obtain ⟨g1, g2⟩ := itg i ts[i] (List.getElem?_eq_getElem hlt)
    refine .inr ⟨g1, fun σ' H' => ∃ F2 τ2, Same F1 F2 ∧ Rp B F2 H' σ' τ2 ∧ I (i + 1) τ2, fun σ' H' ⟨F2, τ2, a, b, c⟩ => ⟨_, by omega, F2, τ2, a, b, c, hlt, rfl⟩, fun x H3 y => ?_⟩
    obtain ⟨F3, u3, hx⟩ := g2 x H3 y
    refine step i ts[i] τ2 (List.getElem?_eq_getElem hlt) i2 σ F3 H3 x _ (r2.go u3) hx fun σ4 F4 H4 τ4 s4 r4 h4 => ?_
    have s14 := s2.trans (u3.f.trans s4)
    exact h4 σ4 F4 H4 _ r4 ⟨fun σ5 F5 H5 τ5 s5 r5 h5 => ⟨F5, τ5, s14.trans s5, r5, h5⟩, e.rt, fun σ5 F5 H5 τ5 s5 r5 h5 => e.nx σ5 F5 H5 τ5 (f1.f.trans (s14.trans s5)) r5 h5, fun σ5 F5 H5 τ5 s5 r5 h5 => ⟨F5, τ5, s14.trans s5, r5, h5⟩⟩
  · have ei : i = ts.length := by omega
    subst ei
    exact .inl ⟨its, e.nx σ F2 H τ2 (f1.f.trans s2) r2 (fin τ2 i2)⟩
theorem s_while {tbd : TS} (I : Nat → TSt → Prop) (m0 : Nat) (h0 : I m0 τ) (step : ∀ m τ1, I m τ1 → TV B c τ1 fun b τ2 => if b = true then SV B tbd τ2 ⟨fun τ3 => ∃ m', m' < m ∧ I m' τ3, rt, nx, fun τ3 => ∃ m', m' < m ∧ I m' τ3⟩ else nx τ2) : SV B (tWhile c tbd) τ ⟨nx, rt, bk, ct⟩ := fun σ F H D r e => by
  refine ⟨fun m σ H => ∃ F2 τ2, Same F F2 ∧ Rp B F2 H σ τ2 ∧ I m τ2, ⟨m0, F, τ, Same.refl _, r, h0⟩, ?_⟩
  rintro m σ H ⟨F2, τ2, s2, r2, i2⟩
  refine step m τ2 i2 σ F2 H _ r2 fun b F3 H3 τ3 f3 r3 h3 => ?_
  have s3 := s2.trans f3.f
  cases b with
  | true =>
    rw [if_pos rfl] at h3 ⊢
    refine ⟨fun σ' H' => ∃ m', m' < m ∧ ∃ F2 τ2, Same F F2 ∧ Rp B F2 H' σ' τ2 ∧ I m' τ2, fun σ' H' z => z, h3 σ F3 H3 _ r3 ⟨?_, e.rt, fun σ5 F5 H5 τ5 s5 r5 h5 => e.nx σ5 F5 H5 τ5 (s3.trans s5) r5 h5, ?_⟩⟩
    · rintro σ5 F5 H5 τ5 s5 r5 ⟨m', hm, h5⟩
      exact ⟨m', hm, F5, τ5, s3.trans s5, r5, h5⟩
    · rintro σ5 F5 H5 τ5 s5 r5 ⟨m', hm, h5⟩
      exact ⟨m', hm, F5, τ5, s3.trans s5, r5, h5⟩
  | false => rw [if_neg Bool.false_ne_true] at h3 ⊢; exact e.nx σ F3 H3 τ3 s3 r3 h3
end
end L2

namespace L2
open PySem PySem.Spec PyProof.Rows
noncomputable def slOf : Ar → Sl
  | .fz t => .fz t
  | .wd => .wd
noncomputable def startT (n : Nat) (as : List Ar) : TSt := as.map slOf ++ List.replicate (n - as.length) Sl.no
theorem startT_at {n : Nat} {as : List Ar} {i : Nat} {s : Sl} (h : TAt (startT n as) i s) : (∃ a, s = slOf a ∧ as[i]? = some a) ∨ s = .no := by
  unfold TAt startT at h
  by_cases hi : i < as.length
  · rw [List.getElem?_append_left (by rw [List.length_map]; exact hi), List.getElem?_map, List.getElem?_eq_getElem hi] at h
    cases h
    exact .inl ⟨_, rfl, List.getElem?_eq_getElem hi⟩
  · rw [List.getElem?_append_right (by rw [List.length_map]; omega), List.getElem?_replicate] at h
    split at h
    · cases h; exact .inr rfl
    · cases h
theorem rp_start {B : Bk} {N : List Str} {vs : List V} {as : List Ar} (k : BkOk B) (l : ArL B B.F0 vs as) : Rp B B.F0 B.H0 (start N vs) (startT N.length as) := by
  have got : ∀ i a, as[i]? = some a → ∃ v, SAt (start N vs) i v ∧ ArOk B B.F0 v a := fun i a h => by
    obtain ⟨v, hv, hi⟩ := l.get h
    refine ⟨v, ?_, hi⟩
    have hj := (List.getElem?_eq_some_iff.mp hv).1
    unfold SAt start
    rw [List.getElem?_append_left (by rw [List.length_map]; exact hj), List.getElem?_map, hv]
    rfl
  exact {
  up := Up.refl k.i
  wa := k.wa
  wf := k.wf
  wj := k.wj
  wd := fun j h => by
    rcases startT_at h with ⟨a, e, hu⟩ | e
    · cases a with
      | fz t => cases e
      | wd =>
        obtain ⟨v, e, hv⟩ := got j _ hu
        cases (show v = .ref B.rt from hv)
        exact e
    · cases e
  len := by unfold start startT; rw [List.length_append, List.length_append, List.length_map, List.length_map, List.length_replicate, List.length_replicate, l.length]
  fz := fun j t h => by
    rcases startT_at h with ⟨a, e, hu⟩ | e
    · cases a with
      | wd => cases e
      | fz u =>
        cases e
        obtain ⟨v, e, hv⟩ := got j _ hu
        exact ⟨v, e, hv⟩
    · cases e
  ow := fun j t h => by
    rcases startT_at h with ⟨a, e, hu⟩ | e
    · cases a <;> cases e
    · cases e
  vw := fun j t h => by
    rcases startT_at h with ⟨a, e, hu⟩ | e
    · cases a <;> cases e
    · cases e
  ap := fun _ b t u l h => by
    rcases startT_at h with ⟨a, e, hu⟩ | e
    · cases a <;> cases e
    · cases e
  av := fun _ b t u l h => by
    rcases startT_at h with ⟨a, e, hu⟩ | e
    · cases a <;> cases e
    · cases e }
theorem toSp_open {K : PySem.W.Frag} {S : SpT} {vs : List V} {H : Hp} {Q : VK} {E : XK} (h : toSp K S vs H Q E) : ∃ B as Φ Ψ, B.K = K ∧ S B as Φ Ψ ∧ (∀ C F' H', Up B B.F0 B.H0 F' H' → Ψ C → E (.ref C) none H') ∧ ∀ (N : List Str) (t : TS), SV B t (startT N.length as) ⟨fun _ => Φ (.fz .non), Φ, fun _ => False, fun _ => False⟩ → t { nx := fun _ H' => Q .non H', rt := Q } (start N vs) H := by
  obtain ⟨B, as, Φ, Ψ, hK, rfl, k, l, s, q, x⟩ := h
  refine ⟨B, as, Φ, Ψ, hK, s, x, fun N t sv => sv _ _ _ _ (rp_start k l) ⟨?_, ?_, ?_, ?_⟩⟩
  · intro σ F' H' τ _ r h
    exact q .non F' H' (.fz .non) r.up .non h
  · intro v F' H' k u ok h
    exact q v F' H' k u ok h
  · exact fun _ _ _ _ _ _ z => z
  · exact fun _ _ _ _ _ _ z => z
theorem s_go {B : Bk} {t : TS} {τ : TSt} {n : Nat} {ts : List Ar} {D : ET} (h : startT n ts = τ) (q : SV B t τ D) : SV B t (startT n ts) D := by rw [h]; exact q
inductive InR (τ : TSt) : List (Str × Nat) → TSt → Prop
  | nil : InR τ [] []
  | fz {x : Str} {k : Nat} {t : Tr} {r : List (Str × Nat)} {r' : TSt} : Gt τ k (.fz t) → InR τ r r' → InR τ ((x, k) :: r) (.fz t :: r')
  | own {x : Str} {k : Nat} {t : Tr} {r : List (Str × Nat)} {r' : TSt} : Gt τ k (.own t) → InR τ r r' → InR τ ((x, k) :: r) (.vw t :: r')
  | vw {x : Str} {k : Nat} {t : Tr} {r : List (Str × Nat)} {r' : TSt} : Gt τ k (.vw t) → InR τ r r' → InR τ ((x, k) :: r) (.vw t :: r')
  | wd {x : Str} {k : Nat} {r : List (Str × Nat)} {r' : TSt} : Gt τ k .wd → InR τ r r' → InR τ ((x, k) :: r) (.wd :: r')
  | no {x : Str} {k : Nat} {r : List (Str × Nat)} {r' : TSt} : InR τ r r' → InR τ ((x, k) :: r) (.no :: r')
theorem InR.at {τ : TSt} {fr : List (Str × Nat)} {τi : TSt} (h : InR τ fr τi) : τi.length = fr.length ∧ ∀ i s, TAt τi i s → ∃ x k, fr[i]? = some (x, k) ∧ ((s = .no ∨ (s = .wd ∧ TAt τ k .wd)) ∨ (∃ t, s = .fz t ∧ TAt τ k (.fz t)) ∨ ∃ t, s = .vw t ∧ (TAt τ k (.own t) ∨ TAt τ k (.vw t))) := by
  induction h with
  | nil => exact ⟨rfl, fun i s h => by unfold TAt at h; simp at h⟩
  | fz g _ ih =>
    refine ⟨by rw [List.length_cons, List.length_cons, ih.1], fun i s h => ?_⟩
    cases i with
    | zero => simp [TAt] at h; subst h; exact ⟨_, _, rfl, .inr (.inl ⟨_, rfl, g.eq⟩)⟩
    | succ i => exact ih.2 i s (by simpa [TAt] using h)
  | own g _ ih =>
    refine ⟨by rw [List.length_cons, List.length_cons, ih.1], fun i s h => ?_⟩
    cases i with
    | zero => simp [TAt] at h; subst h; exact ⟨_, _, rfl, .inr (.inr ⟨_, rfl, .inl g.eq⟩)⟩
    | succ i => exact ih.2 i s (by simpa [TAt] using h)
  | vw g _ ih =>
    refine ⟨by rw [List.length_cons, List.length_cons, ih.1], fun i s h => ?_⟩
    cases i with
    | zero => simp [TAt] at h; subst h; exact ⟨_, _, rfl, .inr (.inr ⟨_, rfl, .inr g.eq⟩)⟩
    | succ i => exact ih.2 i s (by simpa [TAt] using h)
  | no _ ih =>
    refine ⟨by rw [List.length_cons, List.length_cons, ih.1], fun i s h => ?_⟩
    cases i with
    | zero => simp [TAt] at h; subst h; exact ⟨_, _, rfl, .inl (.inl rfl)⟩
    | succ i => exact ih.2 i s (by simpa [TAt] using h)
  | wd g _ ih =>
    refine ⟨by rw [List.length_cons, List.length_cons, ih.1], fun i s h => ?_⟩
    cases i with
    | zero => simp [TAt] at h; subst h; exact ⟨_, _, rfl, .inl (.inr ⟨rfl, g.eq⟩)⟩
    | succ i => exact ih.2 i s (by simpa [TAt] using h)
section
variable {B : Bk} {F H : Hp} {σ : St} {τ τi : TSt} {fr : List (Str × Nat)}
theorem inSt_at {i k : Nat} {x : Str} {v : V} (h : fr[i]? = some (x, k)) (g : SAt σ k v) : SAt (inSt σ fr) i v := by
  unfold SAt inSt at *
  rw [List.getElem?_map, h]
  show some ((σ[k]?).join) = _
  rw [g]; rfl
theorem InR.rp (h : InR τ fr τi) (r : Rp B F H σ τ) : Rp B F H (inSt σ fr) τi where
  up := r.up
  wa := r.wa
  wf := r.wf
  wj := r.wj
  wd := fun i z => by
    obtain ⟨x, k, hk, (e | ⟨e, g⟩) | ⟨u, e, g⟩ | ⟨u, e, g⟩⟩ := h.at.2 i _ z
    · cases e
    · exact inSt_at hk (r.wd _ g)
    · cases e
    · cases e
  len := by unfold inSt; rw [List.length_map, h.at.1]
  fz := fun i t z => by
    obtain ⟨x, k, hk, (e | ⟨e, g⟩) | ⟨u, e, g⟩ | ⟨u, e, g⟩⟩ := h.at.2 i _ z
    · cases e
    · cases e
    · cases e
      obtain ⟨v, a, b⟩ := r.fz _ _ g
      exact ⟨v, inSt_at hk a, b⟩
    · cases e
  ow := fun i t z => by
    obtain ⟨x, k, hk, (e | ⟨e, g⟩) | ⟨u, e, g⟩ | ⟨u, e, g⟩⟩ := h.at.2 i _ z <;> cases e
  vw := fun i t z => by
    obtain ⟨x, k, hk, (e | ⟨e, g⟩) | ⟨u, e, g⟩ | ⟨u, e, g⟩⟩ := h.at.2 i _ z
    · cases e
    · cases e
    · cases e
    · cases e
      rcases g with g | g
      · obtain ⟨l, a, b, c, n0⟩ := r.ow _ _ g
        exact ⟨l, inSt_at hk a, b, c, fun hw => r.wa l hw n0⟩
      · obtain ⟨l, a, b, c⟩ := r.vw _ _ g
        exact ⟨l, inSt_at hk a, b, c⟩
  ap := fun a b t u l z => by
    obtain ⟨x, k, hk, (e | ⟨e, g⟩) | ⟨u, e, g⟩ | ⟨u, e, g⟩⟩ := h.at.2 a _ z <;> cases e
  av := fun a b t u l z => by
    obtain ⟨x, k, hk, (e | ⟨e, g⟩) | ⟨u, e, g⟩ | ⟨u, e, g⟩⟩ := h.at.2 a _ z <;> cases e
theorem InR.noown (h : InR τ fr τi) {i : Nat} {t : Tr} (z : TAt τi i (.own t)) : False := by
  obtain ⟨x, k, hk, (e | ⟨e, g⟩) | ⟨u, e, g⟩ | ⟨u, e, g⟩⟩ := h.at.2 i _ z <;> cases e
theorem Rp.consO {o : Option V} (r : Rp B F H σ τ) : Rp B F H (o :: σ) (.no :: τ) where
  up := r.up
  wa := r.wa
  wf := r.wf
  wj := r.wj
  wd := fun i z => by
    cases i with
    | zero => cases z
    | succ i => exact r.wd i z
  len := by rw [List.length_cons, List.length_cons, r.len]
  fz := fun i t z => by
    cases i with
    | zero => cases z
    | succ i => obtain ⟨v, a, b⟩ := r.fz i t z; exact ⟨v, a, b⟩
  ow := fun i t z => by
    cases i with
    | zero => cases z
    | succ i => exact r.ow i t z
  vw := fun i t z => by
    cases i with
    | zero => cases z
    | succ i => exact r.vw i t z
  ap := fun a b t u l ha hb ne hi hj => by
    cases a with
    | zero => cases ha
    | succ a =>
      cases b with
      | zero => cases hb
      | succ b => exact r.ap a b t u l ha hb (fun z => ne (by rw [z])) hi hj
  av := fun a b t u l ha hb hi hj => by
    cases a with
    | zero => cases ha
    | succ a =>
      cases b with
      | zero => cases hb
      | succ b => exact r.av a b t u l ha hb hi hj
theorem Rp.consF {v : V} {t : Tr} (r : Rp B F H σ τ) (h : Is B.K F v t) : Rp B F H (some v :: σ) (.fz t :: τ) := (r.consO (o := none)).setF (i := 0) h
theorem Rp.back {σi : St} {τ2 τ3 : TSt} {F' H' : Hp} (r : Rp B F H σ τ) (f : Fr B σi τ2 F H τ3 F' H') (no : ∀ i t, ¬ TAt τ2 i (.own t)) (ri : Rp B F' H' σi τ3) : Rp B F' H' σ τ ∧ Up B F H F' H' := by
  have up : Up B F H F' H' := ⟨f.f, fun p o nw hp => (f.k p o hp nw fun i t z => (no i t z).elim).1, ri.up.i, fun p o hp mb n => by
    by_cases hw : B.W p
    · exact ri.wf p hw
    · exact (f.k p o hp hw fun i t z => (no i t z).elim).2 mb n, f.h, fun p hw _ => ri.wf p hw, fun _ => ri.wj⟩
  exact ⟨r.go up, up⟩
theorem Rp.acc {acc : Addr} {o : HO} {ys : List V} (rb : Rp B F H σ τ) (hy : H acc = some (.lst ys)) (h0 : B.H0 acc = none) (na : F acc = none) (dis : ∀ i u, TAt τ i (.own u) ∨ TAt τ i (.vw u) → ¬ SAt σ i (.ref acc)) : Rp B F (upd H acc o) σ τ := {
      wa := rb.wa
      wf := rb.wf
      wj := B.jl _ _ (fun q hw => by
        have : q ≠ acc := fun e => rb.wa q hw (by rw [e]; exact h0)
        rw [upd_ne this]) (fun q φ z => by rw [upd_ne (ne_of z hy nofun)]; exact z) rb.wj
      wd := rb.wd
      up := { f := rb.up.f, h := fun q o nw z => by
                have : q ≠ acc := fun e => by rw [e, h0] at z; cases z
                rw [upd_ne this]; exact rb.up.h q o nw z
              i := fun q o z => by
                have : q ≠ acc := fun e => by rw [e, na] at z; cases z
                rw [upd_ne this]; exact rb.up.i q o z
              m := rb.up.m
              w := fun q z => rb.up.w q (upd_none z)
              x := rb.up.x
              j := fun z => B.jl _ _ (fun q hw => by
                have : q ≠ acc := fun e => rb.wa q hw (by rw [e]; exact h0)
                rw [upd_ne this]) (fun q φ z => by rw [upd_ne (ne_of z hy nofun)]; exact z) rb.wj }
      len := rb.len
      fz := rb.fz
      ow := fun j u z => by
        obtain ⟨l', a, b, c⟩ := rb.ow j u z
        have : l' ≠ acc := fun e => dis j u (.inl z) (by rw [← e]; exact a)
        exact ⟨l', a, b.to (Same.refl _) (fun o ho => by rw [upd_ne this]; exact ho), c⟩
      vw := fun j u z => by
        obtain ⟨l', a, b, c⟩ := rb.vw j u z
        have : l' ≠ acc := fun e => dis j u (.inr z) (by rw [← e]; exact a)
        exact ⟨l', a, b.to (Same.refl _) (fun o ho => by rw [upd_ne this]; exact ho), c⟩
      ap := rb.ap
      av := rb.av }
end
section
variable {B : Bk} {τ τi : TSt} {Φ : TK} {fr : List (Str × Nat)} {wi : TI} {te : TE}
end
end L2

namespace L2
open PySem PySem.Spec PyProof.Rows
section
variable {B : Bk} {F H : Hp} {σ : St} {τ τi : TSt} {fr : List (Str × Nat)}
theorem Rp.pre (r : Rp B F H σ τ) : ∀ (vs : List V) (ts : List Tr), IsL B.K F vs ts → Rp B F H (vs.map some ++ σ) (ts.map Sl.fz ++ τ)
  | _, _, .nil => r
  | _, _, .cons h g => (Rp.pre r _ _ g).consF h
end
section
variable {B : Bk} {τ τi : TSt} {Φ : TK} {fr : List (Str × Nat)} {wi : TI} {te : TE} {tc : TT} {g : TG} {k : Nat}
theorem e_lcg (Cut : Tr → List Tr → Prop) (hk : ∀ t as, Cut t as → as.length = k)
    (hg : ∀ t as, Cut t as → ∀ (F H : Hp) (v : V) (σb : St) (S : St → Hp → Prop), Same F H → Is B.K F v t → k ≤ σb.length → (∀ ws, IsL B.K F ws as → S (ws.map some ++ σb.drop k) H) → g v σb H S)
    (h : IV B wi τ fun ts τ1 => ∃ τi, InR τ1 fr τi ∧ ts.length ≤ 100000 ∧ ∃ P : Nat → Option Tr → Prop, (∀ i t, ts[i]? = some t → ∃ as, Cut t as ∧ TV B tc (as.map Sl.fz ++ τi) fun b τ2 => if b = true then EV B te τ2 fun k τ3 => AsF k τ3 fun o _ => P i (some o) else P i none) ∧ ∀ os : List (Option Tr), os.length = ts.length → (∀ i o, os[i]? = some o → P i o) → Φ (.nw (.lst (os.filterMap id))) τ1) : EV B (tLCG k fr wi g tc te) τ Φ := fun σ F H Q r c => by
  refine h σ F H _ r fun J F1 H1 ts τ1 f1 r1 itk ⟨τi, inr, hlen, P, step, fin⟩ => ?_
  intro acc hacc
  refine ⟨fun i m σb H2 => ∃ F2 vs os, Rp B F2 H2 σ τ1 ∧ Fr B σ τ1 F1 H1 τ1 F2 H2 ∧ H2 acc = some (.lst vs) ∧ F2 acc = none ∧ IsL B.K F2 vs (os.filterMap id) ∧ os.length = i ∧ (∀ j o, os[j]? = some o → P j o) ∧ i ≤ ts.length ∧ m = ts.length - i ∧ k ≤ σb.length ∧ σb.drop k = inSt σ fr, ⟨_, F1, [], [], r1.go (r1.new hacc), Fr.up (r1.new hacc), upd_same, r1.inc.free hacc, .nil, rfl, fun j o z => (by cases z), Nat.zero_le _, rfl, by rw [List.length_append, List.length_replicate]; omega, by rw [List.drop_append_of_le_length (by rw [List.length_replicate]; exact Nat.le_refl _), List.drop_replicate, Nat.sub_self]; rfl⟩, ?_⟩
  rintro i m σb H2 ⟨F2, vs, os, r2, f2, ha, na, l2, hos, hP, hi, rfl, hkb, hdb⟩
  obtain ⟨itg, its⟩ := itk σ τ1 F2 H2 f2.f r2
  have nwa : ¬ B.W acc := fun hw => r1.wa acc hw (r1.up.w acc hacc)
  have dis : ∀ (i : Nat) (u : Tr), TAt τ1 i (.own u) ∨ TAt τ1 i (.vw u) → ¬ SAt σ i (.ref acc) := fun i u hu hs => by
    rcases hu with hu | hu
    · obtain ⟨l', e', g, _⟩ := r1.ow i u hu
      obtain ⟨o, ho, _⟩ := g.mb
      cases sat_unique e' hs
      rw [hacc] at ho; cases ho
    · obtain ⟨l', e', g, _⟩ := r1.vw i u hu
      obtain ⟨o, ho, _⟩ := g.mb
      cases sat_unique e' hs
      rw [hacc] at ho; cases ho
  have more : ∀ {o : Option Tr}, P i o → ∀ (j : Nat) (q : Option Tr), (os ++ [o])[j]? = some q → P j q := fun {o} hp j q hj => by
    rcases Nat.lt_or_ge j os.length with hjl | hjl
    · rw [List.getElem?_append_left hjl] at hj
      exact hP j q hj
    · rw [List.getElem?_append_right hjl] at hj
      have hz := (List.getElem?_eq_some_iff.mp hj).1
      rw [List.length_singleton] at hz
      have ej : j = i := by omega
      rw [show j - os.length = 0 by omega] at hj
      cases hj
      rw [ej]; exact hp
  by_cases hlt : i < ts.length
  · obtain ⟨g1, g2⟩ := itg i ts[i] (List.getElem?_eq_getElem hlt)
    refine .inr ⟨g1, fun x H3 y => ?_⟩
    obtain ⟨F3, u3, hx⟩ := g2 x H3 y
    have r3 := r2.go u3
    obtain ⟨as, hcut, htv⟩ := step i ts[i] (List.getElem?_eq_getElem hlt)
    refine hg ts[i] as hcut F3 H3 x σb _ r3.inc hx hkb fun ws lw => ?_
    rw [hdb]
    have ri : Rp B F3 H3 (ws.map some ++ inSt σ fr) (as.map Sl.fz ++ τi) := Rp.pre (inr.rp r3) ws as lw
    have noo : ∀ j t, ¬ TAt (as.map Sl.fz ++ τi) j (.own t) := fun j t z => by
      unfold TAt at z
      rcases Nat.lt_or_ge j as.length with q | q
      · rw [List.getElem?_append_left (by rw [List.length_map]; exact q), List.getElem?_map, List.getElem?_eq_getElem q] at z
        cases z
      · rw [List.getElem?_append_right (by rw [List.length_map]; exact q)] at z
        exact inr.noown z
    have hwl : (ws.map some).length = k := by rw [List.length_map, lw.length, hk _ _ hcut]
    have hk2 : k ≤ (ws.map some ++ inSt σ fr).length := by rw [List.length_append, hwl]; omega
    have hd2 : (ws.map some ++ inSt σ fr).drop k = inSt σ fr := by rw [← hwl, List.drop_left]
    refine htv _ F3 H3 _ ri fun b F4 H4 τ4 f4 r4 h4 => ?_
    cases b with
    | false =>
      rw [if_neg Bool.false_ne_true] at h4 ⊢
      obtain ⟨rb, ub⟩ := r3.back f4 noo r4
      have u25 := u3.trans ub
      exact ⟨ts.length - (i + 1), by omega, F4, vs, os ++ [none], rb, f2.trans (Fr.up u25), u25.h _ _ nwa ha, u25.m _ _ ha trivial na, by rw [List.filterMap_append]; simpa using l2.same u25.f, by rw [List.length_append, hos]; rfl, more h4, hlt, rfl, hk2, hd2⟩
    | true =>
      rw [if_pos rfl] at h4 ⊢
      refine h4 _ F4 H4 _ r4 fun v F5 H5 kd τ5 f5 r5 ok5 n5 h5 => ?_
      obtain ⟨F6, o, τ6, f6, r6, i6, hp6, _⟩ := asF_ok f5 r5 ok5 n5 h5
      obtain ⟨rb, ub⟩ := r3.back (f4.trans f6) noo r6
      have u25 := u3.trans ub
      have ha5 : H5 acc = some (.lst vs) := u25.h _ _ nwa ha
      have na5 : F6 acc = none := u25.m _ _ ha trivial na
      have hvl : vs.length ≤ i := by rw [l2.length, ← hos]; exact List.length_filterMap_le _ _
      refine ⟨vs, ts.length - (i + 1), ha5, Nat.lt_of_le_of_lt hvl (Nat.lt_of_lt_of_le (Nat.lt_of_lt_of_le hlt hlen) (by decide)), by omega, ?_⟩
      have f6' : Fr B σ τ1 F1 H1 τ1 F6 (upd H5 acc (.lst (vs ++ [v]))) := by
        have f7 := f2.trans (Fr.up u25)
        refine ⟨f7.f, fun p o hp nw no => ?_, f7.o, fun p hp => ?_⟩
        · have : p ≠ acc := fun e => by rw [e, hacc] at hp; cases hp
          rw [upd_ne this]; exact f7.k p o hp nw no
        · by_cases e : p = acc
          · rw [e, upd_same] at hp; cases hp
          · rw [upd_ne e] at hp; exact f7.h p hp
      exact ⟨F6, vs ++ [v], os ++ [some o], rb.acc ha5 (r1.up.w acc hacc) na5 dis, f6', upd_same, na5, by rw [List.filterMap_append]; exact (l2.same u25.f).snoc i6, by rw [List.length_append, hos]; rfl, more hp6, hlt, rfl, hk2, hd2⟩
  · have ei : i = ts.length := by omega
    subst ei
    exact .inl ⟨its, c _ F2 H2 (.nw (.lst (os.filterMap id))) τ1 (f1.trans f2) r2 ⟨acc, rfl, .lst ha l2, na, r1.up.w acc hacc, dis⟩ (fun l e => by cases e; exact f1.h _ hacc) (fin os hos hP)⟩
theorem e_lcP {K : PySem.W.Frag} (hK : K = B.K) (h : IV B wi τ fun ts τ1 => ∃ τi, InR τ1 fr τi ∧ ts.length ≤ 100000 ∧ ∃ P : Nat → Option Tr → Prop, (∀ i t, ts[i]? = some t → ∃ a b, t = .tup [a, b] ∧ TV B tc (.fz a :: .fz b :: τi) fun b τ2 => if b = true then EV B te τ2 fun k τ3 => AsF k τ3 fun o _ => P i (some o) else P i none) ∧ ∀ os : List (Option Tr), os.length = ts.length → (∀ i o, os[i]? = some o → P i o) → Φ (.nw (.lst (os.filterMap id))) τ1) : EV B (tLCG 2 fr wi (gTup K 2 (gCons (gName 0) (gCons (gName 1) gNil))) tc te) τ Φ := by
  subst hK
  refine e_lcg (fun t as => ∃ a b, t = .tup [a, b] ∧ as = [a, b]) (fun t as e => by obtain ⟨a, b, _, rfl⟩ := e; rfl) (fun t as e F H v σb S i hi hk q => ?_) ?_
  · obtain ⟨a, b, rfl, rfl⟩ := e
    cases hi with
    | tup s l =>
      cases l with
      | cons h1 l =>
        cases l with
        | cons h2 l =>
          cases l
          refine ⟨_, _, rfl, i.tup s, rfl, _, _, rfl, _, _, rfl, rfl, ?_⟩
          have := q _ (.cons h1 (.cons h2 .nil))
          match σb, hk with
          | x :: y :: r, _ => exact this
  · intro σ F H R r c
    refine h σ F H R r fun J F' H' ts τ' f r' it ⟨τi, a, b, P, st, fin⟩ => c J F' H' ts τ' f r' it ⟨τi, a, b, P, fun i t e => ?_, fin⟩
    obtain ⟨a, b, e, tv⟩ := st i t e
    exact ⟨[a, b], ⟨a, b, e, rfl⟩, tv⟩
theorem t_yes {Ψ : Bool → TSt → Prop} (h : Ψ true τ) : TV B tYes τ Ψ := fun σ F H Q r c => c true F H τ Fr.refl r h
theorem s_setlc {iy : Nat} {nx bk ct : TSt → Prop} {rt : Kd → Prop} (h : EV B (tLC fr wi te) τ fun k τ1 => GA B (gName iy) k τ1 nx) : SV B (tSetLC iy fr wi te) τ ⟨nx, rt, bk, ct⟩ := fun σ F H D r e => h σ F H _ r fun v F1 H1 k τ1 f r1 ok _ h1 => h1 σ F1 H1 v _ r1 ok fun σ' F' H' τ' s r' n => e.nx σ' F' H' τ' (f.f.trans s) r' n
end
section
variable {B : Bk} {τ τ' : TSt} {Φ : TK} {x : Kd} {i j : Int} {ts : List Tr} {b : Bool} {t : Tr} {K : PySem.W.Frag}
theorem ru_len (hK : K = B.K) (rk : Rk τ x (.lst ts)) (q : Φ (.fz (.int (ts.length : Nat))) τ) : RU B (fun v H Q => ∃ p ys, [v] = [V.ref p] ∧ (SqL K H p ys ∨ SqT K H p ys) ∧ Q (.int (ys.length : Nat)) H) x τ Φ := fun σ F H v Q r a c => by
  subst hK
  obtain ⟨p, vs, rfl, s, l⟩ := rk.list r a
  refine ⟨p, vs, rfl, .inl s, ?_⟩
  rw [l.length]; exact c.pl r .int q
theorem ru_lenT (hK : K = B.K) (rk : Rk τ x (.tup ts)) (q : Φ (.fz (.int (ts.length : Nat))) τ) : RU B (fun v H Q => ∃ p ys, [v] = [V.ref p] ∧ (SqL K H p ys ∨ SqT K H p ys) ∧ Q (.int (ys.length : Nat)) H) x τ Φ := fun σ F H v Q r a c => by
  subst hK
  obtain ⟨p, vs, rfl, s, l⟩ := rk.tuple r a
  refine ⟨p, vs, rfl, .inr s, ?_⟩
  rw [l.length]; exact c.pl r .int q
theorem ru_lenK (h : RU B (fun v H Q => ∃ p ys, [v] = [V.ref p] ∧ (SqL K H p ys ∨ SqT K H p ys) ∧ Q (.int (ys.length : Nat)) H) x τ Φ) : RU B (fun v H Q => rLen K [v] H Q) x τ Φ := h
theorem ru_abs (q : Φ (.fz (.int (if i < 0 then -i else i))) τ) : RU B (fun v H Q => ∃ i, [v] = [V.int i] ∧ Q (.int (if i < 0 then -i else i)) H) (.fz (.int i)) τ Φ := fun σ F H v Q r a c => by
  cases pd_int a
  exact ⟨i, rfl, c.pl r .int q⟩
theorem ru_toI (q : Φ (.fz (.int i)) τ) : RU B (fun v H Q => (∃ i, [v] = [V.int i] ∧ Q (.int i) H) ∨ ∃ k, [v] = [V.bl k] ∧ Q (.int (if k = true then 1 else 0)) H) (.fz (.int i)) τ Φ := fun σ F H v Q r a c => by
  cases pd_int a
  exact .inl ⟨i, rfl, c.pl r .int q⟩
theorem ru_toB (q : Φ (.fz (.int (if b = true then 1 else 0))) τ) : RU B (fun v H Q => (∃ i, [v] = [V.int i] ∧ Q (.int i) H) ∨ ∃ k, [v] = [V.bl k] ∧ Q (.int (if k = true then 1 else 0)) H) (.fz (.bl b)) τ Φ := fun σ F H v Q r a c => by
  cases pd_bl a
  exact .inr ⟨b, rfl, c.pl r .int q⟩
theorem ru_list (hK : K = B.K) (rk : Rk τ x (.lst ts)) (q : Φ (.nw (.lst ts)) τ) : RU B (fun v H Q => ∃ p ys, [v] = [V.ref p] ∧ (SqL K H p ys ∨ SqT K H p ys) ∧ ∀ l, H l = none → Q (.ref l) (upd H l (.lst ys))) x τ Φ := fun σ F H v Q r a c => by
  subst hK
  obtain ⟨p, vs, rfl, s, l⟩ := rk.list r a
  exact ⟨p, vs, rfl, .inl s, fun l' hl => c.nl r l hl q⟩
theorem ru_listT (hK : K = B.K) (rk : Rk τ x (.tup ts)) (q : Φ (.nw (.lst ts)) τ) : RU B (fun v H Q => ∃ p ys, [v] = [V.ref p] ∧ (SqL K H p ys ∨ SqT K H p ys) ∧ ∀ l, H l = none → Q (.ref l) (upd H l (.lst ys))) x τ Φ := fun σ F H v Q r a c => by
  subst hK
  obtain ⟨p, vs, rfl, s, l⟩ := rk.tuple r a
  exact ⟨p, vs, rfl, .inr s, fun l' hl => c.nl r l hl q⟩
theorem ru_tup (hK : K = B.K) (rk : Rk τ x (.lst ts)) (q : Φ (.fz (.tup ts)) τ) : RU B (fun v H Q => ∃ p ys, [v] = [V.ref p] ∧ ((SqL K H p ys ∧ ∀ l, H l = none → Q (.ref l) (upd H l (.tup ys))) ∨ (SqT K H p ys ∧ Q (.ref p) H))) x τ Φ := fun σ F H v Q r a c => by
  subst hK
  obtain ⟨p, vs, rfl, s, l⟩ := rk.list r a
  exact ⟨p, vs, rfl, .inl ⟨s, fun l' hl => c.nt r l hl q⟩⟩
theorem ro_max2 (q : Φ (.fz (.int (if j > i then j else i))) τ) : RO B (fun v w H Q => ∃ i j, [v, w] = [V.int i, V.int j] ∧ Q (.int (if j > i then j else i)) H) (.fz (.int i)) (.fz (.int j)) τ Φ := fun σ F H v w Q r a b c => by
  cases pd_int a; cases pd_int b
  exact ⟨i, j, rfl, c.pl r .int q⟩
theorem ro_min2 (q : Φ (.fz (.int (if j < i then j else i))) τ) : RO B (fun v w H Q => ∃ i j, [v, w] = [V.int i, V.int j] ∧ Q (.int (if j < i then j else i)) H) (.fz (.int i)) (.fz (.int j)) τ Φ := fun σ F H v w Q r a b c => by
  cases pd_int a; cases pd_int b
  exact ⟨i, j, rfl, c.pl r .int q⟩
noncomputable def tgT : Tr → Option Tg
  | .non => some .non
  | .bl _ => some .bl
  | .int _ => some .int
  | .str _ => some .str
  | .tup _ => some .tup
  | .lst _ => some .lst
  | .dct _ => some .dic
  | .ty _ => none
theorem is_tg {F H : Hp} {v : V} {g : Tg} (i : Same F H) (h : Is K F v t) (e : tgT t = some g) : tgIs K H v g := by
  cases h with
  | tup a b => cases e; exact ⟨_, i.tup a⟩
  | lst a b => cases e; exact ⟨_, i.seq a⟩
  | dct a b c => cases e; exact ⟨_, i _ _ a⟩
  | ty => cases e
  | _ => cases e; trivial
theorem ro_isi (hK : K = B.K) {n : String} {f : Tg → Bool} {g : Tg} (e : tgT t = some g) (q : Φ (.fz (.bl (f g))) τ) : RO B (fun v w H Q => rIsi K n f [v, w] H Q) (.fz t) (.fz (.ty n)) τ Φ := fun σ F H v w Q r a b c => by
  subst hK
  cases (show Is B.K F w (.ty n) from b)
  exact ⟨v, g, rfl, is_tg r.inc a e, c.pl r .bl q⟩
theorem ro_isiT (hK : K = B.K) {n : String} {f : Tg → Bool} {g : Tg} (e : tgT t = some g) (hb : f g = true) (q : Φ (.fz (.bl true)) τ) : RO B (fun v w H Q => rIsi K n f [v, w] H Q) (.fz t) (.fz (.ty n)) τ Φ := ro_isi hK e (by rw [hb]; exact q)
theorem ro_isiF (hK : K = B.K) {n : String} {f : Tg → Bool} {g : Tg} (e : tgT t = some g) (hb : f g = false) (q : Φ (.fz (.bl false)) τ) : RO B (fun v w H Q => rIsi K n f [v, w] H Q) (.fz t) (.fz (.ty n)) τ Φ := ro_isi hK e (by rw [hb]; exact q)
theorem ro_isNT (h : t.isN = true) (q : Φ (.fz (.bl true)) τ) : RO B rIsN (.fz t) (.fz .non) τ Φ := ro_isN (by rw [h]; exact q)
theorem ro_isNF (h : t.isN = false) (q : Φ (.fz (.bl false)) τ) : RO B rIsN (.fz t) (.fz .non) τ Φ := ro_isN (by rw [h]; exact q)
theorem ro_notNT (h : t.isN = true) (q : Φ (.fz (.bl false)) τ) : RO B rNotN (.fz t) (.fz .non) τ Φ := ro_notN (by rw [h]; exact q)
theorem ro_notNF (h : t.isN = false) (q : Φ (.fz (.bl true)) τ) : RO B rNotN (.fz t) (.fz .non) τ Φ := ro_notN (by rw [h]; exact q)
end
end L2

namespace L2
open PySem PySem.Spec PyProof.Rows
theorem t_len {α : Type} {l : List α} {n : Nat} {S : Prop} (h : l.length ≤ n) (q : S) : l.length ≤ n ∧ S := ⟨h, q⟩
section
variable {B : Bk} {τ : TSt} {ta tb : TE}
theorem SqB.same {q : Bool} {K : PySem.W.Frag} {H H' : Hp} {a : Addr} {xs : List V} (s : Same H H') (h : SqB q K H a xs) : SqB q K H' a xs := by
  cases q with
  | true => exact s.tup h
  | false => exact s.seq h
end
section
variable {B : Bk} {τ τ' : TSt} {Φ : TK} {x y : Kd} {ts us : List Tr} {K : PySem.W.Frag}
theorem ro_catL (hK : K = B.K) (r1 : Rk τ x (.lst ts)) (r2 : Rk τ y (.lst us)) (hl : ts.length + us.length ≤ 100000) (q : Φ (.nw (.lst (ts ++ us))) τ) : RO B (rCatL K) x y τ Φ := fun _ _ _ _ _ _ r a b c => by
  subst hK
  obtain ⟨p, vs, rfl, s, l⟩ := r1.list r a
  obtain ⟨p2, ws, rfl, s2, l2⟩ := r2.list r b
  exact ⟨p, p2, vs, ws, rfl, rfl, s, s2, by rw [l.length, l2.length]; exact Nat.le_trans hl (by decide), fun p' hp => c.nl r (l.app l2) hp q⟩
theorem Rk.isT {F H : Hp} {σ : St} {v : V} (h : Rk τ x (.tup ts)) (r : Rp B F H σ τ) (ok : PdOk B.K F σ v x) : Is B.K F v (.tup ts) := by
  cases h with
  | fz => exact ok
  | own g => obtain ⟨l, e, hw, _⟩ := r.ow _ _ g.eq; cases hw
  | vw g => obtain ⟨l, e, hw, _⟩ := r.vw _ _ g.eq; cases hw
  | sfz g =>
    obtain ⟨w, e, hi⟩ := r.fz _ _ g.eq
    cases sat_unique e ok
    exact hi
end
end L2

namespace L2
open PySem PySem.Spec PyProof.Rows
inductive Dp : Nat → Tr → Prop
  | non {n : Nat} : Dp n .non
  | bl {n : Nat} {b : Bool} : Dp n (.bl b)
  | int {n : Nat} {i : Int} : Dp n (.int i)
  | str {n : Nat} {x : Str} : Dp n (.str x)
  | tup {n : Nat} {ts : List Tr} : (∀ t ∈ ts, Dp n t) → Dp (n + 1) (.tup ts)
  | lst {n : Nat} {ts : List Tr} : (∀ t ∈ ts, Dp n t) → Dp (n + 1) (.lst ts)
theorem dp_nil {n : Nat} : ∀ t ∈ ([] : List Tr), Dp n t := fun _ h => absurd h List.not_mem_nil
theorem dp_cons {n : Nat} {t : Tr} {r : List Tr} (h : Dp n t) (g : ∀ t ∈ r, Dp n t) : ∀ u ∈ t :: r, Dp n u := List.forall_mem_cons.mpr ⟨h, g⟩
theorem Dp.up {n : Nat} {t : Tr} (h : Dp n t) : ∀ {m : Nat}, n ≤ m → Dp m t := by
  induction h with
  | non => exact fun _ => .non
  | bl => exact fun _ => .bl
  | int => exact fun _ => .int
  | str => exact fun _ => .str
  | @tup n ts _ ih =>
    intro m hm
    obtain ⟨k, rfl⟩ : ∃ k, m = k + 1 := ⟨m - 1, by omega⟩
    exact .tup fun t ht => ih t ht (by omega)
  | @lst n ts _ ih =>
    intro m hm
    obtain ⟨k, rfl⟩ : ∃ k, m = k + 1 := ⟨m - 1, by omega⟩
    exact .lst fun t ht => ih t ht (by omega)
theorem alike_of {K : PySem.W.Frag} {F G H : Hp} {n : Nat} {t : Tr} (d : Dp n t) : ∀ {v w : V}, Same F H → Same G H → Is K F v t → Is K G w t → Alike K H n v w := by
  induction d with
  | non => intro v w i j a b; cases a; cases b; exact .non
  | bl => intro v w i j a b; cases a; cases b; exact .bl
  | int => intro v w i j a b; cases a; cases b; exact .int
  | str => intro v w i j a b; cases a; cases b; exact .str
  | tup _ ih =>
    intro v w i j a b
    cases a with
    | tup s1 l1 =>
      cases b with
      | tup s2 l2 =>
        refine .tup (i.tup s1) (j.tup s2) (by rw [l1.length, l2.length]) fun k x y hx hy => ?_
        obtain ⟨t1, e1, h1⟩ := l1.get2 hx
        obtain ⟨t2, e2, h2⟩ := l2.get2 hy
        rw [e1] at e2
        cases e2
        exact ih t1 (List.mem_of_getElem? e1) i j h1 h2
  | lst _ ih =>
    intro v w i j a b
    cases a with
    | lst s1 l1 =>
      cases b with
      | lst s2 l2 =>
        refine .lst (i.seq s1) (j.seq s2) (by rw [l1.length, l2.length]) fun k x y hx hy => ?_
        obtain ⟨t1, e1, h1⟩ := l1.get2 hx
        obtain ⟨t2, e2, h2⟩ := l2.get2 hy
        rw [e1] at e2
        cases e2
        exact ih t1 (List.mem_of_getElem? e1) i j h1 h2
section
variable {B : Bk} {τ τ' : TSt} {Φ : TK} {x y : Kd} {ts us : List Tr} {K : PySem.W.Frag} {b : Bool}
theorem inV_str {z : Str} : ∀ {ws : List Str}, inV (.str z) (ws.map V.str) = decide (z ∈ ws)
  | [] => rfl
  | x :: r => by
    have ih := inV_str (z := z) (ws := r)
    unfold inV at ih ⊢
    rw [List.map_cons, List.any_cons, ih]
    show ((x == z) || decide (z ∈ r)) = _
    by_cases h : x = z
    · subst h; simp
    · have h1 : (x == z) = false := by simpa using h
      rw [h1, Bool.false_or]
      by_cases k : z ∈ r
      · rw [decide_eq_true k, decide_eq_true (List.mem_cons_of_mem _ k)]
      · rw [decide_eq_false k, decide_eq_false (fun q => (List.mem_cons.mp q).elim (fun e => h e.symm) k)]
theorem flat_str : ∀ {ws : List Str}, (ws.map V.str).all flatV = true
  | [] => rfl
  | _ :: _ => by rw [List.map_cons, List.all_cons, flat_str]; rfl
theorem e_repLit {tA : TA} {n : Int} (h0 : 0 ≤ n) (h1 : n ≤ 1000) (h : EVA B tA τ fun ts τ1 => ts.length ≤ 1000 ∧ Φ (.nw (.lst (List.replicate n.toNat ts).flatten)) τ1) : EV B (tOp rRep (tLst tA) (tC (.int n))) τ Φ := fun σ F H Q r c => by
  refine h σ F H _ r fun vs F1 H1 ts τ1 f1 r1 l1 ⟨hl, h2⟩ => ⟨by rw [l1.length]; exact Nat.le_trans hl (by decide), fun p hp => ?_⟩
  have u := r1.new (o := .lst vs) hp
  refine ⟨p, n, vs, rfl, rfl, upd_same, by omega, by omega, Nat.le_trans (Nat.mul_le_mul (show vs.length ≤ 1000 by rw [l1.length]; exact hl) (show n.toNat ≤ 1000 by omega)) (by decide), fun p' hp' => ?_⟩
  refine (c.on (f1.trans (Fr.up u))).nl (r1.go u) ?_ hp' h2
  generalize n.toNat = m
  induction m with
  | zero => exact .nil
  | succ m ih => rw [List.replicate_succ, List.replicate_succ, List.flatten_cons, List.flatten_cons]; exact l1.app ih
theorem e_isiTL (hK : K = B.K) {te : TE} (h : EV B te τ fun x τ1 => Pnd x τ1 fun x τ1 => ∃ t g b, x = .fz t ∧ tgT t = some g ∧ (g.isTup || g.isLst) = b ∧ Φ (.fz (.bl b)) τ1) : EV B (tCB (rIsiTL K) (tCons te (tCons (tTup (tCons (tC (.ty "tuple")) (tCons (tC (.ty "list")) tNil))) tNil))) τ Φ := fun σ F H Q rp c => by
  subst hK
  refine h σ F H _ rp fun v F1 H1 k τ1 f1 r1 ok1 n1 h1 => ?_
  obtain ⟨F2, k', f2, r2, ok2, ⟨t, g, b, e1, e2, e3, φ⟩, _⟩ := pnd_ok f1 r1 ok1 n1 h1
  subst e1
  subst e3
  refine ⟨by decide, fun p hp => ?_⟩
  have u := r2.tup (vs := [.ty "tuple", .ty "list"]) hp
  refine ⟨v, g, p, rfl, SqT.of upd_same, is_tg (r2.go u).inc (Is.same u.f ok2) e2, ?_⟩
  exact (c.on (f2.trans (Fr.up u))).pl (r2.go u) .bl φ
theorem t_efzT {t : Tr} {g : Tg} {S : Bool → Prop} (e : tgT t = some g) (h : (g.isTup || g.isLst) = true) (q : S true) : ∃ t' g' b, Kd.fz t = .fz t' ∧ tgT t' = some g' ∧ (g'.isTup || g'.isLst) = b ∧ S b := ⟨t, g, true, rfl, e, h, q⟩
theorem t_efzF {t : Tr} {g : Tg} {S : Bool → Prop} (e : tgT t = some g) (h : (g.isTup || g.isLst) = false) (q : S false) : ∃ t' g' b, Kd.fz t = .fz t' ∧ tgT t' = some g' ∧ (g'.isTup || g'.isLst) = b ∧ S b := ⟨t, g, false, rfl, e, h, q⟩
end
section
variable {B : Bk} {τ : TSt} {Φ : TK}
theorem e_callD0 {K : PySem.W.Frag} (hK : K = B.K) {S : SpT} {E : XK} {tA : TA} {j : Int} (h : EVW B tA τ fun as τ1 => ∀ F H, S (B.now F H) (as ++ [.fz (.int j)]) (fun k => Φ k τ1) fun _ => False) : EV B (tCall (toSp K S) [.int j] E tA) τ Φ := fun σ F H Q rp c => by
  subst hK
  unfold tCall
  refine h σ F H _ rp fun vs F1 H1 as τ1 f1 r1 l1 h1 => ?_
  refine ⟨B.now F1 H1, _, _, _, rfl, rfl, r1.bkok, l1.now.app (.cons (a := .fz (.int j)) Is.int .nil), h1 F1 H1, fun v F2 H2 kd u ok φ => ?_, fun C F2 H2 u ψ => ψ.elim⟩
  obtain ⟨a, b⟩ := ret_kd r1 (B' := B.now F1 H1) rfl rfl ok
  exact c.on f1 v F2 H2 kd τ1 (Fr.up u.of_now) (r1.go u.of_now) (by
    cases kd with
    | nw t => exact ⟨a.choose, a.choose_spec.1, a.choose_spec.2.1, a.choose_spec.2.2⟩
    | _ => exact a) b φ
end
end L2

namespace L2
open PySem PySem.Spec PyProof.Rows
theorem arl1 {B : Bk} {F : Hp} {vs : List V} {t : Tr} (h : ArL B F vs [.fz t]) : ∃ v, vs = [v] ∧ Is B.K F v t := by
  cases h with
  | cons a b => cases b; exact ⟨_, rfl, a⟩
theorem arl2 {B : Bk} {F : Hp} {vs : List V} {t u : Tr} (h : ArL B F vs [.fz t, .fz u]) : ∃ v w, vs = [v, w] ∧ Is B.K F v t ∧ Is B.K F w u := by
  cases h with
  | cons a b =>
    cases b with
    | cons b c => cases c; exact ⟨_, _, rfl, a, b⟩
noncomputable def addT (F H : Hp) : Hp := fun p => match F p with
  | some o => some o
  | none => match H p with
    | some (.tup xs) => some (.tup xs)
    | some (.frz o (.tup xs)) => some (.frz o (.tup xs))
    | _ => none
theorem addT_some {F H : Hp} {p : Addr} {o : HO} (h : addT F H p = some o) : F p = some o ∨ (F p = none ∧ H p = some o ∧ ¬ Mb o) := by
  unfold addT at h
  cases e : F p with
  | some o' => rw [e] at h; exact .inl h
  | none =>
    rw [e] at h
    refine .inr ⟨rfl, ?_⟩
    cases e2 : H p with
    | none => rw [e2] at h; cases h
    | some o2 =>
      rw [e2] at h
      cases o2 with
      | tup xs => cases h; exact ⟨rfl, fun z => z⟩
      | frz o3 u =>
        cases u with
        | tup xs => cases h; exact ⟨rfl, fun z => z⟩
        | _ => cases h
      | _ => cases h
theorem upT {B : Bk} {F H H' : Hp} (k : BkOk B) (hF : B.F0 = F) (hH : B.H0 = H) (s : Same H H') : Up B F H (addT F H') H' where
  f := fun b o e => by unfold addT; rw [e]
  h := fun p o _ e => s p o e
  i := fun p o e => by
    rcases addT_some e with e | ⟨_, e, _⟩
    · exact s p o (by rw [← hH]; exact k.i p o (by rw [hF]; exact e))
    · exact e
  m := fun p o hp mb n => by
    cases e : addT F H' p with
    | none => rfl
    | some o2 =>
      rcases addT_some e with e | ⟨_, e, nm⟩
      · rw [n] at e; cases e
      · have := s p o hp
        rw [this] at e
        cases e
        exact (nm mb).elim
  w := fun p e => s.free e
  x := fun p hw n => by
    cases e : addT F H' p with
    | none => rfl
    | some o2 =>
      rcases addT_some e with e | ⟨_, e, nm⟩
      · rw [n] at e; cases e
      · obtain ⟨o, ho, mb⟩ := B.jm H' p (B.jl H H' (fun p hw => by
          cases e : H p with
          | none => exact absurd (by rw [hH]; exact e) (k.wa p hw)
          | some o => rw [s p o e]) (fun p φ z => s p _ z) (by rw [← hH]; exact k.wj)) hw
        rw [ho] at e
        cases e
        exact (nm mb).elim
  j := fun h => B.jl _ _ (fun p hw => by
    cases e : H p with
    | none => exact absurd (by rw [hH]; exact e) (k.wa p hw)
    | some o => rw [s p o e]) (fun p φ z => s p _ z) h
theorem SqT.addT {K : PySem.W.Frag} {F H : Hp} {p : Addr} {xs : List V} (i : Same F H) (h : SqT K H p xs) : SqT K (addT F H) p xs := by
  rcases h with (h | ⟨o, h⟩) | h
  · refine .inl (.inl ?_)
    unfold L2.addT
    cases e : F p with
    | some o => exact (i p o e).symm.trans h
    | none => show (match H p with | some (.tup xs) => some (HO.tup xs) | some (.frz o (.tup xs)) => some (HO.frz o (.tup xs)) | _ => none) = _; rw [h]
  · refine .inl (.inr ⟨o, ?_⟩)
    unfold L2.addT
    cases e : F p with
    | some o2 => exact (i p o2 e).symm.trans h
    | none => show (match H p with | some (.tup xs) => some (HO.tup xs) | some (.frz o (.tup xs)) => some (HO.frz o (.tup xs)) | _ => none) = _; rw [h]
  · exact .inr h
end L2

namespace L2
open PySem PySem.Spec PyProof.Rows
section
variable {B : Bk} {τ : TSt} {s1 s2 : TS} {D : Ends} {i j : Nat} {ts us : List Tr}
end
noncomputable def bkL (K : PySem.W.Frag) (F H : Hp) (p : Addr) (l : List (Addr × List V)) : Bk where
  K := K
  F0 := F
  H0 := H
  W := fun q => ∃ vs, (q, vs) ∈ l
  J := fun H' => ∀ x ∈ l, H' x.1 = some (.lst x.2)
  rt := p
  jl := fun H H' e _ h x hx => by rw [← e x.1 ⟨x.2, hx⟩]; exact h x hx
  jm := fun H q h hw => by
    obtain ⟨vs, hx⟩ := hw
    exact ⟨_, h _ hx, trivial⟩
section
variable {B : Bk} {τ : TSt} {σ : St} {F H F' H' : Hp} {p : Addr} {l : List (Addr × List V)} {k : Nat}
variable {D : Ends} {s2 : TS}
variable {B' : Bk} {a b : Addr} {ws : List V} {ts us ms : List Tr}
theorem Rp.plain {H3 : Hp} (r : Rp B F H σ τ) (cl : ∀ i s, TAt τ i s → s = .no ∨ ∃ t, s = .fz t) (s : Same F H3) : Rp (bkL B.K F H3 p []) F H3 σ τ where
  up := Up.refl s
  wa := fun q hw => by obtain ⟨_, hx⟩ := hw; exact absurd hx List.not_mem_nil
  wf := fun q hw => by obtain ⟨_, hx⟩ := hw; exact absurd hx List.not_mem_nil
  wj := fun x hx => absurd hx List.not_mem_nil
  wd := fun i e => by rcases cl i _ e with z | ⟨_, z⟩ <;> cases z
  len := r.len
  fz := r.fz
  ow := fun i t e => by rcases cl i _ e with z | ⟨_, z⟩ <;> cases z
  vw := fun i t e => by rcases cl i _ e with z | ⟨_, z⟩ <;> cases z
  ap := fun i j t u l e => by rcases cl i _ e with z | ⟨_, z⟩ <;> cases z
  av := fun i j t u l e => by rcases cl i _ e with z | ⟨_, z⟩ <;> cases z
end
end L2

namespace L2
open PySem PySem.Spec PyProof.Rows
section
variable {B B' : Bk} {τ τ' : TSt} {D : Ends} {s2 : TS} {p a b : Addr} {vs ws : List V} {ts us : List Tr} {k : Nat}
end
end L2

namespace L2
open PySem PySem.Spec PyProof.Rows
noncomputable def VwB (B : Bk) (ts : List Tr) : Prop := ∃ vs, IsL B.K B.F0 vs ts ∧ ∀ H, B.J H → H B.rt = some (.lst vs)
theorem VwB.now {B : Bk} {ts : List Tr} {F H : Hp} (h : VwB B ts) (s : Same B.F0 F) : VwB (B.now F H) ts := by
  obtain ⟨vs, a, b⟩ := h
  exact ⟨vs, a.same s, b⟩
section
variable {B : Bk} {τ τ' : TSt} {k : Nat}
abbrev Bk.at (B : Bk) (l : Addr) : Bk := { B with rt := l }
theorem ArL.base {B1 B2 : Bk} {F : Hp} (hK : B1.K = B2.K) (hr : B1.rt = B2.rt) : ∀ {vs : List V} {as : List Ar}, ArL B1 F vs as → ArL B2 F vs as
  | _, _, .nil => .nil
  | _, _, .cons (a := .fz t) h g => .cons (a := .fz t) (by have h : Is B1.K F _ t := h; rw [hK] at h; exact h) (ArL.base hK hr g)
  | _, _, .cons (a := .wd) h g => .cons (a := .wd) (by have h : _ = V.ref B1.rt := h; rw [hr] at h; exact h) (ArL.base hK hr g)
end
end L2
namespace L2
end L2

namespace L2
open PySem PySem.Spec PyProof.Rows
section
variable {B : Bk} {τ τ1 : TSt} {Φ : TK} {te : TE} {K : PySem.W.Frag} {x y : Kd}
theorem ro_inT (hK : K = B.K) {ws : List Str} {z : Str} (r2 : Rk τ y (.tup (ws.map Tr.str))) (q : Φ (.fz (.bl (decide (z ∈ ws)))) τ) : RO B (rIn K false) (.fz (.str z)) y τ Φ := fun σ F H v w Q r a b c => by
  subst hK
  cases pd_str a
  obtain ⟨p, vs, rfl, s, l⟩ := r2.tuple r b
  rw [l.strs] at s
  refine ⟨p, _, rfl, .inr s, rfl, flat_str, ?_⟩
  rw [inV_str]; exact c.pl r .bl q
end
end L2

namespace L2
open PySem PySem.Spec PyProof.Rows
noncomputable def addS (acc : List Str) (z : Str) : List Str := if z ∈ acc then acc else acc ++ [z]
noncomputable def metS (ws : List Str) : List Str := ws.foldl addS []
theorem metS_snoc (ws : List Str) (z : Str) : metS (ws ++ [z]) = addS (metS ws) z := by unfold metS; rw [List.foldl_append]; rfl
theorem addS_mem {acc : List Str} {z x : Str} : x ∈ addS acc z ↔ x ∈ acc ∨ x = z := by
  unfold addS
  split
  · rename_i h; exact ⟨.inl, fun q => q.elim id fun e => e ▸ h⟩
  · rw [List.mem_append, List.mem_singleton]
theorem addS_len {acc : List Str} {z : Str} : (addS acc z).length = if decide (z ∈ acc) = true then acc.length else acc.length + 1 := by
  unfold addS
  by_cases h : z ∈ acc
  · rw [if_pos h, decide_eq_true h, if_pos rfl]
  · rw [if_neg h, decide_eq_false h, if_neg Bool.false_ne_true, List.length_append]; rfl
theorem metS_le : ∀ ws : List Str, (metS ws).length ≤ ws.length := by
  have g : ∀ (ws acc : List Str), (ws.foldl addS acc).length ≤ acc.length + ws.length := by
    intro ws
    induction ws with
    | nil => intro acc; exact Nat.le_refl _
    | cons z r ih =>
      intro acc
      have h1 := ih (addS acc z)
      have h2 : (addS acc z).length ≤ acc.length + 1 := by rw [addS_len]; split <;> omega
      rw [List.foldl_cons, List.length_cons]
      omega
  intro ws
  have := g ws []
  unfold metS
  simpa using this
section
variable {prog : Program} {w : World} {A : Around} {R : Result → Shared → Prop} {I : Addr} {fp wr : List Addr} {G : Array GenState → Array GenState → Prop} {n : Nat} {P : Nat → Value → Prop} {St : Nat → Shared → Prop}
theorem set_walk (W : WalksS prog w A.in1 I fp wr G n P St) (S : Addr) (nS : S ∉ fp) (ws : List Str) (lw : ws.length = n)
    (tx : ∀ i v, P i v → ∃ z t, ws[i]? = some z ∧ v = .str z t) (room : n + 1 < scanBound) : ∀ (k i : Nat) (s : Shared), n - i = k → i ≤ n → St i s →
      s.heap.SetOf (strKind prog w) S (fun x => decide (x ∈ metS (ws.take i))) (metS (ws.take i)).length →
      (∀ s', Moved (S :: wr) G s s' → s'.heap.SetOf (strKind prog w) S (fun x => decide (x ∈ metS ws)) (metS ws).length → R (.ok (.ret .none)) s') →
      codeAny (model prog w) A (.builtin "set.update.loop" ⟨[.ref S, .ref I], []⟩) R s := by
  have nW : S ∉ wr := fun z => nS (W.sub _ z)
  have up : ∀ b ∈ wr, b ∈ S :: wr := fun b z => List.mem_cons_of_mem _ z
  have on : ∀ {s s' : Shared} {f : Str → Bool} {m : Nat}, Moved wr G s s' → s.heap.SetOf (strKind prog w) S f m → s'.heap.SetOf (strKind prog w) S f m := fun mv q => by
    obtain ⟨o, es, ep, t, ho, r⟩ := q
    exact ⟨o, es, ep, t, mv.heap S _ nW ho, r⟩
  intro k
  induction k with
  | zero =>
    intro i s ek il st hS fin
    obtain rfl : i = n := by omega
    refine codeAny_builtin F.entry_set_update_loop ?_
    rw [Around.under_plainId F.plain_set_update_loop _]
    refine wpAny_bind (m := pyNext (.ref I)) (W.done s _ _ st fun s' mv => ?_)
    refine wpAny_pure (fin s' (mv.mono up) ?_)
    have q := on mv hS
    rw [← lw, List.take_length] at q
    exact q
  | succ k ih =>
    intro i s ek il st hS fin
    have lt : i < n := by omega
    refine codeAny_builtin F.entry_set_update_loop ?_
    rw [Around.under_plainId F.plain_set_update_loop _]
    refine wpAny_bind (m := pyNext (.ref I)) (W.item i s _ _ lt st fun v s' pv st' mv => ?_)
    obtain ⟨z, t, ez, rfl⟩ := tx i v pv
    have hS' := on mv hS
    refine wpAny_bind (m := holding [Value.str z t] (setAdd S (.str z t))) (wpAny_holding ?_)
    unfold setAdd
    refine wpAny_holding (wpAny_bind ((strKind prog w).pyHash (k := z) (strKind_is _ _ _ _) ?_))
    have rm : (metS (ws.take i)).length + 1 < scanBound := by
      have h1 := metS_le (ws.take i)
      rw [List.length_take] at h1
      omega
    refine wpAny_setAddHashed_of (knd := strKind prog w) (s := { s' with toks := s'.toks + 1 }) (strKind_is _ _ _ _) rfl hS' rm fun h' sb hS2 => ?_
    have ei : metS (ws.take (i + 1)) = addS (metS (ws.take i)) z := by rw [List.take_succ, ez]; exact metS_snoc _ _
    have hN : h'.SetOf (strKind prog w) S (fun x => decide (x ∈ metS (ws.take (i + 1)))) (metS (ws.take (i + 1))).length :=
      SetOf_congr hS2 (fun x => by rw [ei, Bool.eq_iff_iff, decide_eq_true_eq, addS_mem, Bool.or_eq_true, decide_eq_true_eq, decide_eq_true_eq]) (by rw [ei, addS_len])
    refine wpAny_pure ⟨plainId_quiet F.plain_set_update_loop _, ih (i + 1) _ (by omega) lt (W.frame _ s' _ _ st' (Nat.le_succ _) fun b z o e => ?_) hN fun s'' mv2 q => ?_⟩
    · rw [sb.2 b (fun y : b = S => nS (by rw [← y]; exact z))]; exact e
    · refine fin s'' (Moved.trans W.gtrans ((mv.mono up).then_heap (Nat.le_succ _) fun b o z e => ?_) mv2) q
      rw [sb.2 b (fun y : b = S => z (by rw [y]; exact List.mem_cons_self))]; exact e
end
end L2
namespace L2
open PySem PySem.Spec PyProof.Rows
section
variable {prog : Program} {w : World} {A : Around} {E : Value → Shared → Prop} {s : Shared}
abbrev noSet (b : Bool) : Obj := { cls := .type "set", dict := none, data := .set #[] 0 (.fresh 0 0 b) }
set_option maxHeartbeats 6400000 in
theorem set_of_tup {l : Addr} {its : Array Value} {ws : List Str} {Q : Value → Shared → Prop} (nh : A.handled = none) (tl : s.heap.IsTuple l its) (lw : ws.length = its.size) (tx : ∀ (i : Nat) (v : Value), its[i]? = some v → ∃ z t, ws[i]? = some z ∧ v = Value.str z t) (room : its.size + 1 < scanBound)
    (q : ∀ (h' : Heap) (tk : Nat), h'.SetOf (strKind prog w) s.heap.objs.size (fun x => decide (x ∈ metS ws)) (metS ws).length → (∀ b o, b < s.heap.objs.size → s.heap.get? b = some o → h'.get? b = some o) → Q (.ref s.heap.objs.size) { s with heap := h', toks := tk }) :
    wpAny (model prog w) A (call (.type "set") [.ref l]) Q E s := by
  obtain ⟨c0, c1, order⟩ := F.called_set.mro
  have made := F.called_set.made
  have sub0 := F.called_set.sub
  refine wpAny_call (codeAny_of_tree ?_)
  show wpAny _ _ (callAny (.type "set") _) _ _ _
  refine wpAny_pure ⟨Code.quiet_builtin _ (by decide +kernel), codeAny_builtin F.entry_type_call ?_⟩
  rw [Around.under_plain (weight_type_call_type "set" [.ref l] []) rfl]
  have k1 := F.called_set.notType
  have k2 := F.called_set.canCreate
  have k3 := F.typeCall_set_1 (.ref l)
  repeat any_goals first | assumption | wp_step
  refine codeAny_mono (code_set_new_1 (.ref l) (E := E) (Q₁ := fun v s1 => ∃ ld : Bool, v = .ref s.heap.objs.size ∧ s1 = { s with heap := s.heap.push (noSet ld) }) fun ld => ⟨ld, rfl, rfl⟩) fun r s1 hr => ?_
  cases r with
  | error e => exact hr
  | ok fl =>
    cases fl with
    | ret v =>
      obtain ⟨ld, rfl, rfl⟩ := hr
      have gS : (s.heap.push (noSet ld)).get? s.heap.objs.size = some (noSet ld) := Heap.get?_push_size _ rfl
      have ty : Shared.TypeIs { s with heap := s.heap.push (noSet ld) } (.ref s.heap.objs.size) "set" := ⟨_, gS, rfl⟩
      have i1 := F.called_set.init.lookup
      have i2 := F.called_set.init.bind (.ref s.heap.objs.size)
      repeat any_goals first | assumption | wp_step
      refine codeAny_mono (codeAny_call_builtin (R := wants (fun r s2 => r = .none ∧ ∃ h' tk, s2 = { s with heap := h', toks := tk } ∧ h'.SetOf (strKind prog w) s.heap.objs.size (fun x => decide (x ∈ metS ws)) (metS ws).length ∧ ∀ b o, b < s.heap.objs.size → s.heap.get? b = some o → h'.get? b = some o) E) F.called_set.init.plain F.entry_set_init (check_set_init_1 ty ?_)) fun r2 s2 hr2 => ?_
      · obtain ⟨ot, got, ct, nt, dt⟩ := tl
        obtain ⟨oc, od, odt, os⟩ := ot
        simp only at ct dt
        subst ct; subst dt
        have got1 : (s.heap.push (noSet ld)).get? l = some { cls := .type "tuple", dict := od, data := .seq its nt, slots := os } := Heap.get?_push_of_some _ got
        have t1 := F.sub_tuple_set
        have t2 := F.sub_tuple_frozenset
        have t3 : (Value.type "tuple" == Value.type "dict") = false := by decide
        have tl1 : (s.heap.push (noSet ld)).IsTuple l its := ⟨_, got1, rfl, nt, rfl⟩
        unfold Builtin.«set.__init__» noKeywords Builtin.Frozenset.updateFrom
        generalize ePI : pyIter = PI
        wp_walk
        subst ePI
        refine wpAny_pyIter_tuple tl1 ?_
        refine wpAny_bind (wpAny_runValue ?_)
        have lS : l < s.heap.objs.size := Heap.lt_size got
        have nh3 : A.in1.in1.in1.handled = none := by simp [nh]
        have sz : (s.heap.push (noSet ld)).objs.size = s.heap.objs.size + 1 := Heap.size_push ..
        have nI : l ≠ (s.heap.push (noSet ld)).objs.size := by rw [sz]; exact Nat.ne_of_lt (Nat.lt_succ_of_lt lS)
        have nS : s.heap.objs.size ∉ [(s.heap.push (noSet ld)).objs.size, l] := by
          rw [sz]
          simp only [List.mem_cons, List.not_mem_nil, or_false, not_or]
          exact ⟨Nat.ne_of_lt (Nat.lt_succ_self _), Nat.ne_of_gt lS⟩
        refine set_walk ((Walks.tuple nh3 _ l nI its).toS) s.heap.objs.size nS ws lw tx room (its.size - 0) 0 _ (by omega) (Nat.zero_le _) ⟨⟨_, Heap.get?_push_size _ rfl, rfl, rfl⟩, (tl1.push _)⟩ ?z0 ?z1
        case z0 =>
          exact SetOf_congr ((setObjOf_fresh (knd := strKind prog w) ld).setOf (Heap.get?_push_of_some _ gS) (by unfold scanBound; omega)) (fun x => by simp [metS]) rfl
        case z1 =>
          intro s' mv gs
          obtain ⟨h', g', d', tk', os'⟩ := s'
          obtain rfl : g' = s.gens := mv.gens
          obtain rfl : d' = s.drawn := mv.drawn
          obtain rfl : os' = s.os := mv.os
          refine wpAny_pure ?_
          show wpAny _ _ (ret Value.none) _ _ _
          refine wpAny_pure ⟨rfl, h', tk', rfl, gs, fun b o lb e => mv.heap b o ?_ (Heap.get?_push_of_some _ (Heap.get?_push_of_some _ e))⟩
          simp only [List.mem_cons, List.not_mem_nil, or_false, not_or]
          rw [sz]
          exact ⟨Nat.ne_of_lt lb, Nat.ne_of_lt (Nat.lt_succ_of_lt lb)⟩
      · cases r2 with
        | error e => exact hr2
        | ok f2 =>
          cases f2 with
          | ret v2 =>
            obtain ⟨rfl, h', tk, rfl, gs, kp⟩ := hr2
            repeat any_goals first | assumption | wp_step
            exact q _ _ gs kp
          | _ => exact hr2.elim
    | _ => exact hr.elim
end
end L2

namespace L2
open PySem PySem.Spec PyProof.Rows
section
variable {X : Cx}
end
section
variable {B : Bk} {τ : TSt} {Φ : TK} {te : TE} {K : PySem.W.Frag} {P : Program} {w : World}
end
end L2

namespace L2
open PySem PySem.Spec PyProof.Rows
section
variable {B : Bk} {τ τ1 : TSt} {k : Nat} {F H F2 H2 : Hp} {σ : St} {l : Addr} {Ok : List V → Prop}
end
end L2

namespace L2
open PySem PySem.Spec PyProof.Rows
section
variable {B : Bk} {τ : TSt} {ta tb tc : TE}
end
end L2

namespace L2
open PySem PySem.Spec PyProof.Rows
section
variable {B : Bk} {τ : TSt} {Φ : TK} {x y : Kd} {ts us : List Tr} {K : PySem.W.Frag}
theorem e_dnew (q : Φ (.nw (.dct [])) τ) : EV B tDNewK τ Φ := fun σ F H Q r c p hp => by
  refine c _ F _ (.nw (.dct [])) τ (Fr.up (r.new hp)) (r.go (r.new hp)) ⟨p, rfl, .dct upd_same rfl .nil, r.inc.free hp, r.up.w p hp, fun i u h e => ?_⟩ (fun l e => by cases e; exact hp) q
  rcases h with h | h
  · obtain ⟨l', e', g, _⟩ := r.ow i u h
    obtain ⟨o, ho, _⟩ := g.mb
    cases sat_unique e' e
    rw [hp] at ho; cases ho
  · obtain ⟨l', e', g, _⟩ := r.vw i u h
    obtain ⟨o, ho, _⟩ := g.mb
    cases sat_unique e' e
    rw [hp] at ho; cases ho
end
end L2

namespace L2
open PySem PySem.Spec PyProof.Rows PySem.W
structure Mine (X : Cx) (H : Hp) (it : Addr) : Prop where
  n : H it = none
  l : it ≠ X.env.locals
  f : it ∉ X.fs
  a : X.s₀.heap.objs.size ≤ it
  c : ∀ x c, X.env.cells.lookup x = some c → c ≠ it
  p : ∀ p ∈ X.pn, p.1 ≠ it
section
variable {X : Cx} {pins : List (Addr × Obj)} {σ : St} {H : Hp} {s : Shared}
theorem Inv.old (I : Inv X pins σ H s) {it : Addr} (h : s.heap.objs.size ≤ it) : ∀ p ∈ pins, p.1 ≠ it := fun p hp z => absurd (z ▸ Heap.lt_size (I.pin p (List.mem_append_right _ hp)).1) (Nat.not_lt_of_le h)
theorem Inv.two {a k : Addr} {h' : Heap} {t' : Nat} {m : Str → Option Value} (I : Inv X pins σ H s) (ma : Mine X H a) (mk : Mine X H k) (hp : ∀ p ∈ pins, p.1 ≠ k ∧ p.1 ≠ a)
    (kp : ∀ b o, b ≠ X.env.locals → b ≠ k → b ≠ a → s.heap.get? b = some o → h'.get? b = some o) (hm : s.heap.Ns X.env.locals m) (hn : h'.Ns X.env.locals m) : Inv X pins σ H { s with heap := h', toks := t' } := by
  have nt : ∀ b u, H b = some u → b ≠ X.env.locals ∧ b ≠ k ∧ b ≠ a := fun b u e => ⟨ne_of_none e I.free, ne_of_none e mk.n, ne_of_none e ma.n⟩
  refine I.step (g' := s.gens) (d' := s.drawn) (ch := [k, a]) (fun b hb => ?_) (fun b o n1 _ hc e _ => kp b o n1 (fun z => hc (by simp [z])) (fun z => hc (by simp [z])) e) (fun b o n1 _ hc e _ => ⟨o.slots, kp b o n1 (fun z => hc (by simp [z])) (fun z => hc (by simp [z])) e⟩) (fun _ _ _ _ n => n)
    (fun b o hc e => ?_) (fun _ _ e => e) (fun _ _ _ e => e) (fun b ps e => ⟨#[], by rw [e]; simp⟩) (fun m' hm' => by rw [hm'.eq_nsMap, ← hm.eq_nsMap]; exact hn) (fun b u e => ?_) I.bare
  · rcases List.mem_cons.mp hb with z | z
    · subst z
      exact ⟨.inr mk.a, mk.l, mk.c, fun p z => (List.mem_append.mp z).elim (mk.p p) fun z => (hp p z).1⟩
    · obtain rfl : b = a := by simpa using z
      exact ⟨.inr ma.a, ma.l, ma.c, fun p z => (List.mem_append.mp z).elim (ma.p p) fun z => (hp p z).2⟩
  · by_cases z : b = X.env.locals
    · obtain ⟨o', _, _, q, _⟩ := id hn
      exact ⟨o', by rw [z]; exact q⟩
    · exact ⟨o, kp b o z (fun z => hc (by simp [z])) (fun z => hc (by simp [z])) e⟩
  · refine (I.hok b u e).stay (fun c v hc q => ?_) (fun _ q => q) fun _ _ q => q
    have z : c ≠ X.env.locals ∧ c ≠ k ∧ c ≠ a := by
      rcases hc with z | z
      · rw [z]; exact nt b u e
      · exact nt c _ z
    exact kp c v z.1 z.2.1 z.2.2 q
end

section
variable {X : Cx} {pins : List (Addr × Obj)} {σ : St} {H : Hp} {s : Shared} {A : Around} {f : Value} {b : Bool} {vs : List Value} {kz : List Int} {kS a : Addr} {e1 : Nat} {R : PySem.Fin → Shared → Prop} {E : Value → Shared → Prop}
end
end L2

namespace L2
open PySem PySem.Spec PyProof.Rows PySem.W
noncomputable def CodeAt (c' : Addr) (qual : Str) : Heap → Prop := fun h => h.CodeRec (.ref c') qual
noncomputable def TabOk (Pt : Addr) (pos : Pos) (qual : Str) (H : Hp) : Prop :=
  ∃ ps, H Pt = some (.tbl ps) ∧ TriplesOk ps.toList ∧ (codeAmong pos ps.toList = none ∨ ∃ c', codeAmong pos ps.toList = some (.ref c') ∧ H c' = some (.ext (CodeAt c' qual)))
inductive TabStep (Pt : Addr) (pos : Pos) (qual : Str) (H : Hp) : Hp → Prop
  | hit : TabStep Pt pos qual H H
  | new {ps more : Array Value} {c' : Addr} : H Pt = some (.tbl ps) → H c' = none → TabOk Pt pos qual (upd (upd H Pt (.tbl (ps ++ more))) c' (.ext (CodeAt c' qual))) → TabStep Pt pos qual H (upd (upd H Pt (.tbl (ps ++ more))) c' (.ext (CodeAt c' qual)))
section
variable {X : Cx} {pins : List (Addr × Obj)} {σ : St} {H : Hp} {s : Shared} {E : Value → Shared → Prop}
end
end L2

namespace L2
open PySem PySem.Spec PyProof.Rows PySem.W PySem.Calls
end L2

namespace L2
open PySem PySem.Spec PyProof.Rows
structure HasTab (Pt : Addr) (pos : Pos) (q : Str) (B : Bk) : Prop where
  w : B.W Pt
  t : ∀ H, B.J H → TabOk Pt pos q H
  s : ∀ H H', TabStep Pt pos q H H' → B.J H → B.J H'
theorem HasTab.now {Pt : Addr} {pos : Pos} {q : Str} {B : Bk} (h : HasTab Pt pos q B) (F H : Hp) : HasTab Pt pos q (B.now F H) := ⟨h.w, h.t, h.s⟩
end L2
namespace L2
open PySem PySem.Spec PyProof.Rows
section
variable {P : Program} {w : World} {K : PySem.W.Frag} {mg : Str → Option Value} {base : Heap}
end
end L2

namespace L2
open PySem PySem.Spec PyProof.Rows PySem.W PySem.Calls
section
variable {X : Cx}
end
end L2

namespace L2
open PySem PySem.Spec PyProof.Rows
section
variable {B : Bk} {K : PySem.W.Frag} {τ : TSt} {Φ : TK} {x : Kd} {ns : List Int}
end
end L2

namespace L2
open PySem PySem.Spec
section
variable {B : Bk} {τ τ' : TSt} {Φ : TK} {te ta : TE}
theorem e_ext {K : PySem.W.Frag} (hK : K = B.K) (h : EV B te τ fun x τ1 => ∃ k t0, x = .sl k ∧ Rk τ1 (.sl k) (.lst t0) ∧ EV B ta τ1 fun y τ2 => ∃ ts us τ3, y = .nw (.lst us) ∧ Gt τ2 k (.own (.lst ts)) ∧ ts.length + us.length ≤ 1000 ∧ Sto τ2 k (.own (.lst (ts ++ us))) τ3 ∧ Φ (.fz .non) τ3) :
    EV B (tBM K "list" rExtend te (tCons ta tNil)) τ Φ := fun σ F H Q rp c => by
  subst hK
  refine h σ F H _ rp fun v F1 H1 kk τ1 f1 r1 ok1 n1 h1 => ?_
  obtain ⟨k, t0, rfl, rk, h2⟩ := h1
  have ok1 : SAt σ k v := ok1
  refine ⟨TyK.v (x := .sl k) ⟨_, rk, rfl⟩ r1 ok1, ?_⟩
  refine h2 σ F1 H1 _ r1 fun y F2 H2 k2 τ2 f2 r2 ok2 n2 h3 => ?_
  obtain ⟨ts, us, τ3, rfl, g, hl, st, φ⟩ := h3
  obtain ⟨l, rfl, ow, fl, n0, ne⟩ := ok2
  obtain ⟨l0, e, hw, n, m0⟩ := r2.ow _ _ g.eq
  cases sat_unique e ok1
  cases hw with
  | lst a1 a2 =>
    cases ow with
    | lst b1 b2 =>
      have x1 := a2.length
      have x2 := b2.length
      refine ⟨l0, l, _, _, rfl, rfl, a1, b1, Nat.le_trans (by omega) (show 1000 ≤ sizeLine by decide), ?_⟩
      obtain ⟨r3, f3⟩ := r2.setO g.eq e (.lst upd_same (a2.app b2))
      rw [st.eq] at r3 f3
      exact c _ F2 _ (.fz .non) τ3 ((f1.trans f2).trans f3) r3 .non trivial φ
end
end L2

set_option Elab.async false
set_option linter.all false
set_option maxRecDepth 100000
set_option maxHeartbeats 4000000
namespace MyLaw
open PySem L2
noncomputable def top (i : Nat) : Stmt := PySem.Challenge.pw_markscale_k14_what_is_a_test.main.body.getD i (.Pass ⟨0, 0, 0, 0⟩)
noncomputable abbrev s_is_whole : Stmt := top 1
theorem sc_is_whole : FnScope ["thing"] ["thing"] (defScope s_is_whole) := ⟨rfl, rfl, rfl, by decide +kernel, rfl, by decide +kernel, by decide +kernel⟩
noncomputable abbrev s_divisor_of : Stmt := top 2
theorem sc_divisor_of : FnScope ["one", "other", "high", "low", "rest"] ["one", "other"] (defScope s_divisor_of) := ⟨rfl, rfl, rfl, by decide +kernel, rfl, by decide +kernel, by decide +kernel⟩
noncomputable abbrev s_is_number : Stmt := top 3
theorem sc_is_number : FnScope ["thing"] ["thing"] (defScope s_is_number) := ⟨rfl, rfl, rfl, by decide +kernel, rfl, by decide +kernel, by decide +kernel⟩
noncomputable abbrev s_is_told : Stmt := top 6
theorem sc_is_told : FnScope ["thing"] ["thing"] (defScope s_is_told) := ⟨rfl, rfl, rfl, by decide +kernel, rfl, by decide +kernel, by decide +kernel⟩
noncomputable abbrev s_is_leap : Stmt := top 13
theorem sc_is_leap : FnScope ["year"] ["year"] (defScope s_is_leap) := ⟨rfl, rfl, rfl, by decide +kernel, rfl, by decide +kernel, by decide +kernel⟩
noncomputable abbrev s_month_length : Stmt := top 14
theorem sc_month_length : FnScope ["year", "month"] ["year", "month"] (defScope s_month_length) := ⟨rfl, rfl, rfl, by decide +kernel, rfl, by decide +kernel, by decide +kernel⟩
noncomputable abbrev s_year_begin : Stmt := top 15
theorem sc_year_begin : FnScope ["year", "ahead"] ["year"] (defScope s_year_begin) := ⟨rfl, rfl, rfl, by decide +kernel, rfl, by decide +kernel, by decide +kernel⟩
noncomputable abbrev s_is_day : Stmt := top 16
theorem sc_is_day : FnScope ["thing"] ["thing"] (defScope s_is_day) := ⟨rfl, rfl, rfl, by decide +kernel, rfl, by decide +kernel, by decide +kernel⟩
noncomputable abbrev s_is_told_day : Stmt := top 17
theorem sc_is_told_day : FnScope ["thing"] ["thing"] (defScope s_is_told_day) := ⟨rfl, rfl, rfl, by decide +kernel, rfl, by decide +kernel, by decide +kernel⟩
noncomputable abbrev s_year_of : Stmt := top 18
theorem sc_year_of : FnScope ["day", "year"] ["day"] (defScope s_year_of) := ⟨rfl, rfl, rfl, by decide +kernel, rfl, by decide +kernel, by decide +kernel⟩
noncomputable abbrev s_parts_of : Stmt := top 19
theorem sc_parts_of : FnScope ["day", "year", "month", "left"] ["day"] (defScope s_parts_of) := ⟨rfl, rfl, rfl, by decide +kernel, rfl, by decide +kernel, by decide +kernel⟩
noncomputable abbrev s_is_word : Stmt := top 23
theorem sc_is_word : FnScope ["thing"] ["thing"] (defScope s_is_word) := ⟨rfl, rfl, rfl, by decide +kernel, rfl, by decide +kernel, by decide +kernel⟩
noncomputable abbrev s_is_cell : Stmt := top 24
theorem sc_is_cell : FnScope ["kind", "thing"] ["kind", "thing"] (defScope s_is_cell) := ⟨rfl, rfl, rfl, by decide +kernel, rfl, by decide +kernel, by decide +kernel⟩
noncomputable abbrev s_column_at : Stmt := top 25
theorem sc_column_at : FnScope ["columns", "name", "at", "column"] ["columns", "name"] (defScope s_column_at) := ⟨rfl, rfl, rfl, by decide +kernel, rfl, by decide +kernel, by decide +kernel⟩
noncomputable abbrev s_kind_at : Stmt := top 26
theorem sc_kind_at : FnScope ["columns", "name", "at"] ["columns", "name"] (defScope s_kind_at) := ⟨rfl, rfl, rfl, by decide +kernel, rfl, by decide +kernel, by decide +kernel⟩
noncomputable abbrev s_is_cell_part : Stmt := top 29
theorem sc_is_cell_part : FnScope ["part", "columns", "kind"] ["part", "columns"] (defScope s_is_cell_part) := ⟨rfl, rfl, rfl, by decide +kernel, rfl, by decide +kernel, by decide +kernel⟩
noncomputable abbrev s_is_part : Stmt := top 30
theorem sc_is_part : FnScope ["thing", "columns"] ["thing", "columns"] (defScope s_is_part) := ⟨rfl, rfl, rfl, by decide +kernel, rfl, by decide +kernel, by decide +kernel⟩
noncomputable abbrev s_tests_in : Stmt := top 31
theorem sc_tests_in : FnScope ["part"] ["part"] (defScope s_tests_in) := ⟨rfl, rfl, rfl, by decide +kernel, rfl, by decide +kernel, by decide +kernel⟩
noncomputable abbrev s_is_test : Stmt := top 32
theorem sc_is_test : FnScope ["thing", "columns", "parts", "at"] ["thing", "columns"] (defScope s_is_test) := ⟨rfl, rfl, rfl, by decide +kernel, rfl, by decide +kernel, by decide +kernel⟩
noncomputable abbrev s_l_draw : Stmt := top 34
theorem sc_l_draw : FnScope ["_law_box", "_law_many", "_law_cells", "_law_at", "_law_cell_here", "_law_mixed"] ["_law_box", "_law_many"] (defScope s_l_draw) := ⟨rfl, rfl, rfl, by decide +kernel, rfl, by decide +kernel, by decide +kernel⟩
noncomputable abbrev s_l_low : Stmt := top 35
theorem sc_l_low : FnScope ["_law_top", "_law_bottom", "_law_one", "_law_other"] ["_law_top", "_law_bottom"] (defScope s_l_low) := ⟨rfl, rfl, rfl, by decide +kernel, rfl, by decide +kernel, by decide +kernel⟩
noncomputable abbrev s_l_number : Stmt := top 36
theorem sc_l_number : FnScope ["_law_box", "_law_top", "_law_way", "_law_bottom"] ["_law_box"] (defScope s_l_number) := ⟨rfl, rfl, rfl, by decide +kernel, rfl, by decide +kernel, by decide +kernel⟩
noncomputable abbrev s_l_word : Stmt := top 37
theorem sc_l_word : FnScope ["_law_box", "_law_letters", "_law_size", "_law_many"] ["_law_box"] (defScope s_l_word) := ⟨rfl, rfl, rfl, by decide +kernel, rfl, by decide +kernel, by decide +kernel⟩
noncomputable abbrev s_l_day : Stmt := top 38
theorem sc_l_day : FnScope ["_law_box", "_law_way"] ["_law_box"] (defScope s_l_day) := ⟨rfl, rfl, rfl, by decide +kernel, rfl, by decide +kernel, by decide +kernel⟩
noncomputable abbrev s_l_there : Stmt := top 39
theorem sc_l_there : FnScope ["_law_box", "_law_kind"] ["_law_box", "_law_kind"] (defScope s_l_there) := ⟨rfl, rfl, rfl, by decide +kernel, rfl, by decide +kernel, by decide +kernel⟩
noncomputable abbrev s_l_cell : Stmt := top 40
theorem sc_l_cell : FnScope ["_law_box", "_law_kind"] ["_law_box", "_law_kind"] (defScope s_l_cell) := ⟨rfl, rfl, rfl, by decide +kernel, rfl, by decide +kernel, by decide +kernel⟩
noncomputable abbrev s_l_name : Stmt := top 41
theorem sc_l_name : FnScope ["_law_box", "_law_names", "_law_name_here", "_law_k"] ["_law_box", "_law_names"] (defScope s_l_name) := ⟨rfl, rfl, rfl, by decide +kernel, rfl, by decide +kernel, by decide +kernel⟩
noncomputable abbrev s_l_columns : Stmt := top 42
theorem sc_l_columns : FnScope ["_law_box", "_law_many", "_law_columns_here", "_law_k", "_law_name_here"] ["_law_box", "_law_many"] (defScope s_l_columns) := ⟨rfl, rfl, rfl, by decide +kernel, rfl, by decide +kernel, by decide +kernel⟩
noncomputable abbrev s_l_row : Stmt := top 43
theorem sc_l_row : FnScope ["_law_box", "_law_columns_here"] ["_law_box", "_law_columns_here"] (defScope s_l_row) := ⟨rfl, rfl, rfl, by decide +kernel, rfl, by decide +kernel, by decide +kernel⟩
noncomputable abbrev s_l_near : Stmt := top 44
theorem sc_l_near : FnScope ["_law_box", "_law_kind", "_law_cell_here", "_law_way", "_law_step"] ["_law_box", "_law_kind", "_law_cell_here"] (defScope s_l_near) := ⟨rfl, rfl, rfl, by decide +kernel, rfl, by decide +kernel, by decide +kernel⟩
noncomputable abbrev s_l_plain : Stmt := top 45
theorem sc_l_plain : FnScope ["_law_box", "_law_columns_here", "_law_row_here", "_law_at", "_law_way", "_law_cell_here", "_law_name_here", "_law_kind"] ["_law_box", "_law_columns_here", "_law_row_here"] (defScope s_l_plain) := ⟨rfl, rfl, rfl, by decide +kernel, rfl, by decide +kernel, by decide +kernel⟩
noncomputable abbrev s_l_bad : Stmt := top 46
theorem sc_l_bad : FnScope ["_law_columns_here", "_law_plain_here", "_law_name_here", "_law_kind", "_law_unlike", "_law_some", "_law_word_here"] ["_law_columns_here", "_law_plain_here"] (defScope s_l_bad) := ⟨rfl, rfl, rfl, by decide +kernel, rfl, by decide +kernel, by decide +kernel⟩
noncomputable abbrev s_l_put : Stmt := top 47
theorem sc_l_put : FnScope ["_law_inner", "_law_plain_here", "_law_wraps", "_law_way"] ["_law_inner", "_law_plain_here", "_law_wraps"] (defScope s_l_put) := ⟨rfl, rfl, rfl, by decide +kernel, rfl, by decide +kernel, by decide +kernel⟩
noncomputable abbrev s_l_of_parts : Stmt := top 48
theorem sc_l_of_parts : FnScope ["_law_box", "_law_plain_here", "_law_many", "_law_found", "_law_parts"] ["_law_box", "_law_plain_here", "_law_many"] (defScope s_l_of_parts) := ⟨rfl, rfl, rfl, by decide +kernel, rfl, by decide +kernel, by decide +kernel⟩
noncomputable abbrev s_l_sizes : Stmt := top 49
theorem sc_l_sizes : FnScope ["_law_box", "_law_columns_here", "_law_plain_here", "_law_many", "_law_doubled", "_law_k", "_law_deep", "_law_found"] ["_law_box", "_law_columns_here", "_law_plain_here"] (defScope s_l_sizes) := ⟨rfl, rfl, rfl, by decide +kernel, rfl, by decide +kernel, by decide +kernel⟩
noncomputable abbrev s_law : Stmt := top 50
theorem sc_law : FnScope ["_law_script", "_law_box", "_law_columns_here", "_law_plain_here", "_law_wraps", "_law_handed", "_law_bad_here", "_law_rest"] ["_law_script"] (defScope s_law) := ⟨rfl, rfl, rfl, by decide +kernel, rfl, by decide +kernel, by decide +kernel⟩
structure Adr where
  (f_is_whole : Addr) (d_is_whole : FuncData)
  (f_divisor_of : Addr) (d_divisor_of : FuncData)
  (f_is_number : Addr) (d_is_number : FuncData)
  (f_is_told : Addr) (d_is_told : FuncData)
  (f_is_leap : Addr) (d_is_leap : FuncData)
  (f_month_length : Addr) (d_month_length : FuncData)
  (f_year_begin : Addr) (d_year_begin : FuncData)
  (f_is_day : Addr) (d_is_day : FuncData)
  (f_is_told_day : Addr) (d_is_told_day : FuncData)
  (f_year_of : Addr) (d_year_of : FuncData)
  (f_parts_of : Addr) (d_parts_of : FuncData)
  (f_is_word : Addr) (d_is_word : FuncData)
  (f_is_cell : Addr) (d_is_cell : FuncData)
  (f_column_at : Addr) (d_column_at : FuncData)
  (f_kind_at : Addr) (d_kind_at : FuncData)
  (f_is_cell_part : Addr) (d_is_cell_part : FuncData)
  (f_is_part : Addr) (d_is_part : FuncData)
  (f_tests_in : Addr) (d_tests_in : FuncData)
  (f_is_test : Addr) (d_is_test : FuncData)
  (f_l_draw : Addr) (d_l_draw : FuncData)
  (f_l_low : Addr) (d_l_low : FuncData)
  (f_l_number : Addr) (d_l_number : FuncData)
  (f_l_word : Addr) (d_l_word : FuncData)
  (f_l_day : Addr) (d_l_day : FuncData)
  (f_l_there : Addr) (d_l_there : FuncData)
  (f_l_cell : Addr) (d_l_cell : FuncData)
  (f_l_name : Addr) (d_l_name : FuncData)
  (f_l_columns : Addr) (d_l_columns : FuncData)
  (f_l_row : Addr) (d_l_row : FuncData)
  (f_l_near : Addr) (d_l_near : FuncData)
  (f_l_plain : Addr) (d_l_plain : FuncData)
  (f_l_bad : Addr) (d_l_bad : FuncData)
  (f_l_put : Addr) (d_l_put : FuncData)
  (f_l_of_parts : Addr) (d_l_of_parts : FuncData)
  (f_l_sizes : Addr) (d_l_sizes : FuncData)
  (f_law : Addr) (d_law : FuncData)
  (g_MOST_BOTTOM : Tok)
  (g_LAST_DAY : Tok)
  (g_FIRST_TOLD_YEAR : Tok)
  (g_LAST_TOLD_YEAR : Tok)
  (g_DAYS_OF_400_YEARS : Tok)
  (g_LONGEST_WORD : Tok)
  (g_LETTERS : Tok)
  (g_MONTH_LENGTHS : Addr)
  (g_MOST_PARTS : Tok)
structure Txt (K : PySem.W.Frag) (mg : Str → Option Value) (t : Adr) : Prop where
  F_is_whole : Fun K "is_whole" "is_whole" s_is_whole t.f_is_whole t.d_is_whole
  m_is_whole : mg "is_whole" = some (.ref t.f_is_whole)
  k_is_whole : PySem.W.keepIn K (.ref t.f_is_whole) = true
  b_is_whole : Binds K t.d_is_whole ["thing"] []
  F_divisor_of : Fun K "divisor_of" "divisor_of" s_divisor_of t.f_divisor_of t.d_divisor_of
  m_divisor_of : mg "divisor_of" = some (.ref t.f_divisor_of)
  k_divisor_of : PySem.W.keepIn K (.ref t.f_divisor_of) = true
  b_divisor_of : Binds K t.d_divisor_of ["one", "other"] []
  F_is_number : Fun K "is_number" "is_number" s_is_number t.f_is_number t.d_is_number
  m_is_number : mg "is_number" = some (.ref t.f_is_number)
  k_is_number : PySem.W.keepIn K (.ref t.f_is_number) = true
  b_is_number : Binds K t.d_is_number ["thing"] []
  F_is_told : Fun K "is_told" "is_told" s_is_told t.f_is_told t.d_is_told
  m_is_told : mg "is_told" = some (.ref t.f_is_told)
  k_is_told : PySem.W.keepIn K (.ref t.f_is_told) = true
  b_is_told : Binds K t.d_is_told ["thing"] []
  F_is_leap : Fun K "is_leap" "is_leap" s_is_leap t.f_is_leap t.d_is_leap
  m_is_leap : mg "is_leap" = some (.ref t.f_is_leap)
  k_is_leap : PySem.W.keepIn K (.ref t.f_is_leap) = true
  b_is_leap : Binds K t.d_is_leap ["year"] []
  F_month_length : Fun K "month_length" "month_length" s_month_length t.f_month_length t.d_month_length
  m_month_length : mg "month_length" = some (.ref t.f_month_length)
  k_month_length : PySem.W.keepIn K (.ref t.f_month_length) = true
  b_month_length : Binds K t.d_month_length ["year", "month"] []
  F_year_begin : Fun K "year_begin" "year_begin" s_year_begin t.f_year_begin t.d_year_begin
  m_year_begin : mg "year_begin" = some (.ref t.f_year_begin)
  k_year_begin : PySem.W.keepIn K (.ref t.f_year_begin) = true
  b_year_begin : Binds K t.d_year_begin ["year"] []
  F_is_day : Fun K "is_day" "is_day" s_is_day t.f_is_day t.d_is_day
  m_is_day : mg "is_day" = some (.ref t.f_is_day)
  k_is_day : PySem.W.keepIn K (.ref t.f_is_day) = true
  b_is_day : Binds K t.d_is_day ["thing"] []
  F_is_told_day : Fun K "is_told_day" "is_told_day" s_is_told_day t.f_is_told_day t.d_is_told_day
  m_is_told_day : mg "is_told_day" = some (.ref t.f_is_told_day)
  k_is_told_day : PySem.W.keepIn K (.ref t.f_is_told_day) = true
  b_is_told_day : Binds K t.d_is_told_day ["thing"] []
  F_year_of : Fun K "year_of" "year_of" s_year_of t.f_year_of t.d_year_of
  m_year_of : mg "year_of" = some (.ref t.f_year_of)
  k_year_of : PySem.W.keepIn K (.ref t.f_year_of) = true
  b_year_of : Binds K t.d_year_of ["day"] []
  F_parts_of : Fun K "parts_of" "parts_of" s_parts_of t.f_parts_of t.d_parts_of
  m_parts_of : mg "parts_of" = some (.ref t.f_parts_of)
  k_parts_of : PySem.W.keepIn K (.ref t.f_parts_of) = true
  b_parts_of : Binds K t.d_parts_of ["day"] []
  F_is_word : Fun K "is_word" "is_word" s_is_word t.f_is_word t.d_is_word
  m_is_word : mg "is_word" = some (.ref t.f_is_word)
  k_is_word : PySem.W.keepIn K (.ref t.f_is_word) = true
  b_is_word : Binds K t.d_is_word ["thing"] []
  F_is_cell : Fun K "is_cell" "is_cell" s_is_cell t.f_is_cell t.d_is_cell
  m_is_cell : mg "is_cell" = some (.ref t.f_is_cell)
  k_is_cell : PySem.W.keepIn K (.ref t.f_is_cell) = true
  b_is_cell : Binds K t.d_is_cell ["kind", "thing"] []
  F_column_at : Fun K "column_at" "column_at" s_column_at t.f_column_at t.d_column_at
  m_column_at : mg "column_at" = some (.ref t.f_column_at)
  k_column_at : PySem.W.keepIn K (.ref t.f_column_at) = true
  b_column_at : Binds K t.d_column_at ["columns", "name"] []
  F_kind_at : Fun K "kind_at" "kind_at" s_kind_at t.f_kind_at t.d_kind_at
  m_kind_at : mg "kind_at" = some (.ref t.f_kind_at)
  k_kind_at : PySem.W.keepIn K (.ref t.f_kind_at) = true
  b_kind_at : Binds K t.d_kind_at ["columns", "name"] []
  F_is_cell_part : Fun K "is_cell_part" "is_cell_part" s_is_cell_part t.f_is_cell_part t.d_is_cell_part
  m_is_cell_part : mg "is_cell_part" = some (.ref t.f_is_cell_part)
  k_is_cell_part : PySem.W.keepIn K (.ref t.f_is_cell_part) = true
  b_is_cell_part : Binds K t.d_is_cell_part ["part", "columns"] []
  F_is_part : Fun K "is_part" "is_part" s_is_part t.f_is_part t.d_is_part
  m_is_part : mg "is_part" = some (.ref t.f_is_part)
  k_is_part : PySem.W.keepIn K (.ref t.f_is_part) = true
  b_is_part : Binds K t.d_is_part ["thing", "columns"] []
  F_tests_in : Fun K "tests_in" "tests_in" s_tests_in t.f_tests_in t.d_tests_in
  m_tests_in : mg "tests_in" = some (.ref t.f_tests_in)
  k_tests_in : PySem.W.keepIn K (.ref t.f_tests_in) = true
  b_tests_in : Binds K t.d_tests_in ["part"] []
  F_is_test : Fun K "is_test" "is_test" s_is_test t.f_is_test t.d_is_test
  m_is_test : mg "is_test" = some (.ref t.f_is_test)
  k_is_test : PySem.W.keepIn K (.ref t.f_is_test) = true
  b_is_test : Binds K t.d_is_test ["thing", "columns"] []
  F_l_draw : Fun K "_law_draw" "_law_draw" s_l_draw t.f_l_draw t.d_l_draw
  m_l_draw : mg "_law_draw" = some (.ref t.f_l_draw)
  k_l_draw : PySem.W.keepIn K (.ref t.f_l_draw) = true
  b_l_draw : Binds K t.d_l_draw ["_law_box", "_law_many"] []
  F_l_low : Fun K "_law_low" "_law_low" s_l_low t.f_l_low t.d_l_low
  m_l_low : mg "_law_low" = some (.ref t.f_l_low)
  k_l_low : PySem.W.keepIn K (.ref t.f_l_low) = true
  b_l_low : Binds K t.d_l_low ["_law_top", "_law_bottom"] []
  F_l_number : Fun K "_law_number" "_law_number" s_l_number t.f_l_number t.d_l_number
  m_l_number : mg "_law_number" = some (.ref t.f_l_number)
  k_l_number : PySem.W.keepIn K (.ref t.f_l_number) = true
  b_l_number : Binds K t.d_l_number ["_law_box"] []
  F_l_word : Fun K "_law_word" "_law_word" s_l_word t.f_l_word t.d_l_word
  m_l_word : mg "_law_word" = some (.ref t.f_l_word)
  k_l_word : PySem.W.keepIn K (.ref t.f_l_word) = true
  b_l_word : Binds K t.d_l_word ["_law_box"] []
  F_l_day : Fun K "_law_day" "_law_day" s_l_day t.f_l_day t.d_l_day
  m_l_day : mg "_law_day" = some (.ref t.f_l_day)
  k_l_day : PySem.W.keepIn K (.ref t.f_l_day) = true
  b_l_day : Binds K t.d_l_day ["_law_box"] []
  F_l_there : Fun K "_law_there" "_law_there" s_l_there t.f_l_there t.d_l_there
  m_l_there : mg "_law_there" = some (.ref t.f_l_there)
  k_l_there : PySem.W.keepIn K (.ref t.f_l_there) = true
  b_l_there : Binds K t.d_l_there ["_law_box", "_law_kind"] []
  F_l_cell : Fun K "_law_cell" "_law_cell" s_l_cell t.f_l_cell t.d_l_cell
  m_l_cell : mg "_law_cell" = some (.ref t.f_l_cell)
  k_l_cell : PySem.W.keepIn K (.ref t.f_l_cell) = true
  b_l_cell : Binds K t.d_l_cell ["_law_box", "_law_kind"] []
  F_l_name : Fun K "_law_name" "_law_name" s_l_name t.f_l_name t.d_l_name
  m_l_name : mg "_law_name" = some (.ref t.f_l_name)
  k_l_name : PySem.W.keepIn K (.ref t.f_l_name) = true
  b_l_name : Binds K t.d_l_name ["_law_box", "_law_names"] []
  F_l_columns : Fun K "_law_columns" "_law_columns" s_l_columns t.f_l_columns t.d_l_columns
  m_l_columns : mg "_law_columns" = some (.ref t.f_l_columns)
  k_l_columns : PySem.W.keepIn K (.ref t.f_l_columns) = true
  b_l_columns : Binds K t.d_l_columns ["_law_box", "_law_many"] []
  F_l_row : Fun K "_law_row" "_law_row" s_l_row t.f_l_row t.d_l_row
  m_l_row : mg "_law_row" = some (.ref t.f_l_row)
  k_l_row : PySem.W.keepIn K (.ref t.f_l_row) = true
  b_l_row : Binds K t.d_l_row ["_law_box", "_law_columns_here"] []
  F_l_near : Fun K "_law_near" "_law_near" s_l_near t.f_l_near t.d_l_near
  m_l_near : mg "_law_near" = some (.ref t.f_l_near)
  k_l_near : PySem.W.keepIn K (.ref t.f_l_near) = true
  b_l_near : Binds K t.d_l_near ["_law_box", "_law_kind", "_law_cell_here"] []
  F_l_plain : Fun K "_law_plain" "_law_plain" s_l_plain t.f_l_plain t.d_l_plain
  m_l_plain : mg "_law_plain" = some (.ref t.f_l_plain)
  k_l_plain : PySem.W.keepIn K (.ref t.f_l_plain) = true
  b_l_plain : Binds K t.d_l_plain ["_law_box", "_law_columns_here", "_law_row_here"] []
  F_l_bad : Fun K "_law_bad" "_law_bad" s_l_bad t.f_l_bad t.d_l_bad
  m_l_bad : mg "_law_bad" = some (.ref t.f_l_bad)
  k_l_bad : PySem.W.keepIn K (.ref t.f_l_bad) = true
  b_l_bad : Binds K t.d_l_bad ["_law_columns_here", "_law_plain_here"] []
  F_l_put : Fun K "_law_put" "_law_put" s_l_put t.f_l_put t.d_l_put
  m_l_put : mg "_law_put" = some (.ref t.f_l_put)
  k_l_put : PySem.W.keepIn K (.ref t.f_l_put) = true
  b_l_put : Binds K t.d_l_put ["_law_inner", "_law_plain_here", "_law_wraps"] []
  F_l_of_parts : Fun K "_law_of_parts" "_law_of_parts" s_l_of_parts t.f_l_of_parts t.d_l_of_parts
  m_l_of_parts : mg "_law_of_parts" = some (.ref t.f_l_of_parts)
  k_l_of_parts : PySem.W.keepIn K (.ref t.f_l_of_parts) = true
  b_l_of_parts : Binds K t.d_l_of_parts ["_law_box", "_law_plain_here", "_law_many"] []
  F_l_sizes : Fun K "_law_sizes" "_law_sizes" s_l_sizes t.f_l_sizes t.d_l_sizes
  m_l_sizes : mg "_law_sizes" = some (.ref t.f_l_sizes)
  k_l_sizes : PySem.W.keepIn K (.ref t.f_l_sizes) = true
  b_l_sizes : Binds K t.d_l_sizes ["_law_box", "_law_columns_here", "_law_plain_here"] []
  F_law : Fun K "law" "law" s_law t.f_law t.d_law
  m_law : mg "law" = some (.ref t.f_law)
  k_law : PySem.W.keepIn K (.ref t.f_law) = true
  b_law : Binds K t.d_law ["_law_script"] []
  g_MOST_BOTTOM : mg "MOST_BOTTOM" = some (.int 60 t.g_MOST_BOTTOM)
  g_LAST_DAY : mg "LAST_DAY" = some (.int 3652058 t.g_LAST_DAY)
  g_FIRST_TOLD_YEAR : mg "FIRST_TOLD_YEAR" = some (.int 1000 t.g_FIRST_TOLD_YEAR)
  g_LAST_TOLD_YEAR : mg "LAST_TOLD_YEAR" = some (.int 8999 t.g_LAST_TOLD_YEAR)
  g_DAYS_OF_400_YEARS : mg "DAYS_OF_400_YEARS" = some (.int 146097 t.g_DAYS_OF_400_YEARS)
  g_LONGEST_WORD : mg "LONGEST_WORD" = some (.int 8 t.g_LONGEST_WORD)
  g_LETTERS : mg "LETTERS" = some (.str "abcdefghijklmnopqrstuvwxyz" t.g_LETTERS)
  g_MONTH_LENGTHS : mg "MONTH_LENGTHS" = some (.ref t.g_MONTH_LENGTHS)
  v_MONTH_LENGTHS : ∀ H, SqT K H t.g_MONTH_LENGTHS (([31, 28, 31, 30, 31, 30, 31, 31, 30, 31, 30, 31] : List Int).map V.int)
  g_MOST_PARTS : mg "MOST_PARTS" = some (.int 20 t.g_MOST_PARTS)
  z_isinstance : mg "isinstance" = none
  z_int : mg "int" = none
  z_bool : mg "bool" = none
  z_tuple : mg "tuple" = none
  z_str : mg "str" = none
  z_list : mg "list" = none
  z_abs : mg "abs" = none
  z_len : mg "len" = none
  z_range : mg "range" = none
  z_max : mg "max" = none
  z_min : mg "min" = none
  z_enumerate : mg "enumerate" = none
  z_all : mg "all" = none
theorem iteBT {b : Bool} {A B : Prop} (hb : b = true) (h : A) : if b = true then A else B := by
  rw [if_pos hb]; exact h
theorem iteDF {c A B : Prop} [Decidable c] (hc : ¬ c) (h : B) : if decide c = true then A else B := by
  rw [decide_eq_false hc]; exact iteF h
theorem iteDT {c A B : Prop} [Decidable c] (hc : c) (h : A) : if decide c = true then A else B := by
  rw [decide_eq_true hc]; exact iteT h
theorem iteNF {c A B : Prop} [Decidable c] (hc : ¬ c) (h : A) : if (!decide c) = true then A else B := by
  rw [decide_eq_false hc]; exact iteT h
noncomputable def cellAt (ns : List Int) (k : Int) : Int := ns.getD k.toNat 0

noncomputable def sp_whole (K : PySem.W.Frag) : Sp := fun vs H Q _ => ∃ x g, vs = [x] ∧ tgIs K H x g ∧ Q (.bl (match g with | .int => true | _ => false)) H
noncomputable def sp_cell (K : PySem.W.Frag) : Sp := fun vs H Q _ => ∃ (a : Addr) (ns : List Int) (k : Int), vs = [.ref a, .int k] ∧ SqL K H a (ns.map V.int) ∧ 0 ≤ k ∧ Q (.int (cellAt ns k)) H
noncomputable def sp_law (K : PySem.W.Frag) : Sp := fun vs H Q _ => ∃ (a : Addr) (ns : List Int), vs = [.ref a] ∧ SqL K H a (ns.map V.int) ∧ ns.length ≤ 63 ∧ (∀ x ∈ ns, My.Bd 1048576 x) ∧ ∀ H', Q (.bl true) H'

noncomputable def sp_gcd : Sp := fun vs H Q _ => ∃ a b : Int, vs = [.int a, .int b] ∧ Q (.int ((Int.gcd a b : Nat) : Int)) H
structure Pr (K : PySem.W.Frag) (H : Hp) (p : Addr) (a b : Int) (n : Nat) : Prop where
  s : SqT K H p [.int a, .int b]
  pos : 0 < b
  ba : My.Bd n a
  bb : My.Bd n b
theorem Pr.ne {K : PySem.W.Frag} {H : Hp} {p : Addr} {a b : Int} {n : Nat} (h : Pr K H p a b n) : b ≠ 0 := Int.ne_of_gt h.pos
theorem Pr.keep {K : PySem.W.Frag} {H H' : Hp} {p : Addr} {a b : Int} {n : Nat} (h : Pr K H p a b n) (e : Same H H') : Pr K H' p a b n := ⟨e.tup h.s, h.pos, h.ba, h.bb⟩
theorem Pr.up {K : PySem.W.Frag} {H : Hp} {p : Addr} {a b : Int} {n m : Nat} (h : Pr K H p a b n) (e : n ≤ m) : Pr K H p a b m := ⟨h.s, h.pos, h.ba.mono e, h.bb.mono e⟩
noncomputable def NewQ (K : PySem.W.Frag) (H : Hp) (Q : VK) (n : Nat) (v : Rat) : Prop := ∀ (p : Addr) (H' : Hp) (x y : Int), Same H H' → Pr K H' p x y n → Int.gcd x y = 1 → My.qv x y = v → Q (.ref p) H'
noncomputable def sp_number (K : PySem.W.Frag) : Sp := fun vs H Q _ => ∃ (t m : Int) (n : Nat), vs = [.int t, .int m] ∧ My.Bd n t ∧ My.Bd n m ∧ n ≤ 3900 ∧ m ≠ 0 ∧ NewQ K H Q n (My.qv t m)
noncomputable def sp_two (K : PySem.W.Frag) (f : Rat → Rat → Rat) (ok : Int → Prop) : Sp := fun vs H Q _ => ∃ (p r : Addr) (a b c d : Int) (n1 n2 : Nat), vs = [.ref p, .ref r] ∧ Pr K H p a b n1 ∧ Pr K H r c d n2 ∧ n1 + n2 + 1 ≤ 3900 ∧ ok c ∧ NewQ K H Q (n1 + n2 + 1) (f (My.qv a b) (My.qv c d))
noncomputable def sp_cmp (K : PySem.W.Frag) (f : Int → Int → Int → Int → V) : Sp := fun vs H Q _ => ∃ (p r : Addr) (a b c d : Int) (n1 n2 : Nat), vs = [.ref p, .ref r] ∧ Pr K H p a b n1 ∧ Pr K H r c d n2 ∧ n1 + n2 ≤ 3900 ∧ Q (f a b c d) H
section
variable {P : Program} {w : World} {K : PySem.W.Frag} {mg : Str → Option Value} {base : Heap} {t : Adr}
theorem ok_is_whole (T : Txt K mg t) : FnOk P w K mg base CX0 1 t.f_is_whole t.d_is_whole ["thing"] (sp_whole K) := by
  refine T.F_is_whole.ok sc_is_whole (fun vs H Q E h => ?_) (fun cdv A outer s H vs Q E hr h => ?_)
  · obtain ⟨x, g, rfl, _⟩ := h
    rfl
  obtain ⟨x, g, rfl, hg, q⟩ := h
  refine ⟨_, (pss_one (ps_ret (pe_and (pe_isi isi_int rfl rfl T.z_isinstance T.z_int bt_int (pv 0)) (pe_one (pe_not (pe_isi isi_bool rfl rfl T.z_isinstance T.z_bool bt_bool (pv 0))))))), ?_⟩
  refine ⟨_, rfl, _, g, rfl, hg, _, rfl, ?_⟩
  cases g with
  | int => exact iteT ⟨_, rfl, _, .int, rfl, hg, _, rfl, q⟩
  | bl => exact iteT ⟨_, rfl, _, .bl, rfl, hg, _, rfl, q⟩
  | non => exact iteF q
  | str => exact iteF q
  | tup => exact iteF q
  | lst => exact iteF q
  | dic => exact iteF q
theorem gcd_abs (a b : Int) : Int.gcd (if a < 0 then -a else a) (if b < 0 then -b else b) = Int.gcd a b := by
  rw [My.natAbs_abs, My.natAbs_abs]
  rfl
theorem ok_divisor_of (T : Txt K mg t) : FnOk P w K mg base CX0 1 t.f_divisor_of t.d_divisor_of ["one", "other"] sp_gcd := by
  refine T.F_divisor_of.ok sc_divisor_of (fun vs H Q E h => ?_) (fun cdv A outer s H vs Q E hr h => ?_)
  · obtain ⟨a, b, rfl, _⟩ := h
    rfl
  obtain ⟨a, b, rfl, q⟩ := h
  refine ⟨_, (pss_cons (ps_set (i := 2) sc_divisor_of.nd rfl (Or.inl rfl) (pe_callB call_abs rfl T.z_abs bt_abs (pa_cons (pv 0) pa_nil)))
  (pss_cons (ps_set (i := 3) sc_divisor_of.nd rfl (Or.inl rfl) (pe_callB call_abs rfl T.z_abs bt_abs (pa_cons (pv 1) pa_nil)))
  (pss_cons (ps_while PassesOwn.never (pt_truth (pv 3) (fun _ => rfl)) (pss_cons (ps_set (i := 4) sc_divisor_of.nd rfl (Or.inl rfl) (pe_op op_mod (pv 2) (pv 3)))
  (pss_cons (ps_set (i := 2) sc_divisor_of.nd rfl (Or.inl rfl) (pv 3))
  (pss_one (ps_set (i := 3) sc_divisor_of.nd rfl (Or.inl rfl) (pv 4))))))
  (pss_one (ps_ret (pv 2)))))), ?_⟩
  refine ⟨_, rfl, _, rfl, ?_⟩
  refine ⟨_, rfl, _, rfl, ?_⟩
  dsimp only [gName, tSeq]
  refine while_by (fun σ H' => ∃ (x y : Int) (r : Option V), σ = [some (.int a), some (.int b), some (.int x), some (.int y), r] ∧ H' = H ∧ 0 ≤ x ∧ 0 ≤ y ∧ Int.gcd x y = Int.gcd a b)
    (fun σ _ => match σ with | [_, _, _, some (.int y), _] => y.toNat | _ => 0) ⟨_, _, none, rfl, rfl, by split <;> omega, by split <;> omega, gcd_abs a b⟩ ?_ ?_
  · rintro σ H' ⟨x, y, r, rfl, rfl, hx, hy, hg⟩
    refine ⟨_, rfl, _, rfl, ?_⟩
    by_cases h0 : y = 0
    · subst h0
      refine iteF ?_
      have e : x = ((Int.gcd a b : Nat) : Int) := by
        rw [← hg, Int.gcd_zero_right]
        omega
      refine ⟨_, rfl, ?_⟩
      rw [e]
      exact q
    · have hb : (y != 0) = true := by simpa using h0
      refine iteBT hb ?_
      have hp : 0 < y := by omega
      have h1 := Int.emod_nonneg x h0
      have h2 := Int.emod_lt_of_pos x hp
      refine ⟨_, rfl, _, rfl, _, _, rfl, rfl, hp, _, rfl, _, rfl, ⟨y, x % y, _, rfl, rfl, hy, h1, ?_⟩, ?_⟩
      · rw [My.gcd_step, hg]
      · show (x % y).toNat < y.toNat
        omega
  · rintro σ H' Q1 Q2 hi ⟨v, e, k, tr, q'⟩
    exact ⟨v, e, k, tr, hi _ _ q'⟩
end
theorem Pr.kp {K : PySem.W.Frag} {H H' : Hp} {p : Addr} {a b : Int} {n : Nat} (e : Same H H') (h : Pr K H p a b n) : Pr K H' p a b n := h.keep e
section
variable {K : PySem.W.Frag} {H : Hp} {Q : VK} {E : XK} {p r : Addr} {a b c d t m : Int} {n1 n2 : Nat} {f : Rat → Rat → Rat} {ok : Int → Prop} {F : Int → Int → Int → Int → V}
theorem a_number (h1 : My.Bd n1 t) (h2 : My.Bd n2 m) (h3 : max n1 n2 ≤ 3900) (h4 : m ≠ 0) (q : ∀ p H' x y, Same H H' → Pr K H' p x y (max n1 n2) → Int.gcd x y = 1 → My.qv x y = My.qv t m → Q (.ref p) H') : sp_number K [.int t, .int m] H Q E :=
  ⟨t, m, max n1 n2, rfl, h1.mono (by omega), h2.mono (by omega), h3, h4, q⟩
theorem a_numberD (h1 : My.Bd n1 t) (h2 : My.Bd n2 m) (h3 : max n1 n2 ≤ 3900) (h4 : m ≠ 0) (q : ∀ p H' x y, Same H H' → Pr K H' p x y (max n1 n2) → Int.gcd x y = 1 → My.qv x y = My.qv t m → Q (.ref p) H') : sp_number K ([.int t] ++ [.int m]) H Q E := a_number h1 h2 h3 h4 q
theorem a_two (h1 : Pr K H p a b n1) (h2 : Pr K H r c d n2) (h3 : n1 + n2 + 1 ≤ 3900) (h4 : ok c) (q : ∀ p' H' x y, Same H H' → Pr K H' p' x y (n1 + n2 + 1) → Int.gcd x y = 1 → My.qv x y = f (My.qv a b) (My.qv c d) → Q (.ref p') H') : sp_two K f ok [.ref p, .ref r] H Q E :=
  ⟨p, r, a, b, c, d, n1, n2, rfl, h1, h2, h3, h4, q⟩
theorem a_cmp (h1 : Pr K H p a b n1) (h2 : Pr K H r c d n2) (h3 : n1 + n2 ≤ 3900) (q : Q (F a b c d) H) : sp_cmp K F [.ref p, .ref r] H Q E := ⟨p, r, a, b, c, d, n1, n2, rfl, h1, h2, h3, q⟩
end
theorem a_cell {K : PySem.W.Frag} {H : Hp} {Q : VK} {E : XK} {a : Addr} {ns : List Int} {k : Int} (hs : SqL K H a (ns.map V.int)) (h0 : 0 ≤ k) (q : Q (.int (cellAt ns k)) H) : sp_cell K [.ref a, .int k] H Q E := ⟨a, ns, k, rfl, hs, h0, q⟩
local macro_rules | `(tactic| walk_at "get") => `(tactic| repeat (first | exact GetTo.here | apply GetTo.next))
local macro_rules | `(tactic| walk_at "set") => `(tactic| repeat (first | exact SetTo.here | apply SetTo.next))
local macro_rules | `(tactic| walk_at "tp") => `(tactic| first | assumption | exact SqT.of (by assumption) | ((apply Same.tup); (focus assumption); (walk_at "tp")) | ((apply But.tup); (focus assumption); (focus assumption); (walk_at "tp")))
local macro_rules | `(tactic| walk_at "lq") => `(tactic| first | assumption | exact SqL.of (by assumption) | ((apply Same.seq); (focus assumption); (walk_at "lq")) | ((apply But.seq); (focus assumption); (focus assumption); (walk_at "lq")))
local macro_rules | `(tactic| walk_at "hl") => `(tactic| first | assumption | exact (show Same _ _ by assumption) _ _ (by walk_at "hl") | exact (show But _ _ _ by assumption) _ _ (by assumption) (by walk_at "hl"))
local macro_rules | `(tactic| walk_at "sm") => `(tactic| first | assumption | exact Same.refl _ | ((apply sm2); (focus assumption); (walk_at "sm")))
local macro_rules | `(tactic| walk_at "isi") => `(tactic| ((with_reducible refine z_isi0 ?_); first | (with_reducible refine z_isI_int ?_) | (with_reducible refine z_isB_int ?_) | (with_reducible refine z_isS_int ?_) | (with_reducible refine z_isN_int ?_) | (with_reducible refine z_isI_bool ?_) | (with_reducible refine z_isB_bool ?_) | (with_reducible refine z_isS_bool ?_) | (with_reducible refine z_isN_bool ?_) | (with_reducible refine z_isI_str ?_) | (with_reducible refine z_isB_str ?_) | (with_reducible refine z_isS_str ?_) | (with_reducible refine z_isN_str ?_) | (with_reducible refine z_isI_tuple ?_) | (with_reducible refine z_isB_tuple ?_) | (with_reducible refine z_isS_tuple ?_) | (with_reducible refine z_isN_tuple ?_) | (with_reducible refine z_isI_list ?_) | (with_reducible refine z_isB_list ?_) | (with_reducible refine z_isS_list ?_) | (with_reducible refine z_isN_list ?_) | ((with_reducible apply z_isT_int); (focus (walk_at "tp"))) | ((with_reducible apply z_isL_int); (focus (walk_at "lq"))) | ((with_reducible apply z_isT_bool); (focus (walk_at "tp"))) | ((with_reducible apply z_isL_bool); (focus (walk_at "lq"))) | ((with_reducible apply z_isT_str); (focus (walk_at "tp"))) | ((with_reducible apply z_isL_str); (focus (walk_at "lq"))) | ((with_reducible apply z_isT_tuple); (focus (walk_at "tp"))) | ((with_reducible apply z_isL_tuple); (focus (walk_at "lq"))) | ((with_reducible apply z_isT_list); (focus (walk_at "tp"))) | ((with_reducible apply z_isL_list); (focus (walk_at "lq")))))
local macro_rules | `(tactic| walk_at "non") => `(tactic| with_reducible (first | refine z_nonR ?_ | refine z_notR ?_ | refine z_nonN ?_ | refine z_notN ?_ | refine z_nonI ?_ | refine z_notI ?_ | refine z_nonS ?_ | refine z_notS ?_))
local macro_rules | `(tactic| walk_at "z1") => `(tactic| (first | ((with_reducible apply z_var); (focus (walk_at "get"))) | with_reducible (first | refine z_c ?_ | refine z_op ?_ | refine z_I0 ?_ | refine z_asg ?_ | refine z_seq ?_ | refine z_EqI ?_ | refine z_NeI ?_ | refine z_EqS ?_ | refine z_NeS ?_ | refine z_test ?_ | refine z_tB ?_ | refine z_ebl ?_ | refine z_ifs ?_ | refine z_ret ?_ | refine z_cons ?_ | refine z_nil ?_ | refine z_call0 ?_ | refine z_callD ?_ | refine z_un ?_ | refine z_U ?_ | refine z_and ?_ | refine z_or ?_ | refine z_not ?_ | refine z_andV ?_ | refine z_orV ?_ | refine z_notV ?_ | refine z_if ?_ | refine z_chain ?_ | refine z_next ?_ | refine z_drop ?_ | refine z_par ?_ | refine z_cb ?_ | refine z_e1 ?_ | refine z_e2 ?_ | refine z_tup ?_ | refine iteT ?_ | refine iteF ?_ | refine z_iteNb ?_ | refine z_eint ?_ | refine z_gcons ?_ | refine z_gnil ?_ | refine z_sl ?_ | refine z_noP ?_ | refine z_part ?_ | refine z_lst ?_ | refine z_bm ?_ | refine z_for ?_ | refine z_iL ?_ | refine z_iT ?_ | refine z_iR1 ?_ | refine z_iR2 ?_ | refine z_iR3 ?_ | refine z_toI ?_ | refine z_toB ?_ | refine z_whN ?_) | ((with_reducible apply z_name); (focus (walk_at "set"))) | ((with_reducible apply z_par2); (focus (walk_at "set")); (focus (walk_at "set"))) | ((with_reducible apply z_mkt); (focus (exact Nat.le_of_ble_eq_true rfl)); (intro p H' n s e))))
local macro_rules | `(tactic| walk_at "z2") => `(tactic| first | ((with_reducible apply z_I); (focus (walk_at "cd"))) | ((with_reducible apply z_ixT); (focus (walk_at "tp")); (focus rfl)) | walk_at "isi" | walk_at "non" | ((with_reducible apply z_len); (focus (first | exact .inl (by walk_at "lq") | exact .inr (by walk_at "tp")))) | ((with_reducible apply z_gtup); (focus (walk_at "tp")); (focus rfl)) | ((with_reducible apply z_iL2); (focus (walk_at "lq"))) | ((with_reducible apply z_iT2); (focus (walk_at "tp"))) | ((with_reducible apply z_r1c); (focus (first | decide | omega)); (focus (first | decide | omega))) | ((with_reducible apply z_r2c); (focus (first | decide | omega)); (focus (first | decide | omega)); (focus (first | decide | omega)); (focus (first | decide | omega))))
local macro_rules | `(tactic| walk_at "bd") => `(tactic| first | assumption | exact Pr.ba (by assumption) | exact Pr.bb (by assumption) | exact (show My.Bd 64 _ by unfold My.Bd; decide) | ((with_reducible apply bd_mul) <;> (walk_at "bd")) | ((with_reducible apply bd_add) <;> (walk_at "bd")) | ((with_reducible apply bd_sub) <;> (walk_at "bd")) | ((with_reducible apply My.Bd.neg); (walk_at "bd")) | ((with_reducible apply My.Bd.mod); (focus (first | decide | omega | assumption)); (walk_at "bd")) | ((with_reducible apply My.Bd.div); (focus (first | decide | omega | assumption)); (walk_at "bd")) | exact bd_60 (by omega) (by omega) | exact (show My.Bd 256 _ by unfold My.Bd; decide))
local macro_rules | `(tactic| walk_at "mid") => `(tactic| first | assumption | ((apply My.Bd.mono); (focus (walk_at "bd")); (first | decide | omega)))
local macro_rules | `(tactic| walk_at "cd") => `(tactic| first | assumption | exact True.intro | decide | omega | exact ⟨by first | decide | omega, by first | decide | omega⟩ | exact ⟨by decide, by decide, by decide⟩ | exact .inl ⟨by first | decide | omega, by first | decide | omega⟩ | exact .inr ⟨by first | decide | omega, by first | decide | omega⟩ | exact ⟨by walk_at "mid", by walk_at "mid"⟩ | exact ⟨by first | decide | omega | assumption, by walk_at "mid"⟩)
local macro_rules | `(tactic| walk_at "pr") => `(tactic| first | assumption | ((apply Pr.kp); (focus assumption); (walk_at "pr")))
local macro_rules | `(tactic| walk_at "sp") => `(tactic| ((with_reducible apply a_number); (focus (walk_at "bd")); (focus (walk_at "bd")); (focus (first | decide | omega)); (focus (first | decide | omega)); (intro p H' x y s R g e)))
local macro_rules | `(tactic| walk_at "sp") => `(tactic| ((with_reducible apply a_numberD); (focus (walk_at "bd")); (focus (walk_at "bd")); (focus (first | decide | omega)); (focus (first | decide | omega)); (intro p H' x y s R g e)))
local macro_rules | `(tactic| walk_at "sp") => `(tactic| ((with_reducible apply a_two); (focus (walk_at "pr")); (focus (walk_at "pr")); (focus (first | decide | omega)); (focus (first | exact True.intro | assumption)); (intro p H' x y s R g e)))
local macro_rules | `(tactic| walk_at "sp") => `(tactic| ((with_reducible apply a_cmp); (focus (walk_at "pr")); (focus (walk_at "pr")); (focus (first | decide | omega))))
local macro_rules | `(tactic| walk_at "ji") => `(tactic| ((with_reducible apply z_joinI); (focus ((intro S q); (walk_at "run"); (exact q))); (focus ((intro hb S q); (walk_at "run"); (exact q))); (focus (walk_at "get")); (focus (walk_at "set"))))
local macro_rules | `(tactic| walk_at "run") => `(tactic| repeat (first | walk_at "ji" | walk_at "z1" | walk_at "z2" | walk_at "sp"))
local macro_rules | `(tactic| walk_at "bd6") => `(tactic| first | assumption | exact bd_60 (by omega) (by omega))
local macro_rules | `(tactic| walk_at "sp") => `(tactic| ((with_reducible apply a_cell); (focus (walk_at "lq")); (focus (first | decide | omega))))
section
variable {P : Program} {w : World} {K : PySem.W.Frag} {mg : Str → Option Value} {base : Heap} {t : Adr}
theorem atI_first {α : Type} {xs : List α} {x : α} (h : xs[0]? = some x) : atI xs 0 = some x := atI_nat (j := 0) h
theorem map_at {α β : Type} {g : α → β} {xs : List α} {j : Nat} {x : α} (h : xs[j]? = some x) : (xs.map g)[j]? = some (g x) := by rw [List.getElem?_map, h]; rfl
theorem of_map_at {α β : Type} {g : α → β} {xs : List α} {j : Nat} {v : β} (h : (xs.map g)[j]? = some v) : ∃ x, xs[j]? = some x ∧ v = g x := by
  rw [List.getElem?_map] at h
  cases q : xs[j]? with
  | none => rw [q] at h; cases h
  | some x => rw [q] at h; exact ⟨x, rfl, (Option.some.inj h).symm⟩
local macro_rules | `(tactic| walk_at "sp") => `(tactic| with_reducible (first | refine z_fv ?_ | refine z_fsn ?_ | refine z_fsc ?_ | refine z_iS ?_ | refine z_iS2 ?_ | refine z_inS ?_ | refine z_tyS ?_ | refine z_starts ?_ | refine z_lcn ?_))
theorem le_size {n : Nat} (h : n ≤ 1000) : n ≤ sizeLine := Nat.le_trans h (by decide)
theorem iteBF {b : Bool} {A B : Prop} (hb : ¬ b = true) (h : B) : if b = true then A else B := by
  rw [if_neg hb]; exact h
theorem mid4 : Mid 4 := (show My.Bd 20 4 by unfold My.Bd; decide).mono (by decide)
theorem mid100 : Mid 100 := (show My.Bd 20 100 by unfold My.Bd; decide).mono (by decide)
theorem mid400 : Mid 400 := (show My.Bd 20 400 by unfold My.Bd; decide).mono (by decide)
theorem midD : Mid 146097 := (show My.Bd 20 146097 by unfold My.Bd; decide).mono (by decide)
theorem at12 {m : Int} (h1 : 1 ≤ m) (h2 : m ≤ 12) : atI (My.mls.map V.int) (m - 1) = some (.int (My.mls.getD (m - 1).toNat 0)) := by
  rcases My.m_cases h1 h2 with h | h | h | h | h | h | h | h | h | h | h | h <;> subst h <;> rfl
noncomputable def sp_leap : Sp := fun vs H Q _ => ∃ y : Int, vs = [.int y] ∧ Q (.bl (My.leap y)) H
noncomputable def sp_ml : Sp := fun vs H Q _ => ∃ y m : Int, vs = [.int y, .int m] ∧ 1 ≤ m ∧ m ≤ 12 ∧ Q (.int (My.mlen y m)) H
noncomputable def sp_yb : Sp := fun vs H Q _ => ∃ y : Int, vs = [.int y] ∧ Q (.int (My.ybeg y)) H
theorem tg_int {K : PySem.W.Frag} {H : Hp} {x : V} (h : tgIs K H x .int) : ∃ i : Int, x = .int i := by
  cases x with
  | int i => exact ⟨i, rfl⟩
  | _ => exact (show False from h).elim
theorem tg_not {K : PySem.W.Frag} {H : Hp} {x : V} {g : Tg} (h : tgIs K H x g) (hg : g ≠ .int) : ∀ i : Int, x ≠ .int i := fun i e => by
  subst e
  cases g <;> first | exact hg rfl | exact (show False from h).elim
theorem tg_same {K : PySem.W.Frag} {H H' : Hp} {x : V} {g : Tg} (s : Same H H') (h : tgIs K H x g) : tgIs K H' x g := by
  cases x <;> cases g <;> first | exact h | (obtain ⟨xs, z⟩ := h; first | exact ⟨xs, s.tup z⟩ | exact ⟨xs, s.seq z⟩ | exact ⟨xs, s _ _ z⟩)
noncomputable def sp_yo : Sp := fun vs H Q _ => ∃ d : Int, vs = [.int d] ∧ Q (.int (My.yearOf d)) H
noncomputable def sp_parts : Sp := fun vs H Q _ => ∃ d : Int, vs = [.int d] ∧ 0 ≤ d ∧ d ≤ 3652058 ∧ ∀ (p : Addr) (H' : Hp) (y m e : Int), Same H H' → H' p = some (.tup [.int y, .int m, .int e]) → My.Valid y m e → My.dayOf y m e = d → Q (.ref p) H'
theorem ok_is_leap (T : Txt K mg t) : FnOk P w K mg base CX0 1 t.f_is_leap t.d_is_leap ["year"] sp_leap := by
  refine T.F_is_leap.ok sc_is_leap (fun vs H Q E h => ?_) (fun cdv A outer s H vs Q E hr h => ?_)
  · obtain ⟨y, rfl, _⟩ := h
    rfl
  obtain ⟨y, rfl, q⟩ := h
  refine ⟨_, (pss_one (ps_ret (pe_and (pe_cmpR op_eq (pe_op op_mod (pv 0) pe_int) pe_int (nomark _)) (pe_one (pe_or (pe_cmpR op_ne (pe_op op_mod (pv 0) pe_int) pe_int (nomark _)) (pe_one (pe_cmpR op_eq (pe_op op_mod (pv 0) pe_int) pe_int (nomark _)))))))), ?_⟩
  refine ⟨_, rfl, _, _, rfl, rfl, (show (0 : Int) < 4 by decide), rfl, _, rfl, ?_⟩
  unfold My.leap at q
  by_cases h4 : y % 4 = 0
  · rw [if_pos h4] at q
    refine iteDT (congrArg V.int h4) ?_
    refine ⟨_, rfl, _, _, rfl, rfl, (show (0 : Int) < 100 by decide), rfl, _, rfl, ?_⟩
    by_cases h1 : y % 100 = 0
    · rw [if_pos h1] at q
      refine iteNS (congrArg V.int h1) ?_
      refine ⟨_, rfl, _, _, rfl, rfl, (show (0 : Int) < 400 by decide), rfl, ?_⟩
      show Q (V.bl (decide (V.int (y % 400) = V.int 0))) H
      by_cases h3 : y % 400 = 0
      · rw [decide_eq_true h3] at q
        rw [decide_eq_true (congrArg V.int h3)]
        exact q
      · rw [decide_eq_false h3] at q
        rw [decide_eq_false (fun z => h3 (V.int.inj z))]
        exact q
    · rw [if_neg h1] at q
      exact iteNF (fun z => h1 (V.int.inj z)) q
  · rw [if_neg h4] at q
    exact iteDF (fun z => h4 (V.int.inj z)) q
theorem ok_month_length (T : Txt K mg t) : FnOk P w K mg base CX0 2 t.f_month_length t.d_month_length ["year", "month"] sp_ml := by
  have G_is_leap := ok_is_leap (P := P) (w := w) (base := base) T
  refine T.F_month_length.ok sc_month_length (fun vs H Q E h => ?_) (fun cdv A outer s H vs Q E hr h => ?_)
  · obtain ⟨y, m, rfl, _⟩ := h
    rfl
  obtain ⟨y, m, rfl, h1, h2, q⟩ := h
  refine ⟨_, (pss_cons (ps_if (PW.pt (pw_and (pt_cmpR op_eq (pv 1) pe_int (nomark _)) (pw_and1 (pt_val (pe_call G_is_leap (hr.mono (by decide)) rfl T.m_is_leap T.k_is_leap T.b_is_leap .nil pass0 (pa_cons (pv 0) pa_nil)))))) (pss_one (ps_ret pe_int)) pss_nil)
  (pss_one (ps_ret (pe_ix ix_tup (pe_glob (v := .ref t.g_MONTH_LENGTHS) rfl T.g_MONTH_LENGTHS rfl) (pe_op op_sub (pv 1) pe_int) (fun _ _ => rfl))))), ?_⟩
  refine ⟨_, rfl, rfl, _, rfl, ?_⟩
  unfold My.mlen My.ml at q
  by_cases hm : m = 2
  · refine iteDT (congrArg V.int hm) ?_
    refine ⟨_, rfl, _, rfl, _, rfl, ?_⟩
    by_cases hL : My.leap y = true
    · rw [if_pos ⟨hm, hL⟩] at q
      exact iteBT hL q
    · rw [if_neg (fun z => hL z.2)] at q
      refine iteBF hL ?_
      exact ⟨_, rfl, _, _, rfl, rfl, _, _, _, _, rfl, rfl, T.v_MONTH_LENGTHS H, at12 h1 h2, q⟩
  · rw [if_neg (fun z => hm z.1)] at q
    refine iteDF (fun z => hm (V.int.inj z)) ?_
    refine iteF ?_
    exact ⟨_, rfl, _, _, rfl, rfl, _, _, _, _, rfl, rfl, T.v_MONTH_LENGTHS H, at12 h1 h2, q⟩
theorem ok_year_begin (T : Txt K mg t) : FnOk P w K mg base CX0 1 t.f_year_begin t.d_year_begin ["year"] sp_yb := by
  refine T.F_year_begin.ok sc_year_begin (fun vs H Q E h => ?_) (fun cdv A outer s H vs Q E hr h => ?_)
  · obtain ⟨y, rfl, _⟩ := h
    rfl
  obtain ⟨y, rfl, q⟩ := h
  refine ⟨_, (pss_cons (ps_set (i := 1) sc_year_begin.nd rfl (Or.inl rfl) (pe_op op_sub (pv 0) pe_int))
  (pss_one (ps_ret (pe_op op_add (pe_op op_sub (pe_op op_add (pe_op op_mul pe_int (pv 1)) (pe_op op_fdivB (pv 1) pe_int)) (pe_op op_fdivB (pv 1) pe_int)) (pe_op op_fdivB (pv 1) pe_int))))), ?_⟩
  refine ⟨_, rfl, _, _, rfl, rfl, ?_⟩
  exact ⟨_, rfl, _, _, rfl, rfl, .inl ⟨by decide, by decide⟩, _, rfl, _, _, rfl, rfl, ⟨by decide, mid4⟩, _, _, rfl, rfl, _, rfl, _, _, rfl, rfl, ⟨by decide, mid100⟩, _, _, rfl, rfl, _, rfl, _, _, rfl, rfl, ⟨by decide, mid400⟩, _, _, rfl, rfl, q⟩
theorem ok_year_of (T : Txt K mg t) : FnOk P w K mg base CX0 2 t.f_year_of t.d_year_of ["day"] sp_yo := by
  have G_year_begin := ok_year_begin (P := P) (w := w) (base := base) T
  refine T.F_year_of.ok sc_year_of (fun vs H Q E h => ?_) (fun cdv A outer s H vs Q E hr h => ?_)
  · obtain ⟨y, rfl, _⟩ := h
    rfl
  obtain ⟨d, rfl, q⟩ := h
  refine ⟨_, (pss_cons (ps_set (i := 1) sc_year_of.nd rfl (Or.inl rfl) (pe_op op_add (pe_op op_fdivB (pe_op op_mul (pv 0) pe_int) (pe_glob (v := .int 146097) rfl T.g_DAYS_OF_400_YEARS ⟨_, rfl⟩)) pe_int))
  (pss_one (ps_ret (pe_ifExp (pt_cmpR op_le (pe_call G_year_begin (hr.mono (by decide)) rfl T.m_year_begin T.k_year_begin T.b_year_begin .nil pass0 (pa_cons (pe_op op_add (pv 1) pe_int) pa_nil)) (pv 0) (nomark _)) (pe_op op_add (pv 1) pe_int) (pv 1))))), ?_⟩
  refine ⟨_, rfl, _, _, rfl, rfl, .inr ⟨by decide, by decide⟩, _, _, rfl, rfl, ⟨by decide, midD⟩, _, _, rfl, rfl, ?_⟩
  refine ⟨_, rfl, _, _, rfl, rfl, _, rfl, _, rfl, _, _, rfl, rfl, _, rfl, ?_⟩
  unfold My.yearOf at q
  by_cases hle : My.ybeg (d * 400 / 146097 + 1 + 1) ≤ d
  · rw [if_pos hle] at q
    exact iteDT hle ⟨_, rfl, _, _, rfl, rfl, q⟩
  · rw [if_neg hle] at q
    exact iteDF hle ⟨_, rfl, q⟩
theorem ok_parts_of (T : Txt K mg t) : FnOk P w K mg base CX0 3 t.f_parts_of t.d_parts_of ["day"] sp_parts := by
  have G_year_of := ok_year_of (P := P) (w := w) (base := base) T
  have G_year_begin := ok_year_begin (P := P) (w := w) (base := base) T
  have G_month_length := ok_month_length (P := P) (w := w) (base := base) T
  refine T.F_parts_of.ok sc_parts_of (fun vs H Q E h => ?_) (fun cdv A outer s H vs Q E hr h => ?_)
  · obtain ⟨y, rfl, _⟩ := h
    rfl
  obtain ⟨d, rfl, d0, d1, q⟩ := h
  obtain ⟨y1, y2, y3, y4⟩ := My.yearOf_ok d0 d1
  have yn := My.ybeg_next (My.yearOf d)
  refine ⟨_, (pss_cons (ps_set (i := 1) sc_parts_of.nd rfl (Or.inl rfl) (pe_call G_year_of (hr.mono (by decide)) rfl T.m_year_of T.k_year_of T.b_year_of .nil pass0 (pa_cons (pv 0) pa_nil)))
  (pss_cons (ps_set (i := 2) sc_parts_of.nd rfl (Or.inl rfl) pe_int)
  (pss_cons (ps_set (i := 3) sc_parts_of.nd rfl (Or.inl rfl) (pe_op op_sub (pv 0) (pe_call G_year_begin (hr.mono (by decide)) rfl T.m_year_begin T.k_year_begin T.b_year_begin .nil pass0 (pa_cons (pv 1) pa_nil))))
  (pss_cons (ps_while PassesOwn.never (pt_cmpR op_ge (pv 3) (pe_call G_month_length (hr.mono (by decide)) rfl T.m_month_length T.k_month_length T.b_month_length .nil pass0 (pa_cons (pv 1) (pa_cons (pv 2) pa_nil))) (nomark _)) (pss_cons (ps_aug (i := 3) sc_parts_of.nd rfl (Or.inl rfl) (pe_call G_month_length (hr.mono (by decide)) rfl T.m_month_length T.k_month_length T.b_month_length .nil pass0 (pa_cons (pv 1) (pa_cons (pv 2) pa_nil))) ip_sub)
  (pss_one (ps_aug (i := 2) sc_parts_of.nd rfl (Or.inl rfl) pe_int ip_add))))
  (pss_one (ps_ret (pe_tup (pa_cons (pv 1) (pa_cons (pv 2) (pa_cons (pe_op op_add (pv 3) pe_int) pa_nil)))))))))), ?_⟩
  refine ⟨_, rfl, _, rfl, ?_⟩
  refine ⟨_, rfl, _, rfl, _, rfl, _, _, rfl, rfl, ?_⟩
  dsimp only [gName, tSeq]
  refine while_by (fun σ H' => ∃ m l : Int, σ = [some (.int d), some (.int (My.yearOf d)), some (.int m), some (.int l)] ∧ H' = H ∧ 1 ≤ m ∧ m ≤ 12 ∧ 0 ≤ l ∧ l + My.bf (My.leap (My.yearOf d)) m = d - My.ybeg (My.yearOf d))
    (fun σ _ => match σ with | [_, _, some (.int m), _] => (13 - m).toNat | _ => 0) ⟨1, _, rfl, rfl, by decide, by decide, by omega, by rw [My.bf_first]; omega⟩ ?_ ?_
  · rintro σ H' ⟨m, l, rfl, rfl, m1, m2, l0, hl⟩
    refine ⟨_, rfl, _, rfl, _, rfl, _, _, rfl, m1, m2, _, _, rfl, rfl, _, rfl, ?_⟩
    have bn := My.bf_next (L := My.leap (My.yearOf d)) m1 m2
    by_cases hle : My.mlen (My.yearOf d) m ≤ l
    · refine iteDT hle ?_
      have hle' : My.ml (My.leap (My.yearOf d)) m ≤ l := hle
      have m12 : m ≤ 11 := by
        rcases Int.lt_or_le m 12 with z | z
        · omega
        · have e : m = 12 := by omega
          subst e
          have bl := My.bf_last (My.leap (My.yearOf d))
          have bn' : My.bf (My.leap (My.yearOf d)) 13 = My.bf (My.leap (My.yearOf d)) 12 + My.ml (My.leap (My.yearOf d)) 12 := bn
          omega
      refine ⟨_, rfl, _, rfl, _, rfl, _, _, rfl, m1, m2, _, _, rfl, rfl, _, rfl, _, _, rfl, rfl, ⟨m + 1, l - My.mlen (My.yearOf d) m, rfl, rfl, by omega, by omega, by omega, ?_⟩, ?_⟩
      · rw [bn]
        show l - My.ml (My.leap (My.yearOf d)) m + (My.bf (My.leap (My.yearOf d)) m + My.ml (My.leap (My.yearOf d)) m) = _
        omega
      · show (13 - (m + 1)).toNat < (13 - m).toNat
        omega
    · refine iteDF hle ?_
      refine ⟨_, rfl, _, rfl, _, rfl, _, _, rfl, rfl, (by show 3 ≤ sizeLine; decide), fun p hp => ?_⟩
      exact q p _ _ _ _ (Same.new hp _) upd_same ⟨y1, y2, m1, m2, by omega, by omega⟩ (by unfold My.dayOf; omega)
  · rintro σ H' Q1 Q2 hi ⟨v, e, a, ea, b, eb, y', m', ev, c1, c2, i, j, e1, e2, k, ek, q'⟩
    exact ⟨v, e, a, ea, b, eb, y', m', ev, c1, c2, i, j, e1, e2, k, ek, hi _ _ q'⟩
theorem a_parts {H : Hp} {Q : VK} {E : XK} {d : Int} (h0 : 0 ≤ d) (h1 : d ≤ 3652058) (q : ∀ (p : Addr) (H' : Hp) (y m e : Int), Same H H' → H' p = some (.tup [.int y, .int m, .int e]) → My.Valid y m e → My.dayOf y m e = d → Q (.ref p) H') : sp_parts [.int d] H Q E := ⟨d, rfl, h0, h1, q⟩
local macro_rules | `(tactic| walk_at "sp") => `(tactic| ((with_reducible apply a_parts); (focus (first | assumption | omega)); (focus (first | assumption | omega)); (intro p H' y m e s hp vd ed)))
noncomputable def sp_isday (K : PySem.W.Frag) : Sp := fun vs H Q _ => ∃ x g, vs = [x] ∧ tgIs K H x g ∧ (∀ d : Int, x = .int d → Q (.bl (decide (0 ≤ d) && decide (d ≤ 3652058))) H) ∧ ((∀ d : Int, x ≠ .int d) → Q (.bl false) H)
theorem ok_is_day (T : Txt K mg t) : FnOk P w K mg base CX0 2 t.f_is_day t.d_is_day ["thing"] (sp_isday K) := by
  have G_is_whole := ok_is_whole (P := P) (w := w) (base := base) T
  refine T.F_is_day.ok sc_is_day (fun vs H Q E h => ?_) (fun cdv A outer s H vs Q E hr h => ?_)
  · obtain ⟨x, g, rfl, _⟩ := h
    rfl
  obtain ⟨x, g, rfl, hg, q1, q2⟩ := h
  refine ⟨_, (pss_one (ps_ret (pe_and (pe_call G_is_whole (hr.mono (by decide)) rfl T.m_is_whole T.k_is_whole T.b_is_whole .nil pass0 (pa_cons (pv 0) pa_nil)) (pe_one (pe_chain op_le op_le pe_int (pv 0) (pe_glob (v := .int 3652058) rfl T.g_LAST_DAY ⟨_, rfl⟩)))))), z_go (σ := [some _]) rfl ?_⟩
  walk_at "run"
  refine ⟨x, g, rfl, hg, ?_⟩
  by_cases e : g = .int
  · subst e
    obtain ⟨d, rfl⟩ := tg_int hg
    have q := q1 d rfl
    walk_at "run"
    refine z_iteD (fun h => ?_) (fun h => ?_)
    · rw [decide_eq_true h, Bool.true_and] at q
      walk_at "run"
      exact q
    · rw [decide_eq_false h, Bool.false_and] at q
      exact q
  · have q := q2 (tg_not hg e)
    cases g <;> first | exact absurd rfl e | exact ⟨_, rfl, iteF q⟩
noncomputable def sp_told (K : PySem.W.Frag) : Sp := fun vs H Q _ => ∃ x g, vs = [x] ∧ tgIs K H x g ∧ (∀ y m e : Int, My.Valid y m e → x = .int (My.dayOf y m e) → 0 ≤ My.dayOf y m e → My.dayOf y m e ≤ 3652058 → ∀ H', Same H H' → Q (.bl (decide (1000 ≤ y) && decide (y ≤ 8999))) H') ∧ ((∀ d : Int, x = .int d → ¬ (0 ≤ d ∧ d ≤ 3652058)) → ∀ H', Same H H' → Q (.bl false) H')
theorem ok_is_told_day (T : Txt K mg t) : FnOk P w K mg base CX0 4 t.f_is_told_day t.d_is_told_day ["thing"] (sp_told K) := by
  have G_is_day := ok_is_day (P := P) (w := w) (base := base) T
  have G_parts_of := ok_parts_of (P := P) (w := w) (base := base) T
  refine T.F_is_told_day.ok sc_is_told_day (fun vs H Q E h => ?_) (fun cdv A outer s H vs Q E hr h => ?_)
  · obtain ⟨x, g, rfl, _⟩ := h
    rfl
  obtain ⟨x, g, rfl, hg, q1, q2⟩ := h
  refine ⟨_, (pss_one (ps_ret (pe_and (pe_call G_is_day (hr.mono (by decide)) rfl T.m_is_day T.k_is_day T.b_is_day .nil pass0 (pa_cons (pv 0) pa_nil)) (pe_one (pe_chain op_le op_le (pe_glob (v := .int 1000) rfl T.g_FIRST_TOLD_YEAR ⟨_, rfl⟩) (pe_ix ix_tup (pe_call G_parts_of (hr.mono (by decide)) rfl T.m_parts_of T.k_parts_of T.b_parts_of .nil pass0 (pa_cons (pv 0) pa_nil)) pe_int (fun _ _ => rfl)) (pe_glob (v := .int 8999) rfl T.g_LAST_TOLD_YEAR ⟨_, rfl⟩)))))), z_go (σ := [some _]) rfl ?_⟩
  walk_at "run"
  refine ⟨x, g, rfl, hg, fun d ed => ?_, fun nd => ⟨_, rfl, iteF (q2 (fun d e => absurd e (nd d)) _ (Same.refl _))⟩⟩
  subst ed
  walk_at "run"
  by_cases hd : 0 ≤ d ∧ d ≤ 3652058
  · rw [decide_eq_true hd.1, decide_eq_true hd.2]
    obtain ⟨d0, d1⟩ := hd
    refine iteT ?_
    walk_at "run"
    rename_i p H1 y m e s1 hp v ed
    have q := q1 y m e v (by rw [ed]) (by omega) (by omega) _ s1
    walk_at "run"
    refine z_iteD (fun h => ?_) (fun h => ?_)
    · rw [decide_eq_true h, Bool.true_and] at q
      walk_at "run"
      exact q
    · rw [decide_eq_false h, Bool.false_and] at q
      exact q
  · have e : (decide (0 ≤ d) && decide (d ≤ 3652058)) = false := by
      rw [Bool.and_eq_false_iff, decide_eq_false_iff_not, decide_eq_false_iff_not]
      omega
    rw [e]
    refine iteF (q2 (fun d' e' => ?_) _ (Same.refl _))
    cases e'
    exact hd
local macro_rules | `(tactic| walk_at "sp") => `(tactic| with_reducible (first | refine z_ints ?_ | refine z_notB ?_ | refine z_NeB ?_ | refine z_isB ?_ | refine z_EqB ?_ | refine z_iE ?_))
local macro_rules | `(tactic| walk_at "sp") => `(tactic| ((with_reducible apply z_iE2); (focus (walk_at "lq"))))
local macro_rules | `(tactic| walk_at "sp") => `(tactic| ((with_reducible apply z_slS); (focus (exact le_size (by omega)))))
local macro_rules | `(tactic| walk_at "z1I") => `(tactic| ((fail_if_success (with_reducible apply z_ifs)); (walk_at "z1")))
local macro_rules | `(tactic| walk_at "runI") => `(tactic| repeat (first | walk_at "ji" | walk_at "z1I" | walk_at "z2" | walk_at "sp"))
local macro_rules | `(tactic| walk_at "z1F") => `(tactic| ((fail_if_success (with_reducible apply z_ifs)); (fail_if_success (with_reducible apply z_for)); (walk_at "z1")))
local macro_rules | `(tactic| walk_at "runF") => `(tactic| repeat (first | walk_at "ji" | walk_at "z1F" | walk_at "z2" | walk_at "sp"))
inductive Pa where
  | int (i : Int) | oth
inductive Pv where
  | non | int (i : Int) | str (z : Str) | tup (l : List Pa) | oth
noncomputable def RpA (K : PySem.W.Frag) (H : Hp) : V → Pa → Prop
  | v, .int i => v = .int i
  | v, .oth => ∃ g, tgIs K H v g ∧ g ≠ .int
noncomputable def RpL (K : PySem.W.Frag) (H : Hp) : List V → List Pa → Prop
  | [], [] => True
  | v :: vs, a :: as => RpA K H v a ∧ RpL K H vs as
  | _, _ => False
noncomputable def Rp (K : PySem.W.Frag) (H : Hp) : V → Pv → Prop
  | v, .non => v = .non
  | v, .int i => v = .int i
  | v, .str z => v = .str z ∧ z.length ≤ 900
  | v, .tup l => ∃ p vs, v = .ref p ∧ SqT K H p vs ∧ RpL K H vs l
  | v, .oth => ∃ g, tgIs K H v g ∧ (g = .bl ∨ g = .lst ∨ g = .dic)
theorem RpA.same {K : PySem.W.Frag} {H H' : Hp} {v : V} {a : Pa} (s : Same H H') (h : RpA K H v a) : RpA K H' v a := by
  cases a with
  | int i => exact h
  | oth => obtain ⟨g, hg, ne⟩ := h; exact ⟨g, tg_same s hg, ne⟩
theorem RpL.same {K : PySem.W.Frag} {H H' : Hp} (s : Same H H') : ∀ {vs : List V} {l : List Pa}, RpL K H vs l → RpL K H' vs l
  | [], [], _ => True.intro
  | _ :: _, _ :: _, h => ⟨h.1.same s, RpL.same s h.2⟩
theorem RpL.len {K : PySem.W.Frag} {H : Hp} : ∀ {vs : List V} {l : List Pa}, RpL K H vs l → vs.length = l.length
  | [], [], _ => rfl
  | _ :: _, _ :: _, h => by rw [List.length_cons, List.length_cons, RpL.len h.2]
theorem Rp.same {K : PySem.W.Frag} {H H' : Hp} {v : V} {x : Pv} (s : Same H H') (h : Rp K H v x) : Rp K H' v x := by
  cases x with
  | tup l => obtain ⟨p, vs, e, hs, r⟩ := h; exact ⟨p, vs, e, s.tup hs, r.same s⟩
  | oth => obtain ⟨g, hg, ne⟩ := h; exact ⟨g, tg_same s hg, ne⟩
  | non => exact h
  | int i => exact h
  | str z => exact h
noncomputable def Pv.isS : Pv → Bool
  | .str _ => true | _ => false
noncomputable def Pv.isT : Pv → Bool
  | .tup _ => true | _ => false
noncomputable def Pv.isI : Pv → Bool
  | .int _ => true | _ => false
theorem Rp.tag {K : PySem.W.Frag} {H : Hp} {v : V} {x : Pv} (h : Rp K H v x) : ∃ g, tgIs K H v g ∧ g.isStr = x.isS ∧ g.isTup = x.isT ∧ (match g with | .int => true | _ => false) = x.isI := by
  cases x with
  | non => cases h; exact ⟨.non, True.intro, rfl, rfl, rfl⟩
  | int i => cases h; exact ⟨.int, True.intro, rfl, rfl, rfl⟩
  | str z => obtain ⟨rfl, _⟩ := h; exact ⟨.str, True.intro, rfl, rfl, rfl⟩
  | tup l => obtain ⟨p, vs, rfl, hs, _⟩ := h; exact ⟨.tup, ⟨vs, hs⟩, rfl, rfl, rfl⟩
  | oth => obtain ⟨g, hg, rfl | rfl | rfl⟩ := h <;> exact ⟨_, hg, rfl, rfl, rfl⟩
theorem Rp.non {K : PySem.W.Frag} {H : Hp} {v : V} {x : Pv} (h : Rp K H v x) : v = .non ↔ x = .non := by
  cases x with
  | non => cases h; exact ⟨fun _ => rfl, fun _ => rfl⟩
  | int i => cases h; exact ⟨nofun, nofun⟩
  | str z => obtain ⟨rfl, _⟩ := h; exact ⟨nofun, nofun⟩
  | tup l => obtain ⟨p, vs, rfl, hs, _⟩ := h; exact ⟨nofun, nofun⟩
  | oth =>
    obtain ⟨g, hg, hh⟩ := h
    refine ⟨fun z => ?_, nofun⟩
    subst z
    rcases hh with rfl | rfl | rfl <;> exact (show False from hg).elim
noncomputable def Pa.isI : Pa → Bool
  | .int _ => true | .oth => false
theorem a_whole {K : PySem.W.Frag} {H : Hp} {Q : VK} {E : XK} {v : V} {a : Pa} (h : RpA K H v a) (q : Q (.bl a.isI) H) : sp_whole K [v] H Q E := by
  cases a with
  | int i => cases h; exact ⟨_, .int, rfl, True.intro, q⟩
  | oth =>
    obtain ⟨g, hg, ne⟩ := h
    refine ⟨_, g, rfl, hg, ?_⟩
    cases g <;> first | exact absurd rfl ne | exact q
noncomputable def isNum : Pv → Bool
  | .tup [.int a, .int b] => decide (1 ≤ b) && decide (Int.gcd a b = 1)
  | _ => false
noncomputable def absI (i : Int) : Int := if i < 0 then -i else i
noncomputable def toldN : Pv → Bool
  | .tup [.int a, .int b] => (decide (1 ≤ b) && decide (Int.gcd a b = 1)) && (decide (absI a < 1000000000000000000) && decide (b ≤ 60))
  | _ => false
theorem p18 : (10 : Int) ^ (18 : Int).toNat = 1000000000000000000 := by decide
noncomputable def sp_isnum (K : PySem.W.Frag) (f : Pv → Bool) : Sp := fun vs H Q _ => ∃ v x, vs = [v] ∧ Rp K H v x ∧ Q (.bl (f x)) H
theorem two_cases (l : List Pa) : (∃ a b, l = [a, b]) ∨ l.length ≠ 2 := by
  match l with
  | [] => exact .inr (by decide)
  | [_] => exact .inr (by simp)
  | [a, b] => exact .inl ⟨a, b, rfl⟩
  | _ :: _ :: _ :: _ => exact .inr (by simp)
theorem isNum_len {l : List Pa} (h : l.length ≠ 2) : isNum (.tup l) = false ∧ toldN (.tup l) = false := by
  match l with
  | [] => exact ⟨rfl, rfl⟩
  | [a] => cases a <;> exact ⟨rfl, rfl⟩
  | [a, b] => exact absurd rfl h
  | a :: b :: _ :: _ => cases a <;> cases b <;> exact ⟨rfl, rfl⟩
theorem isNum_not {x : Pv} (h : x.isT = false) : isNum x = false ∧ toldN x = false := by
  cases x with
  | tup l => cases h
  | _ => exact ⟨rfl, rfl⟩
theorem RpL.two {K : PySem.W.Frag} {H : Hp} {vs : List V} {a b : Pa} (h : RpL K H vs [a, b]) : ∃ v w, vs = [v, w] ∧ RpA K H v a ∧ RpA K H w b := by
  match vs, h with
  | [v, w], h => exact ⟨v, w, rfl, h.1, h.2.1⟩
theorem ok_is_number (T : Txt K mg t) : FnOk P w K mg base CX0 2 t.f_is_number t.d_is_number ["thing"] (sp_isnum K isNum) := by
  have G_is_whole := ok_is_whole (P := P) (w := w) (base := base) T
  have G_divisor_of := ok_divisor_of (P := P) (w := w) (base := base) T
  refine T.F_is_number.ok sc_is_number (fun vs H Q E h => ?_) (fun cdv A outer s H vs Q E hr h => ?_)
  · obtain ⟨v, x, rfl, _⟩ := h
    rfl
  obtain ⟨v, x, rfl, hx, q⟩ := h
  refine ⟨_, (pss_cons (ps_if (PW.pt (pw_or (pt_not (pt_val (pe_isi isi_tuple rfl rfl T.z_isinstance T.z_tuple bt_tuple (pv 0)))) (pw_or1 (pt_cmpR op_ne (pe_callB call_len_seq rfl T.z_len PySem.boot_len (pa_cons (pv 0) pa_nil)) pe_int (nomark _))))) (pss_one (ps_ret pe_bl)) pss_nil)
  (pss_cons (ps_if (PW.pt (pw_or (pt_not (pt_val (pe_call G_is_whole (hr.mono (by decide)) rfl T.m_is_whole T.k_is_whole T.b_is_whole .nil pass0 (pa_cons (pe_ix ix_tup (pv 0) pe_int (fun _ _ => rfl)) pa_nil)))) (pw_or1 (pt_not (pt_val (pe_call G_is_whole (hr.mono (by decide)) rfl T.m_is_whole T.k_is_whole T.b_is_whole .nil pass0 (pa_cons (pe_ix ix_tup (pv 0) pe_int (fun _ _ => rfl)) pa_nil))))))) (pss_one (ps_ret pe_bl)) pss_nil)
  (pss_one (ps_ret (pe_and (pe_cmpR op_ge (pe_ix ix_tup (pv 0) pe_int (fun _ _ => rfl)) pe_int (nomark _)) (pe_one (pe_cmpR op_eq (pe_call G_divisor_of (hr.mono (by decide)) rfl T.m_divisor_of T.k_divisor_of T.b_divisor_of .nil pass0 (pa_cons (pe_ix ix_tup (pv 0) pe_int (fun _ _ => rfl)) (pa_cons (pe_ix ix_tup (pv 0) pe_int (fun _ _ => rfl)) pa_nil))) pe_int (nomark _)))))))), z_go (σ := [some _]) rfl ?_⟩
  walk_at "run"
  obtain ⟨g, hg, _, hT, _⟩ := hx.tag
  refine ⟨_, g, rfl, hg, ?_⟩
  rw [hT]
  by_cases ht : x.isT = true
  rotate_left
  · have ht : x.isT = false := by simpa using ht
    rw [ht]
    walk_at "run"
    rw [(isNum_not ht).1] at q
    exact q
  rw [ht]
  obtain ⟨l, rfl⟩ : ∃ l, x = .tup l := by
    cases x with
    | tup l => exact ⟨l, rfl⟩
    | _ => cases ht
  obtain ⟨p, vs, rfl, hs, hl⟩ := hx
  have hlen := hl.len
  walk_at "run"
  rcases two_cases l with ⟨a, b, rfl⟩ | hne
  rotate_left
  · refine z_iteD (fun h => absurd h (by omega)) (fun _ => ?_)
    walk_at "run"
    rw [(isNum_len hne).1] at q
    exact q
  obtain ⟨v, w, rfl, ra, rb⟩ := hl.two
  refine z_iteD (fun _ => ?_) (fun h => absurd rfl h)
  walk_at "run"
  refine a_whole ra ?_
  walk_at "run"
  cases a with
  | oth =>
    refine iteF ?_
    walk_at "run"
    exact q
  | int i =>
    refine iteT ?_
    walk_at "run"
    refine a_whole rb ?_
    walk_at "run"
    cases b with
    | oth =>
      refine iteF ?_
      walk_at "run"
      exact q
    | int j =>
      cases ra
      cases rb
      refine iteT ?_
      walk_at "run"
      have q : Q (.bl (decide (1 ≤ j) && decide (Int.gcd i j = 1))) H := q
      refine z_iteD (fun h => ?_) (fun h => ?_)
      · rw [decide_eq_true h, Bool.true_and] at q
        walk_at "run"
        refine ⟨i, j, rfl, ?_⟩
        walk_at "run"
        have e : decide (((Int.gcd i j : Nat) : Int) = 1) = decide (Int.gcd i j = 1) := by
          rw [Bool.eq_iff_iff, decide_eq_true_eq, decide_eq_true_eq]; omega
        rw [e]
        exact q
      · rw [decide_eq_false h, Bool.false_and] at q
        exact q
theorem isNum_told {x : Pv} (h : isNum x = false) : toldN x = false := by
  match x, h with
  | .tup [.int a, .int b], h =>
    have h : (decide (1 ≤ b) && decide (Int.gcd a b = 1)) = false := h
    show ((decide (1 ≤ b) && decide (Int.gcd a b = 1)) && _) = false
    rw [h]; rfl
  | .tup [], _ => rfl
  | .tup [a], _ => cases a <;> rfl
  | .tup [.oth, b], _ => cases b <;> rfl
  | .tup [.int _, .oth], _ => rfl
  | .tup (a :: b :: _ :: _), _ => cases a <;> cases b <;> rfl
  | .non, _ => rfl
  | .int _, _ => rfl
  | .str _, _ => rfl
  | .oth, _ => rfl
theorem isNum_tup {x : Pv} (h : isNum x = true) : ∃ a b, x = .tup [.int a, .int b] ∧ 1 ≤ b ∧ Int.gcd a b = 1 := by
  match x, h with
  | .tup [.int a, .int b], h =>
    have h : (decide (1 ≤ b) && decide (Int.gcd a b = 1)) = true := h
    rw [Bool.and_eq_true, decide_eq_true_eq, decide_eq_true_eq] at h
    exact ⟨a, b, rfl, h.1, h.2⟩
theorem Rp.pair {K : PySem.W.Frag} {H : Hp} {v : V} {a b : Int} (h : Rp K H v (.tup [.int a, .int b])) : ∃ p, v = .ref p ∧ SqT K H p [.int a, .int b] := by
  obtain ⟨p, vs, rfl, hs, hl⟩ := h
  obtain ⟨v, w, rfl, ra, rb⟩ := hl.two
  cases ra
  cases rb
  exact ⟨p, rfl, hs⟩
theorem ok_is_told (T : Txt K mg t) : FnOk P w K mg base CX0 3 t.f_is_told t.d_is_told ["thing"] (sp_isnum K toldN) := by
  have G_is_number := ok_is_number (P := P) (w := w) (base := base) T
  refine T.F_is_told.ok sc_is_told (fun vs H Q E h => ?_) (fun cdv A outer s H vs Q E hr h => ?_)
  · obtain ⟨v, x, rfl, _⟩ := h
    rfl
  obtain ⟨v, x, rfl, hx, q⟩ := h
  refine ⟨_, (pss_one (ps_ret (pe_and (pe_call G_is_number (hr.mono (by decide)) rfl T.m_is_number T.k_is_number T.b_is_number .nil pass0 (pa_cons (pv 0) pa_nil)) (pe_and (pe_cmpR op_lt (pe_callB call_abs rfl T.z_abs bt_abs (pa_cons (pe_ix ix_tup (pv 0) pe_int (fun _ _ => rfl)) pa_nil)) (pe_op op_pow pe_int pe_int) (nomark _)) (pe_one (pe_cmpR op_le (pe_ix ix_tup (pv 0) pe_int (fun _ _ => rfl)) (pe_glob (v := .int 60) rfl T.g_MOST_BOTTOM ⟨_, rfl⟩) (nomark _))))))), z_go (σ := [some _]) rfl ?_⟩
  walk_at "run"
  refine ⟨v, x, rfl, hx, ?_⟩
  walk_at "run"
  refine z_ite2 (fun h => ?_) (fun h => ?_)
  rotate_left
  · rw [isNum_told h] at q
    exact q
  obtain ⟨a, b, rfl, hb, hg⟩ := isNum_tup h
  obtain ⟨p, rfl, hs⟩ := hx.pair
  have q : Q (.bl ((decide (1 ≤ b) && decide (Int.gcd a b = 1)) && (decide (absI a < 1000000000000000000) && decide (b ≤ 60)))) H := q
  rw [decide_eq_true hb, decide_eq_true hg, Bool.true_and, Bool.true_and] at q
  walk_at "run"
  rw [p18]
  refine z_iteD (fun h => ?_) (fun h => ?_)
  · have h : absI a < 1000000000000000000 := h
    rw [decide_eq_true h, Bool.true_and] at q
    walk_at "run"
    exact q
  · have h : ¬ absI a < 1000000000000000000 := h
    rw [decide_eq_false h, Bool.false_and] at q
    exact q
noncomputable def letB (c : Nat) : Bool := decide (97 ≤ c ∧ c ≤ 122)
theorem in_letters (c : Nat) : (!(Builtin.Str.occurrences ("abcdefghijklmnopqrstuvwxyz" : Str) ⟨#[c]⟩ 0 ("abcdefghijklmnopqrstuvwxyz" : Str).length 1).isEmpty) = letB c := by
  rw [PySem.StrLaws.found_one]
  have e : ("abcdefghijklmnopqrstuvwxyz" : Str).cps.toList = [97, 98, 99, 100, 101, 102, 103, 104, 105, 106, 107, 108, 109, 110, 111, 112, 113, 114, 115, 116, 117, 118, 119, 120, 121, 122] := by decide
  rw [e, Bool.eq_iff_iff, decide_eq_true_eq]
  unfold letB
  rw [decide_eq_true_eq]
  simp only [List.mem_cons, List.not_mem_nil, or_false]
  omega
noncomputable def wordS (z : Str) : Bool := decide (1 ≤ z.length) && (decide (z.length ≤ 8) && (My.cs z).all letB)
noncomputable def toldW : Pv → Bool
  | .str z => wordS z
  | _ => false
theorem toldW_not {x : Pv} (h : x.isS = false) : toldW x = false := by
  cases x with
  | str z => cases h
  | _ => rfl
noncomputable def sp_isword (K : PySem.W.Frag) : Sp := fun vs H Q _ => ∃ v x, vs = [v] ∧ Rp K H v x ∧ ∀ H', Same H H' → Q (.bl (toldW x)) H'
theorem all_let (z : Str) : (((My.cs z).map fun c => letB c).all fun b => b) = (My.cs z).all letB := by rw [List.all_map]; rfl
theorem ok_is_word (T : Txt K mg t) : FnOk P w K mg base CX0 1 t.f_is_word t.d_is_word ["thing"] (sp_isword K) := by
  refine T.F_is_word.ok sc_is_word (fun vs H Q E h => ?_) (fun cdv A outer s H vs Q E hr h => ?_)
  · obtain ⟨v, x, rfl, _⟩ := h
    rfl
  obtain ⟨v, x, rfl, hx, q⟩ := h
  refine ⟨_, (pss_cons (ps_if (PW.pt (pw_or (pt_not (pt_val (pe_isi isi_str rfl rfl T.z_isinstance T.z_str bt_str (pv 0)))) (pw_or1 (pt_not (pt_chain op_le op_le pe_int (pe_callB call_len_str rfl T.z_len PySem.boot_len (pa_cons (pv 0) pa_nil)) (pe_glob (v := .int 8) rfl T.g_LONGEST_WORD ⟨_, rfl⟩)))))) (pss_one (ps_ret pe_bl)) pss_nil)
  (pss_one (ps_ret (pe_callB (call_all rfl) rfl T.z_all bt_all (pa_cons (pe_lc rfl (compOk_of (fr := []) (osc := defScope s_is_word) (N := ["thing"]) rfl rfl (by decide +kernel)) (pi_str (pv 0)) (fun _ _ _ _ _ => (pe_cmpR op_in_str (pv 0) (pe_glob (v := .str "abcdefghijklmnopqrstuvwxyz") rfl T.g_LETTERS ⟨_, rfl⟩) rfl))) pa_nil))))), z_go (σ := [some _]) rfl ?_⟩
  walk_at "run"
  obtain ⟨g, hg, hS, _⟩ := hx.tag
  refine ⟨_, g, rfl, hg, ?_⟩
  rw [hS]
  by_cases ht : x.isS = true
  rotate_left
  · have ht : x.isS = false := by simpa using ht
    rw [ht]
    walk_at "run"
    rw [toldW_not ht] at q
    exact q _ (Same.refl _)
  rw [ht]
  obtain ⟨z, rfl⟩ : ∃ z, x = .str z := by
    cases x with
    | str z => exact ⟨z, rfl⟩
    | _ => cases ht
  obtain ⟨rfl, hz⟩ := hx
  have q : ∀ H', Same H H' → Q (.bl (decide (1 ≤ z.length) && (decide (z.length ≤ 8) && (My.cs z).all letB))) H' := q
  walk_at "run"
  refine ⟨z, rfl, le_size (by omega), ?_⟩
  walk_at "run"
  refine z_iteD (fun h1 => ?_) (fun h1 => ?_)
  rotate_left
  · walk_at "run"
    rw [decide_eq_false (show ¬ 1 ≤ z.length by omega), Bool.false_and] at q
    exact q _ (Same.refl _)
  rw [decide_eq_true (show 1 ≤ z.length by omega), Bool.true_and] at q
  walk_at "run"
  refine z_iteD (fun h2 => ?_) (fun h2 => ?_)
  rotate_left
  · walk_at "run"
    rw [decide_eq_false (show ¬ z.length ≤ 8 by omega), Bool.false_and] at q
    exact q _ (Same.refl _)
  rw [decide_eq_true (show z.length ≤ 8 by omega), Bool.true_and] at q
  walk_at "run"
  refine lcn_str (fun c => .bl (letB c)) (le_size (by show z.length ≤ 1000; omega)) ?_ ?_
  · intro c H2 S hc s2 k
    walk_at "run"
    rw [in_letters]
    exact k _ (Same.refl _)
  · intro acc H2 hacc s2 ha
    walk_at "run"
    have e : (My.cs z).map (fun c => V.bl (letB c)) = ((My.cs z).map fun c => letB c).map V.bl := by rw [List.map_map]; rfl
    have ha' : H2 acc = some (.lst (((My.cs z).map fun c => letB c).map V.bl)) := by rw [← e]; exact ha
    refine z_all (SqL.of ha') ?_
    rw [all_let]
    exact q _ s2
noncomputable def toldD : Pv → Bool
  | .int d => decide (364877 ≤ d) && decide (d ≤ 3286816)
  | _ => false
theorem years {y m e : Int} (v : My.Valid y m e) : (decide (1000 ≤ y) && decide (y ≤ 8999)) = (decide (364877 ≤ My.dayOf y m e) && decide (My.dayOf y m e ≤ 3286816)) := by
  have r := v.range
  have a : My.ybeg 1000 = 364877 := by decide
  have b : My.ybeg 9000 = 3286817 := by decide
  rw [Bool.eq_iff_iff, Bool.and_eq_true, Bool.and_eq_true, decide_eq_true_eq, decide_eq_true_eq, decide_eq_true_eq, decide_eq_true_eq]
  constructor
  · rintro ⟨h1, h2⟩
    have c := My.ybeg_mono h1
    have d := My.ybeg_mono (show y + 1 ≤ 9000 by omega)
    omega
  · rintro ⟨h1, h2⟩
    refine ⟨?_, ?_⟩
    · rcases Int.lt_or_le y 1000 with z | z
      · have c := My.ybeg_mono (show y + 1 ≤ 1000 by omega)
        omega
      · exact z
    · rcases Int.lt_or_le 8999 y with z | z
      · have c := My.ybeg_mono (show 9000 ≤ y by omega)
        omega
      · exact z
theorem a_toldday {K : PySem.W.Frag} {H : Hp} {Q : VK} {E : XK} {v : V} {x : Pv} (hx : Rp K H v x) (q : ∀ H', Same H H' → Q (.bl (toldD x)) H') : sp_told K [v] H Q E := by
  obtain ⟨g, hg, _, _, hI⟩ := hx.tag
  refine ⟨v, g, rfl, hg, fun y m e vd ed _ _ H' s' => ?_, fun nd H' s' => ?_⟩
  · subst ed
    have : x = .int (My.dayOf y m e) := by
      cases x with
      | int i => cases hx; rfl
      | non => cases hx
      | str z => exact absurd hx.1 (by intro z; cases z)
      | tup l => obtain ⟨p, vs, e', _⟩ := hx; cases e'
      | oth =>
        obtain ⟨g', hg', hh⟩ := hx
        rcases hh with rfl | rfl | rfl <;> exact (show False from hg').elim
    subst this
    rw [years vd]
    exact q _ s'
  · have e : toldD x = false := by
      cases x with
      | int i =>
        cases hx
        have := nd i rfl
        show (decide (364877 ≤ i) && decide (i ≤ 3286816)) = false
        rw [Bool.and_eq_false_iff, decide_eq_false_iff_not, decide_eq_false_iff_not]
        omega
      | _ => rfl
    rw [e] at q
    exact q _ s'
noncomputable def toldC (k : Str) (x : Pv) : Bool := match x with
  | .non => true
  | x => if k = "number" then toldN x else if k = "day" then toldD x else decide (k = "word") && toldW x
theorem toldC_ne {k : Str} {x : Pv} (h : x ≠ .non) : toldC k x = if k = "number" then toldN x else if k = "day" then toldD x else decide (k = "word") && toldW x := by
  cases x with
  | non => exact absurd rfl h
  | _ => rfl
noncomputable def sp_iscell (K : PySem.W.Frag) : Sp := fun vs H Q _ => ∃ k v x, vs = [.str k, v] ∧ Rp K H v x ∧ ∀ H', Same H H' → Q (.bl (toldC k x)) H'
theorem z_isNv {x : V} {H : Hp} {Q : VK} (q : Q (.bl (decide (x = .non))) H) : rIsN x .non H Q := ⟨rfl, q⟩
theorem ok_is_cell (T : Txt K mg t) : FnOk P w K mg base CX0 5 t.f_is_cell t.d_is_cell ["kind", "thing"] (sp_iscell K) := by
  have G_is_told := ok_is_told (P := P) (w := w) (base := base) T
  have G_is_told_day := ok_is_told_day (P := P) (w := w) (base := base) T
  have G_is_word := ok_is_word (P := P) (w := w) (base := base) T
  refine T.F_is_cell.ok sc_is_cell (fun vs H Q E h => ?_) (fun cdv A outer s H vs Q E hr h => ?_)
  · obtain ⟨k, v, x, rfl, _⟩ := h
    rfl
  obtain ⟨k, v, x, rfl, hx, q⟩ := h
  refine ⟨_, (pss_cons (ps_if (pt_cmpR op_isN' (pv 1) pe_non (nomark _)) (pss_one (ps_ret pe_bl)) pss_nil)
  (pss_cons (ps_if (pt_cmpR op_eq (pv 0) pe_str (nomark _)) (pss_one (ps_ret (pe_call G_is_told (hr.mono (by decide)) rfl T.m_is_told T.k_is_told T.b_is_told .nil pass0 (pa_cons (pv 1) pa_nil)))) pss_nil)
  (pss_cons (ps_if (pt_cmpR op_eq (pv 0) pe_str (nomark _)) (pss_one (ps_ret (pe_call G_is_told_day (hr.mono (by decide)) rfl T.m_is_told_day T.k_is_told_day T.b_is_told_day .nil pass0 (pa_cons (pv 1) pa_nil)))) pss_nil)
  (pss_one (ps_ret (pe_and (pe_cmpR op_eq (pv 0) pe_str (nomark _)) (pe_one (pe_call G_is_word (hr.mono (by decide)) rfl T.m_is_word T.k_is_word T.b_is_word .nil pass0 (pa_cons (pv 1) pa_nil))))))))), z_go (σ := [some _, some _]) rfl ?_⟩
  walk_at "run"
  refine z_isNv ?_
  walk_at "run"
  refine z_iteD (fun h => ?_) (fun h => ?_)
  · have e := hx.non.mp h
    subst e
    walk_at "run"
    exact q _ (Same.refl _)
  rw [toldC_ne (fun e => h (hx.non.mpr e))] at q
  walk_at "run"
  refine z_iteD (fun h1 => ?_) (fun h1 => ?_)
  · rw [if_pos h1] at q
    walk_at "run"
    exact ⟨v, x, rfl, hx, q _ (Same.refl _)⟩
  rw [if_neg h1] at q
  walk_at "run"
  refine z_iteD (fun h2 => ?_) (fun h2 => ?_)
  · rw [if_pos h2] at q
    walk_at "run"
    exact a_toldday hx q
  rw [if_neg h2] at q
  walk_at "run"
  refine z_iteD (fun h3 => ?_) (fun h3 => ?_)
  · rw [decide_eq_true h3, Bool.true_and] at q
    walk_at "run"
    exact ⟨v, x, rfl, hx, q⟩
  · rw [decide_eq_false h3, Bool.false_and] at q
    exact q _ (Same.refl _)
noncomputable def ixOf (ws : List Str) (z : Str) : Option Nat := ws.findIdx? fun x => decide (x = z)
noncomputable def Cols (K : PySem.W.Frag) (H : Hp) (xs : List V) (ws : List Str) : Prop := xs.length = ws.length ∧ ∀ (i : Nat) (v : V) (z : Str), xs[i]? = some v → ws[i]? = some z → ∃ p r, v = .ref p ∧ SqT K H p (.str z :: r)
theorem Cols.same {K : PySem.W.Frag} {H H' : Hp} {xs : List V} {ws : List Str} (s : Same H H') (h : Cols K H xs ws) : Cols K H' xs ws := ⟨h.1, fun i v z h1 h2 => by
  obtain ⟨p, r, e, hs⟩ := h.2 i v z h1 h2
  exact ⟨p, r, e, s.tup hs⟩⟩
noncomputable def sp_colat (K : PySem.W.Frag) : Sp := fun vs H Q _ => ∃ (a : Addr) (z : Str) (xs : List V) (ws : List Str), vs = [.ref a, .str z] ∧ SqL K H a xs ∧ Cols K H xs ws ∧ ∀ H', Same H H' → Q (match ixOf ws z with | some i => .int (i : Nat) | none => .non) H'
theorem ixOf_some {ws : List Str} {z : Str} {i : Nat} (h : ws[i]? = some z) (hb : ∀ j x, j < i → ws[j]? = some x → x ≠ z) : ixOf ws z = some i := by
  obtain ⟨hi, e⟩ := List.getElem?_eq_some_iff.mp h
  unfold ixOf
  rw [List.findIdx?_eq_some_iff_getElem]
  refine ⟨hi, by rw [e]; simp, fun j hj => ?_⟩
  have := hb j _ hj (List.getElem?_eq_getElem (by omega))
  simpa using this
theorem ixOf_none {ws : List Str} {z : Str} (hb : ∀ j x, j < ws.length → ws[j]? = some x → x ≠ z) : ixOf ws z = none := by
  unfold ixOf
  rw [List.findIdx?_eq_none_iff]
  intro x hx
  obtain ⟨j, hj, e⟩ := List.getElem_of_mem hx
  have := hb j x hj (by rw [List.getElem?_eq_getElem hj, e])
  simpa using this
theorem at_cons0 (x : V) (r : List V) : atI (x :: r) 0 = some x := atI_first rfl
theorem ok_column_at (T : Txt K mg t) : FnOk P w K mg base CX0 1 t.f_column_at t.d_column_at ["columns", "name"] (sp_colat K) := by
  refine T.F_column_at.ok sc_column_at (fun vs H Q E h => ?_) (fun cdv A outer s H vs Q E hr h => ?_)
  · obtain ⟨a, z, xs, ws, rfl, _⟩ := h
    rfl
  obtain ⟨a, z, xs, ws, rfl, hS, hC, q⟩ := h
  refine ⟨_, (pss_cons (ps_for PassesOwn.never rfl (pi_enum rfl T.z_enumerate (pa_cons (pv 0) pa_nil)) (pg_tup rfl (pgs_cons (pg_name (i := 2) sc_column_at.nd rfl (Or.inl rfl)) (pgs_cons (pg_name (i := 3) sc_column_at.nd rfl (Or.inl rfl)) pgs_nil))) (pss_one (ps_if (pt_cmpR op_eq (pe_ix ix_tup (pv 3) pe_int (fun _ _ => rfl)) (pv 1) (nomark _)) (pss_one (ps_ret (pv 2))) pss_nil)))
  (pss_one (ps_ret pe_non))), z_go (σ := [some _, some _, none, none]) rfl ?_⟩
  walk_at "run"
  refine f_enum (K := K) (xs := xs) (fun i σ HD => (∃ u1 u2, σ = [some (.ref a), some (.str z), u1, u2]) ∧ Same H HD ∧ ∀ j x, j < i → ws[j]? = some x → x ≠ z) ⟨⟨none, none, rfl⟩, Same.refl _, fun j x hj => absurd hj (Nat.not_lt_zero _)⟩ (fun i σ HD _ ⟨_, sD, _⟩ => sD.seq hS) ?_ ?_
  · rintro i v σ HD hi ⟨⟨u1, u2, rfl⟩, sD, hb⟩ p H1 s1 hp
    have hlt : i < ws.length := by rw [← hC.1]; exact (List.getElem?_eq_some_iff.mp hi).1
    obtain ⟨x, hx⟩ : ∃ x, ws[i]? = some x := ⟨_, List.getElem?_eq_getElem hlt⟩
    obtain ⟨pc, r, rfl, hs⟩ := hC.2 i v x hi hx
    have hs1 := s1.tup (sD.tup hs)
    walk_at "run"
    refine z_ixT hs1 (at_cons0 _ _) ?_
    walk_at "run"
    refine z_iteD (fun h => ?_) (fun h => ?_)
    · subst h
      walk_at "run"
      have q := q _ (sD.trans s1)
      rw [ixOf_some hx hb] at q
      exact q
    · walk_at "run"
      refine ⟨⟨_, _, rfl⟩, sD.trans s1, fun j y hj e => ?_⟩
      rcases Nat.lt_succ_iff_lt_or_eq.mp hj with k | k
      · exact hb j y k e
      · subst k
        rw [hx] at e
        cases e
        exact h
  · rintro σ HD ⟨⟨u1, u2, rfl⟩, sD, hb⟩
    walk_at "run"
    have q := q _ sD
    rw [ixOf_none (fun j x hj e => hb j x (by rw [hC.1]; exact hj) e)] at q
    exact q
noncomputable def N2 (a b : Int) : Tr := .tup [.int a, .int b]
abbrev NP := Int × Int
noncomputable def nT (x : NP) : Tr := N2 x.1 x.2
theorem dvd_of_one {a b L k : Int} (hb : 0 < b) (g : Int.gcd a b = 1) (h : a * L = k * b) : b ∣ L := by
  have h1 : b ∣ a * L := ⟨k, by rw [h, Int.mul_comm]⟩
  have h2 := Int.natAbs_dvd_natAbs.mpr h1
  rw [Int.natAbs_mul] at h2
  exact Int.natAbs_dvd_natAbs.mp (Nat.Coprime.dvd_of_dvd_mul_left (show Nat.Coprime b.natAbs a.natAbs from (Nat.gcd_comm _ _).trans g) h2)
structure Bx (H : Hp) (r l : Addr) (n : Nat) : Prop where
  ex : ∃ (cs : List Int) (a c : Int), H r = some (.lst [.ref l, .int a, .int c]) ∧ H l = some (.lst (cs.map V.int)) ∧ 0 ≤ c ∧ c ≤ n ∧ cs.length ≤ 64
noncomputable def B2 (r l : Addr) (H H' : Hp) : Prop := ∀ b o, b ≠ r → b ≠ l → H b = some o → H' b = some o
theorem B2.refl (r l : Addr) (H : Hp) : B2 r l H H := fun _ _ _ _ h => h
theorem B2.trans {r l : Addr} {A B C : Hp} (g : B2 r l A B) (h : B2 r l B C) : B2 r l A C := fun b o n m e => h b o n m (g b o n m e)
theorem B2.sm {r l : Addr} {A B C : Hp} (g : B2 r l A B) (h : Same B C) : B2 r l A C := fun b o n m e => h b o (g b o n m e)
theorem B2.of {r l : Addr} {A B : Hp} (h : Same A B) : B2 r l A B := fun b o _ _ e => h b o e
theorem B2.but1 {r l : Addr} {A B : Hp} (h : But r A B) : B2 r l A B := fun b o n _ e => h b o n e
theorem B2.but2 {r l : Addr} {A B : Hp} (h : But l A B) : B2 r l A B := fun b o _ n e => h b o n e
theorem Bx.keep {H H' : Hp} {r l : Addr} {n : Nat} (h : Bx H r l n) (s : Same H H') : Bx H' r l n := by
  obtain ⟨cs, a, c, h1, h2, h3⟩ := h.ex
  exact ⟨cs, a, c, s _ _ h1, s _ _ h2, h3⟩
theorem Bx.mono {H : Hp} {r l : Addr} {n m : Nat} (h : Bx H r l n) (e : n ≤ m) : Bx H r l m := by
  obtain ⟨cs, a, c, h1, h2, h3, h4, h5⟩ := h.ex
  exact ⟨cs, a, c, h1, h2, h3, by omega, h5⟩
theorem Bx.nr {H : Hp} {r l p : Addr} {n : Nat} (h : Bx H r l n) (e : H p = none) : p ≠ r ∧ p ≠ l := by
  obtain ⟨cs, a, c, h1, h2, _⟩ := h.ex
  exact ⟨fun z => (by rw [z, h1] at e; cases e), fun z => (by rw [z, h2] at e; cases e)⟩
theorem Bx.upd {H : Hp} {r l p : Addr} {n : Nat} {o : HO} (h : Bx H r l n) (h1 : p ≠ r) (h2 : p ≠ l) : Bx (L2.upd H p o) r l n := by
  obtain ⟨cs, a, c, e1, e2, e3⟩ := h.ex
  exact ⟨cs, a, c, by rw [upd_ne (Ne.symm h1)]; exact e1, by rw [upd_ne (Ne.symm h2)]; exact e2, e3⟩
theorem B2.free {r l : Addr} {H H' : Hp} {n m : Nat} (g : B2 r l H H') (h' : Bx H' r l m) {p : Addr} (e : H' p = none) : H p = none := by
  obtain ⟨cs, a, c, h1, h2, _⟩ := h'.ex
  cases q : H p with
  | none => rfl
  | some o =>
    have hr : p ≠ r := fun z => by rw [z, h1] at e; cases e
    have hl : p ≠ l := fun z => by rw [z, h2] at e; cases e
    rw [g p o hr hl q] at e; cases e
noncomputable def sp_draw : Sp := fun vs H Q _ => ∃ (r l : Addr) (n : Nat) (m : Int), vs = [.ref r, .int m] ∧ Bx H r l n ∧ n ≤ 100000 ∧ 1 ≤ m ∧ m ≤ 1000000000 ∧ ∀ (d : Int) (H' : Hp), 0 ≤ d → d < m → B2 r l H H' → Bx H' r l (n + 1) → Q (.int d) H'
theorem box_ne {H : Hp} {r l : Addr} {a c : Int} {cs : List Int} (h1 : H r = some (.lst [.ref l, .int a, .int c])) (h2 : H l = some (.lst (cs.map V.int))) : r ≠ l := fun z => by
  rw [z, h2] at h1
  injection h1 with h1
  injection h1 with h1
  cases cs with
  | nil => cases h1
  | cons x t => rw [List.map_cons] at h1; injection h1 with h1 _; cases h1
theorem at2 (x y z : V) : atI [x, y, z] 2 = some z := rfl
theorem at31 (x y z : V) : atI [x, y, z] 1 = some y := rfl
theorem at30 (x y z : V) : atI [x, y, z] 0 = some x := rfl
theorem ok_l_draw (T : Txt K mg t) : FnOk P w K mg base CX0 1 t.f_l_draw t.d_l_draw ["_law_box", "_law_many"] (sp_draw) := by
  refine T.F_l_draw.ok sc_l_draw (fun vs H Q E h => ?_) (fun cdv A outer s H vs Q E hr h => ?_)
  · obtain ⟨r, l, n, m, rfl, _⟩ := h
    rfl
  obtain ⟨r, l, n, m, rfl, S, hn, m0, m1, q⟩ := h
  obtain ⟨cs, a, c, hb, hc, c0, c1, hl⟩ := S.ex
  have ne := box_ne hb hc
  refine ⟨_, (pss_cons (ps_set (i := 2) sc_l_draw.nd rfl (Or.inl rfl) (pe_ix ix_list (pv 0) pe_int (fun _ _ => rfl)))
  (pss_cons (ps_if (pt_cmpR op_eq (pe_callB call_len_seq rfl T.z_len PySem.boot_len (pa_cons (pv 2) pa_nil)) pe_int (nomark _)) (pss_one (ps_expr (pe_bm PySem.F.plainAttrs_list PySem.F.slot_list_append PySem.F.type_list_append mt_append (pv 2) (pa_cons pe_int pa_nil)))) pss_nil)
  (pss_cons (ps_set (i := 3) sc_l_draw.nd rfl (Or.inl rfl) (pe_op op_mod (pe_ix ix_list (pv 0) pe_int (fun _ _ => rfl)) (pe_callB call_len_seq rfl T.z_len PySem.boot_len (pa_cons (pv 2) pa_nil))))
  (pss_cons (ps_set (i := 4) sc_l_draw.nd rfl (Or.inl rfl) (pe_ix ix_list (pv 2) (pv 3) (fun _ _ => rfl)))
  (pss_cons (ps_asg (pe_op op_add (pe_ix ix_list (pv 0) pe_int (fun _ _ => rfl)) pe_int) (pg_sub (pv 0) pe_int set_list))
  (pss_cons (ps_if (pt_cmpR op_ge (pv 4) (pe_op op_pow pe_int pe_int) (nomark _)) (pss_cons (ps_asg (pe_op op_fdivB (pv 4) (pv 1)) (pg_sub (pv 2) (pv 3) set_list))
  (pss_one (ps_ret (pe_op op_mod (pv 4) (pv 1))))) pss_nil)
  (pss_cons (ps_asg (pe_op op_add (pv 3) pe_int) (pg_sub (pv 0) pe_int set_list))
  (pss_cons (ps_set (i := 5) sc_l_draw.nd rfl (Or.inl rfl) (pe_op op_mod (pe_op op_add (pv 4) (pe_op op_mul (pe_op op_mul pe_int (pe_ix ix_list (pv 0) pe_int (fun _ _ => rfl))) (pe_ix ix_list (pv 0) pe_int (fun _ _ => rfl)))) pe_int))
  (pss_cons (ps_set (i := 5) sc_l_draw.nd rfl (Or.inl rfl) (pe_op op_mod (pe_op op_mul (pv 5) (pv 5)) pe_int))
  (pss_cons (ps_set (i := 5) sc_l_draw.nd rfl (Or.inl rfl) (pe_op op_mod (pe_op op_mul (pe_op op_add (pv 5) (pe_op op_mul pe_int (pe_ix ix_list (pv 0) pe_int (fun _ _ => rfl)))) (pv 5)) pe_int))
  (pss_one (ps_ret (pe_op op_mod (pe_op op_fdivB (pv 5) pe_int) (pv 1)))))))))))))), z_go (σ := [some _, some _, none, none, none, none]) rfl ?_⟩
  walk_at "run"
  refine z_ixL (SqL.of hb) (at30 _ _ _) ?_
  walk_at "runI"
  refine z_cut (fun σ' H1 => ∃ ds : List Int, σ' = [some (.ref r), some (.int m), some (.ref l), none, none, none] ∧ H1 l = some (.lst (ds.map V.int)) ∧ 1 ≤ ds.length ∧ ds.length ≤ 64 ∧ But l H H1) (fun U hU => ?_) ?_
  · walk_at "run"
    rw [List.length_map]
    refine z_iteD (fun h => ?_) (fun h => ?_)
    · have e : cs = [] := List.eq_nil_of_length_eq_zero (by omega)
      subst e
      walk_at "run"
      refine z_tyL (SqL.of hc) ?_
      walk_at "run"
      refine z_append hc (by decide) (fun H1 b1 l1 => ?_)
      walk_at "run"
      exact hU _ _ ⟨[0], rfl, l1, by decide, by decide, b1⟩
    · walk_at "run"
      exact hU _ _ ⟨cs, rfl, hc, by omega, hl, fun _ _ _ e => e⟩
  rintro σ H1 ⟨ds, rfl, hc1, d1, d64, b1⟩
  have hb1 := b1 r _ ne hb
  walk_at "run"
  refine z_ixL (SqL.of hb1) (at31 _ _ _) ?_
  have el : ((ds.map V.int).length : Int) = (ds.length : Int) := by rw [List.length_map]
  have g0 : 0 ≤ a % (ds.length : Int) := Int.emod_nonneg _ (by omega)
  have g1 : a % (ds.length : Int) < (ds.length : Int) := Int.emod_lt_of_pos _ (by omega)
  walk_at "run"
  rw [el]
  generalize a % (ds.length : Int) = k at *
  have ek : ds[k.toNat]? = some ds[k.toNat] := List.getElem?_eq_getElem (by omega)
  generalize ds[k.toNat]'(by omega) = x at ek
  have hk : ((k.toNat : Nat) : Int) = k := by omega
  have hat : atI (ds.map V.int) k = some (.int x) := by
    have := atI_nat (map_at (g := V.int) ek)
    rw [hk] at this
    exact this
  have hix : ixN (ds.map V.int).length k = some k.toNat := by
    unfold ixN
    rw [if_pos g0, if_pos (by rw [List.length_map]; exact g1)]
  refine z_ixL (SqL.of hc1) hat ?_
  walk_at "run"
  refine z_ixL (SqL.of hb1) (at2 _ _ _) ?_
  walk_at "run"
  refine z_gsub ?_
  walk_at "run"
  refine z_setL hb1 rfl (fun H2 b2 l2 => ?_)
  have hb2 : H2 r = some (.lst [.ref l, .int a, .int (c + 1)]) := l2
  have hc2 := b2 l _ (Ne.symm ne) hc1
  have tot : B2 r l H H2 := (B2.but2 b1).trans (B2.but1 b2)
  walk_at "run"
  refine z_iteD (fun h => ?_) (fun h => ?_)
  · walk_at "run"
    refine z_gsub ?_
    walk_at "run"
    refine z_setL hc2 hix (fun H3 b3 l3 => ?_)
    walk_at "run"
    refine q _ H3 (Int.emod_nonneg _ (by omega)) (Int.emod_lt_of_pos _ (by omega)) (tot.trans (B2.but2 b3)) ⟨ds.set k.toNat (x / m), a, c + 1, b3 r _ ne hb2, by rw [l3, List.map_set], by omega, by omega, by rw [List.length_set]; exact d64⟩
  · walk_at "run"
    refine z_gsub ?_
    walk_at "run"
    refine z_setL hb2 rfl (fun H3 b3 l3 => ?_)
    have hb3 : H3 r = some (.lst [.ref l, .int (k + 1), .int (c + 1)]) := l3
    have hc3 := b3 l _ (Ne.symm ne) hc2
    walk_at "run"
    refine z_ixL (SqL.of hb3) (at2 _ _ _) ?_
    walk_at "run"
    refine z_ixL (SqL.of hb3) (at2 _ _ _) ?_
    walk_at "run"
    have e0 : ∀ z : Int, 0 ≤ z % 2147483647 ∧ z % 2147483647 < 2147483647 := fun z => ⟨Int.emod_nonneg _ (by decide), Int.emod_lt_of_pos _ (by decide)⟩
    obtain ⟨u0, u1⟩ := e0 (x + 48271 * (c + 1) * (c + 1))
    generalize (x + 48271 * (c + 1) * (c + 1)) % 2147483647 = y1 at *
    walk_at "run"
    obtain ⟨v0, v1⟩ := e0 (y1 * y1)
    generalize y1 * y1 % 2147483647 = y2 at *
    walk_at "run"
    refine z_ixL (SqL.of hb3) (at2 _ _ _) ?_
    walk_at "run"
    exact q _ H3 (Int.emod_nonneg _ (by omega)) (Int.emod_lt_of_pos _ (by omega)) (tot.trans (B2.but1 b3)) ⟨ds, k + 1, c + 1, hb3, hc3, by omega, by omega, d64⟩
theorem a_draw {H : Hp} {Q : VK} {E : XK} {r l : Addr} {n : Nat} {m : Int} (S : Bx H r l n) (hn : n ≤ 100000) (h1 : 1 ≤ m) (h2 : m ≤ 1000000000) (q : ∀ (d : Int) (H' : Hp), 0 ≤ d → d < m → B2 r l H H' → Bx H' r l (n + 1) → Q (.int d) H') : sp_draw [.ref r, .int m] H Q E := ⟨r, l, n, m, rfl, S, hn, h1, h2, q⟩
noncomputable def sp_low (K : PySem.W.Frag) : Sp := fun vs H Q _ => ∃ (tp bt : Int) (n : Nat), vs = [.int tp, .int bt] ∧ 0 < bt ∧ My.Bd n tp ∧ My.Bd n bt ∧ n ≤ 3900 ∧ NewQ K H Q n (My.qv tp bt)
theorem low_ok {tp bt : Int} (hb : 0 < bt) : 0 < bt / ((Int.gcd tp bt : Nat) : Int) ∧ Int.gcd (tp / ((Int.gcd tp bt : Nat) : Int)) (bt / ((Int.gcd tp bt : Nat) : Int)) = 1 ∧ My.qv (tp / ((Int.gcd tp bt : Nat) : Int)) (bt / ((Int.gcd tp bt : Nat) : Int)) = My.qv tp bt := by
  have g0 := My.gcd_pos (a := tp) hb
  have M := My.made_of (t := tp) (m := bt) (by omega)
  have e : My.sg tp bt = ((Int.gcd tp bt : Nat) : Int) := if_neg (by omega)
  have e1 : tp.fdiv (My.sg tp bt) = tp / ((Int.gcd tp bt : Nat) : Int) := by rw [e]; exact Int.fdiv_eq_ediv_of_nonneg _ (by omega)
  have e2 : bt.fdiv (My.sg tp bt) = bt / ((Int.gcd tp bt : Nat) : Int) := by rw [e]; exact Int.fdiv_eq_ediv_of_nonneg _ (by omega)
  rw [e1, e2] at M
  exact ⟨M.pos, M.low, My.qv_eq (Int.ne_of_gt M.pos) (by omega) M.same⟩
theorem ok_l_low (T : Txt K mg t) : FnOk P w K mg base CX0 1 t.f_l_low t.d_l_low ["_law_top", "_law_bottom"] (sp_low K) := by
  refine T.F_l_low.ok sc_l_low (fun vs H Q E h => ?_) (fun cdv A outer s H vs Q E hr h => ?_)
  · obtain ⟨tp, bt, n, rfl, _⟩ := h
    rfl
  obtain ⟨tp, bt, n, rfl, hb, h1, h2, hn, q⟩ := h
  have g0 := My.gcd_pos (a := tp) hb
  have g1 : Mid ((Int.gcd tp bt : Nat) : Int) := (My.Bd.of_le h2 (Int.le_of_lt g0) (My.gcd_le hb)).mono (by omega)
  obtain ⟨r1, r2, r3⟩ := low_ok (tp := tp) hb
  refine ⟨_, (pss_cons (ps_set (i := 2) sc_l_low.nd rfl (Or.inl rfl) (pe_callB call_abs rfl T.z_abs bt_abs (pa_cons (pv 0) pa_nil)))
  (pss_cons (ps_set (i := 3) sc_l_low.nd rfl (Or.inl rfl) (pv 1))
  (pss_cons (ps_while PassesOwn.never (pt_cmpR op_ne (pv 3) pe_int (nomark _)) (pss_one (ps_par (i := 2) (j := 3) rfl sc_l_low.nd rfl rfl (by decide) rfl rfl (pa_cons (pv 3) (pa_cons (pe_op op_mod (pv 2) (pv 3)) pa_nil)) rfl)))
  (pss_one (ps_ret (pe_tup (pa_cons (pe_op op_fdivB (pv 0) (pv 2)) (pa_cons (pe_op op_fdivB (pv 1) (pv 2)) pa_nil)))))))), z_go (σ := [some _, some _, none, none]) rfl ?_⟩
  walk_at "run"
  refine z_while (fun m σ H2 => ∃ x y : Int, σ = [some (.int tp), some (.int bt), some (.int x), some (.int y)] ∧ H2 = H ∧ 0 ≤ x ∧ 0 ≤ y ∧ m = y.toNat ∧ Int.gcd x y = Int.gcd tp bt) bt.toNat ⟨_, bt, rfl, rfl, by split <;> omega, Int.le_of_lt hb, rfl, ?_⟩ ?_
  · rw [Int.gcd, My.natAbs_abs]; rfl
  · rintro m σ H2 ⟨x, y, rfl, rfl, x0, y0, rfl, hg⟩
    walk_at "run"
    refine z_iteD (fun h => ?_) (fun h => ?_)
    · have e : y = 0 := by omega
      subst e
      have ex : x = ((Int.gcd tp bt : Nat) : Int) := by
        rw [← hg, Int.gcd_zero_right]
        omega
      rw [ex]
      walk_at "run"
      rename_i p H3 np s3 e3
      exact q _ _ _ _ s3 ⟨SqT.of e3, r1, h1.div g0, h2.div g0⟩ r2 r3
    · have w1 := Int.emod_nonneg x (show y ≠ 0 by omega)
      have w2 := Int.emod_lt_of_pos x (show 0 < y by omega)
      walk_at "run"
      exact ⟨_, _, rfl, (x % y).toNat, by omega, y, x % y, rfl, rfl, y0, w1, rfl, by rw [My.gcd_step, hg]⟩
theorem a_low {K : PySem.W.Frag} {H : Hp} {Q : VK} {E : XK} {tp bt : Int} {n1 n2 : Nat} (h0 : 0 < bt) (h1 : My.Bd n1 tp) (h2 : My.Bd n2 bt) (h3 : max n1 n2 ≤ 3900) (q : ∀ p H' x y, Same H H' → Pr K H' p x y (max n1 n2) → Int.gcd x y = 1 → My.qv x y = My.qv tp bt → Q (.ref p) H') : sp_low K [.int tp, .int bt] H Q E :=
  ⟨tp, bt, max n1 n2, rfl, h0, h1.mono (by omega), h2.mono (by omega), h3, q⟩
theorem sum_one : ∀ ts : List Str, (∀ t ∈ ts, t.length = 1) → (ts.map (·.length)).sum = ts.length
  | [], _ => rfl
  | x :: r, h => by
    rw [List.map_cons, List.sum_cons, h x List.mem_cons_self, sum_one r (fun t ht => h t (List.mem_cons_of_mem _ ht)), List.length_cons]
    omega
theorem fold_one : ∀ (ts : List Str) (n : Nat), (∀ t ∈ ts, t.length = 1) → ts.foldl (fun k t => k + t.length + ("" : Str).length) n = n + ts.length
  | [], _, _ => rfl
  | x :: r, n, h => by
    rw [List.foldl_cons, fold_one r _ (fun t ht => h t (List.mem_cons_of_mem _ ht)), h x List.mem_cons_self, List.length_cons]
    have : ("" : Str).length = 0 := rfl
    omega
theorem join_one {ts : List Str} (h : ∀ t ∈ ts, t.length = 1) (hl : ts.length ≤ 16) : PySem.JoinOk "" ts = true ∧ (PySem.Txt.join "" ts).length ≤ 16 := by
  constructor
  · unfold PySem.JoinOk
    rw [List.foldl_toArray, fold_one ts 0 h]
    show (!decide (_ > sizeLine)) = true
    rw [decide_eq_false]
    · rfl
    · have : 16 ≤ sizeLine := by decide
      omega
  · show (Builtin.Str.glued "" ts).length ≤ 16
    rw [PySem.StrLaws.glued_eq_join]
    have h1 := PySem.StrLaws.join_length_le "" ts
    rw [sum_one ts h] at h1
    have : ("" : Str).length = 0 := rfl
    rw [this] at h1
    omega
local macro_rules | `(tactic| walk_at "sp") => `(tactic| ((with_reducible apply a_draw); (focus assumption); (focus omega); (focus (first | decide | omega)); (focus (first | decide | omega)); (intro d H' d0 d1 bt Sr)))
structure Gd (x y : Int) : Prop where
  pos : 0 < y
  le : y ≤ 60
  one : Int.gcd x y = 1
  lo : -1000000000000000000 < x
  hi : x < 1000000000000000000
theorem nm_of {tp bt x y : Int} (hb : 0 < bt) (h60 : bt ≤ 60) (h1 : -1000000000000000000 < tp) (h2 : tp < 1000000000000000000) (hy : 0 < y) (g : Int.gcd x y = 1) (e : My.qv x y = My.qv tp bt) : Gd x y := by
  have ex := My.eq_of_qv (by omega) (by omega) e
  have dy : y ∣ bt := dvd_of_one (k := tp) hy g ex
  obtain ⟨k, hk⟩ := dy
  have k0 : 0 < k := by
    rcases Int.lt_trichotomy k 0 with z | z | z
    · have := Int.mul_neg_of_pos_of_neg hy z; omega
    · rw [z] at hk; omega
    · exact z
  have e2 : x * k = tp := by
    have : (x * k) * y = tp * y := by rw [← ex, hk]; grind
    exact Int.eq_of_mul_eq_mul_right (by omega) this
  have l1 : y ≤ bt := Int.le_of_dvd hb ⟨k, hk⟩
  refine ⟨hy, by omega, g, ?_, ?_⟩
  · rcases Int.lt_or_le x 0 with z | z
    · have := Int.mul_le_mul_of_nonneg_left (show (1 : Int) ≤ k by omega) (show 0 ≤ -x by omega)
      rw [Int.mul_one, Int.neg_mul] at this
      omega
    · omega
  · rcases Int.lt_or_le x 0 with z | z
    · omega
    · have := Int.mul_le_mul_of_nonneg_left (show (1 : Int) ≤ k by omega) z
      omega
theorem bd_60' {n : Int} (h1 : -1152921504606846976 < n) (h2 : n < 1152921504606846976) : My.Bd 60 n := bd_60 h1 h2
noncomputable def sp_bnum (K : PySem.W.Frag) : Sp := fun vs H Q _ => ∃ (r l : Addr) (n : Nat), vs = [.ref r] ∧ Bx H r l n ∧ n ≤ 90000 ∧ ∀ (p : Addr) (H' : Hp) (x y : Int), B2 r l H H' → Bx H' r l (n + 7) → Pr K H' p x y 64 → Gd x y → Q (.ref p) H'
theorem ok_l_number (T : Txt K mg t) : FnOk P w K mg base CX0 2 t.f_l_number t.d_l_number ["_law_box"] (sp_bnum K) := by
  have G_l_draw := ok_l_draw (P := P) (w := w) (base := base) T
  have G_l_low := ok_l_low (P := P) (w := w) (base := base) T
  refine T.F_l_number.ok sc_l_number (fun vs H Q E h => ?_) (fun cdv A outer s H vs Q E hr h => ?_)
  · obtain ⟨r, l, n, rfl, _⟩ := h
    rfl
  obtain ⟨r, l, n, rfl, S, hn, q⟩ := h
  refine ⟨_, (pss_cons (ps_set (i := 1) sc_l_number.nd rfl (Or.inl rfl) (pe_op op_sub (pe_call G_l_draw (hr.mono (by decide)) rfl T.m_l_draw T.k_l_draw T.b_l_draw .nil pass0 (pa_cons (pv 0) (pa_cons pe_int pa_nil))) pe_int))
  (pss_cons (ps_set (i := 2) sc_l_number.nd rfl (Or.inl rfl) (pe_call G_l_draw (hr.mono (by decide)) rfl T.m_l_draw T.k_l_draw T.b_l_draw .nil pass0 (pa_cons (pv 0) (pa_cons pe_int pa_nil))))
  (pss_cons (ps_if (pt_cmpR op_eq (pv 2) pe_int (nomark _)) (pss_one (ps_set (i := 1) sc_l_number.nd rfl (Or.inl rfl) (pe_op op_add (pe_op op_add (pe_op op_mul (pv 1) (pe_op op_pow pe_int pe_int)) (pe_op op_mul (pe_call G_l_draw (hr.mono (by decide)) rfl T.m_l_draw T.k_l_draw T.b_l_draw .nil pass0 (pa_cons (pv 0) (pa_cons (pe_op op_pow pe_int pe_int) pa_nil))) (pe_op op_pow pe_int pe_int))) (pe_call G_l_draw (hr.mono (by decide)) rfl T.m_l_draw T.k_l_draw T.b_l_draw .nil pass0 (pa_cons (pv 0) (pa_cons (pe_op op_pow pe_int pe_int) pa_nil)))))) pss_nil)
  (pss_cons (ps_if (pt_cmpR op_eq (pv 2) pe_int (nomark _)) (pss_one (ps_set (i := 1) sc_l_number.nd rfl (Or.inl rfl) (pe_op op_mul (pe_op op_sub (pe_op op_sub (pe_op op_pow pe_int pe_int) pe_int) (pe_call G_l_draw (hr.mono (by decide)) rfl T.m_l_draw T.k_l_draw T.b_l_draw .nil pass0 (pa_cons (pv 0) (pa_cons pe_int pa_nil)))) (pe_op op_sub pe_int (pe_op op_mul pe_int (pe_call G_l_draw (hr.mono (by decide)) rfl T.m_l_draw T.k_l_draw T.b_l_draw .nil pass0 (pa_cons (pv 0) (pa_cons pe_int pa_nil)))))))) pss_nil)
  (pss_cons (ps_set (i := 3) sc_l_number.nd rfl (Or.inl rfl) pe_int)
  (pss_cons (ps_if (pt_cmpR op_gt (pv 2) pe_int (nomark _)) (pss_one (ps_set (i := 3) sc_l_number.nd rfl (Or.inl rfl) (pe_op op_add pe_int (pe_call G_l_draw (hr.mono (by decide)) rfl T.m_l_draw T.k_l_draw T.b_l_draw .nil pass0 (pa_cons (pv 0) (pa_cons pe_int pa_nil)))))) pss_nil)
  (pss_cons (ps_if (pt_cmpR op_eq (pv 2) pe_int (nomark _)) (pss_one (ps_set (i := 3) sc_l_number.nd rfl (Or.inl rfl) pe_int)) pss_nil)
  (pss_one (ps_ret (pe_call G_l_low (hr.mono (by decide)) rfl T.m_l_low T.k_l_low T.b_l_low .nil pass0 (pa_cons (pv 1) (pa_cons (pv 3) pa_nil)))))))))))), z_go (σ := [some _, none, none, none]) rfl ?_⟩
  walk_at "runI"
  rename_i d1 H1 d10 d11 b1 S1 d2 H2 d20 d21 b2 S2
  refine z_cut (fun σ' H' => ∃ tp : Int, σ' = [some (.ref r), some (.int tp), some (.int d2), none] ∧ B2 r l H H' ∧ Bx H' r l (n + 4) ∧ (d2 = 2 ∨ (-1000000000000000000 < tp ∧ tp < 1000000000000000000))) (fun U hU => ?_) ?_
  · walk_at "run"
    refine z_iteD (fun h => ?_) (fun h => ?_)
    · walk_at "run"
      rename_i d3 H3 d30 d31 b3 S3 d4 H4 d40 d41 b4 S4
      have p17 : (10 : Int) ^ (17 : Int).toNat = 100000000000000000 := by decide
      have p11 : (10 : Int) ^ (11 : Int).toNat = 100000000000 := by decide
      have p6 : (10 : Int) ^ (6 : Int).toNat = 1000000 := by decide
      rw [p6] at d31 d41
      rw [p17, p11]
      exact hU _ _ ⟨_, rfl, ((b1.trans b2).trans b3).trans b4, S4.mono (by omega), .inr ⟨by omega, by omega⟩⟩
    · walk_at "run"
      exact hU _ _ ⟨_, rfl, b1.trans b2, S2.mono (by omega), .inr ⟨by omega, by omega⟩⟩
  rintro σ H3 ⟨tp, rfl, b3, S3, ht⟩
  clear b1 b2 S1 S2
  walk_at "runI"
  refine z_cut (fun σ' H' => ∃ tp : Int, σ' = [some (.ref r), some (.int tp), some (.int d2), none] ∧ B2 r l H H' ∧ Bx H' r l (n + 6) ∧ -1000000000000000000 < tp ∧ tp < 1000000000000000000) (fun U hU => ?_) ?_
  · walk_at "run"
    refine z_iteD (fun h => ?_) (fun h => ?_)
    · walk_at "run"
      rename_i d4 H4 d40 d41 b4 S4 d5 H5 d50 d51 b5 S5
      have p18 : (10 : Int) ^ (18 : Int).toNat = 1000000000000000000 := by decide
      rw [p18]
      rcases (show d5 = 0 ∨ d5 = 1 by omega) with z | z
      · rw [z]
        exact hU _ _ ⟨_, rfl, (b3.trans b4).trans b5, S5.mono (by omega), by omega, by omega⟩
      · rw [z]
        exact hU _ _ ⟨_, rfl, (b3.trans b4).trans b5, S5.mono (by omega), by omega, by omega⟩
    · walk_at "run"
      exact hU _ _ ⟨_, rfl, b3, S3.mono (by omega), by omega, by omega⟩
  rintro σ H4 ⟨tp, rfl, b4, S4, t1, t2⟩
  clear ht b3 S3
  walk_at "runI"
  refine z_cut (fun σ' H' => ∃ bt : Int, σ' = [some (.ref r), some (.int tp), some (.int d2), some (.int bt)] ∧ B2 r l H H' ∧ Bx H' r l (n + 7) ∧ 0 < bt ∧ bt ≤ 60) (fun U hU => ?_) ?_
  · walk_at "run"
    refine z_iteD (fun h => ?_) (fun h => ?_)
    · walk_at "run"
      rename_i d5 H5 d50 d51 b5 S5
      exact hU _ _ ⟨_, rfl, b4.trans b5, S5.mono (by omega), by omega, by omega⟩
    · walk_at "run"
      exact hU _ _ ⟨_, rfl, b4, S4.mono (by omega), by omega, by omega⟩
  rintro σ H5 ⟨bt, rfl, b5, S5, u1, u2⟩
  clear b4 S4
  walk_at "runI"
  have w12 : 0 < (if decide (d2 = 2) = true then (60 : Int) else bt) ∧ (if decide (d2 = 2) = true then (60 : Int) else bt) ≤ 60 := by split <;> omega
  generalize (if decide (d2 = 2) = true then (60 : Int) else bt) = b6 at *
  obtain ⟨w1, w2⟩ := w12
  refine a_low (n1 := 64) (n2 := 64) w1 ((bd_60' (by omega) (by omega)).mono (by decide)) ((bd_60 (by omega) (by omega)).mono (by decide)) (by decide) (fun p H7 x y s7 P7 g7 e7 => ?_)
  exact q p H7 x y (b5.sm s7) (S5.keep s7) P7 (nm_of w1 w2 t1 t2 P7.pos g7 e7)
noncomputable def sp_bday : Sp := fun vs H Q _ => ∃ (r l : Addr) (n : Nat), vs = [.ref r] ∧ Bx H r l n ∧ n ≤ 90000 ∧ ∀ (d : Int) (H' : Hp), B2 r l H H' → Bx H' r l (n + 4) → 364877 ≤ d → d ≤ 3286816 → Q (.int d) H'
theorem ok_l_day (T : Txt K mg t) : FnOk P w K mg base CX0 2 t.f_l_day t.d_l_day ["_law_box"] (sp_bday) := by
  have G_l_draw := ok_l_draw (P := P) (w := w) (base := base) T
  refine T.F_l_day.ok sc_l_day (fun vs H Q E h => ?_) (fun cdv A outer s H vs Q E hr h => ?_)
  · obtain ⟨r, l, n, rfl, _⟩ := h
    rfl
  obtain ⟨r, l, n, rfl, S, hn, q⟩ := h
  refine ⟨_, (pss_cons (ps_set (i := 1) sc_l_day.nd rfl (Or.inl rfl) (pe_call G_l_draw (hr.mono (by decide)) rfl T.m_l_draw T.k_l_draw T.b_l_draw .nil pass0 (pa_cons (pv 0) (pa_cons pe_int pa_nil))))
  (pss_cons (ps_if (pt_cmpR op_eq (pv 1) pe_int (nomark _)) (pss_one (ps_ret (pe_op op_add (pe_op op_add (pe_op op_add pe_int (pe_call G_l_draw (hr.mono (by decide)) rfl T.m_l_draw T.k_l_draw T.b_l_draw .nil pass0 (pa_cons (pv 0) (pa_cons (pe_op op_pow pe_int pe_int) pa_nil)))) (pe_call G_l_draw (hr.mono (by decide)) rfl T.m_l_draw T.k_l_draw T.b_l_draw .nil pass0 (pa_cons (pv 0) (pa_cons (pe_op op_pow pe_int pe_int) pa_nil)))) (pe_call G_l_draw (hr.mono (by decide)) rfl T.m_l_draw T.k_l_draw T.b_l_draw .nil pass0 (pa_cons (pv 0) (pa_cons pe_int pa_nil)))))) pss_nil)
  (pss_one (ps_ret (pe_op op_add (pe_ix ix_list (pe_lst (pa_cons pe_int (pa_cons pe_int (pa_cons pe_int pa_nil)))) (pv 1) (fun _ _ => rfl)) (pe_call G_l_draw (hr.mono (by decide)) rfl T.m_l_draw T.k_l_draw T.b_l_draw .nil pass0 (pa_cons (pv 0) (pa_cons pe_int pa_nil)))))))), z_go (σ := [some _, none]) rfl ?_⟩
  have p6 : (10 : Int) ^ (6 : Int).toNat = 1000000 := by decide
  walk_at "run"
  rename_i d1 H1 d10 d11 b1 S1
  refine z_iteD (fun h => ?_) (fun h => ?_)
  · walk_at "run"
    rename_i d3 H3 d30 d31 b3 S3 d4 H4 d40 d41 b4 S4 d5 H5 d50 d51 b5 S5
    rw [p6] at d31 d41
    exact q _ _ (((b1.trans b3).trans b4).trans b5) S5 (by omega) (by omega)
  · walk_at "run"
    refine z_mkl (Nat.le_of_ble_eq_true rfl) (fun p H2 hp s2 hl => ?_)
    have S2 := S1.keep s2
    have at3 : ∃ v : Int, atI [V.int 730119, .int 364877, .int 3286811] d1 = some (.int v) ∧ 364877 ≤ v ∧ v ≤ 3286811 := by
      rcases (show d1 = 0 ∨ d1 = 1 ∨ d1 = 2 by omega) with z | z | z <;> subst z
      · exact ⟨_, rfl, by decide, by decide⟩
      · exact ⟨_, rfl, by decide, by decide⟩
      · exact ⟨_, rfl, by decide, by decide⟩
    obtain ⟨v, av, v0, v1⟩ := at3
    walk_at "run"
    refine z_ixL (SqL.of hl) av ?_
    walk_at "run"
    rename_i d3 H3 d30 d31 b3 S3
    exact q _ _ ((b1.sm s2).trans b3) (S3.mono (by omega)) (by omega) (by omega)
noncomputable def LetW (t : Str) : Prop := ∃ c : Nat, t = ⟨#[c]⟩ ∧ 97 ≤ c ∧ c ≤ 112
theorem LetW.len {t : Str} (h : LetW t) : t.length = 1 := by obtain ⟨c, rfl, _⟩ := h; rfl
theorem let16 {f : Int} (f0 : 0 ≤ f) (f1 : f < 16) : ∃ c, atI ("abcdefghijklmnop" : Str).cps.toList f = some c ∧ 97 ≤ c ∧ c ≤ 112 := by
  have e : ("abcdefghijklmnop" : Str).cps.toList = [97, 98, 99, 100, 101, 102, 103, 104, 105, 106, 107, 108, 109, 110, 111, 112] := by decide
  obtain ⟨k, rfl⟩ := Int.eq_ofNat_of_zero_le f0
  have hk : k < ("abcdefghijklmnop" : Str).cps.toList.length := by rw [e]; simp; omega
  refine ⟨_, atI_nat (List.getElem?_eq_getElem hk), ?_⟩
  have : ∀ c ∈ ("abcdefghijklmnop" : Str).cps.toList, 97 ≤ c ∧ c ≤ 112 := by rw [e]; decide
  exact this _ (List.getElem_mem hk)
theorem join0 : ∀ (cs : List Nat), My.cs (Str.join "" (cs.map fun c => (⟨#[c]⟩ : Str))) = cs
  | [] => rfl
  | [c] => rfl
  | c :: d :: r => by
    show My.cs ((⟨#[c]⟩ : Str) ++ "" ++ Str.join "" ((d :: r).map fun c => (⟨#[c]⟩ : Str))) = _
    rw [My.cs_app, My.cs_app, join0 (d :: r)]
    rfl
theorem join_lets (cs : List Nat) : My.cs (PySem.Txt.join "" (cs.map fun c => (⟨#[c]⟩ : Str))) = cs := by
  show My.cs (Builtin.Str.glued "" _) = _
  rw [PySem.StrLaws.glued_eq_join]
  exact join0 cs
theorem lets_of : ∀ {us : List Str}, (∀ t ∈ us, LetW t) → ∃ cs : List Nat, us = cs.map (fun c => (⟨#[c]⟩ : Str)) ∧ ∀ c ∈ cs, 97 ≤ c ∧ c ≤ 112
  | [], _ => ⟨[], rfl, fun _ h => absurd h List.not_mem_nil⟩
  | x :: r, h => by
    obtain ⟨c, rfl, hc⟩ := h x (.head _)
    obtain ⟨cs, rfl, ha⟩ := lets_of (us := r) fun t ht => h t (.tail _ ht)
    exact ⟨c :: cs, rfl, List.forall_mem_cons.mpr ⟨hc, ha⟩⟩
theorem wordS_of {z : Str} (h1 : 1 ≤ z.length) (h2 : z.length ≤ 8) (h3 : ∀ c ∈ My.cs z, 97 ≤ c ∧ c ≤ 122) : wordS z = true := by
  unfold wordS
  rw [decide_eq_true h1, decide_eq_true h2, show (My.cs z).all letB = true from List.all_eq_true.mpr fun c hc => decide_eq_true (h3 c hc)]; rfl
theorem len_cs (z : Str) : z.length = (My.cs z).length := by simp [My.cs, Str.length]
theorem wordS_is {z : Str} (h : wordS z = true) : 1 ≤ z.length ∧ z.length ≤ 8 ∧ ∀ c ∈ My.cs z, 97 ≤ c ∧ c ≤ 122 := by
  unfold wordS at h
  rw [Bool.and_eq_true, Bool.and_eq_true, decide_eq_true_eq, decide_eq_true_eq, List.all_eq_true] at h
  exact ⟨h.1, h.2.1, fun c hc => of_decide_eq_true (h.2.2 c hc)⟩
noncomputable def NoZ (z : Str) : Prop := ∀ c ∈ My.cs z, c ≠ 122
theorem join_noz {us : List Str} (h : ∀ t ∈ us, LetW t) : NoZ (PySem.Txt.join "" us) := by
  obtain ⟨cs, rfl, hc⟩ := lets_of h
  intro c hx
  rw [join_lets cs] at hx
  have := hc c hx
  omega
theorem join_wd {us : List Str} (h : ∀ t ∈ us, LetW t) (h1 : 1 ≤ us.length) (h8 : us.length ≤ 8) : wordS (PySem.Txt.join "" us) = true := by
  obtain ⟨cs, rfl, hc⟩ := lets_of h
  rw [List.length_map] at h1 h8
  have e := join_lets cs
  refine wordS_of ?_ ?_ fun c h => ?_
  · rw [len_cs, e]; exact h1
  · rw [len_cs, e]; exact h8
  · rw [e] at h
    have := hc c h
    omega
noncomputable def sp_bword : Sp := fun vs H Q _ => ∃ (r l : Addr) (n : Nat), vs = [.ref r] ∧ Bx H r l n ∧ n ≤ 90000 ∧ ∀ (z : Str) (H' : Hp), B2 r l H H' → Bx H' r l (n + 10) → wordS z = true → NoZ z → Q (.str z) H'
theorem ok_l_word (T : Txt K mg t) : FnOk P w K mg base CX0 2 t.f_l_word t.d_l_word ["_law_box"] (sp_bword) := by
  have G_l_draw := ok_l_draw (P := P) (w := w) (base := base) T
  refine T.F_l_word.ok sc_l_word (fun vs H Q E h => ?_) (fun cdv A outer s H vs Q E hr h => ?_)
  · obtain ⟨r, l, n, rfl, _⟩ := h
    rfl
  obtain ⟨r, l, n, rfl, S, hn, q⟩ := h
  refine ⟨_, (pss_cons (ps_set (i := 1) sc_l_word.nd rfl (Or.inr rfl) pe_str)
  (pss_cons (ps_set (i := 2) sc_l_word.nd rfl (Or.inl rfl) (pe_ix ix_list (pe_lst (pa_ints [1, 1, 2, 3, 5, 8] rfl)) (pe_call G_l_draw (hr.mono (by decide)) rfl T.m_l_draw T.k_l_draw T.b_l_draw .nil pass0 (pa_cons (pv 0) (pa_cons pe_int pa_nil))) (fun _ _ => rfl)))
  (pss_cons (ps_set (i := 3) sc_l_word.nd rfl (Or.inr rfl) (pe_ix ix_list (pe_lst (pa_cons pe_int (pa_cons pe_int pa_nil))) (pe_call G_l_draw (hr.mono (by decide)) rfl T.m_l_draw T.k_l_draw T.b_l_draw .nil pass0 (pa_cons (pv 0) (pa_cons pe_int pa_nil))) (fun _ _ => rfl)))
  (pss_one (ps_ret (pe_bm PySem.F.plainAttrs_str PySem.F.slot_str_join PySem.F.type_str_join mt_join pe_str (pa_cons (pe_lc rfl (compOk_of (fr := [("_law_box", 0), ("_law_letters", 1), ("_law_many", 3)]) (osc := defScope s_l_word) (N := ["_law_box", "_law_letters", "_law_size", "_law_many"]) rfl rfl (by decide +kernel)) (pi_range1 rfl T.z_range (pa_cons (pv 2) pa_nil)) (fun _ _ _ _ _ => (pe_ix (r := rIxS) ix_str (pv 2) (pe_call G_l_draw (hr.mono (by decide)) rfl T.m_l_draw T.k_l_draw T.b_l_draw .nil pass0 (pa_cons (pv 1) (pa_cons (pv 3) pa_nil))) (fun _ _ => rfl)))) pa_nil))))))), z_go (σ := [some _, none, none, none]) rfl ?_⟩
  walk_at "run"
  refine z_mkl (Nat.le_of_ble_eq_true rfl) (fun p1 H1 hp1 s1 hl1 => ?_)
  have S1 := S.keep s1
  obtain ⟨n1, n2⟩ := S.nr hp1
  walk_at "run"
  rename_i d1 H2 d10 d11 b2 S2
  have at6 : ∃ v : Int, atI ([1, 1, 2, 3, 5, 8].map V.int) d1 = some (.int v) ∧ 1 ≤ v ∧ v ≤ 8 := by
    rcases (show d1 = 0 ∨ d1 = 1 ∨ d1 = 2 ∨ d1 = 3 ∨ d1 = 4 ∨ d1 = 5 by omega) with z | z | z | z | z | z <;> subst z <;> exact ⟨_, rfl, by decide, by decide⟩
  obtain ⟨v, av, v0, v1⟩ := at6
  refine z_ixL (SqL.of (b2 _ _ n1 n2 hl1)) av ?_
  walk_at "run"
  refine z_mkl (Nat.le_of_ble_eq_true rfl) (fun p3 H3 hp3 s3 hl3 => ?_)
  have S3 := S2.keep s3
  obtain ⟨n3, n4⟩ := S2.nr hp3
  walk_at "run"
  rename_i d2 H4 d20 d21 b4 S4
  have at2' : ∃ v : Int, atI [V.int 16, .int 2] d2 = some (.int v) ∧ 1 ≤ v ∧ v ≤ 16 := by
    rcases (show d2 = 0 ∨ d2 = 1 by omega) with z | z <;> subst z <;> exact ⟨_, rfl, by decide, by decide⟩
  obtain ⟨m, am, m0, m1⟩ := at2'
  refine z_ixL (SqL.of (b4 _ _ n3 n4 hl3)) am ?_
  have tot : B2 r l H H4 := ((((B2.of s1).trans b2).sm s3).trans b4)
  clear b2 b4 S1 S2 S3 av am
  walk_at "run"
  refine z_r1N (by omega) (by omega) ?_
  refine lcn_range (fun j xs HJ => ∃ us : List Str, xs = us.map V.str ∧ us.length = j ∧ (∀ t ∈ us, LetW t) ∧ B2 r l H4 HJ ∧ Bx HJ r l (n + 2 + j)) (le_size (by omega)) ⟨[], rfl, rfl, fun t h => absurd h List.not_mem_nil, B2.refl _ _ _, S4⟩ ?_ ?_ ?_
  · rintro j xs HJ acc o hacc ⟨us, rfl, h1, h2, h3, h4⟩
    obtain ⟨c1, c2⟩ := S4.nr hacc
    refine ⟨us, rfl, h1, h2, fun b o' hb1 hb2 e => ?_, h4.upd c1 c2⟩
    rw [upd_ne (fun z => by rw [z, hacc] at e; cases e)]
    exact h3 _ _ hb1 hb2 e
  · rintro j xs acc HJ R hj hacc ⟨us, rfl, h1, h2, h3, h4⟩ hac k
    obtain ⟨c1, c2⟩ := S4.nr hacc
    walk_at "run"
    rename_i f HF f0 f1 bF SF
    obtain ⟨c, hc, hc2⟩ := let16 f0 (show f < 16 by omega)
    refine z_ixS (by decide) hc ?_
    refine k _ _ ⟨us ++ [⟨#[c]⟩], by rw [List.map_append]; rfl, by rw [List.length_append, h1]; rfl, fun t ht => ?_, h3.trans bF, SF.mono (by omega)⟩ (bF _ _ c1 c2 hac)
    rcases List.mem_append.mp ht with z | z
    · exact h2 t z
    · rw [List.mem_singleton.mp z]; exact ⟨c, rfl, hc2⟩
  · rintro acc xs HJ hacc hxl ⟨us, rfl, h1, h2, h3, h4⟩ hac
    walk_at "run"
    obtain ⟨j1, j2⟩ := join_one (fun t ht => (h2 t ht).len) (by omega)
    have w1 := join_wd h2 (by omega) (by omega)
    refine z_join (SqL.of hac) j1 ?_
    walk_at "run"
    exact q _ _ (tot.trans h3) (h4.mono (by omega)) w1 (join_noz h2)
inductive Cl where
  | non | num (x : NP) | day (d : Int) | word (z : Str)
noncomputable def Cl.tr : Cl → Tr
  | .non => .non
  | .num x => nT x
  | .day d => .int d
  | .word z => .str z
noncomputable def Cl.ok (kd : Str) : Cl → Prop
  | .non => True
  | .num x => kd = "number" ∧ Gd x.1 x.2
  | .day d => kd = "day" ∧ 364877 ≤ d ∧ d ≤ 3286816
  | .word z => kd = "word" ∧ wordS z = true
noncomputable def KdS (kd : Str) : Prop := kd = "number" ∨ kd = "word" ∨ kd = "day"
noncomputable def sp_there (K : PySem.W.Frag) : Sp := fun vs H Q _ => ∃ (r l : Addr) (n : Nat) (kd : Str), vs = [.ref r, .str kd] ∧ KdS kd ∧ Bx H r l n ∧ n ≤ 80000 ∧ ∀ (v : V) (H' : Hp) (c : Cl), B2 r l H H' → Bx H' r l (n + 10) → Is K H' v c.tr → c.ok kd → c ≠ .non → Q v H'
theorem a_bnum {K : PySem.W.Frag} {H : Hp} {Q : VK} {E : XK} {r l : Addr} {n : Nat} (S : Bx H r l n) (hn : n ≤ 90000) (q : ∀ (p : Addr) (H' : Hp) (x y : Int), B2 r l H H' → Bx H' r l (n + 7) → Pr K H' p x y 64 → Gd x y → Q (.ref p) H') : sp_bnum K [.ref r] H Q E := ⟨r, l, n, rfl, S, hn, q⟩
theorem a_bday {H : Hp} {Q : VK} {E : XK} {r l : Addr} {n : Nat} (S : Bx H r l n) (hn : n ≤ 90000) (q : ∀ (d : Int) (H' : Hp), B2 r l H H' → Bx H' r l (n + 4) → 364877 ≤ d → d ≤ 3286816 → Q (.int d) H') : sp_bday [.ref r] H Q E := ⟨r, l, n, rfl, S, hn, q⟩
theorem a_bword {H : Hp} {Q : VK} {E : XK} {r l : Addr} {n : Nat} (S : Bx H r l n) (hn : n ≤ 90000) (q : ∀ (z : Str) (H' : Hp), B2 r l H H' → Bx H' r l (n + 10) → wordS z = true → NoZ z → Q (.str z) H') : sp_bword [.ref r] H Q E := ⟨r, l, n, rfl, S, hn, q⟩
theorem ok_l_there (T : Txt K mg t) : FnOk P w K mg base CX0 3 t.f_l_there t.d_l_there ["_law_box", "_law_kind"] (sp_there K) := by
  have G_l_number := ok_l_number (P := P) (w := w) (base := base) T
  have G_l_word := ok_l_word (P := P) (w := w) (base := base) T
  have G_l_day := ok_l_day (P := P) (w := w) (base := base) T
  refine T.F_l_there.ok sc_l_there (fun vs H Q E h => ?_) (fun cdv A outer s H vs Q E hr h => ?_)
  · obtain ⟨r, l, n, kd, rfl, _⟩ := h
    rfl
  obtain ⟨r, l, n, kd, rfl, hk, S, hn, q⟩ := h
  refine ⟨_, (pss_cons (ps_if (pt_cmpR op_eq (pv 1) pe_str (nomark _)) (pss_one (ps_ret (pe_call G_l_number (hr.mono (by decide)) rfl T.m_l_number T.k_l_number T.b_l_number .nil pass0 (pa_cons (pv 0) pa_nil)))) pss_nil)
  (pss_cons (ps_if (pt_cmpR op_eq (pv 1) pe_str (nomark _)) (pss_one (ps_ret (pe_call G_l_word (hr.mono (by decide)) rfl T.m_l_word T.k_l_word T.b_l_word .nil pass0 (pa_cons (pv 0) pa_nil)))) pss_nil)
  (pss_one (ps_ret (pe_call G_l_day (hr.mono (by decide)) rfl T.m_l_day T.k_l_day T.b_l_day .nil pass0 (pa_cons (pv 0) pa_nil)))))), z_go (σ := [some _, some _]) rfl ?_⟩
  walk_at "run"
  refine z_iteD (fun h1 => ?_) (fun h1 => ?_)
  · walk_at "run"
    refine a_bnum S (by omega) (fun p H1 x y b1 S1 P1 g1 => ?_)
    exact q _ H1 (.num (x, y)) b1 (S1.mono (by omega)) (.tup P1.s (.cons .int (.cons .int .nil))) ⟨h1, g1⟩ nofun
  · walk_at "run"
    refine z_iteD (fun h2 => ?_) (fun h2 => ?_)
    · walk_at "run"
      refine a_bword S (by omega) (fun z H1 b1 S1 w1 _ => ?_)
      exact q _ H1 (.word z) b1 S1 .str ⟨h2, w1⟩ nofun
    · walk_at "run"
      refine a_bday S (by omega) (fun d H1 b1 S1 d0 d1 => ?_)
      have e : kd = "day" := by
        rcases hk with h | h | h
        · exact absurd h h1
        · exact absurd h h2
        · exact h
      exact q _ H1 (.day d) b1 (S1.mono (by omega)) .int ⟨e, d0, d1⟩ nofun
theorem a_there {K : PySem.W.Frag} {H : Hp} {Q : VK} {E : XK} {r l : Addr} {n : Nat} {kd : Str} (hk : KdS kd) (S : Bx H r l n) (hn : n ≤ 80000) (q : ∀ (v : V) (H' : Hp) (c : Cl), B2 r l H H' → Bx H' r l (n + 10) → Is K H' v c.tr → c.ok kd → c ≠ .non → Q v H') : sp_there K [.ref r, .str kd] H Q E := ⟨r, l, n, kd, rfl, hk, S, hn, q⟩
noncomputable def sp_bcell (K : PySem.W.Frag) : Sp := fun vs H Q _ => ∃ (r l : Addr) (n : Nat) (kd : Str), vs = [.ref r, .str kd] ∧ KdS kd ∧ Bx H r l n ∧ n ≤ 70000 ∧ ∀ (v : V) (H' : Hp) (c : Cl), B2 r l H H' → Bx H' r l (n + 11) → Is K H' v c.tr → c.ok kd → Q v H'
theorem ok_l_cell (T : Txt K mg t) : FnOk P w K mg base CX0 4 t.f_l_cell t.d_l_cell ["_law_box", "_law_kind"] (sp_bcell K) := by
  have G_l_draw := ok_l_draw (P := P) (w := w) (base := base) T
  have G_l_there := ok_l_there (P := P) (w := w) (base := base) T
  refine T.F_l_cell.ok sc_l_cell (fun vs H Q E h => ?_) (fun cdv A outer s H vs Q E hr h => ?_)
  · obtain ⟨r, l, n, kd, rfl, _⟩ := h
    rfl
  obtain ⟨r, l, n, kd, rfl, hk, S, hn, q⟩ := h
  refine ⟨_, (pss_cons (ps_if (pt_cmpR op_eq (pe_call G_l_draw (hr.mono (by decide)) rfl T.m_l_draw T.k_l_draw T.b_l_draw .nil pass0 (pa_cons (pv 0) (pa_cons pe_int pa_nil))) pe_int (nomark _)) (pss_one (ps_ret pe_non)) pss_nil)
  (pss_one (ps_ret (pe_call G_l_there (hr.mono (by decide)) rfl T.m_l_there T.k_l_there T.b_l_there .nil pass0 (pa_cons (pv 0) (pa_cons (pv 1) pa_nil)))))), z_go (σ := [some _, some _]) rfl ?_⟩
  walk_at "run"
  rename_i d H1 d0 d1 b1 S1
  refine z_iteD (fun h1 => ?_) (fun h1 => ?_)
  · walk_at "run"
    exact q _ H1 .non b1 (S1.mono (by omega)) .non trivial
  · walk_at "run"
    refine a_there hk S1 (by omega) (fun v H2 c b2 S2 i2 o2 _ => ?_)
    exact q _ H2 c (b1.trans b2) (S2.mono (by omega)) i2 o2
theorem a_bcell {K : PySem.W.Frag} {H : Hp} {Q : VK} {E : XK} {r l : Addr} {n : Nat} {kd : Str} (hk : KdS kd) (S : Bx H r l n) (hn : n ≤ 70000) (q : ∀ (v : V) (H' : Hp) (c : Cl), B2 r l H H' → Bx H' r l (n + 11) → Is K H' v c.tr → c.ok kd → Q v H') : sp_bcell K [.ref r, .str kd] H Q E := ⟨r, l, n, kd, rfl, hk, S, hn, q⟩
noncomputable def Kp (H H' : Hp) : Prop := ∀ p o, (∀ xs, o ≠ .lst xs) → H p = some o → H' p = some o
theorem Kp.refl (H : Hp) : Kp H H := fun _ _ _ e => e
theorem Kp.trans {A B C : Hp} (g : Kp A B) (h : Kp B C) : Kp A C := fun p o n e => h p o n (g p o n e)
theorem Kp.of {A B : Hp} (h : Same A B) : Kp A B := fun p o _ e => h p o e
theorem Kp.but {A B : Hp} {l : Addr} {xs : List V} (e : A l = some (.lst xs)) (h : But l A B) : Kp A B := fun p o n z => h p o (fun w => by subst w; rw [e] at z; cases z; exact n _ rfl) z
theorem Kp.b2 {A B : Hp} {r l : Addr} {n : Nat} (S : Bx A r l n) (h : B2 r l A B) : Kp A B := fun p o k z => by
  obtain ⟨cs, a, c, e1, e2, _⟩ := S.ex
  exact h p o (fun w => by subst w; rw [e1] at z; cases z; exact k _ rfl) (fun w => by subst w; rw [e2] at z; cases z; exact k _ rfl) z
theorem Kp.upd {A : Hp} {l : Addr} {xs : List V} {o : HO} (e : A l = some (.lst xs)) : Kp A (L2.upd A l o) := fun p o n z => by
  rw [upd_ne (fun w => by subst w; rw [e] at z; cases z; exact n _ rfl)]
  exact z
inductive NoL : Tr → Prop
  | non : NoL .non
  | int {i : Int} : NoL (.int i)
  | str {z : Str} : NoL (.str z)
  | tup {ts : List Tr} : (∀ t ∈ ts, NoL t) → NoL (.tup ts)
theorem Kp.sqT {K : PySem.W.Frag} {A B : Hp} {p : Addr} {vs : List V} (k : Kp A B) (h : SqT K A p vs) : SqT K B p vs := by
  rcases h with (z | ⟨o, z⟩) | z
  · exact .inl (.inl (k _ _ nofun z))
  · exact .inl (.inr ⟨o, k _ _ nofun z⟩)
  · exact .inr z
mutual
theorem Is.kp {K : PySem.W.Frag} {A B : Hp} (k : Kp A B) : ∀ {v : V} {t : Tr}, Is K A v t → NoL t → Is K B v t
  | _, _, .non, _ => .non
  | _, _, .int, _ => .int
  | _, _, .str, _ => .str
  | _, _, .tup h g, n => .tup (k.sqT h) (IsL.kp k g (by cases n with | tup hn => exact hn))
  | _, _, .bl, n => nomatch n
  | _, _, .ty, n => nomatch n
  | _, _, .lst _ _, n => nomatch n
  | _, _, .dct _ _ _, n => nomatch n
theorem IsL.kp {K : PySem.W.Frag} {A B : Hp} (k : Kp A B) : ∀ {vs : List V} {ts : List Tr}, IsL K A vs ts → (∀ t ∈ ts, NoL t) → IsL K B vs ts
  | _, _, .nil, _ => .nil
  | _, _, .cons h g, n => .cons (Is.kp k h (n _ (.head _))) (IsL.kp k g fun t ht => n t (.tail _ ht))
end
theorem Cl.nol (c : Cl) : NoL c.tr := by
  cases c with
  | non => exact .non
  | num x =>
    refine .tup fun t ht => ?_
    rcases List.mem_cons.mp ht with z | z
    · rw [z]; exact .int
    · rw [List.mem_singleton.mp z]; exact .int
  | day d => exact .int
  | word z => exact .str
noncomputable def qn (k : Nat) : Str := "q" ++ ⟨#[97 + k]⟩
noncomputable def qcs (k : Nat) : List Nat := [113, 97 + k]
theorem qn_cs (k : Nat) : My.cs (qn k) = qcs k := by
  unfold qn
  rw [My.cs_app]
  rfl
theorem qn_word {k : Nat} (h : k ≤ 24) : wordS (qn k) = true := by
  refine wordS_of ?_ ?_ fun c hc => ?_
  · rw [len_cs, qn_cs]; exact Nat.le_of_ble_eq_true rfl
  · rw [len_cs, qn_cs]; exact Nat.le_of_ble_eq_true rfl
  · rw [qn_cs] at hc
    unfold qcs at hc
    simp only [List.mem_cons, List.not_mem_nil, or_false] at hc
    omega
theorem qn_noz {k : Nat} (h : k ≤ 24) : NoZ (qn k) := fun c hc => by
  rw [qn_cs] at hc
  unfold qcs at hc
  simp only [List.mem_cons, List.not_mem_nil, or_false] at hc
  omega
theorem let25 {k : Nat} (h : k ≤ 24) : atI ("abcdefghijklmnopqrstuvwxy" : Str).cps.toList (k : Int) = some (97 + k) := by
  refine atI_nat ?_
  have e : ("abcdefghijklmnopqrstuvwxy" : Str).cps.toList = (List.range 25).map (97 + ·) := by decide
  rw [e, List.getElem?_map, List.getElem?_range (by omega)]
  rfl
noncomputable def lft (k : Nat) (ws : List Str) : List Str := ws.filter fun z => decide (∀ j < k, z ≠ qn j)
theorem lft_lt {k : Nat} {ws : List Str} (h : qn k ∈ ws) : (lft (k + 1) ws).length < (lft k ws).length := by
  unfold lft
  have q : ∀ j < k, qn k ≠ qn j := fun j hj e => by
    have := congrArg My.cs e
    rw [qn_cs, qn_cs] at this
    unfold qcs at this
    injection this with _ this
    injection this with this _
    omega
  have e : ws.filter (fun z => decide (∀ j < k + 1, z ≠ qn j)) = (ws.filter fun z => decide (∀ j < k, z ≠ qn j)).filter fun z => decide (z ≠ qn k) := by
    rw [List.filter_filter]
    congr 1
    funext z
    rw [Bool.eq_iff_iff, Bool.and_eq_true, decide_eq_true_eq, decide_eq_true_eq, decide_eq_true_eq]
    refine ⟨fun g => ⟨g k (by omega), fun j hj => g j (by omega)⟩, fun g j hj => ?_⟩
    rcases Nat.lt_succ_iff_lt_or_eq.mp hj with y | y
    · exact g.2 j y
    · rw [y]; exact g.1
  rw [e]
  refine List.length_filter_lt_length_iff_exists.mpr ⟨qn k, ?_, by simp⟩
  rw [List.mem_filter]
  exact ⟨h, decide_eq_true q⟩
noncomputable def sp_name (K : PySem.W.Frag) : Sp := fun vs H Q _ => ∃ (r l p : Addr) (n : Nat) (ws : List Str), vs = [.ref r, .ref p] ∧ Bx H r l n ∧ n ≤ 60000 ∧ H p = some (.lst (ws.map V.str)) ∧ p ≠ r ∧ p ≠ l ∧ ws.length ≤ 20 ∧ ∀ (z : Str) (H' : Hp), B2 r l H H' → Bx H' r l (n + 10) → wordS z = true → NoZ z → z ∉ ws → Q (.str z) H'
theorem flat_s {ws : List Str} : (ws.map V.str).all flatV = true := by
  rw [List.all_map]; exact List.all_eq_true.mpr fun _ _ => rfl
theorem ok_l_name (T : Txt K mg t) : FnOk P w K mg base CX0 3 t.f_l_name t.d_l_name ["_law_box", "_law_names"] (sp_name K) := by
  have G_l_word := ok_l_word (P := P) (w := w) (base := base) T
  refine T.F_l_name.ok sc_l_name (fun vs H Q E h => ?_) (fun cdv A outer s H vs Q E hr h => ?_)
  · obtain ⟨r, l, p, n, ws, rfl, _⟩ := h
    rfl
  obtain ⟨r, l, p, n, ws, rfl, S, hn, hp, p1, p2, hw, q⟩ := h
  refine ⟨_, (pss_cons (ps_set (i := 2) sc_l_name.nd rfl (Or.inl rfl) (pe_call G_l_word (hr.mono (by decide)) rfl T.m_l_word T.k_l_word T.b_l_word .nil pass0 (pa_cons (pv 0) pa_nil)))
  (pss_cons (ps_set (i := 3) sc_l_name.nd rfl (Or.inl rfl) pe_int)
  (pss_cons (ps_while PassesOwn.never (pt_cmpR op_in_seq (pv 2) (pv 1) rfl) (pss_cons (ps_set (i := 2) sc_l_name.nd rfl (Or.inl rfl) (pe_op op_addS pe_str (pe_ix ix_str pe_str (pv 3) (fun _ _ => rfl))))
  (pss_one (ps_set (i := 3) sc_l_name.nd rfl (Or.inl rfl) (pe_op op_add (pv 3) pe_int)))))
  (pss_one (ps_ret (pv 2)))))), z_go (σ := [some _, some _, none, none]) rfl ?_⟩
  walk_at "run"
  refine a_bword S (by omega) (fun z H1 b1 S1 w1 y1 => ?_)
  have hp1 := b1 _ _ p1 p2 hp
  walk_at "run"
  refine z_while (fun m σ H2 => ∃ (k : Nat) (z : Str), σ = [some (.ref r), some (.ref p), some (.str z), some (.int (k : Nat))] ∧ H2 = H1 ∧ (wordS z = true ∧ NoZ z) ∧ (k = 0 ∨ z = qn (k - 1)) ∧ m = 30 - k ∧ (k - 1) + (lft (k - 1) ws).length ≤ 20) 30 ⟨0, z, rfl, rfl, ⟨w1, y1⟩, .inl rfl, rfl, ?_⟩ ?_
  · have : (lft 0 ws).length ≤ ws.length := List.length_filter_le _ _
    show 0 + (lft 0 ws).length ≤ 20
    omega
  · rintro m σ H2 ⟨k, z, rfl, rfl, wz, hk, rfl, hl⟩
    walk_at "run"
    refine z_in (SqL.of hp1) rfl flat_s ?_
    rw [if_neg (by decide), inV_str]
    walk_at "run"
    refine z_iteD (fun hi => ?_) (fun hi => ?_)
    · have l2 := let25 (k := k) (by omega)
      walk_at "run"
      refine z_ixS (by decide) l2 ?_
      walk_at "run"
      refine ⟨_, _, rfl, rfl, (show (1 : Nat) + 1 ≤ sizeLine by decide), ?_⟩
      walk_at "run"
      refine ⟨30 - (k + 1), by omega, k + 1, qn k, rfl, rfl, ⟨qn_word (by omega), qn_noz (by omega)⟩, .inr rfl, rfl, ?_⟩
      show k + (lft k ws).length ≤ 20
      rcases Nat.eq_zero_or_pos k with z0 | z0
      · subst z0; exact hl
      · rcases hk with y | y
        · omega
        · subst y
          have := lft_lt hi
          rw [show k - 1 + 1 = k by omega] at this
          omega
    · walk_at "run"
      exact q z H2 b1 S1 wz.1 wz.2 hi
theorem Bx.but {H H' : Hp} {r l p : Addr} {n : Nat} (h : Bx H r l n) (b : But p H H') (h1 : p ≠ r) (h2 : p ≠ l) : Bx H' r l n := by
  obtain ⟨cs, a, c, e1, e2, e3⟩ := h.ex
  exact ⟨cs, a, c, b _ _ (Ne.symm h1) e1, b _ _ (Ne.symm h2) e2, e3⟩
abbrev Col := Str × Str
noncomputable def colT (c : Col) : Tr := .tup [.str c.1, .str c.2]
structure Cok (cols : List Col) : Prop where
  nm : ∀ c ∈ cols, wordS c.1 = true
  kd : ∀ c ∈ cols, KdS c.2
  nz : ∀ c ∈ cols, NoZ c.1
  nd : (cols.map (·.1)).Nodup
theorem Cok.nil : Cok [] := ⟨fun _ h => absurd h List.not_mem_nil, fun _ h => absurd h List.not_mem_nil, fun _ h => absurd h List.not_mem_nil, List.nodup_nil⟩
theorem Cok.snoc {cols : List Col} {z kd : Str} (h : Cok cols) (hz : wordS z = true) (hy : NoZ z) (hk : KdS kd) (hn : z ∉ cols.map (·.1)) : Cok (cols ++ [(z, kd)]) := by
  refine ⟨fun c hc => ?_, fun c hc => ?_, fun c hc => ?_, ?_⟩
  · rcases List.mem_append.mp hc with y | y
    · exact h.nm c y
    · rw [List.mem_singleton.mp y]; exact hz
  · rcases List.mem_append.mp hc with y | y
    · exact h.kd c y
    · rw [List.mem_singleton.mp y]; exact hk
  · rcases List.mem_append.mp hc with y | y
    · exact h.nz c y
    · rw [List.mem_singleton.mp y]; exact hy
  · rw [List.map_append, List.nodup_append]
    refine ⟨h.nd, List.nodup_cons.mpr ⟨List.not_mem_nil, List.nodup_nil⟩, fun a ha b hb e => ?_⟩
    rw [List.mem_singleton.mp hb] at e
    rw [e] at ha
    exact hn ha
structure CA (K : PySem.W.Frag) (H : Hp) (r l p : Addr) (vs : List V) (cols : List Col) : Prop where
  nr : p ≠ r
  nl : p ≠ l
  at_ : H p = some (.lst vs)
  is : IsL K H vs (cols.map colT)
theorem col_nol (cols : List Col) : ∀ t ∈ cols.map colT, NoL t := fun t ht => by
  obtain ⟨c, _, rfl⟩ := List.mem_map.mp ht
  refine .tup fun t ht => ?_
  rcases List.mem_cons.mp ht with z | z
  · rw [z]; exact .str
  · rw [List.mem_singleton.mp z]; exact .str
theorem CA.b2 {K : PySem.W.Frag} {H H' : Hp} {r l p : Addr} {n : Nat} {vs : List V} {cols : List Col} (h : CA K H r l p vs cols) (S : Bx H r l n) (b : B2 r l H H') : CA K H' r l p vs cols := ⟨h.nr, h.nl, b _ _ h.nr h.nl h.at_, IsL.kp (Kp.b2 S b) h.is (col_nol cols)⟩
theorem CA.sm {K : PySem.W.Frag} {H H' : Hp} {r l p : Addr} {vs : List V} {cols : List Col} (h : CA K H r l p vs cols) (b : Same H H') : CA K H' r l p vs cols := ⟨h.nr, h.nl, b _ _ h.at_, h.is.same b⟩
noncomputable def sp_cols (K : PySem.W.Frag) : Sp := fun vs H Q _ => ∃ (r l : Addr) (n : Nat) (m : Int), vs = [.ref r, .int m] ∧ Bx H r l n ∧ n ≤ 50000 ∧ 0 ≤ m ∧ m ≤ 4 ∧ ∀ (p : Addr) (H' : Hp) (vs : List V) (cols : List Col), B2 r l H H' → Bx H' r l (n + 44) → CA K H' r l p vs cols → Cok cols → cols.length = m.toNat → Q (.ref p) H'
theorem ok_l_columns (T : Txt K mg t) : FnOk P w K mg base CX0 4 t.f_l_columns t.d_l_columns ["_law_box", "_law_many"] (sp_cols K) := by
  have G_l_draw := ok_l_draw (P := P) (w := w) (base := base) T
  have G_l_name := ok_l_name (P := P) (w := w) (base := base) T
  refine T.F_l_columns.ok sc_l_columns (fun vs H Q E h => ?_) (fun cdv A outer s H vs Q E hr h => ?_)
  · obtain ⟨r, l, n, m, rfl, _⟩ := h
    rfl
  obtain ⟨r, l, n, m, rfl, S, hn, m0, m1, q⟩ := h
  refine ⟨_, (pss_cons (ps_set (i := 2) sc_l_columns.nd rfl (Or.inl rfl) (pe_lst pa_nil))
  (pss_cons (ps_for PassesOwn.never rfl (pi_range1 rfl T.z_range (pa_cons (pv 1) pa_nil)) (pg_name (i := 3) sc_l_columns.nd rfl (Or.inl rfl)) (pss_cons (ps_set (i := 4) sc_l_columns.nd rfl (Or.inl rfl) (pe_call G_l_name (hr.mono (by decide)) rfl T.m_l_name T.k_l_name T.b_l_name .nil pass0 (pa_cons (pv 0) (pa_cons (pe_lcP (fr := []) rfl (compOkG2_of (osc := defScope s_l_columns) (N := ["_law_box", "_law_many", "_law_columns_here", "_law_k", "_law_name_here"]) rfl rfl (by decide +kernel) (by decide +kernel) (by decide)) (pi_list (pv 2)) (fun _ _ _ _ _ => (pv 0))) pa_nil))))
  (pss_one (ps_expr (pe_bm PySem.F.plainAttrs_list PySem.F.slot_list_append PySem.F.type_list_append mt_append (pv 2) (pa_cons (pe_tup (pa_cons (pv 4) (pa_cons (pe_ix ix_list (pe_lst (pa_cons pe_str (pa_cons pe_str (pa_cons pe_str (pa_cons pe_str pa_nil))))) (pe_call G_l_draw (hr.mono (by decide)) rfl T.m_l_draw T.k_l_draw T.b_l_draw .nil pass0 (pa_cons (pv 0) (pa_cons pe_int pa_nil))) (fun _ _ => rfl)) pa_nil))) pa_nil))))))
  (pss_one (ps_ret (pv 2))))), z_go (σ := [some _, some _, none, none, none]) rfl ?_⟩
  walk_at "run"
  refine z_mkl (Nat.le_of_ble_eq_true rfl) (fun p H1 hp s1 hl => ?_)
  obtain ⟨p1, p2⟩ := S.nr hp
  have S1 := S.keep s1
  walk_at "run"
  refine f_range (fun j σ HJ => ∃ (u v : Option V) (vs : List V) (cols : List Col), σ = [some (.ref r), some (.int m), some (.ref p), u, v] ∧ B2 r l H HJ ∧ Bx HJ r l (n + 11 * j) ∧ CA K HJ r l p vs cols ∧ Cok cols ∧ cols.length = j) ⟨none, none, [], [], rfl, B2.of s1, S1, ⟨p1, p2, hl, .nil⟩, .nil, rfl⟩ ?_ ?_
  · rintro j σ HJ hj ⟨u, v, vs, cols, rfl, bJ, SJ, cJ, oJ, lJ⟩
    have lv : vs.length = cols.length := by rw [cJ.is.length, List.length_map]
    walk_at "run"
    refine z_lcg ?_
    walk_at "run"
    refine ⟨p, rfl, ⟨vs, SqL.of cJ.at_⟩, ?_⟩
    refine lct_list (K := K) (pr := fun i => (.str (cols.getD i ("", "")).1, .str (cols.getD i ("", "")).2)) (f := fun i => .str (cols.getD i ("", "")).1) (SqL.of cJ.at_) (le_size (by omega)) (fun i x hx => ?_) (fun i H2 R hi s2 k => ?_) (fun acc H2 hacc s2 ha => ?_)
    · obtain ⟨t, ht, hi⟩ := cJ.is.get2 hx
      obtain ⟨c, hc, rfl⟩ := of_map_at ht
      cases hi with
      | tup hs g =>
        cases g with
        | cons g1 g =>
          cases g with
          | cons g2 g =>
            cases g
            cases g1
            cases g2
            refine ⟨_, rfl, ?_⟩
            rw [List.getD_eq_getElem?_getD, hc]
            exact hs
    · walk_at "run"
      exact k _ (Same.refl _)
    have en : (List.range vs.length).map (fun i => V.str (cols.getD i ("", "")).1) = (cols.map (·.1)).map V.str := by
      rw [lv]
      apply List.ext_getElem?
      intro i
      rw [List.getElem?_map, List.getElem?_map, List.getElem?_map]
      by_cases hi : i < cols.length
      · rw [List.getElem?_range hi, List.getElem?_eq_getElem hi]
        show some (V.str (cols.getD i ("", "")).1) = _
        rw [List.getD_eq_getElem?_getD, List.getElem?_eq_getElem hi]; rfl
      · rw [List.getElem?_eq_none (by rw [List.length_range]; omega), List.getElem?_eq_none (by omega)]; rfl
    rw [en] at ha
    obtain ⟨a1, a2⟩ := SJ.nr hacc
    walk_at "run"
    refine ⟨r, l, acc, n + 11 * j, cols.map (·.1), rfl, SJ.keep s2, by omega, ha, a1, a2, by rw [List.length_map]; omega, fun z H3 b3 S3 wz yz nz => ?_⟩
    have c3 := (cJ.sm s2).b2 (SJ.keep s2) b3
    have b13 := (bJ.sm s2).trans b3
    clear ha s2 b3
    walk_at "run"
    refine z_tyL (SqL.of c3.at_) ?_
    walk_at "run"
    refine z_mkl (Nat.le_of_ble_eq_true rfl) (fun p4 H4 hp4 s4 hl4 => ?_)
    have S4 := S3.keep s4
    obtain ⟨n3, n4⟩ := S3.nr hp4
    walk_at "run"
    rename_i d1 H5 d10 d11 b5 S5
    have at4 : ∃ kd : Str, atI [V.str "number", .str "word", .str "day", .str "number"] d1 = some (.str kd) ∧ KdS kd := by
      rcases (show d1 = 0 ∨ d1 = 1 ∨ d1 = 2 ∨ d1 = 3 by omega) with z | z | z | z <;> subst z
      · exact ⟨_, rfl, .inl rfl⟩
      · exact ⟨_, rfl, .inr (.inl rfl)⟩
      · exact ⟨_, rfl, .inr (.inr rfl)⟩
      · exact ⟨_, rfl, .inl rfl⟩
    obtain ⟨kd, ak, hk⟩ := at4
    refine z_ixL (SqL.of (b5 _ _ n3 n4 hl4)) ak ?_
    have c5 := (c3.sm s4).b2 S4 b5
    have b15 := (b13.sm s4).trans b5
    clear c3 b13 b5 hl4 s4 ak
    walk_at "run"
    rename_i p6 H6 hp6 s6 e6
    have c6 := c5.sm s6
    refine z_append c6.at_ (Nat.lt_of_le_of_lt (show vs.length ≤ 20 by omega) (by decide)) (fun H7 b7 l7 => ?_)
    have k7 := Kp.but c6.at_ b7
    refine ⟨_, _, vs ++ [.ref p6], cols ++ [(z, kd)], rfl, fun b o e1 e2 e => b7 b o (fun w => by rw [w, hp] at e; cases e) (b15.sm s6 b o e1 e2 e), ((S5.keep s6).but b7 p1 p2).mono (by omega), ⟨p1, p2, l7, ?_⟩, oJ.snoc wz yz hk nz, by rw [List.length_append, lJ]; rfl⟩
    rw [List.map_append]
    exact IsL.snoc (IsL.kp k7 c6.is (col_nol cols)) (.tup (SqT.of (k7 _ _ nofun e6)) (.cons .str (.cons .str .nil)))
  · rintro σ HJ ⟨u, v, vs, cols, rfl, bJ, SJ, cJ, oJ, lJ⟩
    walk_at "run"
    exact q p HJ vs cols bJ (SJ.mono (by omega)) cJ oJ lJ
theorem lct_listA {K : PySem.W.Frag} {a : Addr} {vs : List V} {st : St} {te : TE} {H1 : Hp} {Q : VK} (pr : Nat → V × V) (Pv : Addr → Nat → List V → Hp → Prop) (h0 : ∀ acc, H1 acc = none → Pv acc 0 [] (upd H1 acc (.lst [])))
    (hn : vs.length ≤ sizeLine) (hs : ∀ acc i xs H2, H1 acc = none → Pv acc i xs H2 → SqL K H2 a vs ∧ ∀ j v, vs[j]? = some v → ∃ p, v = .ref p ∧ SqT K H2 p [(pr j).1, (pr j).2])
    (step : ∀ i xs acc H2 (S : V → Hp → Prop), i < vs.length → H1 acc = none → Pv acc i xs H2 → H2 acc = some (.lst xs) → (∀ v H3, H3 acc = some (.lst xs) → Pv acc (i + 1) (xs ++ [v]) (upd H3 acc (.lst (xs ++ [v]))) → S v H3) → te (some (pr i).1 :: some (pr i).2 :: st) H2 S)
    (fin : ∀ acc xs H2, H1 acc = none → xs.length = vs.length → Pv acc vs.length xs H2 → H2 acc = some (.lst xs) → Q (.ref acc) H2) :
    LCW 2 st (Itl K a) (gTup K 2 (gCons (gName 0) (gCons (gName 1) gNil))) tYes te H1 Q := by
  intro acc hacc
  refine ⟨fun i m σb H2 => ∃ xs, m = vs.length - i ∧ i ≤ vs.length ∧ xs.length = i ∧ Pv acc i xs H2 ∧ H2 acc = some (.lst xs) ∧ ∃ u v, σb = u :: v :: st, ⟨vs.length, [], by simp, Nat.zero_le _, rfl, h0 acc hacc, upd_same, none, none, rfl⟩, ?_⟩
  rintro i m σb H2 ⟨xs, rfl, hi, hx, pv, ha, u, v, rfl⟩
  obtain ⟨q1, q2⟩ := hs acc i xs H2 hacc pv
  by_cases hlt : i < vs.length
  · have hv : vs[i]? = some vs[i] := List.getElem?_eq_getElem hlt
    refine .inr ⟨⟨vs, _, q1, hv⟩, fun x H3 y => ?_⟩
    have e := y.2 vs q1
    obtain ⟨p, rfl, hpt⟩ := q2 i x e
    rw [y.1]
    refine ⟨p, _, rfl, hpt, rfl, _, _, rfl, _, _, rfl, rfl, ?_⟩
    unfold tYes
    refine iteT ?_
    exact step i xs acc H2 _ hlt hacc pv ha fun w H6 e6 p6 => ⟨xs, vs.length - (i + 1), e6, by omega, by omega, xs ++ [w], rfl, hlt, by rw [List.length_append, hx]; rfl, p6, upd_same, _, _, rfl⟩
  · have e : i = vs.length := by omega
    subst e
    exact .inl ⟨⟨vs, q1, Nat.le_refl _⟩, fin acc xs H2 hacc hx pv ha⟩
noncomputable def Rok : List Col → List Cl → Prop
  | [], [] => True
  | c :: cols, x :: row => x.ok c.2 ∧ Rok cols row
  | _, _ => False
theorem Rok.snoc {cols : List Col} {row : List Cl} {c : Col} {x : Cl} (h : Rok cols row) (hx : x.ok c.2) : Rok (cols ++ [c]) (row ++ [x]) := by
  induction cols generalizing row with
  | nil =>
    cases row with
    | nil => exact ⟨hx, trivial⟩
    | cons _ _ => exact h.elim
  | cons d r ih =>
    cases row with
    | nil => exact h.elim
    | cons y s => exact ⟨h.1, ih h.2⟩
theorem Rok.len {cols : List Col} {row : List Cl} (h : Rok cols row) : cols.length = row.length := by
  induction cols generalizing row with
  | nil =>
    cases row with
    | nil => rfl
    | cons _ _ => exact h.elim
  | cons d r ih =>
    cases row with
    | nil => exact h.elim
    | cons y s => rw [List.length_cons, List.length_cons, ih h.2]
noncomputable def rowT (row : List Cl) : Tr := .tup (row.map Cl.tr)
theorem row_nol (row : List Cl) : NoL (rowT row) := .tup fun t ht => by
  obtain ⟨c, _, rfl⟩ := List.mem_map.mp ht
  exact c.nol
noncomputable def sp_row (K : PySem.W.Frag) : Sp := fun vs H Q _ => ∃ (r l p : Addr) (n : Nat) (us : List V) (cols : List Col), vs = [.ref r, .ref p] ∧ Bx H r l n ∧ n ≤ 40000 ∧ CA K H r l p us cols ∧ Cok cols ∧ cols.length ≤ 4 ∧ ∀ (v : V) (H' : Hp) (row : List Cl), B2 r l H H' → Bx H' r l (n + 44) → Is K H' v (rowT row) → Rok cols row → Q v H'
theorem CA.pair {K : PySem.W.Frag} {H : Hp} {r l p : Addr} {vs : List V} {cols : List Col} (h : CA K H r l p vs cols) {i : Nat} {x : V} (hx : vs[i]? = some x) : ∃ a, x = .ref a ∧ SqT K H a [.str (cols.getD i ("", "")).1, .str (cols.getD i ("", "")).2] := by
  obtain ⟨t, ht, hi⟩ := h.is.get2 hx
  obtain ⟨c, hc, rfl⟩ := of_map_at ht
  cases hi with
  | tup hs g =>
    cases g with
    | cons g1 g =>
      cases g with
      | cons g2 g =>
        cases g
        cases g1
        cases g2
        refine ⟨_, rfl, ?_⟩
        rw [List.getD_eq_getElem?_getD, hc]
        exact hs
theorem take_snoc {α : Type} {xs : List α} {i : Nat} {x : α} (h : xs[i]? = some x) : xs.take (i + 1) = xs.take i ++ [x] := by
  rw [List.take_add_one, h]; rfl
theorem ok_l_row (T : Txt K mg t) : FnOk P w K mg base CX0 5 t.f_l_row t.d_l_row ["_law_box", "_law_columns_here"] (sp_row K) := by
  have G_l_cell := ok_l_cell (P := P) (w := w) (base := base) T
  refine T.F_l_row.ok sc_l_row (fun vs H Q E h => ?_) (fun cdv A outer s H vs Q E hr h => ?_)
  · obtain ⟨r, l, p, n, us, cols, rfl, _⟩ := h
    rfl
  obtain ⟨r, l, p, n, us, cols, rfl, S, hn, cA, oC, lC, q⟩ := h
  have lv : us.length = cols.length := by rw [cA.is.length, List.length_map]
  refine ⟨_, (pss_one (ps_ret (pe_callTy call_tuple_of rfl T.z_tuple bt_tuple (pa_cons (pe_lcP (fr := [("_law_box", 0)]) rfl (compOkG2_of (osc := defScope s_l_row) (N := ["_law_box", "_law_columns_here"]) rfl rfl (by decide +kernel) (by decide +kernel) (by decide)) (pi_list (pv 1)) (fun _ _ _ _ _ => (pe_call G_l_cell (hr.mono (by decide)) rfl T.m_l_cell T.k_l_cell T.b_l_cell .nil pass0 (pa_cons (pv 2) (pa_cons (pv 1) pa_nil))))) pa_nil)))), z_go (σ := [some _, some _]) rfl ?_⟩
  walk_at "run"
  refine z_lcg ?_
  walk_at "run"
  refine ⟨p, rfl, ⟨us, SqL.of cA.at_⟩, ?_⟩
  refine lct_listA (K := K) (vs := us) (pr := fun i => (.str (cols.getD i ("", "")).1, .str (cols.getD i ("", "")).2)) (fun acc i xs HJ => ∃ row : List Cl, IsL K HJ xs (row.map Cl.tr) ∧ Rok (cols.take i) row ∧ B2 r l H HJ ∧ Bx HJ r l (n + 11 * i) ∧ CA K HJ r l p us cols) (fun acc hacc => ?_) (le_size (by omega)) (fun acc i xs HJ hacc ⟨row, h1, h2, h3, h4, h5⟩ => ⟨SqL.of h5.at_, fun j v hj => h5.pair hj⟩) ?_ ?_
  · obtain ⟨c1, c2⟩ := S.nr hacc
    exact ⟨[], .nil, trivial, B2.of (Same.new hacc _), S.upd c1 c2, cA.sm (Same.new hacc _)⟩
  · rintro i xs acc HJ R hi hacc ⟨row, h1, h2, h3, h4, h5⟩ hac k
    obtain ⟨c1, c2⟩ := S.nr hacc
    obtain ⟨c, hc⟩ : ∃ c, cols[i]? = some c := ⟨_, List.getElem?_eq_getElem (by omega)⟩
    have eg : cols.getD i ("", "") = c := by rw [List.getD_eq_getElem?_getD, hc]; rfl
    rw [eg]
    walk_at "run"
    refine a_bcell (oC.kd c (List.mem_of_getElem? hc)) h4 (by omega) (fun v HF x bF SF iF oF => ?_)
    have eF := bF _ _ c1 c2 hac
    have kF := Kp.b2 h4 bF
    have kU : Kp HF (upd HF acc (.lst (xs ++ [v]))) := Kp.upd eF
    have nr : ∀ t ∈ row.map Cl.tr, NoL t := fun t ht => by
      obtain ⟨c, _, rfl⟩ := List.mem_map.mp ht
      exact c.nol
    refine k v HF eF ⟨row ++ [x], ?_, ?_, fun b o n1 n2 e => ?_, (SF.upd c1 c2).mono (by omega), ?_⟩
    · rw [List.map_append]
      exact IsL.snoc (IsL.kp (kF.trans kU) h1 nr) (Is.kp kU iF x.nol)
    · rw [take_snoc hc]
      exact h2.snoc oF
    · have hb := bF b o n1 n2 (h3 b o n1 n2 e)
      rw [upd_ne (fun z => by rw [z, hacc] at e; cases e)]
      exact hb
    · have hF := h5.b2 h4 bF
      have np : p ≠ acc := fun z => by rw [← z, cA.at_] at hacc; cases hacc
      exact ⟨h5.nr, h5.nl, by rw [upd_ne np]; exact hF.at_, IsL.kp kU hF.is (col_nol cols)⟩
  rintro acc xs H2 hacc hxl ⟨row, h1, h2, h3, h4, h5⟩ hac
  walk_at "run"
  refine z_tupL (SqL.of hac) (fun a H3 ha s3 e3 => ?_)
  refine q (.ref a) H3 row (h3.sm s3) ((h4.keep s3).mono (by omega)) (.tup (SqT.of e3) (h1.same s3)) ?_
  rw [List.take_of_length_le (by omega)] at h2
  exact h2
noncomputable def sp_near (K : PySem.W.Frag) : Sp := fun vs H Q _ => ∃ (r l : Addr) (n : Nat) (kd : Str) (v : V) (c : Cl), vs = [.ref r, .str kd, v] ∧ KdS kd ∧ Bx H r l n ∧ n ≤ 70000 ∧ Is K H v c.tr ∧ c.ok kd ∧ c ≠ .non ∧ ∀ (v : V) (H' : Hp) (c : Cl), B2 r l H H' → Bx H' r l (n + 11) → Is K H' v c.tr → c.ok kd → c ≠ .non → Q v H'
theorem Cl.wd {c : Cl} {kd : Str} (h : c.ok kd) (hn : c ≠ .non) (hk : kd = "word") : ∃ z, c = .word z ∧ wordS z = true := by
  cases c with
  | non => exact absurd rfl hn
  | num x => exact absurd (hk.symm.trans h.1) (by decide)
  | day d => exact absurd (hk.symm.trans h.1) (by decide)
  | word z => exact ⟨z, rfl, h.2⟩
theorem Cl.dy {c : Cl} {kd : Str} (h : c.ok kd) (hn : c ≠ .non) (hk : kd = "day") : ∃ d, c = .day d ∧ 364877 ≤ d ∧ d ≤ 3286816 := by
  cases c with
  | non => exact absurd rfl hn
  | num x => exact absurd (hk.symm.trans h.1) (by decide)
  | word d => exact absurd (hk.symm.trans h.1) (by decide)
  | day z => exact ⟨z, rfl, h.2⟩
theorem Cl.nm {c : Cl} {kd : Str} (h : c.ok kd) (hn : c ≠ .non) (hk : kd = "number") : ∃ x y, c = .num (x, y) ∧ Gd x y := by
  cases c with
  | non => exact absurd rfl hn
  | day x => exact absurd (hk.symm.trans h.1) (by decide)
  | word d => exact absurd (hk.symm.trans h.1) (by decide)
  | num z => exact ⟨z.1, z.2, rfl, h.2⟩
theorem num_at {K : PySem.W.Frag} {H : Hp} {v : V} {x y : Int} (h : Is K H v (Cl.num (x, y)).tr) : ∃ p, v = .ref p ∧ SqT K H p [.int x, .int y] := by
  cases h with
  | tup hs g =>
    cases g with
    | cons g1 g =>
      cases g with
      | cons g2 g =>
        cases g
        cases g1
        cases g2
        exact ⟨_, rfl, hs⟩
theorem word_cut {z : Str} (h : wordS z = true) {d : Int} (h0 : 0 ≤ d) : wordS (PySem.Txt.slice z none (some (1 + d))) = true := by
  obtain ⟨h1, h2, h3⟩ := wordS_is h
  have e : (1 + d : Int) = ((d.toNat + 1 : Nat) : Int) := by omega
  have c := My.sl_0s z (d.toNat + 1)
  rw [← e] at c
  rw [len_cs] at h1 h2
  refine wordS_of ?_ ?_ fun x hx => ?_
  · rw [len_cs, c, List.length_take]; omega
  · rw [len_cs, c, List.length_take]; omega
  · rw [c] at hx
    exact h3 x (List.mem_of_mem_take hx)
theorem ok_l_near (T : Txt K mg t) : FnOk P w K mg base CX0 4 t.f_l_near t.d_l_near ["_law_box", "_law_kind", "_law_cell_here"] (sp_near K) := by
  have G_l_draw := ok_l_draw (P := P) (w := w) (base := base) T
  have G_l_low := ok_l_low (P := P) (w := w) (base := base) T
  have G_l_there := ok_l_there (P := P) (w := w) (base := base) T
  refine T.F_l_near.ok sc_l_near (fun vs H Q E h => ?_) (fun cdv A outer s H vs Q E hr h => ?_)
  · obtain ⟨r, l, n, kd, v, c, rfl, _⟩ := h
    rfl
  obtain ⟨r, l, n, kd, v, c, rfl, hk, S, hn, hv, hc, hne, q⟩ := h
  refine ⟨_, (pss_cons (ps_set (i := 3) sc_l_near.nd rfl (Or.inl rfl) (pe_call G_l_draw (hr.mono (by decide)) rfl T.m_l_draw T.k_l_draw T.b_l_draw .nil pass0 (pa_cons (pv 0) (pa_cons pe_int pa_nil))))
  (pss_cons (ps_if (PW.pt (pw_or (pt_cmpR op_eq (pv 3) pe_int (nomark _)) (pw_or1 (PW.pt (pw_and (pt_cmpR op_eq (pv 1) pe_str (nomark _)) (pw_and1 (pt_cmpR op_eq (pv 3) pe_int (nomark _)))))))) (pss_one (ps_ret (pv 2))) pss_nil)
  (pss_cons (ps_if (pt_cmpR op_eq (pv 3) pe_int (nomark _)) (pss_one (ps_ret (pe_call G_l_there (hr.mono (by decide)) rfl T.m_l_there T.k_l_there T.b_l_there .nil pass0 (pa_cons (pv 0) (pa_cons (pv 1) pa_nil))))) pss_nil)
  (pss_cons (ps_if (pt_cmpR op_eq (pv 1) pe_str (nomark _)) (pss_one (ps_ret (pe_slice sl_str (pv 2) po_none (po_some (pe_op op_add pe_int (pe_call G_l_draw (hr.mono (by decide)) rfl T.m_l_draw T.k_l_draw T.b_l_draw .nil pass0 (pa_cons (pv 0) (pa_cons pe_int pa_nil)))))))) pss_nil)
  (pss_cons (ps_set (i := 4) sc_l_near.nd rfl (Or.inl rfl) (pe_op op_sub (pe_call G_l_draw (hr.mono (by decide)) rfl T.m_l_draw T.k_l_draw T.b_l_draw .nil pass0 (pa_cons (pv 0) (pa_cons pe_int pa_nil))) pe_int))
  (pss_cons (ps_if (pt_cmpR op_eq (pv 1) pe_str (nomark _)) (pss_one (ps_ret (pe_callB (call_min2 rfl) rfl T.z_min bt_min (pa_cons (pe_callB (call_max2 rfl) rfl T.z_max bt_max (pa_cons (pe_op op_add (pv 2) (pv 4)) (pa_cons pe_int pa_nil))) (pa_cons pe_int pa_nil))))) pss_nil)
  (pss_one (ps_ret (pe_call G_l_low (hr.mono (by decide)) rfl T.m_l_low T.k_l_low T.b_l_low .nil pass0 (pa_cons (pe_callB (call_min2 rfl) rfl T.z_min bt_min (pa_cons (pe_callB (call_max2 rfl) rfl T.z_max bt_max (pa_cons (pe_op op_add (pe_ix ix_tup (pv 2) pe_int (fun _ _ => rfl)) (pv 4)) (pa_cons (pe_op op_sub pe_int (pe_op op_pow pe_int pe_int)) pa_nil))) (pa_cons (pe_op op_sub (pe_op op_pow pe_int pe_int) pe_int) pa_nil))) (pa_cons (pe_ix ix_tup (pv 2) pe_int (fun _ _ => rfl)) pa_nil))))))))))), z_go (σ := [some _, some _, some _, none, none]) rfl ?_⟩
  walk_at "run"
  rename_i d H1 d0 d1 b1 S1
  have i1 := Is.kp (Kp.b2 S b1) hv c.nol
  have keep : Q v H1 := q v H1 c b1 (S1.mono (by omega)) i1 hc hne
  have new : sp_there K [.ref r, .str kd] H1 Q E0 := a_there hk S1 (by omega) (fun v' H2 c' b2 S2 i2 o2 n2 => q v' H2 c' (b1.trans b2) (S2.mono (by omega)) i2 o2 n2)
  refine z_iteD (fun h0 => ?_) (fun h0 => ?_)
  · walk_at "run"
    exact keep
  walk_at "run"
  refine z_iteD (fun h1 => ?_) (fun h1 => ?_)
  · walk_at "run"
    refine z_iteD (fun h2 => ?_) (fun h2 => ?_)
    · walk_at "run"
      exact keep
    walk_at "run"
    refine z_iteD (fun h3 => ?_) (fun h3 => ?_)
    · walk_at "run"
      exact new
    walk_at "run"
    refine z_iteD (fun _ => ?_) (fun h => absurd h1 h)
    obtain ⟨z, rfl, wz⟩ := Cl.wd hc hne h1
    cases hv
    walk_at "run"
    rename_i d2 H2 d20 d21 b2 S2
    have := (wordS_is wz).2.1
    refine z_slS (le_size (by omega)) ?_
    exact q _ H2 (.word _) (b1.trans b2) (S2.mono (by omega)) .str ⟨h1, word_cut wz d20⟩ nofun
  walk_at "run"
  refine z_iteD (fun h3 => ?_) (fun h3 => ?_)
  · walk_at "run"
    exact new
  walk_at "run"
  refine z_iteD (fun h => absurd h h1) (fun _ => ?_)
  walk_at "run"
  rename_i d2 H2 d20 d21 b2 S2
  have b12 := b1.trans b2
  have i2 := Is.kp (Kp.b2 S1 b2) i1 c.nol
  refine z_iteD (fun h4 => ?_) (fun h4 => ?_)
  · obtain ⟨z, rfl, z0, z1⟩ := Cl.dy hc hne h4
    cases hv
    walk_at "run"
    have u0 : 364877 ≤ (if 3286816 < (if 364877 > z + (d2 - 1) then 364877 else z + (d2 - 1)) then 3286816 else (if 364877 > z + (d2 - 1) then 364877 else z + (d2 - 1))) ∧ (if 3286816 < (if 364877 > z + (d2 - 1) then 364877 else z + (d2 - 1)) then 3286816 else (if 364877 > z + (d2 - 1) then 364877 else z + (d2 - 1))) ≤ 3286816 := by
      constructor <;> (repeat (split <;> try omega))
    exact q _ H2 (.day _) b12 (S2.mono (by omega)) .int ⟨h4, u0⟩ nofun
  have hk3 : kd = "number" := by
    rcases hk with h | h | h
    · exact h
    · exact absurd h h1
    · exact absurd h h4
  obtain ⟨x, y, rfl, g⟩ := Cl.nm hc hne hk3
  obtain ⟨p, rfl, hs⟩ := num_at i2
  walk_at "run"
  rw [p18]
  have u0 : -1000000000000000000 < (if (1000000000000000000 : Int) - 1 < (if 1 - 1000000000000000000 > x + (d2 - 1) then 1 - 1000000000000000000 else x + (d2 - 1)) then 1000000000000000000 - 1 else (if 1 - 1000000000000000000 > x + (d2 - 1) then 1 - 1000000000000000000 else x + (d2 - 1))) ∧ (if (1000000000000000000 : Int) - 1 < (if 1 - 1000000000000000000 > x + (d2 - 1) then 1 - 1000000000000000000 else x + (d2 - 1)) then 1000000000000000000 - 1 else (if 1 - 1000000000000000000 > x + (d2 - 1) then 1 - 1000000000000000000 else x + (d2 - 1))) < 1000000000000000000 := by
    constructor <;> (repeat (split <;> try omega))
  generalize (if (1000000000000000000 : Int) - 1 < (if 1 - 1000000000000000000 > x + (d2 - 1) then 1 - 1000000000000000000 else x + (d2 - 1)) then 1000000000000000000 - 1 else (if 1 - 1000000000000000000 > x + (d2 - 1) then 1 - 1000000000000000000 else x + (d2 - 1))) = tp at *
  obtain ⟨u0, u1⟩ := u0
  have := g.pos
  have := g.le
  refine a_low (n1 := 64) (n2 := 64) g.pos ((bd_60' (by omega) (by omega)).mono (by decide)) ((bd_60 (by omega) (by omega)).mono (by decide)) (by decide) (fun p H7 x' y' s7 P7 g7 e7 => ?_)
  exact q _ H7 (.num (x', y')) (b12.sm s7) ((S2.keep s7).mono (by omega)) (.tup P7.s (.cons .int (.cons .int .nil))) ⟨hk3, nm_of g.pos g.le u0 u1 P7.pos g7 e7⟩ nofun
inductive Te where
  | ther (n : Str) | same (n : Str) (c : Cl) | und (n : Str) (c : Cl) | nt (a : Te) | bth (a b : Te) | one (a b : Te)
noncomputable def Te.tr : Te → Tr
  | .ther n => .tup [.str "there", .str n]
  | .same n c => .tup [.str "same", .str n, c.tr]
  | .und n c => .tup [.str "under", .str n, c.tr]
  | .nt a => .tup [.str "not", a.tr]
  | .bth a b => .tup [.str "both", a.tr, b.tr]
  | .one a b => .tup [.str "one", a.tr, b.tr]
noncomputable def Te.ok (cols : List Col) : Te → Prop
  | .ther n => ∃ kd, (n, kd) ∈ cols
  | .same n c => ∃ kd, (n, kd) ∈ cols ∧ c.ok kd ∧ c ≠ .non
  | .und n c => ∃ kd, (n, kd) ∈ cols ∧ c.ok kd ∧ c ≠ .non
  | .nt a => a.ok cols
  | .bth a b => a.ok cols ∧ b.ok cols
  | .one a b => a.ok cols ∧ b.ok cols
noncomputable def Te.size : Te → Nat
  | .ther _ => 1
  | .same _ _ => 1
  | .und _ _ => 1
  | .nt a => a.size + 1
  | .bth a b => a.size + b.size + 1
  | .one a b => a.size + b.size + 1
theorem nol2 {a b : Tr} (h1 : NoL a) (h2 : NoL b) : NoL (.tup [a, b]) := .tup fun t ht => by
  rcases List.mem_cons.mp ht with z | z
  · rw [z]; exact h1
  · rw [List.mem_singleton.mp z]; exact h2
theorem nol3 {a b c : Tr} (h1 : NoL a) (h2 : NoL b) (h3 : NoL c) : NoL (.tup [a, b, c]) := .tup fun t ht => by
  rcases List.mem_cons.mp ht with z | z
  · rw [z]; exact h1
  rcases List.mem_cons.mp z with z | z
  · rw [z]; exact h2
  · rw [List.mem_singleton.mp z]; exact h3
theorem Te.nol : ∀ t : Te, NoL t.tr
  | .ther _ => nol2 .str .str
  | .same _ c => nol3 .str .str c.nol
  | .und _ c => nol3 .str .str c.nol
  | .nt a => nol2 .str a.nol
  | .bth a b => nol3 .str a.nol b.nol
  | .one a b => nol3 .str a.nol b.nol
noncomputable def TstQ (K : PySem.W.Frag) (r l : Addr) (n : Nat) (H : Hp) (cols : List Col) (m : Nat) (Q : VK) : Prop := ∀ (v : V) (H' : Hp) (t : Te), B2 r l H H' → Bx H' r l n → Is K H' v t.tr → t.ok cols → t.size ≤ m → Q v H'
noncomputable def sp_plain (K : PySem.W.Frag) : Sp := fun vs H Q _ => ∃ (r l p : Addr) (n : Nat) (us : List V) (cols : List Col) (v : V) (row : List Cl), vs = [.ref r, .ref p, v] ∧ Bx H r l n ∧ n ≤ 30000 ∧ CA K H r l p us cols ∧ Cok cols ∧ 1 ≤ cols.length ∧ cols.length ≤ 4 ∧ Is K H v (rowT row) ∧ Rok cols row ∧ TstQ K r l (n + 14) H cols 1 Q
theorem Rok.at {cols : List Col} {row : List Cl} (h : Rok cols row) {i : Nat} {c : Col} (hc : cols[i]? = some c) : ∃ x, row[i]? = some x ∧ x.ok c.2 := by
  induction cols generalizing row i with
  | nil => cases hc
  | cons d r ih =>
    cases row with
    | nil => exact h.elim
    | cons y s =>
      cases i with
      | zero => cases hc; exact ⟨y, rfl, h.1⟩
      | succ i => exact ih h.2 hc
theorem is_non {K : PySem.W.Frag} {H : Hp} {v : V} {c : Cl} (h : Is K H v c.tr) : v = .non ↔ c = .non := by
  cases c with
  | non => cases h; exact ⟨fun _ => rfl, fun _ => rfl⟩
  | num x => cases h with | tup _ _ => exact ⟨nofun, nofun⟩
  | day d => cases h; exact ⟨nofun, nofun⟩
  | word z => cases h; exact ⟨nofun, nofun⟩
theorem ok_l_plain (T : Txt K mg t) : FnOk P w K mg base CX0 5 t.f_l_plain t.d_l_plain ["_law_box", "_law_columns_here", "_law_row_here"] (sp_plain K) := by
  have G_l_draw := ok_l_draw (P := P) (w := w) (base := base) T
  have G_l_near := ok_l_near (P := P) (w := w) (base := base) T
  have G_l_there := ok_l_there (P := P) (w := w) (base := base) T
  refine T.F_l_plain.ok sc_l_plain (fun vs H Q E h => ?_) (fun cdv A outer s H vs Q E hr h => ?_)
  · obtain ⟨r, l, p, n, us, cols, v, row, rfl, _⟩ := h
    rfl
  obtain ⟨r, l, p, n, us, cols, v, row, rfl, S, hn, cA, oC, l1, l4, hv, hR, q⟩ := h
  have lv : us.length = cols.length := by rw [cA.is.length, List.length_map]
  refine ⟨_, (pss_cons (ps_set (i := 3) sc_l_plain.nd rfl (Or.inl rfl) (pe_call G_l_draw (hr.mono (by decide)) rfl T.m_l_draw T.k_l_draw T.b_l_draw .nil pass0 (pa_cons (pv 0) (pa_cons (pe_callB call_len_seq rfl T.z_len PySem.boot_len (pa_cons (pv 1) pa_nil)) pa_nil))))
  (pss_cons (ps_asg (pe_ix ix_list (pv 1) (pv 3) (fun _ _ => rfl)) (pg_tup rfl (pgs_cons (pg_name (i := 6) sc_l_plain.nd rfl (Or.inl rfl)) (pgs_cons (pg_name (i := 7) sc_l_plain.nd rfl (Or.inl rfl)) pgs_nil))))
  (pss_cons (ps_set (i := 4) sc_l_plain.nd rfl (Or.inl rfl) (pe_call G_l_draw (hr.mono (by decide)) rfl T.m_l_draw T.k_l_draw T.b_l_draw .nil pass0 (pa_cons (pv 0) (pa_cons pe_int pa_nil))))
  (pss_cons (ps_if (pt_cmpR op_eq (pv 4) pe_int (nomark _)) (pss_one (ps_ret (pe_tup (pa_cons pe_str (pa_cons (pv 6) pa_nil))))) pss_nil)
  (pss_cons (ps_set (i := 5) sc_l_plain.nd rfl (Or.inl rfl) (pe_ix ix_tup (pv 2) (pv 3) (fun _ _ => rfl)))
  (pss_cons (ps_if (pt_cmpR op_isN' (pv 5) pe_non (nomark _)) (pss_one (ps_set (i := 5) sc_l_plain.nd rfl (Or.inl rfl) (pe_call G_l_there (hr.mono (by decide)) rfl T.m_l_there T.k_l_there T.b_l_there .nil pass0 (pa_cons (pv 0) (pa_cons (pv 7) pa_nil))))) (pss_one (ps_set (i := 5) sc_l_plain.nd rfl (Or.inl rfl) (pe_call G_l_near (hr.mono (by decide)) rfl T.m_l_near T.k_l_near T.b_l_near .nil pass0 (pa_cons (pv 0) (pa_cons (pv 7) (pa_cons (pv 5) pa_nil)))))))
  (pss_one (ps_ret (pe_tup (pa_cons (pe_ix ix_list (pe_lst (pa_cons pe_str (pa_cons pe_str pa_nil))) (pe_op op_sub (pv 4) pe_int) (fun _ _ => rfl)) (pa_cons (pv 6) (pa_cons (pv 5) pa_nil)))))))))))), z_go (σ := [some _, some _, some _, none, none, none, none, none]) rfl ?_⟩
  walk_at "run"
  refine ⟨p, us, rfl, .inl (SqL.of cA.at_), ?_⟩
  walk_at "run"
  rename_i d H1 d0 d1 b1 S1
  have ci := cA.b2 S b1
  obtain ⟨i, rfl⟩ := Int.eq_ofNat_of_zero_le d0
  obtain ⟨c, hc⟩ : ∃ c, cols[i]? = some c := ⟨_, List.getElem?_eq_getElem (by omega)⟩
  obtain ⟨u, hu⟩ : ∃ u, us[i]? = some u := ⟨_, List.getElem?_eq_getElem (by omega)⟩
  have eg : cols.getD i ("", "") = c := by rw [List.getD_eq_getElem?_getD, hc]; rfl
  obtain ⟨a, rfl, ha⟩ := ci.pair hu
  rw [eg] at ha
  obtain ⟨x, hx, ox⟩ := hR.at hc
  have hm := List.mem_of_getElem? hc
  walk_at "run"
  refine z_ixL (SqL.of ci.at_) (atI_nat hu) ?_
  walk_at "run"
  rename_i d2 H2 d20 d21 b2 S2
  have b12 := b1.trans b2
  have hv2 := Is.kp (Kp.b2 S1 b2) (Is.kp (Kp.b2 S b1) hv (row_nol row)) (row_nol row)
  refine z_iteD (fun h0 => ?_) (fun h0 => ?_)
  · walk_at "run"
    rename_i p3 H3 hp3 s3 e3
    exact q (.ref p3) H3 (.ther c.1) (b12.sm s3) ((S2.keep s3).mono (by omega)) (.tup (SqT.of e3) (.cons .str (.cons .str .nil))) ⟨c.2, hm⟩ (Nat.le_refl _)
  cases hv2 with
  | tup hs g =>
    rename_i pv vs
    obtain ⟨y, hy, iy⟩ := g.get (map_at hx)
    walk_at "run"
    refine z_ixT hs (atI_nat hy) ?_
    walk_at "runI"
    refine z_cut (fun σ' H' => ∃ (v : V) (c' : Cl), σ' = [some (.ref r), some (.ref p), some (.ref pv), some (.int (i : Nat)), some (.int d2), some v, some (.str c.1), some (.str c.2)] ∧ B2 r l H H' ∧ Bx H' r l (n + 13) ∧ Is K H' v c'.tr ∧ c'.ok c.2 ∧ c' ≠ .non) (fun U hU => ?_) ?_
    · walk_at "run"
      refine z_isNv ?_
      walk_at "run"
      refine z_iteD (fun h1 => ?_) (fun h1 => ?_)
      · walk_at "run"
        refine a_there (oC.kd c hm) S2 (by omega) (fun v3 H3 c3 b3 S3 i3 o3 n3 => ?_)
        walk_at "run"
        exact hU _ _ ⟨v3, c3, rfl, b12.trans b3, S3.mono (by omega), i3, o3, n3⟩
      · walk_at "run"
        refine ⟨r, l, n + 2, c.2, y, x, rfl, oC.kd c hm, S2, by omega, iy, ox, fun e => h1 ((is_non iy).mpr e), fun v3 H3 c3 b3 S3 i3 o3 n3 => ?_⟩
        walk_at "run"
        exact hU _ _ ⟨v3, c3, rfl, b12.trans b3, S3.mono (by omega), i3, o3, n3⟩
    rintro σ H3 ⟨v3, c3, rfl, b3, S3, i3, o3, n3⟩
    walk_at "run"
    refine z_mkl (Nat.le_of_ble_eq_true rfl) (fun p4 H4 hp4 s4 hl4 => ?_)
    walk_at "run"
    have at2s : ∃ w : Str, atI [V.str "same", .str "under"] (d2 - 1) = some (.str w) ∧ (w = "same" ∨ w = "under") := by
      rcases (show d2 = 1 ∨ d2 = 2 by omega) with z | z <;> subst z
      · exact ⟨_, rfl, .inl rfl⟩
      · exact ⟨_, rfl, .inr rfl⟩
    obtain ⟨w, aw, hw⟩ := at2s
    refine z_ixL (SqL.of hl4) aw ?_
    walk_at "run"
    rename_i p5 H5 hp5 s5 e5
    have it : Is K H5 (.ref p5) (.tup [.str w, .str c.1, c3.tr]) := .tup (SqT.of e5) (.cons .str (.cons .str (.cons (i3.same (s4.trans s5)) .nil)))
    have bb := (b3.sm s4).sm s5
    have SS := ((S3.keep s4).keep s5).mono (show n + 13 ≤ n + 14 by omega)
    rcases hw with hw | hw <;> subst hw
    · exact q (.ref p5) H5 (.same c.1 c3) bb SS it ⟨c.2, hm, o3, n3⟩ (Nat.le_refl _)
    · exact q (.ref p5) H5 (.und c.1 c3) bb SS it ⟨c.2, hm, o3, n3⟩ (Nat.le_refl _)
local macro_rules | `(tactic| walk_at "tg") => `(tactic| repeat (first | exact Gt.here | apply Gt.next))
local macro_rules | `(tactic| walk_at "ts") => `(tactic| repeat (first | exact Sto.here | apply Sto.next))
local macro_rules | `(tactic| walk_at "rk") => `(tactic| first | exact Rk.fz | ((with_reducible apply Rk.own); (focus ((walk_at "tg"); done))) | ((with_reducible apply Rk.sfz); (focus ((walk_at "tg"); done))) | ((with_reducible apply Rk.vw); (focus ((walk_at "tg"); done))))
local macro_rules | `(tactic| walk_at "tvar") => `(tactic| first | ((with_reducible apply e_var); (focus ((walk_at "tg"); done))) | ((with_reducible apply e_varO); (focus ((walk_at "tg"); done))) | ((with_reducible apply e_varV); (focus ((walk_at "tg"); done))) | ((with_reducible apply e_varW); (focus ((walk_at "tg"); done))))
local macro_rules | `(tactic| walk_at "t1I") => `(tactic| first | walk_at "tvar" | with_reducible (first | refine p_fz ?_ | refine p_nw ?_ | refine p_sl ?_ | refine as_fz ?_ | refine as_nw ?_ | refine aa_fz ?_ | refine aa_nw ?_ | refine aa_wd ?_ | refine e_cI ?_ | refine e_cB ?_ | refine e_cN ?_ | refine e_cS ?_ | refine e_cT ?_ | refine e_cb1 ?_ | refine e_cb2 ?_ | refine e_un ?_ | refine e_andV ?_ | refine e_orV ?_ | refine e_notV ?_ | refine e_if ?_ | refine e_chain ?_ | refine t_test ?_ | refine t_B ?_ | refine t_ebl ?_ | refine t_and ?_ | refine t_or ?_ | refine t_not ?_ | refine t_eint ?_ | refine t_lst ?_ | refine t_tup ?_ | refine a_nil ?_ | refine a_cons ?_ | refine a_ints ?_ | refine w_nil ?_ | refine w_cons ?_ | refine e_tup ?_ | refine e_lst ?_ | refine e_sl ?_ | refine o_no ?_ | refine o_part ?_ | refine s_seq ?_ | refine s_next ?_ | refine s_drop ?_ | refine s_ret ?_ | refine s_asg ?_ | refine s_par ?_ | refine s_for ?_ | refine s_setlc ?_ | refine t_yes ?_ | refine i_rng1 ?_ | refine i_rng2 ?_ | refine iteT ?_ | refine iteF ?_ | refine z_iteNb ?_ | refine gs_nil ?_ | refine gs_cons ?_ | refine rt_fz ?_) | ((with_reducible apply as_own); (focus ((walk_at "tg"); done)); (focus ((walk_at "ts"); done))) | ((with_reducible apply as_sfz); (focus ((walk_at "tg"); done))) | ((with_reducible apply aa_own); (focus ((walk_at "tg"); done)); (focus ((walk_at "ts"); done))) | ((with_reducible apply aa_sfz); (focus ((walk_at "tg"); done))) | ((with_reducible apply g_fz); (focus ((walk_at "ts"); done))) | ((with_reducible apply g_nw); (focus ((walk_at "ts"); done))) | ((with_reducible apply g_sl); (focus ((walk_at "tg"); done)); (focus ((walk_at "ts"); done)); (focus ((walk_at "ts"); done))) | ((with_reducible apply sto2); (focus ((walk_at "ts"); done))) | ((with_reducible apply par2); (focus ((walk_at "ts"); done)); (focus ((walk_at "ts"); done))) | ((with_reducible apply t_len); (focus (exact Nat.le_of_ble_eq_true rfl))) | ((with_reducible apply i_list); (focus rfl)) | ((with_reducible apply i_tup); (focus rfl)) | ((with_reducible apply i_enum); (focus rfl)) | ((with_reducible apply e_bm); (focus rfl)) | ((with_reducible apply e_bm0); (focus rfl)) | ((with_reducible apply g_tup); (focus rfl); (focus rfl)) | ((with_reducible apply e_isiTL); (focus rfl)))
local macro_rules | `(tactic| walk_at "t1") => `(tactic| first | walk_at "t1I" | (with_reducible refine s_ifs ?_))
local macro_rules | `(tactic| walk_at "t2") => `(tactic| first | ((with_reducible apply e_repLit); (focus decide); (focus decide)) | (with_reducible refine e_op ?_) | ((with_reducible apply ro_I); (focus (walk_at "cd"))) | ((with_reducible apply ro_IB); (focus (walk_at "cd"))) | with_reducible (first | refine ro_I0 ?_ | refine ro_I0B ?_ | refine ru_U ?_ | refine ro_EqI ?_ | refine ro_NeI ?_ | refine ro_EqS ?_ | refine ro_NeS ?_ | refine ro_EqB ?_ | refine ro_NeB ?_ | refine ro_isB ?_ | refine ro_notB ?_ | refine ru_abs ?_ | refine ru_toI ?_ | refine ru_toB ?_ | refine ro_max2 ?_ | refine ro_min2 ?_ | refine ru_lenK ?_) | ((with_reducible apply ro_isNT); (focus rfl)) | ((with_reducible apply ro_isNF); (focus rfl)) | ((with_reducible apply ro_notNT); (focus rfl)) | ((with_reducible apply ro_notNF); (focus rfl)) | ((with_reducible apply ro_ixL); (focus rfl); (focus (walk_at "rk")); (focus rfl)) | ((with_reducible apply ro_ixT); (focus rfl); (focus (walk_at "rk")); (focus rfl)) | ((with_reducible apply ru_len); (focus rfl); (focus (walk_at "rk"))) | ((with_reducible apply ru_lenT); (focus rfl); (focus (walk_at "rk"))) | ((with_reducible apply ro_isiT); (focus rfl); (focus rfl); (focus rfl)) | ((with_reducible apply ro_isiF); (focus rfl); (focus rfl); (focus rfl)) | ((with_reducible apply t_efzT); (focus rfl); (focus rfl)) | ((with_reducible apply t_efzF); (focus rfl); (focus rfl)) | ((with_reducible apply ru_list); (focus rfl); (focus (walk_at "rk"))) | ((with_reducible apply ru_listT); (focus rfl); (focus (walk_at "rk"))) | ((with_reducible apply ru_tup); (focus rfl); (focus (walk_at "rk"))) | ((with_reducible apply rs_L); (focus rfl); (focus (walk_at "rk"))) | ((with_reducible apply ty_list); (focus (walk_at "rk"))) | (with_reducible refine ty_str ?_) | ((with_reducible apply rm_append); (focus ((walk_at "tg"); done)); (focus (walk_at "tl")); (focus ((walk_at "ts"); done))) | ((with_reducible apply rm_clear); (focus ((walk_at "tg"); done)); (focus ((walk_at "ts"); done))) | ((with_reducible apply rm_reverse); (focus ((walk_at "tg"); done)); (focus ((walk_at "ts"); done))) | ((with_reducible apply e_call); (focus rfl)) | ((with_reducible apply e_callD0); (focus rfl)))
local macro_rules | `(tactic| walk_at "tl") => `(tactic| first | (exact Nat.le_of_ble_eq_true rfl) | omega | (simp; omega))
local macro_rules | `(tactic| walk_at "trun") => `(tactic| repeat (first | walk_at "t1" | walk_at "t2" | walk_at "tsp"))
local macro_rules | `(tactic| walk_at "tsp") => `(tactic| fail)
local macro_rules | `(tactic| walk_at "trunI") => `(tactic| repeat (first | walk_at "t1I" | walk_at "t2" | walk_at "tsp"))
inductive Thg : Tr → Prop
  | non : Thg .non
  | bl {b : Bool} : Thg (.bl b)
  | int {i : Int} : Thg (.int i)
  | str {z : Str} : z.length ≤ 900 → Thg (.str z)
  | tup {ts : List Tr} : ts.length ≤ 900 → (∀ t ∈ ts, Thg t) → Thg (.tup ts)
  | lst {ts : List Tr} : ts.length ≤ 900 → (∀ t ∈ ts, Thg t) → Thg (.lst ts)
  | dct : Thg (.dct [])
noncomputable def paT : Tr → Pa
  | .int i => .int i
  | _ => .oth
noncomputable def pvT : Tr → Pv
  | .non => .non
  | .int i => .int i
  | .str z => .str z
  | .tup ts => .tup (ts.map paT)
  | _ => .oth
theorem rpA_of {K : PySem.W.Frag} {F H : Hp} {v : V} {t : Tr} (i : Same F H) (h : Is K F v t) (g : Thg t) : RpA K H v (paT t) := by
  cases g with
  | int => cases h; rfl
  | non => exact ⟨.non, is_tg i h rfl, nofun⟩
  | bl => exact ⟨.bl, is_tg i h rfl, nofun⟩
  | str _ => exact ⟨.str, is_tg i h rfl, nofun⟩
  | tup _ _ => exact ⟨.tup, is_tg i h rfl, nofun⟩
  | lst _ _ => exact ⟨.lst, is_tg i h rfl, nofun⟩
  | dct => exact ⟨.dic, is_tg i h rfl, nofun⟩
theorem rpL_of {K : PySem.W.Frag} {F H : Hp} (i : Same F H) : ∀ {vs : List V} {ts : List Tr}, IsL K F vs ts → (∀ t ∈ ts, Thg t) → RpL K H vs (ts.map paT)
  | _, _, .nil, _ => True.intro
  | _, _, .cons h g, q => ⟨rpA_of i h (q _ (.head _)), rpL_of i g fun t ht => q t (.tail _ ht)⟩
theorem rp_of {K : PySem.W.Frag} {F H : Hp} {v : V} {t : Tr} (i : Same F H) (h : Is K F v t) (g : Thg t) : Rp K H v (pvT t) := by
  cases g with
  | non => cases h; rfl
  | int => cases h; rfl
  | str hz => cases h; exact ⟨rfl, hz⟩
  | bl => exact ⟨.bl, is_tg i h rfl, .inl rfl⟩
  | lst _ _ => exact ⟨.lst, is_tg i h rfl, .inr (.inl rfl)⟩
  | dct => exact ⟨.dic, is_tg i h rfl, .inr (.inr rfl)⟩
  | tup _ hq =>
    cases h with
    | tup hs g => exact ⟨_, _, rfl, i.tup hs, rpL_of i g hq⟩
noncomputable def st_iscell : SpT := fun _ as Φ _ => ∃ (k : Str) (x : Tr), as = [.fz (.str k), .fz x] ∧ Thg x ∧ Φ (.fz (.bl (toldC k (pvT x))))
theorem okT_is_cell (T : Txt K mg t) : FnOk P w K mg base CX0 5 t.f_is_cell t.d_is_cell ["kind", "thing"] (toSp K st_iscell) := by
  refine (ok_is_cell (P := P) (w := w) (base := base) T).imp fun vs H Q E h => ?_
  obtain ⟨B, as, Φ, Ψ, rfl, rfl, bk, la, ⟨k, x, rfl, hx, φ⟩, q, _⟩ := h
  obtain ⟨v, w', rfl, iv, iw⟩ := arl2 la
  cases iv
  exact ⟨k, w', pvT x, rfl, rp_of bk.i iw hx, fun H' sH => q (.bl _) _ H' (.fz (.bl _)) (upT bk rfl rfl sH) .bl φ⟩
noncomputable def st_isword : SpT := fun _ as Φ _ => ∃ x : Tr, as = [.fz x] ∧ Thg x ∧ Φ (.fz (.bl (toldW (pvT x))))
theorem okT_is_word (T : Txt K mg t) : FnOk P w K mg base CX0 1 t.f_is_word t.d_is_word ["thing"] (toSp K st_isword) := by
  refine (ok_is_word (P := P) (w := w) (base := base) T).imp fun vs H Q E h => ?_
  obtain ⟨B, as, Φ, Ψ, rfl, rfl, bk, la, ⟨x, rfl, hx, φ⟩, q, _⟩ := h
  obtain ⟨v, rfl, iv⟩ := arl1 la
  exact ⟨_, pvT x, rfl, rp_of bk.i iv hx, fun H' sH => q (.bl _) _ H' (.fz (.bl _)) (upT bk rfl rfl sH) .bl φ⟩
noncomputable def ixT : Option Nat → Tr
  | some i => .int (i : Nat)
  | none => .non
noncomputable def st_colat : SpT := fun _ as Φ _ => ∃ (cols : List Col) (z : Str), as = [.fz (.lst (cols.map colT)), .fz (.str z)] ∧ Φ (.fz (ixT (ixOf (cols.map (·.1)) z)))
theorem okT_column_at (T : Txt K mg t) : FnOk P w K mg base CX0 1 t.f_column_at t.d_column_at ["columns", "name"] (toSp K st_colat) := by
  refine (ok_column_at (P := P) (w := w) (base := base) T).imp fun vs H Q E h => ?_
  obtain ⟨B, as, Φ, Ψ, rfl, rfl, bk, la, ⟨cols, z, rfl, φ⟩, q, _⟩ := h
  obtain ⟨v, w', rfl, iv, iw⟩ := arl2 la
  cases iw
  cases iv with
  | lst hs g =>
    refine ⟨_, z, _, cols.map (·.1), rfl, bk.i.seq hs, ⟨by rw [g.length, List.length_map, List.length_map], fun j v' x hv hx => ?_⟩, fun H' sH => ?_⟩
    · obtain ⟨t, ht, it⟩ := g.get2 hv
      obtain ⟨c, hc, rfl⟩ := of_map_at ht
      obtain ⟨c', hc', rfl⟩ := of_map_at hx
      rw [hc] at hc'
      cases hc'
      cases it with
      | tup h1 g1 =>
        cases g1 with
        | cons g2 g1 =>
          cases g2
          exact ⟨_, _, rfl, bk.i.tup h1⟩
    · cases hi : ixOf (cols.map (·.1)) z with
      | none => rw [hi] at φ; exact q .non _ H' (.fz .non) (upT bk rfl rfl sH) .non φ
      | some i => rw [hi] at φ; exact q (.int (i : Nat)) _ H' (.fz (.int (i : Nat))) (upT bk rfl rfl sH) .int φ
theorem ix_lt : ∀ {ws : List Str} {z : Str} {i : Nat}, ixOf ws z = some i → ws[i]? = some z := by
  intro ws z i h
  unfold ixOf at h
  obtain ⟨hl, hp, _⟩ := List.findIdx?_eq_some_iff_getElem.mp h
  rw [List.getElem?_eq_getElem hl]
  exact congrArg some (of_decide_eq_true hp)
noncomputable def kindV (cols : List Col) : Tr → Option Str
  | .str z => if wordS z = true then (ixOf (cols.map (·.1)) z).bind fun i => (cols[i]?).map (·.2) else none
  | _ => none
noncomputable def kdT : Option Str → Tr
  | some k => .str k
  | none => .non
noncomputable def st_kindat : SpT := fun _ as Φ _ => ∃ (cols : List Col) (x : Tr), as = [.fz (.lst (cols.map colT)), .fz x] ∧ Thg x ∧ Φ (.fz (kdT (kindV cols x)))
theorem ite_t {b : Bool} {A B : Prop} (h : b = true) (a : A) : if b = true then A else B := by rw [if_pos h]; exact a
theorem ite_f {b : Bool} {A B : Prop} (h : b = false) (a : B) : if b = true then A else B := by rw [h, if_neg (by decide)]; exact a
theorem kindV_no {cols : List Col} {x : Tr} (h : toldW (pvT x) = false) : kindV cols x = none := by
  cases x with
  | str z =>
    have h : wordS z = false := h
    show (if wordS z = true then _ else none) = none
    rw [if_neg (by rw [h]; decide)]
  | _ => rfl
theorem toldW_str {x : Tr} (h : toldW (pvT x) = true) : ∃ z, x = .str z ∧ wordS z = true := by
  cases x with
  | str z => exact ⟨z, rfl, h⟩
  | _ => cases h
theorem okT_kind_at (T : Txt K mg t) : FnOk P w K mg base CX0 2 t.f_kind_at t.d_kind_at ["columns", "name"] (toSp K st_kindat) := by
  have G_is_word := okT_is_word (P := P) (w := w) (base := base) T
  have G_column_at := okT_column_at (P := P) (w := w) (base := base) T
  refine T.F_kind_at.ok sc_kind_at (toSp_len (fun B as Φ Ψ h => by obtain ⟨_, _, rfl, _⟩ := h; rfl)) (fun cdv A outer s H vs Q E hr h => ?_)
  obtain ⟨B, as, Φ, Ψ, rfl, hS, hx, go⟩ := toSp_open h
  obtain ⟨cols, x, rfl, hX, φ⟩ := hS
  refine ⟨_, (pss_cons (ps_if (pt_not (pt_val (pe_call G_is_word (hr.mono (by decide)) rfl T.m_is_word T.k_is_word T.b_is_word .nil pass0 (pa_cons (pv 1) pa_nil)))) (pss_one (ps_ret pe_non)) pss_nil)
  (pss_cons (ps_set (i := 2) sc_kind_at.nd rfl (Or.inl rfl) (pe_call G_column_at (hr.mono (by decide)) rfl T.m_column_at T.k_column_at T.b_column_at .nil pass0 (pa_cons (pv 0) (pa_cons (pv 1) pa_nil))))
  (pss_one (ps_ret (pe_ifExp (pt_cmpR op_isN' (pv 2) pe_non (nomark _)) pe_non (pe_ix ix_tup (pe_ix ix_list (pv 0) (pv 2) (fun _ _ => rfl)) pe_int (fun _ _ => rfl))))))), go _ _ (s_go (τ := [.fz _, .fz _, .no]) rfl ?_)⟩
  walk_at "trun"
  intro _ _
  refine ⟨x, rfl, hX, ?_⟩
  walk_at "trun"
  cases hb : toldW (pvT x) with
  | false =>
    rw [kindV_no hb] at φ
    refine ite_f rfl ?_
    walk_at "trun"
    exact φ
  | true =>
    obtain ⟨z, rfl, hz⟩ := toldW_str hb
    refine ite_t rfl ?_
    walk_at "trun"
    intro _ _
    refine ⟨cols, z, rfl, ?_⟩
    have φ : Φ (.fz (kdT (if wordS z = true then (ixOf (cols.map (·.1)) z).bind fun i => (cols[i]?).map (·.2) else none))) := φ
    rw [if_pos hz] at φ
    cases hi : ixOf (cols.map (·.1)) z with
    | none =>
      rw [hi] at φ
      unfold ixT
      walk_at "trun"
      exact φ
    | some i =>
      rw [hi] at φ
      unfold ixT
      have h1 := ix_lt hi
      obtain ⟨c, hc, e⟩ := of_map_at h1
      have φ : Φ (.fz (kdT ((cols[i]?).map (·.2)))) := φ
      rw [hc] at φ
      walk_at "trun"
      refine ro_ixL rfl (by walk_at "rk") (atI_nat (map_at hc)) ?_
      unfold colT
      walk_at "trun"
      exact φ
theorem at0T {a : Tr} {l : List Tr} : atI (a :: l) 0 = some a := atI_nat (j := 0) rfl
theorem at1T {a b : Tr} {l : List Tr} : atI (a :: b :: l) 1 = some b := atI_nat (j := 1) rfl
local macro_rules | `(tactic| walk_at "tsp") => `(tactic| first | refine ro_ixT rfl (by walk_at "rk") at0T ?_ | refine ro_ixT rfl (by walk_at "rk") at1T ?_)
local macro_rules | `(tactic| walk_at "tw") => `(tactic| ((walk_at "trun"); repeat ((first | refine ite_t (by first | rfl | decide) ?_ | refine ite_f (by first | rfl | decide) ?_); (walk_at "trun"))))
noncomputable def cellPartV (cols : List Col) : List Tr → Bool
  | [_, n, x] => !x.isN && (match kindV cols n with | some k => toldC k (pvT x) | none => false)
  | _ => false
noncomputable def st_cellpart : SpT := fun _ as Φ _ => ∃ (cols : List Col) (ts : List Tr), as = [.fz (.tup ts), .fz (.lst (cols.map colT))] ∧ 2 ≤ ts.length ∧ (∀ t ∈ ts, Thg t) ∧ Φ (.fz (.bl (cellPartV cols ts)))
theorem isN_of {x : Tr} (h : x ≠ .non) : x.isN = false := by
  cases x with
  | non => exact absurd rfl h
  | _ => rfl
theorem okT_is_cell_part (T : Txt K mg t) : FnOk P w K mg base CX0 6 t.f_is_cell_part t.d_is_cell_part ["part", "columns"] (toSp K st_cellpart) := by
  have G_kind_at := okT_kind_at (P := P) (w := w) (base := base) T
  have G_is_cell := okT_is_cell (P := P) (w := w) (base := base) T
  refine T.F_is_cell_part.ok sc_is_cell_part (toSp_len (fun B as Φ Ψ h => by obtain ⟨_, _, rfl, _⟩ := h; rfl)) (fun cdv A outer s H vs Q E hr h => ?_)
  obtain ⟨B, as, Φ, Ψ, rfl, hS, hx, go⟩ := toSp_open h
  obtain ⟨cols, ts, rfl, hl, hq, φ⟩ := hS
  refine ⟨_, (pss_cons (ps_if (PW.pt (pw_or (pt_cmpR op_ne (pe_callB call_len_seq rfl T.z_len PySem.boot_len (pa_cons (pv 0) pa_nil)) pe_int (nomark _)) (pw_or1 (pt_cmpR op_isN' (pe_ix ix_tup (pv 0) pe_int (fun _ _ => rfl)) pe_non (nomark _))))) (pss_one (ps_ret pe_bl)) pss_nil)
  (pss_cons (ps_set (i := 2) sc_is_cell_part.nd rfl (Or.inl rfl) (pe_call G_kind_at (hr.mono (by decide)) rfl T.m_kind_at T.k_kind_at T.b_kind_at .nil pass0 (pa_cons (pv 1) (pa_cons (pe_ix ix_tup (pv 0) pe_int (fun _ _ => rfl)) pa_nil))))
  (pss_one (ps_ret (pe_and (pe_cmpR op_notN' (pv 2) pe_non (nomark _)) (pe_one (pe_call G_is_cell (hr.mono (by decide)) rfl T.m_is_cell T.k_is_cell T.b_is_cell .nil pass0 (pa_cons (pv 2) (pa_cons (pe_ix ix_tup (pv 0) pe_int (fun _ _ => rfl)) pa_nil))))))))), go _ _ (s_go (τ := [.fz _, .fz _, .no]) rfl ?_)⟩
  match ts, hl, hq, φ with
  | [], hl, _, _ => exact absurd hl (by decide)
  | [a], hl, _, _ => exact absurd hl (show ¬ 2 ≤ 1 by decide)
  | [a, b], hl, hq, φ =>
    walk_at "tw"
    exact φ
  | a :: b :: c :: d :: r, hl, hq, φ =>
    walk_at "trun"
    refine z_iteD (fun y => ?_) (fun _ => ?_)
    · rw [List.length_cons, List.length_cons, List.length_cons, List.length_cons] at y
      omega
    walk_at "trun"
    exact φ
  | [a, n, x], hl, hq, φ =>
    have hn := hq n (.tail _ (.head _))
    have hx := hq x (.tail _ (.tail _ (.head _)))
    by_cases hN : x = .non
    · subst hN
      walk_at "tw"
      exact φ
    have φ : Φ (.fz (.bl (!x.isN && (match kindV cols n with | some k => toldC k (pvT x) | none => false)))) := φ
    rw [isN_of hN] at φ
    walk_at "tw"
    refine ro_isNF (isN_of hN) ?_
    walk_at "tw"
    intro _ _
    refine ⟨cols, n, rfl, hn, ?_⟩
    cases hk : kindV cols n with
    | none =>
      rw [hk] at φ
      unfold kdT
      walk_at "tw"
      exact φ
    | some k =>
      rw [hk] at φ
      unfold kdT
      walk_at "tw"
      intro _ _
      refine ⟨k, x, rfl, hx, ?_⟩
      walk_at "tw"
      exact φ
noncomputable def partW (cols : List Col) (w : Str) (b : Tr) (r : List Tr) : Bool :=
  if w = "there" then r.isEmpty && (kindV cols b).isSome
  else if w ∈ (["same", "under"] : List Str) then cellPartV cols (.str w :: b :: r)
  else if w = "not" then r.isEmpty
  else decide (w ∈ (["both", "one"] : List Str)) && r.length == 1
noncomputable def partV (cols : List Col) : Tr → Bool
  | .tup (.str w :: b :: r) => partW cols w b r
  | _ => false
theorem partV_1 {cols : List Col} {a : Tr} : partV cols (.tup [a]) = false := by cases a <;> rfl
noncomputable def st_ispart : SpT := fun _ as Φ _ => ∃ (cols : List Col) (x : Tr), as = [.fz x, .fz (.lst (cols.map colT))] ∧ Thg x ∧ Φ (.fz (.bl (partV cols x)))
theorem len_2 {a b : Tr} {r : List Tr} : ((a :: b :: r).length : Int) = (r.length : Int) + 2 := by rw [List.length_cons, List.length_cons]; omega
theorem okT_is_part (T : Txt K mg t) : FnOk P w K mg base CX0 7 t.f_is_part t.d_is_part ["thing", "columns"] (toSp K st_ispart) := by
  have G_kind_at := okT_kind_at (P := P) (w := w) (base := base) T
  have G_is_cell_part := okT_is_cell_part (P := P) (w := w) (base := base) T
  refine T.F_is_part.ok sc_is_part (toSp_len (fun B as Φ Ψ h => by obtain ⟨_, _, rfl, _⟩ := h; rfl)) (fun cdv A outer s H vs Q E hr h => ?_)
  obtain ⟨B, as, Φ, Ψ, rfl, hS, hx, go⟩ := toSp_open h
  obtain ⟨cols, x, rfl, hX, φ⟩ := hS
  refine ⟨_, (pss_cons (ps_if (PW.pt (pw_or (pt_not (pt_val (pe_isi isi_tuple rfl rfl T.z_isinstance T.z_tuple bt_tuple (pv 0)))) (pw_or (pt_cmpR op_lt (pe_callB call_len_seq rfl T.z_len PySem.boot_len (pa_cons (pv 0) pa_nil)) pe_int (nomark _)) (pw_or1 (pt_not (pt_val (pe_isi isi_str rfl rfl T.z_isinstance T.z_str bt_str (pe_ix ix_tup (pv 0) pe_int (fun _ _ => rfl))))))))) (pss_one (ps_ret pe_bl)) pss_nil)
  (pss_cons (ps_if (pt_cmpR op_eq (pe_ix ix_tup (pv 0) pe_int (fun _ _ => rfl)) pe_str (nomark _)) (pss_one (ps_ret (pe_and (pe_cmpR op_eq (pe_callB call_len_seq rfl T.z_len PySem.boot_len (pa_cons (pv 0) pa_nil)) pe_int (nomark _)) (pe_one (pe_cmpR op_notN' (pe_call G_kind_at (hr.mono (by decide)) rfl T.m_kind_at T.k_kind_at T.b_kind_at .nil pass0 (pa_cons (pv 1) (pa_cons (pe_ix ix_tup (pv 0) pe_int (fun _ _ => rfl)) pa_nil))) pe_non (nomark _)))))) pss_nil)
  (pss_cons (ps_if (pt_cmpR op_in_seq (pe_ix ix_tup (pv 0) pe_int (fun _ _ => rfl)) (pe_tup (pa_cons pe_str (pa_cons pe_str pa_nil))) rfl) (pss_one (ps_ret (pe_call G_is_cell_part (hr.mono (by decide)) rfl T.m_is_cell_part T.k_is_cell_part T.b_is_cell_part .nil pass0 (pa_cons (pv 0) (pa_cons (pv 1) pa_nil))))) pss_nil)
  (pss_cons (ps_if (pt_cmpR op_eq (pe_ix ix_tup (pv 0) pe_int (fun _ _ => rfl)) pe_str (nomark _)) (pss_one (ps_ret (pe_cmpR op_eq (pe_callB call_len_seq rfl T.z_len PySem.boot_len (pa_cons (pv 0) pa_nil)) pe_int (nomark _)))) pss_nil)
  (pss_one (ps_ret (pe_and (pe_cmpR op_in_seq (pe_ix ix_tup (pv 0) pe_int (fun _ _ => rfl)) (pe_tup (pa_cons pe_str (pa_cons pe_str pa_nil))) rfl) (pe_one (pe_cmpR op_eq (pe_callB call_len_seq rfl T.z_len PySem.boot_len (pa_cons (pv 0) pa_nil)) pe_int (nomark _)))))))))), go _ _ (s_go (τ := [.fz _, .fz _]) rfl ?_)⟩
  cases hX with
  | tup hl hq =>
    rename_i ts
    match ts, hl, hq, φ with
    | [], hl, hq, φ => walk_at "tw"; exact φ
    | [a], hl, hq, φ => walk_at "tw"; rw [partV_1] at φ; exact φ
    | a :: b :: r, hl, hq, φ =>
      have ha := hq a (.head _)
      have hb := hq b (.tail _ (.head _))
      walk_at "trun"
      rw [len_2]
      refine z_iteD (fun y => absurd y (by omega)) (fun _ => ?_)
      walk_at "trun"
      cases ha with
      | str hz =>
        rename_i w
        have φ : Φ (.fz (.bl (partW cols w b r))) := φ
        unfold partW at φ
        walk_at "tw"
        refine z_iteD (fun h1 => ?_) (fun h1 => ?_)
        · rw [if_pos h1] at φ
          walk_at "trun"
          rw [len_2]
          cases r with
          | nil =>
            walk_at "tw"
            intro _ _
            refine ⟨cols, b, rfl, hb, ?_⟩
            cases hk : kindV cols b with
            | none => rw [hk] at φ; unfold kdT; walk_at "tw"; exact φ
            | some k => rw [hk] at φ; unfold kdT; walk_at "tw"; exact φ
          | cons c r =>
            rw [show ((c :: r).length : Int) + 2 = (r.length : Int) + 3 by rw [List.length_cons]; omega]
            refine z_iteD (fun y => absurd y (by omega)) (fun _ => ?_)
            walk_at "tw"
            exact φ
        rw [if_neg h1] at φ
        walk_at "trun"
        refine ro_inT rfl (ws := ["same", "under"]) (by walk_at "rk") ?_
        walk_at "trun"
        refine z_iteD (fun h2 => ?_) (fun h2 => ?_)
        · rw [if_pos h2] at φ
          walk_at "trun"
          intro _ _
          refine ⟨cols, _, rfl, by rw [List.length_cons, List.length_cons]; omega, hq, ?_⟩
          walk_at "trun"
          exact φ
        rw [if_neg h2] at φ
        walk_at "trun"
        refine z_iteD (fun h3 => ?_) (fun h3 => ?_)
        · rw [if_pos h3] at φ
          walk_at "trun"
          rw [len_2]
          cases r with
          | nil => exact φ
          | cons c r =>
            have e : decide (((c :: r).length : Int) + 2 = 2) = false := decide_eq_false (by rw [List.length_cons]; omega)
            rw [e]
            exact φ
        rw [if_neg h3] at φ
        walk_at "trun"
        refine ro_inT rfl (ws := ["both", "one"]) (by walk_at "rk") ?_
        walk_at "trun"
        refine z_iteD (fun h4 => ?_) (fun h4 => ?_)
        · rw [decide_eq_true h4] at φ
          walk_at "trun"
          rw [len_2]
          have e : decide ((r.length : Int) + 2 = 3) = (r.length == 1) := by
            rw [Bool.eq_iff_iff, decide_eq_true_eq, beq_iff_eq]
            omega
          rw [e]
          exact φ
        · rw [decide_eq_false h4] at φ
          walk_at "trun"
          exact φ
      | _ => walk_at "tw"; exact φ
  | _ => walk_at "tw"; exact φ
noncomputable def kidsW (w : Str) (r : List Tr) : List Tr := if w ∈ (["not", "both", "one"] : List Str) then r else []
noncomputable def kidsV : Tr → List Tr
  | .tup (.str w :: r) => kidsW w r
  | _ => []
theorem cut1T {a : Tr} {r : List Tr} : cutT (a :: r) (some 1) none = r := by
  unfold cutT
  have e1 : HT.sIx (a :: r).length 0 (some (1 : Int)) = min 1 (a :: r).length := HT.sIx_nat _ _ 1
  have e2 : HT.sIx (a :: r).length (a :: r).length (none : Option Int) = (a :: r).length := rfl
  rw [e1, e2, show min 1 (a :: r).length = 1 by rw [List.length_cons]; omega]
  rw [List.drop_one, List.tail_cons, List.length_cons]
  exact List.take_of_length_le (by omega)
noncomputable def st_testsin : SpT := fun _ as Φ _ => ∃ (w : Str) (r : List Tr), as = [.fz (.tup (.str w :: r))] ∧ Φ (.nw (.lst (kidsW w r)))
theorem okT_tests_in (T : Txt K mg t) : FnOk P w K mg base CX0 1 t.f_tests_in t.d_tests_in ["part"] (toSp K st_testsin) := by
  refine T.F_tests_in.ok sc_tests_in (toSp_len (fun B as Φ Ψ h => by obtain ⟨_, _, rfl, _⟩ := h; rfl)) (fun cdv A outer s H vs Q E hr h => ?_)
  obtain ⟨B, as, Φ, Ψ, rfl, hS, hx, go⟩ := toSp_open h
  obtain ⟨w', r, rfl, φ⟩ := hS
  unfold kidsW at φ
  refine ⟨_, (pss_one (ps_ret (pe_ifExp (pt_cmpR op_in_seq (pe_ix ix_tup (pv 0) pe_int (fun _ _ => rfl)) (pe_tup (pa_cons pe_str (pa_cons pe_str (pa_cons pe_str pa_nil)))) rfl) (pe_callTy call_list_of rfl T.z_list bt_list (pa_cons (pe_slice sl_tup (pv 0) (po_some pe_int) po_none) pa_nil)) (pe_lst pa_nil)))), go _ _ (s_go (τ := [.fz _]) rfl ?_)⟩
  walk_at "trun"
  refine ro_inT rfl (ws := ["not", "both", "one"]) (by walk_at "rk") ?_
  walk_at "trun"
  refine z_iteD (fun h1 => ?_) (fun h1 => ?_)
  · rw [if_pos h1] at φ
    walk_at "trun"
    refine rs_T rfl (by walk_at "rk") ?_ ?_
    · intro z
      exact absurd z.1 (show ¬ (1 : Nat) = 0 by decide)
    rw [cut1T]
    walk_at "tw"
    exact rt_nw φ
  · rw [if_neg h1] at φ
    walk_at "trun"
    exact rt_nw φ
theorem ix_of {cols : List Col} {i : Nat} {c : Col} (oC : Cok cols) (hc : cols[i]? = some c) : ixOf (cols.map (·.1)) c.1 = some i := by
  refine ixOf_some (map_at hc) fun j x hj e => ?_
  intro y
  subst y
  have h1 := map_at (g := fun c : Col => c.1) hc
  obtain ⟨a1, a2⟩ := List.getElem?_eq_some_iff.mp e
  obtain ⟨b1, b2⟩ := List.getElem?_eq_some_iff.mp h1
  exact absurd ((List.getElem_inj (h₀ := a1) (h₁ := b1) oC.nd).mp (a2.trans b2.symm)) (by omega)
theorem kind_in {cols : List Col} {n kd : Str} (oC : Cok cols) (hm : (n, kd) ∈ cols) : kindV cols (.str n) = some kd := by
  obtain ⟨i, hi⟩ := List.getElem?_of_mem hm
  show (if wordS n = true then _ else none) = _
  rw [if_pos (oC.nm _ hm), ix_of oC hi]
  show (cols[i]?).map (·.2) = _
  rw [hi]
  rfl
theorem kind_out {cols : List Col} {n : Str} (h : n ∉ cols.map (·.1)) : kindV cols (.str n) = none := by
  have e : ixOf (cols.map (·.1)) n = none := ixOf_none fun j x _ hx z => h (z ▸ List.mem_of_getElem? hx)
  show (if wordS n = true then _ else none) = _
  rw [e]
  split <;> rfl
theorem told_cl {kd : Str} {c : Cl} (hc : c.ok kd) : toldC kd (pvT c.tr) = true := by
  cases c with
  | non => rfl
  | day d =>
    obtain ⟨rfl, h1, h2⟩ := hc
    show (decide (364877 ≤ d) && decide (d ≤ 3286816)) = true
    rw [decide_eq_true h1, decide_eq_true h2]; rfl
  | word z =>
    obtain ⟨rfl, h1⟩ := hc
    exact h1
  | num x =>
    obtain ⟨rfl, g⟩ := hc
    show ((decide (1 ≤ x.2) && decide (Int.gcd x.1 x.2 = 1)) && (decide (absI x.1 < 1000000000000000000) && decide (x.2 ≤ 60))) = true
    have := g.pos
    have := g.lo
    have := g.hi
    rw [decide_eq_true (show 1 ≤ x.2 by omega), decide_eq_true g.one, decide_eq_true g.le, decide_eq_true (show absI x.1 < 1000000000000000000 by unfold absI; split <;> omega)]
    rfl
theorem Cl.isNT {c : Cl} (h : c ≠ .non) : c.tr.isN = false := by
  cases c with
  | non => exact absurd rfl h
  | _ => rfl
theorem same_in : ("same" : Str) ∈ (["same", "under"] : List Str) := by decide
theorem under_in : ("under" : Str) ∈ (["same", "under"] : List Str) := by decide
theorem partW_cell {cols : List Col} {w : Str} {b : Tr} {r : List Tr} (h1 : w ≠ "there") (h2 : w ∈ (["same", "under"] : List Str)) : partW cols w b r = cellPartV cols (.str w :: b :: r) := by
  unfold partW
  rw [if_neg h1, if_pos h2]
theorem part_cell {cols : List Col} {w n kd : Str} {c : Cl} (h1 : w ≠ "there") (h2 : w ∈ (["same", "under"] : List Str)) (oC : Cok cols) (hm : (n, kd) ∈ cols) (oc : c.ok kd) (ne : c ≠ .non) : partV cols (.tup [.str w, .str n, c.tr]) = true := by
  show partW cols w (.str n) [c.tr] = true
  rw [partW_cell h1 h2]
  show (!c.tr.isN && (match kindV cols (.str n) with | some k => toldC k (pvT c.tr) | none => false)) = true
  rw [kind_in oC hm, Cl.isNT ne]
  show (true && toldC kd (pvT c.tr)) = true
  rw [told_cl oc]
  rfl
theorem partV_te {cols : List Col} (oC : Cok cols) {te : Te} (ok : te.ok cols) : partV cols te.tr = true := by
  cases te with
  | ther n =>
    obtain ⟨kd, hm⟩ := ok
    show partW cols "there" (.str n) [] = true
    unfold partW
    rw [if_pos rfl, kind_in oC hm]
    rfl
  | same n c => obtain ⟨kd, hm, oc, ne⟩ := ok; exact part_cell (by decide) same_in oC hm oc ne
  | und n c => obtain ⟨kd, hm, oc, ne⟩ := ok; exact part_cell (by decide) under_in oC hm oc ne
  | nt a => rfl
  | bth a b => rfl
  | one a b => rfl
noncomputable def kidsT : Te → List Te
  | .nt a => [a]
  | .bth a b => [a, b]
  | .one a b => [a, b]
  | _ => []
theorem kidsV_te (te : Te) : kidsV te.tr = (kidsT te).map Te.tr := by
  cases te with
  | ther n => exact if_neg (t := [Tr.str n]) (show ¬ ("there" : Str) ∈ (["not", "both", "one"] : List Str) by decide)
  | same n c => exact if_neg (t := [Tr.str n, c.tr]) (show ¬ ("same" : Str) ∈ (["not", "both", "one"] : List Str) by decide)
  | und n c => exact if_neg (t := [Tr.str n, c.tr]) (show ¬ ("under" : Str) ∈ (["not", "both", "one"] : List Str) by decide)
  | nt a => exact if_pos (e := []) (show ("not" : Str) ∈ (["not", "both", "one"] : List Str) by decide)
  | bth a b => exact if_pos (e := []) (show ("both" : Str) ∈ (["not", "both", "one"] : List Str) by decide)
  | one a b => exact if_pos (e := []) (show ("one" : Str) ∈ (["not", "both", "one"] : List Str) by decide)
theorem thg_word {z : Str} (h : wordS z = true) : Thg (.str z) := .str (by have := (wordS_is h).2.1; omega)
theorem thg_cl {kd : Str} {c : Cl} (h : c.ok kd) : Thg c.tr := by
  cases c with
  | non => exact .non
  | day d => exact .int
  | word z => exact thg_word h.2
  | num x =>
    refine .tup (show 2 ≤ 900 by decide) fun t ht => ?_
    rcases List.mem_cons.mp ht with z | z
    · rw [z]; exact .int
    · rw [List.mem_singleton.mp z]; exact .int
theorem thg2 {a b : Tr} (h1 : Thg a) (h2 : Thg b) : Thg (.tup [a, b]) := .tup (show 2 ≤ 900 by decide) fun t ht => by
  rcases List.mem_cons.mp ht with z | z
  · rw [z]; exact h1
  · rw [List.mem_singleton.mp z]; exact h2
theorem thg3 {a b c : Tr} (h1 : Thg a) (h2 : Thg b) (h3 : Thg c) : Thg (.tup [a, b, c]) := .tup (show 3 ≤ 900 by decide) fun t ht => by
  rcases List.mem_cons.mp ht with z | z
  · rw [z]; exact h1
  rcases List.mem_cons.mp z with z | z
  · rw [z]; exact h2
  · rw [List.mem_singleton.mp z]; exact h3
theorem thg_te {cols : List Col} (oC : Cok cols) : ∀ {te : Te}, te.ok cols → Thg te.tr
  | .ther n, ⟨kd, hm⟩ => thg2 (.str (by decide)) (thg_word (oC.nm _ hm))
  | .same n c, ⟨kd, hm, oc, _⟩ => thg3 (.str (by decide)) (thg_word (oC.nm _ hm)) (thg_cl oc)
  | .und n c, ⟨kd, hm, oc, _⟩ => thg3 (.str (by decide)) (thg_word (oC.nm _ hm)) (thg_cl oc)
  | .nt a, h => thg2 (.str (by decide)) (thg_te oC (te := a) h)
  | .bth a b, h => thg3 (.str (by decide)) (thg_te oC (te := a) h.1) (thg_te oC (te := b) h.2)
  | .one a b, h => thg3 (.str (by decide)) (thg_te oC (te := a) h.1) (thg_te oC (te := b) h.2)
noncomputable def szs (ps : List Te) : Nat := (ps.map Te.size).sum
theorem szs_app (a b : List Te) : szs (a ++ b) = szs a + szs b := by unfold szs; rw [List.map_append, List.sum_append]
theorem size_kids (te : Te) : te.size = szs (kidsT te) + 1 := by
  cases te <;> simp [kidsT, szs, Te.size]
theorem kids_ok {cols : List Col} {te : Te} (h : te.ok cols) : ∀ x ∈ kidsT te, x.ok cols := by
  cases te with
  | nt a => intro x hx; rw [List.mem_singleton.mp hx]; exact h
  | bth a b =>
    intro x hx
    rcases List.mem_cons.mp hx with z | z
    · rw [z]; exact h.1
    · rw [List.mem_singleton.mp z]; exact h.2
  | one a b =>
    intro x hx
    rcases List.mem_cons.mp hx with z | z
    · rw [z]; exact h.1
    · rw [List.mem_singleton.mp z]; exact h.2
  | _ => intro x hx; exact absurd hx List.not_mem_nil
theorem part_form {cols : List Col} {y : Tr} (h : partV cols y = true) : ∃ w b r, y = .tup (.str w :: b :: r) ∧ partW cols w b r = true := by
  cases y with
  | tup ts =>
    match ts, h with
    | [], h => cases h
    | [a], h => rw [partV_1] at h; cases h
    | .str w :: b :: r, h => exact ⟨w, b, r, rfl, h⟩
    | .non :: b :: r, h => cases h
    | .bl _ :: b :: r, h => cases h
    | .int _ :: b :: r, h => cases h
    | .tup _ :: b :: r, h => cases h
    | .lst _ :: b :: r, h => cases h
    | .dct _ :: b :: r, h => cases h
    | .ty _ :: b :: r, h => cases h
  | _ => cases h
theorem kids_le {cols : List Col} {w : Str} {b : Tr} {r : List Tr} (h : partW cols w b r = true) : (kidsW w (b :: r)).length ≤ 2 := by
  unfold kidsW
  by_cases hi : w ∈ (["not", "both", "one"] : List Str)
  · rw [if_pos hi]
    unfold partW at h
    have n1 : w ≠ "there" := fun e => by rw [e] at hi; revert hi; decide
    have n2 : w ∉ (["same", "under"] : List Str) := fun e => by
      rcases List.mem_cons.mp e with z | z
      · rw [z] at hi; revert hi; decide
      · rw [List.mem_singleton.mp z] at hi; revert hi; decide
    rw [if_neg n1, if_neg n2] at h
    split at h
    · cases r with
      | nil => exact Nat.le_of_ble_eq_true rfl
      | cons c r => cases h
    · rw [Bool.and_eq_true, beq_iff_eq] at h
      rw [List.length_cons]
      omega
  · rw [if_neg hi]
    exact Nat.zero_le _
theorem thg_kids {w : Str} {b : Tr} {r : List Tr} (h : Thg (.tup (.str w :: b :: r))) : ∀ x ∈ kidsW w (b :: r), Thg x := fun x hx => by
  unfold kidsW at hx
  split at hx
  · cases h with
    | tup _ q => exact q x (.tail _ hx)
  · cases hx
structure NoTest (cols : List Col) (x : Tr) (J : Nat → List Tr → Prop) : Prop where
  z : J 0 [x]
  lt : ∀ k ps, J k ps → k ≤ 20 → k < ps.length
  st : ∀ k ps y, J k ps → k < 20 → ps[k]? = some y → partV cols y = true → J (k + 1) (ps ++ kidsV y)
noncomputable def st_istest : SpT := fun _ as Φ _ => ∃ (cols : List Col) (x : Tr) (b : Bool), as = [.fz x, .fz (.lst (cols.map colT))] ∧ Thg x ∧ ((b = true ∧ Cok cols ∧ ∃ te : Te, x = te.tr ∧ te.ok cols ∧ te.size ≤ 20) ∨ (b = false ∧ ∃ J, NoTest cols x J)) ∧ Φ (.fz (.bl b))
local macro_rules | `(tactic| walk_at "t1") => `(tactic| ((with_reducible apply e_ext); (focus rfl)))
theorem okT_is_test (T : Txt K mg t) : FnOk P w K mg base CX0 8 t.f_is_test t.d_is_test ["thing", "columns"] (toSp K st_istest) := by
  have G_is_part := okT_is_part (P := P) (w := w) (base := base) T
  have G_tests_in := okT_tests_in (P := P) (w := w) (base := base) T
  refine T.F_is_test.ok sc_is_test (toSp_len (fun B as Φ Ψ h => by obtain ⟨_, _, _, rfl, _⟩ := h; rfl)) (fun cdv A outer s H vs Q E hr h => ?_)
  obtain ⟨B, as, Φ, Ψ, rfl, hS, hx, go⟩ := toSp_open h
  obtain ⟨cols, x0, b, rfl, hX, hor, φ⟩ := hS
  refine ⟨_, (pss_cons (ps_set (i := 2) sc_is_test.nd rfl (Or.inl rfl) (pe_lst (pa_cons (pv 0) pa_nil)))
  (pss_cons (ps_set (i := 3) sc_is_test.nd rfl (Or.inl rfl) pe_int)
  (pss_cons (ps_while PassesOwn.never (pt_cmpR op_lt (pv 3) (pe_callB call_len_seq rfl T.z_len PySem.boot_len (pa_cons (pv 2) pa_nil)) (nomark _)) (pss_cons (ps_if (PW.pt (pw_or (pt_cmpR op_eq (pv 3) (pe_glob (v := .int 20) rfl T.g_MOST_PARTS ⟨_, rfl⟩) (nomark _)) (pw_or1 (pt_not (pt_val (pe_call G_is_part (hr.mono (by decide)) rfl T.m_is_part T.k_is_part T.b_is_part .nil pass0 (pa_cons (pe_ix ix_list (pv 2) (pv 3) (fun _ _ => rfl)) (pa_cons (pv 1) pa_nil)))))))) (pss_one (ps_ret pe_bl)) pss_nil)
  (pss_cons (ps_expr (pe_bm PySem.F.plainAttrs_list PySem.F.slot_list_extend PySem.F.type_list_extend mt_extend (pv 2) (pa_cons (pe_call G_tests_in (hr.mono (by decide)) rfl T.m_tests_in T.k_tests_in T.b_tests_in .nil pass0 (pa_cons (pe_ix ix_list (pv 2) (pv 3) (fun _ _ => rfl)) pa_nil)) pa_nil)))
  (pss_one (ps_aug (i := 3) sc_is_test.nd rfl (Or.inl rfl) pe_int ip_add)))))
  (pss_one (ps_ret pe_bl))))), go _ _ (s_go (τ := [.fz _, .fz _, .no, .no]) rfl ?_)⟩
  walk_at "trun"
  rcases hor with ⟨rfl, oC, te, rfl, ok, hz⟩ | ⟨rfl, J, N⟩
  · refine s_while (fun m τ => ∃ (k : Nat) (ps : List Te), τ = [.fz te.tr, .fz (.lst (cols.map colT)), .own (.lst (ps.map Te.tr)), .fz (.int (k : Nat))] ∧ k ≤ ps.length ∧ m = szs (ps.drop k) ∧ k + szs (ps.drop k) ≤ 20 ∧ ps.length ≤ 2 * k + 1 ∧ ∀ x ∈ ps, x.ok cols) te.size ⟨0, [te], rfl, by simp, by simp [szs], by simp [szs]; exact hz, by simp, fun x hx => by rw [List.mem_singleton.mp hx]; exact ok⟩ ?_
    rintro m τ ⟨k, ps, rfl, hk, rfl, hs, hp, ho⟩
    walk_at "trun"
    rw [List.length_map]
    refine z_iteD (fun h1 => ?_) (fun h1 => ?_)
    · have hlt : k < ps.length := by omega
      have hx : ps[k]? = some ps[k] := List.getElem?_eq_getElem hlt
      have ed : ps.drop k = ps[k] :: ps.drop (k + 1) := List.drop_eq_getElem_cons hlt
      generalize ps[k] = x at *
      have hm : x ∈ ps := List.mem_of_getElem? hx
      have hsz : szs (ps.drop k) = x.size + szs (ps.drop (k + 1)) := by rw [ed]; simp [szs]
      have sk := size_kids x
      have kl : (kidsT x).length ≤ 2 := by cases x <;> simp [kidsT]
      have pv := partV_te oC (ho x hm)
      obtain ⟨w', b', r', e', _⟩ := part_form pv
      have ek := kidsV_te x
      rw [e'] at ek
      have ek : kidsW w' (b' :: r') = (kidsT x).map Te.tr := ek
      walk_at "trun"
      refine z_iteD (fun h => absurd h (by omega)) (fun _ => ?_)
      walk_at "trun"
      refine ro_ixL rfl (by walk_at "rk") (atI_nat (map_at hx)) ?_
      walk_at "trun"
      intro _ _
      refine ⟨cols, x.tr, rfl, thg_te oC (ho x hm), ?_⟩
      rw [pv]
      walk_at "trun"
      refine ⟨2, _, rfl, by walk_at "rk", ?_⟩
      walk_at "trun"
      refine ro_ixL rfl (by walk_at "rk") (atI_nat (map_at hx)) ?_
      rw [e']
      walk_at "trun"
      intro _ _
      refine ⟨w', b' :: r', rfl, ?_⟩
      rw [ek]
      refine ⟨ps.map Te.tr, (kidsT x).map Te.tr, _, rfl, by walk_at "tg", by rw [List.length_map, List.length_map]; omega, by walk_at "ts", ?_⟩
      walk_at "trun"
      refine s_aug (by walk_at "tg") ?_
      walk_at "trun"
      have e2 : (ps ++ kidsT x).drop (k + 1) = ps.drop (k + 1) ++ kidsT x := List.drop_append_of_le_length (by omega)
      refine ⟨_, ?_, k + 1, ps ++ kidsT x, by rw [List.map_append]; rfl, by rw [List.length_append]; omega, rfl, ?_, ?_, fun y hy => ?_⟩
      · rw [e2, szs_app]; omega
      · rw [e2, szs_app]; omega
      · rw [List.length_append]; omega
      · rcases List.mem_append.mp hy with z | z
        · exact ho y z
        · exact kids_ok (ho x hm) y z
    · walk_at "trun"
      exact φ
  · refine s_while (fun m τ => ∃ (k : Nat) (ps : List Tr), τ = [.fz x0, .fz (.lst (cols.map colT)), .own (.lst ps), .fz (.int (k : Nat))] ∧ k ≤ 20 ∧ m = 20 - k ∧ ps.length ≤ 2 * k + 1 ∧ (∀ x ∈ ps, Thg x) ∧ J k ps) 20 ⟨0, [x0], rfl, by omega, rfl, Nat.le_refl _, fun x hx => by rw [List.mem_singleton.mp hx]; exact hX, N.z⟩ ?_
    rintro m τ ⟨k, ps, rfl, hk, rfl, hp, ho, hJ⟩
    have hlt := N.lt k ps hJ hk
    have hx : ps[k]? = some ps[k] := List.getElem?_eq_getElem hlt
    generalize ps[k] = x at *
    have hm : x ∈ ps := List.mem_of_getElem? hx
    walk_at "trun"
    refine z_iteD (fun h1 => ?_) (fun h1 => absurd h1 (by omega))
    walk_at "trun"
    refine z_iteD (fun h => ?_) (fun h => ?_)
    · walk_at "trun"
      exact φ
    have k20 : k < 20 := by omega
    walk_at "trun"
    refine ro_ixL rfl (by walk_at "rk") (atI_nat hx) ?_
    walk_at "trun"
    intro _ _
    refine ⟨cols, x, rfl, ho x hm, ?_⟩
    cases pv : partV cols x with
    | false =>
      walk_at "trun"
      exact φ
    | true =>
      have hJ2 := N.st k ps x hJ k20 hx pv
      obtain ⟨w', b', r', rfl, hW⟩ := part_form pv
      have hJ2 : J (k + 1) (ps ++ kidsW w' (b' :: r')) := hJ2
      have kl := kids_le hW
      have tk := thg_kids (ho _ hm)
      walk_at "trun"
      refine ⟨2, _, rfl, by walk_at "rk", ?_⟩
      walk_at "trun"
      refine ro_ixL rfl (by walk_at "rk") (atI_nat hx) ?_
      walk_at "trun"
      intro _ _
      refine ⟨w', b' :: r', rfl, ?_⟩
      refine ⟨ps, kidsW w' (b' :: r'), _, rfl, by walk_at "tg", by omega, by walk_at "ts", ?_⟩
      walk_at "trun"
      refine s_aug (by walk_at "tg") ?_
      walk_at "trun"
      refine ⟨_, ?_, k + 1, ps ++ kidsW w' (b' :: r'), rfl, by omega, rfl, by rw [List.length_append]; omega, fun y hy => ?_, hJ2⟩
      · omega
      · rcases List.mem_append.mp hy with z | z
        · exact ho y z
        · exact tk y z
theorem lcn_rangeA {lo : Int} {n : Nat} {st : St} {te : TE} {H1 : Hp} {Q : VK} (Pv : Addr → Nat → List V → Hp → Prop) (h0 : ∀ acc, H1 acc = none → Pv acc 0 [] (upd H1 acc (.lst [])))
    (hn : n ≤ sizeLine) (step : ∀ i xs acc H2 (S : V → Hp → Prop), i < n → H1 acc = none → Pv acc i xs H2 → H2 acc = some (.lst xs) → (∀ v H3, H3 acc = some (.lst xs) → Pv acc (i + 1) (xs ++ [v]) (upd H3 acc (.lst (xs ++ [v]))) → S v H3) → te (some (.int (lo + (i : Nat))) :: st) H2 S)
    (fin : ∀ acc xs H2, H1 acc = none → xs.length = n → Pv acc n xs H2 → H2 acc = some (.lst xs) → Q (.ref acc) H2) : LCN st (Itr lo n) te H1 Q := by
  intro acc hacc
  refine ⟨fun i m H2 => ∃ xs, m = n - i ∧ i ≤ n ∧ xs.length = i ∧ Pv acc i xs H2 ∧ H2 acc = some (.lst xs), ⟨n, [], by simp, Nat.zero_le _, rfl, h0 acc hacc, upd_same⟩, ?_⟩
  rintro i m H2 ⟨xs, rfl, hi, hx, pv, ha⟩
  by_cases hlt : i < n
  · refine .inr ⟨hlt, fun x H3 y => ?_⟩
    obtain ⟨e, y⟩ := y
    subst e y
    refine step i xs acc _ _ hlt hacc pv ha fun v H4 e4 pv4 => ⟨xs, n - (i + 1), e4, by omega, by omega, xs ++ [v], rfl, hlt, by rw [List.length_append, hx]; rfl, pv4, upd_same⟩
  · have e : i = n := by omega
    subst e
    exact .inl ⟨Nat.le_refl _, fin acc xs H2 hacc hx pv ha⟩
theorem cut63 {ns : List Int} (h : ns.length ≤ 63) : cutV (ns.map V.int) none (some 63) = ns.map V.int := by
  unfold cutV
  have e1 : HT.sIx (ns.map V.int).length 0 (none : Option Int) = 0 := rfl
  have e2 : HT.sIx (ns.map V.int).length (ns.map V.int).length (some (63 : Int)) = min 63 (ns.map V.int).length := HT.sIx_nat _ _ 63
  rw [e1, e2, List.drop_zero, Nat.sub_zero, List.take_of_length_le (by rw [List.length_map]; omega)]
noncomputable def bkN (K : PySem.W.Frag) (F H : Hp) (a : Addr) : Bk where
  K := K
  F0 := F
  H0 := H
  W := fun _ => False
  J := fun _ => True
  rt := a
  jl := fun _ _ _ _ _ => trivial
  jm := fun _ _ _ h => h.elim
theorem col_dp (cols : List Col) : ∀ t ∈ cols.map colT, Dp 2 t := fun t ht => by
  obtain ⟨c, _, rfl⟩ := List.mem_map.mp ht
  exact .tup (dp_cons .str (dp_cons .str dp_nil))
inductive Bad (cols : List Col) : Tr → Prop
  | here {x : Tr} : partV cols x = false → Bad cols x
  | kid {x k : Tr} : k ∈ kidsV x → Bad cols k → Bad cols x
theorem Bad.no {cols : List Col} {x : Tr} (h : Bad cols x) : NoTest cols x (fun k ps => ∃ j y, k ≤ j ∧ ps[j]? = some y ∧ Bad cols y) where
  z := ⟨0, x, Nat.le_refl _, rfl, h⟩
  lt := fun k ps ⟨j, y, hj, e, _⟩ _ => by
    have := (List.getElem?_eq_some_iff.mp e).1
    omega
  st := fun k ps y ⟨j, y', hj, e, hb⟩ _ hy pv => by
    have l := (List.getElem?_eq_some_iff.mp e).1
    rcases Nat.lt_or_eq_of_le hj with z | z
    · exact ⟨j, y', z, by rw [List.getElem?_append_left l]; exact e, hb⟩
    · subst z
      rw [hy] at e
      cases e
      cases hb with
      | here q => rw [pv] at q; cases q
      | kid hk hb =>
        obtain ⟨i, hi⟩ := List.getElem?_of_mem hk
        exact ⟨ps.length + i, _, by omega, by rw [List.getElem?_append_right (by omega), Nat.add_sub_cancel_left]; exact hi, hb⟩
theorem big_no {cols : List Col} {te : Te} (oC : Cok cols) (ok : te.ok cols) (hz : 20 < te.size) : NoTest cols te.tr (fun k ps => ∃ tes : List Te, ps = tes.map Te.tr ∧ (∀ x ∈ tes, x.ok cols) ∧ k ≤ tes.length ∧ 20 < k + szs (tes.drop k)) where
  z := ⟨[te], rfl, fun x hx => by rw [List.mem_singleton.mp hx]; exact ok, Nat.zero_le _, by simp [szs]; exact hz⟩
  lt := fun k ps ⟨tes, e, _, hk, hs⟩ h20 => by
    subst e
    rw [List.length_map]
    rcases Nat.lt_or_eq_of_le hk with z | z
    · exact z
    · rw [z, List.drop_length] at hs
      simp [szs] at hs
      omega
  st := fun k ps y ⟨tes, e, ho, hk, hs⟩ h20 hy pv => by
    subst e
    obtain ⟨x, hx, rfl⟩ := of_map_at hy
    obtain ⟨hlt, ex⟩ := List.getElem?_eq_some_iff.mp hx
    have ed : tes.drop k = x :: tes.drop (k + 1) := by rw [← ex]; exact List.drop_eq_getElem_cons hlt
    have hm : x ∈ tes := List.mem_of_getElem? hx
    have hsz : szs (tes.drop k) = x.size + szs (tes.drop (k + 1)) := by rw [ed]; simp [szs]
    have sk := size_kids x
    have e2 : (tes ++ kidsT x).drop (k + 1) = tes.drop (k + 1) ++ kidsT x := List.drop_append_of_le_length (by omega)
    refine ⟨tes ++ kidsT x, by rw [kidsV_te, List.map_append], fun y hy => ?_, by rw [List.length_append]; omega, by rw [e2, szs_app]; omega⟩
    rcases List.mem_append.mp hy with z | z
    · exact ho y z
    · exact kids_ok (ho x hm) y z
noncomputable def putS (i : Int) (x pl : Tr) : Tr := if i = 0 then .tup [.str "not", x] else if i = 1 then .tup [.str "both", x, pl] else .tup [.str "one", pl, x]
noncomputable def putT (pl : Tr) : List Int → Tr → Tr
  | [], x => x
  | i :: r, x => putT pl r (putS i x pl)
theorem in_not : ("not" : Str) ∈ (["not", "both", "one"] : List Str) := by decide
theorem in_both : ("both" : Str) ∈ (["not", "both", "one"] : List Str) := by decide
theorem in_one : ("one" : Str) ∈ (["not", "both", "one"] : List Str) := by decide
theorem kidsV_w {w : Str} {r : List Tr} (h : w ∈ (["not", "both", "one"] : List Str)) : kidsV (.tup (.str w :: r)) = r := if_pos h
theorem putS_bad {cols : List Col} {i : Int} {x pl : Tr} (h : Bad cols x) : Bad cols (putS i x pl) := by
  unfold putS
  split
  · exact .kid (by rw [kidsV_w in_not]; exact .head _) h
  split
  · exact .kid (by rw [kidsV_w in_both]; exact .head _) h
  · exact .kid (by rw [kidsV_w in_one]; exact .tail _ (.head _)) h
theorem putT_bad {cols : List Col} {pl : Tr} : ∀ {ws : List Int} {x : Tr}, Bad cols x → Bad cols (putT pl ws x)
  | [], _, h => h
  | i :: r, x, h => putT_bad (ws := r) (x := putS i x pl) (putS_bad h)
theorem putS_thg {i : Int} {x pl : Tr} (h : Thg x) (g : Thg pl) : Thg (putS i x pl) := by
  unfold putS
  split
  · exact thg2 (.str (by decide)) h
  split
  · exact thg3 (.str (by decide)) h g
  · exact thg3 (.str (by decide)) g h
theorem putT_thg {pl : Tr} (g : Thg pl) : ∀ {ws : List Int} {x : Tr}, Thg x → Thg (putT pl ws x)
  | [], _, h => h
  | i :: r, x, h => putT_thg g (ws := r) (x := putS i x pl) (putS_thg h g)
theorem putS_te {cols : List Col} {i : Int} {x pl : Te} (h : x.ok cols) (g : pl.ok cols) (s : pl.size = 1) : ∃ y : Te, y.tr = putS i x.tr pl.tr ∧ y.ok cols ∧ y.size ≤ x.size + 2 := by
  unfold putS
  split
  · exact ⟨.nt x, rfl, h, by show x.size + 1 ≤ _; omega⟩
  split
  · exact ⟨.bth x pl, rfl, ⟨h, g⟩, by show x.size + pl.size + 1 ≤ _; omega⟩
  · exact ⟨.one pl x, rfl, ⟨g, h⟩, by show pl.size + x.size + 1 ≤ _; omega⟩
theorem putT_te {cols : List Col} {pl : Te} (g : pl.ok cols) (s : pl.size = 1) : ∀ {ws : List Int} {x : Te}, x.ok cols → ∃ y : Te, y.tr = putT pl.tr ws x.tr ∧ y.ok cols ∧ y.size ≤ x.size + 2 * ws.length
  | [], x, h => ⟨x, rfl, h, by simp⟩
  | i :: r, x, h => by
    obtain ⟨y, e, hy, sy⟩ := putS_te (i := i) h g s
    obtain ⟨z, e2, hz, sz⟩ := putT_te (ws := r) g s hy
    refine ⟨z, by rw [e2, e]; rfl, hz, by rw [List.length_cons]; omega⟩
noncomputable def st_put : SpT := fun _ as Φ _ => ∃ (x pl : Tr) (ws : List Int), as = [.fz x, .fz pl, .fz (.lst (ws.map Tr.int))] ∧ Φ (.fz (putT pl ws x))
theorem okT_l_put (T : Txt K mg t) : FnOk P w K mg base CX0 1 t.f_l_put t.d_l_put ["_law_inner", "_law_plain_here", "_law_wraps"] (toSp K st_put) := by
  refine T.F_l_put.ok sc_l_put (toSp_len (fun B as Φ Ψ h => by obtain ⟨_, _, _, rfl, _⟩ := h; rfl)) (fun cdv A outer s H vs Q E hr h => ?_)
  obtain ⟨B, as, Φ, Ψ, rfl, hS, hx, go⟩ := toSp_open h
  obtain ⟨x, pl, ws, rfl, φ⟩ := hS
  refine ⟨_, (pss_cons (ps_for PassesOwn.never rfl (pi_list (pv 2)) (pg_name (i := 3) sc_l_put.nd rfl (Or.inl rfl)) (pss_one (ps_if (pt_cmpR op_eq (pv 3) pe_int (nomark _)) (pss_one (ps_set (i := 0) sc_l_put.nd rfl (Or.inl rfl) (pe_tup (pa_cons pe_str (pa_cons (pv 0) pa_nil))))) (pss_one (ps_if (pt_cmpR op_eq (pv 3) pe_int (nomark _)) (pss_one (ps_set (i := 0) sc_l_put.nd rfl (Or.inl rfl) (pe_tup (pa_cons pe_str (pa_cons (pv 0) (pa_cons (pv 1) pa_nil)))))) (pss_one (ps_set (i := 0) sc_l_put.nd rfl (Or.inl rfl) (pe_tup (pa_cons pe_str (pa_cons (pv 1) (pa_cons (pv 0) pa_nil)))))))))))
  (pss_one (ps_ret (pv 0)))), go _ _ (s_go (τ := [.fz _, .fz _, .fz _, .no]) rfl ?_)⟩
  walk_at "trun"
  refine ⟨fun i τ => ∃ y u, τ = [.fz y, .fz pl, .fz (.lst (ws.map Tr.int)), u] ∧ putT pl (ws.drop i) y = putT pl ws x, ⟨x, _, rfl, rfl⟩, fun i tt τ2 hi ⟨y, u, e, ey⟩ => ?_, fun τ2 ⟨y, u, e, ey⟩ => ?_⟩
  · subst e
    obtain ⟨j, hj, rfl⟩ := of_map_at hi
    obtain ⟨hlt, ej⟩ := List.getElem?_eq_some_iff.mp hj
    have ed : ws.drop i = j :: ws.drop (i + 1) := by rw [← ej]; exact List.drop_eq_getElem_cons hlt
    rw [ed] at ey
    have ey : putT pl (ws.drop (i + 1)) (putS j y pl) = putT pl ws x := ey
    unfold putS at ey
    walk_at "trun"
    refine z_iteD (fun h => ?_) (fun h => ?_)
    · rw [if_pos h] at ey
      walk_at "trun"
      exact ⟨_, _, rfl, ey⟩
    rw [if_neg h] at ey
    walk_at "trun"
    refine z_iteD (fun h => ?_) (fun h => ?_)
    · rw [if_pos h] at ey
      walk_at "trun"
      exact ⟨_, _, rfl, ey⟩
    rw [if_neg h] at ey
    walk_at "trun"
    exact ⟨_, _, rfl, ey⟩
  · subst e
    rw [List.length_map, List.drop_length] at ey
    have ey : y = putT pl ws x := ey
    subst ey
    walk_at "trun"
    exact φ
noncomputable def b1 (n : Str) : List Tr := [.non, .int 7, .bl true, .str "there", .tup [], .tup [.str "there"], .lst [.str "there", .str n], .tup [.str "there", .str "zzzzzzzz"], .tup [.str "there", .str n, .str n]]
noncomputable def b2 (n : Str) (pl : Tr) : List Tr := [.tup [.str "There", .str n], .tup [.str "there", .lst [.str n]], .tup [.str "there", .non], .tup [.non, .str n], .tup [.str "here", .str n], .lst [pl]]
noncomputable def b3 (n : Str) (pl : Tr) : List Tr := [.tup [.lst [.str "there"], .str n], .tup [.dct [], .str n], .tup [.lst [.str "not"], pl], .tup [.tup [], .str n]]
noncomputable def b4 (w n : Str) (ul : Tr) : List Tr := [.tup [.str w, .str n], .tup [.str w, .str n, .non], .tup [.str w, .str n, .bl true], .tup [.str w, .str n, N2 1 0]] ++ [.tup [.str w, .str n, N2 2 4], .tup [.str w, .str n, N2 1 61], .tup [.str w, .str n, N2 1000000000000000000 1], .tup [.str w, .str n, .str "Aa"]] ++ [.tup [.str w, .str n, .str ""], .tup [.str w, .str n, .str "ninesigns"], .tup [.str w, .str n, .int 364876], .tup [.str w, .str n, .int 3286817]] ++ [.tup [.str w, .str n, .lst [.int 1, .int 1]], .tup [.str w, .str n, ul], .tup [.str w, .str "zzzzzzzz", N2 1 1]] ++ [.tup [.str w, .str n, .tup [.bl true, .int 1]], .tup [.str w, .str n, .tup [.int 1, .bl true]], .tup [.lst [.str w], .str n, N2 1 1]]
noncomputable def b5 (pl : Tr) : List Tr := [.tup [.str "not"], .tup [.str "not", pl, pl], .tup [.str "both", pl], .tup [.str "one", pl], .tup [.str "both", pl, pl, pl]]
noncomputable def b6 (pl : Tr) : List Tr := [.tup [.str "nor", pl, pl], .lst [.str "not", pl], .tup [.str "not", .non], .tup [.str "both", pl, .int 1], .tup [.str "one", .tup [], pl]]
noncomputable def unl (kd : Str) : Tr := if kd = "number" then .str "aa" else N2 1 1
noncomputable def bads (n kd : Str) (pl : Tr) : List Tr := b1 n ++ b2 n pl ++ b3 n pl ++ b4 "same" n (unl kd) ++ b4 "under" n (unl kd) ++ b5 pl ++ b6 pl
noncomputable def st_bad : SpT := fun _ as Φ _ => ∃ (cols : List Col) (n kd : Str) (w : Str) (r : List Tr), as = [.fz (.lst (cols.map colT)), .fz (.tup (.str w :: .str n :: r))] ∧ Cok cols ∧ cols.length ≤ 4 ∧ (n, kd) ∈ cols ∧ Φ (.nw (.lst (bads n kd (.tup (.str w :: .str n :: r)))))
theorem same_col {cols : List Col} {n kd : Str} {c : Col} {j : Nat} (oC : Cok cols) (hm : (n, kd) ∈ cols) (hc : cols[j]? = some c) (e : c.1 = n) : c.2 = kd := by
  obtain ⟨i, hi⟩ := List.getElem?_of_mem hm
  have h1 := ix_of oC hc
  have h2 := ix_of oC hi
  rw [e] at h1
  have h2 : ixOf (cols.map (·.1)) n = some i := h2
  rw [h1] at h2
  cases h2
  rw [hc] at hi
  cases hi
  rfl
theorem kinds0 {cols : List Col} {n kd : Str} {os : List (Option Tr)} (oC : Cok cols) (hm : (n, kd) ∈ cols) (hl : os.length = cols.length) (h : ∀ (j : Nat) (o : Option Tr), os[j]? = some o → ∃ c : Col, cols[j]? = some c ∧ o = if c.1 = n then some (Tr.str c.2) else none) : ∃ r, os.filterMap id = .str kd :: r := by
  have all : ∀ x ∈ os.filterMap id, x = .str kd := fun x hx => by
    obtain ⟨o, ho, e⟩ := List.mem_filterMap.mp hx
    have e : o = some x := e
    subst e
    obtain ⟨j, hj⟩ := List.getElem?_of_mem ho
    obtain ⟨c, hc, eo⟩ := h j _ hj
    by_cases z : c.1 = n
    · rw [if_pos z] at eo
      cases eo
      rw [same_col oC hm hc z]
    · rw [if_neg z] at eo
      cases eo
  have one : Tr.str kd ∈ os.filterMap id := by
    obtain ⟨i, hi⟩ := List.getElem?_of_mem hm
    have hlt : i < os.length := by rw [hl]; exact (List.getElem?_eq_some_iff.mp hi).1
    obtain ⟨c, hc, eo⟩ := h i _ (List.getElem?_eq_getElem hlt)
    rw [hi] at hc
    cases hc
    rw [if_pos rfl] at eo
    exact List.mem_filterMap.mpr ⟨_, List.getElem_mem hlt, by rw [eo]; rfl⟩
  cases hf : os.filterMap id with
  | nil => rw [hf] at one; cases one
  | cons x r => rw [hf] at all; exact ⟨r, by rw [all x (.head _)]⟩
theorem at_unl {kd : Str} : atI [N2 1 1, Tr.str "aa"] (if decide (kd = "number") = true then 1 else 0) = some (unl kd) := by
  unfold unl
  by_cases h : kd = "number"
  · rw [decide_eq_true h, if_pos rfl, if_pos h]; rfl
  · rw [decide_eq_false h, if_neg (by decide), if_neg h]; rfl
noncomputable def accB (L : List Tr) (n : Str) (ul : Tr) : Nat → List Tr
  | 0 => L
  | 1 => L ++ b4 "same" n ul
  | _ => L ++ b4 "same" n ul ++ b4 "under" n ul
theorem okT_l_bad (T : Txt K mg t) : FnOk P w K mg base CX0 1 t.f_l_bad t.d_l_bad ["_law_columns_here", "_law_plain_here"] (toSp K st_bad) := by
  refine T.F_l_bad.ok sc_l_bad (toSp_len (fun B as Φ Ψ h => by obtain ⟨_, _, _, _, _, rfl, _⟩ := h; rfl)) (fun cdv A outer s H vs Q E hr h => ?_)
  obtain ⟨B, as, Φ, Ψ, rfl, hS, hx, go⟩ := toSp_open h
  obtain ⟨cols, n, kd, w', r, rfl, oC, l4, hm, φ⟩ := hS
  refine' ⟨_, ?h, ?g⟩
  case h =>
   refine' pss_cons ?x1_0 ?x1_1
   case x1_0 => exact (ps_set (i := 2) sc_l_bad.nd rfl (Or.inr rfl) (pe_ix ix_tup (pv 1) pe_int (fun _ _ => rfl)))
   case x1_1 =>
    refine' pss_cons ?x2_0 ?x2_1
    case x2_0 => exact (ps_set (i := 3) sc_l_bad.nd rfl (Or.inl rfl) (pe_ix ix_list (pe_lcPIf (fr := [("_law_name_here", 2)]) rfl (compOkG2_of (osc := defScope s_l_bad) (N := ["_law_columns_here", "_law_plain_here", "_law_name_here", "_law_kind", "_law_unlike", "_law_some", "_law_word_here"]) rfl rfl (by decide +kernel) (by decide +kernel) (by decide)) (pi_list (pv 0)) (fun _ _ _ _ _ => (pt_cmpR op_eq (pv 0) (pv 2) (nomark _))) (fun _ _ _ _ _ => (pv 1))) pe_int (fun _ _ => rfl)))
    case x2_1 =>
     refine' pss_cons ?x3_0 ?x3_1
     case x3_0 => exact (ps_set (i := 4) sc_l_bad.nd rfl (Or.inl rfl) (pe_ix ix_list (pe_lst (pa_cons (pe_tup (pa_cons pe_int (pa_cons pe_int pa_nil))) (pa_cons pe_str pa_nil))) (pe_callTy call_int1 rfl T.z_int bt_int (pa_cons (pe_cmpR op_eq (pv 3) pe_str (nomark _)) pa_nil)) (fun _ _ => rfl)))
     case x3_1 =>
      refine' pss_cons ?x4_0 ?x4_1
      case x4_0 =>
       refine' ps_set (i := 5) ?x5_0 ?x5_1 ?x5_2 ?x5_3 ?y5 ?z5
       case y5 => rfl
       case z5 => exact .inr rfl
       case x5_0 => exact sc_l_bad.nd
       case x5_1 => exact rfl
       case x5_2 => exact (Or.inl rfl)
       case x5_3 =>
        refine' pe_lst ?x6_0
        case x6_0 =>
         refine' pa_cons ?x7_0 ?x7_1
         case x7_0 => exact pe_non
         case x7_1 =>
          refine' pa_cons ?x8_0 ?x8_1
          case x8_0 => exact pe_int
          case x8_1 =>
           refine' pa_cons ?x9_0 ?x9_1
           case x9_0 => exact pe_bl
           case x9_1 =>
            refine' pa_cons ?x10_0 ?x10_1
            case x10_0 => exact pe_str
            case x10_1 =>
             refine' pa_cons ?x11_0 ?x11_1
             case x11_0 => exact (pe_tup pa_nil)
             case x11_1 =>
              refine' pa_cons ?x12_0 ?x12_1
              case x12_0 => exact (pe_tup (pa_cons pe_str pa_nil))
              case x12_1 =>
               refine' pa_cons ?x13_0 ?x13_1
               case x13_0 => exact (pe_lst (pa_cons pe_str (pa_cons (pv 2) pa_nil)))
               case x13_1 =>
                refine' pa_cons ?x14_0 ?x14_1
                case x14_0 => exact (pe_tup (pa_cons pe_str (pa_cons pe_str pa_nil)))
                case x14_1 =>
                 refine' pa_cons ?x15_0 ?x15_1
                 case x15_0 => exact (pe_tup (pa_cons pe_str (pa_cons (pv 2) (pa_cons (pv 2) pa_nil))))
                 case x15_1 => exact pa_nil
      case x4_1 =>
       refine' pss_cons ?x16_0 ?x16_1
       case x16_0 =>
        refine' ps_set (i := 5) ?x17_0 ?x17_1 ?x17_2 ?x17_3 ?y17 ?z17
        case y17 => rfl
        case z17 => exact .inr rfl
        case x17_0 => exact sc_l_bad.nd
        case x17_1 => exact rfl
        case x17_2 => exact (Or.inl rfl)
        case x17_3 =>
         refine' pe_op ?x18_0 ?x18_1 ?x18_2
         case x18_0 => exact op_catL
         case x18_1 => exact (pv 5)
         case x18_2 =>
          refine' pe_lst ?x19_0
          case x19_0 =>
           refine' pa_cons ?x20_0 ?x20_1
           case x20_0 => exact (pe_tup (pa_cons pe_str (pa_cons (pv 2) pa_nil)))
           case x20_1 =>
            refine' pa_cons ?x21_0 ?x21_1
            case x21_0 => exact (pe_tup (pa_cons pe_str (pa_cons (pe_lst (pa_cons (pv 2) pa_nil)) pa_nil)))
            case x21_1 =>
             refine' pa_cons ?x22_0 ?x22_1
             case x22_0 => exact (pe_tup (pa_cons pe_str (pa_cons pe_non pa_nil)))
             case x22_1 =>
              refine' pa_cons ?x23_0 ?x23_1
              case x23_0 => exact (pe_tup (pa_cons pe_non (pa_cons (pv 2) pa_nil)))
              case x23_1 =>
               refine' pa_cons ?x24_0 ?x24_1
               case x24_0 => exact (pe_tup (pa_cons pe_str (pa_cons (pv 2) pa_nil)))
               case x24_1 =>
                refine' pa_cons ?x25_0 ?x25_1
                case x25_0 => exact (pe_lst (pa_cons (pv 1) pa_nil))
                case x25_1 => exact pa_nil
       case x16_1 =>
        refine' pss_cons ?x26_0 ?x26_1
        case x26_0 => exact (ps_set (i := 5) sc_l_bad.nd rfl (Or.inl rfl) (pe_op op_catL (pv 5) (pe_lst (pa_cons (pe_tup (pa_cons (pe_lst (pa_cons pe_str pa_nil)) (pa_cons (pv 2) pa_nil))) (pa_cons (pe_tup (pa_cons pe_dnewK (pa_cons (pv 2) pa_nil))) (pa_cons (pe_tup (pa_cons (pe_lst (pa_cons pe_str pa_nil)) (pa_cons (pv 1) pa_nil))) (pa_cons (pe_tup (pa_cons (pe_tup pa_nil) (pa_cons (pv 2) pa_nil))) pa_nil)))))))
        case x26_1 =>
         refine' pss_cons ?x27_0 ?x27_1
         case x27_0 => exact (ps_for PassesOwn.never rfl (pi_list (pe_lst (pa_cons pe_str (pa_cons pe_str pa_nil)))) (pg_name (i := 6) sc_l_bad.nd rfl (Or.inl rfl)) (pss_cons (ps_set (i := 5) sc_l_bad.nd rfl (Or.inl rfl) (pe_op op_catL (pv 5) (pe_lst (pa_cons (pe_tup (pa_cons (pv 6) (pa_cons (pv 2) pa_nil))) (pa_cons (pe_tup (pa_cons (pv 6) (pa_cons (pv 2) (pa_cons pe_non pa_nil)))) (pa_cons (pe_tup (pa_cons (pv 6) (pa_cons (pv 2) (pa_cons pe_bl pa_nil)))) (pa_cons (pe_tup (pa_cons (pv 6) (pa_cons (pv 2) (pa_cons (pe_tup (pa_cons pe_int (pa_cons pe_int pa_nil))) pa_nil)))) pa_nil))))))) (pss_cons (ps_set (i := 5) sc_l_bad.nd rfl (Or.inl rfl) (pe_op op_catL (pv 5) (pe_lst (pa_cons (pe_tup (pa_cons (pv 6) (pa_cons (pv 2) (pa_cons (pe_tup (pa_cons pe_int (pa_cons pe_int pa_nil))) pa_nil)))) (pa_cons (pe_tup (pa_cons (pv 6) (pa_cons (pv 2) (pa_cons (pe_tup (pa_cons pe_int (pa_cons pe_int pa_nil))) pa_nil)))) (pa_cons (pe_tup (pa_cons (pv 6) (pa_cons (pv 2) (pa_cons (pe_tup (pa_cons (pe_op op_pow pe_int pe_int) (pa_cons pe_int pa_nil))) pa_nil)))) (pa_cons (pe_tup (pa_cons (pv 6) (pa_cons (pv 2) (pa_cons pe_str pa_nil)))) pa_nil))))))) (pss_cons (ps_set (i := 5) sc_l_bad.nd rfl (Or.inl rfl) (pe_op op_catL (pv 5) (pe_lst (pa_cons (pe_tup (pa_cons (pv 6) (pa_cons (pv 2) (pa_cons pe_str pa_nil)))) (pa_cons (pe_tup (pa_cons (pv 6) (pa_cons (pv 2) (pa_cons pe_str pa_nil)))) (pa_cons (pe_tup (pa_cons (pv 6) (pa_cons (pv 2) (pa_cons pe_int pa_nil)))) (pa_cons (pe_tup (pa_cons (pv 6) (pa_cons (pv 2) (pa_cons pe_int pa_nil)))) pa_nil))))))) (pss_cons (ps_set (i := 5) sc_l_bad.nd rfl (Or.inl rfl) (pe_op op_catL (pv 5) (pe_lst (pa_cons (pe_tup (pa_cons (pv 6) (pa_cons (pv 2) (pa_cons (pe_lst (pa_cons pe_int (pa_cons pe_int pa_nil))) pa_nil)))) (pa_cons (pe_tup (pa_cons (pv 6) (pa_cons (pv 2) (pa_cons (pv 4) pa_nil)))) (pa_cons (pe_tup (pa_cons (pv 6) (pa_cons pe_str (pa_cons (pe_tup (pa_cons pe_int (pa_cons pe_int pa_nil))) pa_nil)))) pa_nil)))))) (pss_one (ps_set (i := 5) sc_l_bad.nd rfl (Or.inl rfl) (pe_op op_catL (pv 5) (pe_lst (pa_cons (pe_tup (pa_cons (pv 6) (pa_cons (pv 2) (pa_cons (pe_tup (pa_cons pe_bl (pa_cons pe_int pa_nil))) pa_nil)))) (pa_cons (pe_tup (pa_cons (pv 6) (pa_cons (pv 2) (pa_cons (pe_tup (pa_cons pe_int (pa_cons pe_bl pa_nil))) pa_nil)))) (pa_cons (pe_tup (pa_cons (pe_lst (pa_cons (pv 6) pa_nil)) (pa_cons (pv 2) (pa_cons (pe_tup (pa_cons pe_int (pa_cons pe_int pa_nil))) pa_nil)))) pa_nil))))))))))))
         case x27_1 =>
          refine' pss_cons ?x28_0 ?x28_1
          case x28_0 =>
           refine' ps_set (i := 5) ?x29_0 ?x29_1 ?x29_2 ?x29_3 ?y29 ?z29
           case y29 => rfl
           case z29 => exact .inr rfl
           case x29_0 => exact sc_l_bad.nd
           case x29_1 => exact rfl
           case x29_2 => exact (Or.inl rfl)
           case x29_3 =>
            refine' pe_op ?x30_0 ?x30_1 ?x30_2
            case x30_0 => exact op_catL
            case x30_1 => exact (pv 5)
            case x30_2 =>
             refine' pe_lst ?x31_0
             case x31_0 =>
              refine' pa_cons ?x32_0 ?x32_1
              case x32_0 => exact (pe_tup (pa_cons pe_str pa_nil))
              case x32_1 =>
               refine' pa_cons ?x33_0 ?x33_1
               case x33_0 => exact (pe_tup (pa_cons pe_str (pa_cons (pv 1) (pa_cons (pv 1) pa_nil))))
               case x33_1 =>
                refine' pa_cons ?x34_0 ?x34_1
                case x34_0 => exact (pe_tup (pa_cons pe_str (pa_cons (pv 1) pa_nil)))
                case x34_1 =>
                 refine' pa_cons ?x35_0 ?x35_1
                 case x35_0 => exact (pe_tup (pa_cons pe_str (pa_cons (pv 1) pa_nil)))
                 case x35_1 =>
                  refine' pa_cons ?x36_0 ?x36_1
                  case x36_0 => exact (pe_tup (pa_cons pe_str (pa_cons (pv 1) (pa_cons (pv 1) (pa_cons (pv 1) pa_nil)))))
                  case x36_1 => exact pa_nil
          case x28_1 =>
           refine' pss_one ?x37_0
           case x37_0 =>
            refine' ps_ret ?x38_0
            case x38_0 =>
             refine' pe_op ?x39_0 ?x39_1 ?x39_2
             case x39_0 => exact op_catL
             case x39_1 => exact (pv 5)
             case x39_2 =>
              refine' pe_lst ?x40_0
              case x40_0 =>
               refine' pa_cons ?x41_0 ?x41_1
               case x41_0 => exact (pe_tup (pa_cons pe_str (pa_cons (pv 1) (pa_cons (pv 1) pa_nil))))
               case x41_1 =>
                refine' pa_cons ?x42_0 ?x42_1
                case x42_0 => exact (pe_lst (pa_cons pe_str (pa_cons (pv 1) pa_nil)))
                case x42_1 =>
                 refine' pa_cons ?x43_0 ?x43_1
                 case x43_0 => exact (pe_tup (pa_cons pe_str (pa_cons pe_non pa_nil)))
                 case x43_1 =>
                  refine' pa_cons ?x44_0 ?x44_1
                  case x44_0 => exact (pe_tup (pa_cons pe_str (pa_cons (pv 1) (pa_cons pe_int pa_nil))))
                  case x44_1 =>
                   refine' pa_cons ?x45_0 ?x45_1
                   case x45_0 => exact (pe_tup (pa_cons pe_str (pa_cons (pe_tup pa_nil) (pa_cons (pv 1) pa_nil))))
                   case x45_1 => exact pa_nil
  refine go _ _ (s_go (τ := [.fz _, .fz _, .no, .no, .no, .no, .no]) rfl ?_)
  walk_at "trun"
  generalize Tr.tup (Tr.str w' :: Tr.str n :: r) = pl at φ ⊢
  refine e_lcP rfl (i_list rfl ?_)
  walk_at "trun"
  refine ⟨_, .fz (by walk_at "tg") .nil, by rw [List.length_map]; omega, fun j o => ∃ c : Col, cols[j]? = some c ∧ o = if c.1 = n then some (Tr.str c.2) else none, fun j tt hj => ?_, fun os hlo hos => ?_⟩
  · obtain ⟨c, hc, rfl⟩ := of_map_at hj
    refine ⟨.str c.1, .str c.2, rfl, ?_⟩
    walk_at "trun"
    refine z_iteD (fun h => ?_) (fun h => ?_)
    · walk_at "trun"
      exact ⟨c, hc, (if_pos h).symm⟩
    · exact ⟨c, hc, (if_neg h).symm⟩
  obtain ⟨ks, ek⟩ := kinds0 oC hm (by rw [hlo, List.length_map]) hos
  rw [ek]
  walk_at "trun"
  refine ro_ixL rfl (by walk_at "rk") at0T ?_
  walk_at "trun"
  refine ro_ixL rfl (by walk_at "rk") at_unl ?_
  walk_at "trun"
  refine ro_catL (ts := b1 n) (us := b2 n pl) rfl (by walk_at "rk") (by walk_at "rk") (Nat.le_of_ble_eq_true rfl) ?_
  walk_at "trun"
  refine e_dnew ?_
  walk_at "trun"
  refine ro_catL (ts := b1 n ++ b2 n pl) (us := b3 n pl) rfl (by walk_at "rk") (by walk_at "rk") (Nat.le_of_ble_eq_true rfl) ?_
  walk_at "trun"
  generalize hL : b1 n ++ b2 n pl ++ b3 n pl = L
  have lL : L.length = 19 := by rw [← hL]; rfl
  refine ⟨fun i τ => ∃ u, τ = [.fz (.lst (cols.map colT)), .fz pl, .fz (.str n), .fz (.str kd), .fz (unl kd), .own (.lst (accB L n (unl kd) i)), u], ⟨_, rfl⟩, fun i tt τ2 hi ⟨u, e⟩ => ?_, fun τ2 ⟨u, e⟩ => ?_⟩
  · subst e
    obtain ⟨w2, hw2, rfl⟩ : ∃ w2 : Str, (["same", "under"] : List Str)[i]? = some w2 ∧ tt = .str w2 := by
      obtain ⟨x, hx, rfl⟩ := of_map_at (g := Tr.str) (xs := (["same", "under"] : List Str)) hi
      exact ⟨x, hx, rfl⟩
    have hM : (accB L n (unl kd) i).length ≤ 60 ∧ accB L n (unl kd) (i + 1) = accB L n (unl kd) i ++ b4 w2 n (unl kd) := by
      match i, hw2 with
      | 0, h => cases h; exact ⟨by show L.length ≤ 60; omega, rfl⟩
      | 1, h =>
        cases h
        refine ⟨?_, rfl⟩
        show (L ++ b4 "same" n (unl kd)).length ≤ 60
        rw [List.length_append, lL]
        exact Nat.le_of_ble_eq_true rfl
    obtain ⟨hM, hN⟩ := hM
    generalize accB L n (unl kd) i = M at hM hN ⊢
    walk_at "trun"
    refine ro_catL (ts := M) rfl (by walk_at "rk") (by walk_at "rk") ?_ ?_
    · show (M.length) + 4 ≤ 100000
      omega
    walk_at "trun"
    refine ro_catL rfl (by walk_at "rk") (by walk_at "rk") ?_ ?_
    · rw [List.length_append]
      show (M.length + 4) + 4 ≤ 100000
      omega
    walk_at "trun"
    refine ro_catL rfl (by walk_at "rk") (by walk_at "rk") ?_ ?_
    · rw [List.length_append, List.length_append]
      show (M.length + 4 + 4) + 4 ≤ 100000
      omega
    walk_at "trun"
    refine ro_catL rfl (by walk_at "rk") (by walk_at "rk") ?_ ?_
    · rw [List.length_append, List.length_append, List.length_append]
      show (M.length + 4 + 4 + 4) + 3 ≤ 100000
      omega
    walk_at "trun"
    refine ro_catL rfl (by walk_at "rk") (by walk_at "rk") ?_ ?_
    · rw [List.length_append, List.length_append, List.length_append, List.length_append]
      show (M.length + 4 + 4 + 4 + 3) + 3 ≤ 100000
      omega
    walk_at "trun"
    refine ⟨.fz (.str w2), ?_⟩
    rw [hN]
    unfold b4
    simp only [List.append_assoc]
    rfl
  · subst e
    have lA : (accB L n (unl kd) 2).length ≤ 60 := by
      show (L ++ b4 "same" n (unl kd) ++ b4 "under" n (unl kd)).length ≤ 60
      rw [List.length_append, List.length_append, lL]
      exact Nat.le_of_ble_eq_true rfl
    have φ : Φ (.nw (.lst (accB L n (unl kd) 2 ++ b5 pl ++ b6 pl))) := by
      rw [← hL]
      exact φ
    have e2 : ([Tr.str "same", Tr.str "under"] : List Tr).length = 2 := rfl
    rw [e2]
    generalize accB L n (unl kd) 2 = M at *
    walk_at "trun"
    refine ro_catL (us := b5 pl) rfl (by walk_at "rk") (by walk_at "rk") (show M.length + 5 ≤ 100000 by omega) ?_
    walk_at "trun"
    refine ro_catL (us := b6 pl) rfl (by walk_at "rk") (by walk_at "rk") (show (M ++ b5 pl).length + 5 ≤ 100000 by rw [List.length_append]; show M.length + 5 + 5 ≤ 100000; omega) ?_
    walk_at "trun"
    exact rt_nw φ
local macro_rules | `(tactic| walk_at "thg") => `(tactic| repeat' (first | assumption | exact Thg.non | exact Thg.bl | exact Thg.int | exact Thg.dct | exact Thg.str (by decide) | refine Thg.tup (Nat.le_of_ble_eq_true rfl) ?_ | refine Thg.lst (Nat.le_of_ble_eq_true rfl) ?_ | exact List.forall_mem_nil _ | refine List.forall_mem_cons.mpr ⟨?_, ?_⟩))
noncomputable def OkB (cols : List Col) (x : Tr) : Prop := Thg x ∧ Bad cols x
theorem partW_odd {cols : List Col} {w : Str} {b : Tr} {r : List Tr} (h1 : w ≠ "there") (h2 : w ∉ (["same", "under"] : List Str)) (h3 : w ≠ "not") (h4 : w ∉ (["both", "one"] : List Str)) : partW cols w b r = false := by
  unfold partW
  rw [if_neg h1, if_neg h2, if_neg h3, decide_eq_false h4]
  rfl
theorem partW_there {cols : List Col} {b : Tr} {r : List Tr} (h : (r.isEmpty && (kindV cols b).isSome) = false) : partW cols "there" b r = false := by
  unfold partW
  rw [if_pos rfl]
  exact h
theorem partW_not {cols : List Col} {b c : Tr} {r : List Tr} : partW cols "not" b (c :: r) = false := by
  unfold partW
  rw [if_neg (by decide), if_neg (by decide), if_pos rfl]
  rfl
theorem partW_two {cols : List Col} {w : Str} {b : Tr} {r : List Tr} (h : w ∈ (["both", "one"] : List Str)) (hr : (r.length == 1) = false) : partW cols w b r = false := by
  unfold partW
  have n1 : w ≠ "there" := fun e => by rw [e] at h; revert h; decide
  have n2 : w ∉ (["same", "under"] : List Str) := fun e => by
    rcases List.mem_cons.mp e with z | z
    · rw [z] at h; revert h; decide
    · rw [List.mem_singleton.mp z] at h; revert h; decide
  have n3 : w ≠ "not" := fun e => by rw [e] at h; revert h; decide
  rw [if_neg n1, if_neg n2, if_neg n3, hr, Bool.and_false]
theorem zz_out {cols : List Col} (oC : Cok cols) : kindV cols (.str "zzzzzzzz") = none := kind_out fun h => by
  obtain ⟨c, hc, e⟩ := List.mem_map.mp h
  have := oC.nz c hc
  rw [e] at this
  exact this 122 (by decide) rfl
theorem no_cell {kd : Str} {x : Pv} (hk : KdS kd) (hn : x ≠ .non) (h1 : toldN x = false) (h2 : toldD x = false) (h3 : toldW x = false) : toldC kd x = false := by
  rw [toldC_ne hn]
  rcases hk with rfl | rfl | rfl
  · rw [if_pos rfl]; exact h1
  · rw [if_neg (by decide), if_neg (by decide), h3, Bool.and_false]
  · rw [if_neg (by decide), if_pos rfl]; exact h2
theorem unl_no {kd : Str} (hk : KdS kd) : toldC kd (pvT (unl kd)) = false := by
  rcases hk with rfl | rfl | rfl
  · rfl
  · rfl
  · rfl
theorem cell_no {cols : List Col} {w n kd : Str} {x : Tr} (h1 : w ≠ "there") (h2 : w ∈ (["same", "under"] : List Str)) (oC : Cok cols) (hm : (n, kd) ∈ cols) (h : toldC kd (pvT x) = false) : Bad cols (.tup [.str w, .str n, x]) := by
  refine .here ?_
  show partW cols w (.str n) [x] = false
  rw [partW_cell h1 h2]
  show (!x.isN && (match kindV cols (.str n) with | some k => toldC k (pvT x) | none => false)) = false
  rw [kind_in oC hm]
  show (!x.isN && toldC kd (pvT x)) = false
  rw [h, Bool.and_false]
section
variable {cols : List Col} {n kd w : Str} {pl : Tr}
theorem b1_ok (oC : Cok cols) (hn : Thg (.str n)) : ∀ x ∈ b1 n, OkB cols x := by
  unfold b1
  refine List.forall_mem_cons.mpr ⟨⟨.non, .here rfl⟩, List.forall_mem_cons.mpr ⟨⟨.int, .here rfl⟩, List.forall_mem_cons.mpr ⟨⟨.bl, .here rfl⟩, List.forall_mem_cons.mpr ⟨⟨.str (by decide), .here rfl⟩, List.forall_mem_cons.mpr ⟨⟨by walk_at "thg", .here rfl⟩, List.forall_mem_cons.mpr ⟨⟨by walk_at "thg", .here partV_1⟩, List.forall_mem_cons.mpr ⟨⟨by walk_at "thg", .here rfl⟩, List.forall_mem_cons.mpr ⟨⟨by walk_at "thg", .here (partW_there ?_)⟩, List.forall_mem_cons.mpr ⟨⟨by walk_at "thg", .here (partW_there rfl)⟩, List.forall_mem_nil _⟩⟩⟩⟩⟩⟩⟩⟩⟩
  rw [zz_out oC]
  rfl
theorem b2_ok (hn : Thg (.str n)) (hp : Thg pl) : ∀ x ∈ b2 n pl, OkB cols x := by
  unfold b2
  exact List.forall_mem_cons.mpr ⟨⟨by walk_at "thg", .here (partW_odd (by decide) (by decide) (by decide) (by decide))⟩, List.forall_mem_cons.mpr ⟨⟨by walk_at "thg", .here (partW_there rfl)⟩, List.forall_mem_cons.mpr ⟨⟨by walk_at "thg", .here (partW_there rfl)⟩, List.forall_mem_cons.mpr ⟨⟨by walk_at "thg", .here rfl⟩, List.forall_mem_cons.mpr ⟨⟨by walk_at "thg", .here (partW_odd (by decide) (by decide) (by decide) (by decide))⟩, List.forall_mem_cons.mpr ⟨⟨by walk_at "thg", .here rfl⟩, List.forall_mem_nil _⟩⟩⟩⟩⟩⟩
theorem b3_ok (hn : Thg (.str n)) (hp : Thg pl) : ∀ x ∈ b3 n pl, OkB cols x := by
  unfold b3
  exact List.forall_mem_cons.mpr ⟨⟨by walk_at "thg", .here rfl⟩, List.forall_mem_cons.mpr ⟨⟨by walk_at "thg", .here rfl⟩, List.forall_mem_cons.mpr ⟨⟨by walk_at "thg", .here rfl⟩, List.forall_mem_cons.mpr ⟨⟨by walk_at "thg", .here rfl⟩, List.forall_mem_nil _⟩⟩⟩⟩
theorem b4_ok (h1 : w ≠ "there") (h2 : w ∈ (["same", "under"] : List Str)) (hw : Thg (.str w)) (oC : Cok cols) (hm : (n, kd) ∈ cols) (hn : Thg (.str n)) (hu : Thg (unl kd)) : ∀ x ∈ b4 w n (unl kd), OkB cols x := by
  have hk := oC.kd _ hm
  have c : ∀ {x : Tr}, Thg x → toldC kd (pvT x) = false → OkB cols (.tup [.str w, .str n, x]) := fun hx h => ⟨thg3 hw hn hx, cell_no h1 h2 oC hm h⟩
  have d : ∀ {x : Tr}, Thg x → pvT x ≠ .non → toldN (pvT x) = false → toldD (pvT x) = false → toldW (pvT x) = false → OkB cols (.tup [.str w, .str n, x]) := fun hx a1 a2 a3 a4 => c hx (no_cell hk a1 a2 a3 a4)
  have nn : ∀ {a b : Int}, Thg (N2 a b) := fun {a b} => by unfold N2; walk_at "thg"
  unfold b4
  refine List.forall_mem_append.mpr ⟨List.forall_mem_append.mpr ⟨List.forall_mem_append.mpr ⟨List.forall_mem_append.mpr ⟨?_, ?_⟩, ?_⟩, ?_⟩, ?_⟩
  · refine List.forall_mem_cons.mpr ⟨⟨thg2 hw hn, .here ?_⟩, List.forall_mem_cons.mpr ⟨⟨thg3 hw hn .non, .here ?_⟩, List.forall_mem_cons.mpr ⟨d .bl nofun rfl rfl rfl, List.forall_mem_cons.mpr ⟨d nn nofun (by decide) rfl rfl, List.forall_mem_nil _⟩⟩⟩⟩
    · show partW cols w (.str n) [] = false
      rw [partW_cell h1 h2]; rfl
    · show partW cols w (.str n) [.non] = false
      rw [partW_cell h1 h2]; rfl
  · exact List.forall_mem_cons.mpr ⟨d nn nofun (by decide) rfl rfl, List.forall_mem_cons.mpr ⟨d nn nofun (by decide) rfl rfl, List.forall_mem_cons.mpr ⟨d nn nofun (by decide) rfl rfl, List.forall_mem_cons.mpr ⟨d (.str (by decide)) nofun rfl rfl (by decide), List.forall_mem_nil _⟩⟩⟩⟩
  · exact List.forall_mem_cons.mpr ⟨d (.str (by decide)) nofun rfl rfl (by decide), List.forall_mem_cons.mpr ⟨d (.str (by decide)) nofun rfl rfl (by decide), List.forall_mem_cons.mpr ⟨d .int nofun rfl (by decide) rfl, List.forall_mem_cons.mpr ⟨d .int nofun rfl (by decide) rfl, List.forall_mem_nil _⟩⟩⟩⟩
  · refine List.forall_mem_cons.mpr ⟨d (by walk_at "thg") nofun rfl rfl rfl, List.forall_mem_cons.mpr ⟨c hu (unl_no hk), List.forall_mem_cons.mpr ⟨⟨thg3 hw (.str (by decide)) nn, .here ?_⟩, List.forall_mem_nil _⟩⟩⟩
    show partW cols w (.str "zzzzzzzz") [N2 1 1] = false
    rw [partW_cell h1 h2]
    show (!(N2 1 1).isN && (match kindV cols (.str "zzzzzzzz") with | some k => toldC k (pvT (N2 1 1)) | none => false)) = false
    rw [zz_out oC]
    rfl
  · exact List.forall_mem_cons.mpr ⟨d (by walk_at "thg") nofun rfl rfl rfl, List.forall_mem_cons.mpr ⟨d (by walk_at "thg") nofun rfl rfl rfl, List.forall_mem_cons.mpr ⟨⟨thg3 (by walk_at "thg") hn nn, .here rfl⟩, List.forall_mem_nil _⟩⟩⟩
theorem b5_ok (hp : Thg pl) : ∀ x ∈ b5 pl, OkB cols x := by
  unfold b5
  exact List.forall_mem_cons.mpr ⟨⟨by walk_at "thg", .here partV_1⟩, List.forall_mem_cons.mpr ⟨⟨by walk_at "thg", .here partW_not⟩, List.forall_mem_cons.mpr ⟨⟨by walk_at "thg", .here (partW_two (by decide) rfl)⟩, List.forall_mem_cons.mpr ⟨⟨by walk_at "thg", .here (partW_two (by decide) rfl)⟩, List.forall_mem_cons.mpr ⟨⟨by walk_at "thg", .here (partW_two (by decide) rfl)⟩, List.forall_mem_nil _⟩⟩⟩⟩⟩
theorem b6_ok (hp : Thg pl) : ∀ x ∈ b6 pl, OkB cols x := by
  unfold b6
  exact List.forall_mem_cons.mpr ⟨⟨by walk_at "thg", .here (partW_odd (by decide) (by decide) (by decide) (by decide))⟩, List.forall_mem_cons.mpr ⟨⟨by walk_at "thg", .here rfl⟩, List.forall_mem_cons.mpr ⟨⟨by walk_at "thg", .kid (by rw [kidsV_w in_not]; exact .head _) (.here rfl)⟩, List.forall_mem_cons.mpr ⟨⟨by walk_at "thg", .kid (by rw [kidsV_w in_both]; exact .tail _ (.head _)) (.here rfl)⟩, List.forall_mem_cons.mpr ⟨⟨by walk_at "thg", .kid (by rw [kidsV_w in_one]; exact .head _) (.here rfl)⟩, List.forall_mem_nil _⟩⟩⟩⟩⟩
theorem bads_ok (oC : Cok cols) (hm : (n, kd) ∈ cols) (hp : Thg pl) : ∀ x ∈ bads n kd pl, OkB cols x := by
  have hn : Thg (.str n) := thg_word (oC.nm _ hm)
  have hu : Thg (unl kd) := by
    unfold unl
    split
    · exact .str (by decide)
    · unfold N2; walk_at "thg"
  unfold bads
  exact List.forall_mem_append.mpr ⟨List.forall_mem_append.mpr ⟨List.forall_mem_append.mpr ⟨List.forall_mem_append.mpr ⟨List.forall_mem_append.mpr ⟨List.forall_mem_append.mpr ⟨b1_ok oC hn, b2_ok hn hp⟩, b3_ok hn hp⟩, b4_ok (by decide) same_in (.str (by decide)) oC hm hn hu⟩, b4_ok (by decide) under_in (.str (by decide)) oC hm hn hu⟩, b5_ok hp⟩, b6_ok hp⟩
end
theorem toSp_at {K : PySem.W.Frag} {S : SpT} {vs : List V} {H : Hp} {Q : VK} {E : XK} {a : Addr} {as : List Ar} {Φ : Kd → Prop} (la : ArL (bkN K H H a) H vs as) (s : S (bkN K H H a) as Φ fun _ => False) (q : ∀ v F' H' k, Same H H' → Same F' H' → Same H F' → RetOk (bkN K H H a) F' H' v k → Φ k → Q v H') : toSp K S vs H Q E :=
  ⟨bkN K H H a, as, Φ, fun _ => False, rfl, rfl, ⟨Same.refl _, fun _ h => h.elim, fun _ h => h.elim, trivial⟩, la, s, fun v F' H' k u r p => q v F' H' k (fun p o e => u.h p o (fun h => h) e) u.i u.f r p, fun _ _ _ _ h => h.elim⟩
theorem a_istest {K : PySem.W.Frag} {H : Hp} {Q : VK} {E : XK} {p : Addr} {us : List V} {cols : List Col} {v : V} {x : Tr} (b : Bool) (hp : SqL K H p us) (hc : IsL K H us (cols.map colT)) (hv : Is K H v x) (g : Thg x) (h : (b = true ∧ Cok cols ∧ ∃ te : Te, x = te.tr ∧ te.ok cols ∧ te.size ≤ 20) ∨ (b = false ∧ ∃ J, NoTest cols x J)) (q : ∀ H', Same H H' → Q (.bl b) H') : toSp K st_istest [v, .ref p] H Q E :=
  toSp_at (a := p) (as := [.fz x, .fz (.lst (cols.map colT))]) (Φ := fun k => k = .fz (.bl b)) (.cons hv (.cons (.lst hp hc) .nil)) ⟨cols, x, b, rfl, g, h, rfl⟩ fun v F' H' k s _ _ r e => by
    subst e
    cases r
    exact q H' s
theorem a_put {K : PySem.W.Frag} {H : Hp} {Q : VK} {E : XK} {p : Addr} {us : List V} {ws : List Int} {v u : V} {x pl : Tr} (hp : SqL K H p us) (hw : IsL K H us (ws.map Tr.int)) (hv : Is K H v x) (hu : Is K H u pl) (q : ∀ v' H', Same H H' → Is K H' v' (putT pl ws x) → Q v' H') : toSp K st_put [v, u, .ref p] H Q E :=
  toSp_at (a := p) (as := [.fz x, .fz pl, .fz (.lst (ws.map Tr.int))]) (Φ := fun k => k = .fz (putT pl ws x)) (.cons hv (.cons hu (.cons (.lst hp hw) .nil))) ⟨x, pl, ws, rfl, rfl⟩ fun v F' H' k s i _ r e => by
    subst e
    exact q v H' s (Is.same i r)
theorem a_bad {K : PySem.W.Frag} {H : Hp} {Q : VK} {E : XK} {p : Addr} {us : List V} {cols : List Col} {v : V} {n kd w : Str} {r : List Tr} (hp : SqL K H p us) (hc : IsL K H us (cols.map colT)) (hv : Is K H v (.tup (.str w :: .str n :: r))) (oC : Cok cols) (l4 : cols.length ≤ 4) (hm : (n, kd) ∈ cols) (q : ∀ l vs H', Same H H' → H' l = some (.lst vs) → H l = none → IsL K H' vs (bads n kd (.tup (.str w :: .str n :: r))) → Q (.ref l) H') : toSp K st_bad [.ref p, v] H Q E :=
  toSp_at (a := p) (as := [.fz (.lst (cols.map colT)), .fz (.tup (.str w :: .str n :: r))]) (Φ := fun k => k = .nw (.lst (bads n kd (.tup (.str w :: .str n :: r))))) (.cons (.lst hp hc) (.cons hv .nil)) ⟨cols, n, kd, w, r, rfl, oC, l4, hm, rfl⟩ fun v F' H' k s i _ r e => by
    subst e
    obtain ⟨l, rfl, ow, _, hn⟩ := r
    cases ow with
    | lst h g => exact q l _ H' s h hn (IsL.same i g)
noncomputable def sp_manyparts (K : PySem.W.Frag) : Sp := fun vs H Q _ => ∃ (r l : Addr) (n : Nat) (v : V) (te : Te) (cols : List Col) (m : Int), vs = [.ref r, v, .int m] ∧ 1 ≤ m ∧ m ≤ 21 ∧ Bx H r l n ∧ n ≤ 30000 ∧ Is K H v te.tr ∧ te.ok cols ∧ te.size = 1 ∧ ∀ (v' : V) (H' : Hp) (t : Te), B2 r l H H' → Bx H' r l (n + 21) → Is K H' v' t.tr → t.ok cols → (t.size : Int) = m → Q v' H'
theorem ok_l_of_parts (T : Txt K mg t) : FnOk P w K mg base CX0 2 t.f_l_of_parts t.d_l_of_parts ["_law_box", "_law_plain_here", "_law_many"] (sp_manyparts K) := by
  have G_l_draw := ok_l_draw (P := P) (w := w) (base := base) T
  refine T.F_l_of_parts.ok sc_l_of_parts (fun vs H Q E h => ?_) (fun cdv A outer s H vs Q E hr h => ?_)
  · obtain ⟨r, l, n, v, te, cols, m, rfl, _⟩ := h
    rfl
  obtain ⟨r, l, n, v, te, cols, m, rfl, m1, m21, S, hn, hv, ok, sz, q⟩ := h
  refine ⟨_, (pss_cons (ps_set (i := 3) sc_l_of_parts.nd rfl (Or.inl rfl) (pv 1))
  (pss_cons (ps_set (i := 4) sc_l_of_parts.nd rfl (Or.inl rfl) pe_int)
  (pss_cons (ps_while PassesOwn.never (pt_cmpR op_lt (pv 4) (pv 2) (nomark _)) (pss_one (ps_if (PW.pt (pw_and (pt_cmpR op_gt (pe_op op_sub (pv 2) (pv 4)) pe_int (nomark _)) (pw_and1 (pt_cmpR op_eq (pe_call G_l_draw (hr.mono (by decide)) rfl T.m_l_draw T.k_l_draw T.b_l_draw .nil pass0 (pa_cons (pv 0) (pa_cons pe_int pa_nil))) pe_int (nomark _))))) (pss_cons (ps_set (i := 3) sc_l_of_parts.nd rfl (Or.inl rfl) (pe_tup (pa_cons pe_str (pa_cons (pv 3) (pa_cons (pv 1) pa_nil)))))
  (pss_one (ps_set (i := 4) sc_l_of_parts.nd rfl (Or.inl rfl) (pe_op op_add (pv 4) pe_int)))) (pss_cons (ps_set (i := 3) sc_l_of_parts.nd rfl (Or.inl rfl) (pe_tup (pa_cons pe_str (pa_cons (pv 3) pa_nil))))
  (pss_one (ps_set (i := 4) sc_l_of_parts.nd rfl (Or.inl rfl) (pe_op op_add (pv 4) pe_int)))))))
  (pss_one (ps_ret (pv 3)))))), z_go (σ := [some _, some _, some _, none, none]) rfl ?_⟩
  walk_at "run"
  refine z_while (fun mm σ H2 => ∃ (f : V) (k : Te), σ = [some (.ref r), some v, some (.int m), some f, some (.int (k.size : Nat))] ∧ B2 r l H H2 ∧ Bx H2 r l (n + k.size) ∧ Is K H2 v te.tr ∧ Is K H2 f k.tr ∧ k.ok cols ∧ (k.size : Int) ≤ m ∧ mm = 30 - k.size) 29 ⟨v, te, by rw [sz]; rfl, B2.refl _ _ _, S.mono (by omega), hv, hv, ok, by omega, by rw [sz]⟩ ?_
  · rintro mm σ H2 ⟨f, k, rfl, b2, S2, hv2, hf2, ok2, hk, rfl⟩
    walk_at "run"
    refine z_iteD (fun h1 => ?_) (fun h1 => ?_)
    · have no : ∀ H3 (Q3 : Prop), B2 r l H H3 → Bx H3 r l (n + k.size + 1) → Is K H3 v te.tr → Is K H3 f k.tr → ∀ p3 H4, Same H3 H4 → H4 p3 = some (.tup [.str "not", f]) → ∃ m', m' < 30 - k.size ∧ ∃ (f' : V) (k' : Te), [some (V.ref r), some v, some (.int m), some (.ref p3), some (.int ((k.size : Int) + 1))] = [some (V.ref r), some v, some (.int m), some f', some (.int ((k'.size : Nat) : Int))] ∧ B2 r l H H4 ∧ Bx H4 r l (n + k'.size) ∧ Is K H4 v te.tr ∧ Is K H4 f' k'.tr ∧ k'.ok cols ∧ (k'.size : Int) ≤ m ∧ m' = 30 - k'.size := fun H3 _ b3 S3 v3 f3 p3 H4 s4 e4 =>
        ⟨30 - (k.size + 1), by omega, .ref p3, .nt k, rfl, b3.sm s4, (S3.keep s4).mono (by show n + k.size + 1 ≤ n + (k.size + 1); omega), v3.same s4, .tup (SqT.of e4) (.cons .str (.cons (f3.same s4) .nil)), ok2, by show ((k.size + 1 : Nat) : Int) ≤ m; omega, rfl⟩
      walk_at "run"
      refine z_iteD (fun h2 => ?_) (fun h2 => ?_)
      · walk_at "run"
        rename_i d H3 d0 d1 b3 S3
        have kp := Kp.b2 S2 b3
        have v3 := Is.kp kp hv2 te.nol
        have f3 := Is.kp kp hf2 k.nol
        refine z_iteD (fun h3 => ?_) (fun h3 => ?_)
        · walk_at "run"
          rename_i p4 H4 hp4 s4 e4
          exact ⟨30 - (k.size + 2), by omega, .ref p4, .bth k te, by show _ = [some (V.ref r), some v, some (.int m), some (.ref p4), some (.int ((k.size + te.size + 1 : Nat) : Int))]; rw [sz]; rfl, (b2.trans b3).sm s4, (S3.keep s4).mono (by show n + k.size + 1 ≤ n + (k.size + te.size + 1); omega), v3.same s4, .tup (SqT.of e4) (.cons .str (.cons (f3.same s4) (.cons (v3.same s4) .nil))), ⟨ok2, ok⟩, by show ((k.size + te.size + 1 : Nat) : Int) ≤ m; omega, by show _ = 30 - (k.size + te.size + 1); omega⟩
        · walk_at "run"
          rename_i p4 H4 hp4 s4 e4
          exact no H3 True (b2.trans b3) S3 v3 f3 p4 H4 s4 e4
      · walk_at "run"
        rename_i p3 H3 hp3 s3 e3
        exact no H2 True b2 (S2.mono (by omega)) hv2 hf2 p3 H3 s3 e3
    · walk_at "run"
      exact q f H2 k b2 (S2.mono (by omega)) hf2 ok2 (by omega)
noncomputable def sp_sizes (K : PySem.W.Frag) : Sp := fun vs H Q _ => ∃ (r l p : Addr) (n : Nat) (us : List V) (cols : List Col) (v : V) (te : Te), vs = [.ref r, .ref p, v] ∧ Bx H r l n ∧ n ≤ 20000 ∧ CA K H r l p us cols ∧ Cok cols ∧ Is K H v te.tr ∧ te.ok cols ∧ te.size = 1 ∧ ∀ H', B2 r l H H' → Q (.bl true) H'
theorem ok_l_sizes (T : Txt K mg t) : FnOk P w K mg base CX0 9 t.f_l_sizes t.d_l_sizes ["_law_box", "_law_columns_here", "_law_plain_here"] (sp_sizes K) := by
  have G_l_draw := ok_l_draw (P := P) (w := w) (base := base) T
  have G_l_of_parts := ok_l_of_parts (P := P) (w := w) (base := base) T
  have G_is_test := okT_is_test (P := P) (w := w) (base := base) T
  refine T.F_l_sizes.ok sc_l_sizes (fun vs H Q E h => ?_) (fun cdv A outer s H vs Q E hr h => ?_)
  · obtain ⟨r, l, p, n, us, cols, v, te, rfl, _⟩ := h
    rfl
  obtain ⟨r, l, p, n, us, cols, v, te, rfl, S, hn, cA, oC, hv, ok, sz, q⟩ := h
  refine ⟨_, (pss_cons (ps_for PassesOwn.never rfl (pi_list (pe_lst (pa_cons pe_int (pa_cons pe_int (pa_cons pe_int pa_nil))))) (pg_name (i := 3) sc_l_sizes.nd rfl (Or.inl rfl)) (pss_cons (ps_set (i := 7) sc_l_sizes.nd rfl (Or.inl rfl) (pe_call G_is_test (hr.mono (by decide)) rfl T.m_is_test T.k_is_test T.b_is_test .nil pass0 (pa_cons (pe_call G_l_of_parts (hr.mono (by decide)) rfl T.m_l_of_parts T.k_l_of_parts T.b_l_of_parts .nil pass0 (pa_cons (pv 0) (pa_cons (pv 2) (pa_cons (pv 3) pa_nil)))) (pa_cons (pv 1) pa_nil))))
  (pss_one (ps_if (PW.pt (pw_or (PW.pt (pw_and (pt_cmpR op_lt (pv 3) pe_int (nomark _)) (pw_and1 (pt_cmpR op_notB (pv 7) pe_bl (nomark _))))) (pw_or1 (PW.pt (pw_and (pt_cmpR op_eq (pv 3) pe_int (nomark _)) (pw_and1 (pt_cmpR op_notB (pv 7) pe_bl (nomark _)))))))) (pss_one (ps_ret pe_bl)) pss_nil))))
  (pss_cons (ps_set (i := 4) sc_l_sizes.nd rfl (Or.inl rfl) (pv 2))
  (pss_cons (ps_for PassesOwn.never rfl (pi_range1 rfl T.z_range (pa_cons (pe_op op_add pe_int (pe_call G_l_draw (hr.mono (by decide)) rfl T.m_l_draw T.k_l_draw T.b_l_draw .nil pass0 (pa_cons (pv 0) (pa_cons pe_int pa_nil)))) pa_nil)) (pg_name (i := 5) sc_l_sizes.nd rfl (Or.inl rfl)) (pss_one (ps_set (i := 4) sc_l_sizes.nd rfl (Or.inl rfl) (pe_tup (pa_cons pe_str (pa_cons (pv 4) (pa_cons (pv 4) pa_nil)))))))
  (pss_cons (ps_set (i := 6) sc_l_sizes.nd rfl (Or.inl rfl) (pv 2))
  (pss_cons (ps_for PassesOwn.never rfl (pi_range1 rfl T.z_range (pa_cons (pe_op op_add pe_int (pe_call G_l_draw (hr.mono (by decide)) rfl T.m_l_draw T.k_l_draw T.b_l_draw .nil pass0 (pa_cons (pv 0) (pa_cons pe_int pa_nil)))) pa_nil)) (pg_name (i := 5) sc_l_sizes.nd rfl (Or.inl rfl)) (pss_one (ps_set (i := 6) sc_l_sizes.nd rfl (Or.inl rfl) (pe_tup (pa_cons pe_str (pa_cons (pv 6) pa_nil))))))
  (pss_one (ps_ret (pe_and (pe_cmpR op_isB (pe_call G_is_test (hr.mono (by decide)) rfl T.m_is_test T.k_is_test T.b_is_test .nil pass0 (pa_cons (pv 4) (pa_cons (pv 1) pa_nil))) pe_bl (nomark _)) (pe_one (pe_cmpR op_isB (pe_call G_is_test (hr.mono (by decide)) rfl T.m_is_test T.k_is_test T.b_is_test .nil pass0 (pa_cons (pv 6) (pa_cons (pv 1) pa_nil))) pe_bl (nomark _))))))))))), z_go (σ := [some _, some _, some _, none, none, none, none, none]) rfl ?_⟩
  walk_at "run"
  refine z_mkl (Nat.le_of_ble_eq_true rfl) (fun p1 H1 hp1 s1 hl1 => ?_)
  obtain ⟨n1, n2⟩ := S.nr hp1
  refine ⟨p1, rfl, ⟨_, SqL.of hl1⟩, ?_⟩
  refine f_list (K := K) (xs := [V.int 19, .int 20, .int 21]) (fun i σ H2 => ∃ a b, σ = [some (.ref r), some (.ref p), some v, a, none, none, none, b] ∧ B2 r l H H2 ∧ Bx H2 r l (n + 21 * i) ∧ CA K H2 r l p us cols ∧ Is K H2 v te.tr ∧ H2 p1 = some (.lst [V.int 19, .int 20, .int 21])) ⟨none, none, rfl, B2.of s1, S.keep s1, cA.sm s1, hv.same s1, hl1⟩ (fun i σ H2 _ ⟨_, _, _, _, _, _, _, e⟩ => SqL.of e) ?_ ?_
  · rintro i x σ H2 hx ⟨a, b, rfl, b2, S2, c2, v2, l2⟩
    have hi : i < 3 := (List.getElem?_eq_some_iff.mp hx).1
    obtain ⟨m, rfl, hm⟩ : ∃ m : Int, x = .int m ∧ (m = 19 ∨ m = 20 ∨ m = 21) := by
      match i, hx with
      | 0, h => cases h; exact ⟨_, rfl, .inl rfl⟩
      | 1, h => cases h; exact ⟨_, rfl, .inr (.inl rfl)⟩
      | 2, h => cases h; exact ⟨_, rfl, .inr (.inr rfl)⟩
    walk_at "run"
    refine ⟨r, l, n + 21 * i, v, te, cols, m, rfl, by omega, by omega, S2, by omega, v2, ok, sz, fun v' H3 k b3 S3 v3 k3 z3 => ?_⟩
    have c3 := c2.b2 S2 b3
    have w3 := Is.kp (Kp.b2 S2 b3) v2 te.nol
    have l3 := b3 _ _ n1 n2 l2
    walk_at "run"
    obtain ⟨bb, hbb⟩ : ∃ bb, bb = decide (m < 21) := ⟨_, rfl⟩
    refine a_istest bb (SqL.of c3.at_) c3.is v3 (thg_te oC k3) ?_ (fun H4 s4 => ?_)
    · by_cases hlt : m < 21
      · exact .inl ⟨by rw [hbb]; exact decide_eq_true hlt, oC, k, rfl, k3, by omega⟩
      · exact .inr ⟨by rw [hbb]; exact decide_eq_false hlt, _, big_no oC k3 (by omega)⟩
    have fin : ∃ a' b', [some (.ref r), some (.ref p), some v, some (.int m), none, none, none, some (.bl bb)] = [some (.ref r), some (.ref p), some v, a', none, none, none, b'] ∧ B2 r l H H4 ∧ Bx H4 r l (n + 21 * (i + 1)) ∧ CA K H4 r l p us cols ∧ Is K H4 v te.tr ∧ H4 p1 = some (.lst [V.int 19, .int 20, .int 21]) := ⟨_, _, rfl, (b2.trans b3).sm s4, (S3.keep s4).mono (by omega), c3.sm s4, w3.same s4, s4 _ _ l3⟩
    walk_at "run"
    refine z_iteD (fun h => ?_) (fun h => ?_)
    · have e : bb = true := by rw [hbb]; exact decide_eq_true h
      subst e
      walk_at "run"
      refine ite_f rfl ?_
      walk_at "run"
      refine z_iteD (fun h' => absurd h' (by omega)) (fun _ => ?_)
      walk_at "run"
      exact fin
    · have e : bb = false := by rw [hbb]; exact decide_eq_false h
      subst e
      walk_at "run"
      refine z_iteD (fun _ => ?_) (fun h' => absurd h' (by omega))
      walk_at "run"
      refine ite_f rfl ?_
      walk_at "run"
      exact fin
  · rintro σ H2 ⟨a, b, rfl, b2, S2, c2, v2, l2⟩
    have S2 : Bx H2 r l (n + 63) := S2
    walk_at "run"
    rename_i d H3 d0 d1 b3 S3
    have c3 := c2.b2 S2 b3
    have v3 := Is.kp (Kp.b2 S2 b3) v2 te.nol
    have b23 := b2.trans b3
    refine f_range (fun j σ HJ => ∃ (u f : _) (k : Te), σ = [some (.ref r), some (.ref p), some v, a, some f, u, none, b] ∧ Same H3 HJ ∧ Is K HJ f k.tr ∧ k.ok cols ∧ k.size + 1 = 2 ^ (j + 1)) ⟨none, v, te, rfl, Same.refl _, v3, ok, by rw [sz]⟩ ?_ ?_
    · rintro j σ HJ hj ⟨u, f, k, rfl, sJ, fJ, kJ, zJ⟩
      walk_at "run"
      rename_i p4 H4 hp4 s4 e4
      exact ⟨_, .ref p4, .bth k k, rfl, sJ.trans s4, .tup (SqT.of e4) (.cons .str (.cons (fJ.same s4) (.cons (fJ.same s4) .nil))), ⟨kJ, kJ⟩, by show k.size + k.size + 1 + 1 = _; rw [Nat.pow_succ, ← zJ]; omega⟩
    rintro σ HJ ⟨u, f, k, rfl, sJ, fJ, kJ, zJ⟩
    have kbig : 20 < k.size := by
      have := Nat.pow_le_pow_right (show 0 < 2 by decide) (show 6 ≤ (5 + d).toNat + 1 by omega)
      have e6 : (2 : Nat) ^ 6 = 64 := rfl
      omega
    have SJ := S3.keep sJ
    have cJ := c3.sm sJ
    have vJ := v3.same sJ
    walk_at "run"
    rename_i d' H5 d0' d1' b5 S5
    have c5 := cJ.b2 SJ b5
    have v5 := Is.kp (Kp.b2 SJ b5) vJ te.nol
    have f5 := Is.kp (Kp.b2 SJ b5) fJ k.nol
    have b25 := (b23.sm sJ).trans b5
    refine f_range (fun j σ HJ => ∃ (u g : _) (m : Te), σ = [some (.ref r), some (.ref p), some v, a, some f, u, some g, b] ∧ Same H5 HJ ∧ Is K HJ g m.tr ∧ m.ok cols ∧ m.size = j + 1) ⟨_, v, te, rfl, Same.refl _, v5, ok, sz⟩ ?_ ?_
    · rintro j σ HJ hj ⟨u, g, m, rfl, sJ, gJ, mJ, zJ⟩
      walk_at "run"
      rename_i p6 H6 hp6 s6 e6
      exact ⟨_, .ref p6, .nt m, rfl, sJ.trans s6, .tup (SqT.of e6) (.cons .str (.cons (gJ.same s6) .nil)), mJ, by show m.size + 1 = _; omega⟩
    rintro σ H7 ⟨u, g, m, rfl, s7, g7, m7, z7⟩
    have c7 := c5.sm s7
    have f7 := f5.same s7
    walk_at "run"
    refine a_istest false (SqL.of c7.at_) c7.is f7 (thg_te oC kJ) (.inr ⟨rfl, _, big_no oC kJ kbig⟩) (fun H8 s8 => ?_)
    walk_at "run"
    refine ite_t rfl ?_
    walk_at "run"
    refine a_istest false (SqL.of (c7.sm s8).at_) (c7.sm s8).is (g7.same s8) (thg_te oC m7) (.inr ⟨rfl, _, big_no oC m7 (by omega)⟩) (fun H9 s9 => ?_)
    walk_at "run"
    exact q _ ((b25.sm s7).sm (s8.trans s9))
theorem plain_form {cols : List Col} : ∀ {te : Te}, te.ok cols → te.size ≤ 1 → te.size = 1 ∧ ∃ (w n kd : Str) (r : List Tr), te.tr = .tup (.str w :: .str n :: r) ∧ (n, kd) ∈ cols ∧ (w = "there" ∧ r = [] ∨ w ≠ "there" ∧ w ∈ (["same", "under"] : List Str))
  | .ther n, ⟨kd, hm⟩, _ => ⟨rfl, _, n, kd, _, rfl, hm, .inl ⟨rfl, rfl⟩⟩
  | .same n c, ⟨kd, hm, _⟩, _ => ⟨rfl, _, n, kd, _, rfl, hm, .inr ⟨by decide, same_in⟩⟩
  | .und n c, ⟨kd, hm, _⟩, _ => ⟨rfl, _, n, kd, _, rfl, hm, .inr ⟨by decide, under_in⟩⟩
  | .nt a, _, h => absurd h (by show ¬ a.size + 1 ≤ 1; have := size_kids a; omega)
  | .bth a b, _, h => absurd h (by show ¬ a.size + b.size + 1 ≤ 1; have := size_kids a; omega)
  | .one a b, _, h => absurd h (by show ¬ a.size + b.size + 1 ≤ 1; have := size_kids a; omega)
theorem rest_bad {rest : List Col} {w n : Str} {r : List Tr} (h : w = "there" ∧ r = [] ∨ w ≠ "there" ∧ w ∈ (["same", "under"] : List Str)) (hn : n ∉ rest.map (·.1)) : Bad rest (.tup (.str w :: .str n :: r)) := by
  refine .here ?_
  show partW rest w (.str n) r = false
  rcases h with ⟨rfl, rfl⟩ | ⟨h1, h2⟩
  · refine partW_there ?_
    rw [kind_out hn]
    rfl
  · rw [partW_cell h1 h2]
    match r with
    | [] => rfl
    | [x] =>
      show (!x.isN && (match kindV rest (.str n) with | some k => toldC k (pvT x) | none => false)) = false
      rw [kind_out hn, Bool.and_false]
    | _ :: _ :: _ => rfl
noncomputable def restI (cols : List Col) (n : Str) : List Nat := (List.range cols.length).filter fun i => !decide ((cols.getD i ("", "")).1 = n)
noncomputable def restC (cols : List Col) (n : Str) : List Col := (restI cols n).map fun i => cols.getD i ("", "")
theorem rest_out (cols : List Col) (n : Str) : n ∉ (restC cols n).map (·.1) := fun h => by
  obtain ⟨c, hc, e⟩ := List.mem_map.mp h
  obtain ⟨i, hi, rfl⟩ := List.mem_map.mp hc
  have := (List.mem_filter.mp hi).2
  rw [decide_eq_true e] at this
  cases this
theorem rest_is {K : PySem.W.Frag} {H : Hp} {us : List V} {cols : List Col} (h : IsL K H us (cols.map colT)) : ∀ {L : List Nat}, (∀ i ∈ L, i < cols.length) → IsL K H (L.map fun i => us.getD i .non) ((L.map fun i => cols.getD i ("", "")).map colT)
  | [], _ => .nil
  | i :: r, hL => by
    refine .cons ?_ (rest_is h fun j hj => hL j (.tail _ hj))
    have hi := hL i (.head _)
    have hc : cols[i]? = some cols[i] := List.getElem?_eq_getElem hi
    obtain ⟨u, hu, iu⟩ := h.get (map_at hc)
    show Is K H (us.getD i .non) (colT (cols.getD i ("", "")))
    rw [List.getD_eq_getElem?_getD, hu, List.getD_eq_getElem?_getD, hc]
    exact iu
theorem cols_alike {K : PySem.W.Frag} {H : Hp} {us : List V} {cols : List Col} {p q : Addr} (h : IsL K H us (cols.map colT)) (hp : H p = some (.lst us)) (hq : H q = some (.lst us)) : AlikeS K H p q :=
  ⟨2, us, us, by decide, .inr ⟨SqL.of hp, SqL.of hq⟩, rfl, fun j x y hx hy => by
    rw [hx] at hy
    cases hy
    obtain ⟨t, ht, it⟩ := h.get2 hx
    exact alike_of (col_dp cols t (List.mem_of_getElem? ht)) (Same.refl _) (Same.refl _) it it⟩
theorem ok_law (T : Txt K mg t) : FnOk P w K mg base CX0 10 t.f_law t.d_law ["_law_script"] (sp_law K) := by
  have G_l_draw := ok_l_draw (P := P) (w := w) (base := base) T
  have G_l_columns := ok_l_columns (P := P) (w := w) (base := base) T
  have G_l_row := ok_l_row (P := P) (w := w) (base := base) T
  have G_l_plain := ok_l_plain (P := P) (w := w) (base := base) T
  have G_is_test := okT_is_test (P := P) (w := w) (base := base) T
  have G_l_put := okT_l_put (P := P) (w := w) (base := base) T
  have G_l_bad := okT_l_bad (P := P) (w := w) (base := base) T
  have G_l_sizes := ok_l_sizes (P := P) (w := w) (base := base) T
  refine T.F_law.ok sc_law (fun vs H Q E h => ?_) (fun cdv A outer s H vs Q E hr h => ?_)
  · obtain ⟨a, ns, rfl, _⟩ := h
    rfl
  obtain ⟨a, ns, rfl, hS, hn, _, q⟩ := h
  refine ⟨_, (pss_cons (ps_set (i := 1) sc_law.nd rfl (Or.inr rfl) (pe_lst (pa_cons (pe_callTy call_list_of rfl T.z_list bt_list (pa_cons (pe_slice sl_list (pv 0) po_none (po_some pe_int)) pa_nil)) (pa_cons pe_int (pa_cons pe_int pa_nil)))))
  (pss_cons (ps_set (i := 2) sc_law.nd rfl (Or.inl rfl) (pe_call G_l_columns (hr.mono (by decide)) rfl T.m_l_columns T.k_l_columns T.b_l_columns .nil pass0 (pa_cons (pv 1) (pa_cons (pe_op op_add pe_int (pe_call G_l_draw (hr.mono (by decide)) rfl T.m_l_draw T.k_l_draw T.b_l_draw .nil pass0 (pa_cons (pv 1) (pa_cons pe_int pa_nil)))) pa_nil))))
  (pss_cons (ps_set (i := 3) sc_law.nd rfl (Or.inr rfl) (pe_call G_l_plain (hr.mono (by decide)) rfl T.m_l_plain T.k_l_plain T.b_l_plain .nil pass0 (pa_cons (pv 1) (pa_cons (pv 2) (pa_cons (pe_call G_l_row (hr.mono (by decide)) rfl T.m_l_row T.k_l_row T.b_l_row .nil pass0 (pa_cons (pv 1) (pa_cons (pv 2) pa_nil))) pa_nil)))))
  (pss_cons (ps_setLC (iy := 4) sc_law.nd rfl (Or.inl rfl) rfl (compOk_of (fr := [("_law_box", 1)]) (osc := defScope s_law) (N := ["_law_script", "_law_box", "_law_columns_here", "_law_plain_here", "_law_wraps", "_law_handed", "_law_bad_here", "_law_rest"]) rfl rfl (by decide +kernel)) (pi_range1 rfl T.z_range (pa_cons (pe_call G_l_draw (hr.mono (by decide)) rfl T.m_l_draw T.k_l_draw T.b_l_draw .nil pass0 (pa_cons (pv 1) (pa_cons pe_int pa_nil))) pa_nil)) (fun _ _ _ _ _ => (pe_call G_l_draw (hr.mono (by decide)) rfl T.m_l_draw T.k_l_draw T.b_l_draw .nil pass0 (pa_cons (pv 1) (pa_cons pe_int pa_nil)))))
  (pss_cons (ps_set (i := 5) sc_law.nd rfl (Or.inl rfl) (pe_callTy call_list_of rfl T.z_list bt_list (pa_cons (pv 2) pa_nil)))
  (pss_cons (ps_if (pt_cmpR op_notB (pe_call G_is_test (hr.mono (by decide)) rfl T.m_is_test T.k_is_test T.b_is_test .nil pass0 (pa_cons (pe_call G_l_put (hr.mono (by decide)) rfl T.m_l_put T.k_l_put T.b_l_put .nil pass0 (pa_cons (pv 3) (pa_cons (pv 3) (pa_cons (pv 4) pa_nil)))) (pa_cons (pv 5) pa_nil))) pe_bl (nomark _)) (pss_one (ps_ret pe_bl)) pss_nil)
  (pss_cons (ps_for PassesOwn.never rfl (pi_list (pe_call G_l_bad (hr.mono (by decide)) rfl T.m_l_bad T.k_l_bad T.b_l_bad .nil pass0 (pa_cons (pv 2) (pa_cons (pv 3) pa_nil)))) (pg_name (i := 6) sc_law.nd rfl (Or.inl rfl)) (pss_one (ps_if (PW.pt (pw_or (pt_cmpR op_notB (pe_call G_is_test (hr.mono (by decide)) rfl T.m_is_test T.k_is_test T.b_is_test .nil pass0 (pa_cons (pv 6) (pa_cons (pv 5) pa_nil))) pe_bl (nomark _)) (pw_or1 (pt_cmpR op_notB (pe_call G_is_test (hr.mono (by decide)) rfl T.m_is_test T.k_is_test T.b_is_test .nil pass0 (pa_cons (pe_call G_l_put (hr.mono (by decide)) rfl T.m_l_put T.k_l_put T.b_l_put .nil pass0 (pa_cons (pv 6) (pa_cons (pv 3) (pa_cons (pv 4) pa_nil)))) (pa_cons (pv 5) pa_nil))) pe_bl (nomark _))))) (pss_one (ps_ret pe_bl)) pss_nil)))
  (pss_cons (ps_setLCIf (iy := 7) sc_law.nd rfl (Or.inl rfl) (tg := "_law_column") (fr := [("_law_plain_here", 3)]) rfl (compOkG_of (osc := defScope s_law) (N := ["_law_script", "_law_box", "_law_columns_here", "_law_plain_here", "_law_wraps", "_law_handed", "_law_bad_here", "_law_rest"]) rfl rfl (by decide +kernel)) (pi_list (pv 2)) (fun _ _ _ _ _ => (pt_cmpR op_ne (pe_ix (r := rIxT K) ix_tup (pv 0) pe_int (fun _ _ => rfl)) (pe_ix (r := rIxT K) ix_tup (pv 1) pe_int (fun _ _ => rfl)) (nomark _))) (fun _ _ _ _ _ => (pv 0)))
  (pss_cons (ps_if (PW.pt (pw_and (pt_cmpR op_gt (pe_callB call_len_seq rfl T.z_len PySem.boot_len (pa_cons (pv 7) pa_nil)) pe_int (nomark _)) (pw_and1 (pt_cmpR op_notB (pe_call G_is_test (hr.mono (by decide)) rfl T.m_is_test T.k_is_test T.b_is_test .nil pass0 (pa_cons (pv 3) (pa_cons (pv 7) pa_nil))) pe_bl (nomark _))))) (pss_one (ps_ret pe_bl)) pss_nil)
  (pss_one (ps_ret (pe_and (pe_call G_l_sizes (hr.mono (by decide)) rfl T.m_l_sizes T.k_l_sizes T.b_l_sizes .nil pass0 (pa_cons (pv 1) (pa_cons (pv 5) (pa_cons (pv 3) pa_nil)))) (pe_one (pe_cmpR (op_eqA hr.un150) (pv 5) (pv 2) (nomark _))))))))))))))), z_go (σ := [some _, none, none, none, none, none, none, none]) rfl ?_⟩
  walk_at "run"
  refine ⟨a, ns.map V.int, rfl, hS, fun p1 hp1 => ?_⟩
  rw [cut63 hn]
  refine ⟨p1, ns.map V.int, rfl, .inl (SqL.of upd_same), fun l hl => ?_⟩
  have hl1 : (upd (upd H p1 (.lst (ns.map V.int))) l (.lst (ns.map V.int))) l = some (.lst (ns.map V.int)) := upd_same
  generalize upd (upd H p1 (.lst (ns.map V.int))) l (.lst (ns.map V.int)) = H1 at *
  walk_at "run"
  refine z_mkl (Nat.le_of_ble_eq_true rfl) (fun r H2 hr2 s2 hrl => ?_)
  have S2 : Bx H2 r l 0 := ⟨ns, 0, 0, hrl, s2 _ _ hl1, by decide, by decide, by omega⟩
  clear hl1 hl s2 hr2 hp1
  walk_at "run"
  rename_i d1 H3 d10 d11 b3 S3
  refine ⟨r, l, 1, 1 + d1, rfl, S3, by omega, by omega, by omega, fun p H4 us cols b4 S4 cA oC lC => ?_⟩
  clear b3 b4 S3 S2
  have l4 : cols.length ≤ 4 := by omega
  have l1 : 1 ≤ cols.length := by omega
  walk_at "run"
  refine ⟨r, l, p, _, us, cols, rfl, S4, by omega, cA, oC, by omega, fun v5 H5 row b5 S5 i5 o5 => ?_⟩
  have c5 := cA.b2 S4 b5
  walk_at "run"
  refine ⟨r, l, p, _, us, cols, v5, row, rfl, S5, by omega, c5, oC, l1, l4, i5, o5, fun v6 H6 te b6 S6 i6 ok z6 => ?_⟩
  have c6 := c5.b2 S5 b6
  obtain ⟨sz, w', n, kd, rr, et, hm, hw⟩ := plain_form ok z6
  clear b5 b6 S5 S4 c5 cA i5 o5
  walk_at "run"
  have S6 : Bx H6 r l 200 := S6.mono (by omega)
  have pt := thg_te oC ok
  unfold tSetLC
  refine z_lcn ?_
  walk_at "run"
  rename_i d2 H7 d20 d21 b7 S7
  have c7 := c6.b2 S6 b7
  have i7 := Is.kp (Kp.b2 S6 b7) i6 te.nol
  refine z_r1N (by omega) (by omega) ?_
  refine lcn_rangeA (fun acc j xs HJ => ∃ ws : List Int, xs = ws.map V.int ∧ ws.length = j ∧ B2 r l H7 HJ ∧ Bx HJ r l (201 + j)) (fun acc hacc => ?_) (le_size (by omega)) ?_ ?_
  · obtain ⟨e1, e2⟩ := S7.nr hacc
    exact ⟨[], rfl, rfl, B2.of (Same.new hacc _), S7.upd e1 e2⟩
  · rintro j xs acc HJ R hj hacc ⟨ws, rfl, h2, h3, h4⟩ hac k
    obtain ⟨e1, e2⟩ := S7.nr hacc
    walk_at "run"
    rename_i f HF f0 f1 bF SF
    have eF := bF _ _ e1 e2 hac
    refine k _ HF eF ⟨ws ++ [f], by rw [List.map_append]; rfl, by rw [List.length_append, h2]; rfl, fun b o n1 n2 e => ?_, (SF.upd e1 e2).mono (by omega)⟩
    have hb := bF b o n1 n2 (h3 b o n1 n2 e)
    rw [upd_ne (fun z => by rw [z, hacc] at e; cases e)]
    exact hb
  rintro pw xs H8 hacc hxl ⟨ws, rfl, h2, h3, h4⟩ hac
  have c8 := c7.b2 S7 h3
  have i8 := Is.kp (Kp.b2 S7 h3) i7 te.nol
  have lw : ws.length ≤ 9 := by omega
  clear hacc hxl h2 h3 b7 c7 i7 S7 c6 i6 S6
  walk_at "run"
  refine ⟨p, us, rfl, .inl (SqL.of c8.at_), fun ph hph => ?_⟩
  have s9 : Same H8 (upd H8 ph (.lst us)) := Same.new hph _
  have hh : (upd H8 ph (.lst us)) ph = some (.lst us) := upd_same
  obtain ⟨g1, g2⟩ := h4.nr hph
  generalize upd H8 ph (.lst us) = H9 at *
  have S9 : Bx H9 r l 211 := (h4.keep s9).mono (by omega)
  have c9 := c8.sm s9
  have i9 := i8.same s9
  have w9 := s9 _ _ hac
  have cH : CA K H9 r l ph us cols := ⟨g1, g2, hh, c9.is⟩
  have iw : ∀ (H : Hp) (ws : List Int), IsL K H (ws.map V.int) (ws.map Tr.int) := fun H ws => by
    induction ws with
    | nil => exact .nil
    | cons x r ih => exact .cons .int ih
  clear c8 i8 hac hh hph h4 s9
  walk_at "run"
  refine a_put (SqL.of w9) (iw _ _) i9 i9 (fun v10 H10 s10 i10 => ?_)
  obtain ⟨y, ey, oy, sy⟩ := putT_te (ws := ws) ok sz ok
  walk_at "run"
  refine a_istest true (SqL.of (cH.sm s10).at_) (cH.sm s10).is i10 (putT_thg pt pt) (.inl ⟨rfl, oC, y, ey.symm, oy, by omega⟩) (fun H11 s11 => ?_)
  have s9b := s10.trans s11
  clear s10 s11 i10
  walk_at "run"
  refine ite_f rfl ?_
  walk_at "run"
  have i11 := i9.same s9b
  rw [et] at i11
  refine a_bad (SqL.of (c9.sm s9b).at_) (c9.sm s9b).is i11 oC l4 hm (fun lb vs H12 s12 hlb hno ib => ?_)
  have sb : Same H9 H12 := s9b.trans s12
  have bok := bads_ok oC hm (show Thg (.tup (.str w' :: .str n :: rr)) from et ▸ pt)
  refine ⟨lb, rfl, ⟨_, SqL.of hlb⟩, ?_⟩
  refine f_list (K := K) (xs := vs) (fun i σ H2 => ∃ u, σ = [some (.ref a), some (.ref r), some (.ref p), some v6, some (.ref pw), some (.ref ph), u, none] ∧ Same H12 H2) ⟨none, rfl, Same.refl _⟩ (fun i σ H2 _ ⟨_, _, e⟩ => e.seq (SqL.of hlb)) ?_ ?_
  · rintro i x σ H13 hx ⟨u, rfl, s13⟩
    obtain ⟨tt, ht, it⟩ := ib.get2 hx
    obtain ⟨gx, bx⟩ := bok tt (List.mem_of_getElem? ht)
    have it := it.same s13
    have s913 := sb.trans s13
    walk_at "run"
    refine a_istest false (SqL.of (cH.sm s913).at_) (cH.sm s913).is it gx (.inr ⟨rfl, _, bx.no⟩) (fun H14 s14 => ?_)
    walk_at "run"
    refine ite_f rfl ?_
    walk_at "run"
    have s914 := s913.trans s14
    refine a_put (SqL.of (s914 _ _ w9)) (iw _ _) (it.same s14) (i9.same s914) (fun v15 H15 s15 i15 => ?_)
    walk_at "run"
    refine a_istest false (SqL.of (cH.sm (s914.trans s15)).at_) (cH.sm (s914.trans s15)).is i15 (putT_thg pt gx) (.inr ⟨rfl, _, (putT_bad bx).no⟩) (fun H16 s16 => ?_)
    walk_at "run"
    refine ite_f rfl ?_
    walk_at "run"
    exact ⟨_, rfl, s13.trans (s14.trans (s15.trans s16))⟩
  rintro σ H13 ⟨u, rfl, s13⟩
  have s913 := sb.trans s13
  have c13 := c9.sm s913
  have cH13 := cH.sm s913
  have i13 := i9.same s913
  have S13 := S9.keep s913
  rw [et] at i13
  clear ib hlb hno bok s12 s9b s13 sb i11 i9 cH c9 w9 S9 s913 iw
  have i13t := i13
  rw [← et] at i13t
  have luc : us.length = cols.length := by rw [c13.is.length, List.length_map]
  cases i13 with
  | tup hpv gpv =>
    rename_i pv vsv
    cases gpv with
    | cons g0 gpv =>
      cases g0
      cases gpv with
      | cons g1 gpv =>
        cases g1
        walk_at "run"
        refine z_lcg ?_
        walk_at "run"
        refine ⟨p, rfl, ⟨us, SqL.of c13.at_⟩, ?_⟩
        refine lcw_list (K := K) (fun i => us.getD i .non) (fun i => !decide ((cols.getD i ("", "")).1 = n)) (SqL.of c13.at_) (le_size (by omega)) (fun i x H2 S hx s2 k => ?_) (fun i x H2 S hx hp s2 k => ?_) (fun acc H14 hacc s14 ha => ?_)
        · obtain ⟨tt, ht, it⟩ := c13.is.get2 hx
          obtain ⟨c, hc, rfl⟩ := of_map_at ht
          have eg : cols.getD i ("", "") = c := by rw [List.getD_eq_getElem?_getD, hc]; rfl
          cases it with
          | tup h1 g1 =>
            cases g1 with
            | cons g2 g1 =>
              cases g2
              walk_at "run"
              refine z_ixT (s2.tup h1) (atI_nat (j := 0) rfl) ?_
              walk_at "run"
              refine z_ixT (s2.tup hpv) (atI_nat (j := 1) rfl) ?_
              walk_at "run"
              have := k H2 (Same.refl _)
              rw [eg] at this
              exact this
        · walk_at "run"
          have e : us.getD i .non = x := by rw [List.getD_eq_getElem?_getD, hx]; rfl
          have := k H2 (Same.refl _)
          rw [e] at this
          exact this
        have er : picked (fun i => !decide ((cols.getD i ("", "")).1 = n)) (fun i => us.getD i .non) us.length = (restI cols n).map fun i => us.getD i .non := by
          unfold picked restI
          rw [luc]
        rw [er] at ha
        have ir : IsL K H14 ((restI cols n).map fun i => us.getD i .non) ((restC cols n).map colT) := rest_is (c13.sm s14).is fun i hi => by
          have := (List.mem_filter.mp hi).1
          exact List.mem_range.mp this
        have fin : ∀ H15, Same H14 H15 → ∀ Q15, (∀ H16, AlikeS K H16 ph p → Q15 (.bl true) H16) → sp_sizes K [.ref r, .ref ph, .ref pv] H15 Q15 E0 := fun H15 s15 Q15 k15 => by
          have s := s14.trans s15
          have S15 := S13.keep s
          have cp := c13.sm s
          have ch := cH13.sm s
          exact ⟨r, l, ph, _, us, cols, .ref pv, te, rfl, S15, by omega, ch, oC, i13t.same s, ok, sz, fun H16 b16 => k15 H16 (cols_alike (ch.b2 S15 b16).is (ch.b2 S15 b16).at_ (cp.b2 S15 b16).at_)⟩
        walk_at "run"
        have i14 := i13t.same s14
        have pt2 := pt
        rw [et] at i14 pt2
        refine z_iteD (fun h0 => ?_) (fun h0 => ?_)
        · walk_at "run"
          refine a_istest false (cols := restC cols n) (SqL.of ha) ir i14 pt2 (.inr ⟨rfl, _, (rest_bad hw (rest_out cols n)).no⟩) (fun H15 s15 => ?_)
          walk_at "run"
          refine ite_f rfl ?_
          walk_at "run"
          refine fin H15 s15 _ (fun H16 al => ?_)
          walk_at "run"
          refine z_alk al ?_
          exact q _
        · walk_at "run"
          refine fin H14 (Same.refl _) _ (fun H16 al => ?_)
          walk_at "run"
          refine z_alk al ?_
          exact q _
end
theorem all_mk {l : PySem.W.OpenLaw} {w : World} {K : PySem.W.Frag} {h : Heap} {mg : Str → Option Value} {fa f0 f1 f2 f3 f4 f5 f6 f7 f8 f9 f10 f11 f12 f13 f14 f15 f16 f17 f18 f19 f20 f21 f22 f23 f24 f25 f26 f27 f28 f29 f30 f31 f32 f33 f34 f35 g_MONTH_LENGTHS : Addr} (X : K.In h) (G : h.Ns mainGlobals mg) (hfa : mg "law" = some (.ref fa))
    {od0 an0 od1 an1 od2 an2 od3 an3 od4 an4 od5 an5 od6 an6 od7 an7 od8 an8 od9 an9 od10 an10 od11 an11 od12 an12 od13 an13 od14 an14 od15 an15 od16 an16 od17 an17 od18 an18 od19 an19 od20 an20 od21 an21 od22 an22 od23 an23 od24 an24 od25 an25 od26 an26 od27 an27 od28 an28 od29 an29 od30 an30 od31 an31 od32 an32 od33 an33 od34 an34 od35 an35 : Option Addr} {sl0 sl1 sl2 sl3 sl4 sl5 sl6 sl7 sl8 sl9 sl10 sl11 sl12 sl13 sl14 sl15 sl16 sl17 sl18 sl19 sl20 sl21 sl22 sl23 sl24 sl25 sl26 sl27 sl28 sl29 sl30 sl31 sl32 sl33 sl34 sl35 : Array (Option Value)} {oc0 kV0 dc0 pm0 cd0 ct0 oc1 kV1 dc1 pm1 cd1 ct1 oc2 kV2 dc2 pm2 cd2 ct2 oc3 kV3 dc3 pm3 cd3 ct3 oc4 kV4 dc4 pm4 cd4 ct4 oc5 kV5 dc5 pm5 cd5 ct5 oc6 kV6 dc6 pm6 cd6 ct6 oc7 kV7 dc7 pm7 cd7 ct7 oc8 kV8 dc8 pm8 cd8 ct8 oc9 kV9 dc9 pm9 cd9 ct9 oc10 kV10 dc10 pm10 cd10 ct10 oc11 kV11 dc11 pm11 cd11 ct11 oc12 kV12 dc12 pm12 cd12 ct12 oc13 kV13 dc13 pm13 cd13 ct13 oc14 kV14 dc14 pm14 cd14 ct14 oc15 kV15 dc15 pm15 cd15 ct15 oc16 kV16 dc16 pm16 cd16 ct16 oc17 kV17 dc17 pm17 cd17 ct17 oc18 kV18 dc18 pm18 cd18 ct18 oc19 kV19 dc19 pm19 cd19 ct19 oc20 kV20 dc20 pm20 cd20 ct20 oc21 kV21 dc21 pm21 cd21 ct21 oc22 kV22 dc22 pm22 cd22 ct22 oc23 kV23 dc23 pm23 cd23 ct23 oc24 kV24 dc24 pm24 cd24 ct24 oc25 kV25 dc25 pm25 cd25 ct25 oc26 kV26 dc26 pm26 cd26 ct26 oc27 kV27 dc27 pm27 cd27 ct27 oc28 kV28 dc28 pm28 cd28 ct28 oc29 kV29 dc29 pm29 cd29 ct29 oc30 kV30 dc30 pm30 cd30 ct30 oc31 kV31 dc31 pm31 cd31 ct31 oc32 kV32 dc32 pm32 cd32 ct32 oc33 kV33 dc33 pm33 cd33 ct33 oc34 kV34 dc34 pm34 cd34 ct34 oc35 kV35 dc35 pm35 cd35 ct35 : Value}
    {g_MOST_BOTTOM : Tok}
    {g_LAST_DAY : Tok}
    {g_FIRST_TOLD_YEAR : Tok}
    {g_LAST_TOLD_YEAR : Tok}
    {g_DAYS_OF_400_YEARS : Tok}
    {g_LONGEST_WORD : Tok}
    {g_LETTERS : Tok}
    {gd_MONTH_LENGTHS : Option Addr} {gn_MONTH_LENGTHS : Nat} {gs_MONTH_LENGTHS : Array (Option Value)} {tg_MONTH_LENGTHS_0 tg_MONTH_LENGTHS_1 tg_MONTH_LENGTHS_2 tg_MONTH_LENGTHS_3 tg_MONTH_LENGTHS_4 tg_MONTH_LENGTHS_5 tg_MONTH_LENGTHS_6 tg_MONTH_LENGTHS_7 tg_MONTH_LENGTHS_8 tg_MONTH_LENGTHS_9 tg_MONTH_LENGTHS_10 tg_MONTH_LENGTHS_11 : Tok}
    {g_MOST_PARTS : Tok}
    (a0 : PySem.W.nsIn K mainGlobals "is_whole" = some (some (.ref f0))) (l0 : K.lookup f0 = some ⟨oc0, od0, .func (PySem.W.fnOf "is_whole" "is_whole" (defArgs s_is_whole) (defBody s_is_whole) (defScope s_is_whole) .none kV0 dc0 pm0 an0 cd0 ct0), sl0⟩) (c0 : PySem.W.codeIn K cd0 "is_whole" = true) (k0 : PySem.W.keepIn K (.ref f0) = true)
    (a1 : PySem.W.nsIn K mainGlobals "divisor_of" = some (some (.ref f1))) (l1 : K.lookup f1 = some ⟨oc1, od1, .func (PySem.W.fnOf "divisor_of" "divisor_of" (defArgs s_divisor_of) (defBody s_divisor_of) (defScope s_divisor_of) .none kV1 dc1 pm1 an1 cd1 ct1), sl1⟩) (c1 : PySem.W.codeIn K cd1 "divisor_of" = true) (k1 : PySem.W.keepIn K (.ref f1) = true)
    (a2 : PySem.W.nsIn K mainGlobals "is_number" = some (some (.ref f2))) (l2 : K.lookup f2 = some ⟨oc2, od2, .func (PySem.W.fnOf "is_number" "is_number" (defArgs s_is_number) (defBody s_is_number) (defScope s_is_number) .none kV2 dc2 pm2 an2 cd2 ct2), sl2⟩) (c2 : PySem.W.codeIn K cd2 "is_number" = true) (k2 : PySem.W.keepIn K (.ref f2) = true)
    (a3 : PySem.W.nsIn K mainGlobals "is_told" = some (some (.ref f3))) (l3 : K.lookup f3 = some ⟨oc3, od3, .func (PySem.W.fnOf "is_told" "is_told" (defArgs s_is_told) (defBody s_is_told) (defScope s_is_told) .none kV3 dc3 pm3 an3 cd3 ct3), sl3⟩) (c3 : PySem.W.codeIn K cd3 "is_told" = true) (k3 : PySem.W.keepIn K (.ref f3) = true)
    (a4 : PySem.W.nsIn K mainGlobals "is_leap" = some (some (.ref f4))) (l4 : K.lookup f4 = some ⟨oc4, od4, .func (PySem.W.fnOf "is_leap" "is_leap" (defArgs s_is_leap) (defBody s_is_leap) (defScope s_is_leap) .none kV4 dc4 pm4 an4 cd4 ct4), sl4⟩) (c4 : PySem.W.codeIn K cd4 "is_leap" = true) (k4 : PySem.W.keepIn K (.ref f4) = true)
    (a5 : PySem.W.nsIn K mainGlobals "month_length" = some (some (.ref f5))) (l5 : K.lookup f5 = some ⟨oc5, od5, .func (PySem.W.fnOf "month_length" "month_length" (defArgs s_month_length) (defBody s_month_length) (defScope s_month_length) .none kV5 dc5 pm5 an5 cd5 ct5), sl5⟩) (c5 : PySem.W.codeIn K cd5 "month_length" = true) (k5 : PySem.W.keepIn K (.ref f5) = true)
    (a6 : PySem.W.nsIn K mainGlobals "year_begin" = some (some (.ref f6))) (l6 : K.lookup f6 = some ⟨oc6, od6, .func (PySem.W.fnOf "year_begin" "year_begin" (defArgs s_year_begin) (defBody s_year_begin) (defScope s_year_begin) .none kV6 dc6 pm6 an6 cd6 ct6), sl6⟩) (c6 : PySem.W.codeIn K cd6 "year_begin" = true) (k6 : PySem.W.keepIn K (.ref f6) = true)
    (a7 : PySem.W.nsIn K mainGlobals "is_day" = some (some (.ref f7))) (l7 : K.lookup f7 = some ⟨oc7, od7, .func (PySem.W.fnOf "is_day" "is_day" (defArgs s_is_day) (defBody s_is_day) (defScope s_is_day) .none kV7 dc7 pm7 an7 cd7 ct7), sl7⟩) (c7 : PySem.W.codeIn K cd7 "is_day" = true) (k7 : PySem.W.keepIn K (.ref f7) = true)
    (a8 : PySem.W.nsIn K mainGlobals "is_told_day" = some (some (.ref f8))) (l8 : K.lookup f8 = some ⟨oc8, od8, .func (PySem.W.fnOf "is_told_day" "is_told_day" (defArgs s_is_told_day) (defBody s_is_told_day) (defScope s_is_told_day) .none kV8 dc8 pm8 an8 cd8 ct8), sl8⟩) (c8 : PySem.W.codeIn K cd8 "is_told_day" = true) (k8 : PySem.W.keepIn K (.ref f8) = true)
    (a9 : PySem.W.nsIn K mainGlobals "year_of" = some (some (.ref f9))) (l9 : K.lookup f9 = some ⟨oc9, od9, .func (PySem.W.fnOf "year_of" "year_of" (defArgs s_year_of) (defBody s_year_of) (defScope s_year_of) .none kV9 dc9 pm9 an9 cd9 ct9), sl9⟩) (c9 : PySem.W.codeIn K cd9 "year_of" = true) (k9 : PySem.W.keepIn K (.ref f9) = true)
    (a10 : PySem.W.nsIn K mainGlobals "parts_of" = some (some (.ref f10))) (l10 : K.lookup f10 = some ⟨oc10, od10, .func (PySem.W.fnOf "parts_of" "parts_of" (defArgs s_parts_of) (defBody s_parts_of) (defScope s_parts_of) .none kV10 dc10 pm10 an10 cd10 ct10), sl10⟩) (c10 : PySem.W.codeIn K cd10 "parts_of" = true) (k10 : PySem.W.keepIn K (.ref f10) = true)
    (a11 : PySem.W.nsIn K mainGlobals "is_word" = some (some (.ref f11))) (l11 : K.lookup f11 = some ⟨oc11, od11, .func (PySem.W.fnOf "is_word" "is_word" (defArgs s_is_word) (defBody s_is_word) (defScope s_is_word) .none kV11 dc11 pm11 an11 cd11 ct11), sl11⟩) (c11 : PySem.W.codeIn K cd11 "is_word" = true) (k11 : PySem.W.keepIn K (.ref f11) = true)
    (a12 : PySem.W.nsIn K mainGlobals "is_cell" = some (some (.ref f12))) (l12 : K.lookup f12 = some ⟨oc12, od12, .func (PySem.W.fnOf "is_cell" "is_cell" (defArgs s_is_cell) (defBody s_is_cell) (defScope s_is_cell) .none kV12 dc12 pm12 an12 cd12 ct12), sl12⟩) (c12 : PySem.W.codeIn K cd12 "is_cell" = true) (k12 : PySem.W.keepIn K (.ref f12) = true)
    (a13 : PySem.W.nsIn K mainGlobals "column_at" = some (some (.ref f13))) (l13 : K.lookup f13 = some ⟨oc13, od13, .func (PySem.W.fnOf "column_at" "column_at" (defArgs s_column_at) (defBody s_column_at) (defScope s_column_at) .none kV13 dc13 pm13 an13 cd13 ct13), sl13⟩) (c13 : PySem.W.codeIn K cd13 "column_at" = true) (k13 : PySem.W.keepIn K (.ref f13) = true)
    (a14 : PySem.W.nsIn K mainGlobals "kind_at" = some (some (.ref f14))) (l14 : K.lookup f14 = some ⟨oc14, od14, .func (PySem.W.fnOf "kind_at" "kind_at" (defArgs s_kind_at) (defBody s_kind_at) (defScope s_kind_at) .none kV14 dc14 pm14 an14 cd14 ct14), sl14⟩) (c14 : PySem.W.codeIn K cd14 "kind_at" = true) (k14 : PySem.W.keepIn K (.ref f14) = true)
    (a15 : PySem.W.nsIn K mainGlobals "is_cell_part" = some (some (.ref f15))) (l15 : K.lookup f15 = some ⟨oc15, od15, .func (PySem.W.fnOf "is_cell_part" "is_cell_part" (defArgs s_is_cell_part) (defBody s_is_cell_part) (defScope s_is_cell_part) .none kV15 dc15 pm15 an15 cd15 ct15), sl15⟩) (c15 : PySem.W.codeIn K cd15 "is_cell_part" = true) (k15 : PySem.W.keepIn K (.ref f15) = true)
    (a16 : PySem.W.nsIn K mainGlobals "is_part" = some (some (.ref f16))) (l16 : K.lookup f16 = some ⟨oc16, od16, .func (PySem.W.fnOf "is_part" "is_part" (defArgs s_is_part) (defBody s_is_part) (defScope s_is_part) .none kV16 dc16 pm16 an16 cd16 ct16), sl16⟩) (c16 : PySem.W.codeIn K cd16 "is_part" = true) (k16 : PySem.W.keepIn K (.ref f16) = true)
    (a17 : PySem.W.nsIn K mainGlobals "tests_in" = some (some (.ref f17))) (l17 : K.lookup f17 = some ⟨oc17, od17, .func (PySem.W.fnOf "tests_in" "tests_in" (defArgs s_tests_in) (defBody s_tests_in) (defScope s_tests_in) .none kV17 dc17 pm17 an17 cd17 ct17), sl17⟩) (c17 : PySem.W.codeIn K cd17 "tests_in" = true) (k17 : PySem.W.keepIn K (.ref f17) = true)
    (a18 : PySem.W.nsIn K mainGlobals "is_test" = some (some (.ref f18))) (l18 : K.lookup f18 = some ⟨oc18, od18, .func (PySem.W.fnOf "is_test" "is_test" (defArgs s_is_test) (defBody s_is_test) (defScope s_is_test) .none kV18 dc18 pm18 an18 cd18 ct18), sl18⟩) (c18 : PySem.W.codeIn K cd18 "is_test" = true) (k18 : PySem.W.keepIn K (.ref f18) = true)
    (a19 : PySem.W.nsIn K mainGlobals "_law_draw" = some (some (.ref f19))) (l19 : K.lookup f19 = some ⟨oc19, od19, .func (PySem.W.fnOf "_law_draw" "_law_draw" (defArgs s_l_draw) (defBody s_l_draw) (defScope s_l_draw) .none kV19 dc19 pm19 an19 cd19 ct19), sl19⟩) (c19 : PySem.W.codeIn K cd19 "_law_draw" = true) (k19 : PySem.W.keepIn K (.ref f19) = true)
    (a20 : PySem.W.nsIn K mainGlobals "_law_low" = some (some (.ref f20))) (l20 : K.lookup f20 = some ⟨oc20, od20, .func (PySem.W.fnOf "_law_low" "_law_low" (defArgs s_l_low) (defBody s_l_low) (defScope s_l_low) .none kV20 dc20 pm20 an20 cd20 ct20), sl20⟩) (c20 : PySem.W.codeIn K cd20 "_law_low" = true) (k20 : PySem.W.keepIn K (.ref f20) = true)
    (a21 : PySem.W.nsIn K mainGlobals "_law_number" = some (some (.ref f21))) (l21 : K.lookup f21 = some ⟨oc21, od21, .func (PySem.W.fnOf "_law_number" "_law_number" (defArgs s_l_number) (defBody s_l_number) (defScope s_l_number) .none kV21 dc21 pm21 an21 cd21 ct21), sl21⟩) (c21 : PySem.W.codeIn K cd21 "_law_number" = true) (k21 : PySem.W.keepIn K (.ref f21) = true)
    (a22 : PySem.W.nsIn K mainGlobals "_law_word" = some (some (.ref f22))) (l22 : K.lookup f22 = some ⟨oc22, od22, .func (PySem.W.fnOf "_law_word" "_law_word" (defArgs s_l_word) (defBody s_l_word) (defScope s_l_word) .none kV22 dc22 pm22 an22 cd22 ct22), sl22⟩) (c22 : PySem.W.codeIn K cd22 "_law_word" = true) (k22 : PySem.W.keepIn K (.ref f22) = true)
    (a23 : PySem.W.nsIn K mainGlobals "_law_day" = some (some (.ref f23))) (l23 : K.lookup f23 = some ⟨oc23, od23, .func (PySem.W.fnOf "_law_day" "_law_day" (defArgs s_l_day) (defBody s_l_day) (defScope s_l_day) .none kV23 dc23 pm23 an23 cd23 ct23), sl23⟩) (c23 : PySem.W.codeIn K cd23 "_law_day" = true) (k23 : PySem.W.keepIn K (.ref f23) = true)
    (a24 : PySem.W.nsIn K mainGlobals "_law_there" = some (some (.ref f24))) (l24 : K.lookup f24 = some ⟨oc24, od24, .func (PySem.W.fnOf "_law_there" "_law_there" (defArgs s_l_there) (defBody s_l_there) (defScope s_l_there) .none kV24 dc24 pm24 an24 cd24 ct24), sl24⟩) (c24 : PySem.W.codeIn K cd24 "_law_there" = true) (k24 : PySem.W.keepIn K (.ref f24) = true)
    (a25 : PySem.W.nsIn K mainGlobals "_law_cell" = some (some (.ref f25))) (l25 : K.lookup f25 = some ⟨oc25, od25, .func (PySem.W.fnOf "_law_cell" "_law_cell" (defArgs s_l_cell) (defBody s_l_cell) (defScope s_l_cell) .none kV25 dc25 pm25 an25 cd25 ct25), sl25⟩) (c25 : PySem.W.codeIn K cd25 "_law_cell" = true) (k25 : PySem.W.keepIn K (.ref f25) = true)
    (a26 : PySem.W.nsIn K mainGlobals "_law_name" = some (some (.ref f26))) (l26 : K.lookup f26 = some ⟨oc26, od26, .func (PySem.W.fnOf "_law_name" "_law_name" (defArgs s_l_name) (defBody s_l_name) (defScope s_l_name) .none kV26 dc26 pm26 an26 cd26 ct26), sl26⟩) (c26 : PySem.W.codeIn K cd26 "_law_name" = true) (k26 : PySem.W.keepIn K (.ref f26) = true)
    (a27 : PySem.W.nsIn K mainGlobals "_law_columns" = some (some (.ref f27))) (l27 : K.lookup f27 = some ⟨oc27, od27, .func (PySem.W.fnOf "_law_columns" "_law_columns" (defArgs s_l_columns) (defBody s_l_columns) (defScope s_l_columns) .none kV27 dc27 pm27 an27 cd27 ct27), sl27⟩) (c27 : PySem.W.codeIn K cd27 "_law_columns" = true) (k27 : PySem.W.keepIn K (.ref f27) = true)
    (a28 : PySem.W.nsIn K mainGlobals "_law_row" = some (some (.ref f28))) (l28 : K.lookup f28 = some ⟨oc28, od28, .func (PySem.W.fnOf "_law_row" "_law_row" (defArgs s_l_row) (defBody s_l_row) (defScope s_l_row) .none kV28 dc28 pm28 an28 cd28 ct28), sl28⟩) (c28 : PySem.W.codeIn K cd28 "_law_row" = true) (k28 : PySem.W.keepIn K (.ref f28) = true)
    (a29 : PySem.W.nsIn K mainGlobals "_law_near" = some (some (.ref f29))) (l29 : K.lookup f29 = some ⟨oc29, od29, .func (PySem.W.fnOf "_law_near" "_law_near" (defArgs s_l_near) (defBody s_l_near) (defScope s_l_near) .none kV29 dc29 pm29 an29 cd29 ct29), sl29⟩) (c29 : PySem.W.codeIn K cd29 "_law_near" = true) (k29 : PySem.W.keepIn K (.ref f29) = true)
    (a30 : PySem.W.nsIn K mainGlobals "_law_plain" = some (some (.ref f30))) (l30 : K.lookup f30 = some ⟨oc30, od30, .func (PySem.W.fnOf "_law_plain" "_law_plain" (defArgs s_l_plain) (defBody s_l_plain) (defScope s_l_plain) .none kV30 dc30 pm30 an30 cd30 ct30), sl30⟩) (c30 : PySem.W.codeIn K cd30 "_law_plain" = true) (k30 : PySem.W.keepIn K (.ref f30) = true)
    (a31 : PySem.W.nsIn K mainGlobals "_law_bad" = some (some (.ref f31))) (l31 : K.lookup f31 = some ⟨oc31, od31, .func (PySem.W.fnOf "_law_bad" "_law_bad" (defArgs s_l_bad) (defBody s_l_bad) (defScope s_l_bad) .none kV31 dc31 pm31 an31 cd31 ct31), sl31⟩) (c31 : PySem.W.codeIn K cd31 "_law_bad" = true) (k31 : PySem.W.keepIn K (.ref f31) = true)
    (a32 : PySem.W.nsIn K mainGlobals "_law_put" = some (some (.ref f32))) (l32 : K.lookup f32 = some ⟨oc32, od32, .func (PySem.W.fnOf "_law_put" "_law_put" (defArgs s_l_put) (defBody s_l_put) (defScope s_l_put) .none kV32 dc32 pm32 an32 cd32 ct32), sl32⟩) (c32 : PySem.W.codeIn K cd32 "_law_put" = true) (k32 : PySem.W.keepIn K (.ref f32) = true)
    (a33 : PySem.W.nsIn K mainGlobals "_law_of_parts" = some (some (.ref f33))) (l33 : K.lookup f33 = some ⟨oc33, od33, .func (PySem.W.fnOf "_law_of_parts" "_law_of_parts" (defArgs s_l_of_parts) (defBody s_l_of_parts) (defScope s_l_of_parts) .none kV33 dc33 pm33 an33 cd33 ct33), sl33⟩) (c33 : PySem.W.codeIn K cd33 "_law_of_parts" = true) (k33 : PySem.W.keepIn K (.ref f33) = true)
    (a34 : PySem.W.nsIn K mainGlobals "_law_sizes" = some (some (.ref f34))) (l34 : K.lookup f34 = some ⟨oc34, od34, .func (PySem.W.fnOf "_law_sizes" "_law_sizes" (defArgs s_l_sizes) (defBody s_l_sizes) (defScope s_l_sizes) .none kV34 dc34 pm34 an34 cd34 ct34), sl34⟩) (c34 : PySem.W.codeIn K cd34 "_law_sizes" = true) (k34 : PySem.W.keepIn K (.ref f34) = true)
    (a35 : PySem.W.nsIn K mainGlobals "law" = some (some (.ref f35))) (l35 : K.lookup f35 = some ⟨oc35, od35, .func (PySem.W.fnOf "law" "law" (defArgs s_law) (defBody s_law) (defScope s_law) .none kV35 dc35 pm35 an35 cd35 ct35), sl35⟩) (c35 : PySem.W.codeIn K cd35 "law" = true) (k35 : PySem.W.keepIn K (.ref f35) = true)
    (w_MOST_BOTTOM : PySem.W.nsIn K mainGlobals "MOST_BOTTOM" = some (some (.int 60 g_MOST_BOTTOM)))
    (w_LAST_DAY : PySem.W.nsIn K mainGlobals "LAST_DAY" = some (some (.int 3652058 g_LAST_DAY)))
    (w_FIRST_TOLD_YEAR : PySem.W.nsIn K mainGlobals "FIRST_TOLD_YEAR" = some (some (.int 1000 g_FIRST_TOLD_YEAR)))
    (w_LAST_TOLD_YEAR : PySem.W.nsIn K mainGlobals "LAST_TOLD_YEAR" = some (some (.int 8999 g_LAST_TOLD_YEAR)))
    (w_DAYS_OF_400_YEARS : PySem.W.nsIn K mainGlobals "DAYS_OF_400_YEARS" = some (some (.int 146097 g_DAYS_OF_400_YEARS)))
    (w_LONGEST_WORD : PySem.W.nsIn K mainGlobals "LONGEST_WORD" = some (some (.int 8 g_LONGEST_WORD)))
    (w_LETTERS : PySem.W.nsIn K mainGlobals "LETTERS" = some (some (.str "abcdefghijklmnopqrstuvwxyz" g_LETTERS)))
    (w_MONTH_LENGTHS : PySem.W.nsIn K mainGlobals "MONTH_LENGTHS" = some (some (.ref g_MONTH_LENGTHS))) (u_MONTH_LENGTHS : K.lookup g_MONTH_LENGTHS = some ⟨.type "tuple", gd_MONTH_LENGTHS, .seq #[.int 31 tg_MONTH_LENGTHS_0, .int 28 tg_MONTH_LENGTHS_1, .int 31 tg_MONTH_LENGTHS_2, .int 30 tg_MONTH_LENGTHS_3, .int 31 tg_MONTH_LENGTHS_4, .int 30 tg_MONTH_LENGTHS_5, .int 31 tg_MONTH_LENGTHS_6, .int 31 tg_MONTH_LENGTHS_7, .int 30 tg_MONTH_LENGTHS_8, .int 31 tg_MONTH_LENGTHS_9, .int 30 tg_MONTH_LENGTHS_10, .int 31 tg_MONTH_LENGTHS_11] gn_MONTH_LENGTHS, gs_MONTH_LENGTHS⟩)
    (w_MOST_PARTS : PySem.W.nsIn K mainGlobals "MOST_PARTS" = some (some (.int 20 g_MOST_PARTS)))
    (z_isinstance : PySem.W.nsIn K mainGlobals "isinstance" = some none)
    (z_int : PySem.W.nsIn K mainGlobals "int" = some none)
    (z_bool : PySem.W.nsIn K mainGlobals "bool" = some none)
    (z_tuple : PySem.W.nsIn K mainGlobals "tuple" = some none)
    (z_str : PySem.W.nsIn K mainGlobals "str" = some none)
    (z_list : PySem.W.nsIn K mainGlobals "list" = some none)
    (z_abs : PySem.W.nsIn K mainGlobals "abs" = some none)
    (z_len : PySem.W.nsIn K mainGlobals "len" = some none)
    (z_range : PySem.W.nsIn K mainGlobals "range" = some none)
    (z_max : PySem.W.nsIn K mainGlobals "max" = some none)
    (z_min : PySem.W.nsIn K mainGlobals "min" = some none)
    (z_enumerate : PySem.W.nsIn K mainGlobals "enumerate" = some none)
    (z_all : PySem.W.nsIn K mainGlobals "all" = some none)
    : ∃ fd : FuncData, (∀ (s : Shared) (v : Value), BindsTo s fd ⟨[v], []⟩ [("_law_script", v)]) ∧ ∀ base : Heap, K.In base → base.Ns mainGlobals mg → FnOk l.prog w K mg base CX0 10 fa fd ["_law_script"] (sp_law K) := by
  have e := hfa.symm.trans (PySem.W.mg_of X G a35)
  cases e
  have F0 := fun_mk (st := s_is_whole) l0 c0 k0
  have b0 := F0.binds (ps := ["thing"]) fun _ _ _ _ _ _ us hl => match us, hl with | [_], _ => rfl
  have F1 := fun_mk (st := s_divisor_of) l1 c1 k1
  have b1 := F1.binds (ps := ["one", "other"]) fun _ _ _ _ _ _ us hl => match us, hl with | [_, _], _ => rfl
  have F2 := fun_mk (st := s_is_number) l2 c2 k2
  have b2 := F2.binds (ps := ["thing"]) fun _ _ _ _ _ _ us hl => match us, hl with | [_], _ => rfl
  have F3 := fun_mk (st := s_is_told) l3 c3 k3
  have b3 := F3.binds (ps := ["thing"]) fun _ _ _ _ _ _ us hl => match us, hl with | [_], _ => rfl
  have F4 := fun_mk (st := s_is_leap) l4 c4 k4
  have b4 := F4.binds (ps := ["year"]) fun _ _ _ _ _ _ us hl => match us, hl with | [_], _ => rfl
  have F5 := fun_mk (st := s_month_length) l5 c5 k5
  have b5 := F5.binds (ps := ["year", "month"]) fun _ _ _ _ _ _ us hl => match us, hl with | [_, _], _ => rfl
  have F6 := fun_mk (st := s_year_begin) l6 c6 k6
  have b6 := F6.binds (ps := ["year"]) fun _ _ _ _ _ _ us hl => match us, hl with | [_], _ => rfl
  have F7 := fun_mk (st := s_is_day) l7 c7 k7
  have b7 := F7.binds (ps := ["thing"]) fun _ _ _ _ _ _ us hl => match us, hl with | [_], _ => rfl
  have F8 := fun_mk (st := s_is_told_day) l8 c8 k8
  have b8 := F8.binds (ps := ["thing"]) fun _ _ _ _ _ _ us hl => match us, hl with | [_], _ => rfl
  have F9 := fun_mk (st := s_year_of) l9 c9 k9
  have b9 := F9.binds (ps := ["day"]) fun _ _ _ _ _ _ us hl => match us, hl with | [_], _ => rfl
  have F10 := fun_mk (st := s_parts_of) l10 c10 k10
  have b10 := F10.binds (ps := ["day"]) fun _ _ _ _ _ _ us hl => match us, hl with | [_], _ => rfl
  have F11 := fun_mk (st := s_is_word) l11 c11 k11
  have b11 := F11.binds (ps := ["thing"]) fun _ _ _ _ _ _ us hl => match us, hl with | [_], _ => rfl
  have F12 := fun_mk (st := s_is_cell) l12 c12 k12
  have b12 := F12.binds (ps := ["kind", "thing"]) fun _ _ _ _ _ _ us hl => match us, hl with | [_, _], _ => rfl
  have F13 := fun_mk (st := s_column_at) l13 c13 k13
  have b13 := F13.binds (ps := ["columns", "name"]) fun _ _ _ _ _ _ us hl => match us, hl with | [_, _], _ => rfl
  have F14 := fun_mk (st := s_kind_at) l14 c14 k14
  have b14 := F14.binds (ps := ["columns", "name"]) fun _ _ _ _ _ _ us hl => match us, hl with | [_, _], _ => rfl
  have F15 := fun_mk (st := s_is_cell_part) l15 c15 k15
  have b15 := F15.binds (ps := ["part", "columns"]) fun _ _ _ _ _ _ us hl => match us, hl with | [_, _], _ => rfl
  have F16 := fun_mk (st := s_is_part) l16 c16 k16
  have b16 := F16.binds (ps := ["thing", "columns"]) fun _ _ _ _ _ _ us hl => match us, hl with | [_, _], _ => rfl
  have F17 := fun_mk (st := s_tests_in) l17 c17 k17
  have b17 := F17.binds (ps := ["part"]) fun _ _ _ _ _ _ us hl => match us, hl with | [_], _ => rfl
  have F18 := fun_mk (st := s_is_test) l18 c18 k18
  have b18 := F18.binds (ps := ["thing", "columns"]) fun _ _ _ _ _ _ us hl => match us, hl with | [_, _], _ => rfl
  have F19 := fun_mk (st := s_l_draw) l19 c19 k19
  have b19 := F19.binds (ps := ["_law_box", "_law_many"]) fun _ _ _ _ _ _ us hl => match us, hl with | [_, _], _ => rfl
  have F20 := fun_mk (st := s_l_low) l20 c20 k20
  have b20 := F20.binds (ps := ["_law_top", "_law_bottom"]) fun _ _ _ _ _ _ us hl => match us, hl with | [_, _], _ => rfl
  have F21 := fun_mk (st := s_l_number) l21 c21 k21
  have b21 := F21.binds (ps := ["_law_box"]) fun _ _ _ _ _ _ us hl => match us, hl with | [_], _ => rfl
  have F22 := fun_mk (st := s_l_word) l22 c22 k22
  have b22 := F22.binds (ps := ["_law_box"]) fun _ _ _ _ _ _ us hl => match us, hl with | [_], _ => rfl
  have F23 := fun_mk (st := s_l_day) l23 c23 k23
  have b23 := F23.binds (ps := ["_law_box"]) fun _ _ _ _ _ _ us hl => match us, hl with | [_], _ => rfl
  have F24 := fun_mk (st := s_l_there) l24 c24 k24
  have b24 := F24.binds (ps := ["_law_box", "_law_kind"]) fun _ _ _ _ _ _ us hl => match us, hl with | [_, _], _ => rfl
  have F25 := fun_mk (st := s_l_cell) l25 c25 k25
  have b25 := F25.binds (ps := ["_law_box", "_law_kind"]) fun _ _ _ _ _ _ us hl => match us, hl with | [_, _], _ => rfl
  have F26 := fun_mk (st := s_l_name) l26 c26 k26
  have b26 := F26.binds (ps := ["_law_box", "_law_names"]) fun _ _ _ _ _ _ us hl => match us, hl with | [_, _], _ => rfl
  have F27 := fun_mk (st := s_l_columns) l27 c27 k27
  have b27 := F27.binds (ps := ["_law_box", "_law_many"]) fun _ _ _ _ _ _ us hl => match us, hl with | [_, _], _ => rfl
  have F28 := fun_mk (st := s_l_row) l28 c28 k28
  have b28 := F28.binds (ps := ["_law_box", "_law_columns_here"]) fun _ _ _ _ _ _ us hl => match us, hl with | [_, _], _ => rfl
  have F29 := fun_mk (st := s_l_near) l29 c29 k29
  have b29 := F29.binds (ps := ["_law_box", "_law_kind", "_law_cell_here"]) fun _ _ _ _ _ _ us hl => match us, hl with | [_, _, _], _ => rfl
  have F30 := fun_mk (st := s_l_plain) l30 c30 k30
  have b30 := F30.binds (ps := ["_law_box", "_law_columns_here", "_law_row_here"]) fun _ _ _ _ _ _ us hl => match us, hl with | [_, _, _], _ => rfl
  have F31 := fun_mk (st := s_l_bad) l31 c31 k31
  have b31 := F31.binds (ps := ["_law_columns_here", "_law_plain_here"]) fun _ _ _ _ _ _ us hl => match us, hl with | [_, _], _ => rfl
  have F32 := fun_mk (st := s_l_put) l32 c32 k32
  have b32 := F32.binds (ps := ["_law_inner", "_law_plain_here", "_law_wraps"]) fun _ _ _ _ _ _ us hl => match us, hl with | [_, _, _], _ => rfl
  have F33 := fun_mk (st := s_l_of_parts) l33 c33 k33
  have b33 := F33.binds (ps := ["_law_box", "_law_plain_here", "_law_many"]) fun _ _ _ _ _ _ us hl => match us, hl with | [_, _, _], _ => rfl
  have F34 := fun_mk (st := s_l_sizes) l34 c34 k34
  have b34 := F34.binds (ps := ["_law_box", "_law_columns_here", "_law_plain_here"]) fun _ _ _ _ _ _ us hl => match us, hl with | [_, _, _], _ => rfl
  have F35 := fun_mk (st := s_law) l35 c35 k35
  have b35 := F35.binds (ps := ["_law_script"]) fun _ _ _ _ _ _ us hl => match us, hl with | [_], _ => rfl
  have T : Txt K mg ⟨_, _, _, _, _, _, _, _, _, _, _, _, _, _, _, _, _, _, _, _, _, _, _, _, _, _, _, _, _, _, _, _, _, _, _, _, _, _, _, _, _, _, _, _, _, _, _, _, _, _, _, _, _, _, _, _, _, _, _, _, _, _, _, _, _, _, _, _, _, _, _, _, g_MOST_BOTTOM, g_LAST_DAY, g_FIRST_TOLD_YEAR, g_LAST_TOLD_YEAR, g_DAYS_OF_400_YEARS, g_LONGEST_WORD, g_LETTERS, g_MONTH_LENGTHS, g_MOST_PARTS⟩ := ⟨F0, PySem.W.mg_of X G a0, k0, b0, F1, PySem.W.mg_of X G a1, k1, b1, F2, PySem.W.mg_of X G a2, k2, b2, F3, PySem.W.mg_of X G a3, k3, b3, F4, PySem.W.mg_of X G a4, k4, b4, F5, PySem.W.mg_of X G a5, k5, b5, F6, PySem.W.mg_of X G a6, k6, b6, F7, PySem.W.mg_of X G a7, k7, b7, F8, PySem.W.mg_of X G a8, k8, b8, F9, PySem.W.mg_of X G a9, k9, b9, F10, PySem.W.mg_of X G a10, k10, b10, F11, PySem.W.mg_of X G a11, k11, b11, F12, PySem.W.mg_of X G a12, k12, b12, F13, PySem.W.mg_of X G a13, k13, b13, F14, PySem.W.mg_of X G a14, k14, b14, F15, PySem.W.mg_of X G a15, k15, b15, F16, PySem.W.mg_of X G a16, k16, b16, F17, PySem.W.mg_of X G a17, k17, b17, F18, PySem.W.mg_of X G a18, k18, b18, F19, PySem.W.mg_of X G a19, k19, b19, F20, PySem.W.mg_of X G a20, k20, b20, F21, PySem.W.mg_of X G a21, k21, b21, F22, PySem.W.mg_of X G a22, k22, b22, F23, PySem.W.mg_of X G a23, k23, b23, F24, PySem.W.mg_of X G a24, k24, b24, F25, PySem.W.mg_of X G a25, k25, b25, F26, PySem.W.mg_of X G a26, k26, b26, F27, PySem.W.mg_of X G a27, k27, b27, F28, PySem.W.mg_of X G a28, k28, b28, F29, PySem.W.mg_of X G a29, k29, b29, F30, PySem.W.mg_of X G a30, k30, b30, F31, PySem.W.mg_of X G a31, k31, b31, F32, PySem.W.mg_of X G a32, k32, b32, F33, PySem.W.mg_of X G a33, k33, b33, F34, PySem.W.mg_of X G a34, k34, b34, F35, PySem.W.mg_of X G a35, k35, b35, PySem.W.mg_of X G w_MOST_BOTTOM, PySem.W.mg_of X G w_LAST_DAY, PySem.W.mg_of X G w_FIRST_TOLD_YEAR, PySem.W.mg_of X G w_LAST_TOLD_YEAR, PySem.W.mg_of X G w_DAYS_OF_400_YEARS, PySem.W.mg_of X G w_LONGEST_WORD, PySem.W.mg_of X G w_LETTERS, PySem.W.mg_of X G w_MONTH_LENGTHS, fun _ => .inr ⟨_, _, _, u_MONTH_LENGTHS, rfl, rfl, (by show 12 ≤ sizeLine; decide), .cons ⟨_, rfl⟩ (.cons ⟨_, rfl⟩ (.cons ⟨_, rfl⟩ (.cons ⟨_, rfl⟩ (.cons ⟨_, rfl⟩ (.cons ⟨_, rfl⟩ (.cons ⟨_, rfl⟩ (.cons ⟨_, rfl⟩ (.cons ⟨_, rfl⟩ (.cons ⟨_, rfl⟩ (.cons ⟨_, rfl⟩ (.cons ⟨_, rfl⟩ (.nil))))))))))))⟩, PySem.W.mg_of X G w_MOST_PARTS, PySem.W.mg_none_of X G z_isinstance, PySem.W.mg_none_of X G z_int, PySem.W.mg_none_of X G z_bool, PySem.W.mg_none_of X G z_tuple, PySem.W.mg_none_of X G z_str, PySem.W.mg_none_of X G z_list, PySem.W.mg_none_of X G z_abs, PySem.W.mg_none_of X G z_len, PySem.W.mg_none_of X G z_range, PySem.W.mg_none_of X G z_max, PySem.W.mg_none_of X G z_min, PySem.W.mg_none_of X G z_enumerate, PySem.W.mg_none_of X G z_all⟩
  exact ⟨PySem.W.fnOf "law" "law" (defArgs s_law) (defBody s_law) (defScope s_law) .none kV35 dc35 pm35 an35 cd35 ct35, fun s v => .of_eq rfl, fun base _ _ => ok_law T⟩
theorem walk {l : PySem.W.OpenLaw} {q : Program} {loose : List Str} {XP : (Str → Option Value) → Heap → Prop} {YP : World → Heap → Prop} {d : DefRec} {K : Params → PySem.W.Frag} (hn : l.most = some 63) (hdf : d.params.defaults = [])
    (hY : ∀ (w : World) (h : Heap), YP w h → (K w.params).In h)
    (F : ∀ (w : World) (mg : Str → Option Value) (fa : Addr) (h : Heap), (K w.params).In h → h.Ns mainGlobals mg → mg d.name = some (.ref fa) →
      ∃ fd : FuncData, (∀ (s : Shared) (u : Value), BindsTo s fd ⟨[u], []⟩ [("_law_script", u)]) ∧ ∀ base : Heap, (K w.params).In base → base.Ns mainGlobals mg → FnOk l.prog w (K w.params) mg base CX0 10 fa fd ["_law_script"] (sp_law (K w.params))) :
    PySem.W.WalkO q loose XP YP l.row.toRowW d [] (fun f vs => PySem.call f vs) :=
  L2.walk_ofB (n := 63) (k := 10) (x := "_law_script") (CX := fun _ => CX0) (sp := fun w => sp_law (K w.params)) hn (by decide) hdf ⟨rfl, by decide, by decide⟩ hY F (fun _ _ a ns hl hbt _ hS => ⟨a, ns, rfl, hS, hl, hbt, fun _ => rfl⟩) fun _ _ _ _ _ z => z
end MyLaw
set_option maxRecDepth 100000
set_option maxHeartbeats 0
namespace MyLaw
open PySem PySem.W
noncomputable def hdF (s : String) : Str := ⟨⟨(PySem.W.S.toListS s).map Char.toNat⟩⟩
theorem hdFe : @Str.ofString = hdF := by
  rw [Str.ofString_eq_byList]; funext s
  show (⟨⟨(String.toList s).map Char.toNat⟩⟩ : Str) = _
  rw [PySem.W.S.toListS_eq]; rfl
noncomputable def hdG : PSigma fun G : (String → Str) → Program => PySem.Challenge.pw_markscale_k14_what_is_a_test = G Str.ofString := by
  apply PSigma.mk
  case snd =>
    delta PySem.Challenge.pw_markscale_k14_what_is_a_test
    generalize Str.ofString = f
    exact rfl
noncomputable def hdK : List Nat := [1, 2, 3, 5, 6, 8, 9, 10, 11, 12, 13, 14, 15, 16, 17, 18, 19, 21, 22, 23, 24, 25, 26, 28, 29, 30, 31, 32, 34, 35, 36, 37, 38, 39, 40, 41, 42, 43, 44, 45, 46, 47, 48, 49, 50]
noncomputable def hdV : Program := PySem.W.view PySem.Challenge.pw_markscale_k14_what_is_a_test hdK
end MyLaw
noncomputable def PySem.W.Fast.tw144549669570873888 : PySem.Program := MyLaw.hdG.1 MyLaw.hdF
theorem PySem.W.Fast.te144549669570873888 : PySem.Challenge.pw_markscale_k14_what_is_a_test = PySem.W.Fast.tw144549669570873888 := MyLaw.hdG.2.trans (congrArg MyLaw.hdG.1 MyLaw.hdFe)
namespace MyLaw
open PySem PySem.W
noncomputable def hdT : Program := PySem.W.view PySem.W.Fast.tw144549669570873888 hdK
theorem hdE : hdV = hdT := congrArg (fun p => PySem.W.view p hdK) PySem.W.Fast.te144549669570873888
noncomputable abbrev hdX (q : Program) (s : Shared) : Bool := xlAt q [] s && recOk (OpenRow.toRowW (OpenLaw.row PySem.Challenge.rw_markscale_k14_what_is_a_test)).records s
theorem hdA {K : Params → Frag} {as : List Addr} {e : ∀ P, as = (K P).map (·.1)} (G : (String → Str) → Params → Frag) (hG : K = G Str.ofString)
    (h : ∀ w : World, Option.map (fun s => (PySem.W.Fast.tw4187177175401517315 hdT [] (PySem.W.Fast.tw5923862056798008813 PySem.W.Fast.tw144549669570873888.main.body) (hdX hdT) true s, as.map s.heap.get?))
      (openEnds PySem.W.Fast.tw14364793385576792824 PySem.W.Fast.tw144549669570873888 w 2602) = some (openGood hdT [], (G hdF w.params).map fun p => some p.2)) :
    LeftO (OpenLaw.row PySem.Challenge.rw_markscale_k14_what_is_a_test).prog hdV [] (hdX hdV) (kHook K as e).obs (kHook K as e).val 2602 := by
  intro w
  subst hG
  show Option.map (fun s => (openSeen hdV [] (importedModules (PySem.Challenge.pw_markscale_k14_what_is_a_test).main.body) (hdX hdV) true s, as.map s.heap.get?)) (openEnds treeTable PySem.Challenge.pw_markscale_k14_what_is_a_test w 2602) = some (openGood hdV [], (G Str.ofString w.params).map fun p => some p.2)
  rw [hdE, hdFe, PySem.W.Fast.te144549669570873888, PySem.W.Fast.te4187177175401517315, PySem.W.Fast.te5923862056798008813, PySem.W.Fast.te14364793385576792824]
  exact h w
end MyLaw
open PySem PySem.W PyProof.Rows
local macro_rules
  | `(tactic| o_head (kHook $K $as $e)) => `(tactic| (
      refine holds_open (q := MyLaw.hdV) (loose := []) (Xt := MyLaw.hdX MyLaw.hdV) (XP := XL MyLaw.hdV [])
        (Yf := Hook.obs (kHook $K $as $e)) (Ya := Hook.val (kHook $K $as $e)) (YP := Hook.says (kHook $K $as $e)) (N := 2602)
        ?hl (Hook.of _) (Hook.keeps _) (fun s z => xl_of s (Bool.and_eq_true_iff.mp z).1) XL.keeps (by rfl)
        (by rfl) (by rfl) (fun s z => recFacts_of (Bool.and_eq_true_iff.mp z).2) (by rfl)
        (by first | assumption | decide +kernel) (by decide +kernel)
        ⟨rfl, rfl, rfl, rfl, rfl, by decide +kernel⟩ ?hw ?hc
      case hl =>
        apply MyLaw.hdA
        case hG =>
          conv => lhs; whnf
          generalize Str.ofString = f
          exact rfl
        case h => intro w; kernel_rfl))
open PySem PySem.W PyProof.Rows
set_option maxRecDepth 100000 in
set_option maxHeartbeats 0 in
theorem PySem.Challenge.cw_markscale_k14_what_is_a_test_holds : PySem.Challenge.rw_markscale_k14_what_is_a_test.Holds := by
  w_on; o_law; k_head; (case hw => w_witness2)
  k_fill
  refine MyLaw.walk (l := PySem.Challenge.rw_markscale_k14_what_is_a_test) rfl rfl (fun w h Y => PySem.W.kIn_of Y) ?F
  case F =>
    intro w mg fa h KX G hmg
    refine' MyLaw.all_mk KX G hmg ?a0 ?l0 ?c0 ?k0 ?a1 ?l1 ?c1 ?k1 ?a2 ?l2 ?c2 ?k2 ?a3 ?l3 ?c3 ?k3 ?a4 ?l4 ?c4 ?k4 ?a5 ?l5 ?c5 ?k5 ?a6 ?l6 ?c6 ?k6 ?a7 ?l7 ?c7 ?k7 ?a8 ?l8 ?c8 ?k8 ?a9 ?l9 ?c9 ?k9 ?a10 ?l10 ?c10 ?k10 ?a11 ?l11 ?c11 ?k11 ?a12 ?l12 ?c12 ?k12 ?a13 ?l13 ?c13 ?k13 ?a14 ?l14 ?c14 ?k14 ?a15 ?l15 ?c15 ?k15 ?a16 ?l16 ?c16 ?k16 ?a17 ?l17 ?c17 ?k17 ?a18 ?l18 ?c18 ?k18 ?a19 ?l19 ?c19 ?k19 ?a20 ?l20 ?c20 ?k20 ?a21 ?l21 ?c21 ?k21 ?a22 ?l22 ?c22 ?k22 ?a23 ?l23 ?c23 ?k23 ?a24 ?l24 ?c24 ?k24 ?a25 ?l25 ?c25 ?k25 ?a26 ?l26 ?c26 ?k26 ?a27 ?l27 ?c27 ?k27 ?a28 ?l28 ?c28 ?k28 ?a29 ?l29 ?c29 ?k29 ?a30 ?l30 ?c30 ?k30 ?a31 ?l31 ?c31 ?k31 ?a32 ?l32 ?c32 ?k32 ?a33 ?l33 ?c33 ?k33 ?a34 ?l34 ?c34 ?k34 ?a35 ?l35 ?c35 ?k35 ?w_MOST_BOTTOM ?w_LAST_DAY ?w_FIRST_TOLD_YEAR ?w_LAST_TOLD_YEAR ?w_DAYS_OF_400_YEARS ?w_LONGEST_WORD ?w_LETTERS ?w_MONTH_LENGTHS ?u_MONTH_LENGTHS ?w_MOST_PARTS ?z_isinstance ?z_int ?z_bool ?z_tuple ?z_str ?z_list ?z_abs ?z_len ?z_range ?z_max ?z_min ?z_enumerate ?z_all
    all_goals try k_is
