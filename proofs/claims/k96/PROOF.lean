import PyProof.Rows.All
import Wide.All
import OpenK.AllK
import Wide.FinOn
import Lean
import PyProof.EqAt
import PyProof.EqKinds
import PyProof.TupleCall
import PyProof.NeKinds
import PyProof.SumWalkG
import PySem.Challenge.RW_markscale_k96_things_and_refusals
set_option compiler.extract_closed false
set_option Elab.async false
set_option linter.all false
set_option maxRecDepth 100000
namespace L2
open PySem PySem.Spec PyProof.Rows

abbrev Key := Sum Int Str
noncomputable def keyIs : Key → Value → Bool
  | .inl k, v => Value.isInt k v
  | .inr x, v => Value.isStrOf x v
noncomputable def keyH (w : World) : Key → Int
  | .inl k => hashInt k
  | .inr x => hashStr w x
theorem keyIs_shape : ∀ {k : Key} {v : Value}, keyIs k v = true → (∃ i t, k = Sum.inl i ∧ v = Value.int i t) ∨ (∃ x t, k = Sum.inr x ∧ v = Value.str x t)
  | .inl i, v, h => by
    obtain ⟨t, e⟩ := Value.isInt_shape (k := i) (v := v) h
    exact .inl ⟨i, t, rfl, e⟩
  | .inr x, v, h => by
    obtain ⟨t, e⟩ := Value.isStrOf_shape (x := x) (v := v) h
    exact .inr ⟨x, t, rfl, e⟩
theorem key_ll (a b : Int) : decide ((Sum.inl a : Key) = Sum.inl b) = (a == b) := by
  by_cases e : a = b
  · subst e; simp
  · have h : ¬ (Sum.inl a : Key) = Sum.inl b := fun q => e (Sum.inl.inj q)
    rw [decide_eq_false h]
    exact (beq_eq_false_iff_ne.mpr e).symm
theorem key_rr (a b : Str) : decide ((Sum.inr a : Key) = Sum.inr b) = decide (a = b) := by
  by_cases e : a = b
  · subst e; simp
  · have h : ¬ (Sum.inr a : Key) = Sum.inr b := fun q => e (Sum.inr.inj q)
    rw [decide_eq_false h, decide_eq_false e]
theorem key_lr (a : Int) (b : Str) : decide ((Sum.inl a : Key) = Sum.inr b) = false := decide_eq_false (fun q => nomatch q)
theorem key_rl (a : Str) (b : Int) : decide ((Sum.inr a : Key) = Sum.inl b) = false := decide_eq_false (fun q => nomatch q)

noncomputable def mixKind (prog : Program) (w : World) : PySem.KeyKind prog w Key where
  is := keyIs
  hash := keyH w
  inj := fun v a b ha hb => by
    rcases keyIs_shape ha with ⟨i, t, rfl, rfl⟩ | ⟨x, t, rfl, rfl⟩
    · rcases keyIs_shape hb with ⟨j, u, rfl, e⟩ | ⟨y, u, rfl, e⟩
      · injection e with e1 _; rw [e1]
      · exact nomatch e
    · rcases keyIs_shape hb with ⟨j, u, rfl, e⟩ | ⟨y, u, rfl, e⟩
      · exact nomatch e
      · injection e with e1 _; rw [e1]
  byValue := fun k v h => by
    rcases keyIs_shape h with ⟨i, t, rfl, rfl⟩ | ⟨x, t, rfl, rfl⟩ <;> rfl
  pyHash := fun hv h => by
    rcases keyIs_shape hv with ⟨i, t, rfl, rfl⟩ | ⟨x, t, rfl, rfl⟩
    · exact wpAny_pyHash_int h
    · exact wpAny_pyHash_str h
  eqBool := fun hu hv h => by
    rcases keyIs_shape hu with ⟨i, t, rfl, rfl⟩ | ⟨x, t, rfl, rfl⟩
    · rcases keyIs_shape hv with ⟨j, u, rfl, rfl⟩ | ⟨y, u, rfl, rfl⟩
      · rw [key_ll] at h; exact wpAny_eqBool_int h
      · rw [key_lr] at h; exact SeqAt.EqAt.int_str i t y u _ _ _ _ h
    · rcases keyIs_shape hv with ⟨j, u, rfl, rfl⟩ | ⟨y, u, rfl, rfl⟩
      · rw [key_rl] at h; exact SeqAt.EqAt.str_int x t j u _ _ _ _ h
      · rw [key_rr] at h; exact wpAny_eqBool_str h
  «strs» := fun k x t v h => by
    rcases keyIs_shape h with ⟨i, u, rfl, e⟩ | ⟨y, u, rfl, e⟩
    · exact nomatch e
    · injection e with e1 _
      subst e1
      cases v <;> rfl

end L2

namespace L2
open PySem PySem.Spec PyProof.Rows

inductive V where
  | non | bl (b : Bool) | int (i : Int) | str (x : Str) | byt (b : Array UInt8) | flt (b : UInt64) | ref (a : Addr) | ty (n : String)
  deriving DecidableEq

noncomputable def RelV : V → Value → Prop
  | .non, u => u = Value.none
  | .bl b, u => u = Value.bool b
  | .int i, u => ∃ t, u = Value.int i t
  | .str x, u => ∃ t, u = Value.str x t
  | .byt b, u => ∃ t, u = Value.bytes b t
  | .flt b, u => ∃ t, u = Value.float b t
  | .ref a, u => u = Value.ref a
  | .ty n, u => u = Value.type n

abbrev Vals : List V → List Value → Prop := Paired RelV
theorem Vals.length {xs : List V} {us : List Value} (r : Vals xs us) : xs.length = us.length := Paired.length r
theorem Vals.get : ∀ {xs : List V} {us : List Value} {i : Nat} {x : V}, Vals xs us → xs[i]? = some x → ∃ u, us[i]? = some u ∧ RelV x u
  | _, _, _, _, .nil, e => by simp at e
  | _, _, 0, _, .cons r _, e => by simp at e; subst e; exact ⟨_, rfl, r⟩
  | _, _, i + 1, x, .cons _ t, e => by
    obtain ⟨u, h1, h2⟩ := Vals.get (i := i) (x := x) t (by simpa using e)
    exact ⟨u, by simpa using h1, h2⟩
theorem Vals.set {x : V} {u : Value} (r : RelV x u) : ∀ {xs : List V} {us : List Value} (i : Nat), Vals xs us → Vals (xs.set i x) (us.set i u)
  | _, _, _, .nil => .nil
  | _, _, 0, .cons _ t => .cons r t
  | _, _, i + 1, .cons q t => .cons q (Vals.set r i t)
theorem Vals.append : ∀ {xs ys : List V} {us ws : List Value}, Vals xs us → Vals ys ws → Vals (xs ++ ys) (us ++ ws)
  | _, _, _, _, .nil, s => s
  | _, _, _, _, .cons r t, s => .cons r (Vals.append t s)
theorem Vals.take : ∀ {xs : List V} {us : List Value} (n : Nat), Vals xs us → Vals (xs.take n) (us.take n)
  | _, _, 0, _ => .nil
  | _, _, _ + 1, .nil => .nil
  | _, _, n + 1, .cons r t => .cons r (Vals.take n t)
theorem Vals.drop : ∀ {xs : List V} {us : List Value} (n : Nat), Vals xs us → Vals (xs.drop n) (us.drop n)
  | _, _, 0, r => r
  | _, _, _ + 1, .nil => .nil
  | _, _, n + 1, .cons _ t => Vals.drop n t
noncomputable def RelO : Option V → Option Value → Prop
  | some v, some u => RelV v u
  | none, none => True
  | _, _ => False
noncomputable def KV {κ : Type} : List (κ × V) → List (κ × Value) → Prop := Paired fun (p : κ × V) (q : κ × Value) => p.1 = q.1 ∧ RelV p.2 q.2

noncomputable def kV : Key → V
  | .inl i => .int i
  | .inr x => .str x

inductive HO where
  /-- a list -/
  | lst (xs : List V)
  /-- a tuple (never changes) -/
  | tup (xs : List V)
  /-- a dict whose keys are ints and texts; one whose keys are tuples of ints and texts (the empty one is both) -/
  | dK (kvs : List (Key × V)) | dT (kvs : List (List Key × V))
  /-- a set of ints: its members, its size -/
  | set (S : Int → Bool) (n : Nat)
  /-- an instance of the class at C, its dict at dx, its attributes -/
  | ins (C dx : Addr) (fs : List (Str × V))
  /-- the dict of the instance at x -/
  | own (x : Addr)
  /-- the dict of an exception -/
  | xd (fs : List (Str × V))
  /-- a bound method, f of x -/
  | met (f x : Addr)
  /-- a range object lo, lo + 1, .. below hi -/
  | rng (lo hi : Int)
  /-- a thing that is known to the object (the script; a dict while a loop walks it): read, never written while it is so -/
  | frz (o : Obj) (u : HO)
  /-- a code object's table -/
  | tbl (ps : Array Value)
  /-- any other thing, by what is true of its one object (a def of one's own: SetO a S n := HO.ext fun h => ..) -/
  | ext (φ : Heap → Prop)

abbrev Hp := Addr → Option HO
noncomputable def upd (H : Hp) (a : Addr) (o : HO) : Hp := fun b => if b = a then some o else H b
theorem upd_same {H : Hp} {a : Addr} {o : HO} : upd H a o a = some o := by unfold upd; rw [if_pos rfl]
theorem upd_ne {H : Hp} {a b : Addr} {o : HO} (h : b ≠ a) : upd H a o b = H b := by unfold upd; rw [if_neg h]
theorem ne_of_none {H : Hp} {a b : Addr} {o : HO} (h : H a = some o) (h' : H b = none) : a ≠ b := by
  intro e; subst e; rw [h] at h'; cases h'

section
variable (P : Program) (w : World)
noncomputable def ObjOk (H : Hp) (h : Heap) (a : Addr) : HO → Prop
  | .lst xs => xs.length ≤ sizeLine ∧ ∃ (its : List Value) (n : Nat), Vals xs its ∧ h.get? a = some { cls := .type "list", data := .seq its.toArray n }
  | .tup xs => xs.length ≤ sizeLine ∧ ∃ its : List Value, Vals xs its ∧ IsTup h a its.toArray
  | .dK kvs => kvs.length ≤ sizeLine ∧ (a == sysModules) = false ∧ ∃ vs, KV kvs vs ∧ h.DictOf (mixKind P w) a vs
  | .dT kvs => kvs.length ≤ sizeLine ∧ (a == sysModules) = false ∧ ∃ xs : List (List Key × Addr × Value),
      Paired (fun (p : List Key × V) (q : List Key × Addr × Value) => p.1 = q.1 ∧ H q.2.1 = some (.tup (p.1.map kV)) ∧ RelV p.2 q.2.2) kvs xs ∧
      ∃ o es ep, h.get? a = some o ∧ o.ExactDict ∧ o.data = .dict es ep ∧ es.toList = xs.map (entryOfKey (tupleKind (mixKind P w))) ∧ (xs.map (·.1)).Nodup
  | .set S n => h.SetOf (intKind P w) a S n
  | .ins C dx fs => H dx = some (.own a) ∧ fs.length ≤ 1000 ∧ dx ≠ a ∧ h.get? a = some (PySem.W.instObj C dx) ∧
      ∃ mA, h.Ns1 dx mA ∧ (∀ f, RelO (fs.lookup f) (mA f)) ∧ PySem.Within mA (fs.map (·.1))
  | .own _ => ∃ o, h.get? a = some o
  | .xd fs => ∃ mA, h.Ns1 a mA ∧ ∀ f, RelO (fs.lookup f) (mA f)
  | .rng lo hi => ∃ t u v, h.get? a = some { cls := .type "range", data := .fields #[.int lo t, .int hi u, .int 1 v] }
  | .frz o u => h.get? a = some o ∧ ObjOk H h a u
  | .tbl ps => h.get? a = some { cls := .none, data := .fields ps }
  | .met f x => h.get? a = some (PySem.W.methodObj (.ref f) (.ref x))
  | .ext φ => φ h ∧ (∃ o, h.get? a = some o) ∧ ∀ h1 h2 : Heap, φ h1 → (∀ o, h1.get? a = some o → h2.get? a = some o) → φ h2
noncomputable def HOk (H : Hp) (h : Heap) : Prop := ∀ a o, H a = some o → ObjOk P w H h a o
end

section
variable {P : Program} {w : World} {H H' : Hp} {h h' : Heap} {a : Addr} {o : HO}
theorem ObjOk.lt (x : ObjOk P w H h a o) : a < h.objs.size := by
  cases o with
  | lst xs => obtain ⟨_, _, _, _, e⟩ := x; exact Heap.lt_size e
  | tup xs => obtain ⟨_, _, _, p⟩ := x; exact p.lt
  | dK kvs => obtain ⟨_, _, _, _, o, _, _, e, _⟩ := x; exact Heap.lt_size e
  | dT kvs => obtain ⟨_, _, _, _, o, _, _, e, _⟩ := x; exact Heap.lt_size e
  | set S n => obtain ⟨o, _, _, _, e, _⟩ := x; exact Heap.lt_size e
  | ins C dx fs => obtain ⟨_, _, _, e, _⟩ := x; exact Heap.lt_size e
  | own y => obtain ⟨_, e⟩ := x; exact Heap.lt_size e
  | xd fs => obtain ⟨_, ⟨_, _, _, e, _⟩, _⟩ := x; exact Heap.lt_size e
  | rng lo hi => obtain ⟨_, _, _, e⟩ := x; exact Heap.lt_size e
  | frz ob u => obtain ⟨e, _⟩ := x; exact Heap.lt_size e
  | tbl ps => exact Heap.lt_size (show h.get? a = some _ from x)
  | met f y => exact Heap.lt_size (show h.get? a = some _ from x)
  | ext φ => obtain ⟨_, ⟨_, e⟩, _⟩ := x; exact Heap.lt_size e
theorem Paired.mapP {α β : Type} {F G : α → β → Prop} : ∀ {l₁ : List α} {l₂ : List β}, Paired F l₁ l₂ → (∀ a b, F a b → G a b) → Paired G l₁ l₂
  | _, _, .nil, _ => .nil
  | _, _, .cons r t, f => .cons (f _ _ r) (Paired.mapP t f)
theorem ObjOk.stay (x : ObjOk P w H h a o) (k : ∀ b u, (b = a ∨ H b = some (.own a)) → h.get? b = some u → h'.get? b = some u)
    (ho : ∀ b, H b = some (.own a) → H' b = some (.own a)) (ht : ∀ b xs, H b = some (.tup xs) → H' b = some (.tup xs)) : ObjOk P w H' h' a o := by
  induction o with
  | lst xs => obtain ⟨z, its, n, r, e⟩ := x; exact ⟨z, its, n, r, k _ _ (.inl rfl) e⟩
  | tup xs => obtain ⟨z, its, r, ob, e, c⟩ := x; exact ⟨z, its, r, ob, k _ _ (.inl rfl) e, c⟩
  | dK kvs => obtain ⟨z, y, vs, r, ob, es, ep, e, c⟩ := x; exact ⟨z, y, vs, r, ob, es, ep, k _ _ (.inl rfl) e, c⟩
  | dT kvs =>
    obtain ⟨z, y, xs, r, ob, es, ep, e, c⟩ := x
    exact ⟨z, y, xs, Paired.mapP r fun p q z => ⟨z.1, ht _ _ z.2.1, z.2.2⟩, ob, es, ep, k _ _ (.inl rfl) e, c⟩
  | set S n => obtain ⟨ob, es, ep, t, e, c⟩ := x; exact ⟨ob, es, ep, t, k _ _ (.inl rfl) e, c⟩
  | ins C dx fs =>
    obtain ⟨d, z, ne, e, mA, ⟨od, es, ep, e2, c⟩, r⟩ := x
    exact ⟨ho _ d, z, ne, k _ _ (.inl rfl) e, mA, ⟨od, es, ep, k _ _ (.inr d) e2, c⟩, r⟩
  | own y => obtain ⟨ob, e⟩ := x; exact ⟨ob, k _ _ (.inl rfl) e⟩
  | xd fs => obtain ⟨mA, ⟨od, es, ep, e, c⟩, r⟩ := x; exact ⟨mA, ⟨od, es, ep, k _ _ (.inl rfl) e, c⟩, r⟩
  | rng lo hi => obtain ⟨t, u, v, e⟩ := x; exact ⟨t, u, v, k _ _ (.inl rfl) e⟩
  | frz ob u ih => obtain ⟨e, q⟩ := x; exact ⟨k _ _ (.inl rfl) e, ih q⟩
  | tbl ps =>
    have e : h.get? a = some { cls := .none, data := .fields ps } := x
    show h'.get? a = some { cls := .none, data := .fields ps }
    exact k a _ (.inl rfl) e
  | met f y =>
    have e : h.get? a = some (PySem.W.methodObj (.ref f) (.ref y)) := x
    show h'.get? a = some (PySem.W.methodObj (.ref f) (.ref y))
    exact k a _ (.inl rfl) e
  | ext φ => obtain ⟨p, ⟨o, e⟩, st⟩ := x; exact ⟨st _ _ p fun o q => k _ _ (.inl rfl) q, ⟨o, k _ _ (.inl rfl) e⟩, st⟩
theorem HOk.lt (x : HOk P w H h) (e : H a = some o) : a < h.objs.size := (x a o e).lt
theorem HOk.fresh (x : HOk P w H h) (e : h.objs.size ≤ a) : H a = none := by
  cases q : H a with
  | none => rfl
  | some u => exact absurd (Nat.lt_of_lt_of_le (x.lt q) e) (Nat.lt_irrefl _)
theorem HOk.kept (x : HOk P w H h) (k : ∀ b u, h.get? b = some u → h'.get? b = some u) : HOk P w H h' := fun a o e =>
  (x a o e).stay (fun b u _ q => k b u q) (fun _ q => q) fun _ _ q => q
theorem HOk.laid (x : HOk P w H h) (k : ∀ b u, h.get? b = some u → h'.get? b = some u) (hp : h.objs.size ≤ a) (new : ObjOk P w (upd H a o) h' a o) : HOk P w (upd H a o) h' := fun b u e => by
  have hn := x.fresh hp
  by_cases hb : b = a
  · subst hb; rw [upd_same] at e; cases e; exact new
  · rw [upd_ne hb] at e
    exact (x b u e).stay (fun c v _ q => k c v q) (fun c q => by rw [upd_ne (ne_of_none q hn)]; exact q) fun c xs q => by rw [upd_ne (ne_of_none q hn)]; exact q
end

noncomputable def Rd (H : Hp) (a : Addr) (u : HO) : Prop := H a = some u ∨ ∃ o, H a = some (.frz o u)
theorem Rd.of {H : Hp} {a : Addr} {u : HO} (h : H a = some u) : Rd H a u := .inl h
theorem Rd.ok {P : Program} {w : World} {H : Hp} {h : Heap} {a : Addr} {u : HO} (r : Rd H a u) (x : HOk P w H h) : ObjOk P w H h a u := by
  rcases r with r | ⟨o, r⟩
  · exact x a u r
  · obtain ⟨_, q⟩ := x a _ r
    exact q
noncomputable def Mut : Option HO → Prop
  | some (.lst _) => True
  | some (.dK _) => True
  | some (.dT _) => True
  | some (.set _ _) => True
  | some (.ins _ _ _) => True
  | some (.ext _) => True
  | _ => False
section
variable {P : Program} {w : World} {H : Hp} {h h' : Heap} {x e : Addr} {o' : HO}
theorem HOk.write (ok : HOk P w H h) (mu : Mut (H x)) (he : e = x ∨ H e = some (.own x)) (k : ∀ b u, b ≠ e → h.get? b = some u → h'.get? b = some u) (heo : ∃ u, h'.get? e = some u)
    (new : ObjOk P w (upd H x o') h' x o') : HOk P w (upd H x o') h' := fun b u q => by
  have nown : ∀ c y, H c = some (.own y) → c ≠ x := fun c y r z => by subst z; rw [r] at mu; exact mu
  have ntup : ∀ c xs, H c = some (.tup xs) → c ≠ x := fun c xs r z => by subst z; rw [r] at mu; exact mu
  by_cases hb : b = x
  · subst hb; rw [upd_same] at q; cases q; exact new
  · rw [upd_ne hb] at q
    by_cases hbe : b = e
    · have q' : H b = some (.own x) := by
        rcases he with z | z
        · exact absurd (hbe.trans z) hb
        · rw [hbe]; exact z
      rw [q] at q'; cases q'
      obtain ⟨v, hv⟩ := heo
      exact ⟨v, by rw [hbe]; exact hv⟩
    · refine (ok b u q).stay (fun c v hc r => k c v ?_ r) (fun c r => by rw [upd_ne (nown c b r)]; exact r) fun c xs r => by rw [upd_ne (ntup c xs r)]; exact r
      rcases hc with rfl | hc
      · exact hbe
      · rintro rfl
        rcases he with z | z
        · exact nown c b hc z
        · rw [hc] at z; cases z; exact hb rfl
end

structure Un (fs ex : List Addr) (H H' : Hp) (h h' : Heap) : Prop where
  keep : ∀ b o, h.get? b = some o → H b = none → b ∉ fs → b ∉ ex → h'.get? b = some o
  slot : ∀ b o, h.get? b = some o → H b = none → b ∈ fs → b ∉ ex → ∃ sl, h'.get? b = some { o with slots := sl }
  free : ∀ b o, h.get? b = some o → H b = none → b ∉ ex → H' b = none
  there : ∀ b o, h.get? b = some o → b ∉ ex → ∃ o', h'.get? b = some o'
  tups : ∀ b xs, H b = some (.tup xs) → H' b = some (.tup xs)
  frzs : ∀ b o u, H b = some (.frz o u) → H' b = some (.frz o u)
  tbls : ∀ b ps, H b = some (.tbl ps) → ∃ more, H' b = some (.tbl (ps ++ more))
section
variable {fs fs' ex ex' : List Addr} {H H1 H2 : Hp} {h h1 h2 h' : Heap} {a x e : Addr} {o : HO}
theorem Un.any (u : Un fs ex H H1 h h1) {b : Addr} {ob : Obj} (q : h.get? b = some ob) (n : H b = none) (hx : b ∉ ex) : ∃ sl, h1.get? b = some { ob with slots := sl } := by
  by_cases hb : b ∈ fs
  · exact u.slot b ob q n hb hx
  · exact ⟨ob.slots, u.keep b ob q n hb hx⟩
theorem Un.trans (a : Un fs ex H H1 h h1) (b : Un fs ex H1 H2 h1 h2) : Un fs ex H H2 h h2 where
  keep := fun c ob q n hc hx => b.keep c ob (a.keep c ob q n hc hx) (a.free c ob q n hx) hc hx
  slot := fun c ob q n hc hx => by
    obtain ⟨sl, e1⟩ := a.slot c ob q n hc hx
    obtain ⟨sl', e2⟩ := b.slot c _ e1 (a.free c ob q n hx) hc hx
    exact ⟨sl', e2⟩
  free := fun c ob q n hx => by
    obtain ⟨o', e1⟩ := a.there c ob q hx
    exact b.free c o' e1 (a.free c ob q n hx) hx
  there := fun c ob q hx => by
    obtain ⟨o', e1⟩ := a.there c ob q hx
    exact b.there c o' e1 hx
  tups := fun c xs q => b.tups c xs (a.tups c xs q)
  frzs := fun c ob xs q => b.frzs c ob xs (a.frzs c ob xs q)
  tbls := fun c ps q => by
    obtain ⟨m1, e1⟩ := a.tbls c ps q
    obtain ⟨m2, e2⟩ := b.tbls c _ e1
    exact ⟨m1 ++ m2, by rw [e2, Array.append_assoc]⟩
theorem Un.kept (k : ∀ b u, h.get? b = some u → h'.get? b = some u) : Un fs ex H H h h' :=
  ⟨fun b ob q _ _ _ => k b ob q, fun b ob q _ _ _ => ⟨ob.slots, k b ob q⟩, fun _ _ _ n _ => n, fun b ob q _ => ⟨ob, k b ob q⟩, fun _ _ q => q, fun _ _ _ q => q, fun _ ps q => ⟨#[], by rw [q]; simp⟩⟩
theorem Un.refl : Un fs ex H H h h := Un.kept fun _ _ q => q
theorem Un.laid (k : ∀ b u, h.get? b = some u → h'.get? b = some u) (hp : h.objs.size ≤ a) (hn : H a = none) : Un fs ex H (upd H a o) h h' where
  keep := fun b u q _ _ _ => k b u q
  slot := fun b u q _ _ _ => ⟨u.slots, k b u q⟩
  free := fun b u q n _ => by rw [upd_ne (Nat.ne_of_lt (Nat.lt_of_lt_of_le (Heap.lt_size q) hp))]; exact n
  there := fun b u q _ => ⟨u, k b u q⟩
  tups := fun b xs q => by rw [upd_ne (ne_of_none q hn)]; exact q
  frzs := fun b u xs q => by rw [upd_ne (ne_of_none q hn)]; exact q
  tbls := fun b ps q => ⟨#[], by rw [upd_ne (ne_of_none q hn), q]; simp⟩
theorem Un.write (mu : Mut (H x)) (he : e = x ∨ H e = some (.own x)) (k : ∀ b u, b ≠ e → h.get? b = some u → h'.get? b = some u) (heo : ∃ u, h'.get? e = some u) : Un fs ex H (upd H x o) h h' := by
  have hx : ∀ b, H b = none → b ≠ x := fun b n z => by subst z; rw [n] at mu; exact mu
  have hb : ∀ b, H b = none → b ≠ e := fun b n z => by
    subst z
    rcases he with r | r
    · exact hx b n r
    · rw [n] at r; cases r
  have hm : ∀ b u, H b = some u → ¬ Mut (some u) → b ≠ x := fun b u q nm z => by subst z; rw [q] at mu; exact nm mu
  refine ⟨fun b u q n _ _ => k b u (hb b n) q, fun b u q n _ _ => ⟨u.slots, k b u (hb b n) q⟩, fun b u q n _ => by rw [upd_ne (hx b n)]; exact n, fun b u q _ => ?_,
    fun b xs q => by rw [upd_ne (hm b _ q fun z => z)]; exact q, fun b u xs q => by rw [upd_ne (hm b _ q fun z => z)]; exact q, fun b ps q => ⟨#[], by rw [upd_ne (hm b _ q fun z => z), q]; simp⟩⟩
  by_cases hbe : b = e
  · subst hbe; exact heo
  · exact ⟨u, k b u hbe q⟩
theorem Un.mono (u : Un fs ex H H1 h h1) (hs : ∀ b ∈ fs, b ∈ fs') (hx : ∀ b ∈ ex, b ∈ ex') : Un fs' ex' H H1 h h1 :=
  ⟨fun b ob q n hb he => u.keep b ob q n (fun z => hb (hs b z)) fun z => he (hx b z), fun _ _ q n _ he => u.any q n fun z => he (hx _ z), fun b ob q n he => u.free b ob q n fun z => he (hx b z), fun b ob q he => u.there b ob q fun z => he (hx b z), u.tups, u.frzs, u.tbls⟩
end

noncomputable def trk (h : Heap) (H : Hp) : List Addr := (List.range h.objs.size).filter fun a => (H a).isSome
noncomputable def hidT (h : Heap) (H : Hp) : Heap := PySem.W.hideAll h (trk h H)
theorem hidT_size (h : Heap) (H : Hp) : (hidT h H).objs.size = h.objs.size := PySem.W.hideAll_size _ _
theorem hidT_get {h : Heap} {H : Hp} {b : Addr} {o : Obj} (e : h.get? b = some o) (n : H b = none) : (hidT h H).get? b = some o :=
  PySem.W.hideAll_get _ e fun hm => by
    have q : (H b).isSome = true := (List.mem_filter.mp hm).2
    rw [n] at q; simp at q
theorem of_hidT {h : Heap} {H : Hp} {b : Addr} {o : Obj} (e : (hidT h H).get? b = some o) : h.get? b = some o ∧ H b = none := by
  have e' : h.get? b = some o := PySem.W.of_hideAll (trk h H) e
  refine ⟨e', ?_⟩
  cases q : H b with
  | none => rfl
  | some x =>
    have hm : b ∈ trk h H := List.mem_filter.mpr ⟨List.mem_range.mpr (Heap.lt_size e'), by simp [q]⟩
    have z : (hidT h H).get? b = none := PySem.W.hideAll_none (trk h H) hm
    rw [z] at e; cases e

noncomputable def allNews (g h : Heap) (L : Addr) : List (Addr × Obj) := (List.range h.objs.size).filterMap fun a => if a = L ∨ (g.get? a).isSome = true then none else (h.get? a).map fun o => (a, o)
noncomputable def rest (g h : Heap) (L d : Addr) : List (Addr × Obj) := (allNews g h L).filter fun p => decide (p.1 ≠ d)
end L2

namespace L2
open PySem PySem.Spec PyProof.Rows

structure Mod (K : PySem.W.Frag) (mg : Str → Option Value) (base : Heap) : Prop where
  kin : K.In base
  glob : base.Ns mainGlobals mg
  blt : ∃ mb, base.Ns builtinsNs mb ∧ ∀ x : Str, x ≠ "__name__" → mb x = bootBuiltins x
  nolimit : base.NoLimit

structure Cx where
  prog : Program
  w : World
  K : PySem.W.Frag
  mg : Str → Option Value
  base : Heap
  A : Around
  N : List Str
  s₀ : Shared
  H₀ : Hp
  env : Env
  outer : List Env
  stack : List Env
  ex : List Addr
  fn : Str → Bool
  calm : Bool
  pn : List (Addr × Obj)
  xe : Value → Shared → Prop
noncomputable def frs (l : List Env) : List Addr := l.filterMap (·.frame)
noncomputable abbrev Cx.fs (X : Cx) : List Addr := frs X.outer

noncomputable def Vis (sc : Scope) (x : Str) : Prop := sc.names.lookup x = some .local ∨ sc.names.lookup x = some .cell ∨ sc.names.lookup x = some .free
noncomputable def Loc (sc : Scope) (x : Str) : Prop := sc.names.lookup x = some .local ∨ sc.names.lookup x = some .cell
noncomputable def Look (env : Env) (h : Heap) (m : Str → Option Value) (x : Str) (u : Value) : Prop :=
  (env.kindOf x = some .local ∧ m x = some u) ∨ ((env.kindOf x = some .cell ∨ env.kindOf x = some .free) ∧ ∃ c, env.cells.lookup x = some c ∧ h.IsCell c (some u))

structure Cx.Ok (X : Cx) : Prop where
  mod : Mod X.K X.mg X.base
  kind : X.env.scope.kind = .function
  glob : X.env.globals = mainGlobals
  blt : X.env.builtins = builtinsNs
  above : X.s₀.heap.objs.size ≤ X.env.locals
  inj : ∀ x y c, X.env.cells.lookup x = some c → X.env.cells.lookup y = some c → x = y
  has : ∀ x, (X.env.kindOf x = some .cell ∨ X.env.kindOf x = some .free) → ∃ c, X.env.cells.lookup x = some c
  cab : ∀ x c, X.fn x = true → X.env.cells.lookup x = some c → X.s₀.heap.objs.size ≤ c
  hd : X.calm = true → X.A.handled = none
  frames : X.A.frames = some X.stack
  stk : X.stack = X.outer ∨ (X.stack = X.env :: X.outer ∧ X.env.frame = some X.env.locals)
  exf : ∀ b ∈ X.ex, b ≠ X.env.locals ∧ ∀ x c, X.env.cells.lookup x = some c → c ≠ b
  bs : ∀ b o, X.base.get? b = some o → X.s₀.heap.get? b = some o ∧ X.H₀ b = none
  bsz : X.base.objs.size ≤ X.s₀.heap.objs.size
  noex : ∀ b o, X.base.get? b = some o → b ∉ X.ex
  exfs : ∀ b ∈ X.ex, b ∉ X.fs
  funs : X.s₀.heap.FunFrames X.base X.outer
  frf : ∀ b ∈ X.fs, X.H₀ b = none

structure Inv (X : Cx) (pins : List (Addr × Obj)) (σ : List (Option V)) (H : Hp) (s : Shared) : Prop where
  ok : X.Ok
  os : s.os = X.s₀.os
  bare : AllBare s.gens
  base : Un X.fs X.ex X.H₀ H X.s₀.heap s.heap
  loc : ∃ m, s.heap.Ns X.env.locals m ∧ ∀ (i : Nat) (x : Str) (v : V), X.N[i]? = some x → σ[i]? = some (some v) → Vis X.env.scope x → ∃ u, RelV v u ∧ Look X.env s.heap m x u
  cell : ∀ x c, X.env.cells.lookup x = some c → ∃ v, s.heap.IsCell c v
  free : H X.env.locals = none
  freeC : ∀ x c, X.env.cells.lookup x = some c → H c = none
  pin : ∀ p ∈ X.pn ++ pins, s.heap.get? p.1 = some p.2 ∧ H p.1 = none ∧ p.1 ≠ X.env.locals ∧ p.1 ∉ X.fs ∧ ∀ v, p.2.data ≠ .cell v
  hok : HOk X.prog X.w H s.heap
  len : σ.length = X.N.length

section
variable {X : Cx} {pins : List (Addr × Obj)} {σ : List (Option V)} {H H' : Hp} {s : Shared} {h' : Heap}

theorem Cx.Ok.nofr (ok : X.Ok) {b : Addr} {o : Obj} (e : X.base.get? b = some o) : b ∉ X.fs := fun hb => by
  have := (ok.funs.mem hb).1
  rw [e] at this; cases this
theorem Inv.bs (I : Inv X pins σ H s) : ∀ b o, X.base.get? b = some o → s.heap.get? b = some o ∧ H b = none := fun b o e =>
  ⟨I.base.keep b o (I.ok.bs b o e).1 (I.ok.bs b o e).2 (I.ok.nofr e) (I.ok.noex b o e), I.base.free b o (I.ok.bs b o e).1 (I.ok.bs b o e).2 (I.ok.noex b o e)⟩
theorem Inv.bk (I : Inv X pins σ H s) : ∀ b o, X.base.get? b = some o → s.heap.get? b = some o := fun b o e => (I.bs b o e).1
theorem Inv.mod (I : Inv X pins σ H s) : Mod X.K X.mg X.base := I.ok.mod
theorem Inv.kIn (I : Inv X pins σ H s) : X.K.In s.heap := I.ok.mod.kin.keeps I.bk
theorem Inv.nolimit (I : Inv X pins σ H s) : s.heap.NoLimit := I.ok.mod.nolimit.keeps I.bk
theorem Inv.fr (I : Inv X pins σ H s) : ∃ m, Fr X.base X.env.locals s.heap m :=
  let ⟨m, hn, _⟩ := I.loc
  ⟨m, hn, I.bk, Nat.le_trans I.ok.bsz I.ok.above⟩
theorem Inv.lt (I : Inv X pins σ H s) : X.env.locals < s.heap.objs.size := let ⟨_, hn, _⟩ := I.loc; hn.lt
theorem Inv.sz (I : Inv X pins σ H s) : X.s₀.heap.objs.size ≤ s.heap.objs.size := Nat.le_trans I.ok.above (Nat.le_of_lt I.lt)
theorem Inv.nofs (I : Inv X pins σ H s) {a : Addr} (h : s.heap.objs.size ≤ a) : a ∉ X.fs := fun hb => by
  obtain ⟨_, o, ho, _⟩ := I.ok.funs.mem hb
  exact absurd (Nat.lt_of_lt_of_le (Heap.lt_size ho) (Nat.le_trans I.sz h)) (Nat.lt_irrefl _)
theorem Inv.cne (I : Inv X pins σ H s) : ∀ x c, X.env.cells.lookup x = some c → c ≠ X.env.locals := fun x c e z => by
  obtain ⟨v, o, ho, hd⟩ := I.cell x c e
  obtain ⟨m, ⟨o', es, ep, ho', hd', _⟩, _⟩ := I.loc
  rw [z, ho'] at ho; cases ho; rw [hd'] at hd; cases hd
theorem Inv.funs (I : Inv X pins σ H s) : s.heap.FunFrames X.base X.outer := by
  have all : ∀ (l : List Env), (∀ b ∈ frs l, b ∈ X.fs) → X.s₀.heap.FunFrames X.base l → s.heap.FunFrames X.base l := by
    intro l
    induction l with
    | nil => intro _ _; trivial
    | cons env r ih =>
      intro hs hl
      obtain ⟨hk, ⟨L, o, hf, hn, ho, hd⟩, hr⟩ := hl
      have hL : L ∈ X.fs := hs L (by unfold frs; rw [List.filterMap_cons, hf]; exact List.mem_cons_self)
      obtain ⟨sl, e⟩ := I.base.slot L o ho (I.ok.frf L hL) hL fun z => I.ok.exfs L z hL
      exact ⟨hk, ⟨L, _, hf, hn, e, hd⟩, ih (fun b hb => hs b (by unfold frs; rw [List.filterMap_cons, hf]; exact List.mem_cons_of_mem _ hb)) hr⟩
  exact all X.outer (fun _ hb => hb) I.ok.funs

theorem Inv.stack (I : Inv X pins σ H s) : s.heap.FunFrames X.base X.stack := by
  rcases I.ok.stk with e | ⟨e, hf⟩
  · rw [e]; exact I.funs
  · rw [e]
    obtain ⟨m, hn, _⟩ := I.loc
    refine .cons (by rw [I.ok.kind]; decide) hf hn ?_ I.funs
    exact Heap.get?_none_of_le (Nat.le_trans I.ok.bsz I.ok.above)
theorem Inv.stkSub (I : Inv X pins σ H s) : ∀ b ∈ frs X.stack, b ∈ X.env.locals :: X.fs := fun b hb => by
  rcases I.ok.stk with e | ⟨e, hf⟩
  · rw [e] at hb; exact List.mem_cons_of_mem _ hb
  · rw [e] at hb
    unfold frs at hb
    rw [List.filterMap_cons, hf] at hb
    exact hb
theorem Inv.stkFree (I : Inv X pins σ H s) : ∀ b ∈ frs X.stack, H b = none := fun b hb => by
  rcases List.mem_cons.mp (I.stkSub b hb) with e | hb
  · rw [e]; exact I.free
  · obtain ⟨_, o, ho, _⟩ := I.ok.funs.mem hb
    exact I.base.free b o ho (I.ok.frf b hb) fun z => I.ok.exfs b z hb

theorem Inv.step {g' : Array GenState} {t' : Nat} {d' : Drawn} {ch : List Addr} (I : Inv X pins σ H s)
    (hch : ∀ b ∈ ch, (b ∈ X.ex ∨ X.s₀.heap.objs.size ≤ b) ∧ b ≠ X.env.locals ∧ (∀ x c, X.env.cells.lookup x = some c → c ≠ b) ∧ ∀ p ∈ X.pn ++ pins, p.1 ≠ b)
    (keep : ∀ b o, b ≠ X.env.locals → b ∉ X.fs → b ∉ ch → s.heap.get? b = some o → H b = none → h'.get? b = some o)
    (slot : ∀ b o, b ≠ X.env.locals → b ∈ X.fs → b ∉ ch → s.heap.get? b = some o → H b = none → ∃ sl, h'.get? b = some { o with slots := sl }) (free : ∀ b o, b ∉ ch → s.heap.get? b = some o → H b = none → H' b = none)
    (there : ∀ b o, b ∉ ch → s.heap.get? b = some o → ∃ o', h'.get? b = some o')
    (tups : ∀ b xs, H b = some (.tup xs) → H' b = some (.tup xs)) (frzs : ∀ b o u, H b = some (.frz o u) → H' b = some (.frz o u)) (tbls : ∀ b ps, H b = some (.tbl ps) → ∃ more, H' b = some (.tbl (ps ++ more)))
    (ns : ∀ m, s.heap.Ns X.env.locals m → h'.Ns X.env.locals m) (hok : HOk X.prog X.w H' h') (hg : AllBare g') :
    Inv X pins σ H' { s with heap := h', gens := g', drawn := d', toks := t' } := by
  have neL : ∀ b o, X.s₀.heap.get? b = some o → b ≠ X.env.locals := fun b o e => Nat.ne_of_lt (Nat.lt_of_lt_of_le (Heap.lt_size e) I.ok.above)
  have neC : ∀ b o, X.s₀.heap.get? b = some o → b ∉ X.ex → b ∉ ch := fun b o e hx hb => by
    rcases (hch b hb).1 with z | z
    · exact hx z
    · exact absurd (Nat.lt_of_lt_of_le (Heap.lt_size e) z) (Nat.lt_irrefl _)
  have cellK : ∀ x c, X.env.cells.lookup x = some c → ∀ v, s.heap.IsCell c v → h'.IsCell c v := fun x c e v ⟨o, ho, hd⟩ => by
    have nch : c ∉ ch := fun z => (hch c z).2.2.1 x c e rfl
    by_cases hc : c ∈ X.fs
    · obtain ⟨sl, q⟩ := slot c o (I.cne x c e) hc nch ho (I.freeC x c e)
      exact ⟨_, q, hd⟩
    · exact ⟨o, keep c o (I.cne x c e) hc nch ho (I.freeC x c e), hd⟩
  refine ⟨I.ok, I.os, hg, ⟨fun b o e n hb hx => ?_, fun b o e n hb hx => ?_, fun b o e n hx => ?_, fun b o e hx => ?_, fun b xs e => tups b xs (I.base.tups b xs e), fun b o xs e => frzs b o xs (I.base.frzs b o xs e), fun b ps e => ?_⟩, ?_, fun x c e => ?_, ?_, fun x c e => ?_, fun p hp => ?_, hok, I.len⟩
  · exact keep b o (neL b o e) hb (neC b o e hx) (I.base.keep b o e n hb hx) (I.base.free b o e n hx)
  · obtain ⟨sl, e1⟩ := I.base.slot b o e n hb hx
    obtain ⟨sl', e2⟩ := slot b _ (neL b o e) hb (neC b o e hx) e1 (I.base.free b o e n hx)
    exact ⟨sl', e2⟩
  · obtain ⟨o', e1⟩ := I.base.there b o e hx
    exact free b o' (neC b o e hx) e1 (I.base.free b o e n hx)
  · obtain ⟨o', e1⟩ := I.base.there b o e hx
    exact there b o' (neC b o e hx) e1
  · obtain ⟨m1, e1⟩ := I.base.tbls b ps e
    obtain ⟨m2, e2⟩ := tbls b _ e1
    exact ⟨m1 ++ m2, by rw [e2, Array.append_assoc]⟩
  · obtain ⟨m, hn, hl⟩ := I.loc
    refine ⟨m, ns m hn, fun i x v e1 e2 e3 => ?_⟩
    obtain ⟨u, r, l⟩ := hl i x v e1 e2 e3
    refine ⟨u, r, ?_⟩
    rcases l with l | ⟨k, c, e, z⟩
    · exact .inl l
    · exact .inr ⟨k, c, e, cellK x c e _ z⟩
  · obtain ⟨v, z⟩ := I.cell x c e
    exact ⟨v, cellK x c e v z⟩
  · obtain ⟨m, ⟨o, _, _, ho, _⟩, _⟩ := I.loc
    exact free _ o (fun z => (hch _ z).2.1 rfl) ho I.free
  · obtain ⟨v, o, ho, hd⟩ := I.cell x c e
    exact free c o (fun z => (hch c z).2.2.1 x c e rfl) ho (I.freeC x c e)
  · obtain ⟨e, n, ne, nf, d⟩ := I.pin p hp
    have nch : p.1 ∉ ch := fun z => (hch p.1 z).2.2.2 p hp rfl
    exact ⟨keep p.1 p.2 ne nf nch e n, free p.1 p.2 nch e n, ne, nf, d⟩
theorem Inv.un {t' : Nat} (I : Inv X pins σ H s) (u : Un X.fs [] H H' s.heap h') (hok : HOk X.prog X.w H' h') : Inv X pins σ H' { s with heap := h', toks := t' } := by
  obtain ⟨m, ⟨o, es, ep, ho, r⟩, _⟩ := id I.loc
  obtain ⟨sl, hL⟩ := u.any ho I.free (by simp)
  exact I.step (g' := s.gens) (d' := s.drawn) (ch := []) (fun _ z => nomatch z) (fun b o _ hb _ e n => u.keep b o e n hb (by simp)) (fun b o _ hb _ e n => u.slot b o e n hb (by simp)) (fun b o _ e n => u.free b o e n (by simp)) (fun b o _ e => u.there b o e (by simp)) u.tups u.frzs u.tbls (fun m' hm => by
    obtain ⟨o', es', ep', ho', r'⟩ := hm
    rw [ho] at ho'; cases ho'
    exact ⟨_, es', ep', hL, r'⟩) hok I.bare
theorem Inv.call {g' : Array GenState} {t' : Nat} {d' : Drawn} {ch : List Addr} (I : Inv X pins σ H s) (u : Un (frs X.stack) ch H H' s.heap h') (hok : HOk X.prog X.w H' h') (hg : AllBare g')
    (hch : ∀ b ∈ ch, (b ∈ X.ex ∨ X.s₀.heap.objs.size ≤ b) ∧ b ≠ X.env.locals ∧ (∀ x c, X.env.cells.lookup x = some c → c ≠ b) ∧ ∀ p ∈ X.pn ++ pins, p.1 ≠ b) :
    Inv X pins σ H' { s with heap := h', gens := g', drawn := d', toks := t' } := by
  obtain ⟨m, ⟨o, es, ep, ho, r⟩, _⟩ := id I.loc
  obtain ⟨sl, hL⟩ := u.any ho I.free fun z => (hch _ z).2.1 rfl
  exact I.step (ch := ch) hch (fun b o hL hb hc e n => u.keep b o e n (fun z => (List.mem_cons.mp (I.stkSub b z)).elim hL hb) hc) (fun b o _ _ hc e n => u.any e n hc) (fun b o hc e n => u.free b o e n hc) (fun b o hc e => u.there b o e hc) u.tups u.frzs u.tbls (fun m' hm => by
    obtain ⟨o', es', ep', ho', r'⟩ := hm
    rw [ho] at ho'; cases ho'
    exact ⟨_, es', ep', hL, r'⟩) hok hg
theorem Inv.turned {t' : Nat} {it : Addr} (I : Inv X pins σ H s) (k : ∀ b o, b ≠ it → s.heap.get? b = some o → h'.get? b = some o) (hn : H it = none) (hL : it ≠ X.env.locals)
    (h1 : it ∈ X.ex ∨ X.s₀.heap.objs.size ≤ it) (h2 : ∀ x c, X.env.cells.lookup x = some c → c ≠ it) (h3 : ∀ p ∈ X.pn ++ pins, p.1 ≠ it) : Inv X pins σ H { s with heap := h', toks := t' } := by
  have nit : ∀ b u, H b = some u → b ≠ it := fun b u e z => by rw [z, hn] at e; cases e
  refine I.step (g' := s.gens) (d' := s.drawn) (ch := [it]) (fun b hb => ?_) (fun b o _ _ hc e _ => k b o (fun z => hc (by simp [z])) e) (fun b o _ _ hc e _ => ⟨o.slots, k b o (fun z => hc (by simp [z])) e⟩) (fun _ _ _ _ n => n)
    (fun b o hc e => ⟨o, k b o (fun z => hc (by simp [z])) e⟩) (fun _ _ e => e) (fun _ _ _ e => e) (fun b ps e => ⟨#[], by rw [e]; simp⟩) (fun m hm => ?_) (fun b u e => ?_) I.bare
  · have e : b = it := by simpa using hb
    subst e
    exact ⟨h1, hL, h2, h3⟩
  · obtain ⟨o, es, ep, ho, r⟩ := hm
    exact ⟨o, es, ep, k _ o (Ne.symm hL) ho, r⟩
  · refine (I.hok b u e).stay (fun c v hc q => k c v ?_ q) (fun _ q => q) fun _ _ q => q
    rcases hc with z | z
    · rw [z]; exact nit b u e
    · exact nit c _ z
theorem Inv.tok (I : Inv X pins σ H s) (t : Nat) : Inv X pins σ H { s with toks := t } := I.un (h' := s.heap) (t' := t) Un.refl I.hok
theorem Inv.kept {t' : Nat} (I : Inv X pins σ H s) (k : ∀ b u, s.heap.get? b = some u → h'.get? b = some u) : Inv X pins σ H { s with heap := h', toks := t' } := I.un (Un.kept k) (I.hok.kept k)
theorem Inv.laid {a : Addr} {o : HO} {t' : Nat} (I : Inv X pins σ H s) (k : ∀ b u, s.heap.get? b = some u → h'.get? b = some u) (hp : s.heap.objs.size ≤ a) (new : ObjOk X.prog X.w (upd H a o) h' a o) :
    Inv X pins σ (upd H a o) { s with heap := h', toks := t' } := I.un (Un.laid k hp (I.hok.fresh hp)) (I.hok.laid k hp new)
theorem Inv.write {x e : Addr} {o : HO} {t' : Nat} (I : Inv X pins σ H s) (mu : Mut (H x)) (he : e = x ∨ H e = some (.own x)) (k : ∀ b u, b ≠ e → s.heap.get? b = some u → h'.get? b = some u) (heo : ∃ u, h'.get? e = some u)
    (new : ObjOk X.prog X.w (upd H x o) h' x o) : Inv X pins σ (upd H x o) { s with heap := h', toks := t' } := I.un (Un.write mu he k heo) (I.hok.write mu he k heo new)
theorem Inv.pins_of {pins' : List (Addr × Obj)} (I : Inv X pins σ H s) (h : ∀ p ∈ pins', s.heap.get? p.1 = some p.2 ∧ H p.1 = none ∧ p.1 ≠ X.env.locals ∧ p.1 ∉ X.fs ∧ ∀ v, p.2.data ≠ .cell v) : Inv X pins' σ H s :=
  ⟨I.ok, I.os, I.bare, I.base, I.loc, I.cell, I.free, I.freeC, fun p hp => (List.mem_append.mp hp).elim (fun z => I.pin p (List.mem_append_left _ z)) (h p), I.hok, I.len⟩

theorem nodup_ix {N : List Str} (hN : N.Nodup) {i j : Nat} {x : Str} (a : N[i]? = some x) (b : N[j]? = some x) : i = j := by
  obtain ⟨h1, e1⟩ := List.getElem?_eq_some_iff.mp a
  obtain ⟨h2, e2⟩ := List.getElem?_eq_some_iff.mp b
  exact (List.getElem_inj hN).mp (e1.trans e2.symm)

theorem store_ok2 {M : Model} {A : Around} {E : Value → Shared → Prop} {i : Nat} {x : Str} {v : V} {u : Value} {Q : Unit → Shared → Prop} (I : Inv X pins σ H s) (hN : X.N.Nodup) (hi : X.N[i]? = some x) (hx : Loc X.env.scope x) (r : RelV v u)
    (h : ∀ s', Inv X pins (σ.set i (some v)) H s' → (∃ a, Heap.SameBut a s.heap s'.heap ∧ (a = X.env.locals ∨ X.env.cells.lookup x = some a)) → Q () s') (hf : X.fn x = true ∨ X.env.scope.names.lookup x = some .local := by first | exact .inl rfl | exact .inr rfl | assumption) : wpAny M A (storeName X.env x u) Q E s := by
  obtain ⟨m, hn, hl⟩ := id I.loc
  have hcls : (X.env.scope.kind == .class || (X.env.scope.kind == .module && X.env.locals != X.env.globals)) = false := by rw [I.ok.kind]; rfl
  have hiσ : i < σ.length := by rw [I.len]; exact (List.getElem?_eq_some_iff.mp hi).1
  have cne := I.cne
  have tracked : ∀ {a : Addr} {h' : Heap}, (∃ o, s.heap.get? a = some o ∧ H a = none) → Heap.SameBut a s.heap h' → HOk X.prog X.w H h' := fun {a h'} ha hs b ob e => by
    obtain ⟨_, _, hfree⟩ := ha
    refine (I.hok b ob e).stay (fun c w' hc q => (hs.2 c ?_).trans q) (fun _ q => q) fun _ _ q => q
    rintro rfl
    rcases hc with rfl | hc
    · rw [hfree] at e; cases e
    · rw [hfree] at hc; cases hc
  rcases hx with hk | hk
  · refine wpAny_storeName_local hk hn (fun h' hn' hs => ?_) hcls
    obtain ⟨oL, _, _, hoL, _⟩ := id hn
    refine h _ ⟨I.ok, I.os, I.bare, ⟨fun b o e n hb hx => ?_, fun b o e n hb hx => ?_, I.base.free, fun b o e hx => ?_, I.base.tups, I.base.frzs, I.base.tbls⟩, ⟨_, hn', fun j y v' e1 e2 e3 => ?_⟩, fun y c e => ?_, I.free, I.freeC, fun p hp => ?_, tracked ⟨oL, hoL, I.free⟩ hs, by simpa using I.len⟩ ⟨_, hs, .inl rfl⟩
    · exact (hs.2 b (Nat.ne_of_lt (Nat.lt_of_lt_of_le (Heap.lt_size e) I.ok.above))).trans (I.base.keep b o e n hb hx)
    · obtain ⟨sl, e1⟩ := I.base.slot b o e n hb hx
      exact ⟨sl, (hs.2 b (Nat.ne_of_lt (Nat.lt_of_lt_of_le (Heap.lt_size e) I.ok.above))).trans e1⟩
    · obtain ⟨o', e1⟩ := I.base.there b o e hx
      exact ⟨o', (hs.2 b (Nat.ne_of_lt (Nat.lt_of_lt_of_le (Heap.lt_size e) I.ok.above))).trans e1⟩
    · by_cases hj : j = i
      · subst hj
        rw [hi] at e1; cases e1
        rw [List.getElem?_set_self hiσ] at e2
        cases e2
        exact ⟨u, r, .inl ⟨hk, by simp⟩⟩
      · rw [List.getElem?_set_ne (Ne.symm hj)] at e2
        obtain ⟨u', r', q⟩ := hl j y v' e1 e2 e3
        refine ⟨u', r', ?_⟩
        rcases q with ⟨k, e⟩ | ⟨k, c, e, z⟩
        · refine .inl ⟨k, ?_⟩
          have : y ≠ x := fun e => hj (nodup_ix hN e1 (e ▸ hi))
          simp [this, e]
        · exact .inr ⟨k, c, e, z.sameBut hs (cne y c e)⟩
    · obtain ⟨w', z⟩ := I.cell y c e
      exact ⟨w', z.sameBut hs (cne y c e)⟩
    · obtain ⟨e, n, ne, nf, d⟩ := I.pin p hp
      exact ⟨(hs.2 p.1 ne).trans e, n, ne, nf, d⟩
  · have hfn : X.fn x = true := by
      rcases hf with z | z
      · exact z
      · rw [z] at hk; cases hk
    obtain ⟨c, hc⟩ := I.ok.has x (.inl hk)
    obtain ⟨w', z⟩ := I.cell x c hc
    refine wpAny_storeName_cell I.ok.kind hk hc z (fun h' hc' hs => ?_)
    obtain ⟨oc, hoc, hocd⟩ := id z
    refine h { s with heap := h' } ⟨I.ok, I.os, I.bare, ⟨fun b o e n hb hx => ?_, fun b o e n hb hx => ?_, I.base.free, fun b o e hx => ?_, I.base.tups, I.base.frzs, I.base.tbls⟩, ⟨m, hn.sameBut hs (Ne.symm (cne x c hc)), fun j y v' e1 e2 e3 => ?_⟩, fun y c' e => ?_, I.free, I.freeC, fun p hp => ?_, tracked ⟨oc, hoc, I.freeC x c hc⟩ hs, by simpa using I.len⟩ ⟨c, hs, .inr hc⟩
    · exact (hs.2 b (Nat.ne_of_lt (Nat.lt_of_lt_of_le (Heap.lt_size e) (I.ok.cab x c hfn hc)))).trans (I.base.keep b o e n hb hx)
    · obtain ⟨sl, e1⟩ := I.base.slot b o e n hb hx
      exact ⟨sl, (hs.2 b (Nat.ne_of_lt (Nat.lt_of_lt_of_le (Heap.lt_size e) (I.ok.cab x c hfn hc)))).trans e1⟩
    · obtain ⟨o', e1⟩ := I.base.there b o e hx
      exact ⟨o', (hs.2 b (Nat.ne_of_lt (Nat.lt_of_lt_of_le (Heap.lt_size e) (I.ok.cab x c hfn hc)))).trans e1⟩
    · by_cases hj : j = i
      · subst hj
        rw [hi] at e1; cases e1
        rw [List.getElem?_set_self hiσ] at e2
        cases e2
        exact ⟨u, r, .inr ⟨.inl hk, c, hc, hc'⟩⟩
      · rw [List.getElem?_set_ne (Ne.symm hj)] at e2
        obtain ⟨u', r', q⟩ := hl j y v' e1 e2 e3
        refine ⟨u', r', ?_⟩
        rcases q with q | ⟨k, c', e, z'⟩
        · exact .inl q
        · refine .inr ⟨k, c', e, z'.sameBut hs ?_⟩
          rintro rfl
          exact hj (nodup_ix hN e1 (I.ok.inj _ _ _ e hc ▸ hi))
    · by_cases hcc : c' = c
      · subst hcc; exact ⟨_, hc'⟩
      · obtain ⟨w2, z2⟩ := I.cell y c' e
        exact ⟨w2, z2.sameBut hs hcc⟩
    · obtain ⟨e, n, ne, nf, d⟩ := I.pin p hp
      refine ⟨(hs.2 p.1 ?_).trans e, n, ne, nf, d⟩
      intro q
      rw [q, hoc] at e
      have q' : oc = p.2 := Option.some.inj e
      exact d w' (by rw [← q']; exact hocd)
theorem store_ok {M : Model} {A : Around} {E : Value → Shared → Prop} {i : Nat} {x : Str} {v : V} {u : Value} {Q : Unit → Shared → Prop} (I : Inv X pins σ H s) (hN : X.N.Nodup) (hi : X.N[i]? = some x) (hx : Loc X.env.scope x) (r : RelV v u)
    (h : ∀ s', Inv X pins (σ.set i (some v)) H s' → Q () s') (hf : X.fn x = true ∨ X.env.scope.names.lookup x = some .local := by first | exact .inl rfl | exact .inr rfl | assumption) : wpAny M A (storeName X.env x u) Q E s :=
  store_ok2 I hN hi hx r (fun s' I' _ => h s' I') hf
end

abbrev XK := Value → Option Addr → Hp → Prop
abbrev St := List (Option V)
abbrev VK := V → Hp → Prop
abbrev TE := St → Hp → VK → Prop
abbrev TT := St → Hp → (Bool → Hp → Prop) → Prop
abbrev TA := St → Hp → (List V → Hp → Prop) → Prop
structure Ends where
  nx : St → Hp → Prop
  rt : VK
  bk : St → Hp → Prop := fun _ _ => False
  ct : St → Hp → Prop := fun _ _ => False
abbrev TS := Ends → St → Hp → Prop

noncomputable def EP (X : Cx) (pins : List (Addr × Obj)) (σ : St) (Q : VK) (u : Value) (s' : Shared) : Prop := ∃ v H', Inv X pins σ H' s' ∧ RelV v u ∧ Q v H'
noncomputable def TP (X : Cx) (pins : List (Addr × Obj)) (σ : St) (Q : Bool → Hp → Prop) (b : Bool) (s' : Shared) : Prop := ∃ H', Inv X pins σ H' s' ∧ Q b H'
noncomputable def AP (X : Cx) (pins : List (Addr × Obj)) (σ : St) (Q : List V → Hp → Prop) (us : List Value) (s' : Shared) : Prop := ∃ vs H', Inv X pins σ H' s' ∧ Vals vs us ∧ Q vs H'
noncomputable def SP (X : Cx) (pins : List (Addr × Obj)) (D : Ends) (f : Flow) (s' : Shared) : Prop :=
  match f with
  | .next => ∃ σ' H', Inv X pins σ' H' s' ∧ D.nx σ' H'
  | .brk => ∃ σ' H', Inv X pins σ' H' s' ∧ D.bk σ' H'
  | .cont => ∃ σ' H', Inv X pins σ' H' s' ∧ D.ct σ' H'
  | .ret u => ∃ v σ' H', Inv X pins σ' H' s' ∧ RelV v u ∧ D.rt v H'

noncomputable def PE (X : Cx) (e : Expr) (t : TE) : Prop :=
  ∀ (pins : List (Addr × Obj)) (s : Shared) (σ : St) (H : Hp) (Q : VK), Inv X pins σ H s → t σ H Q → wpAny (model X.prog X.w) X.A (eval e X.env) (EP X pins σ Q) X.xe s
noncomputable def PT (X : Cx) (e : Expr) (t : TT) : Prop :=
  ∀ (pins : List (Addr × Obj)) (s : Shared) (σ : St) (H : Hp) (Q : Bool → Hp → Prop), Inv X pins σ H s → t σ H Q → wpAny (model X.prog X.w) X.A (isTrue e X.env (eval e X.env)) (TP X pins σ Q) X.xe s
noncomputable def PW (X : Cx) (e : Expr) (t : TT) : Prop :=
  ∀ (whole : Sem Value) (pins : List (Addr × Obj)) (s : Shared) (σ : St) (H : Hp) (Q : Bool → Hp → Prop), Inv X pins σ H s → t σ H Q → wpAny (model X.prog X.w) X.A (isTrue e X.env whole) (TP X pins σ Q) X.xe s
theorem PW.pt {X : Cx} {e : Expr} {t : TT} (h : PW X e t) : PT X e t := h _
noncomputable def PA (X : Cx) (es : List Expr) (t : TA) : Prop :=
  ∀ (pos : Pos) (pins : List (Addr × Obj)) (s : Shared) (σ : St) (H : Hp) (Q : List V → Hp → Prop), Inv X pins σ H s → t σ H Q → wpAny (model X.prog X.w) X.A (spliced (backTo pos (starEach es X.env))) (AP X pins σ Q) X.xe s
noncomputable def PS (X : Cx) (st : Stmt) (t : TS) : Prop :=
  ∀ (pins : List (Addr × Obj)) (s : Shared) (σ : St) (H : Hp) (D : Ends), Inv X pins σ H s → t D σ H → wpAny (model X.prog X.w) X.A (exec st X.env) (SP X pins D) X.xe s
noncomputable def PSs (X : Cx) (st : List Stmt) (t : TS) : Prop :=
  ∀ (pins : List (Addr × Obj)) (s : Shared) (σ : St) (H : Hp) (D : Ends), Inv X pins σ H s → t D σ H → wpAny (model X.prog X.w) X.A (execs st X.env) (SP X pins D) X.xe s
theorem thn {α : Type} {t : Sem α} {Q Q' : α → Shared → Prop} {M : Model} {A : Around} {E : Value → Shared → Prop} {s : Shared} (h : wpAny M A t Q E s) (hQ : ∀ a s, Q a s → Q' a s) : wpAny M A t Q' E s := wpAny_mono h hQ fun _ _ x => x
end L2

namespace L2
open PySem PySem.Spec PyProof.Rows
section
variable {X : Cx}

noncomputable def tVar (i : Nat) : TE := fun σ H Q => ∃ v, σ[i]? = some (some v) ∧ Q v H
noncomputable def tC (v : V) : TE := fun _ H Q => Q v H
theorem pe_var {i : Nat} {x : Str} {pos : Pos} (hN : X.N[i]? = some x) (hv : Vis X.env.scope x) (hd : (x == ("__debug__" : Str)) = false := by decide) (hcd : (x == ("__classdict__" : Str)) = false := by decide) : PE X (.Name x pos) (tVar i) := by
  intro pins s σ H Q I h
  obtain ⟨v, e, h⟩ := h
  obtain ⟨m, hn, hl⟩ := I.loc
  obtain ⟨u, r, l⟩ := hl i x v hN e hv
  have fin : EP X pins σ Q u s := ⟨v, H, I, r, h⟩
  rcases l with ⟨hk, hm⟩ | ⟨hk, c, hc, hcell⟩
  · exact wpAny_Name (wpAny_loadName_local I.ok.kind hk hn hm fin) hd
  · rcases hk with hk | hk
    · exact wpAny_Name (wpAny_loadName_cell I.ok.kind hk hc hcell fin) hd
    · exact wpAny_Name (wpAny_loadName_free I.ok.kind hk hc hcell fin hcd) hd
theorem pe_int {i j pos} : PE X (.Constant (.int i) j pos) (tC (.int i)) := fun _ _ _ H _ I h => wpAny_Constant_int ⟨.int i, H, I.tok _, ⟨_, rfl⟩, h⟩
theorem pe_bl {b j pos} : PE X (.Constant (.bool b) j pos) (tC (.bl b)) := fun _ _ _ H _ I h => Constant_bool ⟨.bl b, H, I, rfl, h⟩
theorem pe_non {j pos} : PE X (.Constant .none j pos) (tC .non) := fun _ _ _ H _ I h => Constant_none ⟨.non, H, I, rfl, h⟩
theorem pe_str {x j pos} : PE X (.Constant (.str x) j pos) (tC (.str x)) := fun _ _ _ H _ I h => Calls.Constant_str ⟨.str x, H, I.tok _, ⟨_, rfl⟩, h⟩

noncomputable def Gl (X : Cx) (x : Str) : Prop := X.env.kindOf x = some .globalImplicit
theorem ld_glob {E : Value → Shared → Prop} {pins : List (Addr × Obj)} {s : Shared} {σ : St} {H : Hp} {x : Str} {u : Value} {pos : Pos} {Q : Value → Shared → Prop} (I : Inv X pins σ H s) (hg : Gl X x) (hm : X.mg x = some u) (h : Q u s)
    (hd : (x == ("__debug__" : Str)) = false := by decide) : wpAny (model X.prog X.w) X.A (eval (.Name x pos) X.env) Q E s :=
  Calls.Name_function_global I.ok.kind hg (Calls.loadGlobal_global (by rw [I.ok.glob]; exact I.mod.glob.keeps I.bk) hm h) hd
theorem ld_blt {E : Value → Shared → Prop} {pins : List (Addr × Obj)} {s : Shared} {σ : St} {H : Hp} {x : Str} {u : Value} {pos : Pos} {Q : Value → Shared → Prop} (I : Inv X pins σ H s) (hg : Gl X x) (hm : X.mg x = none) (hv : bootBuiltins x = some u) (h : Q u s)
    (hn : x ≠ "__name__" := by decide) (hd : (x == ("__debug__" : Str)) = false := by decide) : wpAny (model X.prog X.w) X.A (eval (.Name x pos) X.env) Q E s := by
  obtain ⟨mb, h1, h2⟩ := I.mod.blt
  exact Calls.Name_function_global I.ok.kind hg (Calls.loadGlobal_builtin (by rw [I.ok.glob]; exact I.mod.glob.keeps I.bk) hm (by rw [I.ok.blt]; exact h1.keeps I.bk) ((h2 x hn).trans hv) h) hd
theorem pe_glob {x : Str} {v : V} {u : Value} {pos : Pos} (hg : Gl X x) (hm : X.mg x = some u) (r : RelV v u) (hd : (x == ("__debug__" : Str)) = false := by decide) : PE X (.Name x pos) (tC v) :=
  fun _ _ _ H _ I h => ld_glob I hg hm ⟨v, H, I, r, h⟩ hd
theorem pe_bltn {x : Str} {v : V} {u : Value} {pos : Pos} (hg : Gl X x) (hm : X.mg x = none) (hv : bootBuiltins x = some u) (r : RelV v u) (hn : x ≠ "__name__" := by decide) (hd : (x == ("__debug__" : Str)) = false := by decide) : PE X (.Name x pos) (tC v) :=
  fun _ _ _ H _ I h => ld_blt I hg hm hv ⟨v, H, I, r, h⟩ hn hd

variable {a b : Expr} {ta tb : TE} {pos : Pos}
noncomputable def tB (t : TE) : TT := fun σ H Q => t σ H fun x H1 => ∃ c, x = .bl c ∧ Q c H1
theorem pt_val {e : Expr} {t : TE} (h : PE X e t) (he : ∀ whole, isTrue e X.env whole = (do let v ← whole; standAt e.pos; holding [v] (truthy v)) := by intro _; rfl) : PT X e (tB t) := by
  intro pins s σ H Q I hw
  refine isTrue_plain (thn (h pins s σ H _ I hw) fun v s1 ⟨x, H1, I1, r1, q1⟩ => ?_) (he _)
  obtain ⟨d, rfl, q⟩ := q1
  cases r1
  exact wpAny_truthy_bool ⟨H1, I1, q⟩

variable {tA tB' : TT} {rest : List Expr}
noncomputable def tAnd (t u : TT) : TT := fun σ H Q => t σ H fun c H1 => if c = true then u σ H1 Q else Q false H1
noncomputable def tOr (t u : TT) : TT := fun σ H Q => t σ H fun c H1 => if c = true then Q true H1 else u σ H1 Q
noncomputable def tNot (t : TT) : TT := fun σ H Q => t σ H fun c H1 => Q (!c) H1
theorem pw_and1 (ha : PT X a tA) : PW X (.BoolOp .And [a] pos) tA := by
  intro wh pins s σ H Q I h
  refine isTrue_and (thn (ha pins s σ H Q I h) fun c s1 e => ?_)
  cases c with
  | true => exact isTrue_and_nil e
  | false => exact e
theorem pw_or1 (ha : PT X a tA) : PW X (.BoolOp .Or [a] pos) tA := by
  intro wh pins s σ H Q I h
  refine isTrue_or (thn (ha pins s σ H Q I h) fun c s1 e => ?_)
  cases c with
  | false => exact isTrue_or_nil e
  | true => exact e
theorem pw_and (ha : PT X a tA) (hb : PW X (.BoolOp .And (b :: rest) pos) tB') : PW X (.BoolOp .And (a :: b :: rest) pos) (tAnd tA tB') := by
  intro wh pins s σ H Q I h
  refine isTrue_and (thn (ha pins s σ H _ I h) fun c s1 ⟨H1, I1, q1⟩ => ?_)
  cases c with
  | true => exact hb wh pins s1 σ H1 Q I1 q1
  | false => exact ⟨H1, I1, q1⟩
theorem pw_or (ha : PT X a tA) (hb : PW X (.BoolOp .Or (b :: rest) pos) tB') : PW X (.BoolOp .Or (a :: b :: rest) pos) (tOr tA tB') := by
  intro wh pins s σ H Q I h
  refine isTrue_or (thn (ha pins s σ H _ I h) fun c s1 ⟨H1, I1, q1⟩ => ?_)
  cases c with
  | true => exact ⟨H1, I1, q1⟩
  | false => exact hb wh pins s1 σ H1 Q I1 q1
theorem pt_not (ha : PT X a tA) : PT X (.UnaryOp .Not a pos) (tNot tA) := by
  intro pins s σ H Q I h
  exact isTrue_not (ha pins s σ H (fun c H1 => Q (!c) H1) I h)
noncomputable def tAndV (ta tb : TE) : TE := fun σ H Q => ta σ H fun x H1 => ∃ c, x = .bl c ∧ if c = true then tb σ H1 Q else Q (.bl false) H1
noncomputable def tOrV (ta tb : TE) : TE := fun σ H Q => ta σ H fun x H1 => ∃ c, x = .bl c ∧ if c = true then Q (.bl true) H1 else tb σ H1 Q
noncomputable def tNotV (ta : TE) : TE := fun σ H Q => ta σ H fun x H1 => ∃ c, x = .bl c ∧ Q (.bl (!c)) H1
theorem pe_one {op} {t : TE} (h : PE X a t) : PE X (.BoolOp op [a] pos) t := fun pins s σ H Q I hw => BoolOp_one (h pins s σ H Q I hw)
theorem pe_and (ha : PE X a ta) (hb : PE X (.BoolOp .And (b :: rest) pos) tb) : PE X (.BoolOp .And (a :: b :: rest) pos) (tAndV ta tb) := by
  intro pins s σ H Q I h
  refine BoolOp_and (thn (ha pins s σ H _ I h) fun v s1 ⟨x, H1, I1, r1, q1⟩ => ?_)
  obtain ⟨c, rfl, q1⟩ := q1
  cases r1
  refine wpAny_truthy_bool ?_
  cases c with
  | true => exact hb pins s1 σ H1 Q I1 q1
  | false => exact ⟨.bl false, H1, I1, rfl, q1⟩
theorem pe_not (ha : PE X a ta) : PE X (.UnaryOp .Not a pos) (tNotV ta) := by
  intro pins s σ H Q I h
  refine UnaryOp_ (thn (ha pins s σ H _ I h) fun v s1 ⟨x, H1, I1, r1, q1⟩ => ?_)
  obtain ⟨c, rfl, q1⟩ := q1
  cases r1
  exact not_of (wpAny_truthy_bool ⟨.bl (!c), H1, I1, rfl, q1⟩)
noncomputable def tIf (t : TT) (ta tb : TE) : TE := fun σ H Q => t σ H fun c H1 => if c = true then ta σ H1 Q else tb σ H1 Q
end
end L2

namespace L2
open PySem PySem.Spec PyProof.Rows

noncomputable def SqL (K : PySem.W.Frag) (H : Hp) (a : Addr) (xs : List V) : Prop :=
  Rd H a (.lst xs) ∨
    ∃ (o : Obj) (its : Array Value) (n : Nat), K.lookup a = some o ∧ o.cls = .type "list" ∧ o.dict = none ∧ o.data = .seq its n ∧ its.size ≤ sizeLine ∧ Vals xs its.toList
noncomputable def SqT (K : PySem.W.Frag) (H : Hp) (a : Addr) (xs : List V) : Prop :=
  Rd H a (.tup xs) ∨
    ∃ (o : Obj) (its : Array Value) (n : Nat), K.lookup a = some o ∧ o.cls = .type "tuple" ∧ o.data = .seq its n ∧ its.size ≤ sizeLine ∧ Vals xs its.toList
noncomputable def absV : Value → Option V
  | .none => some .non
  | .bool b => some (.bl b)
  | .int i _ => some (.int i)
  | .str x _ => some (.str x)
  | .bytes b _ => some (.byt b)
  | .float b _ => some (.flt b)
  | .ref a => some (.ref a)
  | .type n => some (.ty n)
  | _ => none
theorem RelV.abs {x : V} {u : Value} (r : RelV x u) : absV u = some x := by
  cases x with
  | non => cases r; rfl
  | bl _ => cases r; rfl
  | int _ => obtain ⟨t, rfl⟩ := r; rfl
  | str _ => obtain ⟨t, rfl⟩ := r; rfl
  | byt _ => obtain ⟨t, rfl⟩ := r; rfl
  | flt _ => obtain ⟨t, rfl⟩ := r; rfl
  | ref _ => cases r; rfl
  | ty _ => cases r; rfl
theorem RelV.inj {x y : V} {u : Value} (r : RelV x u) (q : RelV y u) : x = y := Option.some.inj (r.abs.symm.trans q.abs)
theorem Vals.inj : ∀ {xs ys : List V} {us : List Value}, Vals xs us → Vals ys us → xs = ys
  | _, _, _, .nil, .nil => rfl
  | _, _, _, .cons r t, .cons r' t' => by rw [r.inj r', Vals.inj t t']
section
variable {X : Cx} {pins : List (Addr × Obj)} {σ : St} {H : Hp} {s : Shared} {a : Addr} {xs ys : List V}
theorem SqL.of {K : PySem.W.Frag} (h : H a = some (.lst xs)) : SqL K H a xs := .inl (.inl h)
theorem SqT.of {K : PySem.W.Frag} (h : H a = some (.tup xs)) : SqT K H a xs := .inl (.inl h)
theorem Inv.list (I : Inv X pins σ H s) (h : SqL X.K H a xs) : ∃ its : List Value, Vals xs its ∧ PlainL s.heap a its.toArray ∧ xs.length ≤ sizeLine := by
  rcases h with h | ⟨o, its, n, hk, hc, hd, hs, hz, r⟩
  · obtain ⟨z, its, n, r, e⟩ := h.ok I.hok
    exact ⟨its, r, ⟨_, n, e, rfl, rfl, rfl⟩, z⟩
  · refine ⟨its.toList, r, ⟨o, n, I.kIn a o hk, hc, hd, by simpa using hs⟩, ?_⟩
    have e := r.length
    simp only [Array.length_toList] at e
    omega
theorem Inv.tuple (I : Inv X pins σ H s) (h : SqT X.K H a xs) : ∃ its : List Value, Vals xs its ∧ IsTup s.heap a its.toArray ∧ xs.length ≤ sizeLine := by
  rcases h with h | ⟨o, its, n, hk, hc, hs, hz, r⟩
  · obtain ⟨z, its, r, p⟩ := h.ok I.hok
    exact ⟨its, r, p, z⟩
  · refine ⟨its.toList, r, ⟨o, I.kIn a o hk, hc, n, by simpa using hs⟩, ?_⟩
    have e := r.length
    simp only [Array.length_toList] at e
    omega
theorem Inv.list_inj (I : Inv X pins σ H s) (h : SqL X.K H a xs) (h' : SqL X.K H a ys) : xs = ys := by
  obtain ⟨its, r, ⟨o, n, e, _, _, d⟩, _⟩ := I.list h
  obtain ⟨its', r', ⟨o', n', e', _, _, d'⟩, _⟩ := I.list h'
  rw [e] at e'; cases e'
  rw [d] at d'
  injection d' with d1 _
  have : its = its' := by simpa using congrArg Array.toList d1
  subst this
  exact r.inj r'
end

noncomputable abbrev Cx.wish (X : Cx) (E : Value → Shared → Prop) : Cx := { X with xe := E }
noncomputable abbrev Cx.nox (X : Cx) : Cx := X.wish fun _ _ => False
theorem Cx.Ok.wish {X : Cx} (ok : X.Ok) (E : Value → Shared → Prop) : (X.wish E).Ok :=
  ⟨ok.mod, ok.kind, ok.glob, ok.blt, ok.above, ok.inj, ok.has, ok.cab, ok.hd, ok.frames, ok.stk, ok.exf, ok.bs, ok.bsz, ok.noex, ok.exfs, ok.funs, ok.frf⟩
theorem Cx.Ok.unwish {X : Cx} {E : Value → Shared → Prop} (ok : (X.wish E).Ok) : X.Ok :=
  ⟨ok.mod, ok.kind, ok.glob, ok.blt, ok.above, ok.inj, ok.has, ok.cab, ok.hd, ok.frames, ok.stk, ok.exf, ok.bs, ok.bsz, ok.noex, ok.exfs, ok.funs, ok.frf⟩
section
variable {X : Cx} {pins : List (Addr × Obj)} {σ : St} {H : Hp} {s : Shared} {E : Value → Shared → Prop}
theorem Inv.wish (I : Inv X pins σ H s) (E : Value → Shared → Prop) : Inv (X.wish E) pins σ H s := ⟨I.ok.wish E, I.os, I.bare, I.base, I.loc, I.cell, I.free, I.freeC, I.pin, I.hok, I.len⟩
theorem Inv.unwish (I : Inv (X.wish E) pins σ H s) : Inv X pins σ H s := ⟨I.ok.unwish, I.os, I.bare, I.base, I.loc, I.cell, I.free, I.freeC, I.pin, I.hok, I.len⟩
theorem SP.unwish {D : Ends} {f : Flow} {s' : Shared} (h : SP (X.wish E) pins D f s') : SP X pins D f s' := by
  cases f with
  | next => obtain ⟨σ', H', I, q⟩ := h; exact ⟨σ', H', I.unwish, q⟩
  | brk => obtain ⟨σ', H', I, q⟩ := h; exact ⟨σ', H', I.unwish, q⟩
  | cont => obtain ⟨σ', H', I, q⟩ := h; exact ⟨σ', H', I.unwish, q⟩
  | ret u => obtain ⟨v, σ', H', I, r, q⟩ := h; exact ⟨v, σ', H', I.unwish, r, q⟩
theorem PE.nox {e : Expr} {t : TE} (h : PE X.nox e t) : PE X e t := fun pins s σ H Q I hw =>
  wpAny_mono (h pins s σ H Q (I.wish _) hw) (fun _ _ ⟨v, H', I', r, q⟩ => ⟨v, H', I'.unwish, r, q⟩) fun _ _ z => False.elim z
theorem PT.nox {e : Expr} {t : TT} (h : PT X.nox e t) : PT X e t := fun pins s σ H Q I hw =>
  wpAny_mono (h pins s σ H Q (I.wish _) hw) (fun _ _ ⟨H', I', q⟩ => ⟨H', I'.unwish, q⟩) fun _ _ z => False.elim z
theorem PSs.nox {st : List Stmt} {t : TS} (h : PSs X.nox st t) : PSs X st t := fun pins s σ H D I hw =>
  wpAny_mono (h pins s σ H D (I.wish _) hw) (fun _ _ q => q.unwish) fun _ _ z => False.elim z
end

section
variable {X : Cx} {st : Stmt} {rest : List Stmt} {t u : TS} {e : Expr} {te : TE} {pos : Pos}
noncomputable def tNext : TS := fun D σ H => D.nx σ H
noncomputable def tSeq (t u : TS) : TS := fun D σ H => t { D with nx := u D } σ H
theorem pss_nil : PSs X [] tNext := fun _ _ σ H _ I h => wpAny_execs_nil ⟨σ, H, I, h⟩
theorem pss_cons (h1 : PS X st t) (h2 : PSs X rest u) : PSs X (st :: rest) (tSeq t u) := by
  intro pins s σ H D I h
  refine wpAny_execs_cons (thn (h1 pins s σ H { D with nx := u D } I h) fun f s1 q => ?_)
  cases f with
  | next =>
    obtain ⟨σ', H', I', q⟩ := q
    exact h2 pins s1 σ' H' D I' q
  | ret v => exact q
  | brk => exact q
  | cont => exact q
theorem pss_one (h1 : PS X st t) : PSs X [st] t := by
  intro pins s σ H D I h
  refine wpAny_execs_cons (thn (h1 pins s σ H D I h) fun f s1 q => ?_)
  cases f with
  | next => exact wpAny_execs_nil q
  | ret v => exact q
  | brk => exact q
  | cont => exact q
theorem Inv.quiet {pins : List (Addr × Obj)} {σ : St} {H : Hp} {s : Shared} (I : Inv X pins σ H s) : interactive X.env = false := by simp [interactive, I.ok.kind]
noncomputable def tDrop (te : TE) : TS := fun D σ H => te σ H fun _ H1 => D.nx σ H1
noncomputable def tRet (te : TE) : TS := fun D σ H => te σ H D.rt
theorem ps_ret (he : PE X e te) : PS X (.Return (some e) pos) (tRet te) := by
  intro pins s σ H D I h
  exact wpAny_Return_some (thn (he pins s σ H _ I h) fun v s1 ⟨x, H1, I1, r1, q1⟩ => ⟨x, σ, H1, I1, r1, q1⟩)
noncomputable def tIfS (c : TT) (t u : TS) : TS := fun D σ H => c σ H fun b H1 => if b = true then t D σ H1 else u D σ H1
theorem ps_if {c : Expr} {a b : List Stmt} {tc : TT} (hc : PT X c tc) (ha : PSs X a t) (hb : PSs X b u) : PS X (.If c a b pos) (tIfS tc t u) := by
  intro pins s σ H D I h
  refine wpAny_If (thn (hc pins s σ H _ I h) fun d s1 ⟨H1, I1, q1⟩ => ?_)
  cases d with
  | true => exact ha pins s1 σ H1 D I1 q1
  | false => exact hb pins s1 σ H1 D I1 q1
noncomputable def tNever : TS := fun _ _ _ => False
theorem ps_never : PS X st tNever := fun _ _ _ _ _ _ h => h.elim
end

abbrev TG := V → St → Hp → (St → Hp → Prop) → Prop
abbrev TGs := List V → St → Hp → (St → Hp → Prop) → Prop
noncomputable def PG (X : Cx) (target : Expr) (t : TG) : Prop :=
  ∀ (pins : List (Addr × Obj)) (s : Shared) (σ : St) (H : Hp) (v : V) (u : Value) (Q : St → Hp → Prop), Inv X pins σ H s → RelV v u → t v σ H Q →
    wpAny (model X.prog X.w) X.A (assign target X.env u) (fun _ s' => ∃ σ' H', Inv X pins σ' H' s' ∧ Q σ' H') X.xe s
section
variable {X : Cx} {pos : Pos}
noncomputable def gName (i : Nat) : TG := fun v σ H Q => Q (σ.set i (some v)) H
theorem pg_name {i : Nat} {x : Str} (hN : X.N.Nodup) (hi : X.N[i]? = some x) (hx : Loc X.env.scope x) (hf : X.fn x = true ∨ X.env.scope.names.lookup x = some .local := by first | exact .inl rfl | exact .inr rfl | assumption) : PG X (.Name x pos) (gName i) := by
  intro pins s σ H v u Q I r h
  exact wpAny_assign_Name (store_ok I hN hi hx r (fun s' I' => ⟨_, H, I', h⟩) hf)
noncomputable def gNil : TGs := fun vs σ H Q => vs = [] ∧ Q σ H
noncomputable def gCons (t : TG) (u : TGs) : TGs := fun vs σ H Q => ∃ v r, vs = v :: r ∧ t v σ H fun σ' H' => u r σ' H' Q
noncomputable def gTup (K : PySem.W.Frag) (n : Nat) (t : TGs) : TG := fun v σ H Q => ∃ a xs, v = .ref a ∧ SqT K H a xs ∧ xs.length = n ∧ t xs σ H Q
noncomputable def tAsg (te : TE) (g : TG) : TS := fun D σ H => te σ H fun x H1 => g x σ H1 D.nx
theorem ps_set {i : Nat} {x : Str} {e : Expr} {te : TE} {pos' : Pos} (hN : X.N.Nodup) (hi : X.N[i]? = some x) (hx : Loc X.env.scope x) (he : PE X e te) (hs : swapsWith e (some (.Name x pos')) pos.line X.env = pure false := by rfl) (hf : X.fn x = true ∨ X.env.scope.names.lookup x = some .local := by first | exact .inl rfl | exact .inr rfl | assumption) :
    PS X (.Assign [.Name x pos'] e pos) (tAsg te (gName i)) := by
  intro pins s σ H D I h
  refine wpAny_Assign_Name (thn (he pins s σ H _ I h) fun v s1 ⟨y, H1, I1, r1, q1⟩ => ?_) hs
  exact store_ok I1 hN hi hx r1 (fun s2 I2 => ⟨_, H1, I2, q1⟩) hf
noncomputable def tPar (i j : Nat) (ta : TA) : TS := fun D σ H => ta σ H fun vs H1 => ∃ v w, vs = [v, w] ∧ D.nx ((σ.set i (some v)).set j (some w)) H1
theorem ps_par {i j : Nat} {x y : Str} {a b : Expr} {ta : TA} {px py pt : Pos} {kt k2 pt2} (hc : X.calm = true) (hN : X.N.Nodup) (hi : X.N[i]? = some x) (hj : X.N[j]? = some y) (hij : i ≠ j)
    (hx : X.env.scope.names.lookup x = some .local) (hy : X.env.scope.names.lookup y = some .local) (ha : PA X [a, b] ta)
    (hw : swappedStores [.Tuple [.Name x px, .Name y py] kt pt] (.Tuple [a, b] k2 pt2) X.env = pure (some [x, y]))
    (hs : swapsWithSole [.Tuple [.Name x px, .Name y py] kt pt] (.Tuple [a, b] k2 pt2) pos.line X.env = pure false := by rfl) :
    PS X (.Assign [.Tuple [.Name x px, .Name y py] kt pt] (.Tuple [a, b] k2 pt2) pos) (tPar i j ta) := by
  intro pins s σ H D I h
  rw [exec_Assign_arm]
  refine wpAny_bind (wpAny_standAt ?_)
  rw [hs]
  refine wpAny_bind (wpAny_pure ?_)
  rw [if_neg (by decide)]
  refine wpAny_bind (Tuple_ (thn (ha _ pins s σ H _ I h) fun us s1 ⟨vs, H1, I1, r1, q1⟩ => ?_))
  obtain ⟨v, w, e1, q1⟩ := q1
  subst e1
  obtain ⟨u1, u2, rfl, rv, rw'⟩ : ∃ u1 u2, us = [u1, u2] ∧ RelV v u1 ∧ RelV w u2 := by
    cases r1 with
    | cons p q =>
      cases q with
      | cons p' q' =>
        cases q'
        exact ⟨_, _, rfl, p, p'⟩
  refine wpAny_newObj_type ?_ (by show 2 ≤ sizeLine; decide)
  have I2 : Inv X pins σ H1 { s1 with heap := s1.heap.push { cls := .type "tuple", data := .seq [u1, u2].toArray } } := I1.kept (t' := s1.toks) fun b o e => Heap.get?_push_of_some _ e
  rw [hw]
  refine wpAny_bind (wpAny_pure ?_)
  show wpAny (model X.prog X.w) X.A (do rule "assign.swapped-stores"; let items ← unpackItems (.ref s1.heap.objs.size) 2 none; assignInOrder [fun v => bindName X.env y v, fun v => bindName X.env x v] items.reverse; pure Flow.next) _ _ _
  refine wpAny_bind (wpAny_rule (wpAny_bind (unpackItems_tuple (items := #[u1, u2]) (I.ok.hd hc) (IsTup.new s1.heap _) fun h' hx' => ?_)))
  have I3 := I2.kept (h' := h') (t' := s1.toks) fun b o e => hx' b o (Nat.ne_of_lt (Heap.lt_size e)) e
  show wpAny _ _ (assignInOrder [fun v => bindName X.env y v, fun v => bindName X.env x v] [u2, u1] >>= fun _ => pure Flow.next) _ _ _
  refine wpAny_bind (assignInOrder_cons (wpAny_bindName (store_ok I3 hN hj (.inl hy) rw' (fun s2 I4 => ?_) (.inr hy))))
  refine assignInOrder_cons (wpAny_bindName (store_ok I4 hN hi (.inl hx) rv (fun s3 I5 => assignInOrder_nil (wpAny_pure ?_)) (.inr hx)))
  rw [List.set_comm _ _ (Ne.symm hij)] at I5
  exact ⟨_, H1, I5, q1⟩
end

section
variable {X : Cx} {pos : Pos}
noncomputable def tWhile (c : TT) (tb : TS) : TS := fun D σ H => ∃ W : Nat → St → Hp → Prop, (∃ m, W m σ H) ∧ ∀ m σ H, W m σ H →
  c σ H fun b H1 => if b = true then ∃ N : St → Hp → Prop, (∀ σ' H', N σ' H' → ∃ m', m' < m ∧ W m' σ' H') ∧ tb { D with nx := N, ct := N, bk := D.nx } σ H1 else D.nx σ H1
theorem ps_while {c : Expr} {body : List Stmt} {tc : TT} {tb : TS} (hp : PassesOwn (model X.prog X.w) X.A X.env X.xe) (hc : PT X c tc) (hb : PSs X body tb) : PS X (.While c body [] pos) (tWhile tc tb) := by
  intro pins s σ H D I h
  obtain ⟨W, ⟨m0, w0⟩, turn⟩ := h
  refine wpAny_While (codeAny_whileLoop (fun n s' => ∃ σ' H', Inv X pins σ' H' s' ∧ W n σ' H') ?_ m0 ⟨σ, H, I, w0⟩)
  rintro n s1 ⟨σ1, H1, I1, w1⟩
  refine wpAny_passesOwn hp (thn (hc pins s1 σ1 H1 _ I1 (turn n σ1 H1 w1)) fun b s2 ⟨H2, I2, q2⟩ => ?_)
  cases b with
  | true =>
    obtain ⟨N, hN, q2⟩ := q2
    rw [if_pos rfl]
    refine wpAny_passesOwn hp (thn (hb pins s2 σ1 H2 _ I2 q2) fun f s3 q3 => ?_)
    cases f with
    | next =>
      obtain ⟨σ3, H3, I3, n3⟩ := q3
      obtain ⟨m', hm, w3⟩ := hN σ3 H3 n3
      exact ⟨m', hm, σ3, H3, I3, w3⟩
    | cont =>
      obtain ⟨σ3, H3, I3, n3⟩ := q3
      obtain ⟨m', hm, w3⟩ := hN σ3 H3 n3
      exact ⟨m', hm, σ3, H3, I3, w3⟩
    | brk => exact q3
    | ret v => exact q3
  | false =>
    rw [if_neg Bool.false_ne_true]
    exact wpAny_execs_nil ⟨σ1, H2, I2, q2⟩
end

structure It where
  go : Nat → Hp → Prop
  yld : Nat → Hp → V → Hp → Prop
  stop : Nat → Hp → Prop
noncomputable def FpOk (X : Cx) (pins : List (Addr × Obj)) (H : Hp) (b : Addr) : Prop :=
  H b = none ∧ b ≠ X.env.locals ∧ b ∉ X.fs ∧ (b ∈ X.ex ∨ X.s₀.heap.objs.size ≤ b) ∧ (∀ x c, X.env.cells.lookup x = some c → c ≠ b) ∧ ∀ p ∈ X.pn ++ pins, p.1 ≠ b
theorem Inv.fpOk {X : Cx} {pins : List (Addr × Obj)} {σ : St} {H H' : Hp} {s : Shared} {b : Addr} (I : Inv X pins σ H s) (hb : s.heap.objs.size ≤ b) (hn : H' b = none) : FpOk X pins H' b := by
  refine ⟨hn, Nat.ne_of_gt (Nat.lt_of_lt_of_le I.lt hb), I.nofs hb, .inr (Nat.le_trans I.sz hb), fun x c e z => ?_, fun p hp z => ?_⟩
  · obtain ⟨v, q⟩ := I.cell x c e
    exact absurd (Nat.lt_of_lt_of_le q.lt (by rw [z]; exact hb)) (Nat.lt_irrefl _)
  · exact absurd (Nat.lt_of_lt_of_le (Heap.lt_size (I.pin p hp).1) (by rw [z]; exact hb)) (Nat.lt_irrefl _)
structure Turn (P : Program) (w : World) (K : PySem.W.Frag) (tg : Expr) (J : It) (fp : List Addr) (it : Addr) (tn : Nat → Heap → Prop) : Prop where
  mem : it ∈ fp
  obj : ∀ i h, tn i h → ∀ b ∈ fp, ∃ o, h.get? b = some o ∧ ∀ v, o.data ≠ .cell v
  keep : ∀ i h h', tn i h → (∀ b ∈ fp, ∀ o, h.get? b = some o → h'.get? b = some o) → tn i h'
  item : ∀ (X : Cx), X.prog = P → X.w = w → X.K = K → X.calm = true → ∀ (i : Nat) (pins : List (Addr × Obj)) (s : Shared) (σ : St) (H : Hp) (E : Value → Shared → Prop), Inv X pins σ H s → (∀ b ∈ fp, FpOk X pins H b) → tn i s.heap → J.go i H →
    wpAny (model P w) X.A (pyNext (.ref it)) (fun r s1 => ∃ u, r = some u ∧
      wpAny (model P w) X.A (letOwnedTupleGo tg (.ref it) u) (fun _ s2 => ∃ x H', Inv X pins σ H' s2 ∧ RelV x u ∧ J.yld i H x H' ∧ tn (i + 1) s2.heap ∧ ∀ b ∈ fp, H' b = none) E s1) E s
  done : ∀ (X : Cx), X.prog = P → X.w = w → X.K = K → X.calm = true → ∀ (i : Nat) (pins : List (Addr × Obj)) (s : Shared) (σ : St) (H : Hp) (E : Value → Shared → Prop), Inv X pins σ H s → (∀ b ∈ fp, FpOk X pins H b) → tn i s.heap → J.stop i H →
    wpAny (model P w) X.A (pyNext (.ref it)) (fun r s1 => r = none ∧ Inv X pins σ H s1) E s
  self : ∀ (A : Around) (i : Nat) (s : Shared) (Q : Value → Shared → Prop) (E : Value → Shared → Prop), tn i s.heap → Q (.ref it) s → wpAny (model P w) A (pyIter (.ref it)) Q E s
abbrev TI := St → Hp → (It → Hp → Prop) → Prop
noncomputable def PIE (X : Cx) (pins : List (Addr × Obj)) (σ : St) (tg : Expr) (R : It → Hp → Prop) (itv : Value) (s2 : Shared) : Prop :=
  ∃ (it : Addr) (fp : List Addr) (tn : Nat → Heap → Prop) (J : It) (H' : Hp), itv = .ref it ∧ Inv X pins σ H' s2 ∧ Turn X.prog X.w X.K tg J fp it tn ∧ tn 0 s2.heap ∧ (∀ b ∈ fp, FpOk X pins H' b) ∧ R J H'
noncomputable def PI (X : Cx) (tg iter : Expr) (wi : TI) : Prop :=
  ∀ (pins : List (Addr × Obj)) (s : Shared) (σ : St) (H : Hp) (R : It → Hp → Prop), Inv X pins σ H s → wi σ H R →
    wpAny (model X.prog X.w) X.A (eval iter X.env) (fun v s1 => wpAny (model X.prog X.w) X.A (pyIter v) (PIE X pins σ tg R) X.xe s1) X.xe s

theorem go_of {M : Model} {A : Around} {E : Value → Shared → Prop} {s : Shared} {tg : Expr} {it : Addr} {u : Value} {o : Obj} {n : String} {vs : Array Value} {Q : Unit → Shared → Prop} (ho : s.heap.get? it = some o) (hc : o.cls = .type n) (hd : o.data = .fields vs)
    (hn : ["enumerate", "zip", "dict_itemiterator", "dict_reverseitemiterator", "odict_iterator", "itertools.zip_longest", "itertools.pairwise"].contains n = false) (hQ : Q () s) : wpAny M A (letOwnedTupleGo tg (.ref it) u) Q E s := by
  unfold letOwnedTupleGo
  cases tg <;> first
    | exact wpAny_pure hQ
    | (cases u <;> first
        | exact wpAny_pure hQ
        | (refine wpAny_bind (wpAny_load ho ?_)
           rw [hc, hd]
           show wpAny M A (if (["enumerate", "zip", "dict_itemiterator", "dict_reverseitemiterator", "odict_iterator", "itertools.zip_longest", "itertools.pairwise"].contains n && vs[0]? == some (rawInt _)) = true then _ else _) Q E s
           rw [if_neg (by intro h; rw [hn, Bool.false_and] at h; cases h)]
           exact wpAny_pure hQ))

noncomputable def Itl (K : PySem.W.Frag) (a : Addr) : It :=
  ⟨fun i H => ∃ xs x, SqL K H a xs ∧ xs[i]? = some x, fun i H x H' => H' = H ∧ ∀ xs, SqL K H a xs → xs[i]? = some x, fun i H => ∃ xs, SqL K H a xs ∧ xs.length ≤ i⟩
noncomputable def Itt (K : PySem.W.Frag) (a : Addr) : It :=
  ⟨fun i H => ∃ xs x, SqT K H a xs ∧ xs[i]? = some x, fun i H x H' => H' = H ∧ ∀ xs, SqT K H a xs → xs[i]? = some x, fun i H => ∃ xs, SqT K H a xs ∧ xs.length ≤ i⟩
noncomputable def Itr (lo : Int) (n : Nat) : It := ⟨fun i _ => i < n, fun i H x H' => H' = H ∧ x = .int (lo + i), fun i _ => n ≤ i⟩
theorem turn_list {P : Program} {w : World} {K : PySem.W.Frag} {tg : Expr} (a it : Addr) : Turn P w K tg (Itl K a) [it] it (fun i h => h.IsListIter it a i) where
  mem := by simp
  obj := fun i h st b hb => by
    have e : b = it := by simpa using hb
    subst e
    obtain ⟨o, e, c, d⟩ := st
    exact ⟨o, e, fun v z => by rw [d] at z; cases z⟩
  keep := fun i h h' st k => st.at fun o e => k it (by simp) o e
  item := by
    intro X hP hw hK hc i pins s σ H E I hf st hg
    subst hP hw hK
    obtain ⟨xs, x, hq, hx⟩ := hg
    obtain ⟨its, rv, p, hz⟩ := I.list hq
    obtain ⟨u, hu, ru⟩ := rv.get hx
    obtain ⟨f0, f1, f2, f3, f4, f5⟩ := hf it (by simp)
    refine wpAny_pyNext_list_item st p.isList (x := u) (by simpa using hu) fun h' st' sb => ?_
    have I1 : Inv X pins σ H { s with heap := h' } := I.turned (t' := s.toks) (fun b o hb e => (sb.2 b hb).trans e) f0 f1 f3 f4 f5
    obtain ⟨o, e, c, d⟩ := id st'
    exact ⟨u, rfl, go_of (s := { s with heap := h' }) e c d (by decide) ⟨x, H, I1, ru, ⟨rfl, fun ys hy => by rw [I.list_inj hy hq]; exact hx⟩, st', fun b hb => (hf b hb).1⟩⟩
  done := by
    intro X hP hw hK hc i pins s σ H E I hf st hg
    subst hP hw hK
    obtain ⟨xs, hq, hx⟩ := hg
    obtain ⟨its, rv, p, hz⟩ := I.list hq
    obtain ⟨f0, f1, f2, f3, f4, f5⟩ := hf it (by simp)
    have hl := rv.length
    exact wpAny_pyNext_list_end (I.ok.hd hc) st p.isList (by simp; omega) fun h' eb => ⟨rfl, I.turned (t' := s.toks) (fun b o hb e => eb b o hb e) f0 f1 f3 f4 f5⟩
  self := fun _ _ _ _ _ st h => wpAny_pyIter_listiter st h
end L2

namespace L2
open PySem PySem.Spec PyProof.Rows
section
variable {X : Cx} {tg : Expr}
noncomputable def iList (K : PySem.W.Frag) (tl : TE) : TI := fun σ H R => tl σ H fun x H1 => ∃ a, x = .ref a ∧ (∃ xs, SqL K H1 a xs) ∧ R (Itl K a) H1
noncomputable def iTup (K : PySem.W.Frag) (tl : TE) : TI := fun σ H R => tl σ H fun x H1 => ∃ a, x = .ref a ∧ (∃ xs, SqT K H1 a xs) ∧ R (Itt K a) H1
theorem pi_list {l : Expr} {tl : TE} (hl : PE X l tl) : PI X tg l (iList X.K tl) := by
  intro pins s σ H R I h
  refine thn (hl pins s σ H _ I h) fun v s1 ⟨x, H1, I1, r1, q1⟩ => ?_
  obtain ⟨a, e, ⟨xs, hq⟩, q⟩ := q1
  subst e
  cases r1
  obtain ⟨its, rv, p, hz⟩ := I1.list hq
  refine wpAny_pyIter_list p.isList ?_
  refine ⟨s1.heap.objs.size, [s1.heap.objs.size], _, _, H1, rfl, I1.kept (t' := s1.toks) fun b o e => Heap.get?_push_of_some _ e, turn_list a _, ⟨_, Heap.get?_push_size _ rfl, rfl, rfl⟩, fun b hb => ?_, q⟩
  have e : b = s1.heap.objs.size := by simpa using hb
  subst e
  exact I1.fpOk (Nat.le_refl _) (I1.hok.fresh (Nat.le_refl _))
noncomputable def iRng1 (ta : TA) : TI := fun σ H R => ta σ H fun vs H1 => ∃ j : Int, vs = [.int j] ∧ -(2 ^ 62) ≤ j ∧ j < 2 ^ 62 ∧ R (Itr 0 j.toNat) H1
noncomputable def iRng2 (ta : TA) : TI := fun σ H R => ta σ H fun vs H1 => ∃ i j : Int, vs = [.int i, .int j] ∧ (-(2 ^ 62) ≤ i ∧ i < 2 ^ 62 ∧ -(2 ^ 62) ≤ j ∧ j < 2 ^ 62) ∧ R (Itr i (j - i).toNat) H1
noncomputable def tFor (wi : TI) (g : TG) (tb : TS) : TS := fun D σ H => wi σ H fun J H1 => ∃ W : Nat → Nat → St → Hp → Prop, (∃ m, W 0 m σ H1) ∧ ∀ i m σ H, W i m σ H →
  (J.stop i H ∧ D.nx σ H) ∨ (J.go i H ∧ ∃ N : St → Hp → Prop, (∀ σ' H', N σ' H' → ∃ m', m' < m ∧ W (i + 1) m' σ' H') ∧ ∀ x H', J.yld i H x H' → g x σ H' fun σ2 H2 => tb { D with nx := N, ct := N, bk := D.nx } σ2 H2)
noncomputable def pinsAt (fp : List Addr) (h : Heap) : List (Addr × Obj) := fp.filterMap fun b => (h.get? b).map fun o => (b, o)
theorem mem_pinsAt {fp : List Addr} {h : Heap} {b : Addr} {o : Obj} (hb : b ∈ fp) (e : h.get? b = some o) : (b, o) ∈ pinsAt fp h := List.mem_filterMap.mpr ⟨b, hb, by rw [e]; rfl⟩
theorem of_pinsAt {fp : List Addr} {h : Heap} {p : Addr × Obj} (hp : p ∈ pinsAt fp h) : p.1 ∈ fp ∧ h.get? p.1 = some p.2 := by
  obtain ⟨b, hb, e⟩ := List.mem_filterMap.mp hp
  cases q : h.get? b with
  | none => rw [q] at e; cases e
  | some o =>
    rw [q] at e
    have e' : (b, o) = p := Option.some.inj e
    subst e'
    exact ⟨hb, q⟩
theorem Inv.pinned {pins : List (Addr × Obj)} {σ : St} {H : Hp} {s : Shared} {fp : List Addr} (I : Inv X pins σ H s) (hf : ∀ b ∈ fp, FpOk X pins H b) (ho : ∀ b ∈ fp, ∃ o, s.heap.get? b = some o ∧ ∀ v, o.data ≠ .cell v) : Inv X (pins ++ pinsAt fp s.heap) σ H s :=
  I.pins_of fun p hp => (List.mem_append.mp hp).elim (fun z => I.pin p (List.mem_append_right _ z)) fun z => by
    obtain ⟨hb, e⟩ := of_pinsAt z
    obtain ⟨f0, f1, f2, _⟩ := hf p.1 hb
    obtain ⟨o, e', d⟩ := ho p.1 hb
    rw [e] at e'; cases e'
    exact ⟨e, f0, f1, f2, d⟩
theorem Inv.unpinned {pins pl : List (Addr × Obj)} {σ : St} {H : Hp} {s : Shared} (I : Inv X (pins ++ pl) σ H s) : Inv X pins σ H s := I.pins_of fun p hp => I.pin p (List.mem_append_right _ (List.mem_append_left _ hp))
theorem ps_for {iter : Expr} {body : List Stmt} {wi : TI} {g : TG} {tb : TS} {pos : Pos} (hp : PassesOwn (model X.prog X.w) X.A X.env X.xe) (hc : X.calm = true) (hi : PI X tg iter wi) (hg : PG X tg g) (hb : PSs X body tb)
    (hs : ∀ x, foldedSetIterable iter X.env x = pure x := by intro _; rfl) : PS X (.For tg iter body [] pos) (tFor wi g tb) := by
  intro pins s σ H D I h
  refine wpAny_For (thn (hi pins s σ H _ I h) fun v s1 h1 => thn h1 fun itv s2 h2 => ?_) hs
  obtain ⟨it, fp, tn, J, H2, e, I2, T, st2, f2, W, ⟨m0, w0⟩, turn⟩ := h2
  subst e
  -- what stays true of the iterator's objects through the loop
  have stat : ∀ {H' : Hp}, (∀ b ∈ fp, H' b = none) → ∀ b ∈ fp, FpOk X pins H' b := fun hn b hb => ⟨hn b hb, (f2 b hb).2⟩
  refine codeAny_forLoop_any (fun n s' => ∃ i σ' H', Inv X pins σ' H' s' ∧ tn i s'.heap ∧ (∀ b ∈ fp, H' b = none) ∧ W i n σ' H') ?_ m0 ⟨0, σ, H2, I2, st2, fun b hb => (f2 b hb).1, w0⟩
  rintro n s3 ⟨i, σ3, H3, I3, st3, fr3, w3⟩
  rcases turn i n σ3 H3 w3 with ⟨stop, qn⟩ | ⟨go, N, hN, step⟩
  · refine wpAny_passesOwn hp (thn (T.done X rfl rfl rfl hc i pins s3 σ3 H3 X.xe I3 (stat fr3) st3 stop) fun r s4 ⟨hr, I4⟩ => ?_)
    subst hr
    exact wpAny_execs_nil ⟨σ3, H3, I4, qn⟩
  · refine wpAny_passesOwn hp (thn (T.item X rfl rfl rfl hc i pins s3 σ3 H3 X.xe I3 (stat fr3) st3 go) fun r s4 ⟨u, hr, h4⟩ => ?_)
    subst hr
    refine wpAny_passesOwn hp (thn h4 fun _ s5 ⟨x, H5, I5, r5, y5, st5, fr5⟩ => ?_)
    have I5' := I5.pinned (stat fr5) (T.obj _ _ st5)
    refine wpAny_passesOwn hp (thn (hg _ s5 σ3 H5 x u _ I5' r5 (step x H5 y5)) fun _ s6 ⟨σ6, H6, I6, q6⟩ => ?_)
    refine wpAny_passesOwn hp (thn (hb _ s6 σ6 H6 _ I6 q6) fun f s7 q7 => ?_)
    have again : ∀ {σ7 : St} {H7 : Hp}, Inv X (pins ++ pinsAt fp s5.heap) σ7 H7 s7 → N σ7 H7 → ∃ m, m < n ∧ ∃ i σ' H', Inv X pins σ' H' s7 ∧ tn i s7.heap ∧ (∀ b ∈ fp, H' b = none) ∧ W i m σ' H' := fun {σ7 H7} I7 n7 => by
      obtain ⟨m', hm, w7⟩ := hN σ7 H7 n7
      refine ⟨m', hm, i + 1, σ7, H7, I7.unpinned, T.keep _ _ _ st5 fun b hb o e => (I7.pin (b, o) (List.mem_append_right _ (List.mem_append_right _ (mem_pinsAt hb e)))).1, fun b hb => ?_, w7⟩
      obtain ⟨o, e, d⟩ := T.obj _ _ st5 b hb
      exact (I7.pin (b, o) (List.mem_append_right _ (List.mem_append_right _ (mem_pinsAt hb e)))).2.1
    cases f with
    | next => obtain ⟨σ7, H7, I7, n7⟩ := q7; exact again I7 n7
    | cont => obtain ⟨σ7, H7, I7, n7⟩ := q7; exact again I7 n7
    | brk => obtain ⟨σ7, H7, I7, q7⟩ := q7; exact ⟨σ7, H7, I7.unpinned, q7⟩
    | ret v => obtain ⟨x7, σ7, H7, I7, r7, q7⟩ := q7; exact ⟨x7, σ7, H7, I7.unpinned, r7, q7⟩
end

theorem for_list {K : PySem.W.Frag} {a : Addr} {xs : List V} {g : TG} {tb : TS} {D : Ends} {σ : St} {H : Hp} (Pv : Nat → St → Hp → Prop) (h0 : Pv 0 σ H) (hl : ∀ i σ H, i ≤ xs.length → Pv i σ H → SqL K H a xs)
    (hs : ∀ i x σ H, xs[i]? = some x → Pv i σ H → g x σ H fun σ2 H2 => tb { D with nx := Pv (i + 1), ct := Pv (i + 1), bk := D.nx } σ2 H2) (hd : ∀ σ H, Pv xs.length σ H → D.nx σ H) :
    ∃ W : Nat → Nat → St → Hp → Prop, (∃ m, W 0 m σ H) ∧ ∀ i m σ H, W i m σ H →
      ((Itl K a).stop i H ∧ D.nx σ H) ∨ ((Itl K a).go i H ∧ ∃ N : St → Hp → Prop, (∀ σ' H', N σ' H' → ∃ m', m' < m ∧ W (i + 1) m' σ' H') ∧ ∀ x H', (Itl K a).yld i H x H' → g x σ H' fun σ2 H2 => tb { D with nx := N, ct := N, bk := D.nx } σ2 H2) := by
  refine ⟨fun i m σ H => m = xs.length - i ∧ i ≤ xs.length ∧ Pv i σ H, ⟨xs.length, by simp, Nat.zero_le _, h0⟩, ?_⟩
  rintro i m σ H ⟨rfl, hi, p⟩
  have q := hl i σ H hi p
  by_cases hlt : i < xs.length
  · refine .inr ⟨⟨xs, xs[i], q, by simp [hlt]⟩, Pv (i + 1), fun σ' H' p' => ⟨xs.length - (i + 1), by omega, rfl, hlt, p'⟩, fun x H' y => ?_⟩
    obtain ⟨e, y⟩ := y
    subst e
    exact hs i x σ _ (y xs q) p
  · have e : i = xs.length := by omega
    subst e
    exact .inl ⟨⟨xs, q, Nat.le_refl _⟩, hd σ H p⟩
theorem while_by {c : TT} {tb : TS} {D : Ends} {σ : St} {H : Hp} (Pv : St → Hp → Prop) (μ : St → Hp → Nat) (h0 : Pv σ H)
    (hs : ∀ σ H, Pv σ H → c σ H fun b H1 => if b = true then tb { D with nx := fun σ' H' => Pv σ' H' ∧ μ σ' H' < μ σ H, ct := fun σ' H' => Pv σ' H' ∧ μ σ' H' < μ σ H, bk := D.nx } σ H1 else D.nx σ H1)
    (mono : ∀ σ H Q Q', (∀ b H1, Q b H1 → Q' b H1) → c σ H Q → c σ H Q') : tWhile c tb D σ H := by
  refine ⟨fun m σ H => m = μ σ H ∧ Pv σ H, ⟨_, rfl, h0⟩, ?_⟩
  rintro m σ H ⟨rfl, p⟩
  refine mono σ H _ _ (fun b H1 q => ?_) (hs σ H p)
  cases b with
  | true => exact ⟨_, fun σ' H' ⟨p', l⟩ => ⟨_, l, rfl, p'⟩, q⟩
  | false => exact q
end L2

namespace L2
open PySem PySem.Spec PyProof.Rows

abbrev R2 := V → V → Hp → VK → Prop
noncomputable def OpR (X : Cx) (f : Value → Value → Sem Value) (r : R2) : Prop :=
  ∀ (pins : List (Addr × Obj)) (s : Shared) (σ : St) (H : Hp) (x y : V) (v u : Value) (Q : VK), Inv X pins σ H s → RelV x v → RelV y u → r x y H Q →
    wpAny (model X.prog X.w) X.A (f v u) (EP X pins σ Q) X.xe s
noncomputable def UnR (X : Cx) (f : Value → Sem Value) (r : V → Hp → VK → Prop) : Prop :=
  ∀ (pins : List (Addr × Obj)) (s : Shared) (σ : St) (H : Hp) (x : V) (v : Value) (Q : VK), Inv X pins σ H s → RelV x v → r x H Q →
    wpAny (model X.prog X.w) X.A (f v) (EP X pins σ Q) X.xe s
noncomputable def CallR (X : Cx) (f : Value) (r : List V → Hp → VK → Prop) : Prop :=
  ∀ (pins : List (Addr × Obj)) (s : Shared) (σ : St) (H : Hp) (xs : List V) (us : List Value) (Q : VK), Inv X pins σ H s → Vals xs us → r xs H Q →
    wpAny (model X.prog X.w) X.A (call f us) (EP X pins σ Q) X.xe s
noncomputable def TruR (X : Cx) (r : V → Hp → (Bool → Hp → Prop) → Prop) : Prop :=
  ∀ (pins : List (Addr × Obj)) (s : Shared) (σ : St) (H : Hp) (x : V) (v : Value) (Q : Bool → Hp → Prop), Inv X pins σ H s → RelV x v → r x H Q →
    wpAny (model X.prog X.w) X.A (truthy v) (TP X pins σ Q) X.xe s

noncomputable def tOp (r : R2) (ta tb : TE) : TE := fun σ H Q => ta σ H fun x H1 => tb σ H1 fun y H2 => r x y H2 Q
noncomputable def tUn (r : V → Hp → VK → Prop) (ta : TE) : TE := fun σ H Q => ta σ H fun x H1 => r x H1 Q
noncomputable def rI (C : Int → Int → Prop) (g : Int → Int → V) : R2 := fun x y H Q => ∃ i j, x = .int i ∧ y = .int j ∧ C i j ∧ Q (g i j) H
noncomputable def rI0 (g : Int → Int → V) : R2 := fun x y H Q => ∃ i j, x = .int i ∧ y = .int j ∧ Q (g i j) H
noncomputable def rU (g : Int → V) : V → Hp → VK → Prop := fun x H Q => ∃ i, x = .int i ∧ Q (g i) H

section
variable {X : Cx} {a b c : Expr} {ta tb tc : TE} {pos : Pos}

theorem binT (ha : PE X a ta) (hb : PE X b tb) {pins : List (Addr × Obj)} {s : Shared} {σ : St} {H : Hp} {R : V → V → Hp → Prop} (I : Inv X pins σ H s)
    (h : ta σ H fun x H1 => tb σ H1 fun y H2 => R x y H2) {Q : Value → Shared → Prop} {f : Value → Value → Sem Value}
    (hf : ∀ v u s2 x y H2, Inv X pins σ H2 s2 → RelV x v → RelV y u → R x y H2 → wpAny (model X.prog X.w) X.A (f v u) Q X.xe s2) :
    wpAny (model X.prog X.w) X.A (eval a X.env) (fun v s₁ => wpAny (model X.prog X.w) X.A (eval b X.env) (fun u s₂ => wpAny (model X.prog X.w) X.A (f v u) Q X.xe s₂) X.xe s₁) X.xe s := by
  refine thn (ha pins s σ H _ I h) fun v s1 ⟨x, H1, I1, r1, q1⟩ => ?_
  refine thn (hb pins s1 σ H1 _ I1 q1) fun u s2 ⟨y, H2, I2, r2, q2⟩ => ?_
  exact hf v u s2 x y H2 I2 r1 r2 q2

theorem pe_op {op : Operator} {r : R2} (ho : OpR X (binaryOp op) r) (ha : PE X a ta) (hb : PE X b tb) : PE X (.BinOp a op b pos) (tOp r ta tb) := by
  intro pins s σ H Q I h
  exact wpAny_BinOp (binT ha hb I h fun v u s2 x y H2 I2 rx ry q => ho pins s2 σ H2 x y v u Q I2 rx ry q)
theorem pe_un {op : UnaryOp} {r : V → Hp → VK → Prop} (ho : UnR X (unaryOp op) r) (ha : PE X a ta) : PE X (.UnaryOp op a pos) (tUn r ta) := by
  intro pins s σ H Q I h
  exact UnaryOp_ (thn (ha pins s σ H _ I h) fun v s1 ⟨x, H1, I1, r1, q1⟩ => ho pins s1 σ H1 x v Q I1 r1 q1)
theorem opI {f : Value → Value → Sem Value} {C : Int → Int → Prop} {g : Int → Int → Int}
    (rule : ∀ (i j : Int) (t u : Tok) (s : Shared) (Q : Value → Shared → Prop) (E : Value → Shared → Prop), C i j → Q (.int (g i j) s.toks) { s with toks := s.toks + 1 } → wpAny (model X.prog X.w) X.A (f (.int i t) (.int j u)) Q E s) :
    OpR X f (rI C fun i j => .int (g i j)) := by
  intro pins s σ H x y v u Q I rx ry h
  obtain ⟨i, j, rfl, rfl, hc, q⟩ := h
  obtain ⟨t, rfl⟩ := rx
  obtain ⟨t', rfl⟩ := ry
  exact rule i j t t' s _ _ hc ⟨.int (g i j), H, I.tok _, ⟨_, rfl⟩, q⟩
theorem opI0 {f : Value → Value → Sem Value} {g : Int → Int → Int}
    (rule : ∀ (i j : Int) (t u : Tok) (s : Shared) (Q : Value → Shared → Prop) (E : Value → Shared → Prop), Q (.int (g i j) s.toks) { s with toks := s.toks + 1 } → wpAny (model X.prog X.w) X.A (f (.int i t) (.int j u)) Q E s) :
    OpR X f (rI0 fun i j => .int (g i j)) := by
  intro pins s σ H x y v u Q I rx ry h
  obtain ⟨i, j, rfl, rfl, q⟩ := h
  obtain ⟨t, rfl⟩ := rx
  obtain ⟨t', rfl⟩ := ry
  exact rule i j t t' s _ _ ⟨.int (g i j), H, I.tok _, ⟨_, rfl⟩, q⟩
theorem opB0 {f : Value → Value → Sem Value} {g : Int → Int → Bool}
    (rule : ∀ (i j : Int) (t u : Tok) (s : Shared) (Q : Value → Shared → Prop) (E : Value → Shared → Prop), Q (.bool (g i j)) s → wpAny (model X.prog X.w) X.A (f (.int i t) (.int j u)) Q E s) :
    OpR X f (rI0 fun i j => .bl (g i j)) := by
  intro pins s σ H x y v u Q I rx ry h
  obtain ⟨i, j, rfl, rfl, q⟩ := h
  obtain ⟨t, rfl⟩ := rx
  obtain ⟨t', rfl⟩ := ry
  exact rule i j t t' s _ _ ⟨.bl (g i j), H, I, rfl, q⟩

noncomputable def CPow (i j : Int) : Prop := 0 ≤ j ∧ j ≤ 1000000 ∧ i.natAbs < 2 ^ 64
noncomputable def CMul (i j : Int) : Prop := (-(2 ^ 64) < i ∧ i < 2 ^ 64) ∨ (-(2 ^ 64) < j ∧ j < 2 ^ 64)
theorem CMul.ok {i j : Int} (h : CMul i j) : IntMulOk i j := by
  rcases h with ⟨h1, h2⟩ | ⟨h1, h2⟩
  · exact .of_left (intBits_le_64 h1 h2)
  · exact .of_right (intBits_le_64 h1 h2)
theorem op_add : OpR X (binaryOp .Add) (rI0 fun i j => .int (i + j)) := opI0 fun _ _ _ _ _ _ _ q => add_int q
theorem op_sub : OpR X (binaryOp .Sub) (rI0 fun i j => .int (i - j)) := opI0 fun _ _ _ _ _ _ _ q => sub_int q
theorem op_mul : OpR X (binaryOp .Mult) (rI CMul fun i j => .int (i * j)) := opI fun _ _ _ _ _ _ _ hc q => mul_int q hc.ok
theorem op_mod : OpR X (binaryOp .Mod) (rI (fun _ j => 0 < j) fun i j => .int (i % j)) := opI fun i j _ _ _ _ _ hc q => by
  have h1 : (0 : Int) < j := hc
  exact mod_int' (by omega) (by rw [Int.fmod_eq_emod_of_nonneg i (by omega)]; exact q)
theorem op_pow : OpR X (binaryOp .Pow) (rI CPow fun i j => .int (i ^ j.toNat)) := opI fun _ _ _ _ _ _ _ hc q => pow_int_small hc.1 hc.2.1 hc.2.2 q
theorem unI {f : Value → Sem Value} {g : Int → Int}
    (rule : ∀ (i : Int) (t : Tok) (s : Shared) (Q : Value → Shared → Prop) (E : Value → Shared → Prop), Q (.int (g i) s.toks) { s with toks := s.toks + 1 } → wpAny (model X.prog X.w) X.A (f (.int i t)) Q E s) :
    UnR X f (rU fun i => .int (g i)) := by
  intro pins s σ H x v Q I rx h
  obtain ⟨i, rfl, q⟩ := h
  obtain ⟨t, rfl⟩ := rx
  exact rule i t s _ _ ⟨.int (g i), H, I.tok _, ⟨_, rfl⟩, q⟩
theorem un_neg : UnR X (unaryOp .USub) (rU fun i => .int (-i)) := unI fun _ _ _ _ _ q => neg_int q
end

noncomputable def scal : V → V → Bool
  | .non, .non => true | .non, .int _ => true | .int _, .non => true | .non, .bl _ => true | .bl _, .non => true | .non, .str _ => true | .str _, .non => true
  | .int _, .int _ => true | .bl _, .bl _ => true | .str _, .str _ => true | .byt _, .byt _ => true
  | .int _, .str _ => true | .str _, .int _ => true | .bl _, .str _ => true | .str _, .bl _ => true
  | _, _ => false
noncomputable def rEq : R2 := fun x y H Q => scal x y = true ∧ Q (.bl (decide (x = y))) H
noncomputable def rNe : R2 := fun x y H Q => scal x y = true ∧ Q (.bl (!decide (x = y))) H

theorem dec_int {i j : Int} : decide (V.int i = V.int j) = (i == j) := by
  rw [Bool.eq_iff_iff]
  simp
theorem dec_bl {i j : Bool} : decide (V.bl i = V.bl j) = (i == j) := by
  rw [Bool.eq_iff_iff]
  simp
theorem dec_str {i j : Str} : decide (V.str i = V.str j) = (i == j) := by
  rw [Bool.eq_iff_iff]
  simp
theorem dec_byt {i j : Array UInt8} : decide (V.byt i = V.byt j) = (i.toList == j.toList) := by
  rw [Bool.eq_iff_iff]
  cases i
  cases j
  simp

section
variable {X : Cx} {a b c : Expr} {ta tb tc : TE} {pos : Pos}
theorem fin_bl {pins : List (Addr × Obj)} {σ : St} {H : Hp} {s : Shared} {Q : VK} {k k' : Bool} (I : Inv X pins σ H s) (q : Q (.bl k) H) (e : k = k') : EP X pins σ Q (.bool k') s := by
  subst e
  exact ⟨.bl k, H, I, rfl, q⟩
theorem op_eq : OpR X (compareOp .Eq) rEq := by
  intro pins s σ H x y v u Q I rx ry h
  obtain ⟨hs, q⟩ := h
  cases x with
  | non =>
    cases rx
    cases y with
    | non => cases ry; exact PySem.EqNone.eq_none_none (fin_bl I q (by simp))
    | bl j => cases ry; exact PySem.EqNone.eq_none_bool (fin_bl I q (by simp))
    | int j => obtain ⟨t', rfl⟩ := ry; exact PySem.EqNone.eq_none_int (fin_bl I q (by simp))
    | str j => obtain ⟨t', rfl⟩ := ry; exact PySem.EqNone.eq_none_str (fin_bl I q (by simp))
    | _ => exact absurd (show false = true from hs) Bool.false_ne_true
  | bl i =>
    cases rx
    cases y with
    | non => cases ry; exact PySem.EqNone.eq_bool_none (fin_bl I q (by simp))
    | bl j => cases ry; exact eq_bool (fin_bl I q dec_bl)
    | str j => obtain ⟨t', rfl⟩ := ry; exact PySem.EqMixed.eq_bool_str (fin_bl I q (by simp))
    | _ => exact absurd (show false = true from hs) Bool.false_ne_true
  | int i =>
    obtain ⟨t, rfl⟩ := rx
    cases y with
    | non => cases ry; exact PySem.EqNone.eq_int_none (fin_bl I q (by simp))
    | int j => obtain ⟨t', rfl⟩ := ry; exact eq_int (fin_bl I q dec_int)
    | str j => obtain ⟨t', rfl⟩ := ry; exact PySem.EqMixed.eq_int_str (fin_bl I q (by simp))
    | _ => exact absurd (show false = true from hs) Bool.false_ne_true
  | str i =>
    obtain ⟨t, rfl⟩ := rx
    cases y with
    | non => cases ry; exact PySem.EqNone.eq_str_none (fin_bl I q (by simp))
    | bl j => cases ry; exact PySem.EqMixed.eq_str_bool (fin_bl I q (by simp))
    | int j => obtain ⟨t', rfl⟩ := ry; exact PySem.EqMixed.eq_str_int (fin_bl I q (by simp))
    | str j => obtain ⟨t', rfl⟩ := ry; exact eq_str (fin_bl I q dec_str)
    | _ => exact absurd (show false = true from hs) Bool.false_ne_true
  | byt i =>
    obtain ⟨t, rfl⟩ := rx
    cases y with
    | byt j => obtain ⟨t', rfl⟩ := ry; exact PySem.W.eq_bytes (fin_bl I q dec_byt)
    | _ => exact absurd (show false = true from hs) Bool.false_ne_true
  | _ => cases y <;> exact absurd (show false = true from hs) Bool.false_ne_true
theorem op_ne : OpR X (compareOp .NotEq) rNe := by
  intro pins s σ H x y v u Q I rx ry h
  obtain ⟨hs, q⟩ := h
  cases x with
  | non =>
    cases rx
    cases y with
    | non => cases ry; exact PySem.EqNone.ne_none_none (fin_bl I q (by simp))
    | bl j => cases ry; exact PySem.EqNone.ne_none_bool (fin_bl I q (by simp))
    | int j => obtain ⟨t', rfl⟩ := ry; exact PySem.EqNone.ne_none_int (fin_bl I q (by simp))
    | str j => obtain ⟨t', rfl⟩ := ry; exact PySem.EqNone.ne_none_str (fin_bl I q (by simp))
    | _ => exact absurd (show false = true from hs) Bool.false_ne_true
  | bl i =>
    cases rx
    cases y with
    | non => cases ry; exact PySem.EqNone.ne_bool_none (fin_bl I q (by simp))
    | bl j => cases ry; exact ne_bool (fin_bl I q (congrArg not dec_bl))
    | str j => obtain ⟨t', rfl⟩ := ry; exact PySem.EqMixed.ne_bool_str (fin_bl I q (by simp))
    | _ => exact absurd (show false = true from hs) Bool.false_ne_true
  | int i =>
    obtain ⟨t, rfl⟩ := rx
    cases y with
    | non => cases ry; exact PySem.EqNone.ne_int_none (fin_bl I q (by simp))
    | int j => obtain ⟨t', rfl⟩ := ry; exact ne_int (fin_bl I q (congrArg not dec_int))
    | str j => obtain ⟨t', rfl⟩ := ry; exact PySem.EqMixed.ne_int_str (fin_bl I q (by simp))
    | _ => exact absurd (show false = true from hs) Bool.false_ne_true
  | str i =>
    obtain ⟨t, rfl⟩ := rx
    cases y with
    | non => cases ry; exact PySem.EqNone.ne_str_none (fin_bl I q (by simp))
    | bl j => cases ry; exact PySem.EqMixed.ne_str_bool (fin_bl I q (by simp))
    | int j => obtain ⟨t', rfl⟩ := ry; exact PySem.EqMixed.ne_str_int (fin_bl I q (by simp))
    | str j => obtain ⟨t', rfl⟩ := ry; exact ne_str (fin_bl I q (congrArg not dec_str))
    | _ => exact absurd (show false = true from hs) Bool.false_ne_true
  | byt i =>
    obtain ⟨t, rfl⟩ := rx
    cases y with
    | byt j => obtain ⟨t', rfl⟩ := ry; exact PySem.W.ne_bytes (fin_bl I q (congrArg not dec_byt))
    | _ => exact absurd (show false = true from hs) Bool.false_ne_true
  | _ => cases y <;> exact absurd (show false = true from hs) Bool.false_ne_true

theorem op_lt : OpR X (compareOp .Lt) (rI0 fun i j => .bl (decide (i < j))) := opB0 fun _ _ _ _ _ _ _ q => lt_int q
theorem op_le : OpR X (compareOp .LtE) (rI0 fun i j => .bl (decide (i ≤ j))) := opB0 fun _ _ _ _ _ _ _ q => le_int q
theorem op_gt : OpR X (compareOp .Gt) (rI0 fun i j => .bl (decide (j < i))) := opB0 fun _ _ _ _ _ _ _ q => gt_int q
theorem op_ge : OpR X (compareOp .GtE) (rI0 fun i j => .bl (decide (j ≤ i))) := opB0 fun _ _ _ _ _ _ _ q => ge_int q
theorem op_isN : OpR X (compareOp .Is) (fun x y H Q => y = .non ∧ Q (.bl (decide (x = .non))) H) := by
  intro pins s σ H x y v u Q I rx ry h
  obtain ⟨rfl, q⟩ := h
  cases ry
  refine is_none_gen (fin_bl I q ?_)
  cases x <;> first
    | (cases rx; rfl)
    | (obtain ⟨t, rfl⟩ := rx; rfl)
theorem nomark (b : Expr) {op : CmpOp} (h : op ≠ .In := by decide) (h2 : op ≠ .NotIn := by decide) : behindInMarks op b = false := by
  have e1 : (op == CmpOp.In) = false := by cases op <;> first | rfl | exact absurd rfl h
  have e2 : (op == CmpOp.NotIn) = false := by cases op <;> first | rfl | exact absurd rfl h2
  cases b <;> simp [behindInMarks, e1, e2]
theorem pe_cmpR {op : CmpOp} {r : R2} (ho : OpR X (compareOp op) r) (ha : PE X a ta) (hb : PE X b tb) (hm : behindInMarks op b = false) : PE X (.Compare a [op] [b] pos) (tOp r ta tb) := by
  intro pins s σ H Q I h
  exact wpAny_Compare1 (binT ha hb I h fun v u s2 x y H2 I2 rx ry q => ho pins s2 σ H2 x y v u Q I2 rx ry q) hm
noncomputable def tTest (t : TE) : TT := fun σ H Q => t σ H fun x H' => ∃ k, x = .bl k ∧ Q k H'
theorem pt_cmpR {op : CmpOp} {r : R2} (ho : OpR X (compareOp op) r) (ha : PE X a ta) (hb : PE X b tb) (hm : behindInMarks op b = false) : PT X (.Compare a [op] [b] pos) (tTest (tOp r ta tb)) := by
  intro pins s σ H Q I h
  refine wpAny_isTrue_Compare1 (thn (ha pins s σ H _ I h) fun v s1 ⟨x, H1, I1, r1, q1⟩ => thn (hb pins s1 σ H1 _ I1 q1) fun u s2 ⟨y, H2, I2, r2, q2⟩ =>
    thn (ho pins s2 σ H2 x y v u _ I2 r1 r2 q2) fun c s3 ⟨z, H3, I3, r3, k, e, q3⟩ => ?_) hm
  subst e
  cases r3
  exact wpAny_truthy_bool ⟨H3, I3, q3⟩
noncomputable def tChain (r r' : R2) (ta tb tc : TE) : TE := fun σ H Q => ta σ H fun x H1 => tb σ H1 fun y H2 => r x y H2 fun z H3 => ∃ k, z = .bl k ∧
  (if k = true then tc σ H3 fun w' H4 => r' y w' H4 Q else Q (.bl false) H3)
noncomputable def TruV (K : PySem.W.Frag) (x : V) (H : Hp) (k : Bool) : Prop :=
  match x with
  | .non => k = false
  | .bl b => k = b
  | .int i => k = (i != 0)
  | .str y => y.length ≤ sizeLine ∧ k = ((y.length : Int) != 0)
  | .byt y => y.size ≤ sizeLine ∧ k = ((y.size : Int) != 0)
  | .ref p => (∃ xs, SqL K H p xs ∧ k = !xs.isEmpty) ∨ (∃ xs, SqT K H p xs ∧ k = !xs.isEmpty) ∨ ∃ kvs, H p = some (.dK kvs) ∧ k = !kvs.isEmpty
  | _ => False
theorem isEmpty_kv {κ : Type} {kvs : List (κ × V)} {vs : List (κ × Value)} (r : KV kvs vs) : (!vs.isEmpty) = !kvs.isEmpty := by
  cases r <;> rfl
theorem isEmpty_of {xs : List V} {its : List Value} (r : Vals xs its) : (!its.toArray.isEmpty) = !xs.isEmpty := by
  cases r <;> simp
theorem line63 : (sizeLine : Nat) < 2 ^ 63 := by rw [sizeLine_eq]; decide
theorem tru_ok : TruR X (fun x H Q => ∃ k, TruV X.K x H k ∧ Q k H) := by
  intro pins s σ H x v Q I rx h
  obtain ⟨k, e, q⟩ := h
  have hl := line63
  have hs : sizeLine = 16777216 := sizeLine_eq
  cases x with
  | non =>
    cases rx
    have e' : k = false := e
    subst e'
    exact truthy_none ⟨H, I, q⟩
  | bl b =>
    cases rx
    have e' : k = b := e
    subst e'
    exact wpAny_truthy_bool ⟨H, I, q⟩
  | int i =>
    obtain ⟨t, rfl⟩ := rx
    have e' : k = (i != 0) := e
    subst e'
    exact PySem.P.truthy_int ⟨H, I, q⟩
  | str y =>
    obtain ⟨t, rfl⟩ := rx
    obtain ⟨hy, e'⟩ : y.length ≤ sizeLine ∧ k = ((y.length : Int) != 0) := e
    subst e'
    exact PySem.P.truthy_str (by omega) ⟨H, I.tok _, q⟩
  | byt y =>
    obtain ⟨t, rfl⟩ := rx
    obtain ⟨hy, e'⟩ : y.size ≤ sizeLine ∧ k = ((y.size : Int) != 0) := e
    subst e'
    exact PySem.W.truthy_bytes (by omega) ⟨H, I.tok _, q⟩
  | ref p =>
    cases rx
    have e' : (∃ xs, SqL X.K H p xs ∧ k = !xs.isEmpty) ∨ (∃ xs, SqT X.K H p xs ∧ k = !xs.isEmpty) ∨ ∃ kvs, H p = some (.dK kvs) ∧ k = !kvs.isEmpty := e
    rcases e' with ⟨xs, hx, e'⟩ | ⟨xs, hx, e'⟩ | ⟨kvs, hx, e'⟩
    · subst e'
      obtain ⟨its, r, pl, hz⟩ := I.list hx
      have hlen := r.length
      exact wpAny_truthy_list pl.isList (by simp only [List.size_toArray]; omega) ⟨H, I.tok _, by rw [isEmpty_of r]; exact q⟩
    · subst e'
      obtain ⟨its, r, pl, hz⟩ := I.tuple hx
      have hlen := r.length
      exact truthy_tuple pl (by simp only [List.size_toArray]; omega) ⟨H, I.tok _, by rw [isEmpty_of r]; exact q⟩
    · subst e'
      obtain ⟨hz, hS, vs, r, m⟩ : kvs.length ≤ sizeLine ∧ (p == sysModules) = false ∧ ∃ vs, KV kvs vs ∧ s.heap.DictOf (mixKind X.prog X.w) p vs := I.hok p _ hx
      have hlen : kvs.length = vs.length := Paired.length r
      exact wpAny_truthy_dict hS m (by omega) ⟨H, I.tok _, by rw [isEmpty_kv r]; exact q⟩
  | _ => exact (show False from e).elim
theorem pt_truth (ha : PE X a ta) (he : ∀ whole, isTrue a X.env whole = (do let v ← whole; standAt a.pos; holding [v] (truthy v))) :
    PT X a (fun σ H Q => ta σ H fun x H' => ∃ k, TruV X.K x H' k ∧ Q k H') := by
  intro pins s σ H Q I h
  exact isTrue_plain (thn (ha pins s σ H _ I h) fun v s1 ⟨x, H1, I1, r1, q1⟩ => tru_ok pins s1 σ H1 x v Q I1 r1 q1) (he _)

theorem vals1 {x : V} {us : List Value} (r : Vals [x] us) : ∃ u, us = [u] ∧ RelV x u := by
  cases r with
  | cons r1 r2 => cases r2; exact ⟨_, rfl, r1⟩
theorem vals2 {x y : V} {us : List Value} (r : Vals [x, y] us) : ∃ u w', us = [u, w'] ∧ RelV x u ∧ RelV y w' := by
  cases r with
  | cons r1 r2 =>
    cases r2 with
    | cons r3 r4 => cases r4; exact ⟨_, _, rfl, r1, r3⟩
theorem call_abs : CallR X (.builtin "abs") (fun xs H Q => ∃ i, xs = [.int i] ∧ Q (.int (if i < 0 then -i else i)) H) := by
  intro pins s σ H xs us Q I r h
  obtain ⟨i, rfl, q⟩ := h
  obtain ⟨u, rfl, t, rfl⟩ := vals1 r
  exact call_abs_int fun u tk => ⟨.int (if i < 0 then -i else i), H, I.tok _, ⟨_, rfl⟩, q⟩
theorem call_int1 : CallR X (.type "int") (fun xs H Q => (∃ i, xs = [.int i] ∧ Q (.int i) H) ∨ ∃ k, xs = [.bl k] ∧ Q (.int (if k then 1 else 0)) H) := by
  intro pins s σ H xs us Q I r h
  rcases h with ⟨i, rfl, q⟩ | ⟨k, rfl, q⟩
  · obtain ⟨u, rfl, t, rfl⟩ := vals1 r
    exact call_int_int ⟨.int i, H, I, ⟨_, rfl⟩, q⟩
  · obtain ⟨u, rfl, r1⟩ := vals1 r
    cases r1
    exact call_int_bool ⟨.int (if k then 1 else 0), H, I.tok _, ⟨_, rfl⟩, q⟩
theorem call_str_int : CallR X (.type "str") (fun xs H Q => ∃ i, xs = [.int i] ∧ i.natAbs.log2 < 1920 ∧ Q (.str (toString i)) H) := by
  intro pins s σ H xs us Q I r h
  obtain ⟨i, rfl, hz, q⟩ := h
  obtain ⟨u, rfl, t, rfl⟩ := vals1 r
  exact PySem.P.str_of_int hz ⟨.str _, H, I.tok _, ⟨_, rfl⟩, q⟩
end
end L2

namespace L2
open PySem PySem.Spec PyProof.Rows

theorem lookIn_ns {h : Heap} {dx : Addr} {mA : Str → Option Value} (n : h.Ns1 dx mA) : ∃ od, h.get? dx = some od ∧ ∀ name, PySem.W.lookIn name od = some (mA name) := by
  obtain ⟨o, es, ep, ho, hd, hk, _, hm⟩ := n
  refine ⟨o, ho, fun name => ?_⟩
  have e := hm name
  unfold nsFind findBy at e
  rw [← Array.find?_toList] at e
  unfold PySem.W.lookIn
  rw [hd]
  dsimp only
  split
  · rename_i y q
    rw [q] at e
    exact congrArg some e
  · rename_i q
    rw [q] at e
    have a : es.toList.any (·.refKey) = false := by
      rw [List.any_eq_false]
      intro y hy
      obtain ⟨z, t, hkey⟩ := hk y (Array.mem_toList_iff.mp hy)
      simp [DictEntry.refKey, hkey]
    have a' : ¬ es.toList.any (·.refKey) = true := by rw [a]; exact Bool.false_ne_true
    rw [if_neg a']
    exact congrArg some e

section
variable {prog : Program} {w : World} {A : Around} {E : Value → Shared → Prop} {s : Shared} {K : PySem.W.Frag} {x dx C f : Addr} {mA : Str → Option Value} {name : Str} {v : Value}

end

theorem RelO.some_of {v : V} {o : Option Value} (r : RelO (some v) o) : ∃ u, o = some u ∧ RelV v u := by
  cases o with
  | none => exact (show False from r).elim
  | some u => exact ⟨u, rfl, r⟩
theorem handed_of {v : V} {u : Value} (r : RelV v u) : PySem.W.handedIn u = true := by
  cases v with
  | non => cases (show u = Value.none from r); rfl
  | bl b => cases (show u = Value.bool b from r); rfl
  | int i => obtain ⟨t, e⟩ := (show ∃ t, u = Value.int i t from r); cases e; rfl
  | str x => obtain ⟨t, e⟩ := (show ∃ t, u = Value.str x t from r); cases e; rfl
  | byt b => obtain ⟨t, e⟩ := (show ∃ t, u = Value.bytes b t from r); cases e; rfl
  | flt b => obtain ⟨t, e⟩ := (show ∃ t, u = Value.float b t from r); cases e; rfl
  | ref a => cases (show u = Value.ref a from r); rfl
  | ty n => cases (show u = Value.type n from r); rfl

section
variable {P : Program} {w : World} {H H' : Hp} {h h' : Heap} {a C dx : Addr} {fs fs' : List (Str × V)}
end

structure Cls (K : PySem.W.Frag) (C : Addr) : Prop where
  pg : PySem.W.plainGet K C Str.empty = true
  hd : PySem.W.hasDictIn K C = true
  po : PySem.W.plainOver K C = true
  sa : PySem.W.findIn K (.ref C) "__setattr__" = some (some (.builtin "object.__setattr__"))
theorem Cls.get {K : PySem.W.Frag} {C : Addr} (c : Cls K C) (f : Str) : PySem.W.plainGet K C f = true := c.pg
noncomputable def NoAttr (K : PySem.W.Frag) (C : Addr) (f : Str) : Prop := PySem.W.findIn K (.ref C) f = some none
section
variable {X : Cx} {pins : List (Addr × Obj)} {σ : St} {H : Hp} {s : Shared} {a C dx : Addr} {fs : List (Str × V)} {f : Str} {v : V} {A : Around} {E : Value → Shared → Prop}

theorem attr_of {prog : Program} {w : World} {env : Env} {e : Expr} {f : Str} {pos : Pos} {s : Shared} {Q : Value → Shared → Prop} (hb : attributeBase e f env (eval e env) = eval e env)
    (h : wpAny (model prog w) A (eval e env) (fun o s₁ => wpAny (model prog w) A (getAttr o f true) Q E s₁) E s) : wpAny (model prog w) A (eval (.Attribute e f pos) env) Q E s :=
  Attribute_any_ h (by rw [arm_eval_Attribute, hb])
end

section
variable {X : Cx} {o e value : Expr} {f : Str} {pos pos' tpos : Pos} {ta tv : TE}
end

section
variable {X : Cx} {pins : List (Addr × Obj)} {σ : St} {H : Hp} {s : Shared} {A : Around} {E : Value → Shared → Prop} {Q : Value → Shared → Prop} {c : Value} {b : Bool}
end
end L2

namespace L2
open PySem PySem.Spec PyProof.Rows

structure Room (k : Nat) (A : Around) : Prop where
  hd : A.handled = none
  dp : A.depth + 3 * k + 5 < recursionLimit
  un : A.units + 16 * k + 200 < cLine
theorem Room.mono {j k : Nat} {A : Around} (r : Room k A) (h : j ≤ k) : Room j A := ⟨r.hd, by have := r.dp; omega, by have := r.un; omega⟩
theorem Room.deeper {k : Nat} {A : Around} (r : Room (k + 1) A) (env : Env) : Room k (A.deeper env) :=
  ⟨r.hd, by have := r.dp; show A.depth + 1 + 3 * k + 5 < _; omega, by have := r.un; show A.units + 3 + 16 * k + 200 < _; omega⟩
theorem Room.in1 {k : Nat} {A : Around} (r : Room (k + 1) A) : Room k A.in1 :=
  ⟨r.hd, by have := r.dp; show A.depth + 3 * k + 5 < _; omega, by have := r.un; show A.units + 1 + 16 * k + 200 < _; omega⟩
theorem make_depth {A : Around} {C : Addr} {us : List Value} {kw : List (Str × Value)} : (A.under (.builtin "type.__call__" ⟨.ref C :: us, kw⟩)).depth = A.depth + 1 := by
  first | rfl | simp [Around.under, Code.weight, Code.isCreation, Code.isGuard, Code.isCaller, Code.frames, Code.isFrame, guardIds]
theorem make_units {A : Around} {C : Addr} {us : List Value} {kw : List (Str × Value)} : (A.under (.builtin "type.__call__" ⟨.ref C :: us, kw⟩)).units = A.units + 1 := by
  first | rfl | simp [Around.under, Code.cUnits, Code.frames, Code.isFrame]
theorem Room.make {k : Nat} {A : Around} (r : Room (k + 1) A) (C : Addr) (us : List Value) (kw : List (Str × Value)) : Room k (A.under (.builtin "type.__call__" ⟨.ref C :: us, kw⟩)) :=
  ⟨r.hd, by have := r.dp; rw [make_depth]; omega, by have := r.un; rw [make_units]; omega⟩
theorem Room.depth {k : Nat} {A : Around} (r : Room k A) : A.depth < recursionLimit := by have := r.dp; omega
theorem Room.units {k : Nat} {A : Around} (r : Room k A) : A.units + 64 < cLine := by have := r.un; omega
noncomputable def tNil : TA := fun _ H Q => Q [] H
noncomputable def tCons (ta : TE) (tr : TA) : TA := fun σ H Q => ta σ H fun x H1 => tr σ H1 fun xs H2 => Q (x :: xs) H2
section
variable {X : Cx} {e : Expr} {es : List Expr} {te : TE} {t : TA} {pos : Pos}
theorem pa_nil : PA X [] tNil := fun _ _ _ _ H Q I h => Calls.spliced_nil ⟨[], H, I, .nil, h⟩
theorem pa_cons (ha : PE X e te) (hr : PA X es t) (hs : starEach (e :: es) X.env = (false, eval e X.env) :: starEach es X.env := by rfl) : PA X (e :: es) (tCons te t) := by
  intro pos pins s σ H Q I h
  rw [hs]
  show wpAny _ _ (spliced ((false, eval e X.env) :: backTo pos (starEach es X.env))) _ _ s
  refine Calls.spliced_cons (thn (ha pins s σ H _ I h) fun u s1 ⟨x, H1, I1, r1, q1⟩ => ?_)
  exact thn (hr pos pins s1 σ H1 _ I1 q1) fun us s2 ⟨xs, H2, I2, r2, q2⟩ => ⟨x :: xs, H2, I2, .cons r1 r2, q2⟩

noncomputable def tTup (t : TA) : TE := fun σ H Q => t σ H fun xs H1 => xs.length ≤ sizeLine ∧ ∀ p, H1 p = none → Q (.ref p) (upd H1 p (.tup xs))
noncomputable def tLst (t : TA) : TE := fun σ H Q => t σ H fun xs H1 => xs.length ≤ sizeLine ∧ ∀ p, H1 p = none → Q (.ref p) (upd H1 p (.lst xs))
theorem pe_tup {x1} (h : PA X es t) : PE X (.Tuple es x1 pos) (tTup t) := by
  intro pins s σ H Q I hq
  refine wpAny_Tuple_spliced (thn (h pos pins s σ H _ I hq) fun us s1 ⟨xs, H1, I1, r, z, q⟩ => ⟨by rw [← r.length]; exact z, ?_⟩)
  have hf : H1 s1.heap.objs.size = none := I1.hok.fresh (Nat.le_refl _)
  refine ⟨.ref s1.heap.objs.size, upd H1 s1.heap.objs.size (.tup xs), I1.laid (t' := s1.toks) (fun b u e => Heap.get?_push_of_some _ e) (Nat.le_refl _) ?_, rfl, q _ hf⟩
  exact ⟨z, us, r, ⟨_, Heap.get?_push_size _ rfl, rfl, _, rfl⟩⟩
theorem pe_lst (h : PA X es t) : PE X (.List es pos) (tLst t) := by
  intro pins s σ H Q I hq
  refine wpAny_List_spliced (thn (h pos pins s σ H _ I hq) fun us s1 ⟨xs, H1, I1, r, z, q⟩ => ⟨by rw [← r.length]; exact z, ?_⟩)
  have hf : H1 s1.heap.objs.size = none := I1.hok.fresh (Nat.le_refl _)
  refine ⟨.ref s1.heap.objs.size, upd H1 s1.heap.objs.size (.lst xs), I1.laid (t' := s1.toks) (fun b u e => Heap.get?_push_of_some _ e) (Nat.le_refl _) ?_, rfl, q _ hf⟩
  exact ⟨z, us, 0, r, Heap.get?_push_size _ rfl⟩
end

abbrev Sp := List V → Hp → VK → XK → Prop
abbrev CXT := List Env → Hp → Shared → XK → Value → Shared → Prop

structure Env0 (P : Program) (w : World) (K : PySem.W.Frag) (mg : Str → Option Value) (base : Heap) (A : Around) (outer : List Env) (s : Shared) (H : Hp) : Prop where
  frames : A.frames = some outer
  mod : Mod K mg base
  bs : ∀ b o, base.get? b = some o → s.heap.get? b = some o ∧ H b = none
  bsz : base.objs.size ≤ s.heap.objs.size
  funs : s.heap.FunFrames base outer
  frf : ∀ b ∈ frs outer, H b = none
  hok : HOk P w H s.heap
  bare : AllBare s.gens
noncomputable def CE (outer : List Env) (P : Program) (w : World) (H : Hp) (s : Shared) (Q : VK) (u : Value) (s' : Shared) : Prop :=
  ∃ v H', s'.os = s.os ∧ AllBare s'.gens ∧ Un (frs outer) [] H H' s.heap s'.heap ∧ HOk P w H' s'.heap ∧ RelV v u ∧ Q v H'
noncomputable def CR (CX : CXT) (outer : List Env) (P : Program) (w : World) (H : Hp) (s : Shared) (Q : VK) (E : XK) (r : Result) (s' : Shared) : Prop :=
  match r with
  | .ok (.ret u) => CE outer P w H s Q u s'
  | .ok _ => False
  | .error e => CX outer H s E e s'
structure FnOk (P : Program) (w : World) (K : PySem.W.Frag) (mg : Str → Option Value) (base : Heap) (CX : CXT) (k : Nat) (f : Addr) (fd : FuncData) (ps : List Str) (sp : Sp) : Prop where
  len : ∀ vs H Q E, sp vs H Q E → vs.length = ps.length
  run : ∀ (A : Around) (outer : List Env) (s : Shared) (H : Hp) (args : Args) (us : List Value) (vs : List V) (Q : VK) (E : XK), Room k A → Env0 P w K mg base A outer s H → BindsTo s fd args (ps.zip us) → Vals vs us → sp vs H Q E →
    codeAny (model P w) A (.call (.ref f) args) (CR CX outer P w H s Q E) s
theorem FnOk.mono {P : Program} {w : World} {K : PySem.W.Frag} {mg : Str → Option Value} {base : Heap} {CX : CXT} {j k : Nat} {f : Addr} {fd : FuncData} {ps : List Str} {sp : Sp} (F : FnOk P w K mg base CX j f fd ps sp) (h : j ≤ k) :
    FnOk P w K mg base CX k f fd ps sp := ⟨F.len, fun A outer s H args us vs Q E hr => F.run A outer s H args us vs Q E (hr.mono h)⟩
theorem Env0.make {P : Program} {w : World} {K : PySem.W.Frag} {mg : Str → Option Value} {base : Heap} {A : Around} {outer : List Env} {s : Shared} {H : Hp} (e : Env0 P w K mg base A outer s H) (C : Addr) (us : List Value) (kw : List (Str × Value)) :
    Env0 P w K mg base (A.under (.builtin "type.__call__" ⟨.ref C :: us, kw⟩)) outer s H := ⟨by first | exact e.frames | (simpa [Around.under, Code.envs, Code.isFrame, pushEnvs] using e.frames), e.mod, e.bs, e.bsz, e.funs, e.frf, e.hok, e.bare⟩
theorem Env0.in1 {P : Program} {w : World} {K : PySem.W.Frag} {mg : Str → Option Value} {base : Heap} {A : Around} {outer : List Env} {s : Shared} {H : Hp} (e : Env0 P w K mg base A outer s H) :
    Env0 P w K mg base A.in1 outer s H := ⟨e.frames, e.mod, e.bs, e.bsz, e.funs, e.frf, e.hok, e.bare⟩

section
variable {X : Cx} {pins : List (Addr × Obj)} {σ : St} {H : Hp} {s s' : Shared}
theorem Inv.env0 (I : Inv X pins σ H s) : Env0 X.prog X.w X.K X.mg X.base X.A X.stack s H :=
  ⟨I.ok.frames, I.ok.mod, I.bs, Nat.le_trans I.ok.bsz I.sz, I.stack, I.stkFree, I.hok, I.bare⟩
theorem Inv.after {Q : VK} {u : Value} (I : Inv X pins σ H s) (h : CE X.stack X.prog X.w H s Q u s') : EP X pins σ Q u s' := by
  obtain ⟨v, H', os, bare, un, hok, r, q⟩ := h
  obtain ⟨hh, g, d, t, os'⟩ := s'
  obtain rfl : os' = s.os := os
  exact ⟨v, H', I.call (h' := hh) (g' := g) (d' := d) (t' := t) (ch := []) un hok bare (fun b z => absurd z (by simp)), r, q⟩
end

noncomputable def tCall (sp : Sp) (dvs : List V) (E : XK) (t : TA) : TE := fun σ H Q => t σ H fun vs H1 => sp (vs ++ dvs) H1 Q E
noncomputable def Binds (K : PySem.W.Frag) (fd : FuncData) (ps : List Str) (ds : List Value) : Prop :=
  ∀ (s : Shared) (us : List Value), K.In s.heap → (us ++ ds).length = ps.length → BindsTo s fd ⟨us, []⟩ (ps.zip (us ++ ds))
theorem Binds.all {K : PySem.W.Frag} {fd : FuncData} {ps : List Str} (h : ∀ us : List Value, us.length = ps.length → bindArgs fd ⟨us, []⟩ = pure (ps.zip us)) : Binds K fd ps [] := fun s us _ hl => by
  rw [List.append_nil] at hl ⊢
  exact .of_eq (h us hl)

noncomputable def Passes (CX : CXT) (X : Cx) (E : XK) : Prop := ∀ (pins : List (Addr × Obj)) (σ : St) (H : Hp) (s : Shared) (e : Value) (s' : Shared), Inv X pins σ H s → CX X.stack H s E e s' → X.xe e s'

section
variable {X : Cx} {CX : CXT} {k : Nat} {f C : Addr} {fd : FuncData} {ps : List Str} {sp : Sp} {dvs : List V} {ds : List Value} {E : XK} {x m : Str} {p pos apos : Pos} {e o : Expr} {es : List Expr} {ta : TE} {t : TA}

theorem run_fn {pins : List (Addr × Obj)} {σ : St} {H : Hp} {s : Shared} {Q : VK} {us : List Value} {vs : List V} (F : FnOk X.prog X.w X.K X.mg X.base CX k f fd ps sp) (hr : Room k X.A) (hb : Binds X.K fd ps ds) (hd : Vals dvs ds) (hx : Passes CX X E)
    (I : Inv X pins σ H s) (r : Vals vs us) (h : sp (vs ++ dvs) H Q E) : wpAny (model X.prog X.w) X.A (call (.ref f) us) (EP X pins σ Q) X.xe s := by
  have r2 : Vals (vs ++ dvs) (us ++ ds) := r.append hd
  have hl : (us ++ ds).length = ps.length := by rw [← r2.length]; exact F.len _ _ _ _ h
  refine wpAny_call (codeAny_mono (F.run X.A X.stack s H ⟨us, []⟩ (us ++ ds) (vs ++ dvs) Q E hr I.env0 (hb s us I.kIn hl) r2 h) fun r s' hq => ?_)
  cases r with
  | error e => exact hx pins σ H s e s' I hq
  | ok fl =>
    cases fl with
    | ret u => exact I.after hq
    | next => exact False.elim hq
    | brk => exact False.elim hq
    | cont => exact False.elim hq

theorem pe_call (F : FnOk X.prog X.w X.K X.mg X.base CX k f fd ps sp) (hr : Room k X.A) (hg : Gl X x) (hm : X.mg x = some (.ref f)) (hk : PySem.W.keepIn X.K (.ref f) = true) (hb : Binds X.K fd ps ds) (hd : Vals dvs ds) (hx : Passes CX X E)
    (ha : PA X (e :: es) t) (hdb : (x == ("__debug__" : Str)) = false := by decide) (he : starEach (e :: es) X.env = (false, eval e X.env) :: starEach es X.env := by rfl) (hpl : (backTo pos (starEach es X.env)).any (·.1) = false := by rfl) :
    PE X (.Call (.Name x p) (e :: es) [] pos) (tCall sp dvs E t) := by
  intro pins s σ H Q I h
  refine wpAny_Call_Name_kw (ld_glob I hg hm ?_ hdb)
  refine PySem.W.callWith_K (h₀ := X.base) I.ok.mod.kin hk (thn (ha pos pins s σ H _ I h) fun us s1 ⟨vs, H1, I1, r, q⟩ => ⟨I1.kIn, ?_⟩) he hpl
  exact run_fn F hr hb hd hx I1 r q
end

section
variable {X : Cx} {CX : CXT} {k : Nat} {f C : Addr} {fd : FuncData} {ps ks : List Str} {sp : Sp} {E : XK} {x m : Str} {p pos apos kpos : Pos} {e o : Expr} {es : List Expr} {kws : List Keyword} {te ta : TE} {t tk : TA} {nm : Option Str}
variable {g : List Value → List Value → List Value} {gV : List V → List V → List V}
end

structure FnScope (N P : List Str) (sc : Scope) : Prop where
  kind : sc.kind = .function
  co : sc.isCoroutine = false
  gen : sc.isGenerator = false
  nd : N.Nodup
  pre : N.take P.length = P
  par : ∀ x ∈ P, sc.names.lookup x = some .local ∨ sc.names.lookup x = some .cell
  nofree : ∀ y ∈ sc.names, y.2 ≠ .free

theorem bindL_out {kindOf : Str → Option NameKind} {x : Str} : ∀ {binds : List (Str × Value)} {m : Str → Option Value}, (∀ v, (x, v) ∉ binds) → bindL kindOf binds m x = m x
  | [], _, _ => rfl
  | (n, v) :: r, m, h => by
    unfold bindL
    rw [bindL_out fun w hw => h w (List.mem_cons_of_mem _ hw)]
    split
    · have : x ≠ n := by rintro rfl; exact h v List.mem_cons_self
      simp [this]
    · rfl
theorem bindC_out {kindOf : Str → Option NameKind} {x : Str} : ∀ {binds : List (Str × Value)} {m : Str → Option Value}, (∀ v, (x, v) ∉ binds) → bindC kindOf binds m x = m x
  | [], _, _ => rfl
  | (n, v) :: r, m, h => by
    unfold bindC
    rw [bindC_out fun w hw => h w (List.mem_cons_of_mem _ hw)]
    split
    · rfl
    · have : x ≠ n := by rintro rfl; exact h v List.mem_cons_self
      simp [this]
theorem bindL_get {kindOf : Str → Option NameKind} {x : Str} {v : Value} : ∀ {P : List Str} {vs : List Value} {i : Nat} {m : Str → Option Value}, P.Nodup → P[i]? = some x → vs[i]? = some v → kindOf x = some .local →
    bindL kindOf (P.zip vs) m x = some v
  | [], _, _, _, _, h, _, _ => by simp at h
  | _ :: _, [], _, _, _, _, h, _ => by simp at h
  | p :: P, w :: vs, 0, m, nd, h1, h2, hk => by
    simp at h1 h2; subst h1; subst h2
    show bindL kindOf ((p, w) :: P.zip vs) m p = _
    unfold bindL
    rw [bindL_out fun v hv => (List.nodup_cons.mp nd).1 (List.of_mem_zip hv).1, if_pos hk]
    simp
  | p :: P, w :: vs, i + 1, m, nd, h1, h2, hk => by
    show bindL kindOf ((p, w) :: P.zip vs) m x = _
    unfold bindL
    exact bindL_get (i := i) (List.nodup_cons.mp nd).2 (by simpa using h1) (by simpa using h2) hk
theorem bindC_get {kindOf : Str → Option NameKind} {x : Str} {v : Value} : ∀ {P : List Str} {vs : List Value} {i : Nat} {m : Str → Option Value}, P.Nodup → P[i]? = some x → vs[i]? = some v → kindOf x ≠ some .local →
    bindC kindOf (P.zip vs) m x = some v
  | [], _, _, _, _, h, _, _ => by simp at h
  | _ :: _, [], _, _, _, _, h, _ => by simp at h
  | p :: P, w :: vs, 0, m, nd, h1, h2, hk => by
    simp at h1 h2; subst h1; subst h2
    show bindC kindOf ((p, w) :: P.zip vs) m p = _
    unfold bindC
    rw [bindC_out fun v hv => (List.nodup_cons.mp nd).1 (List.of_mem_zip hv).1, if_neg hk]
    simp
  | p :: P, w :: vs, i + 1, m, nd, h1, h2, hk => by
    show bindC kindOf ((p, w) :: P.zip vs) m x = _
    unfold bindC
    exact bindC_get (i := i) (List.nodup_cons.mp nd).2 (by simpa using h1) (by simpa using h2) hk

noncomputable def start (N : List Str) (vs : List V) : St := vs.map some ++ List.replicate (N.length - vs.length) none

noncomputable def cxOf (CX : CXT) (P : Program) (w : World) (K : PySem.W.Frag) (mg : Str → Option Value) (base : Heap) (N : List Str) (qual : Str) (scope : Scope) (f : Addr) (cd : Value) (A : Around) (outer : List Env) (s : Shared) (H : Hp) (E : XK) : Cx where
  prog := P
  w := w
  K := K
  mg := mg
  base := base
  A := A.deeper (envOfC qual scope s.heap.objs.size f cd)
  N := N
  s₀ := s
  H₀ := H
  env := envOfC qual scope s.heap.objs.size f cd
  outer := outer
  stack := envOfC qual scope s.heap.objs.size f cd :: outer
  ex := []
  calm := true
  fn := fun _ => true
  pn := []
  xe := fun e s' => wpAny (model P w) (A.deeper (envOfC qual scope s.heap.objs.size f cd)) (leaving (envOfC qual scope s.heap.objs.size f cd) e) (fun _ s'' => CX outer H s E e s'') (fun e' s'' => CX outer H s E e' s'') s'

theorem cell_has {sc : Scope} {n : Nat} {x : Str} (h : sc.names.lookup x = some .cell) : ∃ c, (cellsFrom n sc.names []).lookup x = some c := by
  have q := PySem.W.cellsFrom_some sc.names n [] (.inl h)
  exact Option.isSome_iff_exists.mp q

theorem inv_start {CX : CXT} {P : Program} {w : World} {K : PySem.W.Frag} {mg : Str → Option Value} {base : Heap} {N ps : List Str} {qual : Str} {scope : Scope} {f : Addr} {cd : Value} {A : Around} {outer : List Env} {s s1 : Shared} {H : Hp} {E : XK} {us : List Value} {vs : List V}
    (S : FnScope N ps scope) (hd : A.handled = none) (e0 : Env0 P w K mg base A outer s H) (hl : vs.length = ps.length) (r : Vals vs us)
    (x : InCallC s s.heap.objs.size (bindL (envOfC qual scope s.heap.objs.size f cd).kindOf (ps.zip us) fun _ => none) (cellsFrom (s.heap.objs.size + 1) scope.names []) (bindC (envOfC qual scope s.heap.objs.size f cd).kindOf (ps.zip us) fun _ => none) s1) :
    Inv (cxOf CX P w K mg base N qual scope f cd A outer s H E) [] (start N vs) H s1 := by
  have hpl : ps.length ≤ N.length := by have := congrArg List.length S.pre; rw [List.length_take] at this; omega
  obtain ⟨h1, tk, rfl, hk⟩ := x.done
  have noA : ∀ b : Addr, b ∉ (cxOf CX P w K mg base N qual scope f cd A outer s H E).ex := fun b z => absurd (show b ∈ ([] : List Addr) from z) (by simp)
  refine ⟨⟨e0.mod, S.kind, rfl, rfl, Nat.le_refl _, fun y z c h1 h2 => ?_, fun y hy => ?_, fun y c _ h => ?_, fun _ => hd, Around.frames_deeper e0.frames, .inr ⟨rfl, rfl⟩, fun b z => absurd z (noA b), e0.bs, e0.bsz, fun b _ _ => noA b, fun b z => absurd z (noA b), e0.funs, e0.frf⟩,
    rfl, e0.bare, Un.kept hk, ⟨_, x.toInCall.ns, fun i y v h1 h2 h3 => ?_⟩, fun y c h => ⟨_, x.cell y c h⟩, e0.hok.fresh (Nat.le_refl _), fun y c h => ?_, fun p hp => absurd (show p ∈ ([] : List (Addr × Obj)) from hp) (by simp), e0.hok.kept hk, ?_⟩
  · exact name_of_addr x.apart (PySem.mem_of_lookup h1) (PySem.mem_of_lookup h2)
  · have hy : scope.names.lookup y = some .cell ∨ scope.names.lookup y = some .free := hy
    rcases hy with hy | hy
    · exact cell_has hy
    · exact absurd rfl (S.nofree _ (PySem.mem_of_lookup hy))
  · exact Nat.le_of_lt (x.above y c (PySem.mem_of_lookup h))
  · have hi : i < vs.length := by
      unfold start at h2
      by_cases hi : i < vs.length
      · exact hi
      · rw [List.getElem?_append_right (by simpa using hi)] at h2
        rw [List.getElem?_replicate] at h2
        split at h2 <;> cases h2
    have ha : vs[i]? = some v := by
      unfold start at h2
      rw [List.getElem?_append_left (by simpa using hi), List.getElem?_map] at h2
      cases e : vs[i]? with
      | none => rw [e] at h2; cases h2
      | some a => rw [e] at h2; cases h2; rfl
    obtain ⟨u, hu, rv⟩ := r.get ha
    have hp : ps[i]? = some y := by
      rw [← S.pre, List.getElem?_take_of_lt (by omega)]; exact h1
    have ndP : ps.Nodup := by rw [← S.pre]; exact S.nd.sublist (List.take_sublist _ _)
    refine ⟨u, rv, ?_⟩
    rcases S.par y (List.mem_of_getElem? hp) with k | k
    · exact .inl ⟨k, bindL_get ndP hp hu k⟩
    · obtain ⟨c, e⟩ := cell_has (n := s.heap.objs.size + 1) k
      refine .inr ⟨.inl k, c, e, ?_⟩
      have q := x.cell y c e
      rw [bindC_get ndP hp hu (by show scope.names.lookup y ≠ _; rw [k]; decide)] at q
      exact q
  · exact e0.hok.fresh (Nat.le_of_lt (x.above y c (PySem.mem_of_lookup h)))
  · unfold start
    show _ = N.length
    rw [List.length_append, List.length_map, List.length_replicate]
    omega

theorem fn_of {CX : CXT} {P : Program} {w : World} {K : PySem.W.Frag} {mg : Str → Option Value} {base : Heap} {k : Nat} {f : Addr} {name qual : Str} {params : Arguments} {body : List Stmt} {scope : Scope} {dV kV doc pm cdv ct oc : Value} {an od : Option Addr}
    {osl : Array (Option Value)} {N ps : List Str} {sp : Sp} (lk : K.lookup f = some ⟨oc, od, .func (PySem.W.fnOf name qual params body scope dV kV doc pm an cdv ct), osl⟩) (hcd : PySem.W.codeIn K cdv qual = true) (S : FnScope N ps scope)
    (len : ∀ vs H Q E, sp vs H Q E → vs.length = ps.length)
    (hbody : ∀ (A : Around) (outer : List Env) (s : Shared) (H : Hp) (vs : List V) (Q : VK) (E : XK), Room k (A.deeper (envOfC qual scope s.heap.objs.size f cdv)) → sp vs H Q E →
      ∃ t, PSs (cxOf CX P w K mg base N qual scope f cdv A outer s H E) body t ∧ t { nx := fun _ H' => Q .non H', rt := Q } (start N vs) H) :
    FnOk P w K mg base CX (k + 1) f (PySem.W.fnOf name qual params body scope dV kV doc pm an cdv ct) ps sp := by
  refine ⟨len, fun A outer s H args us vs Q E hr e0 hb r hsp => ?_⟩
  have hl := len _ _ _ _ hsp
  have KX : K.In s.heap := e0.mod.kin.keeps fun b o e => (e0.bs b o e).1
  have lim : s.heap.NoLimit := e0.mod.nolimit.keeps fun b o e => (e0.bs b o e).1
  have hkind : ∀ y ∈ ps.zip us, scope.names.lookup y.1 = some .local ∨ (scope.names.lookup y.1 = some .cell ∧ ((cellsFrom (s.heap.objs.size + 1) scope.names []).lookup y.1).isSome = true) := fun ⟨n, v⟩ hy => by
    rcases S.par n (List.of_mem_zip hy).1 with q | q
    · exact .inl q
    · exact .inr ⟨q, PySem.W.cellsFrom_some _ _ _ (.inl q)⟩
  refine codeAny_call_function hr.depth (KX _ _ lk) rfl S.co S.gen rfl (PySem.W.codeRec_of KX hcd) (hb _ _ _ _ ?_)
  refine wpAny_newFunctionEnv_cells S.kind hkind fun env he s1 x => ?_
  subst he
  refine ⟨lim.keeps x.toInCall.keep, codeAny_func ?_⟩
  obtain ⟨t, ht, hq⟩ := hbody A outer s H vs Q E (hr.deeper _) hsp
  have I : Inv (cxOf CX P w K mg base N qual scope f cdv A outer s H E) [] (start N vs) H s1 := inv_start S hr.hd e0 hl r x
  refine wpAny_mono (ht [] s1 (start N vs) H _ I hq) (fun fl s' hs => ?_) fun e s' hs => hs
  have fin : ∀ {σ' : St} {H' : Hp} {v : V} {u : Value}, Inv (cxOf CX P w K mg base N qual scope f cdv A outer s H E) [] σ' H' s' → RelV v u → Q v H' → CE outer P w H s Q u s' :=
    fun {σ' H' v u} J rv q => ⟨v, H', J.os, J.bare, J.base, J.hok, rv, q⟩
  cases fl with
  | ret u =>
    obtain ⟨v, σ', H', J, rv, q⟩ := hs
    exact fin J rv q
  | next =>
    obtain ⟨σ', H', J, q⟩ := hs
    exact fin (v := V.non) (u := Value.none) J rfl q
  | brk =>
    obtain ⟨_, _, _, q⟩ := hs
    exact False.elim q
  | cont =>
    obtain ⟨_, _, _, q⟩ := hs
    exact False.elim q
end L2

namespace L2
open PySem PySem.Spec PyProof.Rows
section
variable {X : Cx} {x : Str} {p pos : Pos} {e : Expr} {es : List Expr} {t : TA} {id T : String} {r : List V → Hp → VK → Prop}

noncomputable def tCB (r : List V → Hp → VK → Prop) (t : TA) : TE := fun σ H Q => t σ H fun vs H1 => r vs H1 Q
theorem pe_callB (hc : CallR X (.builtin id) r) (hg : Gl X x) (hm : X.mg x = none) (hv : bootBuiltins x = some (.builtin id)) (ha : PA X (e :: es) t) (hn : x ≠ "__name__" := by decide) (hdb : (x == ("__debug__" : Str)) = false := by decide)
    (he : starEach (e :: es) X.env = (false, eval e X.env) :: starEach es X.env := by rfl) (hpl : (backTo pos (starEach es X.env)).any (·.1) = false := by rfl) : PE X (.Call (.Name x p) (e :: es) [] pos) (tCB r t) := by
  intro pins s σ H Q I h
  refine wpAny_Call_Name_kw (ld_blt I hg hm hv ?_ hn hdb)
  exact PyProof.Rows.callWith_builtin1 (thn (ha pos pins s σ H _ I h) fun us s1 ⟨vs, H1, I1, r1, q1⟩ => hc pins s1 σ H1 vs us Q I1 r1 q1) he hpl
theorem pe_callTy (hc : CallR X (.type T) r) (hg : Gl X x) (hm : X.mg x = none) (hv : bootBuiltins x = some (.type T)) (ha : PA X (e :: es) t) (hn : x ≠ "__name__" := by decide) (hdb : (x == ("__debug__" : Str)) = false := by decide)
    (he : starEach (e :: es) X.env = (false, eval e X.env) :: starEach es X.env := by rfl) (hpl : (backTo pos (starEach es X.env)).any (·.1) = false := by rfl) : PE X (.Call (.Name x p) (e :: es) [] pos) (tCB r t) := by
  intro pins s σ H Q I h
  refine wpAny_Call_Name_kw (ld_blt I hg hm hv ?_ hn hdb)
  exact PyProof.Rows.callWith_type1 (thn (ha pos pins s σ H _ I h) fun us s1 ⟨vs, H1, I1, r1, q1⟩ => hc pins s1 σ H1 vs us Q I1 r1 q1) he hpl
end
end L2

namespace HT
open PySem PyProof.Rows

section
open PySem.SeqAt
open PySem.AutoSeq1 (wpAny_loadPart')
open PySem.MeetsSeq PySem.MeetsSeq2 PySem.MeetsSeq3

end

section
variable {prog : Program} {w : World} {A : Around} {E : Value → Shared → Prop} {s : Shared}

noncomputable def sIx (n d : Nat) : Option Int → Nat
  | none => d
  | some v => if v < 0 then (v + (n : Int)).toNat else min v.toNat n
theorem sIx_nat (n d k : Nat) : sIx n d (some (k : Int)) = min k n := by
  show (if (k : Int) < 0 then ((k : Int) + (n : Int)).toNat else min (k : Int).toNat n) = min k n
  rw [if_neg (by omega), Int.toNat_natCast]
end
end HT

namespace L2
open PySem PySem.Spec PyProof.Rows

abbrev TO := St → Hp → (Option Int → Hp → Prop) → Prop
noncomputable def PO (X : Cx) (e : Option Expr) (t : TO) : Prop :=
  ∀ (pins : List (Addr × Obj)) (s : Shared) (σ : St) (H : Hp) (Q : Option Int → Hp → Prop), Inv X pins σ H s → t σ H Q →
    wpAny (model X.prog X.w) X.A (evalPart e X.env) (fun u s' => ∃ o H', Inv X pins σ H' s' ∧ IsPart u o ∧ Q o H') X.xe s
noncomputable def tNoPart : TO := fun _ H Q => Q none H
noncomputable def tPart (t : TE) : TO := fun σ H Q => t σ H fun x H1 => ∃ i, x = .int i ∧ Q (some i) H1

section
variable {X : Cx} {e : Expr} {te : TE} {lo hi : Option Expr} {tl th : TO} {pos p2 : Pos}

theorem po_none : PO X none tNoPart := by
  intro pins s σ H Q I h
  rw [evalPart_none]
  exact wpAny_pure ⟨none, H, I, .none, h⟩
theorem po_some (h : PE X e te) : PO X (some e) (tPart te) := by
  intro pins s σ H Q I hw
  rw [evalPart_some]
  refine thn (h pins s σ H _ I hw) fun u s1 ⟨x, H1, I1, r1, q1⟩ => ?_
  obtain ⟨i, rfl, q⟩ := q1
  obtain ⟨t, rfl⟩ := r1
  exact ⟨some i, H1, I1, .int i t, q⟩

noncomputable def SlR (X : Cx) (r : V → Option Int → Option Int → Hp → VK → Prop) : Prop :=
  ∀ (pins : List (Addr × Obj)) (s : Shared) (σ : St) (H : Hp) (x : V) (v vl vu : Value) (lo hi : Option Int) (sl : Addr) (Q : VK), Inv X pins σ H s → RelV x v → s.heap.IsSliceOf sl vl vu .none → IsPart vl lo → IsPart vu hi → r x lo hi H Q →
    ∃ T id, typeLookup (.type T) "__getitem__" = pure (some (.builtin id)) ∧ s.TypeIs v T ∧ wpAny (model X.prog X.w) X.A (getItem v (.ref sl)) (EP X pins σ Q) X.xe s
noncomputable def tSl (r : V → Option Int → Option Int → Hp → VK → Prop) (te : TE) (tl th : TO) : TE := fun σ H Q => te σ H fun x H1 => tl σ H1 fun l H2 => th σ H2 fun u H3 => r x l u H3 Q
theorem pe_slice {r : V → Option Int → Option Int → Hp → VK → Prop} (hr : SlR X r) (he : PE X e te) (hl : PO X lo tl) (hu : PO X hi th) : PE X (.Subscript e (.Slice lo hi none p2) pos) (tSl r te tl th) := by
  intro pins s σ H Q I h
  refine Subscript_ (thn (he pins s σ H _ I h) fun v s1 ⟨x, H1, I1, r1, q1⟩ => ?_)
  refine wpAny_Slice (thn (hl pins s1 σ H1 _ I1 q1) fun vl s2 ⟨l, H2, I2, pl, q2⟩ => thn (hu pins s2 σ H2 _ I2 q2) fun vu s3 ⟨u, H3, I3, pu, q3⟩ => ?_)
  rw [evalPart_none]
  refine wpAny_pure ?_
  have I4 : Inv X pins σ H3 { s3 with heap := s3.heap.push { cls := .type "slice", data := .fields #[vl, vu, .none] } } := I3.kept (t' := s3.toks) fun b ob q => Heap.get?_push_of_some _ q
  obtain ⟨T, id, hT, ht, hg⟩ := hr pins { s3 with heap := s3.heap.push { cls := .type "slice", data := .fields #[vl, vu, .none] } } σ H3 x v vl vu l u s3.heap.objs.size Q I4 r1 (Heap.IsSliceOf.new ..) pl pu q3
  show wpAny (model X.prog X.w) X.A (subscriptTail e (.Slice lo hi none p2) v (.ref s3.heap.objs.size)) (EP X pins σ Q) X.xe { s3 with heap := s3.heap.push { cls := .type "slice", data := .fields #[vl, vu, .none] } }
  exact tail_any (ops := [.ref s3.heap.objs.size, v]) ht hT hg (by with_unfolding_all rfl)

noncomputable def cutV (xs : List V) (lo hi : Option Int) : List V := (xs.drop (HT.sIx xs.length 0 lo)).take (HT.sIx xs.length xs.length hi - HT.sIx xs.length 0 lo)
theorem cutV_length (xs : List V) (lo hi : Option Int) : (cutV xs lo hi).length ≤ xs.length := by
  unfold cutV
  rw [List.length_take, List.length_drop]
  omega
end
end L2

namespace L2
open PySem PySem.Spec PyProof.Rows

noncomputable def ixN (n : Nat) (i : Int) : Option Nat := if 0 ≤ i then (if i < n then some i.toNat else none) else if -(n : Int) ≤ i then some (i + n).toNat else none
noncomputable def atI {α : Type} (xs : List α) (i : Int) : Option α := (ixN xs.length i).bind fun j => xs[j]?
theorem ixN_seq {n : Nat} {i : Int} {j : Nat} (h : ixN n i = some j) : seqIndex? i n = some j ∧ j < n ∧ -(n : Int) ≤ i ∧ i < n := by
  unfold ixN at h
  by_cases h0 : 0 ≤ i
  · rw [if_pos h0] at h
    by_cases h1 : i < n
    · rw [if_pos h1] at h
      have e : i.toNat = j := Option.some.inj h
      exact ⟨by rw [seqIndex_of h0 h1, e], by omega, by omega, h1⟩
    · rw [if_neg h1] at h; cases h
  · rw [if_neg h0] at h
    by_cases h1 : -(n : Int) ≤ i
    · rw [if_pos h1] at h
      have e : (i + n).toNat = j := Option.some.inj h
      exact ⟨by rw [seqIndex_neg (by omega) h1, e], by omega, h1, by omega⟩
    · rw [if_neg h1] at h; cases h
theorem atI_get {α : Type} {xs : List α} {i : Int} {v : α} (h : atI xs i = some v) : ∃ j, seqIndex? i xs.length = some j ∧ xs[j]? = some v ∧ j < xs.length ∧ -(xs.length : Int) ≤ i ∧ i < xs.length := by
  unfold atI at h
  cases e : ixN xs.length i with
  | none => rw [e] at h; cases h
  | some j =>
    rw [e] at h
    obtain ⟨h1, h2, h3, h4⟩ := ixN_seq e
    exact ⟨j, h1, h, h2, h3, h4⟩
theorem atI_nat {α : Type} {xs : List α} {j : Nat} {v : α} (h : xs[j]? = some v) : atI xs (j : Int) = some v := by
  have hj : j < xs.length := (List.getElem?_eq_some_iff.mp h).1
  have e : ixN xs.length (j : Int) = some j := by
    unfold ixN
    rw [if_pos (by omega), if_pos (by omega)]; simp
  unfold atI; rw [e]; exact h
noncomputable def PlainIx (b : Expr) : Prop := ∀ o i, subscripted b false o i = operate [o, i] (getItem o i)
noncomputable def IxR (X : Cx) (r : R2) : Prop :=
  ∀ (value slice : Expr) (pins : List (Addr × Obj)) (s : Shared) (σ : St) (H : Hp) (x y : V) (v u : Value) (Q : VK), Inv X pins σ H s → RelV x v → RelV y u → r x y H Q →
    subscripted slice false v u = operate [v, u] (getItem v u) → wpAny (model X.prog X.w) X.A (subscriptTail value slice v u) (EP X pins σ Q) X.xe s
section
variable {X : Cx} {a b : Expr} {ta tb : TE} {pos : Pos}
theorem pe_ix {r : R2} (hr : IxR X r) (ha : PE X a ta) (hb : PE X b tb) (hs : PlainIx b) : PE X (.Subscript a b pos) (tOp r ta tb) := by
  intro pins s σ H Q I h
  exact Subscript_ (binT ha hb I h fun v u s2 x y H2 I2 rx ry q => hr a b pins s2 σ H2 x y v u Q I2 rx ry q (hs _ _))

noncomputable def rIxL (K : PySem.W.Frag) : R2 := fun x y H Q => ∃ p xs i v, x = .ref p ∧ y = .int i ∧ SqL K H p xs ∧ atI xs i = some v ∧ Q v H
noncomputable def rIxT (K : PySem.W.Frag) : R2 := fun x y H Q => ∃ p xs i v, x = .ref p ∧ y = .int i ∧ SqT K H p xs ∧ atI xs i = some v ∧ Q v H
theorem ix_list : IxR X (rIxL X.K) := by
  intro value slice pins s σ H x y v u Q I rx ry h hs
  obtain ⟨p, xs, i, z, rfl, rfl, hq, he, q⟩ := h
  cases rx
  obtain ⟨t, rfl⟩ := ry
  obtain ⟨its, r, pl, hz⟩ := I.list hq
  obtain ⟨j, h1, h2, h3, h4, h5⟩ := atI_get he
  obtain ⟨w, ew, rw'⟩ := r.get h2
  have hl := r.length
  have hn := line63
  have fin : EP X pins σ Q w s := ⟨z, H, I, rw', q⟩
  by_cases h0 : 0 ≤ i
  · have hj : i.toNat = j := by
      rw [seqIndex_of h0 h5] at h1
      exact Option.some.inj h1
    exact item_listR pl.isList h0 (by omega) (by rw [hj]; simpa using ew) fin hs
  · have hj : (i + (its.toArray.size : Int)).toNat = j := by
      rw [seqIndex_neg (by omega) h4] at h1
      rw [List.size_toArray, ← hl]
      exact Option.some.inj h1
    exact subscriptTail_builtinR (x := w) pl.isList.typeIs slot_list_getitem.lookup
      (wpAny_getItem_list_neg (Q := fun r s' => r = w ∧ EP X pins σ Q r s') pl.isList (by omega) (by rw [List.size_toArray] <;> omega) (by omega) (by rw [hj]; simpa using ew) ⟨rfl, fin⟩) hs
theorem ix_tup : IxR X (rIxT X.K) := by
  intro value slice pins s σ H x y v u Q I rx ry h hs
  obtain ⟨p, xs, i, z, rfl, rfl, hq, he, q⟩ := h
  cases rx
  obtain ⟨t, rfl⟩ := ry
  obtain ⟨its, r, pl, hz⟩ := I.tuple hq
  obtain ⟨j, h1, h2, h3, h4, h5⟩ := atI_get he
  obtain ⟨w, ew, rw'⟩ := r.get h2
  have hl := r.length
  have hn := line63
  have fin : EP X pins σ Q w s := ⟨z, H, I, rw', q⟩
  exact subscriptTail_builtinR (x := w) pl.typeIs slot_tuple_getitem.lookup
    (getItem_tuple (j := j) (Q := fun r s' => r = w ∧ EP X pins σ Q r s') pl (by omega) (by omega) (by rw [List.size_toArray, ← hl]; exact h1) (by simpa using ew) ⟨rfl, fin⟩) hs
theorem Inv.lst {pins : List (Addr × Obj)} {σ : St} {H : Hp} {s : Shared} {p : Addr} {xs : List V} (I : Inv X pins σ H s) (h : H p = some (.lst xs)) :
    ∃ (its : List Value) (n : Nat), Vals xs its ∧ s.heap.get? p = some { cls := .type "list", data := .seq its.toArray n } ∧ xs.length ≤ sizeLine := by
  obtain ⟨z, its, n, r, e⟩ := I.hok p _ h
  exact ⟨its, n, r, e, z⟩
theorem slice_bounds (lo hi : Option Int) (n : Nat) : (sliceBounds lo hi none n).1 = ((HT.sIx n 0 lo : Nat) : Int) ∧ (sliceBounds lo hi none n).2.1 = ((HT.sIx n n hi : Nat) : Int) ∧ (sliceBounds lo hi none n).2.2 = 1 := by
  refine ⟨?_, ?_, rfl⟩
  · cases lo with
    | none => simp [sliceBounds, HT.sIx]
    | some i =>
      simp only [sliceBounds, HT.sIx, Option.getD_none, show (1 : Int) > 0 by decide, if_true]
      by_cases h : i < 0
      · simp only [h, if_true] <;> omega
      · simp only [h, if_false] <;> omega
  · cases hi with
    | none => simp [sliceBounds, HT.sIx]
    | some i =>
      simp only [sliceBounds, HT.sIx, Option.getD_none, show (1 : Int) > 0 by decide, if_true]
      by_cases h : i < 0
      · simp only [h, if_true] <;> omega
      · simp only [h, if_false] <;> omega
theorem slicePick_cut (its : List Value) (lo hi : Option Int) : slicePick its.toArray lo hi none = ((its.drop (HT.sIx its.length 0 lo)).take (HT.sIx its.length its.length hi - HT.sIx its.length 0 lo)).toArray := by
  obtain ⟨h1, h2, h3⟩ := slice_bounds lo hi its.toArray.size
  unfold slicePick
  rw [h1, h2, h3]
  simp only [sliceRange_one, pick_run, List.size_toArray] <;> rfl
noncomputable def rSlL (K : PySem.W.Frag) : V → Option Int → Option Int → Hp → VK → Prop := fun x lo hi H Q => ∃ a xs, x = .ref a ∧ SqL K H a xs ∧ ∀ p, H p = none → Q (.ref p) (upd H p (.lst (cutV xs lo hi)))
theorem sl_list : SlR X (rSlL X.K) := by
  intro pins s σ H x v vl vu lo hi sl Q I rx hs pl pu h
  obtain ⟨a, xs, rfl, hx, q⟩ := h
  cases rx
  obtain ⟨its, r, ht, hz⟩ := I.list hx
  have hlen := r.length
  refine ⟨"list", _, slot_list_getitem.lookup, ht.isList.typeIs, ?_⟩
  refine wpAny_getItem_list_slice ht.isList hs pl pu .none (by simp) ?_ (by rw [List.size_toArray] <;> omega)
  rw [slicePick_cut, ← hlen]
  refine ⟨.ref s.heap.objs.size, _, I.laid (t' := s.toks) (o := .lst (cutV xs lo hi)) (fun b ob q => Heap.get?_push_of_some _ q) (Nat.le_refl _) ?_, rfl, q _ (I.hok.fresh (Nat.le_refl _))⟩
  exact ⟨Nat.le_trans (cutV_length xs lo hi) hz, _, 0, (r.drop (HT.sIx xs.length 0 lo)).take (HT.sIx xs.length xs.length hi - HT.sIx xs.length 0 lo), Heap.get?_push_size _ rfl⟩

theorem call_len_seq : CallR X (.builtin "len") (fun xs H Q => ∃ p ys, xs = [.ref p] ∧ (SqL X.K H p ys ∨ SqT X.K H p ys) ∧ Q (.int ys.length) H) := by
  intro pins s σ H xs us Q I r h
  obtain ⟨p, ys, rfl, hq, q⟩ := h
  obtain ⟨u, rfl, rx⟩ := vals1 r
  cases rx
  have hn := line63
  rcases hq with hq | hq
  · obtain ⟨its, r', pl, hz⟩ := I.list hq
    have hlen := r'.length
    exact Calls.call_len_list pl.isList (by simp only [List.size_toArray] <;> omega) ⟨.int ys.length, H, I.tok _, ⟨s.toks + 1, by rw [List.size_toArray, hlen]⟩, q⟩
  · obtain ⟨its, r', pl, hz⟩ := I.tuple hq
    have hlen := r'.length
    exact len_tuple pl (by simp only [List.size_toArray] <;> omega) ⟨.int ys.length, H, I.tok _, ⟨s.toks + 1, by rw [List.size_toArray, hlen]⟩, q⟩
noncomputable def tyV (K : PySem.W.Frag) (T : String) (x : V) (H : Hp) : Prop := match x with
  | .str _ => T = "str"
  | .int _ => T = "int"
  | .ref p => (T = "list" ∧ ∃ xs, SqL K H p xs) ∨ (T = "tuple" ∧ ∃ o, K.lookup p = some o ∧ o.cls = .type "tuple" ∧ o.dict = none) ∨
      (T = "dict" ∧ ((∃ kvs, H p = some (.dK kvs)) ∨ ∃ kvs, H p = some (.dT kvs))) ∨ (T = "set" ∧ ∃ S n, H p = some (.set S n))
  | _ => False
noncomputable def tBM (K : PySem.W.Frag) (T : String) (r : V → List V → Hp → VK → Prop) (to : TE) (t : TA) : TE := fun σ H Q => to σ H fun x H1 => tyV K T x H1 ∧ t σ H1 fun xs H2 => r x xs H2 Q
variable {o e : Expr} {es : List Expr} {to : TE} {t : TA} {name : Str} {apos cpos : Pos} {T id : String} {r : V → List V → Hp → VK → Prop}
/- xs.append(e), list.index on a module's tuple .. are MtR facts of 06m -/
end
end L2

namespace L2
open PySem PySem.Spec PyProof.Rows

theorem Vals.one : ∀ {x : V} {us : List Value}, Vals [x] us → ∃ u, us = [u] ∧ RelV x u
  | _, _, .cons r .nil => ⟨_, rfl, r⟩
theorem Vals.two : ∀ {x y : V} {us : List Value}, Vals [x, y] us → ∃ u v, us = [u, v] ∧ RelV x u ∧ RelV y v
  | _, _, _, .cons r (.cons q .nil) => ⟨_, _, rfl, r, q⟩
theorem Vals.zero : ∀ {us : List Value}, Vals [] us → us = []
  | _, .nil => rfl
theorem Vals.reverse {xs : List V} {us : List Value} (h : Vals xs us) : Vals xs.reverse us.reverse := by
  induction h with
  | nil => exact .nil
  | cons r t ih => rw [List.reverse_cons, List.reverse_cons]; exact Vals.append ih (.cons r .nil)
section
variable {X : Cx} {pins : List (Addr × Obj)} {σ : St} {H : Hp} {s : Shared} {l b : Addr} {xs ys zs : List V}

theorem Inv.lnew {its : List Value} {t' : Nat} (I : Inv X pins σ H s) (hv : Vals ys its) (hz : ys.length ≤ sizeLine) :
    Inv X pins σ (upd H s.heap.objs.size (.lst ys)) { s with heap := s.heap.push { cls := .type "list", data := .seq its.toArray }, toks := t' } :=
  I.laid (fun _ _ q => Heap.get?_push_of_some _ q) (Nat.le_refl _) ⟨hz, its, 0, hv, Heap.get?_push_size _ rfl⟩
theorem Inv.fresh (I : Inv X pins σ H s) : H s.heap.objs.size = none := I.hok.fresh (Nat.le_refl _)
theorem Inv.lstM (I : Inv X pins σ H s) (hH : H l = some (.lst xs)) : xs.length ≤ sizeLine ∧ ∃ (its : List Value) (n : Nat), Vals xs its ∧ xs.length = its.length ∧ s.heap.get? l = some { cls := .type "list", data := .seq its.toArray n } := by
  obtain ⟨z, its, n, r, e⟩ := I.hok l _ hH
  exact ⟨z, its, n, r, r.length, e⟩

end

section
variable {X : Cx}

noncomputable def rCat : R2 := fun x y H Q => ∃ l b xs zs, x = .ref l ∧ y = .ref b ∧ H l = some (.lst xs) ∧ H b = some (.lst zs) ∧ xs.length + zs.length ≤ sizeLine ∧ ∀ p, H p = none → Q (.ref p) (upd H p (.lst (xs ++ zs)))
theorem op_cat : OpR X (binaryOp .Add) rCat := by
  intro pins s σ H x y v u Q I rx ry h
  obtain ⟨l, b, xs, zs, rfl, rfl, hH, hB, hz, q⟩ := h
  cases rx
  cases ry
  obtain ⟨z, its, n, r, hl, e⟩ := I.lstM hH
  obtain ⟨z2, its2, n2, r2, hl2, e2⟩ := I.lstM hB
  refine PySem.P.add_list e e2 ?_ (by rw [List.size_toArray, List.size_toArray]; omega)
  have ea : its.toArray ++ its2.toArray = (its ++ its2).toArray := by simp
  rw [ea]
  exact ⟨.ref _, _, I.lnew (t' := s.toks) (r.append r2) (by rw [List.length_append]; omega), rfl, q _ I.fresh⟩
end

section
variable {prog : Program} {w : World} {A : Around} {E : Value → Shared → Prop} {s : Shared}
set_option maxRecDepth 100000 in
end

section
variable {X : Cx}
end
end L2

namespace Att
open PySem PySem.W PySem.Calls PyProof.Rows

theorem ints_of_wellAll {P : Params} {h : Heap} : ∀ (ns : List Int) (vs : List Value), WellAll P h vs (ns.map WData.int) → IntsAre vs ns := by
  intro ns
  induction ns with
  | nil =>
    intro vs w
    rw [List.map_nil] at w
    cases w
    exact .nil
  | cons n ns ih =>
    intro vs w
    rw [List.map_cons] at w
    cases w with
    | cons a b =>
      cases a
      exact .cons _ _ (ih _ b)

theorem script_of {l : OpenLaw} {n : Nat} (hn : l.most = some n) {P : Params} {h : Heap} {args : List WData} {vals : List Value}
    (hpre : l.row.toRowW.claim.pre args = true) (hwl : WellAll P h vals args) :
    ∃ a vs ns, vals = [Value.ref a] ∧ args = [WData.list (ns.map WData.int)] ∧ h.get? a = some { cls := .type "list", data := .seq vs.toArray } ∧ IntsAre vs ns ∧ ns.length ≤ n := by
  have hsh : WShape.hasAll [] args [.list .int] = true := (pre_splitW hpre).1
  have hc : l.pre.holds [] { args := args } = true := (pre_splitW hpre).2
  obtain ⟨d, r, rfl, h1, h2⟩ := hasAllW_cons hsh
  obtain rfl := hasAllW_nil h2
  obtain ⟨xs, rfl, h3⟩ := hasW_list h1
  obtain ⟨ns, rfl⟩ := items_int h3
  have hlen : ns.length ≤ n := by
    unfold OpenLaw.pre at hc
    have h4 : (WTm.not (.lt (.lit (.int (n : Int))) (.len (.arg 0)))).holds [] { args := [.list (ns.map .int)] } = true := by
      have h4 := (holds_andW hc).1
      rw [hn] at h4
      exact h4
    have h5 := condW_of h4 (w_not (w_lt w_lit (w_len_list (w_arg rfl))))
    rw [List.length_map] at h5
    refine Nat.le_of_not_lt fun q => ?_
    have q' : (n : Int) < ((ns.length : Nat) : Int) := by omega
    first
      | (rw [decide_eq_true q'] at h5; exact absurd h5 (by decide))
      | (simp at h5; omega)
  cases hwl with
  | cons w1 w2 =>
    cases w2
    cases w1 with
    | list ho hall => exact ⟨_, _, ns, rfl, rfl, ho, ints_of_wellAll ns _ hall, hlen⟩

theorem post_true (l : OpenLaw) (args : List WData) : l.row.toRowW.claim.post args (.bool true) args = true :=
  postW_of (r := l.row.toRowW) (X := (true == true))
    (show WShape.has [] (.bool true) .bool = true by first | rfl | decide | simp [WShape.has, WShape.arms, WShape.armsAll])
    (show (WTm.eq .res (.lit (.bool true))).value [] { args := args, res := some (.bool true), after := args } = some (.bool (true == true)) from w_eq_bool (w_res rfl) w_lit) rfl

theorem attach_call {l : OpenLaw} {n : Nat} {q : Program} {loose : List Str} {XP : (Str → Option Value) → Heap → Prop} {YP : World → Heap → Prop} {d : DefRec}
    (hn : l.most = some n) (hdf : d.params.defaults = [])
    (call : ∀ (w : World) (s₀ s₁ : Shared) (mg mb : Str → Option Value) (fa : Addr) (o : Obj) (pm cd doc : Value) (a : Addr) (vs : List Value) (ns : List Int),
      Ground q loose [] XP w s₀ mg mb s₁.heap → YP w s₁.heap →
      s₁.heap.get? fa = some o → o.data = .func (docDef d.name d.params d.body d.scope pm cd doc) → s₁.heap.CodeRec cd d.name → mg d.name = some (.ref fa) →
      s₁.heap.get? a = some { cls := .type "list", data := .seq vs.toArray } → IntsAre vs ns → ns.length ≤ n → s₁.gens = #[] →
      codeAny (model l.prog w) callerA (.call (.ref fa) ⟨[.ref a], []⟩) (fun r s' => r = .ok (.ret (.bool true)) ∧ OldK s₁.heap s'.heap ∧ s'.os = s₁.os ∧ AllBare s'.gens) s₁) :
    WalkO q loose XP YP l.row.toRowW d [] (fun f vs => PySem.call f vs) := by
  intro w s₀ s₁ mg mb G Y fa o pm cd doc dV kV ho hd hcd hD hmg hg args vals as hpre hlay hrd hwl hlo
  obtain rfl : dV = .none := Dflts.none hD hdf
  obtain rfl : kV = .none := Dflts.noKw hD
  obtain ⟨a, vs, ns, rfl, rfl, hobj, hints, hlen⟩ := script_of hn hpre hwl
  refine enter_call (codeAny_mono (call w s₀ s₁ mg mb fa o pm cd doc a vs ns G Y ho (fd_plain hd) hcd hmg hobj hints hlen hg) fun r s' hq => ?_)
  obtain ⟨rfl, h2, h3, h4⟩ := hq
  exact ⟨.inl ⟨.bool true, .bool true, [], rfl, fun _ => rfl, .bool true, post_true l _, fun _ => ⟨List.Pairwise.nil, fun _ hm => (nomatch hm)⟩⟩, h2, h3, h4⟩

section
variable {prog : Program} {w : World} {A : Around} {E : Value → Shared → Prop} {s : Shared} {K : Frag}

end
end Att

namespace L2
open PySem PySem.Spec PyProof.Rows

theorem vals_ints : ∀ {vs : List Value} {ns : List Int}, IntsAre vs ns → Vals (ns.map V.int) vs
  | _, _, .nil => .nil
  | _, _, .cons n t h => .cons ⟨t, rfl⟩ (vals_ints h)

noncomputable def Only (H : Hp) : Prop := ∀ b, H b = none ∨ ∃ o xs, H b = some (.frz o (.lst xs))

theorem law_call {P : Program} {w : World} {K : PySem.W.Frag} {mg mb : Str → Option Value} {CX : CXT} {k : Nat} {fa a : Addr} {fd : FuncData} {x : Str} {sp : Sp} {s₁ : Shared} {vs : List Value} {ns : List Int}
    (KX : K.In s₁.heap) (hns : s₁.heap.Ns mainGlobals mg) (hb : s₁.heap.Ns builtinsNs mb) (hbb : ∀ x : Str, x ≠ "__name__" → mb x = bootBuiltins x) (hlim : s₁.heap.NoLimit) (hg : s₁.gens = #[])
    (ha : s₁.heap.get? a = some { cls := .type "list", data := .seq vs.toArray }) (hi : IntsAre vs ns) (hl : ns.length ≤ sizeLine) (hr : Room k callerA)
    (F : ∀ base : Heap, K.In base → base.Ns mainGlobals mg → FnOk P w K mg base CX k fa fd [x] sp) (hbind : ∀ (s : Shared) (u : Value), BindsTo s fd ⟨[u], []⟩ [(x, u)])
    (hsp : ∀ H : Hp, Only H → SqL K H a (ns.map V.int) → sp [.ref a] H (fun v _ => v = .bl true) fun _ _ _ => False)
    (hCX : ∀ H e s', CX [] H s₁ (fun _ _ _ => False) e s' → False) :
    codeAny (model P w) callerA (.call (.ref fa) ⟨[.ref a], []⟩) (fun r s' => r = .ok (.ret (.bool true)) ∧ OldK s₁.heap s'.heap ∧ s'.os = s₁.os ∧ AllBare s'.gens) s₁ := by
  have rv := vals_ints hi
  have lenV := hi.length
  -- from an abstract heap in which nothing but the script may be tracked
  have core : ∀ H : Hp, Only H → SqL K H a (ns.map V.int) → HOk P w H s₁.heap → (∀ b, H b ≠ none → b = a) → (H a ≠ none → K.lookup a = none) →
      codeAny (model P w) callerA (.call (.ref fa) ⟨[.ref a], []⟩) (fun r s' => r = .ok (.ret (.bool true)) ∧ OldK s₁.heap s'.heap ∧ s'.os = s₁.os ∧ AllBare s'.gens) s₁ := by
    intro H hO hS hok hA hK
    have base_of : ∀ {b : Addr} {o : Obj}, s₁.heap.get? b = some o → H b = none → (hidT s₁.heap H).get? b = some o := fun e n => hidT_get e n
    have noA : ∀ {b : Addr} {o : Obj} {es : Array DictEntry} {ep : Nat}, s₁.heap.get? b = some o → o.data = .dict es ep → H b = none := fun {b o es ep} e d => by
      cases q : H b with
      | none => rfl
      | some u =>
        have e' : b = a := hA b (by rw [q]; simp)
        subst e'
        rw [ha] at e; cases e
        have d' : Data.seq vs.toArray _ = Data.dict es ep := d
        cases d'
    have nsK : ∀ {b : Addr} {m : Str → Option Value}, s₁.heap.Ns b m → (hidT s₁.heap H).Ns b m := fun {b m} ⟨o, es, ep, e, d, r⟩ => ⟨o, es, ep, base_of e (noA e d), d, r⟩
    have hKb : K.In (hidT s₁.heap H) := fun b o e => base_of (KX b o e) (by
      cases q : H b with
      | none => rfl
      | some u =>
        have e' : b = a := hA b (by rw [q]; simp)
        subst e'
        rw [hK (by rw [q]; simp)] at e; cases e)
    have hM : Mod K mg (hidT s₁.heap H) := ⟨hKb, nsK hns, ⟨mb, nsK hb, hbb⟩, let ⟨mc, h1, h2⟩ := hlim; ⟨mc, nsK h1, h2⟩⟩
    have e0 : Env0 P w K mg (hidT s₁.heap H) callerA [] s₁ H := ⟨rfl, hM, fun b o e => of_hidT e, Nat.le_of_eq (hidT_size _ _), trivial, fun b hb => absurd (show b ∈ ([] : List Addr) from hb) (by simp), hok, .of_eq hg⟩
    refine codeAny_mono ((F _ hKb (nsK hns)).run callerA [] s₁ H ⟨[.ref a], []⟩ [.ref a] [.ref a] _ _ hr e0 (hbind s₁ (.ref a)) (.cons rfl .nil) (hsp H hO hS)) fun r s' h => ?_
    cases r with
    | error e => exact (hCX H e s' h).elim
    | ok fl =>
      cases fl with
      | next => exact False.elim h
      | brk => exact False.elim h
      | cont => exact False.elim h
      | ret u =>
        obtain ⟨v, H', os, bare, un, hok', r', q⟩ := h
        have q' : v = .bl true := q
        subst q'
        obtain rfl : u = Value.bool true := r'
        refine ⟨rfl, OldK.of_keep fun b o e => ?_, os, bare⟩
        cases q : H b with
        | none => exact un.keep b o e q (by intro z; exact absurd (show b ∈ ([] : List Addr) from z) (by simp)) (by simp)
        | some u =>
          rcases hO b with z | ⟨ob, xs, z⟩
          · rw [q] at z; cases z
          · have z2 := un.frzs b ob _ z
            obtain ⟨e1, _⟩ := hok b _ z
            obtain ⟨e2, _⟩ := hok' b _ z2
            rw [e] at e1; cases e1
            exact e2
  cases hk : K.lookup a with
  | some o =>
    -- the script is one of the module's own objects
    have e := KX a o hk
    rw [ha] at e
    cases e
    refine core (fun _ => none) (fun _ => .inl rfl) (.inr ⟨_, vs.toArray, _, hk, rfl, rfl, rfl, by rw [List.size_toArray, lenV]; exact hl, by simpa using rv⟩) (fun b u z => by have z' : (none : Option HO) = some u := z; cases z') (fun b z => absurd rfl z) fun z => absurd rfl z
  | none =>
    refine core (fun b => if b = a then some (.frz { cls := .type "list", data := .seq vs.toArray } (.lst (ns.map V.int))) else none) (fun b => ?_) (.inl (.inr ⟨{ cls := .type "list", data := .seq vs.toArray }, if_pos rfl⟩)) (fun b u z => ?_) (fun b z => ?_) fun _ => hk
    · by_cases hb : b = a
      · exact .inr ⟨_, _, if_pos hb⟩
      · exact .inl (if_neg hb)
    · by_cases hb : b = a
      · have z' := (if_pos hb).symm.trans z
        cases z'
        subst hb
        exact ⟨ha, by rw [List.length_map]; exact hl, vs, _, rv, ha⟩
      · have z' := (if_neg hb).symm.trans z
        cases z'
    · by_cases hb : b = a
      · exact hb
      · exact absurd (if_neg hb) z
end L2

namespace L2
open PySem PySem.Spec PyProof.Rows

abbrev KOf {K : PySem.W.Frag} {h : Heap} (_ : K.In h) : PySem.W.Frag := K

theorem walk_of {l : PySem.W.OpenLaw} {n k : Nat} {q : Program} {loose : List Str} {XP : (Str → Option Value) → Heap → Prop} {YP : World → Heap → Prop} {d : DefRec} {K : Params → PySem.W.Frag} {CX : World → CXT} {sp : World → Sp} {x : Str}
    (hn : l.most = some n) (hn2 : n ≤ sizeLine) (hdf : d.params.defaults = []) (hr : Room k callerA)
    (hY : ∀ (w : World) (h : Heap), YP w h → (K w.params).In h)
    (F : ∀ (w : World) (mg : Str → Option Value) (fa : Addr) (h : Heap), (K w.params).In h → h.Ns mainGlobals mg → mg d.name = some (.ref fa) →
      ∃ fd : FuncData, (∀ (s : Shared) (u : Value), BindsTo s fd ⟨[u], []⟩ [(x, u)]) ∧
        ∀ base : Heap, (K w.params).In base → base.Ns mainGlobals mg → FnOk l.prog w (K w.params) mg base (CX w) k fa fd [x] (sp w))
    (hsp : ∀ (w : World) (H : Hp) (a : Addr) (ns : List Int), ns.length ≤ n → Only H → SqL (K w.params) H a (ns.map V.int) → sp w [.ref a] H (fun v _ => v = .bl true) fun _ _ _ => False)
    (hCX : ∀ (w : World) (H : Hp) (s : Shared) (e : Value) (s' : Shared), CX w [] H s (fun _ _ _ => False) e s' → False) :
    PySem.W.WalkO q loose XP YP l.row.toRowW d [] (fun f vs => PySem.call f vs) := by
  refine Att.attach_call hn hdf fun w s₀ s₁ mg mb fa o pm cd doc a vs ns G Y ho hd hcd hmg hobj hints hlen hg => ?_
  have KX := hY w _ Y
  obtain ⟨fd, hb, hF⟩ := F w mg fa _ KX G.T.g hmg
  exact law_call KX G.T.g G.T.b G.T.builtins G.T.nolimit hg hobj hints (Nat.le_trans hlen hn2) hr hF hb (fun H hO hS => hsp w H a ns hlen hO hS) fun H e s' => hCX w H s₁ e s'
end L2

/- THE LAST THEOREM (shape; LID, My.* are yours):
   My.Adr: a structure of the addresses that your layer names (classes, functions); My.Txt K t: a structure (Prop) of the equations over K;
   My.txt_mk : {K} {implicit addresses ..} (e1 : nsIn K mainGlobals "law" = some (some (.ref f))) (e2 : K.lookup f = some ⟨oc, od, .func (fnOf "law" "law" params body scope dV kV doc pm an cdv ct), sl⟩) (e3 : codeIn K cdv "law" = true) .. : ∃ t, My.Txt K t

set_option maxRecDepth 100000 in
set_option maxHeartbeats 0 in
theorem PySem.Challenge.cw_LID_holds : PySem.Challenge.rw_LID.Holds := by
  w_on; o_law; k_head; (case hw => w_witness2)
  k_fill
  refine L2.walk_of (l := PySem.Challenge.rw_LID) (n := 63) (k := 40) (x := "script") (CX := fun w => ..) (sp := fun _ => My.sp_law) rfl (by decide) rfl ⟨rfl, by decide, by decide⟩ (fun w h Y => PySem.W.kIn_of Y) ?F ?S ?C
  case F =>
    intro w mg fa h KX G hmg
    have T : ∃ t, My.Txt (L2.KOf KX) t := by
      dsimp only [L2.KOf]                          -- K must stand as «<heap const> w.params» for k_is
      refine' My.txt_mk ?e1 ?e2 ?e3 ..
      (case e1 => PySem.W.k_is)                    -- in the order: a name -> its address -> its object -> its parts
      (case e2 => PySem.W.k_is)
      ..
    obtain ⟨t, T⟩ := T
    have e0 := hmg.symm.trans (PySem.W.mg_of KX G T.law)
    cases e0                                       -- fa is the law's own address
    exact ⟨_, fun s u => .of_eq rfl, fun base kb nb => My.law_fn T kb nb⟩     -- if «.of_eq rfl» comes too early: refine' ⟨_, ?b, fun base kb nb => My.law_fn T kb nb⟩; exact fun s u => .of_eq rfl
  case S => exact fun w H a ns hl hO hS => ..
  case C => exact ..
(the tactic k_is has no namespace: write k_is) -/

namespace L2
open PySem PySem.Spec PyProof.Rows

noncomputable def defArgs (s : Stmt) : Arguments := match s with
  | .FunctionDef _ a _ _ _ _ _ _ _ _ => a
  | _ => { posonlyargs := [], args := [], vararg := none, kwonlyargs := [], kw_defaults := [], kwarg := none, defaults := [] }
noncomputable def defBody (s : Stmt) : List Stmt := match s with
  | .FunctionDef _ _ b _ _ _ _ _ _ _ => b
  | _ => []
noncomputable def defScope (s : Stmt) : Scope := match s with
  | .FunctionDef _ _ _ _ _ _ sc _ _ _ => sc
  | _ => { kind := .function, names := [], isGenerator := false, isCoroutine := false }

abbrev CX0 : CXT := fun _ _ _ _ _ _ => False
abbrev E0 : XK := fun _ _ _ => False
theorem pass0 {X : Cx} : Passes CX0 X E0 := fun _ _ _ _ _ _ _ h => h.elim

structure Fun (K : PySem.W.Frag) (x qual : Str) (st : Stmt) (f : Addr) (fd : FuncData) : Prop where
  ex : ∃ (oc : Value) (od : Option Addr) (kV doc pm : Value) (an : Option Addr) (cdv ct : Value) (osl : Array (Option Value)),
    fd = PySem.W.fnOf x qual (defArgs st) (defBody st) (defScope st) .none kV doc pm an cdv ct ∧ K.lookup f = some ⟨oc, od, .func fd, osl⟩ ∧ PySem.W.codeIn K cdv qual = true
  kp : PySem.W.keepIn K (.ref f) = true
section
variable {P : Program} {w : World} {K : PySem.W.Frag} {mg : Str → Option Value} {base : Heap}
theorem Fun.ok {x qual : Str} {st : Stmt} {f : Addr} {fd : FuncData} {N ps : List Str} {k : Nat} {sp : Sp} (F : Fun K x qual st f fd) (S : FnScope N ps (defScope st)) (len : ∀ vs H Q E, sp vs H Q E → vs.length = ps.length)
    (hbody : ∀ (cdv : Value) (A : Around) (outer : List Env) (s : Shared) (H : Hp) (vs : List V) (Q : VK) (E : XK), Room k (A.deeper (envOfC qual (defScope st) s.heap.objs.size f cdv)) → sp vs H Q E →
      ∃ t, PSs (cxOf CX0 P w K mg base N qual (defScope st) f cdv A outer s H E).nox (defBody st) t ∧ t { nx := fun _ H' => Q .non H', rt := Q } (start N vs) H) : FnOk P w K mg base CX0 (k + 1) f fd ps sp := by
  obtain ⟨oc, od, kV, doc, pm, an, cdv, ct, osl, rfl, lk, hcd⟩ := F.ex
  refine fn_of lk hcd S len fun A outer s H vs Q E hr hsp => ?_
  obtain ⟨t, h, q⟩ := hbody cdv A outer s H vs Q E hr hsp
  exact ⟨t, h.nox, q⟩
theorem Fun.binds {x qual : Str} {st : Stmt} {f : Addr} {fd : FuncData} {ps : List Str} (F : Fun K x qual st f fd)
    (h : ∀ (kV doc pm : Value) (an : Option Addr) (cdv ct : Value) (us : List Value), us.length = ps.length → bindArgs (PySem.W.fnOf x qual (defArgs st) (defBody st) (defScope st) .none kV doc pm an cdv ct) ⟨us, []⟩ = pure (ps.zip us)) : Binds K fd ps [] := by
  obtain ⟨oc, od, kV, doc, pm, an, cdv, ct, osl, rfl, lk, hcd⟩ := F.ex
  exact .all (h kV doc pm an cdv ct)
theorem fun_mk {x qual : Str} {st : Stmt} {f : Addr} {oc : Value} {od an : Option Addr} {osl : Array (Option Value)} {kV doc pm cdv ct : Value} (l : K.lookup f = some ⟨oc, od, .func (PySem.W.fnOf x qual (defArgs st) (defBody st) (defScope st) .none kV doc pm an cdv ct), osl⟩)
    (c : PySem.W.codeIn K cdv qual = true) (k : PySem.W.keepIn K (.ref f) = true) : Fun K x qual st f (PySem.W.fnOf x qual (defArgs st) (defBody st) (defScope st) .none kV doc pm an cdv ct) := ⟨⟨oc, od, kV, doc, pm, an, cdv, ct, osl, rfl, l, c⟩, k⟩
end
section
variable {X : Cx}
theorem pv (i : Nat) {x : Str} {pos : Pos} (hN : X.N[i]? = some x := by rfl) (hv : Vis X.env.scope x := by first | exact Or.inl rfl | exact Or.inr (Or.inl rfl) | exact Or.inr (Or.inr rfl)) (hd : (x == ("__debug__" : Str)) = false := by decide)
    (hcd : (x == ("__classdict__" : Str)) = false := by decide) : PE X (.Name x pos) (tVar i) := pe_var hN hv hd hcd
end

theorem iteF {A B : Prop} (h : B) : if false = true then A else B := by
  rw [if_neg Bool.false_ne_true]
  exact h
theorem iteT {A B : Prop} (h : A) : if true = true then A else B := by
  rw [if_pos rfl]
  exact h
theorem ite2 {c A B : Prop} [Decidable c] (h1 : c → A) (h2 : ¬ c → B) : if c then A else B := by
  by_cases h : c
  · rw [if_pos h]
    exact h1 h
  · rw [if_neg h]
    exact h2 h
theorem iteNS {c A B : Prop} [Decidable c] (hc : c) (h : B) : if (!decide c) = true then A else B := by
  rw [decide_eq_true hc]
  exact iteF h

noncomputable def Same (H H' : Hp) : Prop := ∀ b o, H b = some o → H' b = some o
theorem Same.refl (H : Hp) : Same H H := fun _ _ h => h
theorem Same.trans {H H1 H2 : Hp} (a : Same H H1) (b : Same H1 H2) : Same H H2 := fun c o h => b c o (a c o h)
theorem Same.free {H H' : Hp} (e : Same H H') {l : Addr} (h : H' l = Option.none) : H l = Option.none := by
  cases q : H l with
  | none => rfl
  | some o =>
    rw [e l o q] at h
    cases h
theorem Same.seq {K : PySem.W.Frag} {H H' : Hp} {a : Addr} {xs : List V} (e : Same H H') (h : SqL K H a xs) : SqL K H' a xs := by
  rcases h with (h | ⟨o, h⟩) | h
  · exact .inl (.inl (e _ _ h))
  · exact .inl (.inr ⟨o, e _ _ h⟩)
  · exact .inr h

end L2

set_option maxHeartbeats 4000000
namespace My
noncomputable def Bd (n : Nat) (x : Int) : Prop := x.natAbs < 2 ^ n
theorem Bd.mono {m n : Nat} {x : Int} (h : Bd m x) (hn : m ≤ n) : Bd n x := Nat.lt_of_lt_of_le h (Nat.pow_le_pow_right (by decide) hn)
theorem Bd.neg {n : Nat} {x : Int} (h : Bd n x) : Bd n (-x) := by unfold Bd at *; rw [Int.natAbs_neg]; exact h
theorem Bd.mul {m n : Nat} {x y : Int} (h : Bd m x) (g : Bd n y) : Bd (m + n) (x * y) := by
  unfold Bd at *
  rw [Int.natAbs_mul, Nat.pow_add]
  exact Nat.mul_lt_mul'' h g
theorem Bd.add {n : Nat} {x y : Int} (h : Bd n x) (g : Bd n y) : Bd (n + 1) (x + y) := by
  unfold Bd at *
  rw [Nat.pow_succ]
  have := Int.natAbs_add_le x y
  omega
theorem Bd.sub {n : Nat} {x y : Int} (h : Bd n x) (g : Bd n y) : Bd (n + 1) (x - y) := by
  rw [Int.sub_eq_add_neg]; exact h.add g.neg
theorem Bd.mod {n : Nat} {x y : Int} (hy : 0 < y) (g : Bd n y) : Bd n (x % y) := by
  unfold Bd at *
  have h1 := Int.emod_nonneg x (Int.ne_of_gt hy)
  have h2 := Int.emod_lt_of_pos x hy
  omega
theorem Bd.of_le {n : Nat} {x y : Int} (g : Bd n y) (h0 : 0 ≤ x) (h : x ≤ y) : Bd n x := by
  unfold Bd at *
  omega
theorem div_bounds (x y : Int) (hy : 0 < y) : y * (x / y) ≤ x ∧ x < y * (x / y) + y := by
  have h1 := Int.mul_ediv_add_emod x y
  have h2 := Int.emod_nonneg x (Int.ne_of_gt hy)
  have h3 := Int.emod_lt_of_pos x hy
  omega
theorem Bd.div {n : Nat} {x y : Int} (hy : 0 < y) (g : Bd n x) : Bd n (x / y) := by
  unfold Bd at *
  refine Nat.lt_of_le_of_lt ?_ g
  obtain ⟨h1, h2⟩ := div_bounds x y hy
  rcases Int.lt_or_le (x / y) 0 with h | h
  · -- q < 0: x < y q + y = y (q + 1) <= q + 1
    have h3 : y * (x / y + 1) ≤ 1 * (x / y + 1) := Int.mul_le_mul_of_nonpos_right (by omega) (by omega)
    rw [Int.mul_add, Int.mul_one, Int.one_mul] at h3
    omega
  · have h3 : 1 * (x / y) ≤ y * (x / y) := Int.mul_le_mul_of_nonneg_right (by omega) h
    rw [Int.one_mul] at h3
    omega
theorem gcd_step (a b : Int) : Int.gcd b (a % b) = Int.gcd a b := by
  apply Nat.dvd_antisymm
  · apply Int.dvd_gcd
    · have h1 : ((Int.gcd b (a % b) : Nat) : Int) ∣ b := Int.gcd_dvd_left ..
      have h2 : ((Int.gcd b (a % b) : Nat) : Int) ∣ a % b := Int.gcd_dvd_right ..
      have h3 := Int.mul_ediv_add_emod a b
      have h4 := Int.dvd_add (Int.dvd_trans h1 (Int.dvd_mul_right b (a / b))) h2
      rw [h3] at h4
      exact h4
    · exact Int.gcd_dvd_left ..
  · apply Int.dvd_gcd
    · exact Int.gcd_dvd_right ..
    · have h1 : ((Int.gcd a b : Nat) : Int) ∣ a := Int.gcd_dvd_left ..
      have h2 : ((Int.gcd a b : Nat) : Int) ∣ b := Int.gcd_dvd_right ..
      have h3 := Int.mul_ediv_add_emod a b
      have h4 : a % b = a - b * (a / b) := by omega
      rw [h4]
      exact Int.dvd_sub h1 (Int.dvd_trans h2 (Int.dvd_mul_right b (a / b)))
theorem p60 : (0:Int) < 10 ^ 60 ∧ Bd 200 (10 ^ 60) := ⟨by decide, by unfold Bd; decide⟩
end My

namespace My
noncomputable def sg (t m : Int) : Int := if m < 0 then -((Int.gcd t m : Nat) : Int) else ((Int.gcd t m : Nat) : Int)
theorem sg_ne {t m : Int} (hm : m ≠ 0) : sg t m ≠ 0 := by
  have h : 0 < Int.gcd t m := Int.gcd_pos_of_ne_zero_right t hm
  unfold sg
  split <;> omega
theorem sg_dvd_left (t m : Int) : sg t m ∣ t := by
  unfold sg
  split
  · exact Int.neg_dvd.mpr (Int.gcd_dvd_left ..)
  · exact Int.gcd_dvd_left ..
theorem sg_dvd_right (t m : Int) : sg t m ∣ m := by
  unfold sg
  split
  · exact Int.neg_dvd.mpr (Int.gcd_dvd_right ..)
  · exact Int.gcd_dvd_right ..
theorem fdiv_mul {a b : Int} (hb : b ≠ 0) (h : b ∣ a) : a.fdiv b * b = a := Int.fdiv_mul_cancel h
theorem natAbs_sg (t m : Int) : (sg t m).natAbs = Int.gcd t m := by
  unfold sg
  split
  · rw [Int.natAbs_neg, Int.natAbs_natCast]
  · rw [Int.natAbs_natCast]
structure Made (t m a b : Int) : Prop where
  pos : 0 < b
  low : Int.gcd a b = 1
  same : a * m = t * b
  ba : a.natAbs ≤ t.natAbs
  bb : b.natAbs ≤ m.natAbs
theorem made_of {t m : Int} (hm : m ≠ 0) : Made t m (t.fdiv (sg t m)) (m.fdiv (sg t m)) := by
  have hs := sg_ne (t := t) hm
  have e1 := fdiv_mul hs (sg_dvd_left t m)
  have e2 := fdiv_mul hs (sg_dvd_right t m)
  have hg : 0 < Int.gcd t m := Int.gcd_pos_of_ne_zero_right t hm
  generalize ha : t.fdiv (sg t m) = a at *
  generalize hb : m.fdiv (sg t m) = b at *
  have n1 : a.natAbs * Int.gcd t m = t.natAbs := by rw [← natAbs_sg, ← Int.natAbs_mul, e1]
  have n2 : b.natAbs * Int.gcd t m = m.natAbs := by rw [← natAbs_sg, ← Int.natAbs_mul, e2]
  refine ⟨?_, ?_, ?_, ?_, ?_⟩
  · -- sign
    unfold sg at e2
    by_cases h : m < 0
    · rw [if_pos h, Int.mul_neg] at e2
      rcases Int.lt_or_le 0 b with q | q
      · exact q
      · have := Int.mul_nonpos_of_nonpos_of_nonneg q (show (0 : Int) ≤ ((Int.gcd t m : Nat) : Int) by omega)
        omega
    · rw [if_neg h] at e2
      rcases Int.lt_or_le 0 b with q | q
      · exact q
      · have := Int.mul_nonpos_of_nonpos_of_nonneg q (show (0 : Int) ≤ ((Int.gcd t m : Nat) : Int) by omega)
        omega
  · have q : Int.gcd a b * Int.gcd t m = Int.gcd t m := by
      have h := Nat.gcd_mul_right a.natAbs (Int.gcd t m) b.natAbs
      rw [n1, n2] at h
      exact h.symm
    exact Nat.eq_of_mul_eq_mul_right hg (by rw [q, Nat.one_mul])
  · have q : a * m = a * (b * sg t m) := by rw [e2]
    have q2 : t * b = a * sg t m * b := by rw [e1]
    rw [q, q2, Int.mul_assoc, Int.mul_comm b]
  · rw [← n1]; exact Nat.le_mul_of_pos_right _ hg
  · rw [← n2]; exact Nat.le_mul_of_pos_right _ hg
theorem Bd.of_natAbs {n : Nat} {x y : Int} (h : x.natAbs ≤ y.natAbs) (g : Bd n y) : Bd n x := Nat.lt_of_le_of_lt h g
theorem natAbs_abs (i : Int) : (if i < 0 then -i else i) = ((i.natAbs : Nat) : Int) := by split <;> omega
end My

namespace L2
open PySem PySem.Spec PyProof.Rows


abbrev Mid (x : Int) : Prop := My.Bd 4000 x
section
variable {X : Cx}
theorem op_mulB : OpR X (binaryOp .Mult) (rI (fun i j => Mid i ∧ Mid j) fun i j => .int (i * j)) := opI fun _ _ _ _ _ _ _ hc q =>
  mul_int q (IntMulOk.of_le (PySem.intBits_le_iff.mpr hc.1) (PySem.intBits_le_iff.mpr hc.2) (by decide))
theorem log2_of_Mid {j : Int} (h : Mid j) : j.natAbs.log2 < 9000 := by
  by_cases h0 : j.natAbs = 0
  · rw [h0]; decide +kernel
  · have h1 : j.natAbs.log2 < 4000 := (Nat.log2_lt h0).mpr h
    omega
theorem op_fdivB : OpR X (binaryOp .FloorDiv) (rI (fun _ j => 0 < j ∧ Mid j) fun i j => .int (i / j)) := opI fun i j _ _ _ _ _ hc q => by
  have h1 : (0 : Int) < j := hc.1
  exact floordiv_int (by omega) (by rw [Int.fdiv_eq_ediv_of_nonneg i (by omega)]; exact q) (.inl (PyProof.noPylong_of_log2 (log2_of_Mid hc.2)))
end

theorem bt_int : bootBuiltins "int" = some (.type "int") := by decide +kernel
theorem bt_bool : bootBuiltins "bool" = some (.type "bool") := by decide +kernel
theorem bt_str : bootBuiltins "str" = some (.type "str") := by decide +kernel
theorem bt_tuple : bootBuiltins "tuple" = some (.type "tuple") := by decide +kernel
theorem bt_abs : bootBuiltins "abs" = some (.builtin "abs") := by decide +kernel
theorem bt_isinstance : bootBuiltins "isinstance" = some (.builtin "isinstance") := by decide +kernel
inductive Tg where
  | non | bl | int | str | tup | lst | dic
noncomputable def tgIs (K : PySem.W.Frag) (H : Hp) : V → Tg → Prop
  | .non, .non => True
  | .bl _, .bl => True
  | .int _, .int => True
  | .str _, .str => True
  | .ref a, .tup => ∃ xs, SqT K H a xs
  | .ref a, .lst => ∃ xs, SqL K H a xs
  | .ref a, .dic => ∃ kvs, H a = some (.dK kvs)
  | _, _ => False
noncomputable def Tg.isInt : Tg → Bool
  | .int => true | .bl => true | _ => false
noncomputable def Tg.isBool : Tg → Bool
  | .bl => true | _ => false
noncomputable def Tg.isStr : Tg → Bool
  | .str => true | _ => false
noncomputable def Tg.isTup : Tg → Bool
  | .tup => true | _ => false
noncomputable def Tg.isLst : Tg → Bool
  | .lst => true | _ => false
noncomputable def rIsi (K : PySem.W.Frag) (n : String) (f : Tg → Bool) : List V → Hp → VK → Prop := fun xs H Q => ∃ x g, xs = [x, .ty n] ∧ tgIs K H x g ∧ Q (.bl (f g)) H
section
variable {X : Cx}
theorem isi_of {n : String} {f : Tg → Bool}
    (h1 : ∀ {A : Around} {E : Value → Shared → Prop} {s : Shared} {Q : Value → Shared → Prop}, (∀ t, Q (.bool (f .non)) { s with toks := t }) → wpAny (model X.prog X.w) A (call (.builtin "isinstance") [.none, .type n]) Q E s)
    (h2 : ∀ {A : Around} {E : Value → Shared → Prop} {s : Shared} {Q : Value → Shared → Prop} {b : Bool}, (∀ t, Q (.bool (f .bl)) { s with toks := t }) → wpAny (model X.prog X.w) A (call (.builtin "isinstance") [.bool b, .type n]) Q E s)
    (h3 : ∀ {A : Around} {E : Value → Shared → Prop} {s : Shared} {Q : Value → Shared → Prop} {b : Int} {u : Tok}, (∀ t, Q (.bool (f .int)) { s with toks := t }) → wpAny (model X.prog X.w) A (call (.builtin "isinstance") [.int b u, .type n]) Q E s)
    (h4 : ∀ {A : Around} {E : Value → Shared → Prop} {s : Shared} {Q : Value → Shared → Prop} {b : Str} {u : Tok}, (∀ t, Q (.bool (f .str)) { s with toks := t }) → wpAny (model X.prog X.w) A (call (.builtin "isinstance") [.str b u, .type n]) Q E s)
    (h5 : ∀ {A : Around} {E : Value → Shared → Prop} {s : Shared} {Q : Value → Shared → Prop} {a : Addr} {o : Obj}, s.heap.get? a = some o → o.cls = .type "tuple" → (∀ t, Q (.bool (f .tup)) { s with toks := t }) → wpAny (model X.prog X.w) A (call (.builtin "isinstance") [.ref a, .type n]) Q E s)
    (h6 : ∀ {A : Around} {E : Value → Shared → Prop} {s : Shared} {Q : Value → Shared → Prop} {a : Addr} {o : Obj}, s.heap.get? a = some o → o.cls = .type "list" → (∀ t, Q (.bool (f .lst)) { s with toks := t }) → wpAny (model X.prog X.w) A (call (.builtin "isinstance") [.ref a, .type n]) Q E s)
    (h7 : ∀ {A : Around} {E : Value → Shared → Prop} {s : Shared} {Q : Value → Shared → Prop} {a : Addr} {o : Obj}, s.heap.get? a = some o → o.cls = .type "dict" → (∀ t, Q (.bool (f .dic)) { s with toks := t }) → wpAny (model X.prog X.w) A (call (.builtin "isinstance") [.ref a, .type n]) Q E s) :
    CallR X (.builtin "isinstance") (rIsi X.K n f) := by
  intro pins s σ H xs us Q I r h
  obtain ⟨x, g, rfl, e, q⟩ := h
  obtain ⟨u, w, rfl, rx, rw'⟩ := vals2 r
  cases rw'
  have fin : ∀ k : Bool, Q (.bl k) H → ∀ t, EP X pins σ Q (.bool k) { s with toks := t } := fun k q t => ⟨.bl k, H, I.tok t, rfl, q⟩
  cases x with
  | non => cases g <;> first | exact (show False from e).elim | (cases rx; exact h1 (fin _ q))
  | bl b => cases g <;> first | exact (show False from e).elim | (cases rx; exact h2 (fin _ q))
  | int i => cases g <;> first | exact (show False from e).elim | (obtain ⟨t, rfl⟩ := rx; exact h3 (fin _ q))
  | str y => cases g <;> first | exact (show False from e).elim | (obtain ⟨t, rfl⟩ := rx; exact h4 (fin _ q))
  | ref a =>
    cases rx
    cases g with
    | tup =>
      obtain ⟨xs, hx⟩ := (show ∃ xs, SqT X.K H a xs from e)
      obtain ⟨its, _, ⟨o, ho, hc, _⟩, _⟩ := I.tuple hx
      exact h5 ho hc (fin _ q)
    | lst =>
      obtain ⟨xs, hx⟩ := (show ∃ xs, SqL X.K H a xs from e)
      obtain ⟨its, _, ⟨o, n, ho, hc, _⟩, _⟩ := I.list hx
      exact h6 ho hc (fin _ q)
    | dic =>
      obtain ⟨kvs, hx⟩ := (show ∃ kvs, H a = some (.dK kvs) from e)
      obtain ⟨_, _, vs, _, o, es, ep, ho, hc, _⟩ := (show ObjOk X.prog X.w H s.heap a (.dK kvs) from I.hok a _ hx)
      exact h7 ho hc.1 (fin _ q)
    | non => exact (show False from e).elim
    | bl => exact (show False from e).elim
    | int => exact (show False from e).elim
    | str => exact (show False from e).elim
  | _ => exact (show False from e).elim
theorem isi_int : CallR X (.builtin "isinstance") (rIsi X.K "int" Tg.isInt) := isi_of (fun q => IsiPair.NoneType_int (q _)) (fun q => IsiPair.bool_int (q _)) (fun q => IsiPair.int_int (q _)) (fun q => IsiPair.str_int (q _))
  (fun ho hc q => call_isinstance (isinstance_false_tuple (by decide) PySem.F.isi_meta_int PySem.F.sub_tuple_int) ⟨⟨_, ho, hc⟩, q _⟩) (fun ho hc q => call_isinstance (isinstance_false_list (by decide) PySem.F.isi_meta_int PySem.F.sub_list_int) ⟨⟨_, ho, hc⟩, q _⟩) (fun ho hc q => call_isinstance (isinstance_false_dict (by decide) PySem.F.isi_meta_int PySem.F.sub_dict_int) ⟨⟨_, ho, hc⟩, q _⟩)
theorem isi_bool : CallR X (.builtin "isinstance") (rIsi X.K "bool" Tg.isBool) := isi_of (fun q => IsiPair.NoneType_bool (q _)) (fun q => IsiPair.bool_bool (q _)) (fun q => IsiPair.int_bool (q _)) (fun q => IsiPair.str_bool (q _))
  (fun ho hc q => call_isinstance (isinstance_false_tuple (by decide) PySem.F.isi_meta_bool PySem.F.sub_tuple_bool) ⟨⟨_, ho, hc⟩, q _⟩) (fun ho hc q => call_isinstance (isinstance_false_list (by decide) PySem.F.isi_meta_bool PySem.F.sub_list_bool) ⟨⟨_, ho, hc⟩, q _⟩) (fun ho hc q => call_isinstance (isinstance_false_dict (by decide) PySem.F.isi_meta_bool PySem.F.sub_dict_bool) ⟨⟨_, ho, hc⟩, q _⟩)
theorem isi_str : CallR X (.builtin "isinstance") (rIsi X.K "str" Tg.isStr) := isi_of (fun q => IsiPair.NoneType_str (q _)) (fun q => IsiPair.bool_str (q _)) (fun q => IsiPair.int_str (q _)) (fun q => IsiPair.str_str (q _))
  (fun ho hc q => call_isinstance (isinstance_false_tuple (by decide) PySem.F.isi_meta_str PySem.F.sub_tuple_str) ⟨⟨_, ho, hc⟩, q _⟩) (fun ho hc q => call_isinstance (isinstance_false_list (by decide) PySem.F.isi_meta_str PySem.F.sub_list_str) ⟨⟨_, ho, hc⟩, q _⟩) (fun ho hc q => call_isinstance (isinstance_false_dict (by decide) PySem.F.isi_meta_str PySem.F.sub_dict_str) ⟨⟨_, ho, hc⟩, q _⟩)
theorem isi_tuple : CallR X (.builtin "isinstance") (rIsi X.K "tuple" Tg.isTup) := isi_of (fun q => IsiPair.NoneType_tuple (q _)) (fun q => IsiPair.bool_tuple (q _)) (fun q => IsiPair.int_tuple (q _)) (fun q => IsiPair.str_tuple (q _))
  (fun ho hc q => call_isinstance (isinstance_true (Tx := "tuple") PySem.F.isi_meta_tuple PySem.F.sub_tuple_tuple) ⟨⟨_, ho, hc⟩, q _⟩) (fun ho hc q => call_isinstance (isinstance_false_list (by decide) PySem.F.isi_meta_tuple PySem.F.sub_list_tuple) ⟨⟨_, ho, hc⟩, q _⟩) (fun ho hc q => call_isinstance (isinstance_false_dict (by decide) PySem.F.isi_meta_tuple PySem.F.sub_dict_tuple) ⟨⟨_, ho, hc⟩, q _⟩)
theorem pe_isi {e : Expr} {te : TE} {n : Str} {T : String} {f : Tg → Bool} {p p2 pos : Pos} (hc : CallR X (.builtin "isinstance") (rIsi X.K T f)) (hg : Gl X "isinstance") (hg2 : Gl X n) (hm : X.mg "isinstance" = none) (hm2 : X.mg n = none) (hb : bootBuiltins n = some (.type T)) (he : PE X e te)
    (hn : n ≠ "__name__" := by decide) (hd : (n == ("__debug__" : Str)) = false := by decide)
    (hs1 : starEach [e, .Name n p2] X.env = (false, eval e X.env) :: starEach [.Name n p2] X.env := by rfl) (hs2 : starEach [.Name n p2] X.env = (false, eval (.Name n p2) X.env) :: starEach [] X.env := by rfl)
    (hpl : (backTo pos (starEach [.Name n p2] X.env)).any (·.1) = false := by rfl) :
    PE X (.Call (.Name "isinstance" p) [e, .Name n p2] [] pos) (tCB (rIsi X.K T f) (tCons te (tCons (tC (.ty T)) tNil))) :=
  pe_callB hc hg hm bt_isinstance (pa_cons he (pa_cons (pe_bltn (v := .ty T) hg2 hm2 hb rfl hn hd) pa_nil hs2) hs1) (by decide) (by decide) hs1 hpl
end

noncomputable def Itr3 (lo c : Int) (n : Nat) : It := ⟨fun i _ => i < n, fun i H x H' => H' = H ∧ x = .int (lo + (i : Nat) * c), fun i _ => n ≤ i⟩
noncomputable def rngN (i j c : Int) : Nat := (Builtin.Range.rangeSize i j c).toNat
noncomputable def iRng3 (ta : TA) : TI := fun σ H R => ta σ H fun vs H1 => ∃ i j c : Int, vs = [.int i, .int j, .int c] ∧ 0 < c ∧ c < 1073741824 ∧ Builtin.Range.small i j c = true ∧ R (Itr3 i c (rngN i j c)) H1
section
variable {X : Cx} {tg : Expr}
end
theorem Same.new {H : Hp} {p : Addr} (h : H p = none) (o : HO) : Same H (upd H p o) := fun b u q => by rw [upd_ne (ne_of_none q h)]; exact q
theorem Same.tup {K : PySem.W.Frag} {H H' : Hp} {a : Addr} {xs : List V} (e : Same H H') (h : SqT K H a xs) : SqT K H' a xs := by
  rcases h with (h | ⟨o, h⟩) | h
  · exact .inl (.inl (e _ _ h))
  · exact .inl (.inr ⟨o, e _ _ h⟩)
  · exact .inr h
structure FunD (K : PySem.W.Frag) (x qual : Str) (st : Stmt) (f : Addr) (fd : FuncData) : Prop where
  ex : ∃ (oc : Value) (od : Option Addr) (dV kV doc pm : Value) (an : Option Addr) (cdv ct : Value) (osl : Array (Option Value)),
    fd = PySem.W.fnOf x qual (defArgs st) (defBody st) (defScope st) dV kV doc pm an cdv ct ∧ K.lookup f = some ⟨oc, od, .func fd, osl⟩ ∧ PySem.W.codeIn K cdv qual = true
  kp : PySem.W.keepIn K (.ref f) = true
theorem fun_mkD {K : PySem.W.Frag} {x qual : Str} {st : Stmt} {f : Addr} {oc : Value} {od an : Option Addr} {osl : Array (Option Value)} {dV kV doc pm cdv ct : Value} (l : K.lookup f = some ⟨oc, od, .func (PySem.W.fnOf x qual (defArgs st) (defBody st) (defScope st) dV kV doc pm an cdv ct), osl⟩)
    (c : PySem.W.codeIn K cdv qual = true) (k : PySem.W.keepIn K (.ref f) = true) : FunD K x qual st f (PySem.W.fnOf x qual (defArgs st) (defBody st) (defScope st) dV kV doc pm an cdv ct) := ⟨⟨oc, od, dV, kV, doc, pm, an, cdv, ct, osl, rfl, l, c⟩, k⟩
theorem Fun.toD {K : PySem.W.Frag} {x qual : Str} {st : Stmt} {f : Addr} {fd : FuncData} (F : Fun K x qual st f fd) : FunD K x qual st f fd := by
  obtain ⟨oc, od, kV, doc, pm, an, cdv, ct, osl, e, l, c⟩ := F.ex
  exact ⟨⟨oc, od, .none, kV, doc, pm, an, cdv, ct, osl, e, l, c⟩, F.kp⟩
section
variable {X : Cx}
theorem op_fdivNB : OpR X (binaryOp .FloorDiv) (rI (fun _ j => j ≠ 0 ∧ Mid j) fun i j => .int (i.fdiv j)) := opI fun _ _ _ _ _ _ _ hc q => floordiv_int hc.1 q (.inl (PyProof.noPylong_of_log2 (log2_of_Mid hc.2)))
end
end L2

namespace L2
open PySem PySem.Spec PyProof.Rows

noncomputable def CXe (P : Program) (w : World) : CXT := fun outer H s E e s' => ∃ (a C : Addr) (a0 : Value) (H' : Hp) (B : Heap),
  e = .ref a ∧ s'.os = s.os ∧ AllBare s'.gens ∧ Un (frs outer) [] H H' s.heap s'.heap ∧ HOk P w H' B ∧ Heap.FlyingW B outer a (.ref C) a0 s'.heap ∧
  (∀ b o, s.heap.get? b = some o → H b = none → b ∉ frs outer → B.get? b = some o) ∧ (∀ b o, s.heap.get? b = some o → b ∉ frs outer → ∃ o', B.get? b = some o') ∧ E (.ref C) none H'

section
variable {P : Program} {w : World} {K : PySem.W.Frag} {mg : Str → Option Value} {base : Heap} {N : List Str} {qual : Str} {scope : Scope} {f : Addr} {cd : Value} {A : Around} {outer : List Env} {s : Shared} {H : Hp} {E : XK}
  {pins : List (Addr × Obj)} {σ : St} {H1 : Hp} {s1 : Shared}
theorem frs_own {CX : CXT} {b : Addr} : b ∈ frs (cxOf CX P w K mg base N qual scope f cd A outer s H E).stack ↔ b = s.heap.objs.size ∨ b ∈ frs outer := by
  show b ∈ (envOfC qual scope s.heap.objs.size f cd :: outer).filterMap (·.frame) ↔ _
  rw [List.filterMap_cons]
  exact List.mem_cons
theorem raises_cx {h' : Heap} {e C : Addr} {vs : List Value} (I : Inv (cxOf (CXe P w) P w K mg base N qual scope f cd A outer s H E) pins σ H1 s1) (hx : Heap.MadeExcOf s1.heap h' e (.ref C) vs) (q : E (.ref C) none H1) :
    (cxOf (CXe P w) P w K mg base N qual scope f cd A outer s H E).xe (.ref e) { s1 with heap := h' } := by
  have hin : ∀ env ∈ (cxOf (CXe P w) P w K mg base N qual scope f cd A outer s H E).stack, ∀ b, env.frame = some b → b ∈ frs (cxOf (CXe P w) P w K mg base N qual scope f cd A outer s H E).stack := fun env he b hb => List.mem_filterMap.mpr ⟨env, he, hb⟩
  have toB : ∀ b o, s1.heap.get? b = some o → b ∉ frs (cxOf (CXe P w) P w K mg base N qual scope f cd A outer s H E).stack → (PySem.W.hideAll s1.heap (frs (cxOf (CXe P w) P w K mg base N qual scope f cd A outer s H E).stack)).get? b = some o := fun b o e n => PySem.W.hideAll_get _ e n
  have hl := PySem.W.funFrames_hide (as := frs (cxOf (CXe P w) P w K mg base N qual scope f cd A outer s H E).stack) I.stack hin
  have nstk : ∀ b o, s.heap.get? b = some o → b ∉ frs outer → b ∉ frs (cxOf (CXe P w) P w K mg base N qual scope f cd A outer s H E).stack := fun b o e n z => by
    rcases frs_own.mp z with z | z
    · rw [z] at e
      exact absurd (Heap.lt_size e) (Nat.lt_irrefl _)
    · exact n z
  have hB : HOk P w H1 (PySem.W.hideAll s1.heap (frs (cxOf (CXe P w) P w K mg base N qual scope f cd A outer s H E).stack)) := fun b u eu => (I.hok b u eu).stay (fun c v hc q => toB c v q fun z => by
    have n := I.stkFree c z
    rcases hc with hc | hc
    · rw [hc, eu] at n; cases n
    · rw [hc] at n; cases n) (fun _ q => q) fun _ _ q => q
  refine wpAny_leaves_madeW (base := PySem.W.hideAll s1.heap (frs (cxOf (CXe P w) P w K mg base N qual scope f cd A outer s H E).stack)) (h := s1.heap) (s := { s1 with heap := h' }) I.ok.frames rfl (fun b o q => PySem.W.of_hideAll _ q) hl hx fun h2 t fl tup ht us => ?_
  refine ⟨e, C, .ref t, H1, _, rfl, I.os, I.bare, ?_, hB, fl, ?_, ?_, q⟩
  · have cs : ∀ b ∈ frs outer, ∀ o, s1.heap.get? b = some o → ∃ sl, h2.get? b = some { o with slots := sl } := fun b hb o e => by
      obtain ⟨_, o', e', hd⟩ := I.funs.mem hb
      rw [e] at e'; cases e'
      exact us b o (hx.keeps b o e) hd
    exact {
      keep := fun b o e n hb _ => fl.1 b o (toB b o (I.base.keep b o e n hb (by exact fun z => nomatch z)) (nstk b o e hb))
      slot := fun b o e n hb _ => by
        obtain ⟨sl, e1⟩ := I.base.slot b o e n hb (by exact fun z => nomatch z)
        obtain ⟨sl', e2⟩ := cs b hb _ e1
        exact ⟨sl', e2⟩
      free := fun b o e n _ => I.base.free b o e n (by exact fun z => nomatch z)
      there := fun b o e _ => by
        obtain ⟨o', e1⟩ := I.base.there b o e (by exact fun z => nomatch z)
        by_cases hb : b ∈ frs outer
        · obtain ⟨sl, e2⟩ := cs b hb _ e1
          exact ⟨_, e2⟩
        · exact ⟨o', fl.1 b o' (toB b o' e1 (nstk b o e hb))⟩
      tups := I.base.tups
      frzs := I.base.frzs
      tbls := I.base.tbls }
  · exact fun b o e n hb => toB b o (I.base.keep b o e n hb (by exact fun z => nomatch z)) (nstk b o e hb)
  · intro b o e hb
    obtain ⟨o', e1⟩ := I.base.there b o e (by exact fun z => nomatch z)
    exact ⟨o', toB b o' e1 (nstk b o e hb)⟩
theorem passes_on : Passes (CXe P w) (cxOf (CXe P w) P w K mg base N qual scope f cd A outer s H E) E := by
  intro pins σ H1 s1 e s' I cx
  obtain ⟨a, C, a0, H', B, rfl, os, bare, un, hB, fl, kU, kT, q⟩ := cx
  have nstk : ∀ b o, s.heap.get? b = some o → b ∉ frs outer → b ∉ frs (cxOf (CXe P w) P w K mg base N qual scope f cd A outer s H E).stack := fun b o e n z => by
    rcases frs_own.mp z with z | z
    · rw [z] at e
      exact absurd (Heap.lt_size e) (Nat.lt_irrefl _)
    · exact n z
  have sub : ∀ b ∈ frs outer, b ∈ frs (cxOf (CXe P w) P w K mg base N qual scope f cd A outer s H E).stack := fun b hb => frs_own.mpr (.inr hb)
  have ff : s'.heap.FunFrames B (cxOf (CXe P w) P w K mg base N qual scope f cd A outer s H E).stack := fl.2.2.1
  refine wpAny_leaves_onW (s := s') I.ok.frames rfl fl fun h2 fl2 us => ?_
  have cs : ∀ b ∈ frs outer, ∀ o, s'.heap.get? b = some o → ∃ sl, h2.get? b = some { o with slots := sl } := fun b hb o e => by
    obtain ⟨_, o', e', hd⟩ := ff.mem (sub b hb)
    rw [e] at e'; cases e'
    exact us b o e hd
  have no : ∀ b : Addr, b ∉ ([] : List Addr) := fun b z => nomatch z
  refine ⟨a, C, a0, H', B, rfl, os.trans I.os, bare, ?_, hB, fl2, ?_, ?_, q⟩
  · exact {
      keep := fun b o e n hb _ => fl2.1 b o (kU b o (I.base.keep b o e n hb (no b)) (I.base.free b o e n (no b)) (nstk b o e hb))
      slot := fun b o e n hb _ => by
        obtain ⟨sl, e1⟩ := I.base.slot b o e n hb (no b)
        obtain ⟨sl', e2⟩ := un.slot b _ e1 (I.base.free b o e n (no b)) (sub b hb) (no b)
        obtain ⟨sl'', e3⟩ := cs b hb _ e2
        exact ⟨sl'', e3⟩
      free := fun b o e n _ => by
        obtain ⟨o', e1⟩ := I.base.there b o e (no b)
        exact un.free b o' e1 (I.base.free b o e n (no b)) (no b)
      there := fun b o e _ => by
        obtain ⟨o1, e1⟩ := I.base.there b o e (no b)
        by_cases hb : b ∈ frs outer
        · obtain ⟨o2, e2⟩ := un.there b o1 e1 (no b)
          obtain ⟨sl, e3⟩ := cs b hb _ e2
          exact ⟨_, e3⟩
        · obtain ⟨o2, e2⟩ := kT b o1 e1 (nstk b o e hb)
          exact ⟨o2, fl2.1 b o2 e2⟩
      tups := fun b xs z => un.tups b xs (I.base.tups b xs z)
      frzs := fun b o u z => un.frzs b o u (I.base.frzs b o u z)
      tbls := fun b ps z => by
        obtain ⟨m1, e1⟩ := I.base.tbls b ps z
        obtain ⟨m2, e2⟩ := un.tbls b _ e1
        exact ⟨m1 ++ m2, by rw [e2, Array.append_assoc]⟩ }
  · exact fun b o e n hb => kU b o (I.base.keep b o e n hb (no b)) (I.base.free b o e n (no b)) (nstk b o e hb)
  · intro b o e hb
    obtain ⟨o1, e1⟩ := I.base.there b o e (no b)
    exact kT b o1 e1 (nstk b o e hb)
theorem FunD.okE {x qual : Str} {st : Stmt} {f : Addr} {fd : FuncData} {N ps : List Str} {k : Nat} {sp : Sp} (F : FunD K x qual st f fd) (S : FnScope N ps (defScope st)) (len : ∀ vs H Q E, sp vs H Q E → vs.length = ps.length)
    (hbody : ∀ (cdv : Value) (A : Around) (outer : List Env) (s : Shared) (H : Hp) (vs : List V) (Q : VK) (E : XK), Room k (A.deeper (envOfC qual (defScope st) s.heap.objs.size f cdv)) → sp vs H Q E →
      ∃ t, PSs (cxOf (CXe P w) P w K mg base N qual (defScope st) f cdv A outer s H E) (defBody st) t ∧ t { nx := fun _ H' => Q .non H', rt := Q } (start N vs) H) : FnOk P w K mg base (CXe P w) (k + 1) f fd ps sp := by
  obtain ⟨oc, od, dV, kV, doc, pm, an, cdv, ct, osl, rfl, lk, hcd⟩ := F.ex
  exact fn_of lk hcd S len fun A outer s H vs Q E hr hsp => hbody cdv A outer s H vs Q E hr hsp
end

abbrev bmVE : List Value := [.type "ValueError", .type "Exception", .type "BaseException", .type "object"]
theorem topRead_any {p : Program} {mg mb : Str → Option Value} {h : Heap} (g : h.Ns mainGlobals mg) (b : h.Ns builtinsNs mb) (nl : h.NoLimit) (bl : ∀ x : Str, x ≠ "__name__" → mb x = bootBuiltins x) :
    ∃ loose, PySem.W.TopRead p loose mg mb h := by
  obtain ⟨o, es, ep, ho, hd, hk, hm⟩ := id g
  refine ⟨es.toList.filterMap (fun (e : DictEntry) => match e.key with | .str n _ => some n | _ => none), ⟨g, b, nl, bl, fun x _ hx _ _ _ => ?_⟩⟩
  rw [← hm x]
  unfold nsFind findBy
  rw [Option.map_eq_none_iff, Array.find?_eq_none]
  intro e he hs
  obtain ⟨n, t, hn⟩ := hk e he
  apply hx
  refine List.mem_filterMap.mpr ⟨e, Array.mem_toList_iff.mpr he, ?_⟩
  rw [hn] at hs ⊢
  have e2 : n = x := by simpa [Value.isStr] using hs
  rw [e2]
noncomputable def tRaise (C : Addr) (E : XK) (t : TA) : TS := fun _ σ H => t σ H fun vs H1 => vs.length ≤ sizeLine ∧ E (.ref C) none H1
noncomputable def Raises (X : Cx) (C : Addr) (E : XK) : Prop := ∀ (pins : List (Addr × Obj)) (σ : St) (H : Hp) (s : Shared) (h' : Heap) (e : Addr) (vs : List Value), Inv X pins σ H s → Heap.MadeExcOf s.heap h' e (.ref C) vs → E (.ref C) none H → X.xe (.ref e) { s with heap := h' }
theorem raisesE {P : Program} {w : World} {K : PySem.W.Frag} {mg : Str → Option Value} {base : Heap} {N : List Str} {qual : Str} {scope : Scope} {f C : Addr} {cd : Value} {A : Around} {outer : List Env} {s : Shared} {H : Hp} {E : XK} :
    Raises (cxOf (CXe P w) P w K mg base N qual scope f cd A outer s H E) C E := fun _ _ _ _ _ _ _ I me q => raises_cx I me q
section
variable {X : Cx} {E : XK} {x : Str} {np cpos pos : Pos} {e0 : Expr} {es : List Expr} {t : TA} {C : Addr}
theorem ps_raise (hc : X.calm = true) (O : PySem.W.excIn X.K C bmVE "ValueError.__new__" = true) (hn : PySem.W.nsIn X.K mainGlobals x = some (some (.ref C))) (hm : X.mg x = some (.ref C)) (hg : Gl X x) (hx : Raises X C E) (ha : PA X (e0 :: es) t)
    (hd : (x == ("__debug__" : Str)) = false := by decide) (he : starEach (e0 :: es) X.env = (false, eval e0 X.env) :: starEach es X.env := by rfl) (hpl : (backTo cpos (starEach es X.env)).any (·.1) = false := by rfl) :
    PS X (.Raise (some (.Call (.Name x np) (e0 :: es) [] cpos)) none pos) (tRaise C E t) := by
  intro pins s σ H D I h
  obtain ⟨mb, b1, b2⟩ := I.mod.blt
  obtain ⟨loose, TR⟩ := topRead_any (p := X.prog) I.mod.glob b1 I.mod.nolimit b2
  have OC := PySem.W.own_of_in I.mod.kin TR hn O
  obtain ⟨tl, Nn, nm, qq, bs, hdct, sn, sub, ab, col, dd, k0, k1, k2, k3, k5, mN, oC, oN, oi, oT⟩ := OC.obj
  have hp2 : (backTo cpos (starEach (e0 :: es) X.env)).any (·.1) = false := by
    rw [he]
    show (false || (backTo cpos (starEach es X.env)).any (·.1)) = false
    rw [hpl]
    rfl
  refine wpAny_Raise_call_subU (C := C) (nm := nm) (q := qq) (N := Nn) (bs := bs) (bm := tl) (hdct := hdct) (sn := sn) (sub := sub) (ab := ab) (col := col) (dd := dd) (k0 := k0) (k1 := k1) (k2 := k2) (k3 := k3) (k5 := k5)
    PySem.F.excBase_ValueError (by decide) PySem.F.excBase_ValueError (mN := mN) (oT.hasType PySem.F.excBase_ValueError.hasBase) (I.ok.hd hc) hp2 oi (ld_glob I hg hm ⟨rfl, ?_⟩ hd)
  have hA := ha cpos pins s σ H _ I h
  rw [he] at hA ⊢
  refine Calls.evalArgs_plain (thn hA fun us s2 ⟨vs, H2, I2, r2, hl, q⟩ => ⟨rfl, by rw [← r2.length]; exact hl, I2.bk _ _ oC, oN.keeps I2.bk, oT.keeps I2.bk, fun h' e me => hx pins σ H2 s2 h' e us I2 me q⟩)
end

noncomputable abbrev Cx.marked (X : Cx) (a : Addr) : Cx := { X with A := X.A.mark (some (.ref a)), calm := false }
section
variable {X : Cx} {pins : List (Addr × Obj)} {σ : St} {H H' : Hp} {s s' : Shared}
theorem Cx.Ok.marked (ok : X.Ok) (a : Addr) : (X.marked a).Ok :=
  ⟨ok.mod, ok.kind, ok.glob, ok.blt, ok.above, ok.inj, ok.has, ok.cab, (fun z => nomatch z), ok.frames, ok.stk, ok.exf, ok.bs, ok.bsz, ok.noex, ok.exfs, ok.funs, ok.frf⟩
theorem Inv.marked (I : Inv X pins σ H s) (a : Addr) : Inv (X.marked a) pins σ H s := ⟨I.ok.marked a, I.os, I.bare, I.base, I.loc, I.cell, I.free, I.freeC, I.pin, I.hok, I.len⟩
theorem Inv.unmarked {a : Addr} (I : Inv (X.marked a) pins σ H s) (ok : X.Ok) : Inv X pins σ H s := ⟨ok, I.os, I.bare, I.base, I.loc, I.cell, I.free, I.freeC, I.pin, I.hok, I.len⟩
theorem SP.unmarked {a : Addr} {D : Ends} {f : Flow} (h : SP (X.marked a) pins D f s') (ok : X.Ok) : SP X pins D f s' := by
  cases f with
  | next => obtain ⟨σ', H', I, q⟩ := h; exact ⟨σ', H', I.unmarked ok, q⟩
  | brk => obtain ⟨σ', H', I, q⟩ := h; exact ⟨σ', H', I.unmarked ok, q⟩
  | cont => obtain ⟨σ', H', I, q⟩ := h; exact ⟨σ', H', I.unmarked ok, q⟩
  | ret u => obtain ⟨v, σ', H', I, r, q⟩ := h; exact ⟨v, σ', H', I.unmarked ok, r, q⟩
theorem Inv.flown {B h2 : Heap} (I : Inv X pins σ H s) (os : s'.os = s.os) (bare : AllBare s'.gens) (un : Un (frs X.stack) [] H H' s.heap s'.heap) (hB : HOk X.prog X.w H' B) (ff : s'.heap.FunFrames B X.stack)
    (kU : ∀ b o, s.heap.get? b = some o → H b = none → b ∉ frs X.stack → B.get? b = some o) (kT : ∀ b o, s.heap.get? b = some o → b ∉ frs X.stack → ∃ o', B.get? b = some o') (st : B.StaysIn h2) (us : s'.heap.UpToSlots h2) :
    Inv X pins σ H' { s' with heap := h2 } := by
  have cs : ∀ b ∈ frs X.stack, ∀ o, s'.heap.get? b = some o → ∃ sl, h2.get? b = some { o with slots := sl } := fun b hb o e => by
    obtain ⟨_, o', e', hd⟩ := ff.mem hb
    rw [e] at e'; cases e'
    exact us b o e hd
  have u2 : Un (frs X.stack) [] H H' s.heap h2 := {
    keep := fun b o e n hb _ => st b o (kU b o e n hb)
    slot := fun b o e n hb hx => by
      obtain ⟨sl, e1⟩ := un.slot b o e n hb hx
      obtain ⟨sl', e2⟩ := cs b hb _ e1
      exact ⟨sl', e2⟩
    free := un.free
    there := fun b o e hx => by
      by_cases hb : b ∈ frs X.stack
      · obtain ⟨o2, e2⟩ := un.there b o e hx
        obtain ⟨sl, e3⟩ := cs b hb _ e2
        exact ⟨_, e3⟩
      · obtain ⟨o2, e2⟩ := kT b o e hb
        exact ⟨o2, st b o2 e2⟩
    tups := un.tups
    frzs := un.frzs
    tbls := un.tbls }
  obtain ⟨hh, g, d, t, os'⟩ := s'
  obtain rfl : os' = s.os := os
  show Inv X pins σ H' { s with heap := h2, gens := g, drawn := d, toks := t }
  exact I.call (h' := h2) (g' := g) (d' := d) (t' := t) (ch := []) u2 (hB.kept st) bare (fun b z => absurd z (by simp))
end
structure Meets1 (X : Cx) (x : Str) (T : Addr) (C : Addr) (b : Bool) : Prop where
  gl : Gl X x
  m : X.mg x = some (.ref T)
  ex : PySem.W.exmOne X.K (.ref C) (.ref T) = some b
  db : (x == ("__debug__" : Str)) = false
section
variable {X : Cx} {pins : List (Addr × Obj)} {σ : St} {H : Hp} {s s' : Shared} {E : XK} {ex : Value} {x : Str} {T : Addr} {np hpos : Pos} {b0 : Stmt} {suite : List Stmt} {ts : TS} {D : Ends} {Q0 : Hp → Prop}
end
section
variable {X : Cx} {k : Nat} {f : Addr} {fd : FuncData} {ps : List Str} {sp : Sp} {dvs : List V} {ds : List Value} {fx x cx : Str} {p cpos px apos np hpos pos : Pos} {e : Expr} {es : List Expr} {t : TA} {T : Addr} {b0 : Stmt} {suite : List Stmt} {ts : TS} {i : Nat}
end
end L2

namespace L2
open PySem PySem.Spec PyProof.Rows

section
variable {prog : Program} {w : World} {A : Around} {R : Result → Shared → Prop} {s : Shared}
end

section
variable {X : Cx} {pins : List (Addr × Obj)} {σ : St} {H : Hp} {s3 s4 : Shared} {tg : Str} {sc : Scope} {fr : List (Str × Nat)} {fp : List Addr} {cl : List (Str × Addr)}
noncomputable def inSt (σ : St) (fr : List (Str × Nat)) : St := fr.map fun p => (σ[p.2]?).join
end

noncomputable def tLC (fr : List (Str × Nat)) (wi : TI) (te : TE) : TE := fun σ H Q => wi σ H fun J H1 => ∀ acc, H1 acc = none → ∃ W : Nat → Nat → Hp → Prop, (∃ m, W 0 m (upd H1 acc (.lst []))) ∧ ∀ i m H2, W i m H2 →
  (J.stop i H2 ∧ Q (.ref acc) H2) ∨ (J.go i H2 ∧ ∀ x H3, J.yld i H2 x H3 → te (some x :: inSt σ fr) H3 fun v H4 => ∃ xs m', H4 acc = some (.lst xs) ∧ xs.length < sizeLine ∧ m' < m ∧ W (i + 1) m' (upd H4 acc (.lst (xs ++ [v]))))
section
variable {X : Cx} {elt iter : Expr} {x : Str} {px pos : Pos} {sc : Scope} {fr : List (Str × Nat)} {wi : TI} {te : TE}
end
end L2

namespace L2
open PySem PySem.Spec PyProof.Rows
section
variable {X : Cx}
end
section
variable {X : Cx} {elt iter : Expr} {x : Str} {px pos : Pos} {sc : Scope} {fr : List (Str × Nat)} {wi : TI} {te : TE}
end
end L2

namespace L2
open PySem PySem.Spec PyProof.Rows
end L2

namespace L2
open PySem
end L2

namespace L2
open PySem
end L2

namespace L2
open PySem
noncomputable def tInts (ns : List Int) : TA := fun _ H Q => Q (ns.map V.int) H
end L2

namespace L2
open PySem PySem.Spec PyProof.Rows
section
variable {prog : Program} {w : World} {A : Around} {R : Result → Shared → Prop} {s : Shared}
end
section
variable {X : Cx} {pins : List (Addr × Obj)} {σ : St} {H : Hp} {s3 s4 : Shared} {tgs : List Str} {sc : Scope} {fr : List (Str × Nat)} {fp : List Addr} {cl : List (Str × Addr)}
end


section
variable {X : Cx} {elt iter tg : Expr} {ifs : List Expr} {tgs : List Str} {pos : Pos} {sc : Scope} {fr : List (Str × Nat)} {wi : TI} {te : TE} {g : TG} {tc : TT}
end
end L2

namespace L2
open PySem PySem.Spec PyProof.Rows
section
variable {X : Cx}
end
end L2

namespace My
noncomputable def qv (a b : Int) : Rat := (a : Rat) / (b : Rat)
theorem cast_ne {b : Int} (h : b ≠ 0) : (b : Rat) ≠ 0 := fun z => h (Rat.intCast_inj.mp z)
theorem qv_eq {a b t m : Int} (hb : b ≠ 0) (hm : m ≠ 0) (h : a * m = t * b) : qv a b = qv t m := by
  have hb' := cast_ne hb
  have hm' := cast_ne hm
  have h' : (a : Rat) * m = t * b := by rw [← Rat.intCast_mul, ← Rat.intCast_mul, h]
  unfold qv
  grind
theorem eq_of_qv {a b t m : Int} (hb : b ≠ 0) (hm : m ≠ 0) (h : qv a b = qv t m) : a * m = t * b := by
  have hb' := cast_ne hb
  have hm' := cast_ne hm
  unfold qv at h
  refine Rat.intCast_inj.mp ?_
  rw [Rat.intCast_mul, Rat.intCast_mul]
  grind
end My

namespace My
end My

namespace My
noncomputable def leap (y : Int) : Bool := if y % 4 = 0 then (if y % 100 = 0 then decide (y % 400 = 0) else true) else false
noncomputable def mls : List Int := [31, 28, 31, 30, 31, 30, 31, 31, 30, 31, 30, 31]
noncomputable def ml (L : Bool) (m : Int) : Int := if m = 2 ∧ L = true then 29 else mls.getD (m - 1).toNat 0
noncomputable def mlen (y m : Int) : Int := ml (leap y) m
noncomputable def bf (L : Bool) (m : Int) : Int := ((List.range (m - 1).toNat).map fun i : Nat => ml L (1 + i)).sum
noncomputable def ybeg (y : Int) : Int := 365 * (y - 1) + (y - 1) / 4 - (y - 1) / 100 + (y - 1) / 400
noncomputable def ylen (L : Bool) : Int := if L then 366 else 365
theorem ybeg_next (y : Int) : ybeg (y + 1) = ybeg y + ylen (leap y) := by
  unfold ybeg ylen leap
  by_cases h4 : y % 4 = 0
  · rw [if_pos h4]
    by_cases h1 : y % 100 = 0
    · rw [if_pos h1]
      by_cases h3 : y % 400 = 0
      · rw [decide_eq_true h3, if_pos rfl]; omega
      · rw [decide_eq_false h3, if_neg (by decide)]; omega
    · rw [if_neg h1, if_pos rfl]; omega
  · rw [if_neg h4, if_neg (by decide)]; omega
theorem m_cases {m : Int} (h1 : 1 ≤ m) (h2 : m ≤ 12) : m = 1 ∨ m = 2 ∨ m = 3 ∨ m = 4 ∨ m = 5 ∨ m = 6 ∨ m = 7 ∨ m = 8 ∨ m = 9 ∨ m = 10 ∨ m = 11 ∨ m = 12 := by omega
theorem bf_next {L : Bool} {m : Int} (h1 : 1 ≤ m) (h2 : m ≤ 12) : bf L (m + 1) = bf L m + ml L m := by
  cases L <;> rcases m_cases h1 h2 with h | h | h | h | h | h | h | h | h | h | h | h <;> subst h <;> decide
theorem bf_first (L : Bool) : bf L 1 = 0 := by cases L <;> decide
theorem bf_last (L : Bool) : bf L 13 = ylen L := by cases L <;> decide
theorem ml_pos {L : Bool} {m : Int} (h1 : 1 ≤ m) (h2 : m ≤ 12) : 28 ≤ ml L m ∧ ml L m ≤ 31 := by
  cases L <;> rcases m_cases h1 h2 with h | h | h | h | h | h | h | h | h | h | h | h <;> subst h <;> decide
noncomputable def dayOf (y m e : Int) : Int := ybeg y + bf (leap y) m + e - 1
structure Valid (y m e : Int) : Prop where
  y1 : 1 ≤ y
  y2 : y ≤ 9999
  m1 : 1 ≤ m
  m2 : m ≤ 12
  e1 : 1 ≤ e
  e2 : e ≤ mlen y m
theorem bf_mono {L : Bool} {m n : Int} (h1 : 1 ≤ m) (h : m < n) (h2 : n ≤ 13) : bf L m + ml L m ≤ bf L n := by
  have key : ∀ (k : Nat) (n : Int), n = m + 1 + k → n ≤ 13 → bf L m + ml L m ≤ bf L n := by
    intro k
    induction k with
    | zero =>
      intro n hn hn2
      have e : n = m + 1 := by omega
      rw [e, bf_next h1 (by omega)]
      exact Int.le_refl _
    | succ k ih =>
      intro n hn hn2
      have q := ih (n - 1) (by omega) (by omega)
      have e := bf_next (L := L) (m := n - 1) (by omega) (by omega)
      rw [Int.sub_add_cancel] at e
      have p := (ml_pos (L := L) (m := n - 1) (by omega) (by omega)).1
      omega
  exact key (n - m - 1).toNat n (by omega) h2
theorem Valid.range {y m e : Int} (v : Valid y m e) : ybeg y ≤ dayOf y m e ∧ dayOf y m e < ybeg (y + 1) := by
  have h1 : 0 ≤ bf (leap y) m := by
    by_cases h : m = 1
    · rw [h, bf_first]; exact Int.le_refl _
    · have q := bf_mono (L := leap y) (m := 1) (n := m) (by omega) (by have := v.m1; omega) (by have := v.m2; omega)
      have p := (ml_pos (L := leap y) (m := 1) (by omega) (by omega)).1
      rw [bf_first] at q
      omega
  have h2 := bf_mono (L := leap y) (m := m) (n := 13) v.m1 (by have := v.m2; omega) (by omega)
  rw [bf_last] at h2
  have h3 := ybeg_next y
  have h4 := v.e2
  have h5 := v.e1
  unfold mlen at h4
  unfold dayOf
  omega
theorem ybeg_mono {y z : Int} (h : y ≤ z) : ybeg y ≤ ybeg z := by unfold ybeg; omega
theorem Valid.inj {y m e y' m' e' : Int} (v : Valid y m e) (v' : Valid y' m' e') (h : dayOf y m e = dayOf y' m' e') : y = y' ∧ m = m' ∧ e = e' := by
  have r := v.range
  have r' := v'.range
  have hy : y = y' := by
    rcases Int.lt_trichotomy y y' with q | q | q
    · have := ybeg_mono (show y + 1 ≤ y' by omega); omega
    · exact q
    · have := ybeg_mono (show y' + 1 ≤ y by omega); omega
  subst hy
  have a := v.e2; have a' := v'.e2; have b := v.e1; have b' := v'.e1
  unfold mlen at a a'
  unfold dayOf at h
  have hm : m = m' := by
    rcases Int.lt_trichotomy m m' with q | q | q
    · have := bf_mono (L := leap y) v.m1 q (by have := v'.m2; omega); omega
    · exact q
    · have := bf_mono (L := leap y) v'.m1 q (by have := v.m2; omega); omega
  subst hm
  refine ⟨rfl, rfl, by omega⟩
end My

namespace L2
open PySem PySem.Spec PyProof.Rows
noncomputable def rIsN : R2 := fun x y H Q => y = .non ∧ Q (.bl (decide (x = .non))) H
noncomputable def rNotN : R2 := fun x y H Q => y = .non ∧ Q (.bl (!decide (x = .non))) H
theorem op_isN' {X : Cx} : OpR X (compareOp .Is) rIsN := op_isN
noncomputable def MkT (xs : List V) (H : Hp) (Q : VK) : Prop := xs.length ≤ sizeLine ∧ ∀ p, H p = none → Q (.ref p) (upd H p (.tup xs))
noncomputable def MkL (xs : List V) (H : Hp) (Q : VK) : Prop := xs.length ≤ sizeLine ∧ ∀ p, H p = none → Q (.ref p) (upd H p (.lst xs))
inductive SetTo : St → Nat → Option V → St → Prop
  | here {x : Option V} {r : St} {v : Option V} : SetTo (x :: r) 0 v (v :: r)
  | next {x : Option V} {r : St} {v : Option V} {i : Nat} {r' : St} : SetTo r i v r' → SetTo (x :: r) (i + 1) v (x :: r')
theorem SetTo.eq {σ σ' : St} {i : Nat} {v : Option V} (h : SetTo σ i v σ') : σ.set i v = σ' := by
  induction h with
  | here => rfl
  | next _ ih => rw [List.set_cons_succ, ih]
inductive GetTo : St → Nat → V → Prop
  | here {v : V} {r : St} : GetTo (some v :: r) 0 v
  | next {x : Option V} {r : St} {v : V} {i : Nat} : GetTo r i v → GetTo (x :: r) (i + 1) v
theorem GetTo.eq {σ : St} {i : Nat} {v : V} (h : GetTo σ i v) : σ[i]? = some (some v) := by
  induction h with
  | here => rfl
  | next _ ih => rw [List.getElem?_cons_succ, ih]
section
variable {σ σ' : St} {H : Hp} {Q : VK} {i j : Int} {k : Nat} {v x y : V} {te ta tb tc : TE} {t u : TS} {nx bk ct : St → Hp → Prop} {rt : VK} {c d : TT} {R : Bool → Hp → Prop} {r r' : R2} {b : Bool}
theorem z_var (h : GetTo σ k v) (q : Q v H) : tVar k σ H Q := ⟨v, h.eq, q⟩
theorem z_c (q : Q v H) : tC v σ H Q := q
theorem z_op (h : ta σ H fun x H1 => tb σ H1 fun y H2 => r x y H2 Q) : tOp r ta tb σ H Q := h
theorem z_un {r : V → Hp → VK → Prop} (h : ta σ H fun x H1 => r x H1 Q) : tUn r ta σ H Q := h
theorem z_I {C : Int → Int → Prop} {g : Int → Int → V} (hc : C i j) (q : Q (g i j) H) : rI C g (.int i) (.int j) H Q := ⟨i, j, rfl, rfl, hc, q⟩
theorem z_I0 {g : Int → Int → V} (q : Q (g i j) H) : rI0 g (.int i) (.int j) H Q := ⟨i, j, rfl, rfl, q⟩
theorem z_U {g : Int → V} (q : Q (g i) H) : rU g (.int i) H Q := ⟨i, rfl, q⟩
theorem zdec_int : decide (V.int i = V.int j) = decide (i = j) := by
  by_cases h : i = j
  · subst h; simp
  · rw [decide_eq_false h, decide_eq_false (fun z => h (V.int.inj z))]
theorem zdec_str {a b : Str} : decide (V.str a = V.str b) = decide (a = b) := by
  by_cases h : a = b
  · subst h; simp
  · rw [decide_eq_false h, decide_eq_false (fun z => h (V.str.inj z))]
theorem z_EqI (q : Q (.bl (decide (i = j))) H) : rEq (.int i) (.int j) H Q := ⟨rfl, by rw [zdec_int]; exact q⟩
theorem z_NeI (q : Q (.bl (!decide (i = j))) H) : rNe (.int i) (.int j) H Q := ⟨rfl, by rw [zdec_int]; exact q⟩
theorem z_EqS {a b : Str} (q : Q (.bl (decide (a = b))) H) : rEq (.str a) (.str b) H Q := ⟨rfl, by rw [zdec_str]; exact q⟩
theorem z_NeS {a b : Str} (q : Q (.bl (!decide (a = b))) H) : rNe (.str a) (.str b) H Q := ⟨rfl, by rw [zdec_str]; exact q⟩
theorem z_test (h : te σ H fun x H' => ∃ k, x = .bl k ∧ R k H') : tTest te σ H R := h
theorem z_tB (h : te σ H fun x H' => ∃ k, x = .bl k ∧ R k H') : tB te σ H R := h
theorem z_ebl {S : Bool → Prop} (q : S b) : ∃ k, V.bl b = .bl k ∧ S k := ⟨b, rfl, q⟩
theorem z_and (h : c σ H fun k H1 => if k = true then d σ H1 R else R false H1) : tAnd c d σ H R := h
theorem z_or (h : c σ H fun k H1 => if k = true then R true H1 else d σ H1 R) : tOr c d σ H R := h
theorem z_not (h : c σ H fun k H1 => R (!k) H1) : tNot c σ H R := h
theorem z_andV (h : ta σ H fun x H1 => ∃ c, x = .bl c ∧ if c = true then tb σ H1 Q else Q (.bl false) H1) : tAndV ta tb σ H Q := h
theorem z_orV (h : ta σ H fun x H1 => ∃ c, x = .bl c ∧ if c = true then Q (.bl true) H1 else tb σ H1 Q) : tOrV ta tb σ H Q := h
theorem z_notV (h : ta σ H fun x H1 => ∃ c, x = .bl c ∧ Q (.bl (!c)) H1) : tNotV ta σ H Q := h
theorem z_if (h : c σ H fun k H1 => if k = true then ta σ H1 Q else tb σ H1 Q) : tIf c ta tb σ H Q := h
theorem z_chain (h : ta σ H fun x H1 => tb σ H1 fun y H2 => r x y H2 fun z H3 => ∃ k, z = .bl k ∧ (if k = true then tc σ H3 fun w' H4 => r' y w' H4 Q else Q (.bl false) H3)) : tChain r r' ta tb tc σ H Q := h
theorem z_nil {S : List V → Hp → Prop} (q : S [] H) : tNil σ H S := q
theorem z_cons {S : List V → Hp → Prop} {tr : TA} (h : ta σ H fun x H1 => tr σ H1 fun xs H2 => S (x :: xs) H2) : tCons ta tr σ H S := h
theorem z_seq (h : t ⟨u ⟨nx, rt, bk, ct⟩, rt, bk, ct⟩ σ H) : tSeq t u ⟨nx, rt, bk, ct⟩ σ H := h
theorem z_next (h : nx σ H) : tNext ⟨nx, rt, bk, ct⟩ σ H := h
theorem z_drop (h : te σ H fun _ H1 => nx σ H1) : tDrop te ⟨nx, rt, bk, ct⟩ σ H := h
theorem z_ret (h : te σ H rt) : tRet te ⟨nx, rt, bk, ct⟩ σ H := h
theorem z_ifs (h : c σ H fun b H1 => if b = true then t ⟨nx, rt, bk, ct⟩ σ H1 else u ⟨nx, rt, bk, ct⟩ σ H1) : tIfS c t u ⟨nx, rt, bk, ct⟩ σ H := h
theorem z_asg {g : TG} (h : te σ H fun x H1 => g x σ H1 nx) : tAsg te g ⟨nx, rt, bk, ct⟩ σ H := h
theorem z_name {S : St → Hp → Prop} (h : SetTo σ k (some v) σ') (q : S σ' H) : gName k v σ H S := by
  show S (σ.set k (some v)) H
  rw [h.eq]; exact q
theorem z_par {i j : Nat} {tA : TA} (h : tA σ H fun vs H1 => ∃ v w, vs = [v, w] ∧ nx ((σ.set i (some v)).set j (some w)) H1) : tPar i j tA ⟨nx, rt, bk, ct⟩ σ H := h
theorem z_par2 {i j : Nat} {v w : V} {σ2 : St} (h1 : SetTo σ i (some v) σ') (h2 : SetTo σ' j (some w) σ2) (q : nx σ2 H) : ∃ v' w', [v, w] = [v', w'] ∧ nx ((σ.set i (some v')).set j (some w')) H := ⟨v, w, rfl, by rw [h1.eq, h2.eq]; exact q⟩
theorem z_iteD {c A B : Prop} [Decidable c] (h1 : c → A) (h2 : ¬ c → B) : if decide c = true then A else B := by
  by_cases h : c
  · rw [decide_eq_true h]; exact iteT (h1 h)
  · rw [decide_eq_false h]; exact iteF (h2 h)
theorem z_iteNb {b : Bool} {A B : Prop} (h : if b = true then B else A) : if (!b) = true then A else B := by
  cases b with
  | true => exact iteF h
  | false => exact iteT h
theorem z_ite2 {b : Bool} {A B : Prop} (h1 : b = true → A) (h2 : b = false → B) : if b = true then A else B := by
  cases b with
  | true => exact iteT (h1 rfl)
  | false => exact iteF (h2 rfl)
theorem z_call0 {sp : Sp} {E : XK} {tA : TA} (h : tA σ H fun vs H1 => sp vs H1 Q E) : tCall sp [] E tA σ H Q := by
  unfold tCall
  simpa using h
theorem z_callD {sp : Sp} {E : XK} {tA : TA} {w : V} (h : tA σ H fun vs H1 => sp (vs ++ [w]) H1 Q E) : tCall sp [w] E tA σ H Q := h
theorem z_cb {rr : List V → Hp → VK → Prop} {tA : TA} (h : tA σ H fun vs H1 => rr vs H1 Q) : tCB rr tA σ H Q := h
theorem z_e1 {S : Int → Prop} (q : S i) : ∃ i', [V.int i] = [.int i'] ∧ S i' := ⟨i, rfl, q⟩
theorem z_e2 {S : Int → Int → Prop} (q : S i j) : ∃ i' j', [V.int i, V.int j] = [.int i', .int j'] ∧ S i' j' := ⟨i, j, rfl, q⟩
theorem z_tup {tA : TA} (h : tA σ H fun xs H1 => MkT xs H1 Q) : tTup tA σ H Q := h
theorem z_mkt {xs : List V} (hl : xs.length ≤ 100) (q : ∀ p H', H p = none → Same H H' → H' p = some (.tup xs) → Q (.ref p) H') : MkT xs H Q :=
  ⟨Nat.le_trans hl (by decide), fun p hp => q p _ hp (Same.new hp _) upd_same⟩
theorem z_ixT {K : PySem.W.Frag} {p : Addr} {xs : List V} (hs : SqT K H p xs) (ha : atI xs i = some v) (q : Q v H) : rIxT K (.ref p) (.int i) H Q := ⟨p, xs, i, v, rfl, rfl, hs, ha, q⟩
theorem z_ixL {K : PySem.W.Frag} {p : Addr} {xs : List V} (hs : SqL K H p xs) (ha : atI xs i = some v) (q : Q v H) : rIxL K (.ref p) (.int i) H Q := ⟨p, xs, i, v, rfl, rfl, hs, ha, q⟩
theorem z_nonN (q : Q (.bl true) H) : rIsN .non .non H Q := ⟨rfl, q⟩
theorem z_nonI (q : Q (.bl false) H) : rIsN (.int i) .non H Q := ⟨rfl, q⟩
theorem z_nonS {a : Str} (q : Q (.bl false) H) : rIsN (.str a) .non H Q := ⟨rfl, q⟩
theorem z_nonR {p : Addr} (q : Q (.bl false) H) : rIsN (.ref p) .non H Q := ⟨rfl, q⟩
theorem z_notN (q : Q (.bl false) H) : rNotN .non .non H Q := ⟨rfl, q⟩
theorem z_notI (q : Q (.bl true) H) : rNotN (.int i) .non H Q := ⟨rfl, q⟩
theorem z_notS {a : Str} (q : Q (.bl true) H) : rNotN (.str a) .non H Q := ⟨rfl, q⟩
theorem z_notR {p : Addr} (q : Q (.bl true) H) : rNotN (.ref p) .non H Q := ⟨rfl, q⟩
theorem z_len {K : PySem.W.Frag} {p : Addr} {ys : List V} {S : List V → Prop} (hs : SqL K H p ys ∨ SqT K H p ys) (q : S ys) : ∃ p' ys', [V.ref p] = [V.ref p'] ∧ (SqL K H p' ys' ∨ SqT K H p' ys') ∧ S ys' := ⟨p, ys, rfl, hs, q⟩
theorem z_toI {S1 S2 : Int → Prop} {S3 : Bool → Prop} (q : S1 i) : (∃ i', [V.int i] = [.int i'] ∧ S1 i') ∨ ∃ k, [V.int i] = [.bl k] ∧ S3 k := .inl ⟨i, rfl, q⟩
theorem z_toB {S1 : Int → Prop} {S3 : Bool → Prop} (q : S3 b) : (∃ i', [V.bl b] = [.int i'] ∧ S1 i') ∨ ∃ k, [V.bl b] = [.bl k] ∧ S3 k := .inr ⟨b, rfl, q⟩
theorem z_gtup {K : PySem.W.Frag} {p : Addr} {n : Nat} {tg : TGs} {xs : List V} {S : St → Hp → Prop} (hs : SqT K H p xs) (hl : xs.length = n) (q : tg xs σ H S) : gTup K n tg (.ref p) σ H S := ⟨p, xs, rfl, hs, hl, q⟩
theorem z_gnil {S : St → Hp → Prop} (q : S σ H) : gNil [] σ H S := ⟨rfl, q⟩
theorem z_gcons {g : TG} {tg : TGs} {v : V} {r : List V} {S : St → Hp → Prop} (q : g v σ H fun σ' H' => tg r σ' H' S) : gCons g tg (v :: r) σ H S := ⟨v, r, rfl, q⟩
theorem z_sl {r : V → Option Int → Option Int → Hp → VK → Prop} {tl th : TO} (h : te σ H fun x H1 => tl σ H1 fun l H2 => th σ H2 fun u H3 => r x l u H3 Q) : tSl r te tl th σ H Q := h
theorem z_noP {S : Option Int → Hp → Prop} (q : S none H) : tNoPart σ H S := q
theorem z_part {S : Option Int → Hp → Prop} (h : te σ H fun x H1 => ∃ i, x = .int i ∧ S (some i) H1) : tPart te σ H S := h
theorem z_eint {S : Int → Prop} (q : S i) : ∃ i', V.int i = .int i' ∧ S i' := ⟨i, rfl, q⟩
theorem z_lst {tA : TA} (h : tA σ H fun xs H1 => MkL xs H1 Q) : tLst tA σ H Q := h
theorem z_mkl {xs : List V} (hl : xs.length ≤ 100) (q : ∀ p H', H p = none → Same H H' → H' p = some (.lst xs) → Q (.ref p) H') : MkL xs H Q :=
  ⟨Nat.le_trans hl (by decide), fun p hp => q p _ hp (Same.new hp _) upd_same⟩
theorem z_cat {l m : Addr} {xs zs : List V} (h1 : H l = some (.lst xs)) (h2 : H m = some (.lst zs)) (hl : xs.length + zs.length ≤ sizeLine) (q : ∀ p H', Same H H' → H' p = some (.lst (xs ++ zs)) → Q (.ref p) H') : rCat (.ref l) (.ref m) H Q :=
  ⟨l, m, xs, zs, rfl, rfl, h1, h2, hl, fun p hp => q p _ (Same.new hp _) upd_same⟩
theorem z_bm {K : PySem.W.Frag} {T : String} {rr : V → List V → Hp → VK → Prop} {tA : TA} (h : te σ H fun x H1 => tyV K T x H1 ∧ tA σ H1 fun xs H2 => rr x xs H2 Q) : tBM K T rr te tA σ H Q := h
end
theorem sm2 {A B C : Hp} (g : Same B C) (h : Same A B) : Same A C := h.trans g
noncomputable def But (l : Addr) (H H' : Hp) : Prop := ∀ b o, b ≠ l → H b = some o → H' b = some o
theorem But.upd {H : Hp} {l : Addr} {o : HO} : But l H (upd H l o) := fun b u hb q => by rw [upd_ne hb]; exact q
theorem But.tup {K : PySem.W.Frag} {H H' : Hp} {l a : Addr} {xs ys : List V} (e : But l H H') (hl : H l = some (.lst ys)) (h : SqT K H a xs) : SqT K H' a xs := by
  rcases h with (h | ⟨o, h⟩) | h
  · exact .inl (.inl (e _ _ (fun z => by rw [z, hl] at h; cases h) h))
  · exact .inl (.inr ⟨o, e _ _ (fun z => by rw [z, hl] at h; cases h) h⟩)
  · exact .inr h
theorem But.seq {K : PySem.W.Frag} {H H' : Hp} {l a : Addr} {xs : List V} (e : But l H H') (hne : a ≠ l) (h : SqL K H a xs) : SqL K H' a xs := by
  rcases h with (h | ⟨o, h⟩) | h
  · exact .inl (.inl (e _ _ hne h))
  · exact .inl (.inr ⟨o, e _ _ hne h⟩)
  · exact .inr h
section
variable {σ σ' : St} {H : Hp} {Q : VK}
end
section
variable {σ : St} {H : Hp} {te : TE} {tb : TS} {g : TG} {nx bk ct : St → Hp → Prop} {rt : VK} {wi : TI} {K : PySem.W.Frag} {a : Addr} {xs : List V}
noncomputable def FW (J : It) (g : TG) (tb : TS) (nx : St → Hp → Prop) (rt : VK) (σ : St) (H : Hp) : Prop := ∃ W : Nat → Nat → St → Hp → Prop, (∃ m, W 0 m σ H) ∧ ∀ i m σ H, W i m σ H →
  (J.stop i H ∧ nx σ H) ∨ (J.go i H ∧ ∃ N : St → Hp → Prop, (∀ σ' H', N σ' H' → ∃ m', m' < m ∧ W (i + 1) m' σ' H') ∧ ∀ x H', J.yld i H x H' → g x σ H' fun σ2 H2 => tb ⟨N, rt, nx, N⟩ σ2 H2)
theorem z_for (h : wi σ H fun J H1 => FW J g tb nx rt σ H1) : tFor wi g tb ⟨nx, rt, bk, ct⟩ σ H := h
theorem z_iL {R : It → Hp → Prop} (h : te σ H fun x H1 => ∃ a, x = .ref a ∧ (∃ xs, SqL K H1 a xs) ∧ R (Itl K a) H1) : iList K te σ H R := h
theorem z_iT {R : It → Hp → Prop} (h : te σ H fun x H1 => ∃ a, x = .ref a ∧ (∃ xs, SqT K H1 a xs) ∧ R (Itt K a) H1) : iTup K te σ H R := h
theorem z_iL2 {S : Addr → Prop} (hs : SqL K H a xs) (q : S a) : ∃ a', V.ref a = .ref a' ∧ (∃ xs, SqL K H a' xs) ∧ S a' := ⟨a, rfl, ⟨xs, hs⟩, q⟩
theorem z_iT2 {S : Addr → Prop} (hs : SqT K H a xs) (q : S a) : ∃ a', V.ref a = .ref a' ∧ (∃ xs, SqT K H a' xs) ∧ S a' := ⟨a, rfl, ⟨xs, hs⟩, q⟩
theorem z_iR1 {tA : TA} {R : It → Hp → Prop} (h : tA σ H fun vs H1 => ∃ j : Int, vs = [.int j] ∧ -(2 ^ 62) ≤ j ∧ j < 2 ^ 62 ∧ R (Itr 0 j.toNat) H1) : iRng1 tA σ H R := h
theorem z_iR2 {tA : TA} {R : It → Hp → Prop} (h : tA σ H fun vs H1 => ∃ i j : Int, vs = [.int i, .int j] ∧ (-(2 ^ 62) ≤ i ∧ i < 2 ^ 62 ∧ -(2 ^ 62) ≤ j ∧ j < 2 ^ 62) ∧ R (Itr i (j - i).toNat) H1) : iRng2 tA σ H R := h
theorem z_iR3 {tA : TA} {R : It → Hp → Prop} (h : tA σ H fun vs H1 => ∃ i j c : Int, vs = [.int i, .int j, .int c] ∧ 0 < c ∧ c < 1073741824 ∧ Builtin.Range.small i j c = true ∧ R (Itr3 i c (rngN i j c)) H1) : iRng3 tA σ H R := h
theorem z_r1c {J : It} {j : Int} (h1 : -(2 ^ 62) ≤ j) (h2 : j < 2 ^ 62) (q : FW J g tb nx rt σ H) : -(2 ^ 62) ≤ j ∧ j < 2 ^ 62 ∧ FW J g tb nx rt σ H := ⟨h1, h2, q⟩
theorem z_r2c {J : It} {i j : Int} (h1 : -(2 ^ 62) ≤ i) (h2 : i < 2 ^ 62) (h3 : -(2 ^ 62) ≤ j) (h4 : j < 2 ^ 62) (q : FW J g tb nx rt σ H) : (-(2 ^ 62) ≤ i ∧ i < 2 ^ 62 ∧ -(2 ^ 62) ≤ j ∧ j < 2 ^ 62) ∧ FW J g tb nx rt σ H := ⟨⟨h1, h2, h3, h4⟩, q⟩
theorem f_list (Pv : Nat → St → Hp → Prop) (h0 : Pv 0 σ H) (hl : ∀ i σ H, i ≤ xs.length → Pv i σ H → SqL K H a xs)
    (hs : ∀ i x σ H, xs[i]? = some x → Pv i σ H → g x σ H fun σ2 H2 => tb ⟨Pv (i + 1), rt, nx, Pv (i + 1)⟩ σ2 H2) (hd : ∀ σ H, Pv xs.length σ H → nx σ H) : FW (Itl K a) g tb nx rt σ H := for_list (D := ⟨nx, rt, nx, nx⟩) Pv h0 hl hs hd
theorem z_whN {W : Nat → St → Hp → Prop} {m : Nat} (h : tb ⟨fun σ' H' => ∃ m', m' < m ∧ W m' σ' H', rt, nx, fun σ' H' => ∃ m', m' < m ∧ W m' σ' H'⟩ σ H) : ∃ N : St → Hp → Prop, (∀ σ' H', N σ' H' → ∃ m', m' < m ∧ W m' σ' H') ∧ tb ⟨N, rt, nx, N⟩ σ H := ⟨_, fun _ _ z => z, h⟩
end
noncomputable def IsiG (K : PySem.W.Frag) (n : String) (f : Tg → Bool) (xs : List V) (H : Hp) (Q : VK) : Prop := rIsi K n f xs H Q
theorem z_isi0 {K : PySem.W.Frag} {n : String} {f : Tg → Bool} {xs : List V} {H : Hp} {Q : VK} (h : IsiG K n f xs H Q) : rIsi K n f xs H Q := h
section
variable {H : Hp} {Q : VK} {K : PySem.W.Frag} {i : Int} {a : Str} {b : Bool} {p : Addr} {xs : List V}
theorem z_isN_int (q : Q (.bl false) H) : IsiG K "int" Tg.isInt [.non, .ty "int"] H Q := ⟨_, .non, rfl, True.intro, q⟩
theorem z_isB_int (q : Q (.bl true) H) : IsiG K "int" Tg.isInt [.bl b, .ty "int"] H Q := ⟨_, .bl, rfl, True.intro, q⟩
theorem z_isI_int (q : Q (.bl true) H) : IsiG K "int" Tg.isInt [.int i, .ty "int"] H Q := ⟨_, .int, rfl, True.intro, q⟩
theorem z_isS_int (q : Q (.bl false) H) : IsiG K "int" Tg.isInt [.str a, .ty "int"] H Q := ⟨_, .str, rfl, True.intro, q⟩
theorem z_isT_int (hs : SqT K H p xs) (q : Q (.bl false) H) : IsiG K "int" Tg.isInt [.ref p, .ty "int"] H Q := ⟨_, .tup, rfl, ⟨xs, hs⟩, q⟩
theorem z_isL_int (hs : SqL K H p xs) (q : Q (.bl false) H) : IsiG K "int" Tg.isInt [.ref p, .ty "int"] H Q := ⟨_, .lst, rfl, ⟨xs, hs⟩, q⟩
theorem z_isN_bool (q : Q (.bl false) H) : IsiG K "bool" Tg.isBool [.non, .ty "bool"] H Q := ⟨_, .non, rfl, True.intro, q⟩
theorem z_isB_bool (q : Q (.bl true) H) : IsiG K "bool" Tg.isBool [.bl b, .ty "bool"] H Q := ⟨_, .bl, rfl, True.intro, q⟩
theorem z_isI_bool (q : Q (.bl false) H) : IsiG K "bool" Tg.isBool [.int i, .ty "bool"] H Q := ⟨_, .int, rfl, True.intro, q⟩
theorem z_isS_bool (q : Q (.bl false) H) : IsiG K "bool" Tg.isBool [.str a, .ty "bool"] H Q := ⟨_, .str, rfl, True.intro, q⟩
theorem z_isT_bool (hs : SqT K H p xs) (q : Q (.bl false) H) : IsiG K "bool" Tg.isBool [.ref p, .ty "bool"] H Q := ⟨_, .tup, rfl, ⟨xs, hs⟩, q⟩
theorem z_isL_bool (hs : SqL K H p xs) (q : Q (.bl false) H) : IsiG K "bool" Tg.isBool [.ref p, .ty "bool"] H Q := ⟨_, .lst, rfl, ⟨xs, hs⟩, q⟩
theorem z_isN_str (q : Q (.bl false) H) : IsiG K "str" Tg.isStr [.non, .ty "str"] H Q := ⟨_, .non, rfl, True.intro, q⟩
theorem z_isB_str (q : Q (.bl false) H) : IsiG K "str" Tg.isStr [.bl b, .ty "str"] H Q := ⟨_, .bl, rfl, True.intro, q⟩
theorem z_isI_str (q : Q (.bl false) H) : IsiG K "str" Tg.isStr [.int i, .ty "str"] H Q := ⟨_, .int, rfl, True.intro, q⟩
theorem z_isS_str (q : Q (.bl true) H) : IsiG K "str" Tg.isStr [.str a, .ty "str"] H Q := ⟨_, .str, rfl, True.intro, q⟩
theorem z_isT_str (hs : SqT K H p xs) (q : Q (.bl false) H) : IsiG K "str" Tg.isStr [.ref p, .ty "str"] H Q := ⟨_, .tup, rfl, ⟨xs, hs⟩, q⟩
theorem z_isL_str (hs : SqL K H p xs) (q : Q (.bl false) H) : IsiG K "str" Tg.isStr [.ref p, .ty "str"] H Q := ⟨_, .lst, rfl, ⟨xs, hs⟩, q⟩
theorem z_isN_tuple (q : Q (.bl false) H) : IsiG K "tuple" Tg.isTup [.non, .ty "tuple"] H Q := ⟨_, .non, rfl, True.intro, q⟩
theorem z_isB_tuple (q : Q (.bl false) H) : IsiG K "tuple" Tg.isTup [.bl b, .ty "tuple"] H Q := ⟨_, .bl, rfl, True.intro, q⟩
theorem z_isI_tuple (q : Q (.bl false) H) : IsiG K "tuple" Tg.isTup [.int i, .ty "tuple"] H Q := ⟨_, .int, rfl, True.intro, q⟩
theorem z_isS_tuple (q : Q (.bl false) H) : IsiG K "tuple" Tg.isTup [.str a, .ty "tuple"] H Q := ⟨_, .str, rfl, True.intro, q⟩
theorem z_isT_tuple (hs : SqT K H p xs) (q : Q (.bl true) H) : IsiG K "tuple" Tg.isTup [.ref p, .ty "tuple"] H Q := ⟨_, .tup, rfl, ⟨xs, hs⟩, q⟩
theorem z_isL_tuple (hs : SqL K H p xs) (q : Q (.bl false) H) : IsiG K "tuple" Tg.isTup [.ref p, .ty "tuple"] H Q := ⟨_, .lst, rfl, ⟨xs, hs⟩, q⟩
theorem z_isN_list (q : Q (.bl false) H) : IsiG K "list" Tg.isLst [.non, .ty "list"] H Q := ⟨_, .non, rfl, True.intro, q⟩
theorem z_isB_list (q : Q (.bl false) H) : IsiG K "list" Tg.isLst [.bl b, .ty "list"] H Q := ⟨_, .bl, rfl, True.intro, q⟩
theorem z_isI_list (q : Q (.bl false) H) : IsiG K "list" Tg.isLst [.int i, .ty "list"] H Q := ⟨_, .int, rfl, True.intro, q⟩
theorem z_isS_list (q : Q (.bl false) H) : IsiG K "list" Tg.isLst [.str a, .ty "list"] H Q := ⟨_, .str, rfl, True.intro, q⟩
theorem z_isT_list (hs : SqT K H p xs) (q : Q (.bl false) H) : IsiG K "list" Tg.isLst [.ref p, .ty "list"] H Q := ⟨_, .tup, rfl, ⟨xs, hs⟩, q⟩
theorem z_isL_list (hs : SqL K H p xs) (q : Q (.bl true) H) : IsiG K "list" Tg.isLst [.ref p, .ty "list"] H Q := ⟨_, .lst, rfl, ⟨xs, hs⟩, q⟩
end
theorem bd_mul {m n : Nat} {x y : Int} (h : My.Bd m x) (g : My.Bd n y) : My.Bd (m + n) (x * y) := h.mul g
theorem bd_add {m n : Nat} {x y : Int} (h : My.Bd m x) (g : My.Bd n y) : My.Bd (max m n + 1) (x + y) := (h.mono (show m ≤ max m n by omega)).add (g.mono (show n ≤ max m n by omega))
theorem bd_sub {m n : Nat} {x y : Int} (h : My.Bd m x) (g : My.Bd n y) : My.Bd (max m n + 1) (x - y) := (h.mono (show m ≤ max m n by omega)).sub (g.mono (show n ≤ max m n by omega))
theorem bd_60 {n : Int} (h1 : -1152921504606846976 < n) (h2 : n < 1152921504606846976) : My.Bd 60 n := by unfold My.Bd; omega
theorem Same.but {H H2 H3 : Hp} {l : Addr} (s : Same H H2) (n : H l = none) (b : But l H2 H3) : Same H H3 := fun c o e => b c o (fun z => by rw [z, n] at e; cases e) (s c o e)
theorem z_tyL {K : PySem.W.Frag} {l : Addr} {xs : List V} {H : Hp} {S : Prop} (h : SqL K H l xs) (q : S) : tyV K "list" (.ref l) H ∧ S := ⟨.inl ⟨rfl, xs, h⟩, q⟩
theorem z_joinI {c : TT} {te : TE} {k : Nat} {σ σ' : St} {H : Hp} {R bk ct : St → Hp → Prop} {rt : VK} (b : Bool) (i1 i2 : Int) (hc : ∀ S : Bool → Hp → Prop, S b H → c σ H S) (h1 : b = true → ∀ S : V → Hp → Prop, S (.int i1) H → te σ H S) (hold : GetTo σ k (.int i2)) (hs : SetTo σ k (some (.int (if b = true then i1 else i2))) σ') (q : R σ' H) :
    tIfS c (tAsg te (gName k)) tNext ⟨R, rt, bk, ct⟩ σ H := by
  refine hc _ ?_
  cases b with
  | true =>
    refine iteT (h1 rfl _ ?_)
    show R (σ.set k (some (.int i1))) H
    have := hs.eq
    rw [if_pos rfl] at this
    rw [this]; exact q
  | false =>
    refine iteF ?_
    show R σ H
    have e := hs.eq
    rw [if_neg Bool.false_ne_true] at e
    have e2 : σ.set k (some (.int i2)) = σ := by
      apply List.ext_getElem?
      intro j
      rw [List.getElem?_set]
      split
      · next z =>
        subst z
        have := hold.eq
        rw [this]
        split
        · rfl
        · next y => rw [List.getElem?_eq_none (by omega)] at this; cases this
      · rfl
    rw [← e2, e]; exact q
theorem z_go {N : List Str} {vs : List V} {σ : St} {t : TS} {D : Ends} {H : Hp} (h : start N vs = σ) (q : t D σ H) : t D (start N vs) H := by rw [h]; exact q
end L2

namespace L2
open PySem PySem.Spec PyProof.Rows
end L2

namespace L2
open PySem PySem.Spec PyProof.Rows
section
variable {X : Cx} {elt iter tg : Expr} {ifs : List Expr} {tgs : List Str} {pos : Pos} {sc : Scope} {fr : List (Str × Nat)} {wi : TI} {te : TE} {g : TG} {tc : TT}
end
end L2

namespace L2
open PySem PySem.Spec PyProof.Rows
section
variable {X : Cx} {pins : List (Addr × Obj)} {σ : St} {H : Hp} {s : Shared}
end
end L2

namespace L2
open PySem PySem.Spec PyProof.Rows PySem.W PySem.Calls
end L2

namespace L2
open PySem PySem.Spec PyProof.Rows
section
variable {X : Cx}
noncomputable def rSlS : V → Option Int → Option Int → Hp → VK → Prop := fun x lo hi H Q => ∃ z : Str, x = .str z ∧ z.length ≤ sizeLine ∧ Q (.str (Txt.slice z lo hi)) H
noncomputable def rAddS : R2 := fun x y H Q => ∃ i j, x = .str i ∧ y = .str j ∧ i.length + j.length ≤ sizeLine ∧ Q (.str (i ++ j)) H
end
section
variable {σ : St} {H : Hp} {Q : VK} {K : PySem.W.Frag} {p q : Addr} {xs : List V} {f : Bool → Bool}
theorem z_addS {a b : Str} (h : a.length + b.length ≤ sizeLine) (k : Q (.str (a ++ b)) H) : rAddS (.str a) (.str b) H Q := ⟨a, b, rfl, rfl, h, k⟩
theorem z_slS {z : Str} {lo hi : Option Int} (h : z.length ≤ sizeLine) (k : Q (.str (Txt.slice z lo hi)) H) : rSlS (.str z) lo hi H Q := ⟨z, rfl, h, k⟩
theorem z_tyS {z : Str} {S : Prop} (q : S) : tyV K "str" (.str z) H ∧ S := ⟨rfl, q⟩
end
end L2

namespace L2
open PySem PySem.Spec PyProof.Rows
section
variable {prog : Program} {w : World} {A : Around} {R : Result → Shared → Prop} {I : Addr} {fp wr : List Addr} {n : Nat} {P : Nat → Value → Prop} {St : Nat → Heap → Prop} {kw : List (Str × Value)}
end
section
variable {X : Cx}
end
end L2

namespace L2
open PySem PySem.Spec PyProof.Rows
noncomputable def rIsB : R2 := fun x y H Q => ∃ a b : Bool, x = .bl a ∧ y = .bl b ∧ Q (.bl (a == b)) H
section
variable {σ : St} {H : Hp} {Q : VK}
theorem z_isB {a b : Bool} (q : Q (.bl (a == b)) H) : rIsB (.bl a) (.bl b) H Q := ⟨a, b, rfl, rfl, q⟩
end
noncomputable def LCN (st : St) (J : It) (te : TE) (H1 : Hp) (Q : VK) : Prop := ∀ acc, H1 acc = none → ∃ W : Nat → Nat → Hp → Prop, (∃ m, W 0 m (upd H1 acc (.lst []))) ∧ ∀ i m H2, W i m H2 →
  (J.stop i H2 ∧ Q (.ref acc) H2) ∨ (J.go i H2 ∧ ∀ x H3, J.yld i H2 x H3 → te (some x :: st) H3 fun v H4 => ∃ xs m', H4 acc = some (.lst xs) ∧ xs.length < sizeLine ∧ m' < m ∧ W (i + 1) m' (upd H4 acc (.lst (xs ++ [v]))))
theorem z_lcn {fr : List (Str × Nat)} {wi : TI} {te : TE} {σ : St} {H : Hp} {Q : VK} (h : wi σ H fun J H1 => LCN (inSt σ fr) J te H1 Q) : tLC fr wi te σ H Q := h
theorem z_EqB {H : Hp} {Q : VK} {a b : Bool} (q : Q (.bl (decide (a = b))) H) : rEq (.bl a) (.bl b) H Q := by
  refine ⟨rfl, ?_⟩
  have e : decide (V.bl a = V.bl b) = decide (a = b) := by
    by_cases h : a = b
    · subst h; simp
    · rw [decide_eq_false h, decide_eq_false (fun z => h (V.bl.inj z))]
  rw [e]; exact q
end L2

namespace L2
open PySem PySem.Spec PyProof.Rows PySem.Builtin PySem.Builtin.Str
section
variable {X : Cx}
noncomputable def rStarts : V → List V → Hp → VK → Prop := fun x vs H Q => ∃ z y : Str, x = .str z ∧ vs = [.str y] ∧ Q (.bl (Txt.startswith z y)) H
noncomputable def rAll (K : PySem.W.Frag) : List V → Hp → VK → Prop := fun xs H Q => ∃ (p : Addr) (bs : List Bool), xs = [.ref p] ∧ SqL K H p (bs.map V.bl) ∧ Q (.bl (bs.all fun b => b)) H
noncomputable def tFv (te : TE) : TE := fun σ H Q => te σ H fun x H1 => ∃ i : Int, x = .int i ∧ i.natAbs.log2 < 1920 ∧ Q (.str (Str.ofString (toString i))) H1
noncomputable def tFs : List TE → Str → TE
  | [], acc => fun _ H Q => Q (.str acc) H
  | t :: r, acc => fun σ H Q => t σ H fun x H1 => ∃ a : Str, x = .str a ∧ (acc ++ a).length ≤ sizeLine ∧ tFs r (acc ++ a) σ H1 Q
noncomputable def Its (z : Str) : It := ⟨fun i _ => i < z.cps.size, fun i H x H' => H' = H ∧ ∃ c, z.cps.toList[i]? = some c ∧ x = .str ⟨#[c]⟩, fun i _ => z.cps.size ≤ i⟩
noncomputable def iStr (te : TE) : TI := fun σ H R => te σ H fun x H1 => ∃ z : Str, x = .str z ∧ R (Its z) H1
end
section
variable {σ : St} {H : Hp} {Q : VK} {te : TE}
theorem z_starts {z y : Str} (q : Q (.bl (Txt.startswith z y)) H) : rStarts (.str z) [.str y] H Q := ⟨z, y, rfl, rfl, q⟩
theorem z_all {K : PySem.W.Frag} {p : Addr} {bs : List Bool} (h : SqL K H p (bs.map V.bl)) (q : Q (.bl (bs.all fun b => b)) H) : rAll K [.ref p] H Q := ⟨p, bs, rfl, h, q⟩
theorem z_fv (h : te σ H fun x H1 => ∃ i : Int, x = .int i ∧ i.natAbs.log2 < 1920 ∧ Q (.str (Str.ofString (toString i))) H1) : tFv te σ H Q := h
theorem z_fsn {acc : Str} (q : Q (.str acc) H) : tFs [] acc σ H Q := q
theorem z_fsc {acc : Str} {r : List TE} (h : te σ H fun x H1 => ∃ a : Str, x = .str a ∧ (acc ++ a).length ≤ sizeLine ∧ tFs r (acc ++ a) σ H1 Q) : tFs (te :: r) acc σ H Q := h
theorem z_iS {R : It → Hp → Prop} (h : te σ H fun x H1 => ∃ z : Str, x = .str z ∧ R (Its z) H1) : iStr te σ H R := h
theorem z_iS2 {z : Str} {S : Str → Prop} (q : S z) : ∃ z' : Str, V.str z = .str z' ∧ S z' := ⟨z, rfl, q⟩
theorem z_inS {i j : Str} {S : Str → Str → Prop} (q : S i j) : ∃ i' j' : Str, V.str i = .str i' ∧ V.str j = .str j' ∧ S i' j' := ⟨i, j, rfl, rfl, q⟩
end
end L2

namespace L2
open PySem PySem.Spec PyProof.Rows PySem.Builtin PySem.Builtin.Str
section
variable {X : Cx}
end
end L2

namespace My
open PySem PySem.NumText
noncomputable def dg (n : Nat) : List Nat := (Nat.toDigits 10 n).map Char.toNat
theorem dg_len {n k : Nat} (hk : 1 ≤ k) (h : n < 10 ^ k) : (dg n).length ≤ k := by
  unfold dg
  rw [List.length_map]
  exact PyProof.Rows.digits10_le hk h
noncomputable def txt (n : Int) : List Nat := if n < 0 then 45 :: dg n.natAbs else dg n.natAbs
theorem txt_is (n : Int) : (Str.ofString (toString n)).cps.toList = txt n := by
  cases n with
  | ofNat m =>
    have : ¬ ((Int.ofNat m) < 0) := by simp
    unfold txt
    rw [if_neg this]
    exact PySem.W.KIN.signs_num m
  | negSucc m =>
    unfold txt
    rw [if_pos (Int.negSucc_lt_zero m), PyProof.Rows.signs_ofString]
    show (("-" ++ Nat.repr (m + 1) : String).toList.map Char.toNat) = 45 :: dg (m + 1)
    rw [String.toList_append, List.map_append, Nat.toList_repr]
    rfl
noncomputable def hd (A : List Nat) : List Nat := if A.head? = some 45 then A.tail else A
noncomputable def plain (cs : List Nat) : Prop := cs ≠ [] ∧ cs.length ≤ 60 ∧ ¬ (cs.head? = some 48 ∧ cs ≠ [48]) ∧ AllDigits cs
end My

namespace My
open PySem PySem.NumText PySem.StrLaws
abbrev cs (z : Str) : List Nat := z.cps.toList
theorem cs_len (z : Str) : (cs z).length = z.length := by simp [Str.length]
theorem log60 {n : Int} (h : n.natAbs < 10 ^ 60) : n.natAbs.log2 < 1920 := by
  by_cases z : n.natAbs = 0
  · rw [z]; decide
  · rw [Nat.log2_lt z]
    exact Nat.lt_of_lt_of_le h (by decide)
theorem cs_str (n : Int) : cs (Str.ofString (toString n)) = txt n := txt_is n
theorem txt_len {n : Int} (h : n.natAbs < 10 ^ 60) : (txt n).length ≤ 61 := by
  have := dg_len (by decide) h
  unfold txt
  split
  · rw [List.length_cons]; omega
  · omega
end My

namespace My
open PySem PySem.NumText
noncomputable def pad4 (n : Nat) : List Nat := [48 + n / 1000, 48 + n / 100 % 10, 48 + n / 10 % 10, 48 + n % 10]
noncomputable def pad2 (n : Nat) : List Nat := [48 + n / 10, 48 + n % 10]
noncomputable def dtx (y m e : Nat) : List Nat := pad4 y ++ 45 :: (pad2 m ++ 45 :: pad2 e)
end My

namespace My
open PySem PySem.NumText PySem.StrLaws PySem.Builtin PySem.Builtin.Str
theorem pad4_dig (n : Nat) (h : n < 10000) : AllDigits (pad4 n) := by
  intro c hc
  unfold pad4 at hc
  simp only [List.mem_cons, List.not_mem_nil, or_false] at hc
  rcases hc with e | e | e | e <;> omega
theorem pad2_dig (n : Nat) (h : n < 100) : AllDigits (pad2 n) := by
  intro c hc
  unfold pad2 at hc
  simp only [List.mem_cons, List.not_mem_nil, or_false] at hc
  rcases hc with e | e <;> omega
theorem pad4_val {n : Nat} (h : n < 10000) : digitsVal (pad4 n) = n := by
  show ((((0 * 10 + (48 + n / 1000 - 48)) * 10 + (48 + n / 100 % 10 - 48)) * 10 + (48 + n / 10 % 10 - 48)) * 10 + (48 + n % 10 - 48)) = n
  omega
theorem pad2_val {n : Nat} (h : n < 100) : digitsVal (pad2 n) = n := by
  show ((0 * 10 + (48 + n / 10 - 48)) * 10 + (48 + n % 10 - 48)) = n
  omega
noncomputable def DueDay (c : List Nat) (y m e : Int) : Prop := Valid y m e ∧ c = dtx y.toNat m.toNat e.toNat
theorem Valid.bd {y m e : Int} (v : Valid y m e) : y.toNat < 10000 ∧ m.toNat < 100 ∧ e.toNat < 100 := by
  have v1 := v.y2
  have v2 := v.m2
  have v3 := v.e2
  have v4 : mlen y m ≤ 31 := (ml_pos (L := leap y) v.m1 v.m2).2
  omega
theorem DueDay.parts {c : List Nat} {y m e : Int} (d : DueDay c y m e) : ∃ A B C, c = A ++ 45 :: (B ++ 45 :: C) ∧ A.length = 4 ∧ AllDigits A ∧ B.length = 2 ∧ AllDigits B ∧ C.length = 2 ∧ AllDigits C ∧ y = (digitsVal A : Nat) ∧ m = (digitsVal B : Nat) ∧ e = (digitsVal C : Nat) := by
  obtain ⟨v, rfl⟩ := d
  obtain ⟨w1, w2, w3⟩ := v.bd
  have y1 := v.y1
  have m1 := v.m1
  have z1 := v.e1
  exact ⟨_, _, _, rfl, rfl, pad4_dig _ w1, rfl, pad2_dig _ w2, rfl, pad2_dig _ w3, by rw [pad4_val w1]; omega, by rw [pad2_val w2]; omega, by rw [pad2_val w3]; omega⟩
end My

namespace L2
open PySem PySem.Spec PyProof.Rows
noncomputable def rNotB : R2 := fun x y H Q => ∃ a b : Bool, x = .bl a ∧ y = .bl b ∧ Q (.bl (a != b)) H
theorem z_notB {H : Hp} {Q : VK} {a b : Bool} (q : Q (.bl (a != b)) H) : rNotB (.bl a) (.bl b) H Q := ⟨a, b, rfl, rfl, q⟩
theorem z_NeB {H : Hp} {Q : VK} {a b : Bool} (q : Q (.bl (!decide (a = b))) H) : rNe (.bl a) (.bl b) H Q := by
  refine ⟨rfl, ?_⟩
  have e : decide (V.bl a = V.bl b) = decide (a = b) := by cases a <;> cases b <;> rfl
  rw [e]; exact q
theorem z_ints {is : List Int} {σ : St} {H : Hp} {S : List V → Hp → Prop} (q : S (is.map V.int) H) : tInts is σ H S := q
theorem z_catn {H : Hp} {Q : VK} {l m : Addr} {xs zs : List V} (h1 : H l = some (.lst xs)) (h2 : H m = some (.lst zs)) (hl : xs.length + zs.length ≤ 1000) (q : ∀ p H', H p = none → Same H H' → H' p = some (.lst (xs ++ zs)) → Q (.ref p) H') : rCat (.ref l) (.ref m) H Q :=
  ⟨l, m, xs, zs, rfl, rfl, h1, h2, Nat.le_trans hl (by decide), fun p hp => q p _ hp (Same.new hp _) upd_same⟩
end L2
namespace L2
open PySem PySem.Spec PyProof.Rows
end L2

namespace L2
open PySem PySem.Spec PyProof.Rows
section
variable {X : Cx} {pins : List (Addr × Obj)} {σ : St} {H : Hp} {s : Shared} {h' : Heap}
end
noncomputable def Ite (K : PySem.W.Frag) (a : Addr) : It :=
  ⟨fun i H => ∃ xs x, SqL K H a xs ∧ xs[i]? = some x, fun i H v H' => ∃ p x, v = .ref p ∧ H p = none ∧ (∀ xs, SqL K H a xs → xs[i]? = some x) ∧ H' = upd H p (.tup [.int i, x]), fun i H => ∃ xs, SqL K H a xs ∧ xs.length ≤ i⟩
section
variable {X : Cx}
noncomputable def iEnum (K : PySem.W.Frag) (ta : TA) : TI := fun σ H R => ta σ H fun vs H1 => ∃ a, vs = [.ref a] ∧ (∃ xs, SqL K H1 a xs) ∧ R (Ite K a) H1
end
section
variable {σ : St} {H : Hp} {g : TG} {tb : TS} {nx : St → Hp → Prop} {rt : VK} {K : PySem.W.Frag} {a : Addr} {xs : List V}
theorem z_iE {ta : TA} {R : It → Hp → Prop} (h : ta σ H fun vs H1 => ∃ a, vs = [.ref a] ∧ (∃ xs, SqL K H1 a xs) ∧ R (Ite K a) H1) : iEnum K ta σ H R := h
theorem z_iE2 {S : Addr → Prop} (hs : SqL K H a xs) (q : S a) : ∃ a', [V.ref a] = [.ref a'] ∧ (∃ xs, SqL K H a' xs) ∧ S a' := ⟨a, rfl, ⟨xs, hs⟩, q⟩
end
end L2

namespace L2
open PySem PySem.Spec PyProof.Rows

section
variable {κ : Type} [DecidableEq κ]
noncomputable def valV (kvs : List (κ × V)) (k : κ) : Option V := (kvs.find? fun kv => decide (kv.1 = k)).map (·.2)
noncomputable def putK (kvs : List (κ × V)) (k : κ) (v : V) : List (κ × V) :=
  if (kvs.any fun kv => decide (kv.1 = k)) = true then kvs.map (fun kv => if kv.1 = k then (kv.1, v) else kv) else kvs ++ [(k, v)]
noncomputable def dropK (kvs : List (κ × V)) (k : κ) : List (κ × V) := kvs.filter fun kv => decide (kv.1 ≠ k)

theorem RelO.getD {o : Option V} {u : Option Value} {d : V} {d' : Value} (r : RelO o u) (rd : RelV d d') : RelV (o.getD d) (u.getD d') := by
  cases o with
  | none => cases u with
    | none => exact rd
    | some _ => exact (show False from r).elim
  | some _ => cases u with
    | none => exact (show False from r).elim
    | some _ => exact r

theorem KV.any {kvs : List (κ × V)} {vs : List (κ × Value)} (r : KV kvs vs) (k : κ) : (kvs.any fun kv => decide (kv.1 = k)) = vs.any fun kv => decide (kv.1 = k) := by
  unfold KV at r
  induction r with
  | nil => rfl
  | cons h t ih => rw [List.any_cons, List.any_cons, ih, h.1]
theorem KV.drop {kvs : List (κ × V)} {vs : List (κ × Value)} (r : KV kvs vs) (k : κ) : KV (dropK kvs k) (without vs k) := by
  unfold KV at r ⊢
  unfold dropK without
  induction r with
  | nil => exact .nil
  | @cons p q ps qs h t ih =>
    obtain ⟨h1, h2⟩ := h
    rw [List.filter_cons, List.filter_cons]
    by_cases e : p.1 = k
    · have a : ¬ decide (p.1 ≠ k) = true := by simp [e]
      have b : ¬ decide (q.1 ≠ k) = true := by simp [h1.symm.trans e]
      rw [if_neg a, if_neg b]; exact ih
    · have e' : ¬ q.1 = k := fun z => e (h1.trans z)
      have a : decide (p.1 ≠ k) = true := by simp [e]
      have b : decide (q.1 ≠ k) = true := by simp [e']
      rw [if_pos a, if_pos b]; exact .cons ⟨h1, h2⟩ ih
theorem KV.length {kvs : List (κ × V)} {vs : List (κ × Value)} (r : KV kvs vs) : kvs.length = vs.length := Paired.length r
end


abbrev KT (H : Hp) : List (List Key × V) → List (List Key × Addr × Value) → Prop := Paired fun p q => p.1 = q.1 ∧ H q.2.1 = some (.tup (p.1.map kV)) ∧ RelV p.2 q.2.2
theorem KT.keeps {H H' : Hp} {kvs : List (List Key × V)} {xs : List (List Key × Addr × Value)} (r : KT H kvs xs) (ht : ∀ b ys, H b = some (.tup ys) → H' b = some (.tup ys)) : KT H' kvs xs :=
  Paired.mapP r fun _ _ z => ⟨z.1, ht _ _ z.2.1, z.2.2⟩

section
variable {P : Program} {w : World} {H : Hp} {h : Heap} {a : Addr}
end

noncomputable def DGet (H : Hp) (a : Addr) (y : V) (r : Option V) : Prop :=
  (∃ kvs k, Rd H a (.dK kvs) ∧ y = kV k ∧ r = valV kvs k) ∨ ∃ kvs k b, Rd H a (.dT kvs) ∧ y = .ref b ∧ H b = some (.tup (k.map kV)) ∧ r = valV kvs k
noncomputable def DPut (H : Hp) (a : Addr) (y v : V) (H' : Hp) : Prop :=
  (∃ kvs k, H a = some (.dK kvs) ∧ y = kV k ∧ kvs.length < sizeLine ∧ H' = upd H a (.dK (putK kvs k v))) ∨
  ∃ kvs k b, H a = some (.dT kvs) ∧ y = .ref b ∧ H b = some (.tup (k.map kV)) ∧ kvs.length < sizeLine ∧ H' = upd H a (.dT (putK kvs k v))
theorem DGet.k {H : Hp} {a : Addr} {kvs : List (Key × V)} {k : Key} (e : H a = some (.dK kvs)) : DGet H a (kV k) (valV kvs k) := .inl ⟨kvs, k, .inl e, rfl, rfl⟩
theorem DGet.t {H : Hp} {a b : Addr} {kvs : List (List Key × V)} {k : List Key} (e : H a = some (.dT kvs)) (eb : H b = some (.tup (k.map kV))) : DGet H a (.ref b) (valV kvs k) := .inr ⟨kvs, k, b, .inl e, rfl, eb, rfl⟩
theorem DPut.k {H : Hp} {a : Addr} {kvs : List (Key × V)} {k : Key} {v : V} (e : H a = some (.dK kvs)) (hl : kvs.length < sizeLine) : DPut H a (kV k) v (upd H a (.dK (putK kvs k v))) := .inl ⟨kvs, k, e, rfl, hl, rfl⟩
theorem DPut.t {H : Hp} {a b : Addr} {kvs : List (List Key × V)} {k : List Key} {v : V} (e : H a = some (.dT kvs)) (eb : H b = some (.tup (k.map kV))) (hl : kvs.length < sizeLine) :
    DPut H a (.ref b) v (upd H a (.dT (putK kvs k v))) := .inr ⟨kvs, k, b, e, rfl, eb, hl, rfl⟩


section
variable {X : Cx} {pins : List (Addr × Obj)} {σ : St} {H : Hp} {s : Shared} {a : Addr} {y v : V} {u r : Value} {o : Option V} {A : Around} {E : Value → Shared → Prop}

theorem Inv.big (I : Inv X pins σ H s) : sysModules < s.heap.objs.size := by
  have h : mainGlobals < s.heap.objs.size := (I.mod.glob.keeps I.bk).lt
  exact Nat.lt_trans (by decide) h

end

section
variable {X : Cx} {pins : List (Addr × Obj)} {σ : St} {H : Hp} {s : Shared} {a : Addr} {kvs : List (Key × V)} {k : Key} {u : Value} {A : Around} {E : Value → Shared → Prop}
end


section
variable {X : Cx} {o i e value : Expr} {pos pos' tpos : Pos} {td ty tv : TE}
end


theorem dk_empty {P : Program} {w : World} {H : Hp} (h : Heap) (hb : sysModules < h.objs.size) : ObjOk P w H (h.push { cls := .type "dict", data := .dict #[] }) h.objs.size (.dK []) :=
  ⟨Nat.zero_le _, beq_eq_false_iff_ne.mpr (Ne.symm (Nat.ne_of_lt hb)), [], .nil, Heap.DictOf.new h⟩
noncomputable def tDNewK : TE := fun _ H Q => ∀ p, H p = none → Q (.ref p) (upd H p (.dK []))
section
variable {X : Cx} {pos : Pos}
theorem pe_dnewK : PE X (.Dict [] [] pos) tDNewK := fun pins s σ H Q I h =>
  wpAny_Dict_empty ⟨.ref s.heap.objs.size, _, I.laid (a := s.heap.objs.size) (o := .dK []) (t' := s.toks) (fun _ _ q => Heap.get?_push_of_some _ q) (Nat.le_refl _) (dk_empty s.heap I.big), rfl, h _ (I.hok.fresh (Nat.le_refl _))⟩
end

structure M1 (X : Cx) (o : Expr) (m : Str) (apos : Pos) (e : Expr) (cpos : Pos) : Prop where
  base : attributeBase o m X.env (eval o X.env) = eval o X.env
  few : ((backTo cpos (starEach [e] X.env)).all (fun x => !x.1) && (backToKw cpos (keywordEach [] X.env)).all (fun x => x.1.isSome)
    && decide (([e] : List Expr).length + ([] : List Keyword).length + (if ([] : List Keyword).isEmpty then 0 else 1) < 30)) = true
  line : (apos.endLine == cpos.line) = true
  trees : backTo cpos (starEach [e] X.env) = [(false, eval e X.env)]
section
variable {X : Cx} {pins : List (Addr × Obj)} {σ : St} {H : Hp} {s : Shared} {a : Addr} {y d : V} {u r : Value} {o : Option V} {A : Around} {E : Value → Shared → Prop}
end

section
variable {X : Cx} {o e f : Expr} {apos cpos : Pos} {td ty tx : TE}
end

section
variable {X : Cx} {pins : List (Addr × Obj)} {σ : St} {H : Hp} {s : Shared} {a : Addr} {kvs : List (Key × V)} {A : Around} {E : Value → Shared → Prop}
end


section
variable {X : Cx} {pins : List (Addr × Obj)} {σ : St} {H : Hp} {s : Shared} {a : Addr} {y : V} {u : Value} {A : Around} {E : Value → Shared → Prop}
end
end L2


namespace L2
open PySem PySem.Spec PyProof.Rows
section
variable {X : Cx}
end
section
variable {κ : Type} [DecidableEq κ]
end
end L2

namespace L2
open PySem PySem.Spec PyProof.Rows PySem.Builtin
section
variable {X : Cx}
end
end L2

namespace L2
open PySem PySem.Spec PyProof.Rows
end L2

namespace L2
open PySem PySem.Spec PyProof.Rows

structure ExcF (K : PySem.W.Frag) (C : Addr) : Prop where
  ga : PySem.W.findIn K (.ref C) "__getattribute__" = some (some (.builtin "BaseException.__getattribute__"))
  nohook : PySem.W.findIn K (.ref C) "__getattr__" = some none
  cls : PySem.W.findIn K (.ref C) "__class__" = some (some (.builtin "object.__class__"))
  get : PySem.W.specialIn K (.builtin "object.__class__") "__get__" = some (some (.builtin "getset_descriptor.__get__"))
  tk : PySem.W.takesIn K (.builtin "object.__class__") = some true
  exc : PySem.W.mroIn K C (.type "BaseException") = some true
  obj : PySem.W.mroIn K C (.type "object") = some true

section
open PySem.W PySem.Calls PySem.Builtin PySem.Builtin.ObjectAttr PySem.Builtin.Getset_descriptor
variable {prog : Program} {w : World} {A : Around} {E : Value → Shared → Prop} {s : Shared} {K : Frag} {a C : Addr} {oe : Obj}
theorem exc_type {M : Model} {h : Heap} (p : h.get? a = some oe) (hc : oe.cls = .ref C) : Looks M h (typeOf (.ref a)) (.ref C) := hc ▸ (Looks.ld p).andThen .now
theorem exc_find {M : Model} {h : Heap} (Fx : ExcF K C) (X : K.In h) : Looks M h (find (.ref a) (.ref C) "__class__") (.bind (.builtin "getset_descriptor.__get__") (.builtin "object.__class__")) := by
  have L1 := looks_findIn (M := M) X Fx.cls
  have L2 : Looks M h (getOf (some (.builtin "object.__class__"))) (some (.builtin "getset_descriptor.__get__")) := looks_specialIn X Fx.get
  have L3 := looks_takesIn (M := M) X Fx.tk
  refine L1.andThen (L2.andThen ?_)
  exact (show Looks M h (dataDescriptor? (some (.builtin "object.__class__")) (some (.builtin "getset_descriptor.__get__"))) (some (.builtin "getset_descriptor.__get__", .builtin "object.__class__")) from L3.andThen .now).andThen (Looks.tag .now)
theorem exc_class_get {R : Result → Shared → Prop} {tp : Value} (Fx : ExcF K C) (X : K.In s.heap) (p : s.heap.get? a = some oe) (hc : oe.cls = .ref C)
    (h : R (.ok (.ret (.ref C))) s) : codeAny (model prog w) A (.call (.builtin "getset_descriptor.__get__") ⟨[.builtin "object.__class__", .ref a, tp], []⟩) R s := by
  obtain ⟨hh, g, dr, t, os⟩ := s
  have L0 := exc_type (M := model prog w) p hc
  have L1 := looks_mroIn (M := model prog w) X Fx.obj
  refine codeAny_call_builtin KF.slot_gs.plain KF.entry_gs (KF.slot_gs.check _ _ _ _ _ _ _ _ KF.type_class (KF.args_gs _ _ _) ?_)
  unfold Builtin.«getset_descriptor.__get__» descrGet
  rw [dga_obj]
  refine wpAny_bind (wpAny_pure ?_)
  unfold descrGetter descrCheckInstance descrNameAndClass isInstance
  simp only [KF.owner_class]
  repeat lk
  refine ⟨Code.quiet_builtin _ (by decide +kernel), codeAny_builtin KF.entry_class ?_⟩
  unfold Builtin.«object.__class__» shownTypeOf
  repeat lk
  exact h
theorem exc_check {M : Model} {nameV : Value} {Q : Unit → Shared → Prop} (Fx : ExcF K C) (X : K.In s.heap) (p : s.heap.get? a = some oe) (hc : oe.cls = .ref C) (hq : Q () s) :
    wpAny M A (checkBuiltinCall "BaseException.__getattribute__" ⟨[.ref a, nameV], []⟩) Q E s := by
  obtain ⟨hh, g, dr, t, os⟩ := s
  have hk : builtinKind "BaseException.__getattribute__" = some .slot := by decide +kernel
  have hsplit : splitId "BaseException.__getattribute__" = some ("BaseException", "__getattribute__") := by decide +kernel
  have ha := F.args_bexc_ga (.ref a) nameV
  simp only [checkBuiltinCall, hk, hsplit]
  refine wpAny_bind (wpAny_bind ?_)
  refine (exc_type p hc).at ((looks_mroIn X Fx.exc).at ?_)
  repeat (any_goals (first | assumption | wp_step))
theorem exc_class {Q : Option Value → Shared → Prop} (Fx : ExcF K C) (X : K.In s.heap) (p : s.heap.get? a = some oe) (hc : oe.cls = .ref C) (h : Q (some (.ref C)) { s with toks := s.toks + 1 }) :
    wpAny (model prog w) A (getAttr? (.ref a) "__class__") Q E s := by
  obtain ⟨hh, g, d, t, os⟩ := s
  have L0 := exc_type (M := model prog w) p hc
  have L1 := looks_findIn (M := model prog w) X Fx.ga
  have L2 := looks_findIn (M := model prog w) X Fx.nohook
  unfold getAttr? getAttrBy? getAttrBy
  refine wpAny_bind (wpAny_mkText (wpAny_bind (wpAny_attempt (wpAny_holding (wpAny_bind (L0.at (wpAny_bind (L1.at ?_))))))))
  show wpAny _ _ (if (onTheHeap (Value.ref C) && (Value.builtin "BaseException.__getattribute__" == Value.builtin "object.__getattribute__")) = true then _ else getAttrByItsOwn _ _ _ _ _ _) _ _ _
  have hne : (Value.builtin "BaseException.__getattribute__" == Value.builtin "object.__getattribute__") = false := by decide +kernel
  rw [hne, Bool.and_false, if_neg Bool.false_ne_true]
  unfold getAttrByItsOwn
  refine wpAny_bind ((show Looks (model prog w) hh (hookBefore (.ref C)) none from L2).at ?_)
  refine wpAny_bind (wpAny_attempt (wpAny_holding ?_))
  show wpAny _ _ (boundAndCalled _ _ _) _ _ _
  unfold boundAndCalled
  rw [F.excAttr_ValueError.ga.bind]
  refine wpAny_bind (wpAny_pure ?_)
  refine wpAny_call (codeAny_call_builtin F.excAttr_ValueError.ga.plain F.entry_bexc_ga (exc_check Fx X p hc ?_))
  unfold Builtin.«object.__getattribute__»
  refine wpAny_bind (wpAny_pure (a := (Value.ref a, [Value.str (Str.ofString "__class__") t])) ?_)
  refine wpAny_bind (wpAny_pure (a := Str.ofString "__class__") ?_)
  refine wpAny_bind (L0.at (wpAny_bind ((exc_find (a := a) Fx X).at ?_)))
  show wpAny _ _ (bindTo _ _ _ _) _ _ _
  show wpAny _ _ (holding [Value.builtin "object.__class__"] (call (Value.builtin "getset_descriptor.__get__") [Value.builtin "object.__class__", Value.ref a, Value.ref C]) >>= ret) _ _ _
  refine wpAny_bind (wpAny_holding (wpAny_call (exc_class_get Fx X p hc ?_)))
  show wpAny _ _ (pure _) _ _ _
  refine wpAny_pure ?_
  exact wpAny_pure (wpAny_pure h)
end
end L2

namespace L2
open PySem PySem.Spec PyProof.Rows
theorem kitx_exc {K : PySem.W.Frag} {a C : Addr} {oe : Obj} (Fx : ExcF K C) (hc : oe.cls = .ref C) : PySem.W.KitX K (.ref a) (.ref C) (fun h => h.get? a = some oe) where
  ty := fun _ _ _ p => exc_type p hc
  it := fun _ _ X _ => by
    obtain ⟨cd, hcD, _⟩ := Option.bind_eq_some_iff.mp Fx.obj
    unfold PySem.W.clsIn at hcD
    split at hcD
    · rename_i c' d' cd' sl' ho
      intro A' Q' E' s' k q
      unfold isType loadHead
      exact wpAny_bind (wpAny_loadPart (k _ _ (X _ _ ho)) (wpAny_pure q))
    · cases hcD
  ne := fun h tp dd its n sl X htp => by
    obtain ⟨cd, hcD, _⟩ := Option.bind_eq_some_iff.mp Fx.obj
    refine Bool.eq_false_iff.mpr fun q => ?_
    have e : C = tp := Value.ref.inj (beq_iff_eq.mp q)
    subst e
    unfold PySem.W.clsIn at hcD
    split at hcD
    · rename_i c' d' cd' sl' ho
      have z := (X _ _ ho).symm.trans htp
      cases z
    · cases hcD
  ca := fun X p k => exc_class Fx X p hc k

section
variable {X : Cx} {pins : List (Addr × Obj)} {σ : St} {H H' : Hp} {s s' : Shared}
theorem Inv.goes {i : Nat} {x : Str} {h' : Heap} {m : Str → Option Value} {v' : Option Value} {t' : Nat} (I : Inv X pins σ H s) (hm : s.heap.Ns X.env.locals m)
    (hl : ∀ (i : Nat) (x : Str) (v : V), X.N[i]? = some x → σ[i]? = some (some v) → Vis X.env.scope x → ∃ u, RelV v u ∧ Look X.env s.heap m x u) (hN : X.N.Nodup) (hi : X.N[i]? = some x)
    (hn' : h'.Ns X.env.locals (fun y => if y = x then v' else m y)) (hs : Heap.SameBut X.env.locals s.heap h') : Inv X pins (σ.set i none) H { s with heap := h', toks := t' } := by
  have cne := I.cne
  have hiσ : i < σ.length := by rw [I.len]; exact (List.getElem?_eq_some_iff.mp hi).1
  refine ⟨I.ok, I.os, I.bare, ⟨fun b o e n hb hx => ?_, fun b o e n hb hx => ?_, I.base.free, fun b o e hx => ?_, I.base.tups, I.base.frzs, I.base.tbls⟩, ⟨_, hn', fun j y v e1 e2 e3 => ?_⟩, fun y c e => ?_, I.free, I.freeC, fun p hp => ?_, fun b ob e => ?_, by simpa using I.len⟩
  · exact (hs.2 b (Nat.ne_of_lt (Nat.lt_of_lt_of_le (Heap.lt_size e) I.ok.above))).trans (I.base.keep b o e n hb hx)
  · obtain ⟨sl, e1⟩ := I.base.slot b o e n hb hx
    exact ⟨sl, (hs.2 b (Nat.ne_of_lt (Nat.lt_of_lt_of_le (Heap.lt_size e) I.ok.above))).trans e1⟩
  · obtain ⟨o', e1⟩ := I.base.there b o e hx
    exact ⟨o', (hs.2 b (Nat.ne_of_lt (Nat.lt_of_lt_of_le (Heap.lt_size e) I.ok.above))).trans e1⟩
  · have hj : j ≠ i := by
      rintro rfl
      rw [List.getElem?_set_self hiσ] at e2
      cases e2
    rw [List.getElem?_set_ne (Ne.symm hj)] at e2
    obtain ⟨u', r', q⟩ := hl j y v e1 e2 e3
    refine ⟨u', r', ?_⟩
    rcases q with ⟨k, e⟩ | ⟨k, c, e, z⟩
    · refine .inl ⟨k, ?_⟩
      have : y ≠ x := fun e => hj (nodup_ix hN e1 (e ▸ hi))
      simp [this, e]
    · exact .inr ⟨k, c, e, z.sameBut hs (cne y c e)⟩
  · obtain ⟨w', z⟩ := I.cell y c e
    exact ⟨w', z.sameBut hs (cne y c e)⟩
  · obtain ⟨e, n, ne, nf, d⟩ := I.pin p hp
    exact ⟨(hs.2 p.1 ne).trans e, n, ne, nf, d⟩
  · refine (I.hok b ob e).stay (fun c w' hc q => (hs.2 c ?_).trans q) (fun _ q => q) fun _ _ q => q
    rintro rfl
    rcases hc with rfl | hc
    · rw [I.free] at e; cases e
    · rw [I.free] at hc; cases hc
end
noncomputable def goneD (j : Nat) (D : Ends) : Ends := { nx := fun σ H => D.nx (σ.set j none) H, rt := D.rt, bk := fun σ H => D.bk (σ.set j none) H, ct := fun σ H => D.ct (σ.set j none) H }
section
variable {X : Cx} {pins : List (Addr × Obj)} {σ : St} {H : Hp} {s s' : Shared} {E : XK} {ex : Value} {x n : Str} {T C : Addr} {np hpos : Pos} {b0 : Stmt} {suite : List Stmt} {ts : Addr → TS} {D : Ends} {j : Nat}
theorem ObjOk.thereIs {P : Program} {w : World} {H : Hp} {h : Heap} {a : Addr} {o : HO} (x : ObjOk P w H h a o) : ∃ ob, h.get? a = some ob := by
  cases o with
  | lst xs => obtain ⟨_, _, _, _, e⟩ := x; exact ⟨_, e⟩
  | tup xs => obtain ⟨_, _, _, o, e, _⟩ := x; exact ⟨_, e⟩
  | dK kvs => obtain ⟨_, _, _, _, o, _, _, e, _⟩ := x; exact ⟨_, e⟩
  | dT kvs => obtain ⟨_, _, _, _, o, _, _, e, _⟩ := x; exact ⟨_, e⟩
  | set S n => obtain ⟨o, _, _, _, e, _⟩ := x; exact ⟨_, e⟩
  | ins C dx fs => obtain ⟨_, _, _, e, _⟩ := x; exact ⟨_, e⟩
  | own y => obtain ⟨_, e⟩ := x; exact ⟨_, e⟩
  | xd fs => obtain ⟨_, ⟨_, _, _, e, _⟩, _⟩ := x; exact ⟨_, e⟩
  | rng lo hi => obtain ⟨_, _, _, e⟩ := x; exact ⟨_, e⟩
  | frz ob u => obtain ⟨e, _⟩ := x; exact ⟨_, e⟩
  | tbl ps => exact ⟨_, show h.get? a = some _ from x⟩
  | met f y => exact ⟨_, show h.get? a = some _ from x⟩
  | ext φ => obtain ⟨_, ⟨_, e⟩, _⟩ := x; exact ⟨_, e⟩
end
section
variable {X : Cx} {k : Nat} {f : Addr} {fd : FuncData} {ps : List Str} {sp : Sp} {dvs : List V} {ds : List Value} {fx x cx n : Str} {p cpos px apos np hpos pos : Pos} {e : Expr} {es : List Expr} {t : TA} {T C : Addr} {b0 : Stmt} {suite : List Stmt} {ts : Addr → TS} {i j : Nat}
end
end L2

namespace L2
open PySem PySem.Spec PyProof.Rows
theorem bt_ValueError : bootBuiltins "ValueError" = some (.type "ValueError") := by decide +kernel
noncomputable def ExcO (a C : Addr) : HO := .ext fun h => ∃ oe : Obj, h.get? a = some oe ∧ oe.cls = .ref C
section
variable {X : Cx} {pins : List (Addr × Obj)} {σ : St} {H : Hp} {s : Shared}
theorem Inv.track {a C : Addr} {oe : Obj} (I : Inv X pins σ H s) (h1 : s.heap.get? a = some oe) (hc : oe.cls = .ref C) (h2 : H a = none) (h3 : a ≠ X.env.locals) (h4 : ∀ x c, X.env.cells.lookup x = some c → c ≠ a) (h5 : ∀ p ∈ X.pn ++ pins, p.1 ≠ a) (h6 : X.s₀.heap.get? a = none) :
    Inv X pins σ (upd H a (ExcO a C)) s := by
  have ne : ∀ b u, H b = some u → b ≠ a := fun b u e z => by rw [z, h2] at e; cases e
  refine ⟨I.ok, I.os, I.bare, ⟨I.base.keep, I.base.slot, fun b o e n hx => ?_, I.base.there, fun b xs e => ?_, fun b o u e => ?_, fun b ps e => ?_⟩, I.loc, I.cell, ?_, fun x c e => ?_, fun p hp => ?_, fun b ob e => ?_, I.len⟩
  · rw [upd_ne (fun z => by rw [z, h6] at e; cases e)]; exact I.base.free b o e n hx
  · have := I.base.tups b xs e; rw [upd_ne (ne _ _ this)]; exact this
  · have := I.base.frzs b o u e; rw [upd_ne (ne _ _ this)]; exact this
  · obtain ⟨m, q⟩ := I.base.tbls b ps e; exact ⟨m, by rw [upd_ne (ne _ _ q)]; exact q⟩
  · rw [upd_ne (Ne.symm h3)]; exact I.free
  · rw [upd_ne (h4 x c e)]; exact I.freeC x c e
  · obtain ⟨q1, q2, q3, q4, q5⟩ := I.pin p hp
    exact ⟨q1, by rw [upd_ne (h5 p hp)]; exact q2, q3, q4, q5⟩
  · by_cases z : b = a
    · subst z
      rw [upd_same] at e
      cases e
      exact ⟨⟨oe, h1, hc⟩, ⟨oe, h1⟩, fun g1 g2 ⟨o, ho, hc⟩ k => ⟨o, k o ho, hc⟩⟩
    · rw [upd_ne z] at e
      exact (I.hok b ob e).stay (fun c u _ q => q) (fun c q => by rw [upd_ne (ne _ _ q)]; exact q) (fun c xs q => by rw [upd_ne (ne _ _ q)]; exact q)
end
section
variable {X : Cx} {C : Addr} {b : Bool}
theorem isiH {c : V} {u : Value} (Fx : ExcF X.K C) (hr : ∀ u', RelV c u' → u' = u) (e : PySem.W.kitOne X.K (.ref C) u = some b) :
    CallR X (.builtin "isinstance") (fun xs H Q => ∃ a, xs = [.ref a, c] ∧ H a = some (ExcO a C) ∧ Q (.bl b) H) := by
  intro pins s σ H xs us Q I r h
  obtain ⟨a, rfl, ha, q⟩ := h
  obtain ⟨v, w, rfl, rx, rw'⟩ := vals2 r
  cases rx
  cases hr _ rw'
  obtain ⟨⟨oe, he, hc⟩, _⟩ := (show ObjOk X.prog X.w H s.heap a (ExcO a C) from I.hok a _ ha)
  exact PySem.W.kia_one (kitx_exc Fx hc) I.kIn he e (by intro z; cases z) fun tk => ⟨.bl b, H, I.tok tk, rfl, q⟩
end
structure FnOkH (P : Program) (w : World) (K : PySem.W.Frag) (mg : Str → Option Value) (base : Heap) (k : Nat) (f : Addr) (fd : FuncData) (ps : List Str) (sp : Sp) : Prop where
  len : ∀ vs H Q E, sp vs H Q E → vs.length = ps.length
  run : ∀ (A : Around) (a : Addr) (outer : List Env) (s : Shared) (H : Hp) (args : Args) (us : List Value) (vs : List V) (Q : VK) (E : XK), Room k A → Env0 P w K mg base A outer s H → BindsTo s fd args (ps.zip us) → Vals vs us → sp vs H Q E →
    codeAny (model P w) (A.mark (some (.ref a))) (.call (.ref f) args) (CR CX0 outer P w H s Q E) s
section
variable {P : Program} {w : World} {K : PySem.W.Frag} {mg : Str → Option Value} {base : Heap}
theorem Fun.okH {x qual : Str} {st : Stmt} {f : Addr} {fd : FuncData} {N ps : List Str} {k : Nat} {sp : Sp} (F : Fun K x qual st f fd) (S : FnScope N ps (defScope st)) (len : ∀ vs H Q E, sp vs H Q E → vs.length = ps.length)
    (hbody : ∀ (cdv : Value) (A : Around) (outer : List Env) (s : Shared) (H : Hp) (vs : List V) (Q : VK) (E : XK) (a : Addr), Room k (A.deeper (envOfC qual (defScope st) s.heap.objs.size f cdv)) → sp vs H Q E →
      ∃ t, PSs ((cxOf CX0 P w K mg base N qual (defScope st) f cdv A outer s H E).marked a).nox (defBody st) t ∧ t { nx := fun _ H' => Q .non H', rt := Q } (start N vs) H) : FnOkH P w K mg base (k + 1) f fd ps sp := by
  obtain ⟨oc, od, kV, doc, pm, an, cdv, ct, osl, rfl, lk, hcd⟩ := F.ex
  refine ⟨len, fun A a outer s H args us vs Q E hr e0 hb r hsp => ?_⟩
  have hl := len _ _ _ _ hsp
  have KX : K.In s.heap := e0.mod.kin.keeps fun b o e => (e0.bs b o e).1
  have lim : s.heap.NoLimit := e0.mod.nolimit.keeps fun b o e => (e0.bs b o e).1
  have hkind : ∀ y ∈ ps.zip us, (defScope st).names.lookup y.1 = some .local ∨ ((defScope st).names.lookup y.1 = some .cell ∧ ((cellsFrom (s.heap.objs.size + 1) (defScope st).names []).lookup y.1).isSome = true) := fun ⟨n, v⟩ hy => by
    rcases S.par n (List.of_mem_zip hy).1 with q | q
    · exact .inl q
    · exact .inr ⟨q, PySem.W.cellsFrom_some _ _ _ (.inl q)⟩
  refine codeAny_call_function (A := A.mark (some (.ref a))) hr.depth (KX _ _ lk) rfl S.co S.gen rfl (PySem.W.codeRec_of KX hcd) (hb _ _ _ _ ?_)
  refine wpAny_newFunctionEnv_cells S.kind hkind fun env he s1 x => ?_
  subst he
  refine ⟨lim.keeps x.toInCall.keep, codeAny_func ?_⟩
  obtain ⟨t, ht, hq⟩ := hbody cdv A outer s H vs Q E a (hr.deeper _) hsp
  have I : Inv (cxOf CX0 P w K mg base N qual (defScope st) f cdv A outer s H E) [] (start N vs) H s1 := inv_start S hr.hd e0 hl r x
  refine wpAny_mono (ht [] s1 (start N vs) H _ ((I.marked a).wish _) hq) (fun fl s' hs0 => ?_) fun e s' hs => False.elim hs
  have hs := hs0.unwish
  have fin : ∀ {σ' : St} {H' : Hp} {v : V} {u : Value}, Inv ((cxOf CX0 P w K mg base N qual (defScope st) f cdv A outer s H E).marked a) [] σ' H' s' → RelV v u → Q v H' → CE outer P w H s Q u s' :=
    fun {σ' H' v u} J rv q => ⟨v, H', J.os, J.bare, J.base, J.hok, rv, q⟩
  cases fl with
  | ret u =>
    obtain ⟨v, σ', H', J, rv, q⟩ := hs
    exact fin J rv q
  | next =>
    obtain ⟨σ', H', J, q⟩ := hs
    exact fin (v := V.non) (u := Value.none) J rfl q
  | brk =>
    obtain ⟨_, _, _, q⟩ := hs
    exact False.elim q
  | cont =>
    obtain ⟨_, _, _, q⟩ := hs
    exact False.elim q
end
section
variable {X : Cx} {k : Nat} {f : Addr} {fd : FuncData} {ps : List Str} {sp : Sp} {x : Str} {p pos : Pos} {e : Expr} {es : List Expr} {t : TA}
theorem pe_callH (a : Addr) (F : FnOkH X.prog X.w X.K X.mg X.base k f fd ps sp) (hr : Room k X.A) (hg : Gl (X.marked a) x) (hm : X.mg x = some (.ref f)) (hk : PySem.W.keepIn X.K (.ref f) = true) (hb : Binds X.K fd ps []) (ha : PA (X.marked a) (e :: es) t)
    (hdb : (x == ("__debug__" : Str)) = false := by decide) (he : starEach (e :: es) X.env = (false, eval e X.env) :: starEach es X.env := by rfl) (hpl : (backTo pos (starEach es X.env)).any (·.1) = false := by rfl) :
    PE (X.marked a) (.Call (.Name x p) (e :: es) [] pos) (tCall sp [] E0 t) := by
  intro pins s σ H Q I h
  refine wpAny_Call_Name_kw (ld_glob I hg hm ?_ hdb)
  refine PySem.W.callWith_K (h₀ := X.base) I.ok.mod.kin hk (thn (ha pos pins s σ H _ I h) fun us s1 ⟨vs, H1, I1, r, q⟩ => ⟨I1.kIn, ?_⟩) he hpl
  have q' : sp vs H1 Q E0 := by simpa using q
  have hl : us.length = ps.length := by rw [← r.length]; exact F.len _ _ _ _ q'
  have e0 := I1.env0
  have hb' := hb s1 us I1.kIn (by simpa using hl)
  rw [List.append_nil] at hb'
  refine wpAny_call (codeAny_mono (F.run X.A a X.stack s1 H1 ⟨us, []⟩ us vs Q E0 hr ⟨e0.frames, e0.mod, e0.bs, e0.bsz, e0.funs, e0.frf, e0.hok, e0.bare⟩ hb' r q') fun rr s' hq => ?_)
  cases rr with
  | error e => exact False.elim hq
  | ok fl =>
    cases fl with
    | ret u => exact I1.after hq
    | next => exact False.elim hq
    | brk => exact False.elim hq
    | cont => exact False.elim hq
end
section
variable {X : Cx} {pins : List (Addr × Obj)} {σ : St} {H : Hp} {s s' : Shared} {E : XK} {ex : Value} {x n : Str} {T C : Addr} {np hpos : Pos} {b0 : Stmt} {suite : List Stmt} {ts : Addr → TS} {D : Ends} {j : Nat}
theorem name_goneM {M : Model} {A : Around} {a : Addr} {f : Flow} (hN : X.N.Nodup) (hi : X.N[j]? = some n) (hk : X.env.kindOf n = some .local) (ok : X.Ok) (h : SP (X.marked a) pins (goneD j D) f s) :
    wpAny M A (do bindName X.env n .none; unbindBehindTheSuite X.env n hpos) (fun _ s' => SP X pins D f s') (fun _ _ => False) s := by
  have hcls : (X.env.scope.kind == .class || (X.env.scope.kind == .module && X.env.locals != X.env.globals)) = false := by rw [ok.kind]; rfl
  have one : ∀ {σ' : St} {H' : Hp} {Q : Unit → Shared → Prop}, Inv X pins σ' H' s → (∀ s2, Inv X pins (σ'.set j none) H' s2 → Q () s2) → wpAny M A (do bindName X.env n .none; unbindBehindTheSuite X.env n hpos) Q (fun _ _ => False) s := fun {σ' H' Q} I q => by
    obtain ⟨m, hm, hl⟩ := id I.loc
    exact wpAny_nameGoes_keeps hk hm hcls fun h' v hn hs => q _ (I.goes hm hl hN hi hn hs)
  cases f with
  | next => obtain ⟨σ', H', I, q⟩ := h; exact one (I.unmarked ok) fun s2 I2 => ⟨_, H', I2, q⟩
  | brk => obtain ⟨σ', H', I, q⟩ := h; exact one (I.unmarked ok) fun s2 I2 => ⟨_, H', I2, q⟩
  | cont => obtain ⟨σ', H', I, q⟩ := h; exact one (I.unmarked ok) fun s2 I2 => ⟨_, H', I2, q⟩
  | ret u => obtain ⟨v, σ', H', I, r, q⟩ := h; exact one (I.unmarked ok) fun s2 I2 => ⟨v, _, H', I2, r, q⟩
theorem caught_at (I : Inv X pins σ H s) (hst : X.stack = X.env :: X.outer) (hf : X.env.frame = some X.env.locals) (h0 : ∀ e s, X.xe e s → False) (cx : CXe X.prog X.w X.stack H s E ex s')
    (hN : X.N.Nodup) (hi : X.N[j]? = some n) (hln : X.env.scope.names.lookup n = some .local) (hk : X.env.kindOf n = some .local) (M1 : Meets1 X x T C true) (hex : X.ex = [])
    (hE : ∀ cls H', E cls none H' → cls = .ref C ∧ ∀ a, H' a = none → ts a (goneD j D) (σ.set j (some (.ref a))) (upd H' a (ExcO a C))) (hs : ∀ a, PSs (X.marked a) (b0 :: suite) (ts a)) :
    wpAny (model X.prog X.w) X.A (noteFrame ex X.env) (fun _ s2 => wpAny (model X.prog X.w) X.A (setFlight ex none) (fun _ s3 =>
      wpAny (model X.prog X.w) X.A (handleBy ex X.env [.ExceptHandler (some (.Name x np)) (some n) (b0 :: suite) hpos]) (SP X pins D) X.xe s3) X.xe s2) X.xe s' := by
  obtain ⟨a, C', a0, H', B, rfl, os, bare, un, hB, fl, kU, kT, q⟩ := cx
  obtain ⟨ec, qq⟩ := hE _ H' q
  cases ec
  have ff := fl.2.2.1
  have fl' : Heap.FlyingW B (X.env :: X.outer) a (.ref C) a0 s'.heap := by rw [← hst]; exact fl
  have hfr : X.A.frames = some (X.env :: X.outer) := by rw [← hst]; exact I.ok.frames
  refine wpAny_looks_onW (s := s') hfr hf fl' fun h4 held4 us4 => ?_
  refine wpAny_landsW held4 fun h5 fl5 us5 => ?_
  have us45 := us4.trans us5
  have I5 : Inv X pins σ H' { s' with heap := h5 } := I.flown os bare un hB ff kU kT fl5.1 us45
  refine wpAny_handleBy_cons (codeAny_handlers_test ?_) (by intro z; cases z)
  refine ld_glob (X := X.marked a) (I5.marked a) M1.gl M1.m ?_ M1.db
  have LT : PySem.W.Looks (model X.prog X.w) h5 (typeOf (.ref a)) (.ref C) := by
    obtain ⟨ob, hob, hc⟩ := fl5.there
    rw [← hc]
    exact (PySem.W.Looks.ld hob).andThen .now
  refine (PySem.W.exm_one I5.kIn LT M1.ex).here ?_
  refine codeAny_handlers_suite_as ?_
  refine lands_againW (s := { s' with heap := h5 }) fl5 fun h6 fl6 us6 => ?_
  have I6 : Inv X pins σ H' { s' with heap := h6 } := I.flown os bare un hB ff kU kT fl6.1 (us45.trans us6)
  have fn := fl6.2.1
  obtain ⟨oe, vs, T', oT, tsn, he, ⟨hcls, _⟩, hd, _⟩ := fl6.2.2.2
  obtain ⟨oe', vs', _, _, _, he', _, hd', _⟩ := fl.2.2.2
  have hfree : H' a = none := by
    cases e : H' a with
    | none => rfl
    | some u =>
      obtain ⟨ob, eb⟩ := (hB a u e).thereIs
      rw [fn] at eb; cases eb
  have nstk : a ∉ frs X.stack := fun z2 => by
    obtain ⟨_, o2, e2, hnf⟩ := ff.mem z2
    rw [he'] at e2; cases e2
    exact hnf _ hd'
  have nloc : a ≠ X.env.locals := fun z => by
    obtain ⟨m, ⟨o2, es, ep, ho, hd2, _⟩, _⟩ := I6.loc
    rw [← z] at ho
    have ho : h6.get? a = some o2 := ho
    rw [he] at ho; cases ho
    rw [hd] at hd2; cases hd2
  have nos : s.heap.get? a = none := by
    cases e : s.heap.get? a with
    | none => rfl
    | some o =>
      obtain ⟨o', e'⟩ := kT a o e nstk
      rw [fn] at e'; cases e'
  have nos0 : X.s₀.heap.get? a = none := by
    cases e : X.s₀.heap.get? a with
    | none => rfl
    | some o =>
      obtain ⟨o', e'⟩ := I.base.there a o e (by rw [hex]; simp)
      rw [nos] at e'; cases e'
  have ncell : ∀ y c, X.env.cells.lookup y = some c → c ≠ a := fun y c e z => by
    obtain ⟨v, o2, ho, hd2⟩ := I.cell y c e
    rw [z, nos] at ho; cases ho
  have npin : ∀ p ∈ X.pn ++ pins, p.1 ≠ a := fun p hp z => by
    have := (I.pin p hp).1
    rw [z, nos] at this; cases this
  refine store_ok2 (X := X.marked a) (v := .ref a) (I6.marked a) hN hi (.inl hln) rfl (fun s7 I7 sb => ?_) (.inr hln)
  obtain ⟨ad, sb, had⟩ := sb
  have ane : a ≠ ad := fun z => by
    rcases had with had | had
    · exact nloc (z.trans had)
    · exact ncell n ad had z.symm
  have he7 : s7.heap.get? a = some oe := (sb.2 a ane).trans he
  have I8 := Inv.track (X := X.marked a) I7 he7 hcls hfree nloc ncell npin nos0
  refine wpAny_mono (hs a pins s7 _ _ (goneD j D) I8 (qq a hfree)) (fun f s9 z => ?_) fun e s9 z => (h0 e s9 z).elim
  exact wpAny_mono (name_goneM (M := model X.prog X.w) (A := X.A) hN hi hk I.ok z) (fun _ _ z => z) fun _ _ z => z.elim
end
noncomputable def tTryE (i j : Nat) (sp : Sp) (dvs : List V) (C : Addr) (t : TA) (ts : Addr → TS) : TS := fun D σ H => t σ H fun vs H1 => sp (vs ++ dvs) H1 (fun v H2 => D.nx (σ.set i (some v)) H2) fun cls _ H2 => cls = .ref C ∧ ∀ a, H2 a = none → ts a (goneD j D) (σ.set j (some (.ref a))) (upd H2 a (ExcO a C))
section
variable {X : Cx} {k : Nat} {f : Addr} {fd : FuncData} {ps : List Str} {sp : Sp} {dvs : List V} {ds : List Value} {fx x cx n : Str} {p cpos px apos np hpos pos : Pos} {e : Expr} {es : List Expr} {t : TA} {T C : Addr} {b0 : Stmt} {suite : List Stmt} {ts : Addr → TS} {i j : Nat}
theorem ps_tryE (F : FnOk X.prog X.w X.K X.mg X.base (CXe X.prog X.w) k f fd ps sp) (hr : Room k X.A) (hg : Gl X fx) (hm : X.mg fx = some (.ref f)) (hk : PySem.W.keepIn X.K (.ref f) = true) (hb : Binds X.K fd ps ds) (hd : Vals dvs ds) (h0 : ∀ e s, X.xe e s → False)
    (hst : X.stack = X.env :: X.outer) (hf : X.env.frame = some X.env.locals) (ha : PA X (e :: es) t) (hN : X.N.Nodup) (hi : X.N[i]? = some x) (hx : Loc X.env.scope x)
    (hj : X.N[j]? = some n) (hln : X.env.scope.names.lookup n = some .local) (hkn : X.env.kindOf n = some .local) (M1 : Meets1 X cx T C true) (hex : X.ex = [])
    (hs : ∀ a, PSs (X.marked a) (b0 :: suite) (ts a)) (hdb : (fx == ("__debug__" : Str)) = false := by decide) (he : starEach (e :: es) X.env = (false, eval e X.env) :: starEach es X.env := by rfl) (hpl : (backTo cpos (starEach es X.env)).any (·.1) = false := by rfl)
    (hsw : swapsWith (.Call (.Name fx p) (e :: es) [] cpos) (some (.Name x px)) apos.line X.env = pure false := by rfl) (hfn : X.fn x = true ∨ X.env.scope.names.lookup x = some .local := by first | exact .inl rfl | exact .inr rfl | assumption) :
    PS X (.Try [.Assign [.Name x px] (.Call (.Name fx p) (e :: es) [] cpos) apos] [.ExceptHandler (some (.Name cx np)) (some n) (b0 :: suite) hpos] [] [] pos) (tTryE i j sp dvs C t ts) := by
  intro pins s σ H D I h
  refine wpAny_Try_except ?_
  refine wpAny_execs_cons ?_
  refine wpAny_Assign_Name ?_ hsw
  refine wpAny_Call_Name_kw (ld_glob I hg hm ?_ hdb)
  refine PySem.W.callWith_K (h₀ := X.base) I.ok.mod.kin hk (wpAny_mono (ha cpos pins s σ H _ I h) (fun us s1 z => ?_) fun e s z => (h0 e s z).elim) he hpl
  obtain ⟨vs, H1, I1, r, q⟩ := z
  refine ⟨I1.kIn, ?_⟩
  have r2 : Vals (vs ++ dvs) (us ++ ds) := r.append hd
  have hl : (us ++ ds).length = ps.length := by rw [← r2.length]; exact F.len _ _ _ _ q
  refine wpAny_call (codeAny_mono (F.run X.A X.stack s1 H1 ⟨us, []⟩ (us ++ ds) (vs ++ dvs) _ _ hr I1.env0 (hb s1 us I1.kIn hl) r2 q) fun rr s' hq => ?_)
  cases rr with
  | error ex => exact caught_at (ts := ts) I1 hst hf h0 (show CXe X.prog X.w X.stack H1 s1 (fun cls _ H2 => cls = .ref C ∧ ∀ a, H2 a = none → ts a (goneD j D) (σ.set j (some (.ref a))) (upd H2 a (ExcO a C))) ex s' from hq) hN hj hln hkn M1 hex (fun cls H' z => z) hs
  | ok fl =>
    cases fl with
    | ret u =>
      obtain ⟨v, H2, I2, rv, q2⟩ := I1.after hq
      refine store_ok I2 hN hi hx rv (fun s2 I3 => ?_) hfn
      exact wpAny_execs_nil (wpAny_execs_nil ⟨_, H2, I3, q2⟩)
    | next => exact False.elim hq
    | brk => exact False.elim hq
    | cont => exact False.elim hq
end
end L2

namespace L2
open PySem PySem.Spec PyProof.Rows
section
variable {X : Cx} {x : Str} {C : Addr}
noncomputable def rMkE (C : Addr) : List V → Hp → VK → Prop := fun xs H Q => xs.length ≤ sizeLine ∧ ∀ a, H a = none → Q (.ref a) (upd H a (ExcO a C))
theorem ObjOk.here {P : Program} {w : World} {H : Hp} {h : Heap} {a : Addr} {o : HO} (x : ObjOk P w H h a o) : ∃ u, h.get? a = some u := by
  cases o with
  | lst xs => obtain ⟨_, _, _, _, e⟩ := x; exact ⟨_, e⟩
  | tup xs => obtain ⟨_, _, _, p⟩ := x; obtain ⟨_, e⟩ := p; exact ⟨_, e.1⟩
  | dK kvs => obtain ⟨_, _, _, _, o, _, _, e, _⟩ := x; exact ⟨_, e⟩
  | dT kvs => obtain ⟨_, _, _, _, o, _, _, e, _⟩ := x; exact ⟨_, e⟩
  | set S n => obtain ⟨o, _, _, _, e, _⟩ := x; exact ⟨_, e⟩
  | ins C dx fs => obtain ⟨_, _, _, e, _⟩ := x; exact ⟨_, e⟩
  | own y => obtain ⟨_, e⟩ := x; exact ⟨_, e⟩
  | xd fs => obtain ⟨_, ⟨_, _, _, e, _⟩, _⟩ := x; exact ⟨_, e⟩
  | rng lo hi => obtain ⟨_, _, _, e⟩ := x; exact ⟨_, e⟩
  | frz ob u => obtain ⟨e, _⟩ := x; exact ⟨_, e⟩
  | tbl ps => exact ⟨_, (show h.get? a = some _ from x)⟩
  | met f y => exact ⟨_, (show h.get? a = some _ from x)⟩
  | ext φ => obtain ⟨_, ⟨_, e⟩, _⟩ := x; exact ⟨_, e⟩
theorem call_mkE (hex : X.ex = []) (O : PySem.W.excIn X.K C bmVE "ValueError.__new__" = true) (hn : PySem.W.nsIn X.K mainGlobals x = some (some (.ref C))) : CallR X (.ref C) (rMkE C) := by
  intro pins s σ H xs us Q I hv h
  obtain ⟨mb, b1, b2⟩ := I.mod.blt
  obtain ⟨loose, TR⟩ := topRead_any (p := X.prog) I.mod.glob b1 I.mod.nolimit b2
  have OC := PySem.W.own_of_in I.mod.kin TR hn O
  obtain ⟨tl, Nn, nm, qq, bs, hdct, sn, sub, ab, col, dd, k0, k1, k2, k3, k5, mN, oC, oN, oi, oT⟩ := OC.obj
  have hk := I.bk
  refine wpAny_call_exc_subU (h := s.heap) (g := s.gens) (d := s.drawn) (t := s.toks) (os := s.os) PySem.F.excBase_ValueError (by decide) PySem.F.excBase_ValueError (oT.keeps hk) (hk _ _ oC) (oN.keeps hk) oi (fun h' e m => ?_) (by rw [← hv.length]; exact h.1)
  obtain ⟨t, ht, _, _⟩ := m.there
  have I2 : Inv X pins σ H { s with heap := h', toks := s.toks } := I.kept m.keeps
  have nos := m.new
  have h2 : H e = none := by
    cases q : H e with
    | none => rfl
    | some o =>
      obtain ⟨u, hu⟩ := ObjOk.here (I.hok e o q)
      rw [nos] at hu
      cases hu
  refine ⟨.ref e, _, Inv.track I2 ht rfl h2 (fun z => ?_) (fun y c hc z => ?_) (fun p hp z => ?_) ?_, rfl, h.2 e h2⟩
  · obtain ⟨m', ⟨o2, es, ep, ho, hd2, _⟩, _⟩ := I.loc
    rw [← z, nos] at ho; cases ho
  · obtain ⟨v, o2, ho, _⟩ := I.cell y c hc
    rw [z, nos] at ho; cases ho
  · have := (I.pin p hp).1
    rw [z, nos] at this; cases this
  · cases q : X.s₀.heap.get? e with
    | none => rfl
    | some o =>
      obtain ⟨o', e'⟩ := I.base.there e o q (by rw [hex]; exact List.not_mem_nil)
      rw [nos] at e'; cases e'
variable {p pos : Pos} {e0 : Expr} {es : List Expr} {t : TA}
theorem pe_mkE (hex : X.ex = []) (O : PySem.W.excIn X.K C bmVE "ValueError.__new__" = true) (hn : PySem.W.nsIn X.K mainGlobals x = some (some (.ref C))) (hg : Gl X x) (hm : X.mg x = some (.ref C)) (ha : PA X (e0 :: es) t) (hdb : (x == ("__debug__" : Str)) = false := by decide)
    (he : starEach (e0 :: es) X.env = (false, eval e0 X.env) :: starEach es X.env := by rfl) (hpl : (backTo pos (starEach es X.env)).any (·.1) = false := by rfl) : PE X (.Call (.Name x p) (e0 :: es) [] pos) (tCB (rMkE C) t) := by
  intro pins s σ H Q I h
  refine wpAny_Call_Name_kw (ld_glob I hg hm ?_ hdb)
  unfold callWith
  have hA := ha pos pins s σ H _ I h
  rw [he] at hA ⊢
  have hp2 : ((false, eval e0 X.env) :: backTo pos (starEach es X.env)).any (·.1) = false := by
    show (false || (backTo pos (starEach es X.env)).any (·.1)) = false
    rw [hpl]; rfl
  refine wpAny_bind (wpAny_holding (wpAny_mono (Calls.evalArgs_plain (Q := fun a s1 => a.kw = [] ∧ ∃ vs H1, Inv X pins σ H1 s1 ∧ Vals vs a.pos ∧ rMkE C vs H1 Q) (thn hA fun us s1 ⟨vs, H1, I1, r1, q1⟩ => ⟨rfl, vs, H1, I1, r1, q1⟩)) (fun a s1 h1 => wpAny_bind (wpAny_standAt ?_)) fun _ _ z => z))
  obtain ⟨apos, akw⟩ := a
  obtain ⟨hkw, vs, H1, I1, r1, q1⟩ := h1
  obtain rfl : akw = [] := hkw
  obtain ⟨mb, b1, b2⟩ := I1.mod.blt
  obtain ⟨loose, TR⟩ := topRead_any (p := X.prog) I1.mod.glob b1 I1.mod.nolimit b2
  have OC := PySem.W.own_of_in I1.mod.kin TR hn O
  obtain ⟨tl, Nn, nm, qq, bs, hdct, sn, sub, ab, col, dd, k0, k1, k2, k3, k5, mN, oC, oN, oi, oT⟩ := OC.obj
  have hCE := call_mkE (X := X) hex O hn pins s1 σ H1 vs apos Q I1 r1 q1
  have hk := I1.bk _ _ oC
  have hp3 : ((backTo pos ((false, eval e0 X.env) :: starEach es X.env)).any fun x => x.fst) = false := by
    show (false || (backTo pos (starEach es X.env)).any (·.1)) = false
    rw [hpl]; rfl
  have hp4 : ((backToKw pos (keywordEach [] X.env)).any fun x => x.fst.isNone) = false := rfl
  rw [hp3, hp4]
  obtain ⟨hp', g, d, tk, os⟩ := s1
  refine wpAny_bind (wpAny_keeperOf_exc hk ?_)
  exact wpAny_bind (wpAny_mono hCE (fun r s2 hr => wpAny_bind (wpAny_holding (wpAny_point (wpAny_pure hr)))) fun _ _ x => x)
end
end L2

namespace PySem
open Sem (wp)
section
open PySem.W
variable {prog : Program} {w : World} {A : Around} {h : Heap} {g : Array GenState} {d : Drawn} {t : Nat} {os : OsState} {E : Value → Shared → Prop}
variable {nm q : Str} {C N fI : Addr} {bs bm bmB : List Value} {hdct : Bool} {sn : List Str} {sub : List Value} {ab : Bool} {col : Option Bool} {dd : Option Addr} {k0 k1 k2 k3 k5 : Option Value} {B Bn newId nid initId inN : String} {bmN : List Value}
abbrev excNew (h : Heap) (C : Addr) (rest : List Value) : Heap := (h.push { cls := .type "tuple", data := .seq rest.toArray }).push { cls := .ref C, data := .fields #[.ref h.objs.size, .none, .none, .none, .bool false, .none] }
theorem type_call_own (Fn : ExcBaseFacts Bn newId inN bmN) (hBn : bmB.contains (.type Bn) = true) (F : ExcBaseFacts B nid initId bmB) (T : OwnTail h bmB bm) {mN : Str → Option Value} {rest : List Value} {Q : Fin → Shared → Prop}
    (hC : h.get? C = some (excClassObj nm q C N bs bm hdct sn sub ab col dd k0 k1 k2 k3 k5 newId)) (hn : h.Ns N mN) (hni : mN "__init__" = some (.ref fI))
    (hb : ∀ h' : Heap, (∀ b o, h.get? b = some o → h'.get? b = some o) → ∀ self, Looks (model prog w) h' (bindSpecial (.ref fI) self) (.ref fI, [self]))
    (hq : wpAny (model prog w) A (call (.ref fI) (.ref (h.objs.size + 1) :: rest) []) (fun v s' => v = .none ∧ Q (.done (.ret (.ref (h.objs.size + 1)))) s') E ⟨excNew h C rest, g, d, t, os⟩) (hrest : rest.length ≤ sizeLine := by size_fits) :
    wpAny (model prog w) A (Builtin.«type.__call__» ⟨.ref C :: rest, []⟩) Q E ⟨h, g, d, t, os⟩ := by
  repeat (first | with_reducible refine wpAny_loadPart_at hC ?_ | with_reducible refine wpAny_madeBy_exc hC ?_ | wp_step)
  refine codeAny_call_builtin_code (Code.quiet_builtin _ Fn.quiet) (wpAny_check_new_subU Fn hBn T hC ?_)
  refine codeAny_exc_new_subU Fn hBn F T hC ?_ hrest
  show wpAny _ _ _ _ _ _
  have kp : ∀ b o, h.get? b = some o → (excNew h C rest).get? b = some o := fun b o e => Heap.get?_push_of_some _ (Heap.get?_push_of_some _ e)
  have hC₁ := kp _ _ hC
  have hn₁ : (excNew h C rest).Ns N mN := let ⟨o, es, ep, e, r⟩ := hn; ⟨o, es, ep, kp _ _ e, r⟩
  have hget : (excNew h C rest).get? (h.objs.size + 1) = some { cls := .ref C, data := .fields #[.ref h.objs.size, .none, .none, .none, .bool false, .none] } := by unfold excNew; heap_get
  have hcC : (Value.ref C :: bm).contains (.ref C) = true := by simp
  have T₁ := T.keeps kp
  unfold isInstance
  repeat (first | with_reducible refine wpAny_loadPart_at hget ?_ | (with_reducible refine wpAny_isSubtype_exc hC₁ ?_; rw [hcC]) | wp_step)
  show wpAny _ _ (typeLookup (.ref C) _) _ _ _
  refine wpAny_typeLookup_tail hC₁ hn₁ T₁ F.mroIs F.init.lookup ?_
  rw [hni]
  dsimp only
  refine wpAny_holding (wpAny_bind ((hb _ kp _).at ?_))
  dsimp only
  refine wpAny_bind (wpAny_mono hq (fun v s' z => ?_) fun _ _ x => x)
  obtain ⟨rfl, z⟩ := z
  refine wpAny_pure ?_
  dsimp only
  exact wpAny_pure z
theorem wpAny_call_exc_own (Fn : ExcBaseFacts Bn newId inN bmN) (hBn : bmB.contains (.type Bn) = true) (F : ExcBaseFacts B nid initId bmB) (T : OwnTail h bmB bm) {mN : Str → Option Value} {rest : List Value} {Q : Value → Shared → Prop}
    (hC : h.get? C = some (excClassObj nm q C N bs bm hdct sn sub ab col dd k0 k1 k2 k3 k5 newId)) (hn : h.Ns N mN) (hni : mN "__init__" = some (.ref fI))
    (hb : ∀ h' : Heap, (∀ b o, h.get? b = some o → h'.get? b = some o) → ∀ self, Looks (model prog w) h' (bindSpecial (.ref fI) self) (.ref fI, [self]))
    (hq : wpAny (model prog w) (A.under (.builtin "type.__call__" ⟨.ref C :: rest, []⟩)) (call (.ref fI) (.ref (h.objs.size + 1) :: rest) []) (fun v s' => v = .none ∧ Q (.ref (h.objs.size + 1)) s') E ⟨excNew h C rest, g, d, t, os⟩) (hrest : rest.length ≤ sizeLine := by size_fits) :
    wpAny (model prog w) A (call (.ref C) rest) Q E ⟨h, g, d, t, os⟩ := by
  have f1 := tc_lookup
  have f2 := tc_bind (.ref C)
  have hT : (⟨h, g, d, t, os⟩ : Shared).TypeIs (.ref C) "type" := ⟨_, hC, rfl⟩
  refine wpAny_call (codeAny_of_tree ?_)
  show wpAny _ _ (callAny (.ref C) _) _ _ _
  repeat (any_goals (first | assumption | with_reducible refine wpAny_loadPart_at hC ?_ | wp_step))
  refine ⟨rfl, ?_⟩
  refine codeAny_call_builtin_at (Code.quiet_builtin _ (by decide +kernel)) entry_typeCall (wpAny_check_type_call_sub hC (type_call_own (hrest := hrest) Fn hBn F T hC hn hni hb ?_))
  exact hq
end
end PySem

namespace L2
open PySem PySem.Spec PyProof.Rows
noncomputable def overVE : List Value → Bool
  | .ref _ :: r => overVE r
  | l => l == bmVE
theorem over_pass (self : Value) : ∀ {l : List Value}, overVE l = true → refuseLoop self "__setattr__" l = pure ()
  | [], e => by cases e
  | v :: r, e => by
    cases v with
    | ref c => rw [refuseLoop_ref]; exact over_pass self (l := r) (by simpa [overVE] using e)
    | type n => rw [beq_iff_eq.mp (show ((Value.type n :: r) == bmVE) = true from e)]; exact PySem.F.store_ValueError.passes self
    | _ => exact absurd (beq_iff_eq.mp (show ((_ :: r) == bmVE) = true from e)) (by intro z; cases z)
section
open PySem.W PySem.Calls PySem.Builtin PySem.Builtin.ObjectAttr
variable {prog : Program} {w : World} {A : Around} {E : Value → Shared → Prop} {s : Shared} {K : Frag} {a C : Addr} {oe : Obj}
theorem exc_get {od : Obj} {v : Value} {name : Str} {expr : Bool} {Q : Value → Shared → Prop} (Fx : ExcF K C) (X : K.In s.heap) (J : InstAt s.heap a oe C (some od)) (hf : findObj K C (some od) name = some (.value v)) (hh : handedIn v = true)
    (h : Q v { s with toks := s.toks + 1 }) : wpAny (model prog w) A (getAttr (.ref a) name expr) Q E s := by
  obtain ⟨hp, g, d, t, os⟩ := s
  have p := J.at_
  have hc := J.cls
  have L0 := exc_type (M := model prog w) p hc
  have L1 := looks_findIn (M := model prog w) X Fx.ga
  have L2 := looks_findIn (M := model prog w) X Fx.nohook
  have L3 := looks_find (M := model prog w) X J hf
  unfold getAttr getAttrBy
  refine wpAny_bind (wpAny_mkText (wpAny_holding (wpAny_bind (L0.at (wpAny_bind (L1.at ?_))))))
  show wpAny _ _ (if (onTheHeap (Value.ref C) && (Value.builtin "BaseException.__getattribute__" == Value.builtin "object.__getattribute__")) = true then _ else getAttrByItsOwn _ _ _ _ _ _) _ _ _
  have hne : (Value.builtin "BaseException.__getattribute__" == Value.builtin "object.__getattribute__") = false := by decide +kernel
  rw [hne, Bool.and_false, if_neg Bool.false_ne_true]
  unfold getAttrByItsOwn
  refine wpAny_bind ((show Looks (model prog w) hp (hookBefore (.ref C)) none from L2).at ?_)
  refine wpAny_bind (wpAny_attempt (wpAny_holding ?_))
  have hcg : callGetattribute (.ref a) (.str name t) (.builtin "BaseException.__getattribute__") expr = boundAndCalled (.builtin "BaseException.__getattribute__") (.ref a) (.str name t) := by
    cases expr <;> rfl
  rw [hcg]
  unfold boundAndCalled
  rw [F.excAttr_ValueError.ga.bind]
  refine wpAny_bind (wpAny_pure ?_)
  refine wpAny_call (codeAny_call_builtin F.excAttr_ValueError.ga.plain F.entry_bexc_ga (exc_check Fx X p hc ?_))
  unfold Builtin.«object.__getattribute__»
  refine wpAny_bind (wpAny_pure (a := (Value.ref a, [Value.str name t])) ?_)
  refine wpAny_bind (wpAny_pure (a := name) ?_)
  refine wpAny_bind (L0.at (wpAny_bind (L3.at ?_)))
  refine wpAny_pure ?_
  show wpAny _ _ (handedOut v) _ _ _
  rw [handedOut_of hh]; exact wpAny_pure h
abbrev withDict (h : Heap) (a : Addr) : Heap := (h.push { cls := .type "dict", data := .dict #[] }).update a fun o => { o with dict := some h.objs.size }
theorem exc_set {name : Str} {v : Value} {Q : Unit → Shared → Prop} (X : K.In s.heap) (J : InstAt s.heap a oe C none) (hs : findIn K (.ref C) "__setattr__" = some (some (.builtin "object.__setattr__")))
    (hp : (clsIn K C).any (fun cd => overVE cd.mro) = true) (hn : findIn K (.ref C) name = some none) (hh : (clsIn K C).any (·.hasDict) = true)
    (h : ∀ h' tk, h'.get? a = some { oe with dict := some s.heap.objs.size } → h'.Ns1 s.heap.objs.size (fun y => if y = name then some v else none) → (∀ b o, b ≠ a → s.heap.get? b = some o → h'.get? b = some o) → Q () { s with heap := h', toks := tk }) :
    wpAny (model prog w) A (setAttr (.ref a) name v) Q E s := by
  refine set_plain X J hs ?_
  have SF := PySem.F.store_object
  obtain ⟨cd, hc, ho⟩ := any_some hp
  obtain ⟨cd2, hc2, hd2⟩ := any_some hh
  rw [hc] at hc2
  cases hc2
  have ne : cd.mro.isEmpty = false := by cases q : cd.mro with | nil => rw [q] at ho; cases ho | cons _ _ => rfl
  have hob : ∀ {l : List Value}, overVE l = true → l.contains (.type "object") = true := fun {l} => by
    induction l with
    | nil => intro e; cases e
    | cons x r ih =>
      intro e
      cases x with
      | ref c => rw [List.contains_cons, ih (by simpa [overVE] using e), Bool.or_true]
      | _ => rw [beq_iff_eq.mp (show ((_ :: r) == bmVE) = true from e)]; decide
  have sub : Looks (model prog w) s.heap (isInstance (.ref a) (.type "object")) true := J.type.andThen (looks_mroIn X (by unfold mroIn; rw [hc, Option.bind_some, if_neg (by rw [ne]; decide), hob ho]))
  refine codeAny_call_builtin SF.slot.plain SF.entry (@check_slot (model prog w) _ _ { s with toks := s.toks + 1 } "object.__setattr__" "object" "__setattr__" (.ref a) [.str name s.toks, v] [] _ SF.kind SF.split sub (SF.args (.ref a) (.str name s.toks) v) ?_)
  have hm : Looks (model prog w) s.heap (mroOf (.ref C)) cd.mro := (looks_clsIn X hc).andThen .now
  obtain ⟨hp, g, d, t, os⟩ := s
  have L0 := J.type (M := model prog w)
  have L1 := looks_findIn (M := model prog w) X hn
  have L2 := looks_clsIn (M := model prog w) X hc
  have pa := J.at_
  have hcls := J.cls
  have hno := J.no
  have hdict : oe.dict = none := by
    have := J.dict
    cases q : oe.dict with
    | none => rfl
    | some _ => rw [q] at this; exact this.elim
  rw [osa_eq, refuse_eq]
  refine wpAny_bind (wpAny_bind (L0.at (wpAny_bind (hm.at ?_))))
  rw [over_pass _ ho]
  refine wpAny_pure (wpAny_bind (L0.at (wpAny_bind (L1.at (wpAny_bind (wpAny_pure ?_))))))
  show wpAny _ _ (storeInOwnDict (.ref a) (.ref C) (.str name t) name v false) _ _ _
  obtain ⟨oc, od, odt, osl⟩ := oe
  dsimp only at hcls hdict pa
  subst hcls hdict
  refine wpAny_bind (wpAny_pure (wpAny_bind (wpAny_bind (wpAny_loadPart pa (wpAny_bind (L2.at ?_))))))
  rw [hd2]
  have hx1 : (hp.push { cls := .type "dict", data := .dict #[] }).get? a = some { cls := .ref C, dict := none, data := odt, slots := osl } := Heap.get?_push_of_some _ pa
  have hne : a ≠ hp.objs.size := Nat.ne_of_lt (Heap.lt_size pa)
  have hfz : ({ cls := .ref C, dict := some hp.objs.size, data := odt, slots := osl } : Obj).isFreed = false := by
    have := (Heap.get?_some_iff.mp pa).2
    cases odt <;> first | rfl | exact this
  have hx2 : (withDict hp a).get? a = some { cls := .ref C, dict := some hp.objs.size, data := odt, slots := osl } := Heap.get?_update_self _ hx1 hfz
  have hg : (withDict hp a).get? hp.objs.size = some { cls := .type "dict", data := .dict #[] } := (Heap.get?_update_ne _ _ _ _ hne.symm).trans (Heap.get?_push_at rfl rfl)
  have hnd : (withDict hp a).Ns hp.objs.size (fun _ => none) := ⟨_, #[], _, hg, rfl, fun e he => absurd he (by simp), fun _ => rfl⟩
  have fin : wpAny (model prog w) A.in1 (storeInDict hp.objs.size (.str name t) name v) (fun fin s' => match fin with
      | .done f => (fun (r : Result) s' => match r with | .ok (.ret _) => Q () s' | .ok _ => False | .error e => E e s') (.ok f) s'
      | .again c' => c'.quiet = true ∧ codeAny (model prog w) A c' (fun (r : Result) s' => match r with | .ok (.ret _) => Q () s' | .ok _ => False | .error e => E e s') s') (fun e s' => E e s') ⟨withDict hp a, g, d, t + 1, os⟩ := by
    unfold storeInDict newKeyGuard
    refine wpAny_bind (wpAny_pure (wpAny_bind (wpAny_nsSet1 (Heap.Ns1.of_empty hnd) fun h' hn' hs' => ?_)))
    obtain ⟨oD, esD, epD, hoD, hdD, hcD⟩ := hn'.count (Within.cons name v Within.nil)
    refine wpAny_bind (wpAny_lookBehind hoD (by rw [hdD]; exact pastItsLine_dict (Nat.le_trans hcD (by rw [List.length_cons, List.length_nil, sizeLine_eq]; omega))) ?_)
    refine wpAny_pure ?_
    exact h h' _ ((hs'.2 a hne).trans hx2) hn' (fun b o hb e => (hs'.2 b (Nat.ne_of_lt (Heap.lt_size e))).trans ((Heap.get?_update_ne _ _ _ _ hb).trans (Heap.get?_push_of_some _ e)))
  cases odt with
  | cls c => exact absurd (show false = true from hno) Bool.false_ne_true
  | _ => exact wpAny_bind (wpAny_alloc' (wpAny_bind (wpAny_update' hx1 (wpAny_pure fin))))
end
end L2

namespace L2
open PySem PySem.Spec PyProof.Rows
noncomputable def excInI (K : PySem.W.Frag) (C fI : Addr) : Bool := match K.lookup C with
  | some ⟨.type "type", _, .cls cd, sl⟩ =>
    (match cd.mro, sl.toList with
      | .ref C' :: bm, [_, _, _, _, some (.builtin n), _] =>
        (C' == C && n == "ValueError.__new__") && ((!cd.hasDel && PySem.W.tailIn K bmVE bm) && (PySem.W.nsOkIn K cd.ns && PySem.W.nsIn K cd.ns "__init__" == some (some (.ref fI))))
      | _, _ => false)
  | _ => false
theorem ns_some_of {K : PySem.W.Frag} {h : Heap} {N : Addr} {m : Str → Option Value} {n : Str} {v : Value} (X : K.In h) (G : h.Ns N m) (e : PySem.W.nsIn K N n = some (some v)) : m n = some v := by
  obtain ⟨o, es, ep, ho, hd, _, hf⟩ := G
  unfold PySem.W.nsIn at e
  split at e
  · rename_i q
    have := X _ _ q
    rw [ho] at this
    cases this
    cases hd
    split at e
    · rename_i he
      rw [← hf]
      unfold nsFind findBy
      rw [← Array.find?_toList, he]
      simpa using e
    · split at e <;> cases e
  · cases e
theorem ini_of {K : PySem.W.Frag} {h : Heap} {C fI : Addr} (X : K.In h) (q : excInI K C fI = true) :
    ∃ (tl : List Value) (N : Addr) (nm qn : Str) (bs : List Value) (hdct : Bool) (sn : List Str) (sub : List Value) (ab : Bool) (col : Option Bool) (dd : Option Addr) (k0 k1 k2 k3 k5 : Option Value) (mN : Str → Option Value),
      h.get? C = some (excClassObj nm qn C N bs tl hdct sn sub ab col dd k0 k1 k2 k3 k5 "ValueError.__new__") ∧ h.Ns N mN ∧ mN "__init__" = some (.ref fI) ∧ OwnTail h bmVE tl := by
  unfold excInI at q
  split at q
  · rename_i dd cd sl ho
    split at q
    · rename_i C' bm k0 k1 k2 k3 n k5 hm hs
      simp only [Bool.and_eq_true, beq_iff_eq, Bool.not_eq_true'] at q
      obtain ⟨⟨rfl, rfl⟩, ⟨hdel, ht⟩, hok, hni⟩ := q
      obtain ⟨nm, bs, mro, ns, qn, hd, sn, sub, ab, col, del⟩ := cd
      dsimp only at hm hdel hok hni
      subst hm hdel
      have hsl : sl = #[k0, k1, k2, k3, some (.builtin "ValueError.__new__"), k5] := by
        obtain ⟨l⟩ := sl
        simp only at hs
        rw [hs]
      subst hsl
      exact ⟨bm, ns, nm, qn, bs, hd, sn, sub, ab, col, dd, k0, k1, k2, k3, k5, _, X _ _ ho, .of_isNs (PySem.W.isNs_of_in X hok), ns_some_of X (.of_isNs (PySem.W.isNs_of_in X hok)) hni, PySem.W.tail_of_in X ht⟩
    · cases q
  · cases q
abbrev excData (t : Addr) : Data := .fields #[.ref t, .none, .none, .none, .bool false, .none]
noncomputable def ExcB (a C : Addr) : HO := .ext fun h => ∃ t : Addr, h.get? a = some { cls := .ref C, data := excData t }
noncomputable def ExcN (a C dx : Addr) : HO := .ext fun h => ∃ t : Addr, h.get? a = some { cls := .ref C, dict := some dx, data := excData t }
noncomputable def ExcD (a C dx : Addr) : HO := .ext fun h => ∃ (oe : Obj) (vs : Array Value), h.get? a = some oe ∧ oe.cls = .ref C ∧ oe.dict = some dx ∧ oe.data = .fields vs
section
variable {P : Program} {w : World} {H : Hp} {h : Heap} {a C dx t : Addr} {oe : Obj} {vs : Array Value}
theorem okB (e : h.get? a = some { cls := .ref C, data := excData t }) : ObjOk P w H h a (ExcB a C) := ⟨⟨t, e⟩, ⟨_, e⟩, fun _ _ ⟨u, q⟩ k => ⟨u, k _ q⟩⟩
theorem okN (e : h.get? a = some { cls := .ref C, dict := some dx, data := excData t }) : ObjOk P w H h a (ExcN a C dx) := ⟨⟨t, e⟩, ⟨_, e⟩, fun _ _ ⟨u, q⟩ k => ⟨u, k _ q⟩⟩
theorem okO (e : h.get? a = some oe) (hc : oe.cls = .ref C) : ObjOk P w H h a (ExcO a C) := ⟨⟨oe, e, hc⟩, ⟨_, e⟩, fun _ _ ⟨o, q, r⟩ k => ⟨o, k _ q, r⟩⟩
end
structure OwnX (K : PySem.W.Frag) (C fI : Addr) (f : Str) : Prop where
  ini : excInI K C fI = true
  sa : PySem.W.findIn K (.ref C) "__setattr__" = some (some (.builtin "object.__setattr__"))
  ov : (PySem.W.clsIn K C).any (fun cd => overVE cd.mro) = true
  na : PySem.W.findIn K (.ref C) f = some none
  hd : PySem.W.hasDictIn K C = true
  fn : PySem.W.typeIn K (.ref fI) = some (.type "function")
section
variable {X : Cx} {pins : List (Addr × Obj)} {σ : St} {H : Hp} {s : Shared}
theorem Inv.reword {a : Addr} {φ : Heap → Prop} {o : HO} (I : Inv X pins σ H s) (e : H a = some (.ext φ)) (new : ObjOk X.prog X.w (upd H a o) s.heap a o) : Inv X pins σ (upd H a o) s := by
  have := I.write (x := a) (e := a) (h' := s.heap) (t' := s.toks) (by rw [e]; exact True.intro) (.inl rfl) (fun b u _ q => q) (ObjOk.thereIs (I.hok a _ e)) new
  exact this
theorem setX_ok {a C fI : Addr} {f : Str} {y : V} {u : Value} {A : Around} {E : Value → Shared → Prop} {Q : Unit → Shared → Prop} (I : Inv X pins σ H s) (e : H a = some (ExcB a C)) (O : OwnX X.K C fI f) (ry : RelV y u)
    (h : ∀ dx s', dx ≠ a → H dx = none → Inv X pins σ (upd (upd H a (ExcN a C dx)) dx (.xd [(f, y)])) s' → Q () s') : wpAny (model X.prog X.w) A (setAttr (.ref a) f u) Q E s := by
  obtain ⟨⟨t, pa⟩, _⟩ := (show ObjOk X.prog X.w H s.heap a (ExcB a C) from I.hok a _ e)
  have J : PySem.W.InstAt s.heap a { cls := .ref C, data := excData t } C none := ⟨pa, rfl, rfl, True.intro⟩
  refine exc_set I.kIn J O.sa O.ov O.na O.hd fun h' tk ha hn hk => ?_
  have hlt := Heap.lt_size pa
  have hne : s.heap.objs.size ≠ a := Nat.ne_of_gt hlt
  have hfz : ({ cls := .ref C, dict := some s.heap.objs.size, data := excData t } : Obj).isFreed = false := rfl
  have g1 : (s.heap.update a fun _ => { cls := .ref C, dict := some s.heap.objs.size, data := excData t }).get? a = some { cls := .ref C, dict := some s.heap.objs.size, data := excData t } := Heap.get?_update_self _ pa hfz
  have g2 : ∀ b u, b ≠ a → s.heap.get? b = some u → (s.heap.update a fun _ => { cls := .ref C, dict := some s.heap.objs.size, data := excData t }).get? b = some u := fun b u hb q => (Heap.get?_update_ne _ _ _ _ hb).trans q
  have I1 : Inv X pins σ (upd H a (ExcN a C s.heap.objs.size)) { s with heap := s.heap.update a fun _ => { cls := .ref C, dict := some s.heap.objs.size, data := excData t }, toks := s.toks } :=
    I.write (x := a) (e := a) (by rw [e]; exact True.intro) (.inl rfl) g2 ⟨_, g1⟩ (okN g1)
  have hfree : H s.heap.objs.size = none := I.hok.fresh (Nat.le_refl _)
  have I2 := I1.laid (a := s.heap.objs.size) (o := .xd [(f, y)]) (h' := h') (t' := tk) (fun b o q => by
    by_cases hb : b = a
    · subst hb
      have q : (s.heap.update b fun _ => ({ cls := .ref C, dict := some s.heap.objs.size, data := excData t } : Obj)).get? b = some o := q
      rw [g1] at q; cases q; exact ha
    · have q : (s.heap.update a fun _ => ({ cls := .ref C, dict := some s.heap.objs.size, data := excData t } : Obj)).get? b = some o := q
      rw [Heap.get?_update_ne _ _ _ _ hb] at q
      exact hk b o hb q) (by show (s.heap.update a _).objs.size ≤ _; rw [Heap.size_update]; exact Nat.le_refl _) ⟨_, hn, fun g => by
        by_cases q : g = f
        · subst q; simp; exact ry
        · have : (g == f) = false := by simpa using q
          simp only [List.lookup_cons, this, List.lookup_nil, if_neg q]; exact True.intro⟩
  exact h _ _ hne hfree I2
end
noncomputable def sFldX (K : PySem.W.Frag) (ta tv : TE) (f : Str) : TS := fun D σ H => tv σ H fun y H1 => ta σ H1 fun x H2 => ∃ a C fI, x = .ref a ∧ H2 a = some (ExcB a C) ∧ OwnX K C fI f ∧ ∀ dx, dx ≠ a → H2 dx = none → D.nx σ (upd (upd H2 a (ExcN a C dx)) dx (.xd [(f, y)]))
theorem ps_fldX {X : Cx} {o value : Expr} {f : Str} {pos pos' : Pos} {ta tv : TE} (ha : PE X o ta) (hv : PE X value tv) (hs : swapsWith value (some (.Attribute o f pos')) pos.line X.env = pure false) : PS X (.Assign [.Attribute o f pos'] value pos) (sFldX X.K ta tv f) := by
  intro pins s σ H D I h
  refine plainObj_wpAny_Assign_Attribute (thn (hv pins s σ H _ I h) fun u s1 ⟨y, H1, I1, ry, q⟩ => thn (ha pins s1 σ H1 _ I1 q) fun ov s2 ⟨x, H2, I2, rx, a, C, fI, ex, ea, O, q2⟩ => ?_) hs
  subst ex
  obtain rfl : ov = Value.ref a := rx
  exact setX_ok I2 ea O ry fun dx s3 n1 n2 I3 => ⟨σ, _, I3, q2 dx n1 n2⟩
noncomputable def sp_init (C : Addr) (f : Str) : Sp := fun vs H Q _ => ∃ (a : Addr) (v : V), vs = [.ref a, v] ∧ H a = some (ExcB a C) ∧ ∀ dx, dx ≠ a → H dx = none → Q .non (upd (upd H a (ExcN a C dx)) dx (.xd [(f, v)]))
section
variable {X : Cx} {k : Nat} {C fI : Addr} {fd : FuncData} {f : Str}
noncomputable def rMkX (C : Addr) (f : Str) : List V → Hp → VK → Prop := fun xs H Q => ∃ v, xs = [v] ∧ ∀ a dx, dx ≠ a → H a = none → H dx = none → Q (.ref a) (upd (upd H a (ExcN a C dx)) dx (.xd [(f, v)]))
theorem call_mkX (O : OwnX X.K C fI f) (F : FnOk X.prog X.w X.K X.mg X.base CX0 k fI fd ["self", f] (sp_init C f)) (hb : Binds X.K fd ["self", f] []) (hr : Room (k + 1) X.A) : CallR X (.ref C) (rMkX C f) := by
  intro pins s σ H xs us Q I hv h
  obtain ⟨v, rfl, q⟩ := h
  obtain ⟨tl, N, nm, qn, bs, hdct, sn, sub, ab, col, dd, k0, k1, k2, k3, k5, mN, oC, oN, oi, oT⟩ := ini_of I.kIn O.ini
  obtain ⟨u, rfl, ru⟩ : ∃ u, us = [u] ∧ RelV v u := by
    cases hv with
    | cons a b => cases b; exact ⟨_, rfl, a⟩
  have kp : ∀ b o, s.heap.get? b = some o → (excNew s.heap C [u]).get? b = some o := fun b o e => Heap.get?_push_of_some _ (Heap.get?_push_of_some _ e)
  have hget : (excNew s.heap C [u]).get? (s.heap.objs.size + 1) = some { cls := .ref C, data := excData s.heap.objs.size } := by unfold excNew; heap_get
  have hfree : H (s.heap.objs.size + 1) = none := I.hok.fresh (Nat.le_succ _)
  have I2 : Inv X pins σ (upd H (s.heap.objs.size + 1) (ExcB (s.heap.objs.size + 1) C)) { s with heap := excNew s.heap C [u], toks := s.toks } := I.laid kp (Nat.le_succ _) (okB hget)
  refine wpAny_call_exc_own (h := s.heap) (g := s.gens) (d := s.drawn) (t := s.toks) (os := s.os) PySem.F.excBase_ValueError (by decide) PySem.F.excBase_ValueError oT oC oN oi (fun h' e self => PySem.W.bind_fn (I.kIn.keeps e) self O.fn) ?_
  refine wpAny_call (codeAny_mono (F.run (X.A.under (.builtin "type.__call__" ⟨[.ref C, u], []⟩)) X.stack { s with heap := excNew s.heap C [u], toks := s.toks } _ ⟨[.ref (s.heap.objs.size + 1), u], []⟩ [.ref (s.heap.objs.size + 1), u] [.ref (s.heap.objs.size + 1), v] (fun y H' => y = .non ∧ Q (.ref (s.heap.objs.size + 1)) H') E0 (hr.make C [u] []) (I2.env0.make C [u] [])
    (by have := hb { s with heap := excNew s.heap C [u], toks := s.toks } [.ref (s.heap.objs.size + 1), u] I2.kIn rfl; rwa [List.append_nil] at this) (.cons rfl (.cons ru .nil)) ⟨_, v, rfl, upd_same, fun dx hne hdx => ⟨rfl, ?_⟩⟩) fun rr s' hq => ?_)
  · rw [show upd (upd H (s.heap.objs.size + 1) (ExcB (s.heap.objs.size + 1) C)) (s.heap.objs.size + 1) (ExcN (s.heap.objs.size + 1) C dx) = upd H (s.heap.objs.size + 1) (ExcN (s.heap.objs.size + 1) C dx) from funext fun b => by unfold upd; split <;> rfl]
    exact q _ dx hne hfree (by rw [upd_ne hne] at hdx; exact hdx)
  · cases rr with
    | error e => exact False.elim hq
    | ok fl =>
      cases fl with
      | ret u2 =>
        obtain ⟨y, H', I3, ry, rfl, q3⟩ := I2.after hq
        obtain rfl : u2 = .none := ry
        exact ⟨rfl, .ref _, H', I3, rfl, q3⟩
      | next => exact False.elim hq
      | brk => exact False.elim hq
      | cont => exact False.elim hq
noncomputable def rMkO (C : Addr) (f : Str) : List V → Hp → VK → Prop := fun xs H Q => ∃ v, xs = [v] ∧ ∀ a dx, dx ≠ a → H a = none → H dx = none → Q (.ref a) (upd (upd H dx (.xd [(f, v)])) a (ExcO a C))
theorem call_mkO (O : OwnX X.K C fI f) (F : FnOk X.prog X.w X.K X.mg X.base CX0 k fI fd ["self", f] (sp_init C f)) (hb : Binds X.K fd ["self", f] []) (hr : Room (k + 1) X.A) : CallR X (.ref C) (rMkO C f) := by
  intro pins s σ H xs us Q I hv h
  obtain ⟨v, rfl, q⟩ := h
  refine wpAny_mono (call_mkX O F hb hr pins s σ H [v] us (fun y H' => ∃ a dx, y = .ref a ∧ dx ≠ a ∧ H a = none ∧ H dx = none ∧ H' = upd (upd H a (ExcN a C dx)) dx (.xd [(f, v)])) I hv ⟨v, rfl, fun a dx n1 n2 n3 => ⟨a, dx, rfl, n1, n2, n3, rfl⟩⟩) (fun r s' z => ?_) fun _ _ z => z
  obtain ⟨y, H', I1, ry, a, dx, rfl, n1, n2, n3, rfl⟩ := z
  have ea : upd (upd H a (ExcN a C dx)) dx (.xd [(f, v)]) a = some (ExcN a C dx) := by rw [upd_ne (Ne.symm n1), upd_same]
  obtain ⟨⟨t, pa⟩, _⟩ := (show ObjOk X.prog X.w _ s'.heap a (ExcN a C dx) from I1.hok a _ ea)
  have I2 := I1.reword (o := ExcO a C) ea (okO pa rfl)
  have e2 : upd (upd (upd H a (ExcN a C dx)) dx (.xd [(f, v)])) a (ExcO a C) = upd (upd H dx (.xd [(f, v)])) a (ExcO a C) := funext fun b => by
    by_cases z : b = a
    · simp [upd, z]
    · by_cases z2 : b = dx <;> simp [upd, z, z2]
  rw [e2] at I2
  exact ⟨.ref a, _, I2, ry, q a dx n1 n2 n3⟩
noncomputable def tFldX (K : PySem.W.Frag) (ta : TE) (f : Str) : TE := fun σ H Q => ta σ H fun x H1 => ∃ a C dx fs v, x = .ref a ∧ (H1 a = some (ExcN a C dx) ∨ H1 a = some (ExcD a C dx)) ∧ H1 dx = some (.xd fs) ∧ (ExcF K C ∧ NoAttr K C f ∧ PySem.W.hasDictIn K C = true) ∧ fs.lookup f = some v ∧ Q v H1
theorem pe_fldX {e : Expr} {pos : Pos} {ta : TE} (he : PE X e ta) (hb : attributeBase e f X.env (eval e X.env) = eval e X.env) : PE X (.Attribute e f pos) (tFldX X.K ta f) := by
  intro pins s σ H Q I h
  refine attr_of hb (thn (he pins s σ H _ I h) fun u s1 ⟨x, H1, I1, rx, a, C, dx, fs, v, ex, ea, ed, ⟨Fx, na, hh⟩, l, q⟩ => ?_)
  subst ex
  obtain rfl : u = Value.ref a := rx
  obtain ⟨oe, vs, pa, hc, hd, hv⟩ : ∃ (oe : Obj) (vs : Array Value), s1.heap.get? a = some oe ∧ oe.cls = .ref C ∧ oe.dict = some dx ∧ oe.data = .fields vs := by
    rcases ea with ea | ea
    · obtain ⟨⟨t, pa⟩, _⟩ := (show ObjOk X.prog X.w H1 s1.heap a (ExcN a C dx) from I1.hok a _ ea)
      exact ⟨_, _, pa, rfl, rfl, rfl⟩
    · exact (show ObjOk X.prog X.w H1 s1.heap a (ExcD a C dx) from I1.hok a _ ea).1
  obtain ⟨mA, n1, r⟩ := (show ObjOk X.prog X.w H1 s1.heap dx (.xd fs) from I1.hok dx _ ed)
  obtain ⟨od, ho, hl⟩ := lookIn_ns n1
  obtain ⟨u', hu, ru⟩ := RelO.some_of (v := v) (o := mA f) (by rw [← l]; exact r f)
  obtain ⟨oc, odi, oda, osl⟩ := oe
  dsimp only at hc hd hv
  subst hc hd hv
  have J : PySem.W.InstAt s1.heap a ⟨.ref C, some dx, .fields vs, osl⟩ C (some od) := ⟨pa, rfl, rfl, ho⟩
  exact exc_get Fx I1.kIn J (PySem.W.findObj_own hh na rfl (by rw [hl, hu])) (handed_of ru) ⟨v, H1, I1.tok _, ru, q⟩
end
end L2

namespace L2
open PySem PySem.Spec PyProof.Rows
section
variable {X : Cx} {x : Str} {C fI : Addr} {r : List V → Hp → VK → Prop} {p pos : Pos} {e0 : Expr} {es : List Expr} {t : TA}
theorem pe_mkX (O : excInI X.K C fI = true) (hcr : CallR X (.ref C) r) (hg : Gl X x) (hm : X.mg x = some (.ref C)) (ha : PA X (e0 :: es) t) (hdb : (x == ("__debug__" : Str)) = false := by decide)
    (he : starEach (e0 :: es) X.env = (false, eval e0 X.env) :: starEach es X.env := by rfl) (hpl : (backTo pos (starEach es X.env)).any (·.1) = false := by rfl) : PE X (.Call (.Name x p) (e0 :: es) [] pos) (tCB r t) := by
  intro pins s σ H Q I h
  refine wpAny_Call_Name_kw (ld_glob I hg hm ?_ hdb)
  unfold callWith
  have hA := ha pos pins s σ H _ I h
  rw [he] at hA ⊢
  have hp2 : ((false, eval e0 X.env) :: backTo pos (starEach es X.env)).any (·.1) = false := by
    show (false || (backTo pos (starEach es X.env)).any (·.1)) = false
    rw [hpl]; rfl
  refine wpAny_bind (wpAny_holding (wpAny_mono (Calls.evalArgs_plain (Q := fun a s1 => a.kw = [] ∧ ∃ vs H1, Inv X pins σ H1 s1 ∧ Vals vs a.pos ∧ r vs H1 Q) (thn hA fun us s1 ⟨vs, H1, I1, r1, q1⟩ => ⟨rfl, vs, H1, I1, r1, q1⟩)) (fun a s1 h1 => wpAny_bind (wpAny_standAt ?_)) fun _ _ z => z))
  obtain ⟨apos, akw⟩ := a
  obtain ⟨hkw, vs, H1, I1, r1, q1⟩ := h1
  obtain rfl : akw = [] := hkw
  obtain ⟨tl, N, nm, qn, bs, hdct, sn, sub, ab, col, dd, k0, k1, k2, k3, k5, mN, oC, oN, oi, oT⟩ := ini_of I1.kIn O
  have hCE := hcr pins s1 σ H1 vs apos Q I1 r1 q1
  have hp3 : ((backTo pos ((false, eval e0 X.env) :: starEach es X.env)).any fun x => x.fst) = false := by
    show (false || (backTo pos (starEach es X.env)).any (·.1)) = false
    rw [hpl]; rfl
  have hp4 : ((backToKw pos (keywordEach [] X.env)).any fun x => x.fst.isNone) = false := rfl
  rw [hp3, hp4]
  obtain ⟨hp', g, d, tk, os⟩ := s1
  refine wpAny_bind (wpAny_keeperOf_exc oC ?_)
  exact wpAny_bind (wpAny_mono hCE (fun r s2 hr => wpAny_bind (wpAny_holding (wpAny_point (wpAny_pure hr)))) fun _ _ x => x)
noncomputable def rIsX (K : PySem.W.Frag) (c : V) (u : Value) : List V → Hp → VK → Prop := fun xs H Q => ∃ a C b, xs = [.ref a, c] ∧ H a = some (ExcO a C) ∧ ExcF K C ∧ PySem.W.kitOne K (.ref C) u = some b ∧ Q (.bl b) H
theorem isiK {c : V} {u : Value} (hr : ∀ u', RelV c u' → u' = u) : CallR X (.builtin "isinstance") (rIsX X.K c u) := by
  intro pins s σ H xs us Q I rv h
  obtain ⟨a, C, b, rfl, ha, Fx, e, q⟩ := h
  exact isiH (b := b) Fx hr e pins s σ H _ us Q I rv ⟨a, rfl, ha, q⟩
end
noncomputable def tTryX (j : Nat) (sp : Sp) (dvs : List V) (C : Addr) (t : TA) (ts : Addr → TS) : TS := fun D σ H => t σ H fun vs H1 => sp (vs ++ dvs) H1 (fun _ H2 => D.nx σ H2) fun cls _ H2 => cls = .ref C ∧ ∀ a, H2 a = none → ts a (goneD j D) (σ.set j (some (.ref a))) (upd H2 a (ExcO a C))
section
variable {X : Cx} {k : Nat} {f : Addr} {fd : FuncData} {ps : List Str} {sp : Sp} {dvs : List V} {ds : List Value} {fx cx n : Str} {p cpos epos np hpos pos : Pos} {e : Expr} {es : List Expr} {t : TA} {T C : Addr} {b0 : Stmt} {suite : List Stmt} {ts : Addr → TS} {j : Nat}
theorem ps_tryX (F : FnOk X.prog X.w X.K X.mg X.base (CXe X.prog X.w) k f fd ps sp) (hr : Room k X.A) (hg : Gl X fx) (hm : X.mg fx = some (.ref f)) (hk : PySem.W.keepIn X.K (.ref f) = true) (hb : Binds X.K fd ps ds) (hd : Vals dvs ds) (h0 : ∀ e s, X.xe e s → False)
    (hst : X.stack = X.env :: X.outer) (hf : X.env.frame = some X.env.locals) (ha : PA X (e :: es) t) (hN : X.N.Nodup)
    (hj : X.N[j]? = some n) (hln : X.env.scope.names.lookup n = some .local) (hkn : X.env.kindOf n = some .local) (M1 : Meets1 X cx T C true) (hex : X.ex = [])
    (hs : ∀ a, PSs (X.marked a) (b0 :: suite) (ts a)) (hdb : (fx == ("__debug__" : Str)) = false := by decide) (he : starEach (e :: es) X.env = (false, eval e X.env) :: starEach es X.env := by rfl) (hpl : (backTo cpos (starEach es X.env)).any (·.1) = false := by rfl)
    (hsw : swapsWith (.Call (.Name fx p) (e :: es) [] cpos) none epos.line X.env = pure false := by rfl) :
    PS X (.Try [.Expr (.Call (.Name fx p) (e :: es) [] cpos) epos] [.ExceptHandler (some (.Name cx np)) (some n) (b0 :: suite) hpos] [] [] pos) (tTryX j sp dvs C t ts) := by
  intro pins s σ H D I h
  refine wpAny_Try_except ?_
  refine wpAny_execs_cons ?_
  refine wpAny_Expr_any ?_ I.quiet hsw
  refine wpAny_Call_Name_kw (ld_glob I hg hm ?_ hdb)
  refine PySem.W.callWith_K (h₀ := X.base) I.ok.mod.kin hk (wpAny_mono (ha cpos pins s σ H _ I h) (fun us s1 z => ?_) fun e s z => (h0 e s z).elim) he hpl
  obtain ⟨vs, H1, I1, r, q⟩ := z
  refine ⟨I1.kIn, ?_⟩
  have r2 : Vals (vs ++ dvs) (us ++ ds) := r.append hd
  have hl : (us ++ ds).length = ps.length := by rw [← r2.length]; exact F.len _ _ _ _ q
  refine wpAny_call (codeAny_mono (F.run X.A X.stack s1 H1 ⟨us, []⟩ (us ++ ds) (vs ++ dvs) _ _ hr I1.env0 (hb s1 us I1.kIn hl) r2 q) fun rr s' hq => ?_)
  cases rr with
  | error ex => exact caught_at (ts := ts) I1 hst hf h0 (show CXe X.prog X.w X.stack H1 s1 (fun cls _ H2 => cls = .ref C ∧ ∀ a, H2 a = none → ts a (goneD j D) (σ.set j (some (.ref a))) (upd H2 a (ExcO a C))) ex s' from hq) hN hj hln hkn M1 hex (fun cls H' z => z) hs
  | ok fl =>
    cases fl with
    | ret u =>
      obtain ⟨v, H2, I2, rv, q2⟩ := I1.after hq
      exact wpAny_execs_nil (wpAny_execs_nil ⟨_, H2, I2, q2⟩)
    | next => exact False.elim hq
    | brk => exact False.elim hq
    | cont => exact False.elim hq
end
end L2

set_option Elab.async false
set_option linter.all false
set_option maxRecDepth 100000
set_option maxHeartbeats 4000000
namespace MyLaw
open PySem L2
noncomputable def top (i : Nat) : Stmt := PySem.Challenge.pw_markscale_k96_things_and_refusals.main.body.getD i (.Pass ⟨0, 0, 0, 0⟩)
noncomputable abbrev s_is_whole : Stmt := top 12
theorem sc_is_whole : FnScope ["thing"] ["thing"] (defScope s_is_whole) := ⟨rfl, rfl, rfl, by decide +kernel, rfl, by decide +kernel, by decide +kernel⟩
noncomputable abbrev s_divisor_of : Stmt := top 13
theorem sc_divisor_of : FnScope ["one", "other", "high", "low", "rest"] ["one", "other"] (defScope s_divisor_of) := ⟨rfl, rfl, rfl, by decide +kernel, rfl, by decide +kernel, by decide +kernel⟩
noncomputable abbrev s_is_number : Stmt := top 14
theorem sc_is_number : FnScope ["thing"] ["thing"] (defScope s_is_number) := ⟨rfl, rfl, rfl, by decide +kernel, rfl, by decide +kernel, by decide +kernel⟩
noncomputable abbrev s_number : Stmt := top 15
theorem sc_number : FnScope ["top", "bottom", "divisor"] ["top", "bottom"] (defScope s_number) := ⟨rfl, rfl, rfl, by decide +kernel, rfl, by decide +kernel, by decide +kernel⟩
noncomputable abbrev s_are_digits : Stmt := top 20
noncomputable abbrev s_show_number : Stmt := top 21
noncomputable abbrev s_read_figures : Stmt := top 22
theorem sc_read_figures : FnScope ["text", "most", "parts", "figures", "one"] ["text", "most"] (defScope s_read_figures) := ⟨rfl, rfl, rfl, by decide +kernel, rfl, by decide +kernel, by decide +kernel⟩
noncomputable abbrev s_read_number : Stmt := top 23
theorem sc_read_number : FnScope ["text"] ["text"] (defScope s_read_number) := ⟨rfl, rfl, rfl, by decide +kernel, rfl, by decide +kernel, by decide +kernel⟩
noncomputable abbrev s_is_told : Stmt := top 24
theorem sc_is_told : FnScope ["thing"] ["thing"] (defScope s_is_told) := ⟨rfl, rfl, rfl, by decide +kernel, rfl, by decide +kernel, by decide +kernel⟩
noncomputable abbrev s_l_whole : Stmt := top 26
theorem sc_l_whole : FnScope ["_law_thing_here"] ["_law_thing_here"] (defScope s_l_whole) := ⟨rfl, rfl, rfl, by decide +kernel, rfl, by decide +kernel, by decide +kernel⟩
noncomputable abbrev s_l_cell_at : Stmt := top 27
theorem sc_l_cell_at : FnScope ["_law_script", "_law_k"] ["_law_script", "_law_k"] (defScope s_l_cell_at) := ⟨rfl, rfl, rfl, by decide +kernel, rfl, by decide +kernel, by decide +kernel⟩
noncomputable abbrev s_l_divisor : Stmt := top 28
theorem sc_l_divisor : FnScope ["_law_one", "_law_other"] ["_law_one", "_law_other"] (defScope s_l_divisor) := ⟨rfl, rfl, rfl, by decide +kernel, rfl, by decide +kernel, by decide +kernel⟩
noncomputable abbrev s_l_mixed : Stmt := top 29
theorem sc_l_mixed : FnScope ["_law_cell"] ["_law_cell"] (defScope s_l_mixed) := ⟨rfl, rfl, rfl, by decide +kernel, rfl, by decide +kernel, by decide +kernel⟩
noncomputable abbrev s_l_kinds : Stmt := top 30
theorem sc_l_kinds : FnScope ["_law_e", "_law_many"] ["_law_e"] (defScope s_l_kinds) := ⟨rfl, rfl, rfl, by decide +kernel, rfl, by decide +kernel, by decide +kernel⟩
noncomputable abbrev s_l_refusals : Stmt := top 31
theorem sc_l_refusals : FnScope ["_law_at", "_law_e"] ["_law_at"] (defScope s_l_refusals) := ⟨rfl, rfl, rfl, by decide +kernel, rfl, by decide +kernel, by decide +kernel⟩
noncomputable abbrev s_l_thing : Stmt := top 32
theorem sc_l_thing : FnScope ["_law_kind", "_law_top", "_law_bottom"] ["_law_kind", "_law_top", "_law_bottom"] (defScope s_l_thing) := ⟨rfl, rfl, rfl, by decide +kernel, rfl, by decide +kernel, by decide +kernel⟩
noncomputable abbrev s_l_number : Stmt := top 33
theorem sc_l_number : FnScope ["_law_thing_here"] ["_law_thing_here"] (defScope s_l_number) := ⟨rfl, rfl, rfl, by decide +kernel, rfl, by decide +kernel, by decide +kernel⟩
noncomputable abbrev s_l_told : Stmt := top 34
theorem sc_l_told : FnScope ["_law_thing_here"] ["_law_thing_here"] (defScope s_l_told) := ⟨rfl, rfl, rfl, by decide +kernel, rfl, by decide +kernel, by decide +kernel⟩
noncomputable abbrev s_l_truth : Stmt := top 35
theorem sc_l_truth : FnScope ["_law_found", "_law_due"] ["_law_found", "_law_due"] (defScope s_l_truth) := ⟨rfl, rfl, rfl, by decide +kernel, rfl, by decide +kernel, by decide +kernel⟩
noncomputable abbrev s_l_made : Stmt := top 36
theorem sc_l_made : FnScope ["_law_top", "_law_bottom", "_law_found", "_law_refused", "_law_e"] ["_law_top", "_law_bottom"] (defScope s_l_made) := ⟨rfl, rfl, rfl, by decide +kernel, rfl, by decide +kernel, by decide +kernel⟩
noncomputable abbrev s_l_no_text : Stmt := top 37
theorem sc_l_no_text : FnScope ["_law_thing_here", "_law_refused", "_law_e"] ["_law_thing_here"] (defScope s_l_no_text) := ⟨rfl, rfl, rfl, by decide +kernel, rfl, by decide +kernel, by decide +kernel⟩
noncomputable abbrev s_law : Stmt := top 38
theorem sc_law : FnScope ["_law_script", "_law_seed", "_law_cell", "_law_top", "_law_bottom", "_law_thing_here"] ["_law_script"] (defScope s_law) := ⟨rfl, rfl, rfl, by decide +kernel, rfl, by decide +kernel, by decide +kernel⟩
noncomputable def clsBody (s : Stmt) : List Stmt := match s with
  | .ClassDef _ _ _ b _ _ _ _ _ _ _ => b
  | _ => []
noncomputable abbrev si_NoTable : Stmt := (clsBody (top 4)).getD 0 (.Pass ⟨0, 0, 0, 0⟩)
theorem sci_NoTable : FnScope ["self", "row"] ["self", "row"] (defScope si_NoTable) := ⟨rfl, rfl, rfl, by decide +kernel, rfl, by decide +kernel, by decide +kernel⟩
noncomputable abbrev si_NoPlan : Stmt := (clsBody (top 5)).getD 0 (.Pass ⟨0, 0, 0, 0⟩)
theorem sci_NoPlan : FnScope ["self", "step"] ["self", "step"] (defScope si_NoPlan) := ⟨rfl, rfl, rfl, by decide +kernel, rfl, by decide +kernel, by decide +kernel⟩
noncomputable abbrev si_NoTelling : Stmt := (clsBody (top 7)).getD 0 (.Pass ⟨0, 0, 0, 0⟩)
theorem sci_NoTelling : FnScope ["self", "part"] ["self", "part"] (defScope si_NoTelling) := ⟨rfl, rfl, rfl, by decide +kernel, rfl, by decide +kernel, by decide +kernel⟩
structure Adr where
  (f_is_whole : Addr) (d_is_whole : FuncData)
  (f_divisor_of : Addr) (d_divisor_of : FuncData)
  (f_is_number : Addr) (d_is_number : FuncData)
  (f_number : Addr) (d_number : FuncData)
  (f_are_digits : Addr) (d_are_digits : FuncData)
  (f_show_number : Addr) (d_show_number : FuncData)
  (f_read_figures : Addr) (d_read_figures : FuncData)
  (f_read_number : Addr) (d_read_number : FuncData)
  (f_is_told : Addr) (d_is_told : FuncData)
  (f_l_whole : Addr) (d_l_whole : FuncData)
  (f_l_cell_at : Addr) (d_l_cell_at : FuncData)
  (f_l_divisor : Addr) (d_l_divisor : FuncData)
  (f_l_mixed : Addr) (d_l_mixed : FuncData)
  (f_l_kinds : Addr) (d_l_kinds : FuncData)
  (f_l_refusals : Addr) (d_l_refusals : FuncData)
  (f_l_thing : Addr) (d_l_thing : FuncData)
  (f_l_number : Addr) (d_l_number : FuncData)
  (f_l_told : Addr) (d_l_told : FuncData)
  (f_l_truth : Addr) (d_l_truth : FuncData)
  (f_l_made : Addr) (d_l_made : FuncData)
  (f_l_no_text : Addr) (d_l_no_text : FuncData)
  (f_law : Addr) (d_law : FuncData)
  (c_NoNumber : Addr)
  (c_NoDay : Addr)
  (c_NoSpace : Addr)
  (c_TooMany : Addr)
  (c_NoRow : Addr)
  (c_NoName : Addr)
  (c_MarkError : Addr)
  (c_NoTable fi_NoTable : Addr) (di_NoTable : FuncData)
  (c_NoPlan fi_NoPlan : Addr) (di_NoPlan : FuncData)
  (c_NoTelling fi_NoTelling : Addr) (di_NoTelling : FuncData)
  (g_DIGITS : Tok)
  (g_MOST_FIGURES : Tok)
  (g_MOST_BOTTOM : Tok)
structure Txt (K : PySem.W.Frag) (mg : Str → Option Value) (t : Adr) : Prop where
  F_is_whole : Fun K "is_whole" "is_whole" s_is_whole t.f_is_whole t.d_is_whole
  m_is_whole : mg "is_whole" = some (.ref t.f_is_whole)
  k_is_whole : PySem.W.keepIn K (.ref t.f_is_whole) = true
  b_is_whole : Binds K t.d_is_whole ["thing"] []
  F_divisor_of : Fun K "divisor_of" "divisor_of" s_divisor_of t.f_divisor_of t.d_divisor_of
  m_divisor_of : mg "divisor_of" = some (.ref t.f_divisor_of)
  k_divisor_of : PySem.W.keepIn K (.ref t.f_divisor_of) = true
  b_divisor_of : Binds K t.d_divisor_of ["one", "other"] []
  F_is_number : Fun K "is_number" "is_number" s_is_number t.f_is_number t.d_is_number
  m_is_number : mg "is_number" = some (.ref t.f_is_number)
  k_is_number : PySem.W.keepIn K (.ref t.f_is_number) = true
  b_is_number : Binds K t.d_is_number ["thing"] []
  F_number : FunD K "number" "number" s_number t.f_number t.d_number
  m_number : mg "number" = some (.ref t.f_number)
  k_number : PySem.W.keepIn K (.ref t.f_number) = true
  b_number : Binds K t.d_number ["top", "bottom"] []
  b_number1 : ∃ ds, Vals [V.int 1] ds ∧ Binds K t.d_number ["top", "bottom"] ds
  F_are_digits : Fun K "are_digits" "are_digits" s_are_digits t.f_are_digits t.d_are_digits
  m_are_digits : mg "are_digits" = some (.ref t.f_are_digits)
  k_are_digits : PySem.W.keepIn K (.ref t.f_are_digits) = true
  b_are_digits : Binds K t.d_are_digits ["text"] []
  F_show_number : Fun K "show_number" "show_number" s_show_number t.f_show_number t.d_show_number
  m_show_number : mg "show_number" = some (.ref t.f_show_number)
  k_show_number : PySem.W.keepIn K (.ref t.f_show_number) = true
  b_show_number : Binds K t.d_show_number ["one"] []
  F_read_figures : Fun K "read_figures" "read_figures" s_read_figures t.f_read_figures t.d_read_figures
  m_read_figures : mg "read_figures" = some (.ref t.f_read_figures)
  k_read_figures : PySem.W.keepIn K (.ref t.f_read_figures) = true
  b_read_figures : Binds K t.d_read_figures ["text", "most"] []
  F_read_number : Fun K "read_number" "read_number" s_read_number t.f_read_number t.d_read_number
  m_read_number : mg "read_number" = some (.ref t.f_read_number)
  k_read_number : PySem.W.keepIn K (.ref t.f_read_number) = true
  b_read_number : Binds K t.d_read_number ["text"] []
  F_is_told : Fun K "is_told" "is_told" s_is_told t.f_is_told t.d_is_told
  m_is_told : mg "is_told" = some (.ref t.f_is_told)
  k_is_told : PySem.W.keepIn K (.ref t.f_is_told) = true
  b_is_told : Binds K t.d_is_told ["thing"] []
  F_l_whole : Fun K "_law_whole" "_law_whole" s_l_whole t.f_l_whole t.d_l_whole
  m_l_whole : mg "_law_whole" = some (.ref t.f_l_whole)
  k_l_whole : PySem.W.keepIn K (.ref t.f_l_whole) = true
  b_l_whole : Binds K t.d_l_whole ["_law_thing_here"] []
  F_l_cell_at : Fun K "_law_cell_at" "_law_cell_at" s_l_cell_at t.f_l_cell_at t.d_l_cell_at
  m_l_cell_at : mg "_law_cell_at" = some (.ref t.f_l_cell_at)
  k_l_cell_at : PySem.W.keepIn K (.ref t.f_l_cell_at) = true
  b_l_cell_at : Binds K t.d_l_cell_at ["_law_script", "_law_k"] []
  F_l_divisor : Fun K "_law_divisor" "_law_divisor" s_l_divisor t.f_l_divisor t.d_l_divisor
  m_l_divisor : mg "_law_divisor" = some (.ref t.f_l_divisor)
  k_l_divisor : PySem.W.keepIn K (.ref t.f_l_divisor) = true
  b_l_divisor : Binds K t.d_l_divisor ["_law_one", "_law_other"] []
  F_l_mixed : Fun K "_law_mixed" "_law_mixed" s_l_mixed t.f_l_mixed t.d_l_mixed
  m_l_mixed : mg "_law_mixed" = some (.ref t.f_l_mixed)
  k_l_mixed : PySem.W.keepIn K (.ref t.f_l_mixed) = true
  b_l_mixed : Binds K t.d_l_mixed ["_law_cell"] []
  F_l_kinds : Fun K "_law_kinds" "_law_kinds" s_l_kinds t.f_l_kinds t.d_l_kinds
  m_l_kinds : mg "_law_kinds" = some (.ref t.f_l_kinds)
  k_l_kinds : PySem.W.keepIn K (.ref t.f_l_kinds) = true
  b_l_kinds : Binds K t.d_l_kinds ["_law_e"] []
  F_l_refusals : Fun K "_law_refusals" "_law_refusals" s_l_refusals t.f_l_refusals t.d_l_refusals
  m_l_refusals : mg "_law_refusals" = some (.ref t.f_l_refusals)
  k_l_refusals : PySem.W.keepIn K (.ref t.f_l_refusals) = true
  b_l_refusals : Binds K t.d_l_refusals ["_law_at"] []
  F_l_thing : Fun K "_law_thing" "_law_thing" s_l_thing t.f_l_thing t.d_l_thing
  m_l_thing : mg "_law_thing" = some (.ref t.f_l_thing)
  k_l_thing : PySem.W.keepIn K (.ref t.f_l_thing) = true
  b_l_thing : Binds K t.d_l_thing ["_law_kind", "_law_top", "_law_bottom"] []
  F_l_number : Fun K "_law_number" "_law_number" s_l_number t.f_l_number t.d_l_number
  m_l_number : mg "_law_number" = some (.ref t.f_l_number)
  k_l_number : PySem.W.keepIn K (.ref t.f_l_number) = true
  b_l_number : Binds K t.d_l_number ["_law_thing_here"] []
  F_l_told : Fun K "_law_told" "_law_told" s_l_told t.f_l_told t.d_l_told
  m_l_told : mg "_law_told" = some (.ref t.f_l_told)
  k_l_told : PySem.W.keepIn K (.ref t.f_l_told) = true
  b_l_told : Binds K t.d_l_told ["_law_thing_here"] []
  F_l_truth : Fun K "_law_truth" "_law_truth" s_l_truth t.f_l_truth t.d_l_truth
  m_l_truth : mg "_law_truth" = some (.ref t.f_l_truth)
  k_l_truth : PySem.W.keepIn K (.ref t.f_l_truth) = true
  b_l_truth : Binds K t.d_l_truth ["_law_found", "_law_due"] []
  F_l_made : Fun K "_law_made" "_law_made" s_l_made t.f_l_made t.d_l_made
  m_l_made : mg "_law_made" = some (.ref t.f_l_made)
  k_l_made : PySem.W.keepIn K (.ref t.f_l_made) = true
  b_l_made : Binds K t.d_l_made ["_law_top", "_law_bottom"] []
  F_l_no_text : Fun K "_law_no_text" "_law_no_text" s_l_no_text t.f_l_no_text t.d_l_no_text
  m_l_no_text : mg "_law_no_text" = some (.ref t.f_l_no_text)
  k_l_no_text : PySem.W.keepIn K (.ref t.f_l_no_text) = true
  b_l_no_text : Binds K t.d_l_no_text ["_law_thing_here"] []
  F_law : Fun K "law" "law" s_law t.f_law t.d_law
  m_law : mg "law" = some (.ref t.f_law)
  k_law : PySem.W.keepIn K (.ref t.f_law) = true
  b_law : Binds K t.d_law ["_law_script"] []
  m_NoNumber : mg "NoNumber" = some (.ref t.c_NoNumber)
  n_NoNumber : PySem.W.nsIn K mainGlobals "NoNumber" = some (some (.ref t.c_NoNumber))
  x_NoNumber : PySem.W.excIn K t.c_NoNumber bmVE "ValueError.__new__" = true
  e_NoNumber : PySem.W.exmOne K (.ref t.c_NoNumber) (.ref t.c_NoNumber) = some true
  m_NoDay : mg "NoDay" = some (.ref t.c_NoDay)
  n_NoDay : PySem.W.nsIn K mainGlobals "NoDay" = some (some (.ref t.c_NoDay))
  x_NoDay : PySem.W.excIn K t.c_NoDay bmVE "ValueError.__new__" = true
  e_NoDay : PySem.W.exmOne K (.ref t.c_NoDay) (.ref t.c_NoDay) = some true
  m_NoSpace : mg "NoSpace" = some (.ref t.c_NoSpace)
  n_NoSpace : PySem.W.nsIn K mainGlobals "NoSpace" = some (some (.ref t.c_NoSpace))
  x_NoSpace : PySem.W.excIn K t.c_NoSpace bmVE "ValueError.__new__" = true
  e_NoSpace : PySem.W.exmOne K (.ref t.c_NoSpace) (.ref t.c_NoSpace) = some true
  m_TooMany : mg "TooMany" = some (.ref t.c_TooMany)
  n_TooMany : PySem.W.nsIn K mainGlobals "TooMany" = some (some (.ref t.c_TooMany))
  x_TooMany : PySem.W.excIn K t.c_TooMany bmVE "ValueError.__new__" = true
  e_TooMany : PySem.W.exmOne K (.ref t.c_TooMany) (.ref t.c_TooMany) = some true
  m_NoRow : mg "NoRow" = some (.ref t.c_NoRow)
  n_NoRow : PySem.W.nsIn K mainGlobals "NoRow" = some (some (.ref t.c_NoRow))
  x_NoRow : PySem.W.excIn K t.c_NoRow bmVE "ValueError.__new__" = true
  e_NoRow : PySem.W.exmOne K (.ref t.c_NoRow) (.ref t.c_NoRow) = some true
  m_NoName : mg "NoName" = some (.ref t.c_NoName)
  n_NoName : PySem.W.nsIn K mainGlobals "NoName" = some (some (.ref t.c_NoName))
  x_NoName : PySem.W.excIn K t.c_NoName bmVE "ValueError.__new__" = true
  e_NoName : PySem.W.exmOne K (.ref t.c_NoName) (.ref t.c_NoName) = some true
  m_MarkError : mg "MarkError" = some (.ref t.c_MarkError)
  m_NoTable : mg "NoTable" = some (.ref t.c_NoTable)
  o_NoTable : OwnX K t.c_NoTable t.fi_NoTable "row"
  Fi_NoTable : Fun K "__init__" "NoTable.__init__" si_NoTable t.fi_NoTable t.di_NoTable
  bi_NoTable : Binds K t.di_NoTable ["self", "row"] []
  e_NoTable : PySem.W.exmOne K (.ref t.c_NoTable) (.ref t.c_NoTable) = some true
  m_NoPlan : mg "NoPlan" = some (.ref t.c_NoPlan)
  o_NoPlan : OwnX K t.c_NoPlan t.fi_NoPlan "step"
  Fi_NoPlan : Fun K "__init__" "NoPlan.__init__" si_NoPlan t.fi_NoPlan t.di_NoPlan
  bi_NoPlan : Binds K t.di_NoPlan ["self", "step"] []
  e_NoPlan : PySem.W.exmOne K (.ref t.c_NoPlan) (.ref t.c_NoPlan) = some true
  m_NoTelling : mg "NoTelling" = some (.ref t.c_NoTelling)
  o_NoTelling : OwnX K t.c_NoTelling t.fi_NoTelling "part"
  Fi_NoTelling : Fun K "__init__" "NoTelling.__init__" si_NoTelling t.fi_NoTelling t.di_NoTelling
  bi_NoTelling : Binds K t.di_NoTelling ["self", "part"] []
  e_NoTelling : PySem.W.exmOne K (.ref t.c_NoTelling) (.ref t.c_NoTelling) = some true
  y_NoNumber : ExcF K t.c_NoNumber
  y_NoDay : ExcF K t.c_NoDay
  y_NoTable : ExcF K t.c_NoTable
  y_NoPlan : ExcF K t.c_NoPlan
  y_NoSpace : ExcF K t.c_NoSpace
  y_NoTelling : ExcF K t.c_NoTelling
  y_TooMany : ExcF K t.c_TooMany
  y_NoRow : ExcF K t.c_NoRow
  y_NoName : ExcF K t.c_NoName
  kk_NoNumber_NoNumber : PySem.W.kitOne K (.ref t.c_NoNumber) (.ref t.c_NoNumber) = some true
  kk_NoNumber_NoDay : PySem.W.kitOne K (.ref t.c_NoNumber) (.ref t.c_NoDay) = some false
  kk_NoNumber_NoTable : PySem.W.kitOne K (.ref t.c_NoNumber) (.ref t.c_NoTable) = some false
  kk_NoNumber_NoPlan : PySem.W.kitOne K (.ref t.c_NoNumber) (.ref t.c_NoPlan) = some false
  kk_NoNumber_NoSpace : PySem.W.kitOne K (.ref t.c_NoNumber) (.ref t.c_NoSpace) = some false
  kk_NoNumber_NoTelling : PySem.W.kitOne K (.ref t.c_NoNumber) (.ref t.c_NoTelling) = some false
  kk_NoNumber_TooMany : PySem.W.kitOne K (.ref t.c_NoNumber) (.ref t.c_TooMany) = some false
  kk_NoNumber_NoRow : PySem.W.kitOne K (.ref t.c_NoNumber) (.ref t.c_NoRow) = some false
  kk_NoNumber_NoName : PySem.W.kitOne K (.ref t.c_NoNumber) (.ref t.c_NoName) = some false
  kk_NoDay_NoNumber : PySem.W.kitOne K (.ref t.c_NoDay) (.ref t.c_NoNumber) = some false
  kk_NoDay_NoDay : PySem.W.kitOne K (.ref t.c_NoDay) (.ref t.c_NoDay) = some true
  kk_NoDay_NoTable : PySem.W.kitOne K (.ref t.c_NoDay) (.ref t.c_NoTable) = some false
  kk_NoDay_NoPlan : PySem.W.kitOne K (.ref t.c_NoDay) (.ref t.c_NoPlan) = some false
  kk_NoDay_NoSpace : PySem.W.kitOne K (.ref t.c_NoDay) (.ref t.c_NoSpace) = some false
  kk_NoDay_NoTelling : PySem.W.kitOne K (.ref t.c_NoDay) (.ref t.c_NoTelling) = some false
  kk_NoDay_TooMany : PySem.W.kitOne K (.ref t.c_NoDay) (.ref t.c_TooMany) = some false
  kk_NoDay_NoRow : PySem.W.kitOne K (.ref t.c_NoDay) (.ref t.c_NoRow) = some false
  kk_NoDay_NoName : PySem.W.kitOne K (.ref t.c_NoDay) (.ref t.c_NoName) = some false
  kk_NoTable_NoNumber : PySem.W.kitOne K (.ref t.c_NoTable) (.ref t.c_NoNumber) = some false
  kk_NoTable_NoDay : PySem.W.kitOne K (.ref t.c_NoTable) (.ref t.c_NoDay) = some false
  kk_NoTable_NoTable : PySem.W.kitOne K (.ref t.c_NoTable) (.ref t.c_NoTable) = some true
  kk_NoTable_NoPlan : PySem.W.kitOne K (.ref t.c_NoTable) (.ref t.c_NoPlan) = some false
  kk_NoTable_NoSpace : PySem.W.kitOne K (.ref t.c_NoTable) (.ref t.c_NoSpace) = some false
  kk_NoTable_NoTelling : PySem.W.kitOne K (.ref t.c_NoTable) (.ref t.c_NoTelling) = some false
  kk_NoTable_TooMany : PySem.W.kitOne K (.ref t.c_NoTable) (.ref t.c_TooMany) = some false
  kk_NoTable_NoRow : PySem.W.kitOne K (.ref t.c_NoTable) (.ref t.c_NoRow) = some false
  kk_NoTable_NoName : PySem.W.kitOne K (.ref t.c_NoTable) (.ref t.c_NoName) = some false
  kk_NoPlan_NoNumber : PySem.W.kitOne K (.ref t.c_NoPlan) (.ref t.c_NoNumber) = some false
  kk_NoPlan_NoDay : PySem.W.kitOne K (.ref t.c_NoPlan) (.ref t.c_NoDay) = some false
  kk_NoPlan_NoTable : PySem.W.kitOne K (.ref t.c_NoPlan) (.ref t.c_NoTable) = some false
  kk_NoPlan_NoPlan : PySem.W.kitOne K (.ref t.c_NoPlan) (.ref t.c_NoPlan) = some true
  kk_NoPlan_NoSpace : PySem.W.kitOne K (.ref t.c_NoPlan) (.ref t.c_NoSpace) = some false
  kk_NoPlan_NoTelling : PySem.W.kitOne K (.ref t.c_NoPlan) (.ref t.c_NoTelling) = some false
  kk_NoPlan_TooMany : PySem.W.kitOne K (.ref t.c_NoPlan) (.ref t.c_TooMany) = some false
  kk_NoPlan_NoRow : PySem.W.kitOne K (.ref t.c_NoPlan) (.ref t.c_NoRow) = some false
  kk_NoPlan_NoName : PySem.W.kitOne K (.ref t.c_NoPlan) (.ref t.c_NoName) = some false
  kk_NoSpace_NoNumber : PySem.W.kitOne K (.ref t.c_NoSpace) (.ref t.c_NoNumber) = some false
  kk_NoSpace_NoDay : PySem.W.kitOne K (.ref t.c_NoSpace) (.ref t.c_NoDay) = some false
  kk_NoSpace_NoTable : PySem.W.kitOne K (.ref t.c_NoSpace) (.ref t.c_NoTable) = some false
  kk_NoSpace_NoPlan : PySem.W.kitOne K (.ref t.c_NoSpace) (.ref t.c_NoPlan) = some false
  kk_NoSpace_NoSpace : PySem.W.kitOne K (.ref t.c_NoSpace) (.ref t.c_NoSpace) = some true
  kk_NoSpace_NoTelling : PySem.W.kitOne K (.ref t.c_NoSpace) (.ref t.c_NoTelling) = some false
  kk_NoSpace_TooMany : PySem.W.kitOne K (.ref t.c_NoSpace) (.ref t.c_TooMany) = some false
  kk_NoSpace_NoRow : PySem.W.kitOne K (.ref t.c_NoSpace) (.ref t.c_NoRow) = some false
  kk_NoSpace_NoName : PySem.W.kitOne K (.ref t.c_NoSpace) (.ref t.c_NoName) = some false
  kk_NoTelling_NoNumber : PySem.W.kitOne K (.ref t.c_NoTelling) (.ref t.c_NoNumber) = some false
  kk_NoTelling_NoDay : PySem.W.kitOne K (.ref t.c_NoTelling) (.ref t.c_NoDay) = some false
  kk_NoTelling_NoTable : PySem.W.kitOne K (.ref t.c_NoTelling) (.ref t.c_NoTable) = some false
  kk_NoTelling_NoPlan : PySem.W.kitOne K (.ref t.c_NoTelling) (.ref t.c_NoPlan) = some false
  kk_NoTelling_NoSpace : PySem.W.kitOne K (.ref t.c_NoTelling) (.ref t.c_NoSpace) = some false
  kk_NoTelling_NoTelling : PySem.W.kitOne K (.ref t.c_NoTelling) (.ref t.c_NoTelling) = some true
  kk_NoTelling_TooMany : PySem.W.kitOne K (.ref t.c_NoTelling) (.ref t.c_TooMany) = some false
  kk_NoTelling_NoRow : PySem.W.kitOne K (.ref t.c_NoTelling) (.ref t.c_NoRow) = some false
  kk_NoTelling_NoName : PySem.W.kitOne K (.ref t.c_NoTelling) (.ref t.c_NoName) = some false
  kk_TooMany_NoNumber : PySem.W.kitOne K (.ref t.c_TooMany) (.ref t.c_NoNumber) = some false
  kk_TooMany_NoDay : PySem.W.kitOne K (.ref t.c_TooMany) (.ref t.c_NoDay) = some false
  kk_TooMany_NoTable : PySem.W.kitOne K (.ref t.c_TooMany) (.ref t.c_NoTable) = some false
  kk_TooMany_NoPlan : PySem.W.kitOne K (.ref t.c_TooMany) (.ref t.c_NoPlan) = some false
  kk_TooMany_NoSpace : PySem.W.kitOne K (.ref t.c_TooMany) (.ref t.c_NoSpace) = some false
  kk_TooMany_NoTelling : PySem.W.kitOne K (.ref t.c_TooMany) (.ref t.c_NoTelling) = some false
  kk_TooMany_TooMany : PySem.W.kitOne K (.ref t.c_TooMany) (.ref t.c_TooMany) = some true
  kk_TooMany_NoRow : PySem.W.kitOne K (.ref t.c_TooMany) (.ref t.c_NoRow) = some false
  kk_TooMany_NoName : PySem.W.kitOne K (.ref t.c_TooMany) (.ref t.c_NoName) = some false
  kk_NoRow_NoNumber : PySem.W.kitOne K (.ref t.c_NoRow) (.ref t.c_NoNumber) = some false
  kk_NoRow_NoDay : PySem.W.kitOne K (.ref t.c_NoRow) (.ref t.c_NoDay) = some false
  kk_NoRow_NoTable : PySem.W.kitOne K (.ref t.c_NoRow) (.ref t.c_NoTable) = some false
  kk_NoRow_NoPlan : PySem.W.kitOne K (.ref t.c_NoRow) (.ref t.c_NoPlan) = some false
  kk_NoRow_NoSpace : PySem.W.kitOne K (.ref t.c_NoRow) (.ref t.c_NoSpace) = some false
  kk_NoRow_NoTelling : PySem.W.kitOne K (.ref t.c_NoRow) (.ref t.c_NoTelling) = some false
  kk_NoRow_TooMany : PySem.W.kitOne K (.ref t.c_NoRow) (.ref t.c_TooMany) = some false
  kk_NoRow_NoRow : PySem.W.kitOne K (.ref t.c_NoRow) (.ref t.c_NoRow) = some true
  kk_NoRow_NoName : PySem.W.kitOne K (.ref t.c_NoRow) (.ref t.c_NoName) = some false
  kk_NoName_NoNumber : PySem.W.kitOne K (.ref t.c_NoName) (.ref t.c_NoNumber) = some false
  kk_NoName_NoDay : PySem.W.kitOne K (.ref t.c_NoName) (.ref t.c_NoDay) = some false
  kk_NoName_NoTable : PySem.W.kitOne K (.ref t.c_NoName) (.ref t.c_NoTable) = some false
  kk_NoName_NoPlan : PySem.W.kitOne K (.ref t.c_NoName) (.ref t.c_NoPlan) = some false
  kk_NoName_NoSpace : PySem.W.kitOne K (.ref t.c_NoName) (.ref t.c_NoSpace) = some false
  kk_NoName_NoTelling : PySem.W.kitOne K (.ref t.c_NoName) (.ref t.c_NoTelling) = some false
  kk_NoName_TooMany : PySem.W.kitOne K (.ref t.c_NoName) (.ref t.c_TooMany) = some false
  kk_NoName_NoRow : PySem.W.kitOne K (.ref t.c_NoName) (.ref t.c_NoRow) = some false
  kk_NoName_NoName : PySem.W.kitOne K (.ref t.c_NoName) (.ref t.c_NoName) = some true
  kk_NoNumber_MarkError : PySem.W.kitOne K (.ref t.c_NoNumber) (.ref t.c_MarkError) = some true
  kk_NoNumber_ValueError : PySem.W.kitOne K (.ref t.c_NoNumber) (.type "ValueError") = some true
  kk_NoDay_MarkError : PySem.W.kitOne K (.ref t.c_NoDay) (.ref t.c_MarkError) = some true
  kk_NoDay_ValueError : PySem.W.kitOne K (.ref t.c_NoDay) (.type "ValueError") = some true
  kk_NoTable_MarkError : PySem.W.kitOne K (.ref t.c_NoTable) (.ref t.c_MarkError) = some true
  kk_NoTable_ValueError : PySem.W.kitOne K (.ref t.c_NoTable) (.type "ValueError") = some true
  kk_NoPlan_MarkError : PySem.W.kitOne K (.ref t.c_NoPlan) (.ref t.c_MarkError) = some true
  kk_NoPlan_ValueError : PySem.W.kitOne K (.ref t.c_NoPlan) (.type "ValueError") = some true
  kk_NoSpace_MarkError : PySem.W.kitOne K (.ref t.c_NoSpace) (.ref t.c_MarkError) = some true
  kk_NoSpace_ValueError : PySem.W.kitOne K (.ref t.c_NoSpace) (.type "ValueError") = some true
  kk_NoTelling_MarkError : PySem.W.kitOne K (.ref t.c_NoTelling) (.ref t.c_MarkError) = some true
  kk_NoTelling_ValueError : PySem.W.kitOne K (.ref t.c_NoTelling) (.type "ValueError") = some true
  kk_TooMany_MarkError : PySem.W.kitOne K (.ref t.c_TooMany) (.ref t.c_MarkError) = some true
  kk_TooMany_ValueError : PySem.W.kitOne K (.ref t.c_TooMany) (.type "ValueError") = some true
  kk_NoRow_MarkError : PySem.W.kitOne K (.ref t.c_NoRow) (.ref t.c_MarkError) = some true
  kk_NoRow_ValueError : PySem.W.kitOne K (.ref t.c_NoRow) (.type "ValueError") = some true
  kk_NoName_MarkError : PySem.W.kitOne K (.ref t.c_NoName) (.ref t.c_MarkError) = some true
  kk_NoName_ValueError : PySem.W.kitOne K (.ref t.c_NoName) (.type "ValueError") = some true
  g_DIGITS : mg "DIGITS" = some (.str "0123456789" t.g_DIGITS)
  g_MOST_FIGURES : mg "MOST_FIGURES" = some (.int 60 t.g_MOST_FIGURES)
  g_MOST_BOTTOM : mg "MOST_BOTTOM" = some (.int 60 t.g_MOST_BOTTOM)
  z_isinstance : mg "isinstance" = none
  z_int : mg "int" = none
  z_bool : mg "bool" = none
  z_tuple : mg "tuple" = none
  z_str : mg "str" = none
  z_abs : mg "abs" = none
  z_len : mg "len" = none
  z_all : mg "all" = none
  z_ValueError : mg "ValueError" = none
theorem iteBT {b : Bool} {A B : Prop} (hb : b = true) (h : A) : if b = true then A else B := by
  rw [if_pos hb]; exact h
theorem iteDF {c A B : Prop} [Decidable c] (hc : ¬ c) (h : B) : if decide c = true then A else B := by
  rw [decide_eq_false hc]; exact iteF h
theorem iteDT {c A B : Prop} [Decidable c] (hc : c) (h : A) : if decide c = true then A else B := by
  rw [decide_eq_true hc]; exact iteT h
noncomputable def cellAt (ns : List Int) (k : Int) : Int := ns.getD k.toNat 0

noncomputable def sp_whole (K : PySem.W.Frag) : Sp := fun vs H Q _ => ∃ x g, vs = [x] ∧ tgIs K H x g ∧ Q (.bl (match g with | .int => true | _ => false)) H
noncomputable def sp_cell (K : PySem.W.Frag) : Sp := fun vs H Q _ => ∃ (a : Addr) (ns : List Int) (k : Int), vs = [.ref a, .int k] ∧ SqL K H a (ns.map V.int) ∧ 0 ≤ k ∧ Q (.int (cellAt ns k)) H
noncomputable def sp_div : Sp := fun vs H Q _ => ∃ a b : Int, vs = [.int a, .int b] ∧ 0 ≤ b ∧ Q (.int ((Int.gcd a b : Nat) : Int)) H
noncomputable def sp_law (K : PySem.W.Frag) : Sp := fun vs H Q _ => ∃ (a : Addr) (ns : List Int), vs = [.ref a] ∧ SqL K H a (ns.map V.int) ∧ ns.length ≤ 63 ∧ ∀ H', Q (.bl true) H'

noncomputable def sp_gcd : Sp := fun vs H Q _ => ∃ a b : Int, vs = [.int a, .int b] ∧ Q (.int ((Int.gcd a b : Nat) : Int)) H
structure Pr (K : PySem.W.Frag) (H : Hp) (p : Addr) (a b : Int) (n : Nat) : Prop where
  s : SqT K H p [.int a, .int b]
  pos : 0 < b
  ba : My.Bd n a
  bb : My.Bd n b
theorem Pr.ne {K : PySem.W.Frag} {H : Hp} {p : Addr} {a b : Int} {n : Nat} (h : Pr K H p a b n) : b ≠ 0 := Int.ne_of_gt h.pos
theorem Pr.keep {K : PySem.W.Frag} {H H' : Hp} {p : Addr} {a b : Int} {n : Nat} (h : Pr K H p a b n) (e : Same H H') : Pr K H' p a b n := ⟨e.tup h.s, h.pos, h.ba, h.bb⟩
noncomputable def NewQ (K : PySem.W.Frag) (H : Hp) (Q : VK) (n : Nat) (v : Rat) : Prop := ∀ (p : Addr) (H' : Hp) (x y : Int), Same H H' → Pr K H' p x y n → Int.gcd x y = 1 → My.qv x y = v → Q (.ref p) H'
noncomputable def sp_number (K : PySem.W.Frag) : Sp := fun vs H Q _ => ∃ (t m : Int) (n : Nat), vs = [.int t, .int m] ∧ My.Bd n t ∧ My.Bd n m ∧ n ≤ 3900 ∧ m ≠ 0 ∧ NewQ K H Q n (My.qv t m)
noncomputable def sp_two (K : PySem.W.Frag) (f : Rat → Rat → Rat) (ok : Int → Prop) : Sp := fun vs H Q _ => ∃ (p r : Addr) (a b c d : Int) (n1 n2 : Nat), vs = [.ref p, .ref r] ∧ Pr K H p a b n1 ∧ Pr K H r c d n2 ∧ n1 + n2 + 1 ≤ 3900 ∧ ok c ∧ NewQ K H Q (n1 + n2 + 1) (f (My.qv a b) (My.qv c d))
noncomputable def sp_cmp (K : PySem.W.Frag) (f : Int → Int → Int → Int → V) : Sp := fun vs H Q _ => ∃ (p r : Addr) (a b c d : Int) (n1 n2 : Nat), vs = [.ref p, .ref r] ∧ Pr K H p a b n1 ∧ Pr K H r c d n2 ∧ n1 + n2 ≤ 3900 ∧ Q (f a b c d) H
section
variable {P : Program} {w : World} {K : PySem.W.Frag} {mg : Str → Option Value} {base : Heap} {t : Adr}
theorem ok_is_whole (T : Txt K mg t) : FnOk P w K mg base CX0 1 t.f_is_whole t.d_is_whole ["thing"] (sp_whole K) := by
  refine T.F_is_whole.ok sc_is_whole (fun vs H Q E h => ?_) (fun cdv A outer s H vs Q E hr h => ?_)
  · obtain ⟨x, g, rfl, _⟩ := h
    rfl
  obtain ⟨x, g, rfl, hg, q⟩ := h
  refine ⟨_, (pss_one (ps_ret (pe_and (pe_isi isi_int rfl rfl T.z_isinstance T.z_int bt_int (pv 0)) (pe_one (pe_not (pe_isi isi_bool rfl rfl T.z_isinstance T.z_bool bt_bool (pv 0))))))), ?_⟩
  refine ⟨_, rfl, _, g, rfl, hg, _, rfl, ?_⟩
  cases g with
  | int => exact iteT ⟨_, rfl, _, .int, rfl, hg, _, rfl, q⟩
  | bl => exact iteT ⟨_, rfl, _, .bl, rfl, hg, _, rfl, q⟩
  | non => exact iteF q
  | str => exact iteF q
  | tup => exact iteF q
  | lst => exact iteF q
  | dic => exact iteF q
theorem ok_l_cell_at (T : Txt K mg t) : FnOk P w K mg base CX0 1 t.f_l_cell_at t.d_l_cell_at ["_law_script", "_law_k"] (sp_cell K) := by
  refine T.F_l_cell_at.ok sc_l_cell_at (fun vs H Q E h => ?_) (fun cdv A outer s H vs Q E hr h => ?_)
  · obtain ⟨a, ns, k, rfl, _⟩ := h
    rfl
  obtain ⟨a, ns, k, rfl, hS, h0, q⟩ := h
  refine ⟨_, (pss_cons (ps_if (pt_cmpR op_lt (pv 1) (pe_callB call_len_seq rfl T.z_len PySem.boot_len (pa_cons (pv 0) pa_nil)) (nomark _)) (pss_one (ps_ret (pe_ix ix_list (pv 0) (pv 1) (fun _ _ => rfl)))) pss_nil)
  (pss_one (ps_ret pe_int))), ?_⟩
  have hl : (ns.map V.int).length = ns.length := List.length_map _
  refine ⟨_, rfl, _, rfl, a, _, rfl, .inl hS, _, _, rfl, rfl, _, rfl, ?_⟩
  refine ite2 (fun c => ?_) (fun c => ?_)
  · have c' : k < (((ns.map V.int).length : Nat) : Int) := of_decide_eq_true c
    rw [hl] at c'
    have hk : k.toNat < ns.length := by omega
    have hv : atI (ns.map V.int) k = some (.int (cellAt ns k)) := by
      have ek : k = ((k.toNat : Nat) : Int) := by omega
      have q : atI (ns.map V.int) ((k.toNat : Nat) : Int) = some (.int (cellAt ns k)) := atI_nat (by
        rw [List.getElem?_map, List.getElem?_eq_getElem hk]
        unfold cellAt
        rw [List.getD_eq_getElem?_getD, List.getElem?_eq_getElem hk] <;> rfl)
      rw [← ek] at q
      exact q
    exact ⟨_, rfl, _, rfl, _, _, _, _, rfl, rfl, hS, hv, q⟩
  · have c' : ¬ k < (((ns.map V.int).length : Nat) : Int) := of_decide_eq_false (Bool.eq_false_iff.mpr c)
    rw [hl] at c'
    have e : cellAt ns k = 0 := by
      unfold cellAt
      rw [List.getD_eq_getElem?_getD, List.getElem?_eq_none (by omega)] <;> rfl
    rw [e] at q
    exact q
theorem ok_l_divisor (T : Txt K mg t) : FnOk P w K mg base CX0 1 t.f_l_divisor t.d_l_divisor ["_law_one", "_law_other"] sp_div := by
  refine T.F_l_divisor.ok sc_l_divisor (fun vs H Q E h => ?_) (fun cdv A outer s H vs Q E hr h => ?_)
  · obtain ⟨a, b, rfl, _⟩ := h
    rfl
  obtain ⟨a, b, rfl, hb, q⟩ := h
  refine ⟨_, (pss_cons (ps_while PassesOwn.never (pt_cmpR op_ne (pv 1) pe_int (nomark _)) (pss_one (ps_par (i := 0) (j := 1) rfl sc_l_divisor.nd rfl rfl (by decide) rfl rfl (pa_cons (pv 1) (pa_cons (pe_op op_mod (pv 0) (pv 1)) pa_nil)) rfl)))
  (pss_one (ps_ret (pe_callB call_abs rfl T.z_abs bt_abs (pa_cons (pv 0) pa_nil))))), ?_⟩
  refine while_by (fun σ H' => ∃ x y : Int, σ = [some (.int x), some (.int y)] ∧ H' = H ∧ 0 ≤ y ∧ Int.gcd x y = Int.gcd a b)
    (fun σ _ => match σ with | [_, some (.int y)] => y.toNat | _ => 0) ⟨a, b, rfl, rfl, hb, rfl⟩ ?_ ?_
  · rintro σ H' ⟨x, y, rfl, rfl, hy, hg⟩
    refine ⟨_, rfl, rfl, _, rfl, ?_⟩
    by_cases h0 : y = 0
    · subst h0
      refine iteNS rfl ?_
      have e : (if x < 0 then -x else x) = ((Int.gcd a b : Nat) : Int) := by
        rw [← hg, Int.gcd_zero_right]
        split <;> omega
      refine ⟨_, rfl, _, rfl, ?_⟩
      rw [e]
      exact q
    · rw [decide_eq_false (fun z => h0 (V.int.inj z))]
      refine iteT ?_
      have hp : 0 < y := by omega
      have h1 := Int.emod_nonneg x h0
      have h2 := Int.emod_lt_of_pos x hp
      refine ⟨_, rfl, _, rfl, _, rfl, _, _, rfl, rfl, hp, _, _, rfl, ⟨y, x % y, rfl, rfl, h1, ?_⟩, ?_⟩
      · rw [My.gcd_step, hg]
      · show (x % y).toNat < y.toNat
        omega
  · rintro σ H' Q1 Q2 hi ⟨v, e, hs, k, ek, q'⟩
    exact ⟨v, e, hs, k, ek, hi _ _ q'⟩

theorem gcd_abs (a b : Int) : Int.gcd (if a < 0 then -a else a) (if b < 0 then -b else b) = Int.gcd a b := by
  rw [My.natAbs_abs, My.natAbs_abs]
  rfl
theorem ok_divisor_of (T : Txt K mg t) : FnOk P w K mg base CX0 1 t.f_divisor_of t.d_divisor_of ["one", "other"] sp_gcd := by
  refine T.F_divisor_of.ok sc_divisor_of (fun vs H Q E h => ?_) (fun cdv A outer s H vs Q E hr h => ?_)
  · obtain ⟨a, b, rfl, _⟩ := h
    rfl
  obtain ⟨a, b, rfl, q⟩ := h
  refine ⟨_, (pss_cons (ps_set (i := 2) sc_divisor_of.nd rfl (Or.inl rfl) (pe_callB call_abs rfl T.z_abs bt_abs (pa_cons (pv 0) pa_nil)))
  (pss_cons (ps_set (i := 3) sc_divisor_of.nd rfl (Or.inl rfl) (pe_callB call_abs rfl T.z_abs bt_abs (pa_cons (pv 1) pa_nil)))
  (pss_cons (ps_while PassesOwn.never (pt_truth (pv 3) (fun _ => rfl)) (pss_cons (ps_set (i := 4) sc_divisor_of.nd rfl (Or.inl rfl) (pe_op op_mod (pv 2) (pv 3)))
  (pss_cons (ps_set (i := 2) sc_divisor_of.nd rfl (Or.inl rfl) (pv 3))
  (pss_one (ps_set (i := 3) sc_divisor_of.nd rfl (Or.inl rfl) (pv 4))))))
  (pss_one (ps_ret (pv 2)))))), ?_⟩
  refine ⟨_, rfl, _, rfl, ?_⟩
  refine ⟨_, rfl, _, rfl, ?_⟩
  dsimp only [gName, tSeq]
  refine while_by (fun σ H' => ∃ (x y : Int) (r : Option V), σ = [some (.int a), some (.int b), some (.int x), some (.int y), r] ∧ H' = H ∧ 0 ≤ x ∧ 0 ≤ y ∧ Int.gcd x y = Int.gcd a b)
    (fun σ _ => match σ with | [_, _, _, some (.int y), _] => y.toNat | _ => 0) ⟨_, _, none, rfl, rfl, by split <;> omega, by split <;> omega, gcd_abs a b⟩ ?_ ?_
  · rintro σ H' ⟨x, y, r, rfl, rfl, hx, hy, hg⟩
    refine ⟨_, rfl, _, rfl, ?_⟩
    by_cases h0 : y = 0
    · subst h0
      refine iteF ?_
      have e : x = ((Int.gcd a b : Nat) : Int) := by
        rw [← hg, Int.gcd_zero_right]
        omega
      refine ⟨_, rfl, ?_⟩
      rw [e]
      exact q
    · have hb : (y != 0) = true := by simpa using h0
      refine iteBT hb ?_
      have hp : 0 < y := by omega
      have h1 := Int.emod_nonneg x h0
      have h2 := Int.emod_lt_of_pos x hp
      refine ⟨_, rfl, _, rfl, _, _, rfl, rfl, hp, _, rfl, _, rfl, ⟨y, x % y, _, rfl, rfl, hy, h1, ?_⟩, ?_⟩
      · rw [My.gcd_step, hg]
      · show (x % y).toNat < y.toNat
        omega
  · rintro σ H' Q1 Q2 hi ⟨v, e, k, tr, q'⟩
    exact ⟨v, e, k, tr, hi _ _ q'⟩
end
theorem Pr.kp {K : PySem.W.Frag} {H H' : Hp} {p : Addr} {a b : Int} {n : Nat} (e : Same H H') (h : Pr K H p a b n) : Pr K H' p a b n := h.keep e
section
variable {K : PySem.W.Frag} {H : Hp} {Q : VK} {E : XK} {p r : Addr} {a b c d t m : Int} {n1 n2 : Nat} {f : Rat → Rat → Rat} {ok : Int → Prop} {F : Int → Int → Int → Int → V}
theorem a_number (h1 : My.Bd n1 t) (h2 : My.Bd n2 m) (h3 : max n1 n2 ≤ 3900) (h4 : m ≠ 0) (q : ∀ p H' x y, Same H H' → Pr K H' p x y (max n1 n2) → Int.gcd x y = 1 → My.qv x y = My.qv t m → Q (.ref p) H') : sp_number K [.int t, .int m] H Q E :=
  ⟨t, m, max n1 n2, rfl, h1.mono (by omega), h2.mono (by omega), h3, h4, q⟩
theorem a_numberD (h1 : My.Bd n1 t) (h2 : My.Bd n2 m) (h3 : max n1 n2 ≤ 3900) (h4 : m ≠ 0) (q : ∀ p H' x y, Same H H' → Pr K H' p x y (max n1 n2) → Int.gcd x y = 1 → My.qv x y = My.qv t m → Q (.ref p) H') : sp_number K ([.int t] ++ [.int m]) H Q E := a_number h1 h2 h3 h4 q
theorem a_two (h1 : Pr K H p a b n1) (h2 : Pr K H r c d n2) (h3 : n1 + n2 + 1 ≤ 3900) (h4 : ok c) (q : ∀ p' H' x y, Same H H' → Pr K H' p' x y (n1 + n2 + 1) → Int.gcd x y = 1 → My.qv x y = f (My.qv a b) (My.qv c d) → Q (.ref p') H') : sp_two K f ok [.ref p, .ref r] H Q E :=
  ⟨p, r, a, b, c, d, n1, n2, rfl, h1, h2, h3, h4, q⟩
theorem a_cmp (h1 : Pr K H p a b n1) (h2 : Pr K H r c d n2) (h3 : n1 + n2 ≤ 3900) (q : Q (F a b c d) H) : sp_cmp K F [.ref p, .ref r] H Q E := ⟨p, r, a, b, c, d, n1, n2, rfl, h1, h2, h3, q⟩
end
theorem a_cell {K : PySem.W.Frag} {H : Hp} {Q : VK} {E : XK} {a : Addr} {ns : List Int} {k : Int} (hs : SqL K H a (ns.map V.int)) (h0 : 0 ≤ k) (q : Q (.int (cellAt ns k)) H) : sp_cell K [.ref a, .int k] H Q E := ⟨a, ns, k, rfl, hs, h0, q⟩
local macro_rules | `(tactic| walk_at "get") => `(tactic| repeat (first | exact GetTo.here | apply GetTo.next))
local macro_rules | `(tactic| walk_at "set") => `(tactic| repeat (first | exact SetTo.here | apply SetTo.next))
local macro_rules | `(tactic| walk_at "tp") => `(tactic| first | assumption | exact SqT.of (by assumption) | ((apply Same.tup); (focus assumption); (walk_at "tp")) | ((apply But.tup); (focus assumption); (focus assumption); (walk_at "tp")))
local macro_rules | `(tactic| walk_at "lq") => `(tactic| first | assumption | exact SqL.of (by assumption) | ((apply Same.seq); (focus assumption); (walk_at "lq")) | ((apply But.seq); (focus assumption); (focus assumption); (walk_at "lq")))
local macro_rules | `(tactic| walk_at "hl") => `(tactic| first | assumption | exact (show Same _ _ by assumption) _ _ (by walk_at "hl") | exact (show But _ _ _ by assumption) _ _ (by assumption) (by walk_at "hl"))
local macro_rules | `(tactic| walk_at "sm") => `(tactic| first | assumption | exact Same.refl _ | ((apply sm2); (focus assumption); (walk_at "sm")))
local macro_rules | `(tactic| walk_at "isi") => `(tactic| ((with_reducible refine z_isi0 ?_); first | (with_reducible refine z_isI_int ?_) | (with_reducible refine z_isB_int ?_) | (with_reducible refine z_isS_int ?_) | (with_reducible refine z_isN_int ?_) | (with_reducible refine z_isI_bool ?_) | (with_reducible refine z_isB_bool ?_) | (with_reducible refine z_isS_bool ?_) | (with_reducible refine z_isN_bool ?_) | (with_reducible refine z_isI_str ?_) | (with_reducible refine z_isB_str ?_) | (with_reducible refine z_isS_str ?_) | (with_reducible refine z_isN_str ?_) | (with_reducible refine z_isI_tuple ?_) | (with_reducible refine z_isB_tuple ?_) | (with_reducible refine z_isS_tuple ?_) | (with_reducible refine z_isN_tuple ?_) | (with_reducible refine z_isI_list ?_) | (with_reducible refine z_isB_list ?_) | (with_reducible refine z_isS_list ?_) | (with_reducible refine z_isN_list ?_) | ((with_reducible apply z_isT_int); (focus (walk_at "tp"))) | ((with_reducible apply z_isL_int); (focus (walk_at "lq"))) | ((with_reducible apply z_isT_bool); (focus (walk_at "tp"))) | ((with_reducible apply z_isL_bool); (focus (walk_at "lq"))) | ((with_reducible apply z_isT_str); (focus (walk_at "tp"))) | ((with_reducible apply z_isL_str); (focus (walk_at "lq"))) | ((with_reducible apply z_isT_tuple); (focus (walk_at "tp"))) | ((with_reducible apply z_isL_tuple); (focus (walk_at "lq"))) | ((with_reducible apply z_isT_list); (focus (walk_at "tp"))) | ((with_reducible apply z_isL_list); (focus (walk_at "lq")))))
local macro_rules | `(tactic| walk_at "non") => `(tactic| with_reducible (first | refine z_nonR ?_ | refine z_notR ?_ | refine z_nonN ?_ | refine z_notN ?_ | refine z_nonI ?_ | refine z_notI ?_ | refine z_nonS ?_ | refine z_notS ?_))
local macro_rules | `(tactic| walk_at "z1") => `(tactic| (first | ((with_reducible apply z_var); (focus (walk_at "get"))) | with_reducible (first | refine z_c ?_ | refine z_op ?_ | refine z_I0 ?_ | refine z_asg ?_ | refine z_seq ?_ | refine z_EqI ?_ | refine z_NeI ?_ | refine z_EqS ?_ | refine z_NeS ?_ | refine z_test ?_ | refine z_tB ?_ | refine z_ebl ?_ | refine z_ifs ?_ | refine z_ret ?_ | refine z_cons ?_ | refine z_nil ?_ | refine z_call0 ?_ | refine z_callD ?_ | refine z_un ?_ | refine z_U ?_ | refine z_and ?_ | refine z_or ?_ | refine z_not ?_ | refine z_andV ?_ | refine z_orV ?_ | refine z_notV ?_ | refine z_if ?_ | refine z_chain ?_ | refine z_next ?_ | refine z_drop ?_ | refine z_par ?_ | refine z_cb ?_ | refine z_e1 ?_ | refine z_e2 ?_ | refine z_tup ?_ | refine iteT ?_ | refine iteF ?_ | refine z_iteNb ?_ | refine z_eint ?_ | refine z_gcons ?_ | refine z_gnil ?_ | refine z_sl ?_ | refine z_noP ?_ | refine z_part ?_ | refine z_lst ?_ | refine z_bm ?_ | refine z_for ?_ | refine z_iL ?_ | refine z_iT ?_ | refine z_iR1 ?_ | refine z_iR2 ?_ | refine z_iR3 ?_ | refine z_toI ?_ | refine z_toB ?_ | refine z_whN ?_) | ((with_reducible apply z_name); (focus (walk_at "set"))) | ((with_reducible apply z_par2); (focus (walk_at "set")); (focus (walk_at "set"))) | ((with_reducible apply z_mkt); (focus (exact Nat.le_of_ble_eq_true rfl)); (intro p H' n s e))))
local macro_rules | `(tactic| walk_at "z2") => `(tactic| first | ((with_reducible apply z_I); (focus (walk_at "cd"))) | ((with_reducible apply z_ixT); (focus (walk_at "tp")); (focus rfl)) | walk_at "isi" | walk_at "non" | ((with_reducible apply z_len); (focus (first | exact .inl (by walk_at "lq") | exact .inr (by walk_at "tp")))) | ((with_reducible apply z_gtup); (focus (walk_at "tp")); (focus rfl)) | ((with_reducible apply z_iL2); (focus (walk_at "lq"))) | ((with_reducible apply z_iT2); (focus (walk_at "tp"))) | ((with_reducible apply z_r1c); (focus (first | decide | omega)); (focus (first | decide | omega))) | ((with_reducible apply z_r2c); (focus (first | decide | omega)); (focus (first | decide | omega)); (focus (first | decide | omega)); (focus (first | decide | omega))))
local macro_rules | `(tactic| walk_at "bd") => `(tactic| first | assumption | exact Pr.ba (by assumption) | exact Pr.bb (by assumption) | exact (show My.Bd 64 _ by unfold My.Bd; decide) | ((with_reducible apply bd_mul) <;> (walk_at "bd")) | ((with_reducible apply bd_add) <;> (walk_at "bd")) | ((with_reducible apply bd_sub) <;> (walk_at "bd")) | ((with_reducible apply My.Bd.neg); (walk_at "bd")) | ((with_reducible apply My.Bd.mod); (focus (first | decide | omega | assumption)); (walk_at "bd")) | ((with_reducible apply My.Bd.div); (focus (first | decide | omega | assumption)); (walk_at "bd")) | exact bd_60 (by omega) (by omega) | exact (show My.Bd 256 _ by unfold My.Bd; decide))
local macro_rules | `(tactic| walk_at "mid") => `(tactic| first | assumption | ((apply My.Bd.mono); (focus (walk_at "bd")); (first | decide | omega)))
local macro_rules | `(tactic| walk_at "cd") => `(tactic| first | assumption | exact True.intro | decide | omega | exact ⟨by first | decide | omega, by first | decide | omega⟩ | exact ⟨by decide, by decide, by decide⟩ | exact .inl ⟨by first | decide | omega, by first | decide | omega⟩ | exact .inr ⟨by first | decide | omega, by first | decide | omega⟩ | exact ⟨by walk_at "mid", by walk_at "mid"⟩ | exact ⟨by first | decide | omega | assumption, by walk_at "mid"⟩)
local macro_rules | `(tactic| walk_at "pr") => `(tactic| first | assumption | ((apply Pr.kp); (focus assumption); (walk_at "pr")))
local macro_rules | `(tactic| walk_at "sp") => `(tactic| ((with_reducible apply a_number); (focus (walk_at "bd")); (focus (walk_at "bd")); (focus (first | decide | omega)); (focus (first | decide | omega)); (intro p H' x y s R g e)))
local macro_rules | `(tactic| walk_at "sp") => `(tactic| ((with_reducible apply a_numberD); (focus (walk_at "bd")); (focus (walk_at "bd")); (focus (first | decide | omega)); (focus (first | decide | omega)); (intro p H' x y s R g e)))
local macro_rules | `(tactic| walk_at "sp") => `(tactic| ((with_reducible apply a_two); (focus (walk_at "pr")); (focus (walk_at "pr")); (focus (first | decide | omega)); (focus (first | exact True.intro | assumption)); (intro p H' x y s R g e)))
local macro_rules | `(tactic| walk_at "sp") => `(tactic| ((with_reducible apply a_cmp); (focus (walk_at "pr")); (focus (walk_at "pr")); (focus (first | decide | omega))))
local macro_rules | `(tactic| walk_at "ji") => `(tactic| ((with_reducible apply z_joinI); (focus ((intro S q); (walk_at "run"); (exact q))); (focus ((intro hb S q); (walk_at "run"); (exact q))); (focus (walk_at "get")); (focus (walk_at "set"))))
local macro_rules | `(tactic| walk_at "run") => `(tactic| repeat (first | walk_at "ji" | walk_at "z1" | walk_at "z2" | walk_at "sp"))
local macro_rules | `(tactic| walk_at "bd6") => `(tactic| first | assumption | exact bd_60 (by omega) (by omega))
local macro_rules | `(tactic| walk_at "sp") => `(tactic| ((with_reducible apply a_cell); (focus (walk_at "lq")); (focus (first | decide | omega))))
section
variable {P : Program} {w : World} {K : PySem.W.Frag} {mg : Str → Option Value} {base : Heap} {t : Adr}
theorem of_map_at {α β : Type} {g : α → β} {xs : List α} {j : Nat} {v : β} (h : (xs.map g)[j]? = some v) : ∃ x, xs[j]? = some x ∧ v = g x := by
  rw [List.getElem?_map] at h
  cases q : xs[j]? with
  | none => rw [q] at h; cases h
  | some x => rw [q] at h; exact ⟨x, rfl, (Option.some.inj h).symm⟩
local macro_rules | `(tactic| walk_at "sp") => `(tactic| with_reducible (first | refine z_fv ?_ | refine z_fsn ?_ | refine z_fsc ?_ | refine z_iS ?_ | refine z_iS2 ?_ | refine z_inS ?_ | refine z_tyS ?_ | refine z_starts ?_ | refine z_lcn ?_))
theorem le_size {n : Nat} (h : n ≤ 1000) : n ≤ sizeLine := Nat.le_trans h (by decide)
theorem ok_l_whole (T : Txt K mg t) : FnOk P w K mg base CX0 1 t.f_l_whole t.d_l_whole ["_law_thing_here"] (sp_whole K) := by
  refine T.F_l_whole.ok sc_l_whole (fun vs H Q E h => ?_) (fun cdv A outer s H vs Q E hr h => ?_)
  · obtain ⟨x, g, rfl, _⟩ := h
    rfl
  obtain ⟨x, g, rfl, hg, q⟩ := h
  refine ⟨_, (pss_one (ps_ret (pe_and (pe_isi isi_int rfl rfl T.z_isinstance T.z_int bt_int (pv 0)) (pe_one (pe_not (pe_isi isi_bool rfl rfl T.z_isinstance T.z_bool bt_bool (pv 0))))))), ?_⟩
  refine ⟨_, rfl, _, g, rfl, hg, _, rfl, ?_⟩
  cases g with
  | int => exact iteT ⟨_, rfl, _, .int, rfl, hg, _, rfl, q⟩
  | bl => exact iteT ⟨_, rfl, _, .bl, rfl, hg, _, rfl, q⟩
  | non => exact iteF q
  | str => exact iteF q
  | tup => exact iteF q
  | lst => exact iteF q
  | dic => exact iteF q
theorem tg_same {K : PySem.W.Frag} {H H' : Hp} {x : V} {g : Tg} (s : Same H H') (h : tgIs K H x g) : tgIs K H' x g := by
  cases x <;> cases g <;> first | exact h | (obtain ⟨xs, z⟩ := h; first | exact ⟨xs, s.tup z⟩ | exact ⟨xs, s.seq z⟩ | exact ⟨xs, s _ _ z⟩)
local macro_rules | `(tactic| walk_at "sp") => `(tactic| with_reducible (first | refine z_ints ?_ | refine z_notB ?_ | refine z_NeB ?_ | refine z_isB ?_ | refine z_EqB ?_ | refine z_iE ?_))
local macro_rules | `(tactic| walk_at "sp") => `(tactic| ((with_reducible apply z_iE2); (focus (walk_at "lq"))))
local macro_rules | `(tactic| walk_at "sp") => `(tactic| ((with_reducible apply z_slS); (focus (exact le_size (by omega)))))
local macro_rules | `(tactic| walk_at "z1I") => `(tactic| ((fail_if_success (with_reducible apply z_ifs)); (walk_at "z1")))
local macro_rules | `(tactic| walk_at "runI") => `(tactic| repeat (first | walk_at "ji" | walk_at "z1I" | walk_at "z2" | walk_at "sp"))
local macro_rules | `(tactic| walk_at "z1F") => `(tactic| ((fail_if_success (with_reducible apply z_ifs)); (fail_if_success (with_reducible apply z_for)); (walk_at "z1")))
local macro_rules | `(tactic| walk_at "runF") => `(tactic| repeat (first | walk_at "ji" | walk_at "z1F" | walk_at "z2" | walk_at "sp"))
inductive Pa where
  | int (i : Int) | oth
inductive Pv where
  | non | int (i : Int) | str (z : Str) | tup (l : List Pa) | oth
noncomputable def RpA (K : PySem.W.Frag) (H : Hp) : V → Pa → Prop
  | v, .int i => v = .int i
  | v, .oth => ∃ g, tgIs K H v g ∧ g ≠ .int
noncomputable def RpL (K : PySem.W.Frag) (H : Hp) : List V → List Pa → Prop
  | [], [] => True
  | v :: vs, a :: as => RpA K H v a ∧ RpL K H vs as
  | _, _ => False
noncomputable def Rp (K : PySem.W.Frag) (H : Hp) : V → Pv → Prop
  | v, .non => v = .non
  | v, .int i => v = .int i
  | v, .str z => v = .str z ∧ z.length ≤ 900
  | v, .tup l => ∃ p vs, v = .ref p ∧ SqT K H p vs ∧ RpL K H vs l
  | v, .oth => ∃ g, tgIs K H v g ∧ (g = .bl ∨ g = .lst ∨ g = .dic)
theorem RpA.same {K : PySem.W.Frag} {H H' : Hp} {v : V} {a : Pa} (s : Same H H') (h : RpA K H v a) : RpA K H' v a := by
  cases a with
  | int i => exact h
  | oth => obtain ⟨g, hg, ne⟩ := h; exact ⟨g, tg_same s hg, ne⟩
theorem RpL.same {K : PySem.W.Frag} {H H' : Hp} (s : Same H H') : ∀ {vs : List V} {l : List Pa}, RpL K H vs l → RpL K H' vs l
  | [], [], _ => True.intro
  | _ :: _, _ :: _, h => ⟨h.1.same s, RpL.same s h.2⟩
theorem RpL.len {K : PySem.W.Frag} {H : Hp} : ∀ {vs : List V} {l : List Pa}, RpL K H vs l → vs.length = l.length
  | [], [], _ => rfl
  | _ :: _, _ :: _, h => by rw [List.length_cons, List.length_cons, RpL.len h.2]
theorem Rp.same {K : PySem.W.Frag} {H H' : Hp} {v : V} {x : Pv} (s : Same H H') (h : Rp K H v x) : Rp K H' v x := by
  cases x with
  | tup l => obtain ⟨p, vs, e, hs, r⟩ := h; exact ⟨p, vs, e, s.tup hs, r.same s⟩
  | oth => obtain ⟨g, hg, ne⟩ := h; exact ⟨g, tg_same s hg, ne⟩
  | non => exact h
  | int i => exact h
  | str z => exact h
noncomputable def Pv.isS : Pv → Bool
  | .str _ => true | _ => false
noncomputable def Pv.isT : Pv → Bool
  | .tup _ => true | _ => false
noncomputable def Pv.isI : Pv → Bool
  | .int _ => true | _ => false
theorem Rp.tag {K : PySem.W.Frag} {H : Hp} {v : V} {x : Pv} (h : Rp K H v x) : ∃ g, tgIs K H v g ∧ g.isStr = x.isS ∧ g.isTup = x.isT ∧ (match g with | .int => true | _ => false) = x.isI := by
  cases x with
  | non => cases h; exact ⟨.non, True.intro, rfl, rfl, rfl⟩
  | int i => cases h; exact ⟨.int, True.intro, rfl, rfl, rfl⟩
  | str z => obtain ⟨rfl, _⟩ := h; exact ⟨.str, True.intro, rfl, rfl, rfl⟩
  | tup l => obtain ⟨p, vs, rfl, hs, _⟩ := h; exact ⟨.tup, ⟨vs, hs⟩, rfl, rfl, rfl⟩
  | oth => obtain ⟨g, hg, rfl | rfl | rfl⟩ := h <;> exact ⟨_, hg, rfl, rfl, rfl⟩
theorem Rp.non {K : PySem.W.Frag} {H : Hp} {v : V} {x : Pv} (h : Rp K H v x) : v = .non ↔ x = .non := by
  cases x with
  | non => cases h; exact ⟨fun _ => rfl, fun _ => rfl⟩
  | int i => cases h; exact ⟨nofun, nofun⟩
  | str z => obtain ⟨rfl, _⟩ := h; exact ⟨nofun, nofun⟩
  | tup l => obtain ⟨p, vs, rfl, hs, _⟩ := h; exact ⟨nofun, nofun⟩
  | oth =>
    obtain ⟨g, hg, hh⟩ := h
    refine ⟨fun z => ?_, nofun⟩
    subst z
    rcases hh with rfl | rfl | rfl <;> exact (show False from hg).elim
noncomputable def Pa.isI : Pa → Bool
  | .int _ => true | .oth => false
theorem a_whole {K : PySem.W.Frag} {H : Hp} {Q : VK} {E : XK} {v : V} {a : Pa} (h : RpA K H v a) (q : Q (.bl a.isI) H) : sp_whole K [v] H Q E := by
  cases a with
  | int i => cases h; exact ⟨_, .int, rfl, True.intro, q⟩
  | oth =>
    obtain ⟨g, hg, ne⟩ := h
    refine ⟨_, g, rfl, hg, ?_⟩
    cases g <;> first | exact absurd rfl ne | exact q
theorem a_wholeP {K : PySem.W.Frag} {H : Hp} {Q : VK} {E : XK} {v : V} {x : Pv} (h : Rp K H v x) (q : Q (.bl x.isI) H) : sp_whole K [v] H Q E := by
  cases x with
  | non => cases h; exact ⟨_, .non, rfl, True.intro, q⟩
  | int i => cases h; exact ⟨_, .int, rfl, True.intro, q⟩
  | str z => obtain ⟨rfl, _⟩ := h; exact ⟨_, .str, rfl, True.intro, q⟩
  | tup l => obtain ⟨p, vs, rfl, hs, _⟩ := h; exact ⟨_, .tup, rfl, ⟨vs, hs⟩, q⟩
  | oth => obtain ⟨g, hg, rfl | rfl | rfl⟩ := h <;> exact ⟨_, _, rfl, hg, q⟩
noncomputable def isNum : Pv → Bool
  | .tup [.int a, .int b] => decide (1 ≤ b) && decide (Int.gcd a b = 1)
  | _ => false
noncomputable def absI (i : Int) : Int := if i < 0 then -i else i
noncomputable def toldN : Pv → Bool
  | .tup [.int a, .int b] => (decide (1 ≤ b) && decide (Int.gcd a b = 1)) && (decide (absI a < 1000000000000000000) && decide (b ≤ 60))
  | _ => false
theorem p18 : (10 : Int) ^ (18 : Int).toNat = 1000000000000000000 := by decide
noncomputable def sp_isnum (K : PySem.W.Frag) (f : Pv → Bool) : Sp := fun vs H Q _ => ∃ v x, vs = [v] ∧ Rp K H v x ∧ Q (.bl (f x)) H
theorem two_cases (l : List Pa) : (∃ a b, l = [a, b]) ∨ l.length ≠ 2 := by
  match l with
  | [] => exact .inr (by decide)
  | [_] => exact .inr (by simp)
  | [a, b] => exact .inl ⟨a, b, rfl⟩
  | _ :: _ :: _ :: _ => exact .inr (by simp)
theorem isNum_len {l : List Pa} (h : l.length ≠ 2) : isNum (.tup l) = false ∧ toldN (.tup l) = false := by
  match l with
  | [] => exact ⟨rfl, rfl⟩
  | [a] => cases a <;> exact ⟨rfl, rfl⟩
  | [a, b] => exact absurd rfl h
  | a :: b :: _ :: _ => cases a <;> cases b <;> exact ⟨rfl, rfl⟩
theorem isNum_not {x : Pv} (h : x.isT = false) : isNum x = false ∧ toldN x = false := by
  cases x with
  | tup l => cases h
  | _ => exact ⟨rfl, rfl⟩
theorem RpL.two {K : PySem.W.Frag} {H : Hp} {vs : List V} {a b : Pa} (h : RpL K H vs [a, b]) : ∃ v w, vs = [v, w] ∧ RpA K H v a ∧ RpA K H w b := by
  match vs, h with
  | [v, w], h => exact ⟨v, w, rfl, h.1, h.2.1⟩
theorem ok_is_number (T : Txt K mg t) : FnOk P w K mg base CX0 2 t.f_is_number t.d_is_number ["thing"] (sp_isnum K isNum) := by
  have G_is_whole := ok_is_whole (P := P) (w := w) (base := base) T
  have G_divisor_of := ok_divisor_of (P := P) (w := w) (base := base) T
  refine T.F_is_number.ok sc_is_number (fun vs H Q E h => ?_) (fun cdv A outer s H vs Q E hr h => ?_)
  · obtain ⟨v, x, rfl, _⟩ := h
    rfl
  obtain ⟨v, x, rfl, hx, q⟩ := h
  refine ⟨_, (pss_cons (ps_if (PW.pt (pw_or (pt_not (pt_val (pe_isi isi_tuple rfl rfl T.z_isinstance T.z_tuple bt_tuple (pv 0)))) (pw_or1 (pt_cmpR op_ne (pe_callB call_len_seq rfl T.z_len PySem.boot_len (pa_cons (pv 0) pa_nil)) pe_int (nomark _))))) (pss_one (ps_ret pe_bl)) pss_nil)
  (pss_cons (ps_if (PW.pt (pw_or (pt_not (pt_val (pe_call G_is_whole (hr.mono (by decide)) rfl T.m_is_whole T.k_is_whole T.b_is_whole .nil pass0 (pa_cons (pe_ix ix_tup (pv 0) pe_int (fun _ _ => rfl)) pa_nil)))) (pw_or1 (pt_not (pt_val (pe_call G_is_whole (hr.mono (by decide)) rfl T.m_is_whole T.k_is_whole T.b_is_whole .nil pass0 (pa_cons (pe_ix ix_tup (pv 0) pe_int (fun _ _ => rfl)) pa_nil))))))) (pss_one (ps_ret pe_bl)) pss_nil)
  (pss_one (ps_ret (pe_and (pe_cmpR op_ge (pe_ix ix_tup (pv 0) pe_int (fun _ _ => rfl)) pe_int (nomark _)) (pe_one (pe_cmpR op_eq (pe_call G_divisor_of (hr.mono (by decide)) rfl T.m_divisor_of T.k_divisor_of T.b_divisor_of .nil pass0 (pa_cons (pe_ix ix_tup (pv 0) pe_int (fun _ _ => rfl)) (pa_cons (pe_ix ix_tup (pv 0) pe_int (fun _ _ => rfl)) pa_nil))) pe_int (nomark _)))))))), z_go (σ := [some _]) rfl ?_⟩
  walk_at "run"
  obtain ⟨g, hg, _, hT, _⟩ := hx.tag
  refine ⟨_, g, rfl, hg, ?_⟩
  rw [hT]
  by_cases ht : x.isT = true
  rotate_left
  · have ht : x.isT = false := by simpa using ht
    rw [ht]
    walk_at "run"
    rw [(isNum_not ht).1] at q
    exact q
  rw [ht]
  obtain ⟨l, rfl⟩ : ∃ l, x = .tup l := by
    cases x with
    | tup l => exact ⟨l, rfl⟩
    | _ => cases ht
  obtain ⟨p, vs, rfl, hs, hl⟩ := hx
  have hlen := hl.len
  walk_at "run"
  rcases two_cases l with ⟨a, b, rfl⟩ | hne
  rotate_left
  · refine z_iteD (fun h => absurd h (by omega)) (fun _ => ?_)
    walk_at "run"
    rw [(isNum_len hne).1] at q
    exact q
  obtain ⟨v, w, rfl, ra, rb⟩ := hl.two
  refine z_iteD (fun _ => ?_) (fun h => absurd rfl h)
  walk_at "run"
  refine a_whole ra ?_
  walk_at "run"
  cases a with
  | oth =>
    refine iteF ?_
    walk_at "run"
    exact q
  | int i =>
    refine iteT ?_
    walk_at "run"
    refine a_whole rb ?_
    walk_at "run"
    cases b with
    | oth =>
      refine iteF ?_
      walk_at "run"
      exact q
    | int j =>
      cases ra
      cases rb
      refine iteT ?_
      walk_at "run"
      have q : Q (.bl (decide (1 ≤ j) && decide (Int.gcd i j = 1))) H := q
      refine z_iteD (fun h => ?_) (fun h => ?_)
      · rw [decide_eq_true h, Bool.true_and] at q
        walk_at "run"
        refine ⟨i, j, rfl, ?_⟩
        walk_at "run"
        have e : decide (((Int.gcd i j : Nat) : Int) = 1) = decide (Int.gcd i j = 1) := by
          rw [Bool.eq_iff_iff, decide_eq_true_eq, decide_eq_true_eq]; omega
        rw [e]
        exact q
      · rw [decide_eq_false h, Bool.false_and] at q
        exact q
theorem isNum_told {x : Pv} (h : isNum x = false) : toldN x = false := by
  match x, h with
  | .tup [.int a, .int b], h =>
    have h : (decide (1 ≤ b) && decide (Int.gcd a b = 1)) = false := h
    show ((decide (1 ≤ b) && decide (Int.gcd a b = 1)) && _) = false
    rw [h]; rfl
  | .tup [], _ => rfl
  | .tup [a], _ => cases a <;> rfl
  | .tup [.oth, b], _ => cases b <;> rfl
  | .tup [.int _, .oth], _ => rfl
  | .tup (a :: b :: _ :: _), _ => cases a <;> cases b <;> rfl
  | .non, _ => rfl
  | .int _, _ => rfl
  | .str _, _ => rfl
  | .oth, _ => rfl
theorem isNum_tup {x : Pv} (h : isNum x = true) : ∃ a b, x = .tup [.int a, .int b] ∧ 1 ≤ b ∧ Int.gcd a b = 1 := by
  match x, h with
  | .tup [.int a, .int b], h =>
    have h : (decide (1 ≤ b) && decide (Int.gcd a b = 1)) = true := h
    rw [Bool.and_eq_true, decide_eq_true_eq, decide_eq_true_eq] at h
    exact ⟨a, b, rfl, h.1, h.2⟩
theorem Rp.pair {K : PySem.W.Frag} {H : Hp} {v : V} {a b : Int} (h : Rp K H v (.tup [.int a, .int b])) : ∃ p, v = .ref p ∧ SqT K H p [.int a, .int b] := by
  obtain ⟨p, vs, rfl, hs, hl⟩ := h
  obtain ⟨v, w, rfl, ra, rb⟩ := hl.two
  cases ra
  cases rb
  exact ⟨p, rfl, hs⟩
theorem ok_is_told (T : Txt K mg t) : FnOk P w K mg base CX0 3 t.f_is_told t.d_is_told ["thing"] (sp_isnum K toldN) := by
  have G_is_number := ok_is_number (P := P) (w := w) (base := base) T
  refine T.F_is_told.ok sc_is_told (fun vs H Q E h => ?_) (fun cdv A outer s H vs Q E hr h => ?_)
  · obtain ⟨v, x, rfl, _⟩ := h
    rfl
  obtain ⟨v, x, rfl, hx, q⟩ := h
  refine ⟨_, (pss_one (ps_ret (pe_and (pe_call G_is_number (hr.mono (by decide)) rfl T.m_is_number T.k_is_number T.b_is_number .nil pass0 (pa_cons (pv 0) pa_nil)) (pe_and (pe_cmpR op_lt (pe_callB call_abs rfl T.z_abs bt_abs (pa_cons (pe_ix ix_tup (pv 0) pe_int (fun _ _ => rfl)) pa_nil)) (pe_op op_pow pe_int pe_int) (nomark _)) (pe_one (pe_cmpR op_le (pe_ix ix_tup (pv 0) pe_int (fun _ _ => rfl)) (pe_glob (v := .int 60) rfl T.g_MOST_BOTTOM ⟨_, rfl⟩) (nomark _))))))), z_go (σ := [some _]) rfl ?_⟩
  walk_at "run"
  refine ⟨v, x, rfl, hx, ?_⟩
  walk_at "run"
  refine z_ite2 (fun h => ?_) (fun h => ?_)
  rotate_left
  · rw [isNum_told h] at q
    exact q
  obtain ⟨a, b, rfl, hb, hg⟩ := isNum_tup h
  obtain ⟨p, rfl, hs⟩ := hx.pair
  have q : Q (.bl ((decide (1 ≤ b) && decide (Int.gcd a b = 1)) && (decide (absI a < 1000000000000000000) && decide (b ≤ 60)))) H := q
  rw [decide_eq_true hb, decide_eq_true hg, Bool.true_and, Bool.true_and] at q
  walk_at "run"
  rw [p18]
  refine z_iteD (fun h => ?_) (fun h => ?_)
  · have h : absI a < 1000000000000000000 := h
    rw [decide_eq_true h, Bool.true_and] at q
    walk_at "run"
    exact q
  · have h : ¬ absI a < 1000000000000000000 := h
    rw [decide_eq_false h, Bool.false_and] at q
    exact q
theorem sln_sl {z : Str} {n : Nat} {lo hi : Option Int} (h : z.length ≤ n) : (PySem.Txt.slice z lo hi).length ≤ n := Nat.le_trans (PySem.Txt.slice_le z lo hi) h
theorem sln_app {a b : Str} {n m : Nat} (h : a.length ≤ n) (g : b.length ≤ m) : (a ++ b).length ≤ n + m := by rw [Str.length_append]; omega
theorem sln_one (c : Nat) : (⟨#[c]⟩ : Str).length ≤ 1 := Nat.le_refl _
local macro_rules | `(tactic| walk_at "sn") => `(tactic| first | (with_reducible assumption) | (with_reducible exact sln_one _) | ((with_reducible apply sln_sl); (walk_at "sn")) | ((with_reducible apply sln_app) <;> (walk_at "sn")) | (with_reducible exact Nat.le_refl _))
theorem z_addSb {a b : Str} {n m : Nat} {H : Hp} {Q : VK} (h : a.length ≤ n) (g : b.length ≤ m) (hb : n + m ≤ 1000) (k : Q (.str (a ++ b)) H) : rAddS (.str a) (.str b) H Q := z_addS (le_size (by omega)) k
theorem z_slSb {z : Str} {lo hi : Option Int} {n : Nat} {H : Hp} {Q : VK} (h : z.length ≤ n) (hb : n ≤ 1000) (k : Q (.str (PySem.Txt.slice z lo hi)) H) : rSlS (.str z) lo hi H Q := z_slS (le_size (by omega)) k
theorem z_lenS {z : Str} {n : Nat} {S : Str → Prop} (h : z.length ≤ n) (hb : n ≤ 1000) (q : S z) : ∃ z', [V.str z] = [.str z'] ∧ z'.length ≤ sizeLine ∧ S z' := ⟨z, rfl, le_size (by omega), q⟩
theorem z_dnew {σ : St} {H : Hp} {Q : VK} (q : ∀ p H', H p = none → Same H H' → H' p = some (.dK []) → Q (.ref p) H') : tDNewK σ H Q := fun p hp => q p _ hp (Same.new hp _) upd_same
theorem z_log {i : Int} {S : Prop} (h : i.natAbs.log2 < 1920) (q : S) : i.natAbs.log2 < 1920 ∧ S := ⟨h, q⟩
local macro_rules | `(tactic| walk_at "sp") => `(tactic| ((with_reducible apply z_log); (focus assumption)))
local macro_rules | `(tactic| walk_at "sp") => `(tactic| ((with_reducible apply z_addSb); (focus (walk_at "sn")); (focus (walk_at "sn")); (focus (first | decide | omega))))
local macro_rules | `(tactic| walk_at "sp") => `(tactic| ((with_reducible apply z_slSb); (focus (walk_at "sn")); (focus (first | decide | omega))))
local macro_rules | `(tactic| walk_at "sp") => `(tactic| ((with_reducible apply z_lenS); (focus (walk_at "sn")); (focus (first | decide | omega))))
local macro_rules | `(tactic| walk_at "sp") => `(tactic| ((with_reducible apply z_dnew); (intro p H' n s e)))
local macro_rules | `(tactic| walk_at "sp") => `(tactic| ((with_reducible apply z_mkl); (focus (exact Nat.le_of_ble_eq_true rfl)); (intro p H' n s e)))
local macro_rules | `(tactic| walk_at "sp") => `(tactic| ((with_reducible apply z_catn); (focus (walk_at "hl")); (focus (walk_at "hl")); (focus (exact Nat.le_of_ble_eq_true rfl)); (intro p H' n s e)))
local macro_rules | `(tactic| walk_at "sp") => `(tactic| ((with_reducible apply z_tyL); (focus (walk_at "lq"))))
noncomputable def Rx (K : PySem.W.Frag) (H : Hp) (v : V) : Prop := ∃ x, Rp K H v x
noncomputable def RxA (K : PySem.W.Frag) (H : Hp) (v : V) : Prop := ∃ x, RpA K H v x
theorem rx_int {K : PySem.W.Frag} {H : Hp} {i : Int} : Rx K H (.int i) := ⟨.int i, rfl⟩
theorem rx_non {K : PySem.W.Frag} {H : Hp} : Rx K H .non := ⟨.non, rfl⟩
theorem rx_bl {K : PySem.W.Frag} {H : Hp} {b : Bool} : Rx K H (.bl b) := ⟨.oth, .bl, True.intro, .inl rfl⟩
theorem rx_str {K : PySem.W.Frag} {H : Hp} {z : Str} {n : Nat} (h : z.length ≤ n) (hb : n ≤ 900) : Rx K H (.str z) := ⟨.str z, rfl, by omega⟩
theorem rx_lst {K : PySem.W.Frag} {H : Hp} {p : Addr} {xs : List V} (h : SqL K H p xs) : Rx K H (.ref p) := ⟨.oth, .lst, ⟨xs, h⟩, .inr (.inl rfl)⟩
theorem rx_dic {K : PySem.W.Frag} {H : Hp} {p : Addr} {kvs : List (Key × V)} (h : H p = some (.dK kvs)) : Rx K H (.ref p) := ⟨.oth, .dic, ⟨kvs, h⟩, .inr (.inr rfl)⟩
theorem rpl_of {K : PySem.W.Frag} {H : Hp} : ∀ {vs : List V}, (∀ v ∈ vs, RxA K H v) → ∃ l, RpL K H vs l
  | [], _ => ⟨[], True.intro⟩
  | v :: vs, h => by
    obtain ⟨a, ha⟩ := h v List.mem_cons_self
    obtain ⟨l, hl⟩ := rpl_of (vs := vs) fun y hy => h y (List.mem_cons_of_mem _ hy)
    exact ⟨a :: l, ha, hl⟩
theorem rx_tup {K : PySem.W.Frag} {H : Hp} {p : Addr} {vs : List V} (h : SqT K H p vs) (hv : ∀ v ∈ vs, RxA K H v) : Rx K H (.ref p) := by
  obtain ⟨l, hl⟩ := rpl_of hv
  exact ⟨.tup l, p, vs, rfl, h, hl⟩
theorem ra_int {K : PySem.W.Frag} {H : Hp} {i : Int} : RxA K H (.int i) := ⟨.int i, rfl⟩
theorem ra_non {K : PySem.W.Frag} {H : Hp} : RxA K H .non := ⟨.oth, .non, True.intro, nofun⟩
theorem ra_bl {K : PySem.W.Frag} {H : Hp} {b : Bool} : RxA K H (.bl b) := ⟨.oth, .bl, True.intro, nofun⟩
theorem ra_str {K : PySem.W.Frag} {H : Hp} {z : Str} : RxA K H (.str z) := ⟨.oth, .str, True.intro, nofun⟩
theorem all_nil {P : V → Prop} : ∀ v ∈ ([] : List V), P v := fun v h => absurd h List.not_mem_nil
theorem all_cons {P : V → Prop} {x : V} {r : List V} (h : P x) (t : ∀ v ∈ r, P v) : ∀ v ∈ x :: r, P v := List.forall_mem_cons.mpr ⟨h, t⟩
local macro_rules | `(tactic| walk_at "tpr") => `(tactic| first | (with_reducible assumption) | (with_reducible exact SqT.of (by with_reducible assumption)) | ((with_reducible apply Same.tup); (focus (with_reducible assumption)); (walk_at "tpr")))
local macro_rules | `(tactic| walk_at "lqr") => `(tactic| first | (with_reducible assumption) | (with_reducible exact SqL.of (by with_reducible assumption)) | ((with_reducible apply Same.seq); (focus (with_reducible assumption)); (walk_at "lqr")))
local macro_rules | `(tactic| walk_at "ra") => `(tactic| with_reducible (first | exact ra_int | exact ra_str | exact ra_bl | exact ra_non))
local macro_rules | `(tactic| walk_at "ras") => `(tactic| first | (with_reducible exact all_nil) | ((with_reducible apply all_cons); (focus (walk_at "ra")); (walk_at "ras")))
local macro_rules | `(tactic| walk_at "rx") => `(tactic| first | (with_reducible exact rx_int) | (with_reducible exact rx_non) | (with_reducible exact rx_bl) | ((with_reducible apply rx_str); (focus (walk_at "sn")); (first | decide | omega)) | ((with_reducible apply rx_tup); (focus (walk_at "tpr")); (walk_at "ras")) | ((with_reducible apply rx_lst); (walk_at "lqr")) | ((with_reducible apply rx_dic); (walk_at "hl")))
local macro_rules | `(tactic| walk_at "rxs") => `(tactic| first | (with_reducible exact all_nil) | ((with_reducible apply all_cons); (focus (walk_at "rx")); (walk_at "rxs")))
theorem z_ixAny {K : PySem.W.Frag} {H : Hp} {Q : VK} {p : Addr} {xs : List V} {i : Int} (P : V → Prop) (hs : SqL K H p xs) (h0 : 0 ≤ i) (h1 : i < (xs.length : Int)) (hall : ∀ v ∈ xs, P v) (q : ∀ v, P v → Q v H) : rIxL K (.ref p) (.int i) H Q := by
  obtain ⟨k, rfl⟩ := Int.eq_ofNat_of_zero_le h0
  have hk : k < xs.length := by omega
  exact z_ixL hs (atI_nat (List.getElem?_eq_getElem hk)) (q _ (hall _ (List.getElem_mem hk)))
theorem oi_NoTable (T : Txt K mg t) : FnOk P w K mg base CX0 1 t.fi_NoTable t.di_NoTable ["self", "row"] (sp_init t.c_NoTable "row") := by
  refine T.Fi_NoTable.ok sci_NoTable (fun vs H Q E h => ?_) (fun cdv A outer s H vs Q E hr h => ?_)
  · obtain ⟨a, v, rfl, _⟩ := h
    rfl
  obtain ⟨a, v, rfl, ha, q⟩ := h
  refine ⟨_, (pss_one (ps_fldX (pv 0) (pv 1) rfl)), z_go (σ := [some _, some _]) rfl ?_⟩
  walk_at "run"
  exact ⟨v, rfl, .ref a, rfl, a, _, _, rfl, ha, T.o_NoTable, q⟩
theorem oi_NoPlan (T : Txt K mg t) : FnOk P w K mg base CX0 1 t.fi_NoPlan t.di_NoPlan ["self", "step"] (sp_init t.c_NoPlan "step") := by
  refine T.Fi_NoPlan.ok sci_NoPlan (fun vs H Q E h => ?_) (fun cdv A outer s H vs Q E hr h => ?_)
  · obtain ⟨a, v, rfl, _⟩ := h
    rfl
  obtain ⟨a, v, rfl, ha, q⟩ := h
  refine ⟨_, (pss_one (ps_fldX (pv 0) (pv 1) rfl)), z_go (σ := [some _, some _]) rfl ?_⟩
  walk_at "run"
  exact ⟨v, rfl, .ref a, rfl, a, _, _, rfl, ha, T.o_NoPlan, q⟩
theorem oi_NoTelling (T : Txt K mg t) : FnOk P w K mg base CX0 1 t.fi_NoTelling t.di_NoTelling ["self", "part"] (sp_init t.c_NoTelling "part") := by
  refine T.Fi_NoTelling.ok sci_NoTelling (fun vs H Q E h => ?_) (fun cdv A outer s H vs Q E hr h => ?_)
  · obtain ⟨a, v, rfl, _⟩ := h
    rfl
  obtain ⟨a, v, rfl, ha, q⟩ := h
  refine ⟨_, (pss_one (ps_fldX (pv 0) (pv 1) rfl)), z_go (σ := [some _, some _]) rfl ?_⟩
  walk_at "run"
  exact ⟨v, rfl, .ref a, rfl, a, _, _, rfl, ha, T.o_NoTelling, q⟩
noncomputable def Nine (K : PySem.W.Frag) (t : Adr) (C : Addr) : Prop := ExcF K C ∧ ∃ b0 b1 b2 b3 b4 b5 b6 b7 b8 : Bool, PySem.W.kitOne K (.ref C) (.ref t.c_NoNumber) = some b0 ∧ PySem.W.kitOne K (.ref C) (.ref t.c_NoDay) = some b1 ∧ PySem.W.kitOne K (.ref C) (.ref t.c_NoTable) = some b2 ∧ PySem.W.kitOne K (.ref C) (.ref t.c_NoPlan) = some b3 ∧ PySem.W.kitOne K (.ref C) (.ref t.c_NoSpace) = some b4 ∧ PySem.W.kitOne K (.ref C) (.ref t.c_NoTelling) = some b5 ∧ PySem.W.kitOne K (.ref C) (.ref t.c_TooMany) = some b6 ∧ PySem.W.kitOne K (.ref C) (.ref t.c_NoRow) = some b7 ∧ PySem.W.kitOne K (.ref C) (.ref t.c_NoName) = some b8 ∧ PySem.W.kitOne K (.ref C) (.ref t.c_MarkError) = some true ∧ PySem.W.kitOne K (.ref C) (.type "ValueError") = some true ∧ (if b0 then 1 else 0) + (if b1 then 1 else 0) + (if b2 then 1 else 0) + (if b3 then 1 else 0) + (if b4 then 1 else 0) + (if b5 then 1 else 0) + (if b6 then 1 else 0) + (if b7 then 1 else 0) + (if b8 then 1 else 0) = (1 : Int)
theorem nine_NoNumber (T : Txt K mg t) : Nine K t t.c_NoNumber := ⟨T.y_NoNumber, true, false, false, false, false, false, false, false, false, T.kk_NoNumber_NoNumber, T.kk_NoNumber_NoDay, T.kk_NoNumber_NoTable, T.kk_NoNumber_NoPlan, T.kk_NoNumber_NoSpace, T.kk_NoNumber_NoTelling, T.kk_NoNumber_TooMany, T.kk_NoNumber_NoRow, T.kk_NoNumber_NoName, T.kk_NoNumber_MarkError, T.kk_NoNumber_ValueError, by decide⟩
theorem nine_NoDay (T : Txt K mg t) : Nine K t t.c_NoDay := ⟨T.y_NoDay, false, true, false, false, false, false, false, false, false, T.kk_NoDay_NoNumber, T.kk_NoDay_NoDay, T.kk_NoDay_NoTable, T.kk_NoDay_NoPlan, T.kk_NoDay_NoSpace, T.kk_NoDay_NoTelling, T.kk_NoDay_TooMany, T.kk_NoDay_NoRow, T.kk_NoDay_NoName, T.kk_NoDay_MarkError, T.kk_NoDay_ValueError, by decide⟩
theorem nine_NoTable (T : Txt K mg t) : Nine K t t.c_NoTable := ⟨T.y_NoTable, false, false, true, false, false, false, false, false, false, T.kk_NoTable_NoNumber, T.kk_NoTable_NoDay, T.kk_NoTable_NoTable, T.kk_NoTable_NoPlan, T.kk_NoTable_NoSpace, T.kk_NoTable_NoTelling, T.kk_NoTable_TooMany, T.kk_NoTable_NoRow, T.kk_NoTable_NoName, T.kk_NoTable_MarkError, T.kk_NoTable_ValueError, by decide⟩
theorem nine_NoPlan (T : Txt K mg t) : Nine K t t.c_NoPlan := ⟨T.y_NoPlan, false, false, false, true, false, false, false, false, false, T.kk_NoPlan_NoNumber, T.kk_NoPlan_NoDay, T.kk_NoPlan_NoTable, T.kk_NoPlan_NoPlan, T.kk_NoPlan_NoSpace, T.kk_NoPlan_NoTelling, T.kk_NoPlan_TooMany, T.kk_NoPlan_NoRow, T.kk_NoPlan_NoName, T.kk_NoPlan_MarkError, T.kk_NoPlan_ValueError, by decide⟩
theorem nine_NoSpace (T : Txt K mg t) : Nine K t t.c_NoSpace := ⟨T.y_NoSpace, false, false, false, false, true, false, false, false, false, T.kk_NoSpace_NoNumber, T.kk_NoSpace_NoDay, T.kk_NoSpace_NoTable, T.kk_NoSpace_NoPlan, T.kk_NoSpace_NoSpace, T.kk_NoSpace_NoTelling, T.kk_NoSpace_TooMany, T.kk_NoSpace_NoRow, T.kk_NoSpace_NoName, T.kk_NoSpace_MarkError, T.kk_NoSpace_ValueError, by decide⟩
theorem nine_NoTelling (T : Txt K mg t) : Nine K t t.c_NoTelling := ⟨T.y_NoTelling, false, false, false, false, false, true, false, false, false, T.kk_NoTelling_NoNumber, T.kk_NoTelling_NoDay, T.kk_NoTelling_NoTable, T.kk_NoTelling_NoPlan, T.kk_NoTelling_NoSpace, T.kk_NoTelling_NoTelling, T.kk_NoTelling_TooMany, T.kk_NoTelling_NoRow, T.kk_NoTelling_NoName, T.kk_NoTelling_MarkError, T.kk_NoTelling_ValueError, by decide⟩
theorem nine_TooMany (T : Txt K mg t) : Nine K t t.c_TooMany := ⟨T.y_TooMany, false, false, false, false, false, false, true, false, false, T.kk_TooMany_NoNumber, T.kk_TooMany_NoDay, T.kk_TooMany_NoTable, T.kk_TooMany_NoPlan, T.kk_TooMany_NoSpace, T.kk_TooMany_NoTelling, T.kk_TooMany_TooMany, T.kk_TooMany_NoRow, T.kk_TooMany_NoName, T.kk_TooMany_MarkError, T.kk_TooMany_ValueError, by decide⟩
theorem nine_NoRow (T : Txt K mg t) : Nine K t t.c_NoRow := ⟨T.y_NoRow, false, false, false, false, false, false, false, true, false, T.kk_NoRow_NoNumber, T.kk_NoRow_NoDay, T.kk_NoRow_NoTable, T.kk_NoRow_NoPlan, T.kk_NoRow_NoSpace, T.kk_NoRow_NoTelling, T.kk_NoRow_TooMany, T.kk_NoRow_NoRow, T.kk_NoRow_NoName, T.kk_NoRow_MarkError, T.kk_NoRow_ValueError, by decide⟩
theorem nine_NoName (T : Txt K mg t) : Nine K t t.c_NoName := ⟨T.y_NoName, false, false, false, false, false, false, false, false, true, T.kk_NoName_NoNumber, T.kk_NoName_NoDay, T.kk_NoName_NoTable, T.kk_NoName_NoPlan, T.kk_NoName_NoSpace, T.kk_NoName_NoTelling, T.kk_NoName_TooMany, T.kk_NoName_NoRow, T.kk_NoName_NoName, T.kk_NoName_MarkError, T.kk_NoName_ValueError, by decide⟩
noncomputable def sp_kinds (K : PySem.W.Frag) (t : Adr) : Sp := fun vs H Q _ => ∃ (a C : Addr), vs = [.ref a] ∧ H a = some (ExcO a C) ∧ Nine K t C ∧ Q (.int 1) H
theorem ok_l_kinds (T : Txt K mg t) : FnOk P w K mg base CX0 1 t.f_l_kinds t.d_l_kinds ["_law_e"] (sp_kinds K t) := by
  refine T.F_l_kinds.ok sc_l_kinds (fun vs H Q E h => ?_) (fun cdv A outer s H vs Q E hr h => ?_)
  · obtain ⟨a, C, rfl, _⟩ := h
    rfl
  obtain ⟨a, C, rfl, ha, ⟨Fx, b0, b1, b2, b3, b4, b5, b6, b7, b8, k0, k1, k2, k3, k4, k5, k6, k7, k8, km, kv, e⟩, q⟩ := h
  refine ⟨_, (pss_cons (ps_set (i := 1) sc_l_kinds.nd rfl (Or.inl rfl) (pe_op op_add (pe_op op_add (pe_callTy call_int1 rfl T.z_int bt_int (pa_cons (pe_callB (isiK (c := .ref t.c_NoNumber) (u := .ref t.c_NoNumber) (fun _ z => z)) rfl T.z_isinstance bt_isinstance (pa_cons (pv 0) (pa_cons (pe_glob (v := .ref t.c_NoNumber) rfl T.m_NoNumber rfl) pa_nil))) pa_nil)) (pe_callTy call_int1 rfl T.z_int bt_int (pa_cons (pe_callB (isiK (c := .ref t.c_NoDay) (u := .ref t.c_NoDay) (fun _ z => z)) rfl T.z_isinstance bt_isinstance (pa_cons (pv 0) (pa_cons (pe_glob (v := .ref t.c_NoDay) rfl T.m_NoDay rfl) pa_nil))) pa_nil))) (pe_callTy call_int1 rfl T.z_int bt_int (pa_cons (pe_callB (isiK (c := .ref t.c_NoTable) (u := .ref t.c_NoTable) (fun _ z => z)) rfl T.z_isinstance bt_isinstance (pa_cons (pv 0) (pa_cons (pe_glob (v := .ref t.c_NoTable) rfl T.m_NoTable rfl) pa_nil))) pa_nil))))
  (pss_cons (ps_set (i := 1) sc_l_kinds.nd rfl (Or.inl rfl) (pe_op op_add (pe_op op_add (pe_op op_add (pv 1) (pe_callTy call_int1 rfl T.z_int bt_int (pa_cons (pe_callB (isiK (c := .ref t.c_NoPlan) (u := .ref t.c_NoPlan) (fun _ z => z)) rfl T.z_isinstance bt_isinstance (pa_cons (pv 0) (pa_cons (pe_glob (v := .ref t.c_NoPlan) rfl T.m_NoPlan rfl) pa_nil))) pa_nil))) (pe_callTy call_int1 rfl T.z_int bt_int (pa_cons (pe_callB (isiK (c := .ref t.c_NoSpace) (u := .ref t.c_NoSpace) (fun _ z => z)) rfl T.z_isinstance bt_isinstance (pa_cons (pv 0) (pa_cons (pe_glob (v := .ref t.c_NoSpace) rfl T.m_NoSpace rfl) pa_nil))) pa_nil))) (pe_callTy call_int1 rfl T.z_int bt_int (pa_cons (pe_callB (isiK (c := .ref t.c_NoTelling) (u := .ref t.c_NoTelling) (fun _ z => z)) rfl T.z_isinstance bt_isinstance (pa_cons (pv 0) (pa_cons (pe_glob (v := .ref t.c_NoTelling) rfl T.m_NoTelling rfl) pa_nil))) pa_nil))))
  (pss_cons (ps_set (i := 1) sc_l_kinds.nd rfl (Or.inl rfl) (pe_op op_add (pe_op op_add (pe_op op_add (pv 1) (pe_callTy call_int1 rfl T.z_int bt_int (pa_cons (pe_callB (isiK (c := .ref t.c_TooMany) (u := .ref t.c_TooMany) (fun _ z => z)) rfl T.z_isinstance bt_isinstance (pa_cons (pv 0) (pa_cons (pe_glob (v := .ref t.c_TooMany) rfl T.m_TooMany rfl) pa_nil))) pa_nil))) (pe_callTy call_int1 rfl T.z_int bt_int (pa_cons (pe_callB (isiK (c := .ref t.c_NoRow) (u := .ref t.c_NoRow) (fun _ z => z)) rfl T.z_isinstance bt_isinstance (pa_cons (pv 0) (pa_cons (pe_glob (v := .ref t.c_NoRow) rfl T.m_NoRow rfl) pa_nil))) pa_nil))) (pe_callTy call_int1 rfl T.z_int bt_int (pa_cons (pe_callB (isiK (c := .ref t.c_NoName) (u := .ref t.c_NoName) (fun _ z => z)) rfl T.z_isinstance bt_isinstance (pa_cons (pv 0) (pa_cons (pe_glob (v := .ref t.c_NoName) rfl T.m_NoName rfl) pa_nil))) pa_nil))))
  (pss_cons (ps_if (PW.pt (pw_or (pt_not (pt_val (pe_callB (isiK (c := .ref t.c_MarkError) (u := .ref t.c_MarkError) (fun _ z => z)) rfl T.z_isinstance bt_isinstance (pa_cons (pv 0) (pa_cons (pe_glob (v := .ref t.c_MarkError) rfl T.m_MarkError rfl) pa_nil))))) (pw_or1 (pt_not (pt_val (pe_callB (isiK (c := .ty "ValueError") (u := .type "ValueError") (fun _ z => z)) rfl T.z_isinstance bt_isinstance (pa_cons (pv 0) (pa_cons (pe_bltn (v := .ty "ValueError") rfl T.z_ValueError bt_ValueError rfl) pa_nil)))))))) (pss_one (ps_ret pe_int)) pss_nil)
  (pss_one (ps_ret (pv 1))))))), z_go (σ := [some _, none]) rfl ?_⟩
  walk_at "run"
  refine ⟨a, C, b0, rfl, ha, Fx, k0, ?_⟩
  walk_at "run"
  refine ⟨a, C, b1, rfl, ha, Fx, k1, ?_⟩
  walk_at "run"
  refine ⟨a, C, b2, rfl, ha, Fx, k2, ?_⟩
  walk_at "run"
  refine ⟨a, C, b3, rfl, ha, Fx, k3, ?_⟩
  walk_at "run"
  refine ⟨a, C, b4, rfl, ha, Fx, k4, ?_⟩
  walk_at "run"
  refine ⟨a, C, b5, rfl, ha, Fx, k5, ?_⟩
  walk_at "run"
  refine ⟨a, C, b6, rfl, ha, Fx, k6, ?_⟩
  walk_at "run"
  refine ⟨a, C, b7, rfl, ha, Fx, k7, ?_⟩
  walk_at "run"
  refine ⟨a, C, b8, rfl, ha, Fx, k8, ?_⟩
  walk_at "run"
  refine ⟨a, C, true, rfl, ha, Fx, km, ?_⟩
  walk_at "run"
  refine ⟨a, C, true, rfl, ha, Fx, kv, ?_⟩
  walk_at "run"
  rw [e]
  exact q
theorem okH_l_kinds (T : Txt K mg t) : FnOkH P w K mg base 1 t.f_l_kinds t.d_l_kinds ["_law_e"] (sp_kinds K t) := by
  refine T.F_l_kinds.okH sc_l_kinds (fun vs H Q E h => ?_) (fun cdv A outer s H vs Q E ax hr h => ?_)
  · obtain ⟨a, C, rfl, _⟩ := h
    rfl
  obtain ⟨a, C, rfl, ha, ⟨Fx, b0, b1, b2, b3, b4, b5, b6, b7, b8, k0, k1, k2, k3, k4, k5, k6, k7, k8, km, kv, e⟩, q⟩ := h
  refine ⟨_, (pss_cons (ps_set (i := 1) sc_l_kinds.nd rfl (Or.inl rfl) (pe_op op_add (pe_op op_add (pe_callTy call_int1 rfl T.z_int bt_int (pa_cons (pe_callB (isiK (c := .ref t.c_NoNumber) (u := .ref t.c_NoNumber) (fun _ z => z)) rfl T.z_isinstance bt_isinstance (pa_cons (pv 0) (pa_cons (pe_glob (v := .ref t.c_NoNumber) rfl T.m_NoNumber rfl) pa_nil))) pa_nil)) (pe_callTy call_int1 rfl T.z_int bt_int (pa_cons (pe_callB (isiK (c := .ref t.c_NoDay) (u := .ref t.c_NoDay) (fun _ z => z)) rfl T.z_isinstance bt_isinstance (pa_cons (pv 0) (pa_cons (pe_glob (v := .ref t.c_NoDay) rfl T.m_NoDay rfl) pa_nil))) pa_nil))) (pe_callTy call_int1 rfl T.z_int bt_int (pa_cons (pe_callB (isiK (c := .ref t.c_NoTable) (u := .ref t.c_NoTable) (fun _ z => z)) rfl T.z_isinstance bt_isinstance (pa_cons (pv 0) (pa_cons (pe_glob (v := .ref t.c_NoTable) rfl T.m_NoTable rfl) pa_nil))) pa_nil))))
  (pss_cons (ps_set (i := 1) sc_l_kinds.nd rfl (Or.inl rfl) (pe_op op_add (pe_op op_add (pe_op op_add (pv 1) (pe_callTy call_int1 rfl T.z_int bt_int (pa_cons (pe_callB (isiK (c := .ref t.c_NoPlan) (u := .ref t.c_NoPlan) (fun _ z => z)) rfl T.z_isinstance bt_isinstance (pa_cons (pv 0) (pa_cons (pe_glob (v := .ref t.c_NoPlan) rfl T.m_NoPlan rfl) pa_nil))) pa_nil))) (pe_callTy call_int1 rfl T.z_int bt_int (pa_cons (pe_callB (isiK (c := .ref t.c_NoSpace) (u := .ref t.c_NoSpace) (fun _ z => z)) rfl T.z_isinstance bt_isinstance (pa_cons (pv 0) (pa_cons (pe_glob (v := .ref t.c_NoSpace) rfl T.m_NoSpace rfl) pa_nil))) pa_nil))) (pe_callTy call_int1 rfl T.z_int bt_int (pa_cons (pe_callB (isiK (c := .ref t.c_NoTelling) (u := .ref t.c_NoTelling) (fun _ z => z)) rfl T.z_isinstance bt_isinstance (pa_cons (pv 0) (pa_cons (pe_glob (v := .ref t.c_NoTelling) rfl T.m_NoTelling rfl) pa_nil))) pa_nil))))
  (pss_cons (ps_set (i := 1) sc_l_kinds.nd rfl (Or.inl rfl) (pe_op op_add (pe_op op_add (pe_op op_add (pv 1) (pe_callTy call_int1 rfl T.z_int bt_int (pa_cons (pe_callB (isiK (c := .ref t.c_TooMany) (u := .ref t.c_TooMany) (fun _ z => z)) rfl T.z_isinstance bt_isinstance (pa_cons (pv 0) (pa_cons (pe_glob (v := .ref t.c_TooMany) rfl T.m_TooMany rfl) pa_nil))) pa_nil))) (pe_callTy call_int1 rfl T.z_int bt_int (pa_cons (pe_callB (isiK (c := .ref t.c_NoRow) (u := .ref t.c_NoRow) (fun _ z => z)) rfl T.z_isinstance bt_isinstance (pa_cons (pv 0) (pa_cons (pe_glob (v := .ref t.c_NoRow) rfl T.m_NoRow rfl) pa_nil))) pa_nil))) (pe_callTy call_int1 rfl T.z_int bt_int (pa_cons (pe_callB (isiK (c := .ref t.c_NoName) (u := .ref t.c_NoName) (fun _ z => z)) rfl T.z_isinstance bt_isinstance (pa_cons (pv 0) (pa_cons (pe_glob (v := .ref t.c_NoName) rfl T.m_NoName rfl) pa_nil))) pa_nil))))
  (pss_cons (ps_if (PW.pt (pw_or (pt_not (pt_val (pe_callB (isiK (c := .ref t.c_MarkError) (u := .ref t.c_MarkError) (fun _ z => z)) rfl T.z_isinstance bt_isinstance (pa_cons (pv 0) (pa_cons (pe_glob (v := .ref t.c_MarkError) rfl T.m_MarkError rfl) pa_nil))))) (pw_or1 (pt_not (pt_val (pe_callB (isiK (c := .ty "ValueError") (u := .type "ValueError") (fun _ z => z)) rfl T.z_isinstance bt_isinstance (pa_cons (pv 0) (pa_cons (pe_bltn (v := .ty "ValueError") rfl T.z_ValueError bt_ValueError rfl) pa_nil)))))))) (pss_one (ps_ret pe_int)) pss_nil)
  (pss_one (ps_ret (pv 1))))))), z_go (σ := [some _, none]) rfl ?_⟩
  walk_at "run"
  refine ⟨a, C, b0, rfl, ha, Fx, k0, ?_⟩
  walk_at "run"
  refine ⟨a, C, b1, rfl, ha, Fx, k1, ?_⟩
  walk_at "run"
  refine ⟨a, C, b2, rfl, ha, Fx, k2, ?_⟩
  walk_at "run"
  refine ⟨a, C, b3, rfl, ha, Fx, k3, ?_⟩
  walk_at "run"
  refine ⟨a, C, b4, rfl, ha, Fx, k4, ?_⟩
  walk_at "run"
  refine ⟨a, C, b5, rfl, ha, Fx, k5, ?_⟩
  walk_at "run"
  refine ⟨a, C, b6, rfl, ha, Fx, k6, ?_⟩
  walk_at "run"
  refine ⟨a, C, b7, rfl, ha, Fx, k7, ?_⟩
  walk_at "run"
  refine ⟨a, C, b8, rfl, ha, Fx, k8, ?_⟩
  walk_at "run"
  refine ⟨a, C, true, rfl, ha, Fx, km, ?_⟩
  walk_at "run"
  refine ⟨a, C, true, rfl, ha, Fx, kv, ?_⟩
  walk_at "run"
  rw [e]
  exact q
noncomputable def PvB (x : Pv) : Prop := ∀ i, x = .int i → My.Bd 240 i
theorem ok_l_number (T : Txt K mg t) : FnOk P w K mg base CX0 2 t.f_l_number t.d_l_number ["_law_thing_here"] (sp_isnum K isNum) := by
  have G_l_whole := ok_l_whole (P := P) (w := w) (base := base) T
  have G_l_divisor := ok_l_divisor (P := P) (w := w) (base := base) T
  refine T.F_l_number.ok sc_l_number (fun vs H Q E h => ?_) (fun cdv A outer s H vs Q E hr h => ?_)
  · obtain ⟨v, x, rfl, _⟩ := h
    rfl
  obtain ⟨v, x, rfl, hx, q⟩ := h
  refine ⟨_, (pss_cons (ps_if (PW.pt (pw_or (pt_not (pt_val (pe_isi isi_tuple rfl rfl T.z_isinstance T.z_tuple bt_tuple (pv 0)))) (pw_or1 (pt_cmpR op_ne (pe_callB call_len_seq rfl T.z_len PySem.boot_len (pa_cons (pv 0) pa_nil)) pe_int (nomark _))))) (pss_one (ps_ret pe_bl)) pss_nil)
  (pss_cons (ps_if (PW.pt (pw_or (pt_not (pt_val (pe_call G_l_whole (hr.mono (by decide)) rfl T.m_l_whole T.k_l_whole T.b_l_whole .nil pass0 (pa_cons (pe_ix ix_tup (pv 0) pe_int (fun _ _ => rfl)) pa_nil)))) (pw_or1 (pt_not (pt_val (pe_call G_l_whole (hr.mono (by decide)) rfl T.m_l_whole T.k_l_whole T.b_l_whole .nil pass0 (pa_cons (pe_ix ix_tup (pv 0) pe_int (fun _ _ => rfl)) pa_nil))))))) (pss_one (ps_ret pe_bl)) pss_nil)
  (pss_one (ps_ret (pe_and (pe_cmpR op_gt (pe_ix ix_tup (pv 0) pe_int (fun _ _ => rfl)) pe_int (nomark _)) (pe_one (pe_cmpR op_eq (pe_call G_l_divisor (hr.mono (by decide)) rfl T.m_l_divisor T.k_l_divisor T.b_l_divisor .nil pass0 (pa_cons (pe_ix ix_tup (pv 0) pe_int (fun _ _ => rfl)) (pa_cons (pe_ix ix_tup (pv 0) pe_int (fun _ _ => rfl)) pa_nil))) pe_int (nomark _)))))))), z_go (σ := [some _]) rfl ?_⟩
  walk_at "run"
  obtain ⟨g, hg, _, hT, _⟩ := hx.tag
  refine ⟨_, g, rfl, hg, ?_⟩
  rw [hT]
  by_cases ht : x.isT = true
  rotate_left
  · have ht : x.isT = false := by simpa using ht
    rw [ht]
    walk_at "run"
    rw [(isNum_not ht).1] at q
    exact q
  rw [ht]
  obtain ⟨l, rfl⟩ : ∃ l, x = .tup l := by
    cases x with
    | tup l => exact ⟨l, rfl⟩
    | _ => cases ht
  obtain ⟨p, vs, rfl, hs, hl⟩ := hx
  have hlen := hl.len
  walk_at "run"
  rcases two_cases l with ⟨a, b, rfl⟩ | hne
  rotate_left
  · refine z_iteD (fun h => absurd h (by omega)) (fun _ => ?_)
    walk_at "run"
    rw [(isNum_len hne).1] at q
    exact q
  obtain ⟨v, w, rfl, ra, rb⟩ := hl.two
  refine z_iteD (fun _ => ?_) (fun h => absurd rfl h)
  walk_at "run"
  refine a_whole ra ?_
  walk_at "run"
  cases a with
  | oth =>
    refine iteF ?_
    walk_at "run"
    exact q
  | int i =>
    refine iteT ?_
    walk_at "run"
    refine a_whole rb ?_
    walk_at "run"
    cases b with
    | oth =>
      refine iteF ?_
      walk_at "run"
      exact q
    | int j =>
      cases ra
      cases rb
      refine iteT ?_
      walk_at "run"
      have q : Q (.bl (decide (1 ≤ j) && decide (Int.gcd i j = 1))) H := q
      refine z_iteD (fun h => ?_) (fun h => ?_)
      · rw [decide_eq_true (show 1 ≤ j by omega), Bool.true_and] at q
        walk_at "run"
        refine ⟨i, j, rfl, by omega, ?_⟩
        walk_at "run"
        have e : decide (((Int.gcd i j : Nat) : Int) = 1) = decide (Int.gcd i j = 1) := by
          rw [Bool.eq_iff_iff, decide_eq_true_eq, decide_eq_true_eq]; omega
        rw [e]
        exact q
      · rw [decide_eq_false (show ¬ 1 ≤ j by omega), Bool.false_and] at q
        exact q
theorem ok_l_told (T : Txt K mg t) : FnOk P w K mg base CX0 3 t.f_l_told t.d_l_told ["_law_thing_here"] (sp_isnum K toldN) := by
  have G_l_number := ok_l_number (P := P) (w := w) (base := base) T
  refine T.F_l_told.ok sc_l_told (fun vs H Q E h => ?_) (fun cdv A outer s H vs Q E hr h => ?_)
  · obtain ⟨v, x, rfl, _⟩ := h
    rfl
  obtain ⟨v, x, rfl, hx, q⟩ := h
  refine ⟨_, (pss_one (ps_ret (pe_and (pe_call G_l_number (hr.mono (by decide)) rfl T.m_l_number T.k_l_number T.b_l_number .nil pass0 (pa_cons (pv 0) pa_nil)) (pe_and (pe_cmpR op_lt (pe_callB call_abs rfl T.z_abs bt_abs (pa_cons (pe_ix ix_tup (pv 0) pe_int (fun _ _ => rfl)) pa_nil)) (pe_op op_pow pe_int pe_int) (nomark _)) (pe_one (pe_cmpR op_lt (pe_ix ix_tup (pv 0) pe_int (fun _ _ => rfl)) pe_int (nomark _))))))), z_go (σ := [some _]) rfl ?_⟩
  walk_at "run"
  refine ⟨v, x, rfl, hx, ?_⟩
  walk_at "run"
  refine z_ite2 (fun h => ?_) (fun h => ?_)
  rotate_left
  · rw [isNum_told h] at q
    exact q
  obtain ⟨a, b, rfl, hb, hg⟩ := isNum_tup h
  obtain ⟨p, rfl, hs⟩ := hx.pair
  have q : Q (.bl ((decide (1 ≤ b) && decide (Int.gcd a b = 1)) && (decide (absI a < 1000000000000000000) && decide (b ≤ 60)))) H := q
  rw [decide_eq_true hb, decide_eq_true hg, Bool.true_and, Bool.true_and] at q
  walk_at "run"
  rw [p18]
  refine z_iteD (fun h => ?_) (fun h => ?_)
  · have h : absI a < 1000000000000000000 := h
    rw [decide_eq_true h, Bool.true_and] at q
    walk_at "run"
    rw [show decide (b < 61) = decide (b ≤ 60) from by rw [Bool.eq_iff_iff, decide_eq_true_eq, decide_eq_true_eq]; omega]
    exact q
  · have h : ¬ absI a < 1000000000000000000 := h
    rw [decide_eq_false h, Bool.false_and] at q
    exact q
noncomputable def sp_truth96 : Sp := fun vs H Q _ => ∃ b : Bool, vs = [.bl b, .bl b] ∧ Q (.bl true) H
theorem ok_l_truth (T : Txt K mg t) : FnOk P w K mg base CX0 1 t.f_l_truth t.d_l_truth ["_law_found", "_law_due"] (sp_truth96) := by
  refine T.F_l_truth.ok sc_l_truth (fun vs H Q E h => ?_) (fun cdv A outer s H vs Q E hr h => ?_)
  · obtain ⟨b, rfl, _⟩ := h
    rfl
  obtain ⟨b, rfl, q⟩ := h
  refine ⟨_, (pss_one (ps_ret (pe_and (pe_isi isi_bool rfl rfl T.z_isinstance T.z_bool bt_bool (pv 0)) (pe_one (pe_cmpR op_eq (pv 0) (pv 1) (nomark _)))))), z_go (σ := [some _, some _]) rfl ?_⟩
  walk_at "run"
  rw [decide_eq_true rfl]
  exact q
noncomputable def sp_numA (K : PySem.W.Frag) (C : Addr) : Sp := fun vs H Q E => ∃ v u x y, vs = [v, u] ∧ Rp K H v x ∧ Rp K H u y ∧ PvB x ∧ PvB y ∧ (∀ a b, x = .int a → y = .int b → b ≠ 0 → NewQ K H Q 240 (My.qv a b)) ∧ ((∀ a b, x = .int a → y = .int b → b = 0) → E (.ref C) none H)
theorem okR_number (T : Txt K mg t) : FnOk P w K mg base (CXe P w) 2 t.f_number t.d_number ["top", "bottom"] (sp_numA K t.c_NoNumber) := by
  have G_is_whole := ok_is_whole (P := P) (w := w) (base := base) T
  have G_divisor_of := ok_divisor_of (P := P) (w := w) (base := base) T
  refine T.F_number.okE sc_number (fun vs H Q E h => ?_) (fun cdv A outer s H vs Q E hr h => ?_)
  · obtain ⟨v, u, x, y, rfl, _⟩ := h
    rfl
  obtain ⟨v, u, x, y, rfl, hx, hy, bx, by_, q, qe⟩ := h
  by_cases hi : ∃ tp m, x = .int tp ∧ y = .int m
  · obtain ⟨tp, m, rfl, rfl⟩ := hi
    cases hx
    cases hy
    have bt := bx _ rfl
    have bm := by_ _ rfl
    have hn : 240 ≤ 3900 := by decide
    have hE : m = 0 → E (.ref t.c_NoNumber) none H := fun z => qe fun a b _ e => by cases e; exact z
    have hQ : m ≠ 0 → NewQ K H Q 240 (My.qv tp m) := fun z => q _ _ rfl rfl z
    refine ⟨_, (pss_cons (ps_if (PW.pt (pw_or (pt_not (pt_val (pe_call G_is_whole (hr.mono (by decide)) rfl T.m_is_whole T.k_is_whole T.b_is_whole .nil pass0 (pa_cons (pv 0) pa_nil)))) (pw_or1 (pt_not (pt_val (pe_call G_is_whole (hr.mono (by decide)) rfl T.m_is_whole T.k_is_whole T.b_is_whole .nil pass0 (pa_cons (pv 1) pa_nil))))))) (pss_one (ps_raise rfl T.x_NoNumber T.n_NoNumber T.m_NoNumber rfl raisesE (pa_cons pe_str pa_nil))) pss_nil)
  (pss_cons (ps_if (pt_cmpR op_eq (pv 1) pe_int (nomark _)) (pss_one (ps_raise rfl T.x_NoNumber T.n_NoNumber T.m_NoNumber rfl raisesE (pa_cons pe_str pa_nil))) pss_nil)
  (pss_cons (ps_set (i := 2) sc_number.nd rfl (Or.inl rfl) (pe_call G_divisor_of (hr.mono (by decide)) rfl T.m_divisor_of T.k_divisor_of T.b_divisor_of .nil pass0 (pa_cons (pv 0) (pa_cons (pv 1) pa_nil))))
  (pss_cons (ps_if (pt_cmpR op_lt (pv 1) pe_int (nomark _)) (pss_one (ps_set (i := 2) sc_number.nd rfl (Or.inl rfl) (pe_un un_neg (pv 2)))) pss_nil)
  (pss_one (ps_ret (pe_tup (pa_cons (pe_op op_fdivNB (pv 0) (pv 2)) (pa_cons (pe_op op_fdivNB (pv 1) (pv 2)) pa_nil))))))))), ?_⟩
    refine ⟨_, rfl, _, .int, rfl, True.intro, _, rfl, ?_⟩
    refine iteF ?_
    refine ⟨_, rfl, _, .int, rfl, True.intro, _, rfl, ?_⟩
    refine iteF ?_
    refine ⟨_, rfl, rfl, _, rfl, ?_⟩
    by_cases h0 : m = 0
    · subst h0
      refine iteDT rfl ?_
      exact ⟨(by show 1 ≤ sizeLine; decide), hE rfl⟩
    have hQ := hQ h0
    refine iteDF (fun z => h0 (V.int.inj z)) ?_
    have M := My.made_of (t := tp) h0
    refine ⟨_, rfl, _, rfl, _, _, rfl, ?_⟩
    refine ⟨_, rfl, _, _, rfl, rfl, _, rfl, ?_⟩
    have hg : 0 < Int.gcd tp m := Int.gcd_pos_of_ne_zero_right tp h0
    have hm : Mid ((Int.gcd tp m : Nat) : Int) := (My.Bd.of_natAbs (x := ((Int.gcd tp m : Nat) : Int)) (y := m) (by
      rw [Int.natAbs_natCast]
      exact Nat.le_of_dvd (by omega) (Nat.gcd_dvd_right tp.natAbs m.natAbs)) bm).mono (by omega)
    by_cases hneg : m < 0
    · refine iteDT hneg ?_
      have e : My.sg tp m = -((Int.gcd tp m : Nat) : Int) := if_pos hneg
      refine ⟨_, rfl, _, rfl, ?_⟩
      refine ⟨_, rfl, _, rfl, _, _, rfl, rfl, ⟨by omega, hm.neg⟩, _, rfl, _, rfl, _, _, rfl, rfl, ⟨by omega, hm.neg⟩, (by show 2 ≤ sizeLine; decide), fun p hp => ?_⟩
      exact hQ p _ _ _ (Same.new hp _) ⟨SqT.of (by rw [e]; exact upd_same), M.pos, My.Bd.of_natAbs M.ba bt, My.Bd.of_natAbs M.bb bm⟩ M.low (My.qv_eq (Int.ne_of_gt M.pos) h0 M.same)
    · refine iteDF hneg ?_
      have e : My.sg tp m = ((Int.gcd tp m : Nat) : Int) := if_neg hneg
      refine ⟨_, rfl, _, rfl, _, _, rfl, rfl, ⟨by omega, hm⟩, _, rfl, _, rfl, _, _, rfl, rfl, ⟨by omega, hm⟩, (by show 2 ≤ sizeLine; decide), fun p hp => ?_⟩
      exact hQ p _ _ _ (Same.new hp _) ⟨SqT.of (by rw [e]; exact upd_same), M.pos, My.Bd.of_natAbs M.ba bt, My.Bd.of_natAbs M.bb bm⟩ M.low (My.qv_eq (Int.ne_of_gt M.pos) h0 M.same)
  have qx := qe fun a b e1 e2 => absurd ⟨a, b, e1, e2⟩ hi
  clear qe
  refine ⟨_, (pss_cons (ps_if (PW.pt (pw_or (pt_not (pt_val (pe_call G_is_whole (hr.mono (by decide)) rfl T.m_is_whole T.k_is_whole T.b_is_whole .nil pass0 (pa_cons (pv 0) pa_nil)))) (pw_or1 (pt_not (pt_val (pe_call G_is_whole (hr.mono (by decide)) rfl T.m_is_whole T.k_is_whole T.b_is_whole .nil pass0 (pa_cons (pv 1) pa_nil))))))) (pss_one (ps_raise rfl T.x_NoNumber T.n_NoNumber T.m_NoNumber rfl raisesE (pa_cons pe_str pa_nil))) pss_nil)
  (pss_cons (ps_if (pt_cmpR op_eq (pv 1) pe_int (nomark _)) (pss_one (ps_raise rfl T.x_NoNumber T.n_NoNumber T.m_NoNumber rfl raisesE (pa_cons pe_str pa_nil))) pss_nil)
  (pss_cons (ps_set (i := 2) sc_number.nd rfl (Or.inl rfl) (pe_call G_divisor_of (hr.mono (by decide)) rfl T.m_divisor_of T.k_divisor_of T.b_divisor_of .nil pass0 (pa_cons (pv 0) (pa_cons (pv 1) pa_nil))))
  (pss_cons (ps_if (pt_cmpR op_lt (pv 1) pe_int (nomark _)) (pss_one (ps_set (i := 2) sc_number.nd rfl (Or.inl rfl) (pe_un un_neg (pv 2)))) pss_nil)
  (pss_one (ps_ret (pe_tup (pa_cons (pe_op op_fdivNB (pv 0) (pv 2)) (pa_cons (pe_op op_fdivNB (pv 1) (pv 2)) pa_nil))))))))), z_go (σ := [some _, some _, none]) rfl ?_⟩
  walk_at "run"
  refine a_wholeP hx ?_
  walk_at "run"
  cases x with
  | int a =>
    refine iteT ?_
    walk_at "run"
    refine a_wholeP hy ?_
    walk_at "run"
    cases y with
    | int b => exact absurd ⟨a, b, rfl, rfl⟩ hi
    | _ =>
      refine iteF ?_
      walk_at "run"
      exact ⟨by show 1 ≤ sizeLine; decide, qx⟩
  | _ =>
    refine iteF ?_
    walk_at "run"
    exact ⟨by show 1 ≤ sizeLine; decide, qx⟩
noncomputable def sp_readN (K : PySem.W.Frag) (C : Addr) (more : List V) : Sp := fun vs H Q E => ∃ v x, vs = v :: more ∧ Rp K H v x ∧ x.isS = false ∧ E (.ref C) none H
theorem ok_read_figures (T : Txt K mg t) : FnOk P w K mg base (CXe P w) 3 t.f_read_figures t.d_read_figures ["text", "most"] (sp_readN K t.c_NoNumber [.int 60]) := by
  refine T.F_read_figures.toD.okE sc_read_figures (fun vs H Q E h => ?_) (fun cdv A outer s H vs Q E hr h => ?_)
  · obtain ⟨v, x, rfl, _⟩ := h
    rfl
  obtain ⟨v, x, rfl, hx, ns, qe⟩ := h
  refine ⟨_, (pss_cons (ps_if (pt_not (pt_val (pe_isi isi_str rfl rfl T.z_isinstance T.z_str bt_str (pv 0)))) (pss_one (ps_raise rfl T.x_NoNumber T.n_NoNumber T.m_NoNumber rfl raisesE (pa_cons pe_str pa_nil))) pss_nil)
  (pss_cons ps_never
  (pss_cons ps_never
  (pss_cons ps_never
  (pss_cons ps_never
  (pss_cons ps_never
  (pss_one ps_never))))))), z_go (σ := [some _, some _, none, none, none]) rfl ?_⟩
  walk_at "run"
  obtain ⟨g, hg, hS, _⟩ := hx.tag
  refine ⟨_, g, rfl, hg, ?_⟩
  rw [hS, ns]
  walk_at "run"
  exact ⟨by show 1 ≤ sizeLine; decide, qe⟩
theorem ok_read_number (T : Txt K mg t) : FnOk P w K mg base (CXe P w) 4 t.f_read_number t.d_read_number ["text"] (sp_readN K t.c_NoNumber []) := by
  have G_read_figures := ok_read_figures (P := P) (w := w) (base := base) T
  refine T.F_read_number.toD.okE sc_read_number (fun vs H Q E h => ?_) (fun cdv A outer s H vs Q E hr h => ?_)
  · obtain ⟨v, x, rfl, _⟩ := h
    rfl
  obtain ⟨v, x, rfl, hx, ns, qe⟩ := h
  refine ⟨_, (pss_one (ps_ret (pe_call G_read_figures (hr.mono (by decide)) rfl T.m_read_figures T.k_read_figures T.b_read_figures .nil passes_on (pa_cons (pv 0) (pa_cons (pe_glob (v := .int 60) rfl T.g_MOST_FIGURES ⟨_, rfl⟩) pa_nil))))), z_go (σ := [some _]) rfl ?_⟩
  walk_at "run"
  exact ⟨v, x, rfl, hx, ns, qe⟩
theorem ra_tup {K : PySem.W.Frag} {H : Hp} {p : Addr} {vs : List V} (h : SqT K H p vs) : RxA K H (.ref p) := ⟨.oth, .tup, ⟨vs, h⟩, nofun⟩
local macro_rules | `(tactic| walk_at "ra") => `(tactic| first | with_reducible (first | exact ra_int | exact ra_str | exact ra_bl | exact ra_non) | ((with_reducible apply ra_tup); (walk_at "tpr")))
noncomputable def sp_thing (K : PySem.W.Frag) : Sp := fun vs H Q _ => ∃ k tp bt : Int, vs = [.int k, .int tp, .int bt] ∧ 0 ≤ k ∧ k < 21 ∧ (-1000000000000000000000000000000000000000000000000000000000000 < tp ∧ tp < 1000000000000000000000000000000000000000000000000000000000000) ∧ ∀ v x H', Same H H' → Rp K H' v x → PvB x → Q v H'
theorem bd60f {i : Int} (h : -1000000000000000000000000000000000000000000000000000000000000 < i ∧ i < 1000000000000000000000000000000000000000000000000000000000000) : My.Bd 240 i := by unfold My.Bd; omega
theorem q_thing {K : PySem.W.Frag} {H H' : Hp} {Q : VK} {v : V} (q : ∀ v x H', Same H H' → Rp K H' v x → PvB x → Q v H') (s : Same H H') (h : Rx K H' v ∧ ∀ i, v = .int i → My.Bd 240 i) : Q v H' := by
  obtain ⟨⟨x, hx⟩, hb⟩ := h
  exact q v x H' s hx fun i e => by subst e; exact hb i hx
theorem all_and {P R : V → Prop} {xs : List V} (h : ∀ v ∈ xs, P v) (g : ∀ v ∈ xs, R v) : ∀ v ∈ xs, P v ∧ R v := fun v hv => ⟨h v hv, g v hv⟩
theorem bi_ref {p : Addr} : ∀ i, V.ref p = .int i → My.Bd 240 i := fun _ e => by cases e
theorem bi_bl {p : Bool} : ∀ i, V.bl p = .int i → My.Bd 240 i := fun _ e => by cases e
theorem bi_non : ∀ i, V.non = .int i → My.Bd 240 i := fun _ e => by cases e
theorem bi_str {z : Str} : ∀ i, V.str z = .int i → My.Bd 240 i := fun _ e => by cases e
theorem bi_int {n : Int} (h : My.Bd 240 n) : ∀ i, V.int n = .int i → My.Bd 240 i := fun _ e => by cases e; exact h
local macro_rules | `(tactic| walk_at "bis") => `(tactic| first | (with_reducible exact all_nil) | ((apply all_cons); (focus (first | exact bi_ref | exact bi_bl | exact bi_non | exact bi_str | exact bi_int (by assumption))); (walk_at "bis")))
theorem str60 {x : Int} (h : -1000000000000000000000000000000000000000000000000000000000000 < x ∧ x < 1000000000000000000000000000000000000000000000000000000000000) : (Str.ofString (toString x)).length ≤ 100 := by
  rw [← My.cs_len, My.cs_str]
  exact Nat.le_trans (My.txt_len (by
    have e : (10 : Nat) ^ 60 = 1000000000000000000000000000000000000000000000000000000000000 := by decide
    rw [e]; omega)) (by decide)
theorem log60i {n : Int} (h : -1000000000000000000000000000000000000000000000000000000000000 < n ∧ n < 1000000000000000000000000000000000000000000000000000000000000) : n.natAbs.log2 < 1920 := My.log60 (by
  have e : (10 : Nat) ^ 60 = 1000000000000000000000000000000000000000000000000000000000000 := by decide
  rw [e]; omega)
theorem abs60 {n : Int} (h : -1000000000000000000000000000000000000000000000000000000000000 < n ∧ n < 1000000000000000000000000000000000000000000000000000000000000) : -1000000000000000000000000000000000000000000000000000000000000 < (if n < 0 then -n else n) ∧ (if n < 0 then -n else n) < 1000000000000000000000000000000000000000000000000000000000000 := by
  split <;> omega
theorem ok_l_thing (T : Txt K mg t) : FnOk P w K mg base CX0 1 t.f_l_thing t.d_l_thing ["_law_kind", "_law_top", "_law_bottom"] (sp_thing K) := by
  refine T.F_l_thing.ok sc_l_thing (fun vs H Q E h => ?_) (fun cdv A outer s H vs Q E hr h => ?_)
  · obtain ⟨k, tp, bt, rfl, _⟩ := h
    rfl
  obtain ⟨k, tp, bt, rfl, k0, k1, htp, q⟩ := h
  have btp := bd60f htp
  have l1 := log60i htp
  have l2 := log60i (abs60 htp)
  have l3 := str60 htp
  have l4 := str60 (abs60 htp)
  refine' ⟨_, ?h, ?g⟩
  case h =>
   refine' pss_cons ?x1_0 ?x1_1
   case x1_0 => exact (ps_if (pt_cmpR op_lt (pv 0) pe_int (nomark _)) (pss_one (ps_ret (pe_ix ix_list (pe_lst (pa_cons (pv 1) (pa_cons (pe_cmpR op_eq (pe_op op_mod (pv 1) pe_int) pe_int (nomark _)) (pa_cons pe_non (pa_cons (pe_callTy call_str_int rfl T.z_str bt_str (pa_cons (pe_callB call_abs rfl T.z_abs bt_abs (pa_cons (pv 1) pa_nil)) pa_nil)) pa_nil))))) (pv 0) (fun _ _ => rfl)))) pss_nil)
   case x1_1 =>
    refine' pss_cons ?x2_0 ?x2_1
    case x2_0 => exact (ps_if (pt_cmpR op_lt (pv 0) pe_int (nomark _)) (pss_one (ps_ret (pe_ix ix_list (pe_lst (pa_cons (pe_lst (pa_cons (pv 1) (pa_cons pe_int pa_nil))) (pa_cons (pe_lst pa_nil) (pa_cons pe_dnewK (pa_cons (pe_tup pa_nil) pa_nil))))) (pe_op op_sub (pv 0) pe_int) (fun _ _ => rfl)))) pss_nil)
    case x2_1 =>
     refine' pss_cons ?x3_0 ?x3_1
     case x3_0 =>
      refine' ps_if ?x4_0 ?x4_1 ?x4_2
      case x4_0 => exact (pt_cmpR op_lt (pv 0) pe_int (nomark _))
      case x4_1 =>
       refine' pss_one ?x5_0
       case x5_0 =>
        refine' ps_ret ?x6_0
        case x6_0 =>
         refine' pe_ix ?x7_0 ?x7_1 ?x7_2 ?x7_3
         case x7_0 => exact ix_list
         case x7_1 =>
          refine' pe_lst ?x8_0
          case x8_0 =>
           refine' pa_cons ?x9_0 ?x9_1
           case x9_0 => exact (pe_tup (pa_cons (pv 1) pa_nil))
           case x9_1 =>
            refine' pa_cons ?x10_0 ?x10_1
            case x10_0 => exact (pe_tup (pa_cons (pv 1) (pa_cons pe_int (pa_cons pe_int pa_nil))))
            case x10_1 =>
             refine' pa_cons ?x11_0 ?x11_1
             case x11_0 => exact (pe_tup (pa_cons (pv 1) (pa_cons pe_bl pa_nil)))
             case x11_1 =>
              refine' pa_cons ?x12_0 ?x12_1
              case x12_0 => exact (pe_tup (pa_cons pe_bl (pa_cons pe_int pa_nil)))
              case x12_1 =>
               refine' pa_cons ?x13_0 ?x13_1
               case x13_0 => exact (pe_tup (pa_cons (pe_callTy call_str_int rfl T.z_str bt_str (pa_cons (pv 1) pa_nil)) (pa_cons pe_int pa_nil)))
               case x13_1 =>
                refine' pa_cons ?x14_0 ?x14_1
                case x14_0 => exact (pe_tup (pa_cons (pe_tup (pa_cons (pv 1) (pa_cons pe_int pa_nil))) (pa_cons pe_int pa_nil)))
                case x14_1 => exact pa_nil
         case x7_2 => exact (pe_op op_sub (pv 0) pe_int)
         case x7_3 => exact (fun _ _ => rfl)
      case x4_2 => exact pss_nil
     case x3_1 =>
      refine' pss_cons ?x15_0 ?x15_1
      case x15_0 => exact (ps_if (pt_cmpR op_lt (pv 0) pe_int (nomark _)) (pss_one (ps_ret (pe_ix ix_list (pe_lst (pa_cons (pe_tup (pa_cons pe_non (pa_cons pe_int pa_nil))) (pa_cons (pe_tup (pa_cons (pe_op op_mulB pe_int (pv 1)) (pa_cons pe_int pa_nil))) (pa_cons (pe_tup (pa_cons (pv 1) (pa_cons (pv 2) pa_nil))) (pa_cons (pe_tup (pa_cons (pe_op op_add (pe_op op_mulB pe_int (pv 1)) pe_int) (pa_cons pe_int pa_nil))) pa_nil))))) (pe_op op_sub (pv 0) pe_int) (fun _ _ => rfl)))) pss_nil)
      case x15_1 => exact (pss_one (ps_ret (pe_ix ix_list (pe_lst (pa_cons (pe_tup (pa_cons (pv 1) (pa_cons pe_non pa_nil))) (pa_cons (pe_tup (pa_cons (pv 1) (pa_cons (pe_callTy call_str_int rfl T.z_str bt_str (pa_cons (pe_callB call_abs rfl T.z_abs bt_abs (pa_cons (pv 1) pa_nil)) pa_nil)) pa_nil))) (pa_cons (pe_tup (pa_cons (pv 1) (pa_cons (pe_tup (pa_cons pe_int (pa_cons pe_int pa_nil))) pa_nil))) pa_nil)))) (pe_op op_sub (pv 0) pe_int) (fun _ _ => rfl))))
  refine z_go (σ := [some _, some _, some _]) rfl ?_
  walk_at "run"
  refine z_iteD (fun h1 => ?_) (fun h1 => ?_)
  · walk_at "run"
    rename_i p1 H1 n1 s1 e1
    have T1 : Same H1 H1 := Same.refl _
    have T0 : Same H H1 := s1.trans T1
    clear  s1 T1 n1
    refine z_ixAny (fun v => Rx K H1 v ∧ ∀ i, v = .int i → My.Bd 240 i) (SqL.of e1) (by omega) (by simp only [List.length_cons, List.length_nil]; omega) (all_and ?_ ?_) (fun v hv => q_thing q T0 hv)
    · walk_at "rxs"
    · walk_at "bis"
  walk_at "run"
  refine z_iteD (fun h2 => ?_) (fun h2 => ?_)
  · walk_at "run"
    rename_i p1 H1 n1 s1 e1 p2 H2 n2 s2 e2 p3 H3 n3 s3 e3 p4 H4 n4 s4 e4 p5 H5 n5 s5 e5
    have T5 : Same H5 H5 := Same.refl _
    have T4 := s5.trans T5
    have f4 := T4 _ _ e4
    have T3 := s4.trans T4
    have f3 := T3 _ _ e3
    have T2 := s3.trans T3
    have f2 := T2 _ _ e2
    have T1 := s2.trans T2
    have f1 := T1 _ _ e1
    have T0 : Same H H5 := s1.trans T1
    clear e1 s1 T1 e2 s2 T2 e3 s3 T3 e4 s4 T4 s5 T5 n5 n4 n3 n2 n1
    refine z_ixAny (fun v => Rx K H5 v ∧ ∀ i, v = .int i → My.Bd 240 i) (SqL.of e5) (by omega) (by simp only [List.length_cons, List.length_nil]; omega) (all_and ?_ ?_) (fun v hv => q_thing q T0 hv)
    · walk_at "rxs"
    · walk_at "bis"
  walk_at "run"
  refine z_iteD (fun h3 => ?_) (fun h3 => ?_)
  · walk_at "run"
    rename_i p1 H1 n1 s1 e1 p2 H2 n2 s2 e2 p3 H3 n3 s3 e3 p4 H4 n4 s4 e4 p5 H5 n5 s5 e5 p6 H6 n6 s6 e6 p7 H7 n7 s7 e7 p8 H8 n8 s8 e8
    have T8 : Same H8 H8 := Same.refl _
    have T7 := s8.trans T8
    have f7 := T7 _ _ e7
    have T6 := s7.trans T7
    have f6 := T6 _ _ e6
    have T5 := s6.trans T6
    have f5 := T5 _ _ e5
    have T4 := s5.trans T5
    have f4 := T4 _ _ e4
    have T3 := s4.trans T4
    have f3 := T3 _ _ e3
    have T2 := s3.trans T3
    have f2 := T2 _ _ e2
    have T1 := s2.trans T2
    have f1 := T1 _ _ e1
    have T0 : Same H H8 := s1.trans T1
    clear e1 s1 T1 e2 s2 T2 e3 s3 T3 e4 s4 T4 e5 s5 T5 e6 s6 T6 e7 s7 T7 s8 T8 n8 n7 n6 n5 n4 n3 n2 n1
    refine z_ixAny (fun v => Rx K H8 v ∧ ∀ i, v = .int i → My.Bd 240 i) (SqL.of e8) (by omega) (by simp only [List.length_cons, List.length_nil]; omega) (all_and ?_ ?_) (fun v hv => q_thing q T0 hv)
    · walk_at "rxs"
    · walk_at "bis"
  walk_at "run"
  refine z_iteD (fun h4 => ?_) (fun h4 => ?_)
  · walk_at "run"
    rename_i p1 H1 n1 s1 e1 p2 H2 n2 s2 e2 p3 H3 n3 s3 e3 p4 H4 n4 s4 e4 p5 H5 n5 s5 e5
    have T5 : Same H5 H5 := Same.refl _
    have T4 := s5.trans T5
    have f4 := T4 _ _ e4
    have T3 := s4.trans T4
    have f3 := T3 _ _ e3
    have T2 := s3.trans T3
    have f2 := T2 _ _ e2
    have T1 := s2.trans T2
    have f1 := T1 _ _ e1
    have T0 : Same H H5 := s1.trans T1
    clear e1 s1 T1 e2 s2 T2 e3 s3 T3 e4 s4 T4 s5 T5 n5 n4 n3 n2 n1
    refine z_ixAny (fun v => Rx K H5 v ∧ ∀ i, v = .int i → My.Bd 240 i) (SqL.of e5) (by omega) (by simp only [List.length_cons, List.length_nil]; omega) (all_and ?_ ?_) (fun v hv => q_thing q T0 hv)
    · walk_at "rxs"
    · walk_at "bis"
  walk_at "run"
  rename_i p1 H1 n1 s1 e1 p2 H2 n2 s2 e2 p3 H3 n3 s3 e3 p4 H4 n4 s4 e4 p5 H5 n5 s5 e5
  have T5 : Same H5 H5 := Same.refl _
  have T4 := s5.trans T5
  have f4 := T4 _ _ e4
  have T3 := s4.trans T4
  have f3 := T3 _ _ e3
  have T2 := s3.trans T3
  have f2 := T2 _ _ e2
  have T1 := s2.trans T2
  have f1 := T1 _ _ e1
  have T0 : Same H H5 := s1.trans T1
  clear e1 s1 T1 e2 s2 T2 e3 s3 T3 e4 s4 T4 s5 T5 n5 n4 n3 n2 n1
  refine z_ixAny (fun v => Rx K H5 v ∧ ∀ i, v = .int i → My.Bd 240 i) (SqL.of e5) (by omega) (by simp only [List.length_cons, List.length_nil]; omega) (all_and ?_ ?_) (fun v hv => q_thing q T0 hv)
  · walk_at "rxs"
  · walk_at "bis"
theorem z_tryE {i j : Nat} {sp : Sp} {dvs : List V} {C : Addr} {tA : TA} {ts : Addr → TS} {σ : St} {H : Hp} {D : Ends} (h : tA σ H fun vs H1 => sp (vs ++ dvs) H1 (fun v H2 => D.nx (σ.set i (some v)) H2) fun cls _ H2 => cls = .ref C ∧ ∀ a, H2 a = none → ts a (goneD j D) (σ.set j (some (.ref a))) (upd H2 a (ExcO a C))) : tTryE i j sp dvs C tA ts D σ H := h
theorem z_tryX {j : Nat} {sp : Sp} {dvs : List V} {C : Addr} {tA : TA} {ts : Addr → TS} {σ : St} {H : Hp} {D : Ends} (h : tA σ H fun vs H1 => sp (vs ++ dvs) H1 (fun _ H2 => D.nx σ H2) fun cls _ H2 => cls = .ref C ∧ ∀ a, H2 a = none → ts a (goneD j D) (σ.set j (some (.ref a))) (upd H2 a (ExcO a C))) : tTryX j sp dvs C tA ts D σ H := h
noncomputable def sp_made (K : PySem.W.Frag) : Sp := fun vs H Q _ => ∃ v u x y, vs = [v, u] ∧ Rp K H v x ∧ Rp K H u y ∧ PvB x ∧ PvB y ∧ ∀ H', Same H H' → Q (.bl true) H'
theorem ok_l_made (T : Txt K mg t) : FnOk P w K mg base CX0 3 t.f_l_made t.d_l_made ["_law_top", "_law_bottom"] (sp_made K) := by
  have G_l_whole := ok_l_whole (P := P) (w := w) (base := base) T
  have G_l_number := ok_l_number (P := P) (w := w) (base := base) T
  have G_l_kinds := okH_l_kinds (P := P) (w := w) (base := base) T
  have G_number := okR_number (P := P) (w := w) (base := base) T
  refine T.F_l_made.ok sc_l_made (fun vs H Q E h => ?_) (fun cdv A outer s H vs Q E hr h => ?_)
  · obtain ⟨v, u, x, y, rfl, _⟩ := h
    rfl
  obtain ⟨v, u, x, y, rfl, hx, hy, bx, by_, q⟩ := h
  refine ⟨_, (pss_cons (ps_set (i := 2) sc_l_made.nd rfl (Or.inl rfl) pe_non)
  (pss_cons (ps_set (i := 3) sc_l_made.nd rfl (Or.inl rfl) pe_int)
  (pss_cons (ps_tryE (T := t.c_NoNumber) (C := t.c_NoNumber) (i := 2) (j := 4) G_number (hr.mono (by decide)) rfl T.m_number T.k_number T.b_number .nil (fun _ _ z => z) rfl rfl (pa_cons (pv 0) (pa_cons (pv 1) pa_nil)) sc_l_made.nd rfl (Or.inl rfl) rfl rfl rfl ⟨rfl, T.m_NoNumber, T.e_NoNumber, by decide⟩ rfl (fun a => (pss_one (ps_set (i := 3) sc_l_made.nd rfl (Or.inl rfl) (pe_callH a G_l_kinds (hr.mono (by decide)) rfl T.m_l_kinds T.k_l_kinds T.b_l_kinds (pa_cons (pv 4) pa_nil))))))
  (pss_cons (ps_if (PW.pt (pw_or (pt_not (pt_val (pe_call G_l_whole (hr.mono (by decide)) rfl T.m_l_whole T.k_l_whole T.b_l_whole .nil pass0 (pa_cons (pv 0) pa_nil)))) (pw_or (pt_not (pt_val (pe_call G_l_whole (hr.mono (by decide)) rfl T.m_l_whole T.k_l_whole T.b_l_whole .nil pass0 (pa_cons (pv 1) pa_nil)))) (pw_or1 (pt_cmpR op_eq (pv 1) pe_int (nomark _)))))) (pss_one (ps_ret (pe_cmpR op_eq (pv 3) pe_int (nomark _)))) pss_nil)
  (pss_one (ps_ret (pe_and (pe_cmpR op_eq (pv 3) pe_int (nomark _)) (pe_and (pe_call G_l_number (hr.mono (by decide)) rfl T.m_l_number T.k_l_number T.b_l_number .nil pass0 (pa_cons (pv 2) pa_nil)) (pe_one (pe_cmpR op_eq (pe_op op_mulB (pe_ix ix_tup (pv 2) pe_int (fun _ _ => rfl)) (pv 1)) (pe_op op_mulB (pv 0) (pe_ix ix_tup (pv 2) pe_int (fun _ _ => rfl))) (nomark _))))))))))), z_go (σ := [some _, some _, none, none, none]) rfl ?_⟩
  walk_at "run"
  refine z_tryE ?_
  walk_at "run"
  refine ⟨v, u, x, y, rfl, hx, hy, bx, by_, fun a b e1 e2 hb p H1 x' y' s1 hp g e => ?_, fun hno => ⟨rfl, fun ax hax => ?_⟩⟩
  · subst e1 e2
    cases hx
    cases hy
    simp only [List.set_cons_succ, List.set_cons_zero]
    have hs := hp.s
    have ba := bx _ rfl
    have bb := by_ _ rfl
    walk_at "run"
    refine ⟨_, .int, rfl, True.intro, ?_⟩
    walk_at "run"
    refine ⟨_, .int, rfl, True.intro, ?_⟩
    walk_at "run"
    refine z_iteD (fun h => absurd h hb) (fun _ => ?_)
    walk_at "run"
    refine z_iteD (fun _ => ?_) (fun h => absurd rfl h)
    walk_at "run"
    refine ⟨.ref p, .tup [.int x', .int y'], rfl, ⟨p, _, rfl, hs, rfl, rfl, True.intro⟩, ?_⟩
    have hy' := hp.pos
    have e2 : isNum (.tup [.int x', .int y']) = true := by
      show (decide (1 ≤ y') && decide (Int.gcd x' y' = 1)) = true
      rw [decide_eq_true (show 1 ≤ y' by omega), decide_eq_true g]; rfl
    rw [e2]
    walk_at "run"
    rw [decide_eq_true (My.eq_of_qv (Int.ne_of_gt hy') hb e)]
    exact q _ s1
  · simp only [List.set_cons_succ, List.set_cons_zero]
    have s6 : Same H (upd H ax (ExcO ax t.c_NoNumber)) := Same.new hax _
    have h6 : (upd H ax (ExcO ax t.c_NoNumber)) ax = some (ExcO ax t.c_NoNumber) := upd_same
    generalize upd H ax (ExcO ax t.c_NoNumber) = H6 at *
    unfold goneD
    walk_at "run"
    refine ⟨ax, _, rfl, h6, nine_NoNumber T, ?_⟩
    walk_at "run"
    have hx6 := hx.same s6
    have hy6 := hy.same s6
    refine a_wholeP hx6 ?_
    walk_at "run"
    by_cases hxi : x.isI = true
    · rw [hxi]
      refine iteT ?_
      walk_at "run"
      refine a_wholeP hy6 ?_
      walk_at "run"
      by_cases hyi : y.isI = true
      · rw [hyi]
        refine iteT ?_
        obtain ⟨a, rfl⟩ : ∃ a, x = .int a := by
          cases x with
          | int a => exact ⟨a, rfl⟩
          | _ => cases hxi
        obtain ⟨b, rfl⟩ : ∃ b, y = .int b := by
          cases y with
          | int b => exact ⟨b, rfl⟩
          | _ => cases hyi
        cases hx
        cases hy
        have h0 := hno a b rfl rfl
        subst h0
        walk_at "run"
        refine z_iteD (fun _ => ?_) (fun h => absurd rfl h)
        walk_at "run"
        exact q _ s6
      · have hyi : y.isI = false := by simpa using hyi
        rw [hyi]
        refine iteF ?_
        walk_at "run"
        exact q _ s6
    · have hxi : x.isI = false := by simpa using hxi
      rw [hxi]
      refine iteF ?_
      walk_at "run"
      exact q _ s6
noncomputable def sp_notext (K : PySem.W.Frag) : Sp := fun vs H Q _ => ∃ v x, vs = [v] ∧ Rp K H v x ∧ x.isS = false ∧ ∀ H', Same H H' → Q (.bl true) H'
theorem ok_l_no_text (T : Txt K mg t) : FnOk P w K mg base CX0 5 t.f_l_no_text t.d_l_no_text ["_law_thing_here"] (sp_notext K) := by
  have G_l_kinds := okH_l_kinds (P := P) (w := w) (base := base) T
  have G_read_number := ok_read_number (P := P) (w := w) (base := base) T
  refine T.F_l_no_text.ok sc_l_no_text (fun vs H Q E h => ?_) (fun cdv A outer s H vs Q E hr h => ?_)
  · obtain ⟨v, x, rfl, _⟩ := h
    rfl
  obtain ⟨v, x, rfl, hx, ns, q⟩ := h
  refine ⟨_, (pss_cons (ps_set (i := 1) sc_l_no_text.nd rfl (Or.inl rfl) pe_int)
  (pss_cons (ps_tryX (T := t.c_NoNumber) (C := t.c_NoNumber) (j := 2) G_read_number (hr.mono (by decide)) rfl T.m_read_number T.k_read_number T.b_read_number .nil (fun _ _ z => z) rfl rfl (pa_cons (pv 0) pa_nil) sc_l_no_text.nd rfl rfl rfl ⟨rfl, T.m_NoNumber, T.e_NoNumber, by decide⟩ rfl (fun a => (pss_one (ps_set (i := 1) sc_l_no_text.nd rfl (Or.inl rfl) (pe_callH a G_l_kinds (hr.mono (by decide)) rfl T.m_l_kinds T.k_l_kinds T.b_l_kinds (pa_cons (pv 2) pa_nil))))))
  (pss_one (ps_ret (pe_cmpR op_eq (pv 1) pe_int (nomark _)))))), z_go (σ := [some _, none, none]) rfl ?_⟩
  walk_at "run"
  refine z_tryX ?_
  walk_at "run"
  refine ⟨v, x, rfl, hx, ns, rfl, fun ax hax => ?_⟩
  simp only [List.set_cons_succ, List.set_cons_zero]
  have s6 : Same H (upd H ax (ExcO ax t.c_NoNumber)) := Same.new hax _
  have h6 : (upd H ax (ExcO ax t.c_NoNumber)) ax = some (ExcO ax t.c_NoNumber) := upd_same
  generalize upd H ax (ExcO ax t.c_NoNumber) = H6 at *
  unfold goneD
  walk_at "run"
  refine ⟨ax, _, rfl, h6, nine_NoNumber T, ?_⟩
  walk_at "run"
  exact q _ s6
theorem z_mkE {C : Addr} {v : V} {H : Hp} {Q : VK} (q : ∀ a H', H a = none → Same H H' → H' a = some (ExcO a C) → Q (.ref a) H') : rMkE C [v] H Q := ⟨by show 1 ≤ sizeLine; decide, fun a ha => q a _ ha (Same.new ha _) upd_same⟩
theorem z_mkO {C : Addr} {f : Str} {v : V} {H : Hp} {Q : VK} (q : ∀ a H', H a = none → Same H H' → H' a = some (ExcO a C) → Q (.ref a) H') : rMkO C f [v] H Q := ⟨v, rfl, fun a dx hne ha hdx => q a _ ha ((Same.new hdx _).trans (Same.new (by rw [upd_ne (Ne.symm hne)]; exact ha) _)) upd_same⟩
theorem z_mkX {K : PySem.W.Frag} {C : Addr} {f : Str} {v : V} {H : Hp} {Q : VK} (Fx : ExcF K C) (na : NoAttr K C f) (hh : PySem.W.hasDictIn K C = true) (q : ∀ H', Same H H' → Q v H') :
    rMkX C f [v] H fun x H1 => ∃ a C dx fs v, x = .ref a ∧ (H1 a = some (ExcN a C dx) ∨ H1 a = some (ExcD a C dx)) ∧ H1 dx = some (.xd fs) ∧ (ExcF K C ∧ NoAttr K C f ∧ PySem.W.hasDictIn K C = true) ∧ fs.lookup f = some v ∧ Q v H1 :=
  ⟨v, rfl, fun a dx hne ha hdx => ⟨a, C, dx, _, v, rfl, .inl (by rw [upd_ne (Ne.symm hne), upd_same]), upd_same, ⟨Fx, na, hh⟩, by simp [List.lookup_cons], q _ ((Same.new ha _).trans (Same.new (by rw [upd_ne hne]; exact hdx) _))⟩⟩
theorem z_fldX {K : PySem.W.Frag} {ta : TE} {f : Str} {σ : St} {H : Hp} {Q : VK} (h : ta σ H fun x H1 => ∃ a C dx fs v, x = .ref a ∧ (H1 a = some (ExcN a C dx) ∨ H1 a = some (ExcD a C dx)) ∧ H1 dx = some (.xd fs) ∧ (ExcF K C ∧ NoAttr K C f ∧ PySem.W.hasDictIn K C = true) ∧ fs.lookup f = some v ∧ Q v H1) : tFldX K ta f σ H Q := h
local macro_rules | `(tactic| walk_at "sp") => `(tactic| ((with_reducible apply z_mkE); (intro p H' n s e)))
local macro_rules | `(tactic| walk_at "sp") => `(tactic| ((with_reducible apply z_mkO); (intro p H' n s e)))
local macro_rules | `(tactic| walk_at "sp") => `(tactic| (with_reducible apply z_fldX))
noncomputable def sp_refusals : Sp := fun vs H Q _ => ∃ k : Int, vs = [.int k] ∧ ∀ H', Same H H' → Q (.bl true) H'
noncomputable def Exc9 (K : PySem.W.Frag) (t : Adr) (H : Hp) (v : V) : Prop := ∃ a C, v = .ref a ∧ H a = some (ExcO a C) ∧ Nine K t C
theorem Exc9.same {K : PySem.W.Frag} {t : Adr} {H H' : Hp} {v : V} (s : Same H H') (h : Exc9 K t H v) : Exc9 K t H' v := by
  obtain ⟨a, C, rfl, h, n⟩ := h
  exact ⟨a, C, rfl, s _ _ h, n⟩
theorem ok_l_refusals (T : Txt K mg t) : FnOk P w K mg base CX0 3 t.f_l_refusals t.d_l_refusals ["_law_at"] (sp_refusals) := by
  have G_l_kinds := ok_l_kinds (P := P) (w := w) (base := base) T
  have G_ini_NoTable := oi_NoTable (P := P) (w := w) (base := base) T
  have G_ini_NoPlan := oi_NoPlan (P := P) (w := w) (base := base) T
  have G_ini_NoTelling := oi_NoTelling (P := P) (w := w) (base := base) T
  refine T.F_l_refusals.ok sc_l_refusals (fun vs H Q E h => ?_) (fun cdv A outer s H vs Q E hr h => ?_)
  · obtain ⟨k, rfl, _⟩ := h
    rfl
  obtain ⟨k, rfl, q⟩ := h
  refine' ⟨_, ?h, ?g⟩
  case h =>
   refine' pss_cons ?x1_0 ?x1_1
   case x1_0 =>
    refine' ps_for ?x2_0 ?x2_1 ?x2_2 ?x2_3 ?x2_4
    case x2_0 => exact PassesOwn.never
    case x2_1 => exact rfl
    case x2_2 =>
     refine' pi_list ?x3_0
     case x3_0 =>
      refine' pe_lst ?x4_0
      case x4_0 =>
       refine' pa_cons ?x5_0 ?x5_1
       case x5_0 => exact (pe_mkE rfl T.x_NoNumber T.n_NoNumber rfl T.m_NoNumber (pa_cons pe_str pa_nil))
       case x5_1 =>
        refine' pa_cons ?x6_0 ?x6_1
        case x6_0 => exact (pe_mkE rfl T.x_NoDay T.n_NoDay rfl T.m_NoDay (pa_cons pe_str pa_nil))
        case x6_1 =>
         refine' pa_cons ?x7_0 ?x7_1
         case x7_0 => exact (pe_mkE rfl T.x_NoSpace T.n_NoSpace rfl T.m_NoSpace (pa_cons pe_str pa_nil))
         case x7_1 =>
          refine' pa_cons ?x8_0 ?x8_1
          case x8_0 => exact (pe_mkE rfl T.x_TooMany T.n_TooMany rfl T.m_TooMany (pa_cons pe_str pa_nil))
          case x8_1 =>
           refine' pa_cons ?x9_0 ?x9_1
           case x9_0 => exact (pe_mkE rfl T.x_NoRow T.n_NoRow rfl T.m_NoRow (pa_cons pe_str pa_nil))
           case x9_1 =>
            refine' pa_cons ?x10_0 ?x10_1
            case x10_0 => exact (pe_mkE rfl T.x_NoName T.n_NoName rfl T.m_NoName (pa_cons pe_str pa_nil))
            case x10_1 => exact pa_nil
    case x2_3 => exact (pg_name (i := 1) sc_l_refusals.nd rfl (Or.inl rfl))
    case x2_4 => exact (pss_one (ps_if (pt_cmpR op_ne (pe_call G_l_kinds (hr.mono (by decide)) rfl T.m_l_kinds T.k_l_kinds T.b_l_kinds .nil pass0 (pa_cons (pv 1) pa_nil)) pe_int (nomark _)) (pss_one (ps_ret pe_bl)) pss_nil))
   case x1_1 =>
    refine' pss_cons ?x11_0 ?x11_1
    case x11_0 =>
     refine' ps_for ?x12_0 ?x12_1 ?x12_2 ?x12_3 ?x12_4
     case x12_0 => exact PassesOwn.never
     case x12_1 => exact rfl
     case x12_2 =>
      refine' pi_list ?x13_0
      case x13_0 =>
       refine' pe_lst ?x14_0
       case x14_0 =>
        refine' pa_cons ?x15_0 ?x15_1
        case x15_0 => exact (pe_mkX T.o_NoTable.ini (call_mkO T.o_NoTable G_ini_NoTable T.bi_NoTable (hr.mono (by decide))) rfl T.m_NoTable (pa_cons (pv 0) pa_nil))
        case x15_1 =>
         refine' pa_cons ?x16_0 ?x16_1
         case x16_0 => exact (pe_mkX T.o_NoTable.ini (call_mkO T.o_NoTable G_ini_NoTable T.bi_NoTable (hr.mono (by decide))) rfl T.m_NoTable (pa_cons pe_non pa_nil))
         case x16_1 =>
          refine' pa_cons ?x17_0 ?x17_1
          case x17_0 => exact (pe_mkX T.o_NoPlan.ini (call_mkO T.o_NoPlan G_ini_NoPlan T.bi_NoPlan (hr.mono (by decide))) rfl T.m_NoPlan (pa_cons (pv 0) pa_nil))
          case x17_1 =>
           refine' pa_cons ?x18_0 ?x18_1
           case x18_0 => exact (pe_mkX T.o_NoPlan.ini (call_mkO T.o_NoPlan G_ini_NoPlan T.bi_NoPlan (hr.mono (by decide))) rfl T.m_NoPlan (pa_cons pe_non pa_nil))
           case x18_1 =>
            refine' pa_cons ?x19_0 ?x19_1
            case x19_0 => exact (pe_mkX T.o_NoTelling.ini (call_mkO T.o_NoTelling G_ini_NoTelling T.bi_NoTelling (hr.mono (by decide))) rfl T.m_NoTelling (pa_cons pe_str pa_nil))
            case x19_1 =>
             refine' pa_cons ?x20_0 ?x20_1
             case x20_0 => exact (pe_mkX T.o_NoTelling.ini (call_mkO T.o_NoTelling G_ini_NoTelling T.bi_NoTelling (hr.mono (by decide))) rfl T.m_NoTelling (pa_cons pe_non pa_nil))
             case x20_1 => exact pa_nil
     case x12_3 => exact (pg_name (i := 1) sc_l_refusals.nd rfl (Or.inl rfl))
     case x12_4 => exact (pss_one (ps_if (pt_cmpR op_ne (pe_call G_l_kinds (hr.mono (by decide)) rfl T.m_l_kinds T.k_l_kinds T.b_l_kinds .nil pass0 (pa_cons (pv 1) pa_nil)) pe_int (nomark _)) (pss_one (ps_ret pe_bl)) pss_nil))
    case x11_1 =>
     refine' pss_cons ?x21_0 ?x21_1
     case x21_0 => exact (ps_if (PW.pt (pw_or (pt_cmpR op_ne (pe_fldX (pe_mkX T.o_NoTable.ini (call_mkX T.o_NoTable G_ini_NoTable T.bi_NoTable (hr.mono (by decide))) rfl T.m_NoTable (pa_cons (pv 0) pa_nil)) rfl) (pv 0) (nomark _)) (pw_or (pt_cmpR op_ne (pe_fldX (pe_mkX T.o_NoPlan.ini (call_mkX T.o_NoPlan G_ini_NoPlan T.bi_NoPlan (hr.mono (by decide))) rfl T.m_NoPlan (pa_cons (pv 0) pa_nil)) rfl) (pv 0) (nomark _)) (pw_or1 (pt_cmpR op_ne (pe_fldX (pe_mkX T.o_NoTelling.ini (call_mkX T.o_NoTelling G_ini_NoTelling T.bi_NoTelling (hr.mono (by decide))) rfl T.m_NoTelling (pa_cons pe_str pa_nil)) rfl) pe_str (nomark _)))))) (pss_one (ps_ret pe_bl)) pss_nil)
     case x21_1 => exact (pss_one (ps_ret (pe_and (pe_cmpR op_isN' (pe_fldX (pe_mkX T.o_NoTable.ini (call_mkX T.o_NoTable G_ini_NoTable T.bi_NoTable (hr.mono (by decide))) rfl T.m_NoTable (pa_cons pe_non pa_nil)) rfl) pe_non (nomark _)) (pe_and (pe_cmpR op_isN' (pe_fldX (pe_mkX T.o_NoPlan.ini (call_mkX T.o_NoPlan G_ini_NoPlan T.bi_NoPlan (hr.mono (by decide))) rfl T.m_NoPlan (pa_cons pe_non pa_nil)) rfl) pe_non (nomark _)) (pe_one (pe_cmpR op_isN' (pe_fldX (pe_mkX T.o_NoTelling.ini (call_mkX T.o_NoTelling G_ini_NoTelling T.bi_NoTelling (hr.mono (by decide))) rfl T.m_NoTelling (pa_cons pe_non pa_nil)) rfl) pe_non (nomark _)))))))
  refine z_go (σ := [some _, none]) rfl ?_
  walk_at "run"
  rename_i p1 H1 n1 s1 e1 p2 H2 n2 s2 e2 p3 H3 n3 s3 e3 p4 H4 n4 s4 e4 p5 H5 n5 s5 e5 p6 H6 n6 s6 e6 p7 H7 n7 s7 e7
  have T7 : Same H7 H7 := Same.refl _
  have T6 := s7.trans T7
  have f6 := T6 _ _ e6
  have T5 := s6.trans T6
  have f5 := T5 _ _ e5
  have T4 := s5.trans T5
  have f4 := T4 _ _ e4
  have T3 := s4.trans T4
  have f3 := T3 _ _ e3
  have T2 := s3.trans T3
  have f2 := T2 _ _ e2
  have T1 := s2.trans T2
  have f1 := T1 _ _ e1
  have T0 : Same H H7 := s1.trans T1
  clear e1 s1 T1 e2 s2 T2 e3 s3 T3 e4 s4 T4 e5 s5 T5 e6 s6 T6 s7 T7 n7 n6 n5 n4 n3 n2 n1
  have hl : SqL K H7 p7 [.ref p1, .ref p2, .ref p3, .ref p4, .ref p5, .ref p6] := SqL.of e7
  have h9 : ∀ v ∈ [V.ref p1, .ref p2, .ref p3, .ref p4, .ref p5, .ref p6], Exc9 K t H7 v := all_cons ⟨_, _, rfl, f1, nine_NoNumber T⟩ (all_cons ⟨_, _, rfl, f2, nine_NoDay T⟩ (all_cons ⟨_, _, rfl, f3, nine_NoSpace T⟩ (all_cons ⟨_, _, rfl, f4, nine_TooMany T⟩ (all_cons ⟨_, _, rfl, f5, nine_NoRow T⟩ (all_cons ⟨_, _, rfl, f6, nine_NoName T⟩ all_nil)))))
  generalize [V.ref p1, .ref p2, .ref p3, .ref p4, .ref p5, .ref p6] = xs at hl h9
  clear f1 f2 f3 f4 f5 f6 e7
  refine f_list (K := K) (xs := xs) (fun i σ HD => (∃ u, σ = [some (.int k), u]) ∧ Same H7 HD) ⟨⟨none, rfl⟩, Same.refl _⟩ (fun i σ HD _ ⟨_, sD⟩ => sD.seq hl) ?_ ?_
  · rintro i v σ HD hi ⟨⟨u, rfl⟩, sD⟩
    obtain ⟨a, C, rfl, ha, hN⟩ := (h9 v (List.mem_of_getElem? hi)).same sD
    walk_at "run"
    refine ⟨a, C, rfl, ha, hN, ?_⟩
    walk_at "run"
    exact ⟨⟨_, rfl⟩, sD⟩
  rintro σ H8 ⟨⟨u, rfl⟩, s8⟩
  have T8 := T0.trans s8
  clear T0 hl h9 s8
  walk_at "run"
  rename_i p1 H1 n1 s1 e1 p2 H2 n2 s2 e2 p3 H3 n3 s3 e3 p4 H4 n4 s4 e4 p5 H5 n5 s5 e5 p6 H6 n6 s6 e6 p7 H7 n7 s7 e7
  have T7 : Same H7 H7 := Same.refl _
  have T6 := s7.trans T7
  have f6 := T6 _ _ e6
  have T5 := s6.trans T6
  have f5 := T5 _ _ e5
  have T4 := s5.trans T5
  have f4 := T4 _ _ e4
  have T3 := s4.trans T4
  have f3 := T3 _ _ e3
  have T2 := s3.trans T3
  have f2 := T2 _ _ e2
  have T1 := s2.trans T2
  have f1 := T1 _ _ e1
  have T0 : Same H8 H7 := s1.trans T1
  clear e1 s1 T1 e2 s2 T2 e3 s3 T3 e4 s4 T4 e5 s5 T5 e6 s6 T6 s7 T7 n7 n6 n5 n4 n3 n2 n1
  have T9 := T8.trans T0
  clear T0 T8
  have hl : SqL K H7 p7 [.ref p1, .ref p2, .ref p3, .ref p4, .ref p5, .ref p6] := SqL.of e7
  have h9 : ∀ v ∈ [V.ref p1, .ref p2, .ref p3, .ref p4, .ref p5, .ref p6], Exc9 K t H7 v := all_cons ⟨_, _, rfl, f1, nine_NoTable T⟩ (all_cons ⟨_, _, rfl, f2, nine_NoTable T⟩ (all_cons ⟨_, _, rfl, f3, nine_NoPlan T⟩ (all_cons ⟨_, _, rfl, f4, nine_NoPlan T⟩ (all_cons ⟨_, _, rfl, f5, nine_NoTelling T⟩ (all_cons ⟨_, _, rfl, f6, nine_NoTelling T⟩ all_nil)))))
  generalize [V.ref p1, .ref p2, .ref p3, .ref p4, .ref p5, .ref p6] = xs at hl h9
  clear f1 f2 f3 f4 f5 f6 e7
  refine f_list (K := K) (xs := xs) (fun i σ HD => (∃ u, σ = [some (.int k), u]) ∧ Same H7 HD) ⟨⟨_, rfl⟩, Same.refl _⟩ (fun i σ HD _ ⟨_, sD⟩ => sD.seq hl) ?_ ?_
  · rintro i v σ HD hi ⟨⟨u, rfl⟩, sD⟩
    obtain ⟨a, C, rfl, ha, hN⟩ := (h9 v (List.mem_of_getElem? hi)).same sD
    walk_at "run"
    refine ⟨a, C, rfl, ha, hN, ?_⟩
    walk_at "run"
    exact ⟨⟨_, rfl⟩, sD⟩
  rintro σ H8 ⟨⟨u, rfl⟩, s8⟩
  have T8 := T9.trans s8
  clear T9 hl h9 s8
  walk_at "run"
  refine z_mkX T.y_NoTable T.o_NoTable.na T.o_NoTable.hd (fun Ha sa => ?_)
  walk_at "run"
  refine z_iteD (fun _ => ?_) (fun h => absurd rfl h)
  walk_at "run"
  refine z_mkX T.y_NoPlan T.o_NoPlan.na T.o_NoPlan.hd (fun Hb sb => ?_)
  walk_at "run"
  refine z_iteD (fun _ => ?_) (fun h => absurd rfl h)
  walk_at "run"
  refine z_mkX T.y_NoTelling T.o_NoTelling.na T.o_NoTelling.hd (fun Hc sc => ?_)
  walk_at "run"
  refine z_iteD (fun _ => ?_) (fun h => absurd rfl h)
  walk_at "run"
  refine z_mkX T.y_NoTable T.o_NoTable.na T.o_NoTable.hd (fun Hd sd => ?_)
  walk_at "run"
  refine z_mkX T.y_NoPlan T.o_NoPlan.na T.o_NoPlan.hd (fun He se => ?_)
  walk_at "run"
  refine z_mkX T.y_NoTelling T.o_NoTelling.na T.o_NoTelling.hd (fun Hf sf => ?_)
  walk_at "run"
  exact q _ (T8.trans (sa.trans (sb.trans (sc.trans (sd.trans (se.trans sf))))))
noncomputable def sp_mixed96 : Sp := fun vs H Q _ => ∃ c : Int, vs = [.int c] ∧ ∀ d : Int, Q (.int d) H
theorem ok_l_mixed (T : Txt K mg t) : FnOk P w K mg base CX0 1 t.f_l_mixed t.d_l_mixed ["_law_cell"] (sp_mixed96) := by
  refine T.F_l_mixed.ok sc_l_mixed (fun vs H Q E h => ?_) (fun cdv A outer s H vs Q E hr h => ?_)
  · obtain ⟨c, rfl, _⟩ := h
    rfl
  obtain ⟨c, rfl, q⟩ := h
  refine ⟨_, (pss_cons (ps_if (pt_cmpR op_ge (pv 0) (pe_op op_pow pe_int pe_int) (nomark _)) (pss_one (ps_ret (pv 0))) pss_nil)
  (pss_one (ps_ret (pe_op op_mod (pe_op op_add (pe_op op_mul (pe_op op_mod (pv 0) pe_int) pe_int) pe_int) pe_int)))), z_go (σ := [some _]) rfl ?_⟩
  walk_at "run"
  refine z_iteD (fun h1 => ?_) (fun h1 => ?_)
  · walk_at "run"
    exact q _
  · have b1 := Int.emod_nonneg c (show (2147483647 : Int) ≠ 0 by decide)
    have b2 := Int.emod_lt_of_pos c (show (0 : Int) < 2147483647 by decide)
    generalize c % 2147483647 = e at *
    walk_at "run"
    exact q _
theorem cut63 (ns : List Int) : cutV (ns.map V.int) none (some 63) = (ns.take 63).map V.int := by
  unfold cutV
  have e1 : HT.sIx (ns.map V.int).length 0 none = 0 := rfl
  have e2 : HT.sIx (ns.map V.int).length (ns.map V.int).length (some 63) = min 63 (ns.map V.int).length := HT.sIx_nat _ _ 63
  rw [e1, e2, List.drop_zero, Nat.sub_zero, List.map_take]
  rcases Nat.le_total 63 (ns.map V.int).length with h | h
  · rw [Nat.min_eq_left h]
  · rw [Nat.min_eq_right h, List.take_length, List.take_of_length_le h]
theorem z_slLn {K : PySem.W.Frag} {H : Hp} {Q : VK} {p : Addr} {xs : List V} {lo hi : Option Int} (hs : SqL K H p xs) (q : ∀ p' H', H p' = none → Same H H' → H' p' = some (.lst (L2.cutV xs lo hi)) → Q (.ref p') H') : rSlL K (.ref p) lo hi H Q := ⟨p, xs, rfl, hs, fun p' hp => q p' _ hp (Same.new hp _) upd_same⟩
theorem p60 : (10 : Int) ^ (60 : Int).toNat = 1000000000000000000000000000000000000000000000000000000000000 := by decide
theorem top_b (d : Int) : -1000000000000000000000000000000000000000000000000000000000000 < (if decide (d / 420 % 2 = 1) = true then 0 - (if decide (d / 42 % 2 = 1) = true then 1000000000000000000 - 2 + d / 84 % 5 else d / 21 % (1000000000000000000000000000000000000000000000000000000000000 / 3 - 1)) else (if decide (d / 42 % 2 = 1) = true then 1000000000000000000 - 2 + d / 84 % 5 else d / 21 % (1000000000000000000000000000000000000000000000000000000000000 / 3 - 1))) ∧ (if decide (d / 420 % 2 = 1) = true then 0 - (if decide (d / 42 % 2 = 1) = true then 1000000000000000000 - 2 + d / 84 % 5 else d / 21 % (1000000000000000000000000000000000000000000000000000000000000 / 3 - 1)) else (if decide (d / 42 % 2 = 1) = true then 1000000000000000000 - 2 + d / 84 % 5 else d / 21 % (1000000000000000000000000000000000000000000000000000000000000 / 3 - 1))) < 1000000000000000000000000000000000000000000000000000000000000 := by
  have a1 := Int.emod_nonneg (d / 21) (show ((1000000000000000000000000000000000000000000000000000000000000 / 3 - 1 : Int)) ≠ 0 by decide)
  have a2 := Int.emod_lt_of_pos (d / 21) (show (0 : Int) < 1000000000000000000000000000000000000000000000000000000000000 / 3 - 1 by decide)
  generalize d / 21 % (1000000000000000000000000000000000000000000000000000000000000 / 3 - 1) = e at *
  split <;> split <;> omega
theorem pvb_int {i : Int} (h : My.Bd 240 i) : PvB (.int i) := fun j e => by cases e; exact h
theorem ok_law (T : Txt K mg t) : FnOk P w K mg base CX0 6 t.f_law t.d_law ["_law_script"] (sp_law K) := by
  have G_l_cell_at := ok_l_cell_at (P := P) (w := w) (base := base) T
  have G_l_mixed := ok_l_mixed (P := P) (w := w) (base := base) T
  have G_l_thing := ok_l_thing (P := P) (w := w) (base := base) T
  have G_l_truth := ok_l_truth (P := P) (w := w) (base := base) T
  have G_l_whole := ok_l_whole (P := P) (w := w) (base := base) T
  have G_l_number := ok_l_number (P := P) (w := w) (base := base) T
  have G_l_told := ok_l_told (P := P) (w := w) (base := base) T
  have G_l_made := ok_l_made (P := P) (w := w) (base := base) T
  have G_l_no_text := ok_l_no_text (P := P) (w := w) (base := base) T
  have G_l_refusals := ok_l_refusals (P := P) (w := w) (base := base) T
  have G_is_whole := ok_is_whole (P := P) (w := w) (base := base) T
  have G_is_number := ok_is_number (P := P) (w := w) (base := base) T
  have G_is_told := ok_is_told (P := P) (w := w) (base := base) T
  refine T.F_law.ok sc_law (fun vs H Q E h => ?_) (fun cdv A outer s H vs Q E hr h => ?_)
  · obtain ⟨a, ns, rfl, _⟩ := h
    rfl
  obtain ⟨a, ns, rfl, hS, hn, q⟩ := h
  refine ⟨_, (pss_cons (ps_for PassesOwn.never rfl (pi_list (pe_op op_cat (pe_lst (pa_cons pe_int pa_nil)) (pe_slice sl_list (pv 0) po_none (po_some pe_int)))) (pg_name (i := 1) sc_law.nd rfl (Or.inl rfl)) (pss_cons (ps_set (i := 2) sc_law.nd rfl (Or.inl rfl) (pe_call G_l_mixed (hr.mono (by decide)) rfl T.m_l_mixed T.k_l_mixed T.b_l_mixed .nil pass0 (pa_cons (pv 1) pa_nil)))
  (pss_cons (ps_set (i := 3) sc_law.nd rfl (Or.inl rfl) (pe_op op_mod (pe_op op_fdivB (pv 2) pe_int) (pe_op op_sub (pe_op op_fdivB (pe_op op_pow pe_int pe_int) pe_int) pe_int)))
  (pss_cons (ps_if (pt_cmpR op_eq (pe_op op_mod (pe_op op_fdivB (pv 2) pe_int) pe_int) pe_int (nomark _)) (pss_one (ps_set (i := 3) sc_law.nd rfl (Or.inl rfl) (pe_op op_add (pe_op op_sub (pe_op op_pow pe_int pe_int) pe_int) (pe_op op_mod (pe_op op_fdivB (pv 2) pe_int) pe_int)))) pss_nil)
  (pss_cons (ps_if (pt_cmpR op_eq (pe_op op_mod (pe_op op_fdivB (pv 2) pe_int) pe_int) pe_int (nomark _)) (pss_one (ps_set (i := 3) sc_law.nd rfl (Or.inl rfl) (pe_op op_sub pe_int (pv 3)))) pss_nil)
  (pss_cons (ps_set (i := 4) sc_law.nd rfl (Or.inl rfl) (pe_op op_sub (pe_op op_mod (pe_op op_fdivB (pv 2) pe_int) pe_int) pe_int))
  (pss_cons (ps_if (pt_cmpR op_eq (pe_op op_mod (pe_op op_fdivB (pv 2) pe_int) pe_int) pe_int (nomark _)) (pss_one (ps_set (i := 4) sc_law.nd rfl (Or.inl rfl) (pe_op op_add pe_int (pe_op op_mod (pe_op op_fdivB (pv 2) pe_int) pe_int)))) pss_nil)
  (pss_cons (ps_if (pt_cmpR op_eq (pe_op op_mod (pe_op op_fdivB (pv 2) pe_int) pe_int) pe_int (nomark _)) (pss_one (ps_set (i := 4) sc_law.nd rfl (Or.inl rfl) (pe_op op_add pe_int (pe_op op_mod (pe_op op_fdivB (pv 2) pe_int) (pe_op op_sub (pe_op op_pow pe_int pe_int) pe_int))))) pss_nil)
  (pss_cons (ps_set (i := 5) sc_law.nd rfl (Or.inl rfl) (pe_call G_l_thing (hr.mono (by decide)) rfl T.m_l_thing T.k_l_thing T.b_l_thing .nil pass0 (pa_cons (pe_op op_mod (pv 2) pe_int) (pa_cons (pv 3) (pa_cons (pv 4) pa_nil)))))
  (pss_cons (ps_if (PW.pt (pw_or (pt_not (pt_val (pe_call G_l_truth (hr.mono (by decide)) rfl T.m_l_truth T.k_l_truth T.b_l_truth .nil pass0 (pa_cons (pe_call G_is_whole (hr.mono (by decide)) rfl T.m_is_whole T.k_is_whole T.b_is_whole .nil pass0 (pa_cons (pv 5) pa_nil)) (pa_cons (pe_call G_l_whole (hr.mono (by decide)) rfl T.m_l_whole T.k_l_whole T.b_l_whole .nil pass0 (pa_cons (pv 5) pa_nil)) pa_nil))))) (pw_or1 (pt_not (pt_val (pe_call G_l_truth (hr.mono (by decide)) rfl T.m_l_truth T.k_l_truth T.b_l_truth .nil pass0 (pa_cons (pe_call G_is_number (hr.mono (by decide)) rfl T.m_is_number T.k_is_number T.b_is_number .nil pass0 (pa_cons (pv 5) pa_nil)) (pa_cons (pe_call G_l_number (hr.mono (by decide)) rfl T.m_l_number T.k_l_number T.b_l_number .nil pass0 (pa_cons (pv 5) pa_nil)) pa_nil)))))))) (pss_one (ps_ret pe_bl)) pss_nil)
  (pss_cons (ps_if (pt_not (pt_val (pe_call G_l_truth (hr.mono (by decide)) rfl T.m_l_truth T.k_l_truth T.b_l_truth .nil pass0 (pa_cons (pe_call G_is_told (hr.mono (by decide)) rfl T.m_is_told T.k_is_told T.b_is_told .nil pass0 (pa_cons (pv 5) pa_nil)) (pa_cons (pe_call G_l_told (hr.mono (by decide)) rfl T.m_l_told T.k_l_told T.b_l_told .nil pass0 (pa_cons (pv 5) pa_nil)) pa_nil))))) (pss_one (ps_ret pe_bl)) pss_nil)
  (pss_cons (ps_if (PW.pt (pw_or (pt_not (pt_val (pe_call G_l_made (hr.mono (by decide)) rfl T.m_l_made T.k_l_made T.b_l_made .nil pass0 (pa_cons (pv 5) (pa_cons pe_int pa_nil))))) (pw_or (pt_not (pt_val (pe_call G_l_made (hr.mono (by decide)) rfl T.m_l_made T.k_l_made T.b_l_made .nil pass0 (pa_cons (pv 3) (pa_cons (pv 5) pa_nil))))) (pw_or1 (pt_not (pt_val (pe_call G_l_made (hr.mono (by decide)) rfl T.m_l_made T.k_l_made T.b_l_made .nil pass0 (pa_cons (pv 5) (pa_cons pe_int pa_nil))))))))) (pss_one (ps_ret pe_bl)) pss_nil)
  (pss_cons (ps_if (pt_not (pt_val (pe_call G_l_made (hr.mono (by decide)) rfl T.m_l_made T.k_l_made T.b_l_made .nil pass0 (pa_cons (pv 5) (pa_cons (pv 5) pa_nil))))) (pss_one (ps_ret pe_bl)) pss_nil)
  (pss_one (ps_if (PW.pt (pw_and (pt_not (pt_val (pe_isi isi_str rfl rfl T.z_isinstance T.z_str bt_str (pv 5)))) (pw_and1 (pt_not (pt_val (pe_call G_l_no_text (hr.mono (by decide)) rfl T.m_l_no_text T.k_l_no_text T.b_l_no_text .nil pass0 (pa_cons (pv 5) pa_nil))))))) (pss_one (ps_ret pe_bl)) pss_nil)))))))))))))))
  (pss_one (ps_ret (pe_call G_l_refusals (hr.mono (by decide)) rfl T.m_l_refusals T.k_l_refusals T.b_l_refusals .nil pass0 (pa_cons (pe_op op_mod (pe_call G_l_cell_at (hr.mono (by decide)) rfl T.m_l_cell_at T.k_l_cell_at T.b_l_cell_at .nil pass0 (pa_cons (pv 0) (pa_cons pe_int pa_nil))) pe_int) pa_nil))))), z_go (σ := [some _, none, none, none, none, none]) rfl ?_⟩
  walk_at "run"
  rename_i l1 H1 hp1 s1 hl1
  refine z_slLn (s1.seq hS) (fun l2 H2 hp2 s2 hl2 => ?_)
  rw [cut63] at hl2
  have hl63 : ((ns.take 63).map V.int).length ≤ 63 := by rw [List.length_map, List.length_take]; omega
  refine z_cat (s2 _ _ hl1) hl2 (le_size (by simp only [List.length_cons, List.length_nil]; omega)) (fun l3 H3 s3 hl3 => ?_)
  have e3 : [V.int 0] ++ (ns.take 63).map V.int = (0 :: ns.take 63).map V.int := rfl
  rw [e3] at hl3
  generalize 0 :: ns.take 63 = ms at *
  have hL : SqL K H3 l3 (ms.map V.int) := SqL.of hl3
  have hS3 := s3.seq (s2.seq (s1.seq hS))
  walk_at "run"
  refine f_list (K := K) (xs := ms.map V.int) (fun i σ HD => (∃ u1 u2 u3 u4 u5, σ = [some (.ref a), u1, u2, u3, u4, u5]) ∧ Same H3 HD) ⟨⟨none, none, none, none, none, rfl⟩, Same.refl _⟩ (fun i σ HD _ ⟨_, sD⟩ => sD.seq hL) ?_ ?_
  · rintro i v σ HD hi ⟨⟨u1, u2, u3, u4, u5, rfl⟩, sD⟩
    obtain ⟨c, _, rfl⟩ := of_map_at hi
    walk_at "run"
    refine ⟨c, rfl, fun d => ?_⟩
    walk_at "run"
    rw [p60, p18]
    have tb := top_b d
    refine ⟨d % 21, _, _, rfl, Int.emod_nonneg _ (by decide), Int.emod_lt_of_pos _ (by decide), tb, fun v x H4 s4 hx bx => ?_⟩
    generalize (if decide (d / 420 % 2 = 1) = true then 0 - (if decide (d / 42 % 2 = 1) = true then 1000000000000000000 - 2 + d / 84 % 5 else d / 21 % (1000000000000000000000000000000000000000000000000000000000000 / 3 - 1)) else (if decide (d / 42 % 2 = 1) = true then 1000000000000000000 - 2 + d / 84 % 5 else d / 21 % (1000000000000000000000000000000000000000000000000000000000000 / 3 - 1))) = tp at *
    have bt := bd60f tb
    walk_at "run"
    refine a_wholeP hx ?_
    walk_at "run"
    refine a_wholeP hx ?_
    walk_at "run"
    refine ⟨_, rfl, ?_⟩
    walk_at "run"
    refine ⟨v, x, rfl, hx, ?_⟩
    walk_at "run"
    refine ⟨v, x, rfl, hx, ?_⟩
    walk_at "run"
    refine ⟨_, rfl, ?_⟩
    walk_at "run"
    refine ⟨v, x, rfl, hx, ?_⟩
    walk_at "run"
    refine ⟨v, x, rfl, hx, ?_⟩
    walk_at "run"
    refine ⟨_, rfl, ?_⟩
    walk_at "run"
    refine ⟨v, _, x, .int 1, rfl, hx, rfl, bx, pvb_int (by unfold My.Bd; decide), fun H5 s5 => ?_⟩
    have hx5 := hx.same s5
    walk_at "run"
    refine ⟨_, v, .int tp, x, rfl, rfl, hx5, pvb_int bt, bx, fun H6 s6 => ?_⟩
    have hx6 := hx5.same s6
    walk_at "run"
    refine ⟨v, _, x, .int 6, rfl, hx6, rfl, bx, pvb_int (by unfold My.Bd; decide), fun H7 s7 => ?_⟩
    have hx7 := hx6.same s7
    walk_at "run"
    refine ⟨v, v, x, x, rfl, hx7, hx7, bx, bx, fun H8 s8 => ?_⟩
    have hx8 := hx7.same s8
    have sA := sD.trans (s4.trans (s5.trans (s6.trans (s7.trans s8))))
    walk_at "run"
    obtain ⟨g, hg, hS, _⟩ := hx8.tag
    refine ⟨_, g, rfl, hg, ?_⟩
    rw [hS]
    by_cases hs : x.isS = true
    · rw [hs]
      walk_at "run"
      exact ⟨⟨_, _, _, _, _, rfl⟩, sA⟩
    · have hs : x.isS = false := by simpa using hs
      rw [hs]
      walk_at "run"
      refine ⟨v, x, rfl, hx8, hs, fun H9 s9 => ?_⟩
      walk_at "run"
      exact ⟨⟨_, _, _, _, _, rfl⟩, sA.trans s9⟩
  · rintro σ HD ⟨⟨u1, u2, u3, u4, u5, rfl⟩, sD⟩
    have hS4 := sD.seq hS3
    walk_at "run"
    exact ⟨_, rfl, fun H' s' => q H'⟩
end
theorem all_mk {l : PySem.W.OpenLaw} {w : World} {K : PySem.W.Frag} {h : Heap} {mg : Str → Option Value} {fa f0 f1 f2 f3 f4 f5 f6 f7 f8 f9 f10 f11 f12 f13 f14 f15 f16 f17 f18 f19 f20 f21 C_NoNumber C_NoDay C_NoSpace C_TooMany C_NoRow C_NoName C_MarkError C_NoTable FI_NoTable C_NoPlan FI_NoPlan C_NoTelling FI_NoTelling dT3 : Addr} (X : K.In h) (G : h.Ns mainGlobals mg) (hfa : mg "law" = some (.ref fa))
    {od0 an0 od1 an1 od2 an2 od3 an3 od4 an4 od5 an5 od6 an6 od7 an7 od8 an8 od9 an9 od10 an10 od11 an11 od12 an12 od13 an13 od14 an14 od15 an15 od16 an16 od17 an17 od18 an18 od19 an19 od20 an20 od21 an21 : Option Addr} {sl0 sl1 sl2 sl3 sl4 sl5 sl6 sl7 sl8 sl9 sl10 sl11 sl12 sl13 sl14 sl15 sl16 sl17 sl18 sl19 sl20 sl21 : Array (Option Value)} {oc0 kV0 dc0 pm0 cd0 ct0 oc1 kV1 dc1 pm1 cd1 ct1 oc2 kV2 dc2 pm2 cd2 ct2 oc3 kV3 dc3 pm3 cd3 ct3 oc4 kV4 dc4 pm4 cd4 ct4 oc5 kV5 dc5 pm5 cd5 ct5 oc6 kV6 dc6 pm6 cd6 ct6 oc7 kV7 dc7 pm7 cd7 ct7 oc8 kV8 dc8 pm8 cd8 ct8 oc9 kV9 dc9 pm9 cd9 ct9 oc10 kV10 dc10 pm10 cd10 ct10 oc11 kV11 dc11 pm11 cd11 ct11 oc12 kV12 dc12 pm12 cd12 ct12 oc13 kV13 dc13 pm13 cd13 ct13 oc14 kV14 dc14 pm14 cd14 ct14 oc15 kV15 dc15 pm15 cd15 ct15 oc16 kV16 dc16 pm16 cd16 ct16 oc17 kV17 dc17 pm17 cd17 ct17 oc18 kV18 dc18 pm18 cd18 ct18 oc19 kV19 dc19 pm19 cd19 ct19 oc20 kV20 dc20 pm20 cd20 ct20 oc21 kV21 dc21 pm21 cd21 ct21 : Value}
    {odi_NoTable ani_NoTable : Option Addr} {sli_NoTable : Array (Option Value)} {oci_NoTable kVi_NoTable dci_NoTable pmi_NoTable cdi_NoTable cti_NoTable : Value} {odi_NoPlan ani_NoPlan : Option Addr} {sli_NoPlan : Array (Option Value)} {oci_NoPlan kVi_NoPlan dci_NoPlan pmi_NoPlan cdi_NoPlan cti_NoPlan : Value} {odi_NoTelling ani_NoTelling : Option Addr} {sli_NoTelling : Array (Option Value)} {oci_NoTelling kVi_NoTelling dci_NoTelling pmi_NoTelling cdi_NoTelling cti_NoTelling : Value}
    {g_DIGITS : Tok}
    {g_MOST_FIGURES : Tok}
    {g_MOST_BOTTOM : Tok}
    {tc3 : Value} {td3 : Option Addr} {tn3 : Nat} {ts3 : Array (Option Value)} {tk3 : Tok}
    (a0 : PySem.W.nsIn K mainGlobals "is_whole" = some (some (.ref f0))) (l0 : K.lookup f0 = some ⟨oc0, od0, .func (PySem.W.fnOf "is_whole" "is_whole" (defArgs s_is_whole) (defBody s_is_whole) (defScope s_is_whole) .none kV0 dc0 pm0 an0 cd0 ct0), sl0⟩) (c0 : PySem.W.codeIn K cd0 "is_whole" = true) (k0 : PySem.W.keepIn K (.ref f0) = true)
    (a1 : PySem.W.nsIn K mainGlobals "divisor_of" = some (some (.ref f1))) (l1 : K.lookup f1 = some ⟨oc1, od1, .func (PySem.W.fnOf "divisor_of" "divisor_of" (defArgs s_divisor_of) (defBody s_divisor_of) (defScope s_divisor_of) .none kV1 dc1 pm1 an1 cd1 ct1), sl1⟩) (c1 : PySem.W.codeIn K cd1 "divisor_of" = true) (k1 : PySem.W.keepIn K (.ref f1) = true)
    (a2 : PySem.W.nsIn K mainGlobals "is_number" = some (some (.ref f2))) (l2 : K.lookup f2 = some ⟨oc2, od2, .func (PySem.W.fnOf "is_number" "is_number" (defArgs s_is_number) (defBody s_is_number) (defScope s_is_number) .none kV2 dc2 pm2 an2 cd2 ct2), sl2⟩) (c2 : PySem.W.codeIn K cd2 "is_number" = true) (k2 : PySem.W.keepIn K (.ref f2) = true)
    (a3 : PySem.W.nsIn K mainGlobals "number" = some (some (.ref f3))) (l3 : K.lookup f3 = some ⟨oc3, od3, .func (PySem.W.fnOf "number" "number" (defArgs s_number) (defBody s_number) (defScope s_number) (.ref dT3) kV3 dc3 pm3 an3 cd3 ct3), sl3⟩) (c3 : PySem.W.codeIn K cd3 "number" = true) (k3 : PySem.W.keepIn K (.ref f3) = true)
    (dl3 : K.lookup dT3 = some ⟨tc3, td3, .seq #[.int 1 tk3] tn3, ts3⟩)
    (a4 : PySem.W.nsIn K mainGlobals "are_digits" = some (some (.ref f4))) (l4 : K.lookup f4 = some ⟨oc4, od4, .func (PySem.W.fnOf "are_digits" "are_digits" (defArgs s_are_digits) (defBody s_are_digits) (defScope s_are_digits) .none kV4 dc4 pm4 an4 cd4 ct4), sl4⟩) (c4 : PySem.W.codeIn K cd4 "are_digits" = true) (k4 : PySem.W.keepIn K (.ref f4) = true)
    (a5 : PySem.W.nsIn K mainGlobals "show_number" = some (some (.ref f5))) (l5 : K.lookup f5 = some ⟨oc5, od5, .func (PySem.W.fnOf "show_number" "show_number" (defArgs s_show_number) (defBody s_show_number) (defScope s_show_number) .none kV5 dc5 pm5 an5 cd5 ct5), sl5⟩) (c5 : PySem.W.codeIn K cd5 "show_number" = true) (k5 : PySem.W.keepIn K (.ref f5) = true)
    (a6 : PySem.W.nsIn K mainGlobals "read_figures" = some (some (.ref f6))) (l6 : K.lookup f6 = some ⟨oc6, od6, .func (PySem.W.fnOf "read_figures" "read_figures" (defArgs s_read_figures) (defBody s_read_figures) (defScope s_read_figures) .none kV6 dc6 pm6 an6 cd6 ct6), sl6⟩) (c6 : PySem.W.codeIn K cd6 "read_figures" = true) (k6 : PySem.W.keepIn K (.ref f6) = true)
    (a7 : PySem.W.nsIn K mainGlobals "read_number" = some (some (.ref f7))) (l7 : K.lookup f7 = some ⟨oc7, od7, .func (PySem.W.fnOf "read_number" "read_number" (defArgs s_read_number) (defBody s_read_number) (defScope s_read_number) .none kV7 dc7 pm7 an7 cd7 ct7), sl7⟩) (c7 : PySem.W.codeIn K cd7 "read_number" = true) (k7 : PySem.W.keepIn K (.ref f7) = true)
    (a8 : PySem.W.nsIn K mainGlobals "is_told" = some (some (.ref f8))) (l8 : K.lookup f8 = some ⟨oc8, od8, .func (PySem.W.fnOf "is_told" "is_told" (defArgs s_is_told) (defBody s_is_told) (defScope s_is_told) .none kV8 dc8 pm8 an8 cd8 ct8), sl8⟩) (c8 : PySem.W.codeIn K cd8 "is_told" = true) (k8 : PySem.W.keepIn K (.ref f8) = true)
    (a9 : PySem.W.nsIn K mainGlobals "_law_whole" = some (some (.ref f9))) (l9 : K.lookup f9 = some ⟨oc9, od9, .func (PySem.W.fnOf "_law_whole" "_law_whole" (defArgs s_l_whole) (defBody s_l_whole) (defScope s_l_whole) .none kV9 dc9 pm9 an9 cd9 ct9), sl9⟩) (c9 : PySem.W.codeIn K cd9 "_law_whole" = true) (k9 : PySem.W.keepIn K (.ref f9) = true)
    (a10 : PySem.W.nsIn K mainGlobals "_law_cell_at" = some (some (.ref f10))) (l10 : K.lookup f10 = some ⟨oc10, od10, .func (PySem.W.fnOf "_law_cell_at" "_law_cell_at" (defArgs s_l_cell_at) (defBody s_l_cell_at) (defScope s_l_cell_at) .none kV10 dc10 pm10 an10 cd10 ct10), sl10⟩) (c10 : PySem.W.codeIn K cd10 "_law_cell_at" = true) (k10 : PySem.W.keepIn K (.ref f10) = true)
    (a11 : PySem.W.nsIn K mainGlobals "_law_divisor" = some (some (.ref f11))) (l11 : K.lookup f11 = some ⟨oc11, od11, .func (PySem.W.fnOf "_law_divisor" "_law_divisor" (defArgs s_l_divisor) (defBody s_l_divisor) (defScope s_l_divisor) .none kV11 dc11 pm11 an11 cd11 ct11), sl11⟩) (c11 : PySem.W.codeIn K cd11 "_law_divisor" = true) (k11 : PySem.W.keepIn K (.ref f11) = true)
    (a12 : PySem.W.nsIn K mainGlobals "_law_mixed" = some (some (.ref f12))) (l12 : K.lookup f12 = some ⟨oc12, od12, .func (PySem.W.fnOf "_law_mixed" "_law_mixed" (defArgs s_l_mixed) (defBody s_l_mixed) (defScope s_l_mixed) .none kV12 dc12 pm12 an12 cd12 ct12), sl12⟩) (c12 : PySem.W.codeIn K cd12 "_law_mixed" = true) (k12 : PySem.W.keepIn K (.ref f12) = true)
    (a13 : PySem.W.nsIn K mainGlobals "_law_kinds" = some (some (.ref f13))) (l13 : K.lookup f13 = some ⟨oc13, od13, .func (PySem.W.fnOf "_law_kinds" "_law_kinds" (defArgs s_l_kinds) (defBody s_l_kinds) (defScope s_l_kinds) .none kV13 dc13 pm13 an13 cd13 ct13), sl13⟩) (c13 : PySem.W.codeIn K cd13 "_law_kinds" = true) (k13 : PySem.W.keepIn K (.ref f13) = true)
    (a14 : PySem.W.nsIn K mainGlobals "_law_refusals" = some (some (.ref f14))) (l14 : K.lookup f14 = some ⟨oc14, od14, .func (PySem.W.fnOf "_law_refusals" "_law_refusals" (defArgs s_l_refusals) (defBody s_l_refusals) (defScope s_l_refusals) .none kV14 dc14 pm14 an14 cd14 ct14), sl14⟩) (c14 : PySem.W.codeIn K cd14 "_law_refusals" = true) (k14 : PySem.W.keepIn K (.ref f14) = true)
    (a15 : PySem.W.nsIn K mainGlobals "_law_thing" = some (some (.ref f15))) (l15 : K.lookup f15 = some ⟨oc15, od15, .func (PySem.W.fnOf "_law_thing" "_law_thing" (defArgs s_l_thing) (defBody s_l_thing) (defScope s_l_thing) .none kV15 dc15 pm15 an15 cd15 ct15), sl15⟩) (c15 : PySem.W.codeIn K cd15 "_law_thing" = true) (k15 : PySem.W.keepIn K (.ref f15) = true)
    (a16 : PySem.W.nsIn K mainGlobals "_law_number" = some (some (.ref f16))) (l16 : K.lookup f16 = some ⟨oc16, od16, .func (PySem.W.fnOf "_law_number" "_law_number" (defArgs s_l_number) (defBody s_l_number) (defScope s_l_number) .none kV16 dc16 pm16 an16 cd16 ct16), sl16⟩) (c16 : PySem.W.codeIn K cd16 "_law_number" = true) (k16 : PySem.W.keepIn K (.ref f16) = true)
    (a17 : PySem.W.nsIn K mainGlobals "_law_told" = some (some (.ref f17))) (l17 : K.lookup f17 = some ⟨oc17, od17, .func (PySem.W.fnOf "_law_told" "_law_told" (defArgs s_l_told) (defBody s_l_told) (defScope s_l_told) .none kV17 dc17 pm17 an17 cd17 ct17), sl17⟩) (c17 : PySem.W.codeIn K cd17 "_law_told" = true) (k17 : PySem.W.keepIn K (.ref f17) = true)
    (a18 : PySem.W.nsIn K mainGlobals "_law_truth" = some (some (.ref f18))) (l18 : K.lookup f18 = some ⟨oc18, od18, .func (PySem.W.fnOf "_law_truth" "_law_truth" (defArgs s_l_truth) (defBody s_l_truth) (defScope s_l_truth) .none kV18 dc18 pm18 an18 cd18 ct18), sl18⟩) (c18 : PySem.W.codeIn K cd18 "_law_truth" = true) (k18 : PySem.W.keepIn K (.ref f18) = true)
    (a19 : PySem.W.nsIn K mainGlobals "_law_made" = some (some (.ref f19))) (l19 : K.lookup f19 = some ⟨oc19, od19, .func (PySem.W.fnOf "_law_made" "_law_made" (defArgs s_l_made) (defBody s_l_made) (defScope s_l_made) .none kV19 dc19 pm19 an19 cd19 ct19), sl19⟩) (c19 : PySem.W.codeIn K cd19 "_law_made" = true) (k19 : PySem.W.keepIn K (.ref f19) = true)
    (a20 : PySem.W.nsIn K mainGlobals "_law_no_text" = some (some (.ref f20))) (l20 : K.lookup f20 = some ⟨oc20, od20, .func (PySem.W.fnOf "_law_no_text" "_law_no_text" (defArgs s_l_no_text) (defBody s_l_no_text) (defScope s_l_no_text) .none kV20 dc20 pm20 an20 cd20 ct20), sl20⟩) (c20 : PySem.W.codeIn K cd20 "_law_no_text" = true) (k20 : PySem.W.keepIn K (.ref f20) = true)
    (a21 : PySem.W.nsIn K mainGlobals "law" = some (some (.ref f21))) (l21 : K.lookup f21 = some ⟨oc21, od21, .func (PySem.W.fnOf "law" "law" (defArgs s_law) (defBody s_law) (defScope s_law) .none kV21 dc21 pm21 an21 cd21 ct21), sl21⟩) (c21 : PySem.W.codeIn K cd21 "law" = true) (k21 : PySem.W.keepIn K (.ref f21) = true)
    (w_DIGITS : PySem.W.nsIn K mainGlobals "DIGITS" = some (some (.str "0123456789" g_DIGITS)))
    (w_MOST_FIGURES : PySem.W.nsIn K mainGlobals "MOST_FIGURES" = some (some (.int 60 g_MOST_FIGURES)))
    (w_MOST_BOTTOM : PySem.W.nsIn K mainGlobals "MOST_BOTTOM" = some (some (.int 60 g_MOST_BOTTOM)))
    (n_NoNumber : PySem.W.nsIn K mainGlobals "NoNumber" = some (some (.ref C_NoNumber))) (x_NoNumber : PySem.W.excIn K C_NoNumber bmVE "ValueError.__new__" = true) (e_NoNumber : PySem.W.exmOne K (.ref C_NoNumber) (.ref C_NoNumber) = some true)
    (n_NoDay : PySem.W.nsIn K mainGlobals "NoDay" = some (some (.ref C_NoDay))) (x_NoDay : PySem.W.excIn K C_NoDay bmVE "ValueError.__new__" = true) (e_NoDay : PySem.W.exmOne K (.ref C_NoDay) (.ref C_NoDay) = some true)
    (n_NoSpace : PySem.W.nsIn K mainGlobals "NoSpace" = some (some (.ref C_NoSpace))) (x_NoSpace : PySem.W.excIn K C_NoSpace bmVE "ValueError.__new__" = true) (e_NoSpace : PySem.W.exmOne K (.ref C_NoSpace) (.ref C_NoSpace) = some true)
    (n_TooMany : PySem.W.nsIn K mainGlobals "TooMany" = some (some (.ref C_TooMany))) (x_TooMany : PySem.W.excIn K C_TooMany bmVE "ValueError.__new__" = true) (e_TooMany : PySem.W.exmOne K (.ref C_TooMany) (.ref C_TooMany) = some true)
    (n_NoRow : PySem.W.nsIn K mainGlobals "NoRow" = some (some (.ref C_NoRow))) (x_NoRow : PySem.W.excIn K C_NoRow bmVE "ValueError.__new__" = true) (e_NoRow : PySem.W.exmOne K (.ref C_NoRow) (.ref C_NoRow) = some true)
    (n_NoName : PySem.W.nsIn K mainGlobals "NoName" = some (some (.ref C_NoName))) (x_NoName : PySem.W.excIn K C_NoName bmVE "ValueError.__new__" = true) (e_NoName : PySem.W.exmOne K (.ref C_NoName) (.ref C_NoName) = some true)
    (n_MarkError : PySem.W.nsIn K mainGlobals "MarkError" = some (some (.ref C_MarkError)))
    (n_NoTable : PySem.W.nsIn K mainGlobals "NoTable" = some (some (.ref C_NoTable))) (fi_NoTable : PySem.W.findIn K (.ref C_NoTable) "__init__" = some (some (.ref FI_NoTable)))
    (li_NoTable : K.lookup FI_NoTable = some ⟨oci_NoTable, odi_NoTable, .func (PySem.W.fnOf "__init__" "NoTable.__init__" (defArgs si_NoTable) (defBody si_NoTable) (defScope si_NoTable) .none kVi_NoTable dci_NoTable pmi_NoTable ani_NoTable cdi_NoTable cti_NoTable), sli_NoTable⟩)
    (ci_NoTable : PySem.W.codeIn K cdi_NoTable "NoTable.__init__" = true) (ki_NoTable : PySem.W.keepIn K (.ref FI_NoTable) = true) (o_NoTable : OwnX K C_NoTable FI_NoTable "row") (e_NoTable : PySem.W.exmOne K (.ref C_NoTable) (.ref C_NoTable) = some true)
    (n_NoPlan : PySem.W.nsIn K mainGlobals "NoPlan" = some (some (.ref C_NoPlan))) (fi_NoPlan : PySem.W.findIn K (.ref C_NoPlan) "__init__" = some (some (.ref FI_NoPlan)))
    (li_NoPlan : K.lookup FI_NoPlan = some ⟨oci_NoPlan, odi_NoPlan, .func (PySem.W.fnOf "__init__" "NoPlan.__init__" (defArgs si_NoPlan) (defBody si_NoPlan) (defScope si_NoPlan) .none kVi_NoPlan dci_NoPlan pmi_NoPlan ani_NoPlan cdi_NoPlan cti_NoPlan), sli_NoPlan⟩)
    (ci_NoPlan : PySem.W.codeIn K cdi_NoPlan "NoPlan.__init__" = true) (ki_NoPlan : PySem.W.keepIn K (.ref FI_NoPlan) = true) (o_NoPlan : OwnX K C_NoPlan FI_NoPlan "step") (e_NoPlan : PySem.W.exmOne K (.ref C_NoPlan) (.ref C_NoPlan) = some true)
    (n_NoTelling : PySem.W.nsIn K mainGlobals "NoTelling" = some (some (.ref C_NoTelling))) (fi_NoTelling : PySem.W.findIn K (.ref C_NoTelling) "__init__" = some (some (.ref FI_NoTelling)))
    (li_NoTelling : K.lookup FI_NoTelling = some ⟨oci_NoTelling, odi_NoTelling, .func (PySem.W.fnOf "__init__" "NoTelling.__init__" (defArgs si_NoTelling) (defBody si_NoTelling) (defScope si_NoTelling) .none kVi_NoTelling dci_NoTelling pmi_NoTelling ani_NoTelling cdi_NoTelling cti_NoTelling), sli_NoTelling⟩)
    (ci_NoTelling : PySem.W.codeIn K cdi_NoTelling "NoTelling.__init__" = true) (ki_NoTelling : PySem.W.keepIn K (.ref FI_NoTelling) = true) (o_NoTelling : OwnX K C_NoTelling FI_NoTelling "part") (e_NoTelling : PySem.W.exmOne K (.ref C_NoTelling) (.ref C_NoTelling) = some true)
    (y_NoNumber : ExcF K C_NoNumber)
    (y_NoDay : ExcF K C_NoDay)
    (y_NoTable : ExcF K C_NoTable)
    (y_NoPlan : ExcF K C_NoPlan)
    (y_NoSpace : ExcF K C_NoSpace)
    (y_NoTelling : ExcF K C_NoTelling)
    (y_TooMany : ExcF K C_TooMany)
    (y_NoRow : ExcF K C_NoRow)
    (y_NoName : ExcF K C_NoName)
    (kk_NoNumber_NoNumber : PySem.W.kitOne K (.ref C_NoNumber) (.ref C_NoNumber) = some true)
    (kk_NoNumber_NoDay : PySem.W.kitOne K (.ref C_NoNumber) (.ref C_NoDay) = some false)
    (kk_NoNumber_NoTable : PySem.W.kitOne K (.ref C_NoNumber) (.ref C_NoTable) = some false)
    (kk_NoNumber_NoPlan : PySem.W.kitOne K (.ref C_NoNumber) (.ref C_NoPlan) = some false)
    (kk_NoNumber_NoSpace : PySem.W.kitOne K (.ref C_NoNumber) (.ref C_NoSpace) = some false)
    (kk_NoNumber_NoTelling : PySem.W.kitOne K (.ref C_NoNumber) (.ref C_NoTelling) = some false)
    (kk_NoNumber_TooMany : PySem.W.kitOne K (.ref C_NoNumber) (.ref C_TooMany) = some false)
    (kk_NoNumber_NoRow : PySem.W.kitOne K (.ref C_NoNumber) (.ref C_NoRow) = some false)
    (kk_NoNumber_NoName : PySem.W.kitOne K (.ref C_NoNumber) (.ref C_NoName) = some false)
    (kk_NoDay_NoNumber : PySem.W.kitOne K (.ref C_NoDay) (.ref C_NoNumber) = some false)
    (kk_NoDay_NoDay : PySem.W.kitOne K (.ref C_NoDay) (.ref C_NoDay) = some true)
    (kk_NoDay_NoTable : PySem.W.kitOne K (.ref C_NoDay) (.ref C_NoTable) = some false)
    (kk_NoDay_NoPlan : PySem.W.kitOne K (.ref C_NoDay) (.ref C_NoPlan) = some false)
    (kk_NoDay_NoSpace : PySem.W.kitOne K (.ref C_NoDay) (.ref C_NoSpace) = some false)
    (kk_NoDay_NoTelling : PySem.W.kitOne K (.ref C_NoDay) (.ref C_NoTelling) = some false)
    (kk_NoDay_TooMany : PySem.W.kitOne K (.ref C_NoDay) (.ref C_TooMany) = some false)
    (kk_NoDay_NoRow : PySem.W.kitOne K (.ref C_NoDay) (.ref C_NoRow) = some false)
    (kk_NoDay_NoName : PySem.W.kitOne K (.ref C_NoDay) (.ref C_NoName) = some false)
    (kk_NoTable_NoNumber : PySem.W.kitOne K (.ref C_NoTable) (.ref C_NoNumber) = some false)
    (kk_NoTable_NoDay : PySem.W.kitOne K (.ref C_NoTable) (.ref C_NoDay) = some false)
    (kk_NoTable_NoTable : PySem.W.kitOne K (.ref C_NoTable) (.ref C_NoTable) = some true)
    (kk_NoTable_NoPlan : PySem.W.kitOne K (.ref C_NoTable) (.ref C_NoPlan) = some false)
    (kk_NoTable_NoSpace : PySem.W.kitOne K (.ref C_NoTable) (.ref C_NoSpace) = some false)
    (kk_NoTable_NoTelling : PySem.W.kitOne K (.ref C_NoTable) (.ref C_NoTelling) = some false)
    (kk_NoTable_TooMany : PySem.W.kitOne K (.ref C_NoTable) (.ref C_TooMany) = some false)
    (kk_NoTable_NoRow : PySem.W.kitOne K (.ref C_NoTable) (.ref C_NoRow) = some false)
    (kk_NoTable_NoName : PySem.W.kitOne K (.ref C_NoTable) (.ref C_NoName) = some false)
    (kk_NoPlan_NoNumber : PySem.W.kitOne K (.ref C_NoPlan) (.ref C_NoNumber) = some false)
    (kk_NoPlan_NoDay : PySem.W.kitOne K (.ref C_NoPlan) (.ref C_NoDay) = some false)
    (kk_NoPlan_NoTable : PySem.W.kitOne K (.ref C_NoPlan) (.ref C_NoTable) = some false)
    (kk_NoPlan_NoPlan : PySem.W.kitOne K (.ref C_NoPlan) (.ref C_NoPlan) = some true)
    (kk_NoPlan_NoSpace : PySem.W.kitOne K (.ref C_NoPlan) (.ref C_NoSpace) = some false)
    (kk_NoPlan_NoTelling : PySem.W.kitOne K (.ref C_NoPlan) (.ref C_NoTelling) = some false)
    (kk_NoPlan_TooMany : PySem.W.kitOne K (.ref C_NoPlan) (.ref C_TooMany) = some false)
    (kk_NoPlan_NoRow : PySem.W.kitOne K (.ref C_NoPlan) (.ref C_NoRow) = some false)
    (kk_NoPlan_NoName : PySem.W.kitOne K (.ref C_NoPlan) (.ref C_NoName) = some false)
    (kk_NoSpace_NoNumber : PySem.W.kitOne K (.ref C_NoSpace) (.ref C_NoNumber) = some false)
    (kk_NoSpace_NoDay : PySem.W.kitOne K (.ref C_NoSpace) (.ref C_NoDay) = some false)
    (kk_NoSpace_NoTable : PySem.W.kitOne K (.ref C_NoSpace) (.ref C_NoTable) = some false)
    (kk_NoSpace_NoPlan : PySem.W.kitOne K (.ref C_NoSpace) (.ref C_NoPlan) = some false)
    (kk_NoSpace_NoSpace : PySem.W.kitOne K (.ref C_NoSpace) (.ref C_NoSpace) = some true)
    (kk_NoSpace_NoTelling : PySem.W.kitOne K (.ref C_NoSpace) (.ref C_NoTelling) = some false)
    (kk_NoSpace_TooMany : PySem.W.kitOne K (.ref C_NoSpace) (.ref C_TooMany) = some false)
    (kk_NoSpace_NoRow : PySem.W.kitOne K (.ref C_NoSpace) (.ref C_NoRow) = some false)
    (kk_NoSpace_NoName : PySem.W.kitOne K (.ref C_NoSpace) (.ref C_NoName) = some false)
    (kk_NoTelling_NoNumber : PySem.W.kitOne K (.ref C_NoTelling) (.ref C_NoNumber) = some false)
    (kk_NoTelling_NoDay : PySem.W.kitOne K (.ref C_NoTelling) (.ref C_NoDay) = some false)
    (kk_NoTelling_NoTable : PySem.W.kitOne K (.ref C_NoTelling) (.ref C_NoTable) = some false)
    (kk_NoTelling_NoPlan : PySem.W.kitOne K (.ref C_NoTelling) (.ref C_NoPlan) = some false)
    (kk_NoTelling_NoSpace : PySem.W.kitOne K (.ref C_NoTelling) (.ref C_NoSpace) = some false)
    (kk_NoTelling_NoTelling : PySem.W.kitOne K (.ref C_NoTelling) (.ref C_NoTelling) = some true)
    (kk_NoTelling_TooMany : PySem.W.kitOne K (.ref C_NoTelling) (.ref C_TooMany) = some false)
    (kk_NoTelling_NoRow : PySem.W.kitOne K (.ref C_NoTelling) (.ref C_NoRow) = some false)
    (kk_NoTelling_NoName : PySem.W.kitOne K (.ref C_NoTelling) (.ref C_NoName) = some false)
    (kk_TooMany_NoNumber : PySem.W.kitOne K (.ref C_TooMany) (.ref C_NoNumber) = some false)
    (kk_TooMany_NoDay : PySem.W.kitOne K (.ref C_TooMany) (.ref C_NoDay) = some false)
    (kk_TooMany_NoTable : PySem.W.kitOne K (.ref C_TooMany) (.ref C_NoTable) = some false)
    (kk_TooMany_NoPlan : PySem.W.kitOne K (.ref C_TooMany) (.ref C_NoPlan) = some false)
    (kk_TooMany_NoSpace : PySem.W.kitOne K (.ref C_TooMany) (.ref C_NoSpace) = some false)
    (kk_TooMany_NoTelling : PySem.W.kitOne K (.ref C_TooMany) (.ref C_NoTelling) = some false)
    (kk_TooMany_TooMany : PySem.W.kitOne K (.ref C_TooMany) (.ref C_TooMany) = some true)
    (kk_TooMany_NoRow : PySem.W.kitOne K (.ref C_TooMany) (.ref C_NoRow) = some false)
    (kk_TooMany_NoName : PySem.W.kitOne K (.ref C_TooMany) (.ref C_NoName) = some false)
    (kk_NoRow_NoNumber : PySem.W.kitOne K (.ref C_NoRow) (.ref C_NoNumber) = some false)
    (kk_NoRow_NoDay : PySem.W.kitOne K (.ref C_NoRow) (.ref C_NoDay) = some false)
    (kk_NoRow_NoTable : PySem.W.kitOne K (.ref C_NoRow) (.ref C_NoTable) = some false)
    (kk_NoRow_NoPlan : PySem.W.kitOne K (.ref C_NoRow) (.ref C_NoPlan) = some false)
    (kk_NoRow_NoSpace : PySem.W.kitOne K (.ref C_NoRow) (.ref C_NoSpace) = some false)
    (kk_NoRow_NoTelling : PySem.W.kitOne K (.ref C_NoRow) (.ref C_NoTelling) = some false)
    (kk_NoRow_TooMany : PySem.W.kitOne K (.ref C_NoRow) (.ref C_TooMany) = some false)
    (kk_NoRow_NoRow : PySem.W.kitOne K (.ref C_NoRow) (.ref C_NoRow) = some true)
    (kk_NoRow_NoName : PySem.W.kitOne K (.ref C_NoRow) (.ref C_NoName) = some false)
    (kk_NoName_NoNumber : PySem.W.kitOne K (.ref C_NoName) (.ref C_NoNumber) = some false)
    (kk_NoName_NoDay : PySem.W.kitOne K (.ref C_NoName) (.ref C_NoDay) = some false)
    (kk_NoName_NoTable : PySem.W.kitOne K (.ref C_NoName) (.ref C_NoTable) = some false)
    (kk_NoName_NoPlan : PySem.W.kitOne K (.ref C_NoName) (.ref C_NoPlan) = some false)
    (kk_NoName_NoSpace : PySem.W.kitOne K (.ref C_NoName) (.ref C_NoSpace) = some false)
    (kk_NoName_NoTelling : PySem.W.kitOne K (.ref C_NoName) (.ref C_NoTelling) = some false)
    (kk_NoName_TooMany : PySem.W.kitOne K (.ref C_NoName) (.ref C_TooMany) = some false)
    (kk_NoName_NoRow : PySem.W.kitOne K (.ref C_NoName) (.ref C_NoRow) = some false)
    (kk_NoName_NoName : PySem.W.kitOne K (.ref C_NoName) (.ref C_NoName) = some true)
    (kk_NoNumber_MarkError : PySem.W.kitOne K (.ref C_NoNumber) (.ref C_MarkError) = some true)
    (kk_NoNumber_ValueError : PySem.W.kitOne K (.ref C_NoNumber) (.type "ValueError") = some true)
    (kk_NoDay_MarkError : PySem.W.kitOne K (.ref C_NoDay) (.ref C_MarkError) = some true)
    (kk_NoDay_ValueError : PySem.W.kitOne K (.ref C_NoDay) (.type "ValueError") = some true)
    (kk_NoTable_MarkError : PySem.W.kitOne K (.ref C_NoTable) (.ref C_MarkError) = some true)
    (kk_NoTable_ValueError : PySem.W.kitOne K (.ref C_NoTable) (.type "ValueError") = some true)
    (kk_NoPlan_MarkError : PySem.W.kitOne K (.ref C_NoPlan) (.ref C_MarkError) = some true)
    (kk_NoPlan_ValueError : PySem.W.kitOne K (.ref C_NoPlan) (.type "ValueError") = some true)
    (kk_NoSpace_MarkError : PySem.W.kitOne K (.ref C_NoSpace) (.ref C_MarkError) = some true)
    (kk_NoSpace_ValueError : PySem.W.kitOne K (.ref C_NoSpace) (.type "ValueError") = some true)
    (kk_NoTelling_MarkError : PySem.W.kitOne K (.ref C_NoTelling) (.ref C_MarkError) = some true)
    (kk_NoTelling_ValueError : PySem.W.kitOne K (.ref C_NoTelling) (.type "ValueError") = some true)
    (kk_TooMany_MarkError : PySem.W.kitOne K (.ref C_TooMany) (.ref C_MarkError) = some true)
    (kk_TooMany_ValueError : PySem.W.kitOne K (.ref C_TooMany) (.type "ValueError") = some true)
    (kk_NoRow_MarkError : PySem.W.kitOne K (.ref C_NoRow) (.ref C_MarkError) = some true)
    (kk_NoRow_ValueError : PySem.W.kitOne K (.ref C_NoRow) (.type "ValueError") = some true)
    (kk_NoName_MarkError : PySem.W.kitOne K (.ref C_NoName) (.ref C_MarkError) = some true)
    (kk_NoName_ValueError : PySem.W.kitOne K (.ref C_NoName) (.type "ValueError") = some true)
    (z_isinstance : PySem.W.nsIn K mainGlobals "isinstance" = some none)
    (z_int : PySem.W.nsIn K mainGlobals "int" = some none)
    (z_bool : PySem.W.nsIn K mainGlobals "bool" = some none)
    (z_tuple : PySem.W.nsIn K mainGlobals "tuple" = some none)
    (z_str : PySem.W.nsIn K mainGlobals "str" = some none)
    (z_abs : PySem.W.nsIn K mainGlobals "abs" = some none)
    (z_len : PySem.W.nsIn K mainGlobals "len" = some none)
    (z_all : PySem.W.nsIn K mainGlobals "all" = some none)
    (z_ValueError : PySem.W.nsIn K mainGlobals "ValueError" = some none)
    : ∃ fd : FuncData, (∀ (s : Shared) (v : Value), BindsTo s fd ⟨[v], []⟩ [("_law_script", v)]) ∧ ∀ base : Heap, K.In base → base.Ns mainGlobals mg → FnOk l.prog w K mg base CX0 6 fa fd ["_law_script"] (sp_law K) := by
  have e := hfa.symm.trans (PySem.W.mg_of X G a21)
  cases e
  have F0 := fun_mk (st := s_is_whole) l0 c0 k0
  have b0 := F0.binds (ps := ["thing"]) fun _ _ _ _ _ _ us hl => match us, hl with | [_], _ => rfl
  have F1 := fun_mk (st := s_divisor_of) l1 c1 k1
  have b1 := F1.binds (ps := ["one", "other"]) fun _ _ _ _ _ _ us hl => match us, hl with | [_, _], _ => rfl
  have F2 := fun_mk (st := s_is_number) l2 c2 k2
  have b2 := F2.binds (ps := ["thing"]) fun _ _ _ _ _ _ us hl => match us, hl with | [_], _ => rfl
  have F3 := fun_mkD (st := s_number) l3 c3 k3
  have b3 : Binds K (PySem.W.fnOf "number" "number" (defArgs s_number) (defBody s_number) (defScope s_number) (.ref dT3) kV3 dc3 pm3 an3 cd3 ct3) ["top", "bottom"] [] := fun s us X hl => match us, hl with | [_, _], _ => BindsTo.of_defaults rfl (X _ _ dl3) rfl rfl rfl
  have bd3 : ∃ ds, Vals [V.int 1] ds ∧ Binds K (PySem.W.fnOf "number" "number" (defArgs s_number) (defBody s_number) (defScope s_number) (.ref dT3) kV3 dc3 pm3 an3 cd3 ct3) ["top", "bottom"] ds := ⟨[.int 1 tk3], .cons ⟨_, rfl⟩ .nil, fun s us X hl => match us, (by simpa using hl : us.length = 1) with | [_], _ => BindsTo.of_defaults rfl (X _ _ dl3) rfl rfl rfl⟩
  have F4 := fun_mk (st := s_are_digits) l4 c4 k4
  have b4 := F4.binds (ps := ["text"]) fun _ _ _ _ _ _ us hl => match us, hl with | [_], _ => rfl
  have F5 := fun_mk (st := s_show_number) l5 c5 k5
  have b5 := F5.binds (ps := ["one"]) fun _ _ _ _ _ _ us hl => match us, hl with | [_], _ => rfl
  have F6 := fun_mk (st := s_read_figures) l6 c6 k6
  have b6 := F6.binds (ps := ["text", "most"]) fun _ _ _ _ _ _ us hl => match us, hl with | [_, _], _ => rfl
  have F7 := fun_mk (st := s_read_number) l7 c7 k7
  have b7 := F7.binds (ps := ["text"]) fun _ _ _ _ _ _ us hl => match us, hl with | [_], _ => rfl
  have F8 := fun_mk (st := s_is_told) l8 c8 k8
  have b8 := F8.binds (ps := ["thing"]) fun _ _ _ _ _ _ us hl => match us, hl with | [_], _ => rfl
  have F9 := fun_mk (st := s_l_whole) l9 c9 k9
  have b9 := F9.binds (ps := ["_law_thing_here"]) fun _ _ _ _ _ _ us hl => match us, hl with | [_], _ => rfl
  have F10 := fun_mk (st := s_l_cell_at) l10 c10 k10
  have b10 := F10.binds (ps := ["_law_script", "_law_k"]) fun _ _ _ _ _ _ us hl => match us, hl with | [_, _], _ => rfl
  have F11 := fun_mk (st := s_l_divisor) l11 c11 k11
  have b11 := F11.binds (ps := ["_law_one", "_law_other"]) fun _ _ _ _ _ _ us hl => match us, hl with | [_, _], _ => rfl
  have F12 := fun_mk (st := s_l_mixed) l12 c12 k12
  have b12 := F12.binds (ps := ["_law_cell"]) fun _ _ _ _ _ _ us hl => match us, hl with | [_], _ => rfl
  have F13 := fun_mk (st := s_l_kinds) l13 c13 k13
  have b13 := F13.binds (ps := ["_law_e"]) fun _ _ _ _ _ _ us hl => match us, hl with | [_], _ => rfl
  have F14 := fun_mk (st := s_l_refusals) l14 c14 k14
  have b14 := F14.binds (ps := ["_law_at"]) fun _ _ _ _ _ _ us hl => match us, hl with | [_], _ => rfl
  have F15 := fun_mk (st := s_l_thing) l15 c15 k15
  have b15 := F15.binds (ps := ["_law_kind", "_law_top", "_law_bottom"]) fun _ _ _ _ _ _ us hl => match us, hl with | [_, _, _], _ => rfl
  have F16 := fun_mk (st := s_l_number) l16 c16 k16
  have b16 := F16.binds (ps := ["_law_thing_here"]) fun _ _ _ _ _ _ us hl => match us, hl with | [_], _ => rfl
  have F17 := fun_mk (st := s_l_told) l17 c17 k17
  have b17 := F17.binds (ps := ["_law_thing_here"]) fun _ _ _ _ _ _ us hl => match us, hl with | [_], _ => rfl
  have F18 := fun_mk (st := s_l_truth) l18 c18 k18
  have b18 := F18.binds (ps := ["_law_found", "_law_due"]) fun _ _ _ _ _ _ us hl => match us, hl with | [_, _], _ => rfl
  have F19 := fun_mk (st := s_l_made) l19 c19 k19
  have b19 := F19.binds (ps := ["_law_top", "_law_bottom"]) fun _ _ _ _ _ _ us hl => match us, hl with | [_, _], _ => rfl
  have F20 := fun_mk (st := s_l_no_text) l20 c20 k20
  have b20 := F20.binds (ps := ["_law_thing_here"]) fun _ _ _ _ _ _ us hl => match us, hl with | [_], _ => rfl
  have F21 := fun_mk (st := s_law) l21 c21 k21
  have b21 := F21.binds (ps := ["_law_script"]) fun _ _ _ _ _ _ us hl => match us, hl with | [_], _ => rfl
  have Fi_NoTable := fun_mk (st := si_NoTable) li_NoTable ci_NoTable ki_NoTable
  have bi_NoTable := Fi_NoTable.binds (ps := ["self", "row"]) fun _ _ _ _ _ _ us hl => match us, hl with | [_, _], _ => rfl
  have Fi_NoPlan := fun_mk (st := si_NoPlan) li_NoPlan ci_NoPlan ki_NoPlan
  have bi_NoPlan := Fi_NoPlan.binds (ps := ["self", "step"]) fun _ _ _ _ _ _ us hl => match us, hl with | [_, _], _ => rfl
  have Fi_NoTelling := fun_mk (st := si_NoTelling) li_NoTelling ci_NoTelling ki_NoTelling
  have bi_NoTelling := Fi_NoTelling.binds (ps := ["self", "part"]) fun _ _ _ _ _ _ us hl => match us, hl with | [_, _], _ => rfl
  have T : Txt K mg ⟨_, _, _, _, _, _, _, _, _, _, _, _, _, _, _, _, _, _, _, _, _, _, _, _, _, _, _, _, _, _, _, _, _, _, _, _, _, _, _, _, _, _, _, _, C_NoNumber, C_NoDay, C_NoSpace, C_TooMany, C_NoRow, C_NoName, C_MarkError, C_NoTable, FI_NoTable, _, C_NoPlan, FI_NoPlan, _, C_NoTelling, FI_NoTelling, _, g_DIGITS, g_MOST_FIGURES, g_MOST_BOTTOM⟩ := ⟨F0, PySem.W.mg_of X G a0, k0, b0, F1, PySem.W.mg_of X G a1, k1, b1, F2, PySem.W.mg_of X G a2, k2, b2, F3, PySem.W.mg_of X G a3, k3, b3, bd3, F4, PySem.W.mg_of X G a4, k4, b4, F5, PySem.W.mg_of X G a5, k5, b5, F6, PySem.W.mg_of X G a6, k6, b6, F7, PySem.W.mg_of X G a7, k7, b7, F8, PySem.W.mg_of X G a8, k8, b8, F9, PySem.W.mg_of X G a9, k9, b9, F10, PySem.W.mg_of X G a10, k10, b10, F11, PySem.W.mg_of X G a11, k11, b11, F12, PySem.W.mg_of X G a12, k12, b12, F13, PySem.W.mg_of X G a13, k13, b13, F14, PySem.W.mg_of X G a14, k14, b14, F15, PySem.W.mg_of X G a15, k15, b15, F16, PySem.W.mg_of X G a16, k16, b16, F17, PySem.W.mg_of X G a17, k17, b17, F18, PySem.W.mg_of X G a18, k18, b18, F19, PySem.W.mg_of X G a19, k19, b19, F20, PySem.W.mg_of X G a20, k20, b20, F21, PySem.W.mg_of X G a21, k21, b21, PySem.W.mg_of X G n_NoNumber, n_NoNumber, x_NoNumber, e_NoNumber, PySem.W.mg_of X G n_NoDay, n_NoDay, x_NoDay, e_NoDay, PySem.W.mg_of X G n_NoSpace, n_NoSpace, x_NoSpace, e_NoSpace, PySem.W.mg_of X G n_TooMany, n_TooMany, x_TooMany, e_TooMany, PySem.W.mg_of X G n_NoRow, n_NoRow, x_NoRow, e_NoRow, PySem.W.mg_of X G n_NoName, n_NoName, x_NoName, e_NoName, PySem.W.mg_of X G n_MarkError, PySem.W.mg_of X G n_NoTable, o_NoTable, Fi_NoTable, bi_NoTable, e_NoTable, PySem.W.mg_of X G n_NoPlan, o_NoPlan, Fi_NoPlan, bi_NoPlan, e_NoPlan, PySem.W.mg_of X G n_NoTelling, o_NoTelling, Fi_NoTelling, bi_NoTelling, e_NoTelling, y_NoNumber, y_NoDay, y_NoTable, y_NoPlan, y_NoSpace, y_NoTelling, y_TooMany, y_NoRow, y_NoName, kk_NoNumber_NoNumber, kk_NoNumber_NoDay, kk_NoNumber_NoTable, kk_NoNumber_NoPlan, kk_NoNumber_NoSpace, kk_NoNumber_NoTelling, kk_NoNumber_TooMany, kk_NoNumber_NoRow, kk_NoNumber_NoName, kk_NoDay_NoNumber, kk_NoDay_NoDay, kk_NoDay_NoTable, kk_NoDay_NoPlan, kk_NoDay_NoSpace, kk_NoDay_NoTelling, kk_NoDay_TooMany, kk_NoDay_NoRow, kk_NoDay_NoName, kk_NoTable_NoNumber, kk_NoTable_NoDay, kk_NoTable_NoTable, kk_NoTable_NoPlan, kk_NoTable_NoSpace, kk_NoTable_NoTelling, kk_NoTable_TooMany, kk_NoTable_NoRow, kk_NoTable_NoName, kk_NoPlan_NoNumber, kk_NoPlan_NoDay, kk_NoPlan_NoTable, kk_NoPlan_NoPlan, kk_NoPlan_NoSpace, kk_NoPlan_NoTelling, kk_NoPlan_TooMany, kk_NoPlan_NoRow, kk_NoPlan_NoName, kk_NoSpace_NoNumber, kk_NoSpace_NoDay, kk_NoSpace_NoTable, kk_NoSpace_NoPlan, kk_NoSpace_NoSpace, kk_NoSpace_NoTelling, kk_NoSpace_TooMany, kk_NoSpace_NoRow, kk_NoSpace_NoName, kk_NoTelling_NoNumber, kk_NoTelling_NoDay, kk_NoTelling_NoTable, kk_NoTelling_NoPlan, kk_NoTelling_NoSpace, kk_NoTelling_NoTelling, kk_NoTelling_TooMany, kk_NoTelling_NoRow, kk_NoTelling_NoName, kk_TooMany_NoNumber, kk_TooMany_NoDay, kk_TooMany_NoTable, kk_TooMany_NoPlan, kk_TooMany_NoSpace, kk_TooMany_NoTelling, kk_TooMany_TooMany, kk_TooMany_NoRow, kk_TooMany_NoName, kk_NoRow_NoNumber, kk_NoRow_NoDay, kk_NoRow_NoTable, kk_NoRow_NoPlan, kk_NoRow_NoSpace, kk_NoRow_NoTelling, kk_NoRow_TooMany, kk_NoRow_NoRow, kk_NoRow_NoName, kk_NoName_NoNumber, kk_NoName_NoDay, kk_NoName_NoTable, kk_NoName_NoPlan, kk_NoName_NoSpace, kk_NoName_NoTelling, kk_NoName_TooMany, kk_NoName_NoRow, kk_NoName_NoName, kk_NoNumber_MarkError, kk_NoNumber_ValueError, kk_NoDay_MarkError, kk_NoDay_ValueError, kk_NoTable_MarkError, kk_NoTable_ValueError, kk_NoPlan_MarkError, kk_NoPlan_ValueError, kk_NoSpace_MarkError, kk_NoSpace_ValueError, kk_NoTelling_MarkError, kk_NoTelling_ValueError, kk_TooMany_MarkError, kk_TooMany_ValueError, kk_NoRow_MarkError, kk_NoRow_ValueError, kk_NoName_MarkError, kk_NoName_ValueError, PySem.W.mg_of X G w_DIGITS, PySem.W.mg_of X G w_MOST_FIGURES, PySem.W.mg_of X G w_MOST_BOTTOM, PySem.W.mg_none_of X G z_isinstance, PySem.W.mg_none_of X G z_int, PySem.W.mg_none_of X G z_bool, PySem.W.mg_none_of X G z_tuple, PySem.W.mg_none_of X G z_str, PySem.W.mg_none_of X G z_abs, PySem.W.mg_none_of X G z_len, PySem.W.mg_none_of X G z_all, PySem.W.mg_none_of X G z_ValueError⟩
  exact ⟨PySem.W.fnOf "law" "law" (defArgs s_law) (defBody s_law) (defScope s_law) .none kV21 dc21 pm21 an21 cd21 ct21, fun s v => .of_eq rfl, fun base _ _ => ok_law T⟩
theorem walk {l : PySem.W.OpenLaw} {q : Program} {loose : List Str} {XP : (Str → Option Value) → Heap → Prop} {YP : World → Heap → Prop} {d : DefRec} {K : Params → PySem.W.Frag} (hn : l.most = some 63) (hdf : d.params.defaults = [])
    (hY : ∀ (w : World) (h : Heap), YP w h → (K w.params).In h)
    (F : ∀ (w : World) (mg : Str → Option Value) (fa : Addr) (h : Heap), (K w.params).In h → h.Ns mainGlobals mg → mg d.name = some (.ref fa) →
      ∃ fd : FuncData, (∀ (s : Shared) (u : Value), BindsTo s fd ⟨[u], []⟩ [("_law_script", u)]) ∧ ∀ base : Heap, (K w.params).In base → base.Ns mainGlobals mg → FnOk l.prog w (K w.params) mg base CX0 6 fa fd ["_law_script"] (sp_law (K w.params))) :
    PySem.W.WalkO q loose XP YP l.row.toRowW d [] (fun f vs => PySem.call f vs) :=
  L2.walk_of (n := 63) (k := 6) (x := "_law_script") (CX := fun _ => CX0) (sp := fun w => sp_law (K w.params)) hn (by decide) hdf ⟨rfl, by decide, by decide⟩ hY F (fun _ _ a ns hl _ hS => ⟨a, ns, rfl, hS, hl, fun _ => rfl⟩) fun _ _ _ _ _ z => z
end MyLaw
open PySem PySem.W PyProof.Rows
set_option maxRecDepth 100000 in
set_option maxHeartbeats 0 in
theorem PySem.Challenge.cw_markscale_k96_things_and_refusals_holds : PySem.Challenge.rw_markscale_k96_things_and_refusals.Holds := by
  w_on; o_law; k_head; (case hw => w_witness2)
  k_fill
  refine MyLaw.walk (l := PySem.Challenge.rw_markscale_k96_things_and_refusals) rfl rfl (fun w h Y => PySem.W.kIn_of Y) ?F
  case F =>
    intro w mg fa h KX G hmg
    refine' MyLaw.all_mk KX G hmg ?a0 ?l0 ?c0 ?k0 ?a1 ?l1 ?c1 ?k1 ?a2 ?l2 ?c2 ?k2 ?a3 ?l3 ?c3 ?k3 ?dl3 ?a4 ?l4 ?c4 ?k4 ?a5 ?l5 ?c5 ?k5 ?a6 ?l6 ?c6 ?k6 ?a7 ?l7 ?c7 ?k7 ?a8 ?l8 ?c8 ?k8 ?a9 ?l9 ?c9 ?k9 ?a10 ?l10 ?c10 ?k10 ?a11 ?l11 ?c11 ?k11 ?a12 ?l12 ?c12 ?k12 ?a13 ?l13 ?c13 ?k13 ?a14 ?l14 ?c14 ?k14 ?a15 ?l15 ?c15 ?k15 ?a16 ?l16 ?c16 ?k16 ?a17 ?l17 ?c17 ?k17 ?a18 ?l18 ?c18 ?k18 ?a19 ?l19 ?c19 ?k19 ?a20 ?l20 ?c20 ?k20 ?a21 ?l21 ?c21 ?k21 ?w_DIGITS ?w_MOST_FIGURES ?w_MOST_BOTTOM ?n_NoNumber ?x_NoNumber ?e_NoNumber ?n_NoDay ?x_NoDay ?e_NoDay ?n_NoSpace ?x_NoSpace ?e_NoSpace ?n_TooMany ?x_TooMany ?e_TooMany ?n_NoRow ?x_NoRow ?e_NoRow ?n_NoName ?x_NoName ?e_NoName ?n_MarkError ?n_NoTable ?fi_NoTable ?li_NoTable ?ci_NoTable ?ki_NoTable ?o_NoTable ?e_NoTable ?n_NoPlan ?fi_NoPlan ?li_NoPlan ?ci_NoPlan ?ki_NoPlan ?o_NoPlan ?e_NoPlan ?n_NoTelling ?fi_NoTelling ?li_NoTelling ?ci_NoTelling ?ki_NoTelling ?o_NoTelling ?e_NoTelling ?y_NoNumber ?y_NoDay ?y_NoTable ?y_NoPlan ?y_NoSpace ?y_NoTelling ?y_TooMany ?y_NoRow ?y_NoName ?kk_NoNumber_NoNumber ?kk_NoNumber_NoDay ?kk_NoNumber_NoTable ?kk_NoNumber_NoPlan ?kk_NoNumber_NoSpace ?kk_NoNumber_NoTelling ?kk_NoNumber_TooMany ?kk_NoNumber_NoRow ?kk_NoNumber_NoName ?kk_NoDay_NoNumber ?kk_NoDay_NoDay ?kk_NoDay_NoTable ?kk_NoDay_NoPlan ?kk_NoDay_NoSpace ?kk_NoDay_NoTelling ?kk_NoDay_TooMany ?kk_NoDay_NoRow ?kk_NoDay_NoName ?kk_NoTable_NoNumber ?kk_NoTable_NoDay ?kk_NoTable_NoTable ?kk_NoTable_NoPlan ?kk_NoTable_NoSpace ?kk_NoTable_NoTelling ?kk_NoTable_TooMany ?kk_NoTable_NoRow ?kk_NoTable_NoName ?kk_NoPlan_NoNumber ?kk_NoPlan_NoDay ?kk_NoPlan_NoTable ?kk_NoPlan_NoPlan ?kk_NoPlan_NoSpace ?kk_NoPlan_NoTelling ?kk_NoPlan_TooMany ?kk_NoPlan_NoRow ?kk_NoPlan_NoName ?kk_NoSpace_NoNumber ?kk_NoSpace_NoDay ?kk_NoSpace_NoTable ?kk_NoSpace_NoPlan ?kk_NoSpace_NoSpace ?kk_NoSpace_NoTelling ?kk_NoSpace_TooMany ?kk_NoSpace_NoRow ?kk_NoSpace_NoName ?kk_NoTelling_NoNumber ?kk_NoTelling_NoDay ?kk_NoTelling_NoTable ?kk_NoTelling_NoPlan ?kk_NoTelling_NoSpace ?kk_NoTelling_NoTelling ?kk_NoTelling_TooMany ?kk_NoTelling_NoRow ?kk_NoTelling_NoName ?kk_TooMany_NoNumber ?kk_TooMany_NoDay ?kk_TooMany_NoTable ?kk_TooMany_NoPlan ?kk_TooMany_NoSpace ?kk_TooMany_NoTelling ?kk_TooMany_TooMany ?kk_TooMany_NoRow ?kk_TooMany_NoName ?kk_NoRow_NoNumber ?kk_NoRow_NoDay ?kk_NoRow_NoTable ?kk_NoRow_NoPlan ?kk_NoRow_NoSpace ?kk_NoRow_NoTelling ?kk_NoRow_TooMany ?kk_NoRow_NoRow ?kk_NoRow_NoName ?kk_NoName_NoNumber ?kk_NoName_NoDay ?kk_NoName_NoTable ?kk_NoName_NoPlan ?kk_NoName_NoSpace ?kk_NoName_NoTelling ?kk_NoName_TooMany ?kk_NoName_NoRow ?kk_NoName_NoName ?kk_NoNumber_MarkError ?kk_NoNumber_ValueError ?kk_NoDay_MarkError ?kk_NoDay_ValueError ?kk_NoTable_MarkError ?kk_NoTable_ValueError ?kk_NoPlan_MarkError ?kk_NoPlan_ValueError ?kk_NoSpace_MarkError ?kk_NoSpace_ValueError ?kk_NoTelling_MarkError ?kk_NoTelling_ValueError ?kk_TooMany_MarkError ?kk_TooMany_ValueError ?kk_NoRow_MarkError ?kk_NoRow_ValueError ?kk_NoName_MarkError ?kk_NoName_ValueError ?z_isinstance ?z_int ?z_bool ?z_tuple ?z_str ?z_abs ?z_len ?z_all ?z_ValueError
    all_goals try k_is
    (case x_NoNumber => k_exc)
    (case e_NoNumber => kts_exm)
    (case x_NoDay => k_exc)
    (case e_NoDay => kts_exm)
    (case x_NoSpace => k_exc)
    (case e_NoSpace => kts_exm)
    (case x_TooMany => k_exc)
    (case e_TooMany => kts_exm)
    (case x_NoRow => k_exc)
    (case e_NoRow => kts_exm)
    (case x_NoName => k_exc)
    (case e_NoName => kts_exm)
    (case o_NoTable => (refine' ⟨?_, ?_, ?_, ?_, ?_, ?_⟩; kernel_rfl; k_is; kernel_rfl; k_is; k_is; k_is))
    (case e_NoTable => kts_exm)
    (case o_NoPlan => (refine' ⟨?_, ?_, ?_, ?_, ?_, ?_⟩; kernel_rfl; k_is; kernel_rfl; k_is; k_is; k_is))
    (case e_NoPlan => kts_exm)
    (case o_NoTelling => (refine' ⟨?_, ?_, ?_, ?_, ?_, ?_⟩; kernel_rfl; k_is; kernel_rfl; k_is; k_is; k_is))
    (case e_NoTelling => kts_exm)
    (case y_NoNumber => (refine' ⟨?_, ?_, ?_, ?_, ?_, ?_, ?_⟩ <;> k_is))
    (case y_NoDay => (refine' ⟨?_, ?_, ?_, ?_, ?_, ?_, ?_⟩ <;> k_is))
    (case y_NoTable => (refine' ⟨?_, ?_, ?_, ?_, ?_, ?_, ?_⟩ <;> k_is))
    (case y_NoPlan => (refine' ⟨?_, ?_, ?_, ?_, ?_, ?_, ?_⟩ <;> k_is))
    (case y_NoSpace => (refine' ⟨?_, ?_, ?_, ?_, ?_, ?_, ?_⟩ <;> k_is))
    (case y_NoTelling => (refine' ⟨?_, ?_, ?_, ?_, ?_, ?_, ?_⟩ <;> k_is))
    (case y_TooMany => (refine' ⟨?_, ?_, ?_, ?_, ?_, ?_, ?_⟩ <;> k_is))
    (case y_NoRow => (refine' ⟨?_, ?_, ?_, ?_, ?_, ?_, ?_⟩ <;> k_is))
    (case y_NoName => (refine' ⟨?_, ?_, ?_, ?_, ?_, ?_, ?_⟩ <;> k_is))
    (case kk_NoNumber_NoNumber => kit_is)
    (case kk_NoNumber_NoDay => kit_is)
    (case kk_NoNumber_NoTable => kit_is)
    (case kk_NoNumber_NoPlan => kit_is)
    (case kk_NoNumber_NoSpace => kit_is)
    (case kk_NoNumber_NoTelling => kit_is)
    (case kk_NoNumber_TooMany => kit_is)
    (case kk_NoNumber_NoRow => kit_is)
    (case kk_NoNumber_NoName => kit_is)
    (case kk_NoDay_NoNumber => kit_is)
    (case kk_NoDay_NoDay => kit_is)
    (case kk_NoDay_NoTable => kit_is)
    (case kk_NoDay_NoPlan => kit_is)
    (case kk_NoDay_NoSpace => kit_is)
    (case kk_NoDay_NoTelling => kit_is)
    (case kk_NoDay_TooMany => kit_is)
    (case kk_NoDay_NoRow => kit_is)
    (case kk_NoDay_NoName => kit_is)
    (case kk_NoTable_NoNumber => kit_is)
    (case kk_NoTable_NoDay => kit_is)
    (case kk_NoTable_NoTable => kit_is)
    (case kk_NoTable_NoPlan => kit_is)
    (case kk_NoTable_NoSpace => kit_is)
    (case kk_NoTable_NoTelling => kit_is)
    (case kk_NoTable_TooMany => kit_is)
    (case kk_NoTable_NoRow => kit_is)
    (case kk_NoTable_NoName => kit_is)
    (case kk_NoPlan_NoNumber => kit_is)
    (case kk_NoPlan_NoDay => kit_is)
    (case kk_NoPlan_NoTable => kit_is)
    (case kk_NoPlan_NoPlan => kit_is)
    (case kk_NoPlan_NoSpace => kit_is)
    (case kk_NoPlan_NoTelling => kit_is)
    (case kk_NoPlan_TooMany => kit_is)
    (case kk_NoPlan_NoRow => kit_is)
    (case kk_NoPlan_NoName => kit_is)
    (case kk_NoSpace_NoNumber => kit_is)
    (case kk_NoSpace_NoDay => kit_is)
    (case kk_NoSpace_NoTable => kit_is)
    (case kk_NoSpace_NoPlan => kit_is)
    (case kk_NoSpace_NoSpace => kit_is)
    (case kk_NoSpace_NoTelling => kit_is)
    (case kk_NoSpace_TooMany => kit_is)
    (case kk_NoSpace_NoRow => kit_is)
    (case kk_NoSpace_NoName => kit_is)
    (case kk_NoTelling_NoNumber => kit_is)
    (case kk_NoTelling_NoDay => kit_is)
    (case kk_NoTelling_NoTable => kit_is)
    (case kk_NoTelling_NoPlan => kit_is)
    (case kk_NoTelling_NoSpace => kit_is)
    (case kk_NoTelling_NoTelling => kit_is)
    (case kk_NoTelling_TooMany => kit_is)
    (case kk_NoTelling_NoRow => kit_is)
    (case kk_NoTelling_NoName => kit_is)
    (case kk_TooMany_NoNumber => kit_is)
    (case kk_TooMany_NoDay => kit_is)
    (case kk_TooMany_NoTable => kit_is)
    (case kk_TooMany_NoPlan => kit_is)
    (case kk_TooMany_NoSpace => kit_is)
    (case kk_TooMany_NoTelling => kit_is)
    (case kk_TooMany_TooMany => kit_is)
    (case kk_TooMany_NoRow => kit_is)
    (case kk_TooMany_NoName => kit_is)
    (case kk_NoRow_NoNumber => kit_is)
    (case kk_NoRow_NoDay => kit_is)
    (case kk_NoRow_NoTable => kit_is)
    (case kk_NoRow_NoPlan => kit_is)
    (case kk_NoRow_NoSpace => kit_is)
    (case kk_NoRow_NoTelling => kit_is)
    (case kk_NoRow_TooMany => kit_is)
    (case kk_NoRow_NoRow => kit_is)
    (case kk_NoRow_NoName => kit_is)
    (case kk_NoName_NoNumber => kit_is)
    (case kk_NoName_NoDay => kit_is)
    (case kk_NoName_NoTable => kit_is)
    (case kk_NoName_NoPlan => kit_is)
    (case kk_NoName_NoSpace => kit_is)
    (case kk_NoName_NoTelling => kit_is)
    (case kk_NoName_TooMany => kit_is)
    (case kk_NoName_NoRow => kit_is)
    (case kk_NoName_NoName => kit_is)
    (case kk_NoNumber_MarkError => kit_is)
    (case kk_NoNumber_ValueError => kit_is)
    (case kk_NoDay_MarkError => kit_is)
    (case kk_NoDay_ValueError => kit_is)
    (case kk_NoTable_MarkError => kit_is)
    (case kk_NoTable_ValueError => kit_is)
    (case kk_NoPlan_MarkError => kit_is)
    (case kk_NoPlan_ValueError => kit_is)
    (case kk_NoSpace_MarkError => kit_is)
    (case kk_NoSpace_ValueError => kit_is)
    (case kk_NoTelling_MarkError => kit_is)
    (case kk_NoTelling_ValueError => kit_is)
    (case kk_TooMany_MarkError => kit_is)
    (case kk_TooMany_ValueError => kit_is)
    (case kk_NoRow_MarkError => kit_is)
    (case kk_NoRow_ValueError => kit_is)
    (case kk_NoName_MarkError => kit_is)
    (case kk_NoName_ValueError => kit_is)
