import PyProof.Rows.All
import Wide.All
import OpenK.AllK
import Wide.FinOn
import Lean
import PyProof.EqAt
import PyProof.EqKinds
import PyProof.TupleCall
import PyProof.NeKinds
import PyProof.SumWalkG
import PySem.Challenge.RW_markscale_k46_facets_and_ranks
set_option compiler.extract_closed false
set_option Elab.async false
set_option linter.all false
set_option maxRecDepth 100000
section
set_option maxRecDepth 100000
set_option maxHeartbeats 0
namespace MyLaw
open PySem PySem.W
noncomputable def hdF (s : String) : Str := ⟨⟨(PySem.W.S.toListS s).map Char.toNat⟩⟩
theorem hdFe : @Str.ofString = hdF := by
  rw [Str.ofString_eq_byList]; funext s
  show (⟨⟨(String.toList s).map Char.toNat⟩⟩ : Str) = _
  rw [PySem.W.S.toListS_eq]; rfl
abbrev hdP : Program := PySem.Challenge.pw_markscale_k46_facets_and_ranks
abbrev hdR : OpenRow := OpenLaw.row PySem.Challenge.rw_markscale_k46_facets_and_ranks
noncomputable def hdG : PSigma fun G : (String → Str) → Program => PySem.Challenge.pw_markscale_k46_facets_and_ranks = G Str.ofString := by
  apply PSigma.mk
  case snd =>
    delta PySem.Challenge.pw_markscale_k46_facets_and_ranks
    generalize Str.ofString = f
    exact rfl
noncomputable def hdK : List Nat := [1, 2, 3, 4, 5, 6, 7, 8, 9, 10, 12, 14, 15, 17, 18, 19, 20, 21, 22, 23, 25, 26, 27, 28, 29, 30, 31, 32, 33, 34, 35, 36, 37, 38, 39]
noncomputable def hdV : Program := PySem.W.view hdP hdK
end MyLaw
noncomputable def PySem.W.Fast.tw6859472571192623885 : PySem.Program := MyLaw.hdG.1 MyLaw.hdF
theorem PySem.W.Fast.te6859472571192623885 : PySem.Challenge.pw_markscale_k46_facets_and_ranks = PySem.W.Fast.tw6859472571192623885 := MyLaw.hdG.2.trans (congrArg MyLaw.hdG.1 MyLaw.hdFe)
namespace MyLaw
open PySem PySem.W
noncomputable abbrev hdQ : Program := PySem.W.Fast.tw6859472571192623885
noncomputable def hdT : Program := PySem.W.view hdQ hdK
theorem hdE : hdV = hdT := congrArg (fun p => PySem.W.view p hdK) PySem.W.Fast.te6859472571192623885
noncomputable abbrev hdX (q : Program) (s : Shared) : Bool := xlAt q [] s && recOk (OpenRow.toRowW hdR).records s
def HdHyp (K : Params → Frag) (as : List Addr) : Prop := ∀ (K' : Params → Frag) (as' : List Addr), (∀ P, as' = (K' P).map (·.1)) → K' = K → as' = as → hdR.Holds
def hdPick (K : Params → Frag) (as : List Addr) (_ : HdHyp K as → hdR.Holds) (e : ∀ P, as = (K P).map (·.1)) : List Addr := let _ := e; as
local macro_rules
  | `(tactic| o_head (kHook $K $as $e)) => `(tactic| exact (show MyLaw.HdHyp _ _ from by assumption) $K $as $e rfl rfl)
noncomputable def hdKs : List Addr := by
  apply hdPick
  case x => intro hyp; k_head
  case e => intro P; kernel_rfl
noncomputable abbrev hdKf : Params → Frag := MyLaw.hdKs.heap_1
theorem hdKe : ∀ P, hdKs = (MyLaw.hdKs.heap_1 P).map (·.1) := by intro P; kernel_rfl
noncomputable def hdKG : PSigma fun G : (String → Str) → Params → Frag => MyLaw.hdKs.heap_1 = G Str.ofString := by
  apply PSigma.mk
  case snd =>
    delta MyLaw.hdKs.heap_1
    generalize Str.ofString = f
    exact rfl
noncomputable def hdTp (tb : String → Option Builtin) (p : Program) (w : World) (n₀ : Nat) (ann : Option Value) : Nat → SharedT → Thread → Option SharedT
  | 0, _, _ => none
  | n + 1, s, t => match through t with
    | true => some s
    | false => match stepOk n₀ ann t with
      | false => none
      | true => match stepT (denote tb) p w s t with
        | some (s', t') => hdTp tb p w n₀ ann n s' t'
        | none => none
theorem hdTp_of {tb : String → Option Builtin} {p : Program} {w : World} {n₀ : Nat} {ann : Option Value} : ∀ {n : Nat} {s r : SharedT} {t : Thread}, hdTp tb p w n₀ ann n s t = some r → topRun tb p w n₀ ann n s.abs t = some r.abs
  | 0, _, _, _, h => by cases h
  | n + 1, s, r, t, h => by
    unfold hdTp at h
    unfold topRun
    cases he : through t with
    | true => rw [he] at h; cases h; rfl
    | false =>
      rw [he] at h
      cases hk : stepOk n₀ ann t with
      | false => rw [hk] at h; cases h
      | true =>
        rw [hk] at h
        cases hs : stepT (denote tb) p w s t with
        | none => rw [hs] at h; cases h
        | some q => obtain ⟨s₂, t₂⟩ := q; rw [hs] at h; rw [stepT_spec hs]; exact hdTp_of h
noncomputable def hdFill : List Obj → Nat → BT → BT
  | [], _, t => t
  | o :: r, i, t => hdFill r (i + 1) (t.ins i o)
noncomputable def hdTo (s : Shared) : SharedT := ⟨hdFill s.heap.objs.toList 0 .nil, s.heap.objs.size, s.heap.life, s.gens, s.drawn, s.toks, s.os⟩
noncomputable abbrev hdTb := PySem.W.Fast.tw14364793385576792824
noncomputable abbrev hdAft (s₀ s₁ : Shared) : Option Shared := match staticsOk (importedModules hdQ.main.body) s₀.heap s₁.heap && namesBound hdQ s₁.heap && gensDone s₁ && laidKept s₀.heap s₁.heap with
  | true => some s₁
  | false => none
noncomputable def hdFrom (w : World) (s₀ : Shared) : Option Shared := match s₀.heap.isNs mainGlobals && s₀.gens.size == 0 with
  | true => (hdTp hdTb hdQ w s₀.heap.objs.size (s₀.heap.nsMap mainGlobals "__annotations__") 5970 (hdTo s₀) (topStub hdQ)).bind fun r => hdAft s₀ r.abs
  | false => none
noncomputable def hdRun (w : World) : Option Shared := (fencedOpening hdTb hdQ w 5970).bind (hdFrom w)
theorem hdO : ∀ w : World, (fencedOpening hdTb hdQ w 5970).map (fun s => (hdTo s).abs) = fencedOpening hdTb hdQ w 5970 := by intro w; kernel_rfl
theorem hdRun_of {w : World} {s : Shared} (h : hdRun w = some s) : openEnds hdTb hdQ w 5970 = some s := by
  unfold hdRun at h
  unfold openEnds
  have o := hdO w
  generalize fencedOpening hdTb hdQ w 5970 = x at h o ⊢
  cases x with
  | none => cases h
  | some s₀ =>
    have o : (hdTo s₀).abs = s₀ := Option.some.inj o
    have h : hdFrom w s₀ = some s := h
    show topFrom hdTb hdQ w 5970 s₀ = some s
    unfold hdFrom at h
    unfold topFrom
    cases hb : (s₀.heap.isNs mainGlobals && s₀.gens.size == 0) with
    | false => rw [hb] at h; cases h
    | true =>
      rw [hb] at h
      dsimp only at h ⊢
      obtain ⟨r, h1, h2⟩ := Option.bind_eq_some_iff.mp h
      have h3 := hdTp_of h1
      rw [o] at h3
      rw [h3]
      exact h2
noncomputable abbrev hdSee (s : Shared) := PySem.W.Fast.tw4187177175401517315 hdT [] (PySem.W.Fast.tw5923862056798008813 hdQ.main.body) (hdX hdT) true s
noncomputable abbrev hdGood := openGood hdT []
theorem hdA : ∀ w : World, Option.map (fun s => (hdSee s).1) (hdRun w) = some hdGood.1 := by intro w; kernel_rfl
theorem hdB : ∀ w : World, Option.map (fun s => ((hdSee s).2.1, (hdSee s).2.2.1, (hdSee s).2.2.2.1)) (hdRun w) = some (hdGood.2.1, hdGood.2.2.1, hdGood.2.2.2.1) := by intro w; kernel_rfl
theorem hdC : ∀ w : World, Option.map (fun s => (hdSee s).2.2.2.2) (hdRun w) = some hdGood.2.2.2.2 := by intro w; kernel_rfl
theorem hdD : ∀ w : World, Option.map (fun s => hdKs.map s.heap.get?) (hdRun w) = some ((hdKG.1 hdF w.params).map fun p => some p.2) := by intro w; kernel_rfl
theorem hdL : LeftO hdR.prog hdV [] (hdX hdV) (kHook hdKf hdKs hdKe).obs (kHook hdKf hdKs hdKe).val 5970 := by
  intro w
  show Option.map (fun s => (openSeen hdV [] (importedModules (PySem.Challenge.pw_markscale_k46_facets_and_ranks).main.body) (hdX hdV) true s, hdKs.map s.heap.get?)) (openEnds treeTable PySem.Challenge.pw_markscale_k46_facets_and_ranks w 5970) = some (openGood hdV [], (hdKf w.params).map fun p => some p.2)
  have eK : hdKf = hdKG.1 hdF := hdKG.2.trans (congrArg hdKG.1 hdFe)
  rw [hdE, PySem.W.Fast.te6859472571192623885, PySem.W.Fast.te4187177175401517315, PySem.W.Fast.te5923862056798008813, PySem.W.Fast.te14364793385576792824, eK]
  have a := hdA w
  have b := hdB w
  have c := hdC w
  have d := hdD w
  cases hx : hdRun w with
  | none => rw [hx] at a; cases a
  | some s =>
    rw [hx] at a b c d
    rw [show openEnds PySem.W.Fast.tw14364793385576792824 PySem.W.Fast.tw6859472571192623885 w 5970 = some s from hdRun_of hx]
    have a : (hdSee s).1 = hdGood.1 := Option.some.inj a
    have b := Option.some.inj b
    have c : (hdSee s).2.2.2.2 = hdGood.2.2.2.2 := Option.some.inj c
    have d : hdKs.map s.heap.get? = (hdKG.1 hdF w.params).map fun p => some p.2 := Option.some.inj d
    obtain ⟨b1, b2⟩ := Prod.mk.inj b
    obtain ⟨b2, b3⟩ := Prod.mk.inj b2
    show some (hdSee s, hdKs.map s.heap.get?) = some (hdGood, _)
    rw [d]
    generalize hdSee s = y at a b1 b2 b3 c ⊢
    obtain ⟨y1, y2, y3, y4, y5⟩ := y
    subst a b1 b2 b3 c
    rfl
end MyLaw
end
namespace L2
open PySem PySem.Spec PyProof.Rows

abbrev Key := Sum Int Str
noncomputable def keyIs : Key → Value → Bool
  | .inl k, v => Value.isInt k v
  | .inr x, v => Value.isStrOf x v
noncomputable def keyH (w : World) : Key → Int
  | .inl k => hashInt k
  | .inr x => hashStr w x
theorem keyIs_shape : ∀ {k : Key} {v : Value}, keyIs k v = true → (∃ i t, k = Sum.inl i ∧ v = Value.int i t) ∨ (∃ x t, k = Sum.inr x ∧ v = Value.str x t)
  | .inl i, v, h => by
    obtain ⟨t, e⟩ := Value.isInt_shape (k := i) (v := v) h
    exact .inl ⟨i, t, rfl, e⟩
  | .inr x, v, h => by
    obtain ⟨t, e⟩ := Value.isStrOf_shape (x := x) (v := v) h
    exact .inr ⟨x, t, rfl, e⟩
theorem keyIs_int (i : Int) (t : Tok) : keyIs (.inl i) (.int i t) = true := by simp [keyIs, Value.isInt]
theorem keyIs_str (x : Str) (t : Tok) : keyIs (.inr x) (.str x t) = true := by simp [keyIs, Value.isStrOf]
theorem key_ll (a b : Int) : decide ((Sum.inl a : Key) = Sum.inl b) = (a == b) := by
  by_cases e : a = b
  · subst e; simp
  · have h : ¬ (Sum.inl a : Key) = Sum.inl b := fun q => e (Sum.inl.inj q)
    rw [decide_eq_false h]
    exact (beq_eq_false_iff_ne.mpr e).symm
theorem key_rr (a b : Str) : decide ((Sum.inr a : Key) = Sum.inr b) = decide (a = b) := by
  by_cases e : a = b
  · subst e; simp
  · have h : ¬ (Sum.inr a : Key) = Sum.inr b := fun q => e (Sum.inr.inj q)
    rw [decide_eq_false h, decide_eq_false e]
theorem key_lr (a : Int) (b : Str) : decide ((Sum.inl a : Key) = Sum.inr b) = false := decide_eq_false (fun q => nomatch q)
theorem key_rl (a : Str) (b : Int) : decide ((Sum.inr a : Key) = Sum.inl b) = false := decide_eq_false (fun q => nomatch q)

noncomputable def mixKind (prog : Program) (w : World) : PySem.KeyKind prog w Key where
  is := keyIs
  hash := keyH w
  inj := fun v a b ha hb => by
    rcases keyIs_shape ha with ⟨i, t, rfl, rfl⟩ | ⟨x, t, rfl, rfl⟩
    · rcases keyIs_shape hb with ⟨j, u, rfl, e⟩ | ⟨y, u, rfl, e⟩
      · injection e with e1 _; rw [e1]
      · exact nomatch e
    · rcases keyIs_shape hb with ⟨j, u, rfl, e⟩ | ⟨y, u, rfl, e⟩
      · exact nomatch e
      · injection e with e1 _; rw [e1]
  byValue := fun k v h => by
    rcases keyIs_shape h with ⟨i, t, rfl, rfl⟩ | ⟨x, t, rfl, rfl⟩ <;> rfl
  pyHash := fun hv h => by
    rcases keyIs_shape hv with ⟨i, t, rfl, rfl⟩ | ⟨x, t, rfl, rfl⟩
    · exact wpAny_pyHash_int h
    · exact wpAny_pyHash_str h
  eqBool := fun hu hv h => by
    rcases keyIs_shape hu with ⟨i, t, rfl, rfl⟩ | ⟨x, t, rfl, rfl⟩
    · rcases keyIs_shape hv with ⟨j, u, rfl, rfl⟩ | ⟨y, u, rfl, rfl⟩
      · rw [key_ll] at h; exact wpAny_eqBool_int h
      · rw [key_lr] at h; exact SeqAt.EqAt.int_str i t y u _ _ _ _ h
    · rcases keyIs_shape hv with ⟨j, u, rfl, rfl⟩ | ⟨y, u, rfl, rfl⟩
      · rw [key_rl] at h; exact SeqAt.EqAt.str_int x t j u _ _ _ _ h
      · rw [key_rr] at h; exact wpAny_eqBool_str h
  «strs» := fun k x t v h => by
    rcases keyIs_shape h with ⟨i, u, rfl, e⟩ | ⟨y, u, rfl, e⟩
    · exact nomatch e
    · injection e with e1 _
      subst e1
      cases v <;> rfl

theorem mixKind_int (prog : Program) (w : World) (i : Int) (t : Tok) : (mixKind prog w).is (.inl i) (.int i t) = true := keyIs_int i t
theorem mixKind_str (prog : Program) (w : World) (x : Str) (t : Tok) : (mixKind prog w).is (.inr x) (.str x t) = true := keyIs_str x t
end L2

namespace L2
open PySem PySem.Spec PyProof.Rows

inductive V where
  | non | bl (b : Bool) | int (i : Int) | str (x : Str) | byt (b : Array UInt8) | flt (b : UInt64) | ref (a : Addr) | ty (n : String)
  deriving DecidableEq

noncomputable def RelV : V → Value → Prop
  | .non, u => u = Value.none
  | .bl b, u => u = Value.bool b
  | .int i, u => ∃ t, u = Value.int i t
  | .str x, u => ∃ t, u = Value.str x t
  | .byt b, u => ∃ t, u = Value.bytes b t
  | .flt b, u => ∃ t, u = Value.float b t
  | .ref a, u => u = Value.ref a
  | .ty n, u => u = Value.type n

abbrev Vals : List V → List Value → Prop := Paired RelV
theorem Vals.length {xs : List V} {us : List Value} (r : Vals xs us) : xs.length = us.length := Paired.length r
theorem Vals.get : ∀ {xs : List V} {us : List Value} {i : Nat} {x : V}, Vals xs us → xs[i]? = some x → ∃ u, us[i]? = some u ∧ RelV x u
  | _, _, _, _, .nil, e => by simp at e
  | _, _, 0, _, .cons r _, e => by simp at e; subst e; exact ⟨_, rfl, r⟩
  | _, _, i + 1, x, .cons _ t, e => by
    obtain ⟨u, h1, h2⟩ := Vals.get (i := i) (x := x) t (by simpa using e)
    exact ⟨u, by simpa using h1, h2⟩
theorem Vals.set {x : V} {u : Value} (r : RelV x u) : ∀ {xs : List V} {us : List Value} (i : Nat), Vals xs us → Vals (xs.set i x) (us.set i u)
  | _, _, _, .nil => .nil
  | _, _, 0, .cons _ t => .cons r t
  | _, _, i + 1, .cons q t => .cons q (Vals.set r i t)
theorem Vals.append : ∀ {xs ys : List V} {us ws : List Value}, Vals xs us → Vals ys ws → Vals (xs ++ ys) (us ++ ws)
  | _, _, _, _, .nil, s => s
  | _, _, _, _, .cons r t, s => .cons r (Vals.append t s)
theorem Vals.take : ∀ {xs : List V} {us : List Value} (n : Nat), Vals xs us → Vals (xs.take n) (us.take n)
  | _, _, 0, _ => .nil
  | _, _, _ + 1, .nil => .nil
  | _, _, n + 1, .cons r t => .cons r (Vals.take n t)
theorem Vals.drop : ∀ {xs : List V} {us : List Value} (n : Nat), Vals xs us → Vals (xs.drop n) (us.drop n)
  | _, _, 0, r => r
  | _, _, _ + 1, .nil => .nil
  | _, _, n + 1, .cons _ t => Vals.drop n t
theorem Vals.none_of : ∀ {xs : List V} {us : List Value} {i : Nat}, Vals xs us → xs[i]? = none → us[i]? = none := fun {xs us i} r e => by
  have h1 := r.length
  have h2 : xs.length ≤ i := List.getElem?_eq_none_iff.mp e
  exact List.getElem?_eq_none_iff.mpr (by omega)

noncomputable def RelO : Option V → Option Value → Prop
  | some v, some u => RelV v u
  | none, none => True
  | _, _ => False
noncomputable def KV {κ : Type} : List (κ × V) → List (κ × Value) → Prop := Paired fun (p : κ × V) (q : κ × Value) => p.1 = q.1 ∧ RelV p.2 q.2

noncomputable def kV : Key → V
  | .inl i => .int i
  | .inr x => .str x

inductive HO where
  /-- a list -/
  | lst (xs : List V)
  /-- a tuple (never changes) -/
  | tup (xs : List V)
  /-- a dict whose keys are ints and texts; one whose keys are tuples of ints and texts (the empty one is both) -/
  | dK (kvs : List (Key × V)) | dT (kvs : List (List Key × V))
  /-- a set of ints: its members, its size -/
  | set (S : Int → Bool) (n : Nat)
  /-- an instance of the class at C, its dict at dx, its attributes -/
  | ins (C dx : Addr) (fs : List (Str × V))
  /-- the dict of the instance at x -/
  | own (x : Addr)
  /-- the dict of an exception -/
  | xd (fs : List (Str × V))
  /-- a bound method, f of x -/
  | met (f x : Addr)
  /-- a range object lo, lo + 1, .. below hi -/
  | rng (lo hi : Int)
  /-- a thing that is known to the object (the script; a dict while a loop walks it): read, never written while it is so -/
  | frz (o : Obj) (u : HO)
  /-- a code object's table -/
  | tbl (ps : Array Value)
  /-- any other thing, by what is true of its one object (a def of one's own: SetO a S n := HO.ext fun h => ..) -/
  | ext (φ : Heap → Prop)

abbrev Hp := Addr → Option HO
noncomputable def upd (H : Hp) (a : Addr) (o : HO) : Hp := fun b => if b = a then some o else H b
theorem upd_same {H : Hp} {a : Addr} {o : HO} : upd H a o a = some o := by unfold upd; rw [if_pos rfl]
theorem upd_ne {H : Hp} {a b : Addr} {o : HO} (h : b ≠ a) : upd H a o b = H b := by unfold upd; rw [if_neg h]
theorem ne_of {H : Hp} {a b : Addr} {o u : HO} (h : H a = some o) (h' : H b = some u) (d : o ≠ u) : a ≠ b := by
  intro e; subst e; rw [h] at h'; exact d (Option.some.inj h')
theorem ne_of_none {H : Hp} {a b : Addr} {o : HO} (h : H a = some o) (h' : H b = none) : a ≠ b := by
  intro e; subst e; rw [h] at h'; cases h'

section
variable (P : Program) (w : World)
noncomputable def ObjOk (H : Hp) (h : Heap) (a : Addr) : HO → Prop
  | .lst xs => xs.length ≤ sizeLine ∧ ∃ (its : List Value) (n : Nat), Vals xs its ∧ h.get? a = some { cls := .type "list", data := .seq its.toArray n }
  | .tup xs => xs.length ≤ sizeLine ∧ ∃ its : List Value, Vals xs its ∧ IsTup h a its.toArray
  | .dK kvs => kvs.length ≤ sizeLine ∧ (a == sysModules) = false ∧ ∃ vs, KV kvs vs ∧ h.DictOf (mixKind P w) a vs
  | .dT kvs => kvs.length ≤ sizeLine ∧ (a == sysModules) = false ∧ ∃ xs : List (List Key × Addr × Value),
      Paired (fun (p : List Key × V) (q : List Key × Addr × Value) => p.1 = q.1 ∧ H q.2.1 = some (.tup (p.1.map kV)) ∧ RelV p.2 q.2.2) kvs xs ∧
      ∃ o es ep, h.get? a = some o ∧ o.ExactDict ∧ o.data = .dict es ep ∧ es.toList = xs.map (entryOfKey (tupleKind (mixKind P w))) ∧ (xs.map (·.1)).Nodup
  | .set S n => h.SetOf (intKind P w) a S n
  | .ins C dx fs => H dx = some (.own a) ∧ fs.length ≤ 1000 ∧ dx ≠ a ∧ h.get? a = some (PySem.W.instObj C dx) ∧
      ∃ mA, h.Ns1 dx mA ∧ (∀ f, RelO (fs.lookup f) (mA f)) ∧ PySem.Within mA (fs.map (·.1))
  | .own _ => ∃ o, h.get? a = some o
  | .xd fs => ∃ mA, h.Ns1 a mA ∧ ∀ f, RelO (fs.lookup f) (mA f)
  | .rng lo hi => ∃ t u v, h.get? a = some { cls := .type "range", data := .fields #[.int lo t, .int hi u, .int 1 v] }
  | .frz o u => h.get? a = some o ∧ ObjOk H h a u
  | .tbl ps => h.get? a = some { cls := .none, data := .fields ps }
  | .met f x => h.get? a = some (PySem.W.methodObj (.ref f) (.ref x))
  | .ext φ => φ h ∧ (∃ o, h.get? a = some o) ∧ ∀ h1 h2 : Heap, φ h1 → (∀ o, h1.get? a = some o → h2.get? a = some o) → φ h2
noncomputable def HOk (H : Hp) (h : Heap) : Prop := ∀ a o, H a = some o → ObjOk P w H h a o
end

section
variable {P : Program} {w : World} {H H' : Hp} {h h' : Heap} {a : Addr} {o : HO}
theorem ObjOk.lt (x : ObjOk P w H h a o) : a < h.objs.size := by
  cases o with
  | lst xs => obtain ⟨_, _, _, _, e⟩ := x; exact Heap.lt_size e
  | tup xs => obtain ⟨_, _, _, p⟩ := x; exact p.lt
  | dK kvs => obtain ⟨_, _, _, _, o, _, _, e, _⟩ := x; exact Heap.lt_size e
  | dT kvs => obtain ⟨_, _, _, _, o, _, _, e, _⟩ := x; exact Heap.lt_size e
  | set S n => obtain ⟨o, _, _, _, e, _⟩ := x; exact Heap.lt_size e
  | ins C dx fs => obtain ⟨_, _, _, e, _⟩ := x; exact Heap.lt_size e
  | own y => obtain ⟨_, e⟩ := x; exact Heap.lt_size e
  | xd fs => obtain ⟨_, ⟨_, _, _, e, _⟩, _⟩ := x; exact Heap.lt_size e
  | rng lo hi => obtain ⟨_, _, _, e⟩ := x; exact Heap.lt_size e
  | frz ob u => obtain ⟨e, _⟩ := x; exact Heap.lt_size e
  | tbl ps => exact Heap.lt_size (show h.get? a = some _ from x)
  | met f y => exact Heap.lt_size (show h.get? a = some _ from x)
  | ext φ => obtain ⟨_, ⟨_, e⟩, _⟩ := x; exact Heap.lt_size e
theorem Paired.mapP {α β : Type} {F G : α → β → Prop} : ∀ {l₁ : List α} {l₂ : List β}, Paired F l₁ l₂ → (∀ a b, F a b → G a b) → Paired G l₁ l₂
  | _, _, .nil, _ => .nil
  | _, _, .cons r t, f => .cons (f _ _ r) (Paired.mapP t f)
theorem ObjOk.stay (x : ObjOk P w H h a o) (k : ∀ b u, (b = a ∨ H b = some (.own a)) → h.get? b = some u → h'.get? b = some u)
    (ho : ∀ b, H b = some (.own a) → H' b = some (.own a)) (ht : ∀ b xs, H b = some (.tup xs) → H' b = some (.tup xs)) : ObjOk P w H' h' a o := by
  induction o with
  | lst xs => obtain ⟨z, its, n, r, e⟩ := x; exact ⟨z, its, n, r, k _ _ (.inl rfl) e⟩
  | tup xs => obtain ⟨z, its, r, ob, e, c⟩ := x; exact ⟨z, its, r, ob, k _ _ (.inl rfl) e, c⟩
  | dK kvs => obtain ⟨z, y, vs, r, ob, es, ep, e, c⟩ := x; exact ⟨z, y, vs, r, ob, es, ep, k _ _ (.inl rfl) e, c⟩
  | dT kvs =>
    obtain ⟨z, y, xs, r, ob, es, ep, e, c⟩ := x
    exact ⟨z, y, xs, Paired.mapP r fun p q z => ⟨z.1, ht _ _ z.2.1, z.2.2⟩, ob, es, ep, k _ _ (.inl rfl) e, c⟩
  | set S n => obtain ⟨ob, es, ep, t, e, c⟩ := x; exact ⟨ob, es, ep, t, k _ _ (.inl rfl) e, c⟩
  | ins C dx fs =>
    obtain ⟨d, z, ne, e, mA, ⟨od, es, ep, e2, c⟩, r⟩ := x
    exact ⟨ho _ d, z, ne, k _ _ (.inl rfl) e, mA, ⟨od, es, ep, k _ _ (.inr d) e2, c⟩, r⟩
  | own y => obtain ⟨ob, e⟩ := x; exact ⟨ob, k _ _ (.inl rfl) e⟩
  | xd fs => obtain ⟨mA, ⟨od, es, ep, e, c⟩, r⟩ := x; exact ⟨mA, ⟨od, es, ep, k _ _ (.inl rfl) e, c⟩, r⟩
  | rng lo hi => obtain ⟨t, u, v, e⟩ := x; exact ⟨t, u, v, k _ _ (.inl rfl) e⟩
  | frz ob u ih => obtain ⟨e, q⟩ := x; exact ⟨k _ _ (.inl rfl) e, ih q⟩
  | tbl ps =>
    have e : h.get? a = some { cls := .none, data := .fields ps } := x
    show h'.get? a = some { cls := .none, data := .fields ps }
    exact k a _ (.inl rfl) e
  | met f y =>
    have e : h.get? a = some (PySem.W.methodObj (.ref f) (.ref y)) := x
    show h'.get? a = some (PySem.W.methodObj (.ref f) (.ref y))
    exact k a _ (.inl rfl) e
  | ext φ => obtain ⟨p, ⟨o, e⟩, st⟩ := x; exact ⟨st _ _ p fun o q => k _ _ (.inl rfl) q, ⟨o, k _ _ (.inl rfl) e⟩, st⟩
theorem HOk.lt (x : HOk P w H h) (e : H a = some o) : a < h.objs.size := (x a o e).lt
theorem HOk.fresh (x : HOk P w H h) (e : h.objs.size ≤ a) : H a = none := by
  cases q : H a with
  | none => rfl
  | some u => exact absurd (Nat.lt_of_lt_of_le (x.lt q) e) (Nat.lt_irrefl _)
theorem HOk.kept (x : HOk P w H h) (k : ∀ b u, h.get? b = some u → h'.get? b = some u) : HOk P w H h' := fun a o e =>
  (x a o e).stay (fun b u _ q => k b u q) (fun _ q => q) fun _ _ q => q
theorem HOk.laid (x : HOk P w H h) (k : ∀ b u, h.get? b = some u → h'.get? b = some u) (hp : h.objs.size ≤ a) (new : ObjOk P w (upd H a o) h' a o) : HOk P w (upd H a o) h' := fun b u e => by
  have hn := x.fresh hp
  by_cases hb : b = a
  · subst hb; rw [upd_same] at e; cases e; exact new
  · rw [upd_ne hb] at e
    exact (x b u e).stay (fun c v _ q => k c v q) (fun c q => by rw [upd_ne (ne_of_none q hn)]; exact q) fun c xs q => by rw [upd_ne (ne_of_none q hn)]; exact q
end

noncomputable def Rd (H : Hp) (a : Addr) (u : HO) : Prop := H a = some u ∨ ∃ o, H a = some (.frz o u)
theorem Rd.of {H : Hp} {a : Addr} {u : HO} (h : H a = some u) : Rd H a u := .inl h
theorem Rd.ok {P : Program} {w : World} {H : Hp} {h : Heap} {a : Addr} {u : HO} (r : Rd H a u) (x : HOk P w H h) : ObjOk P w H h a u := by
  rcases r with r | ⟨o, r⟩
  · exact x a u r
  · obtain ⟨_, q⟩ := x a _ r
    exact q
noncomputable def Mut : Option HO → Prop
  | some (.lst _) => True
  | some (.dK _) => True
  | some (.dT _) => True
  | some (.set _ _) => True
  | some (.ins _ _ _) => True
  | some (.ext _) => True
  | _ => False
section
variable {P : Program} {w : World} {H : Hp} {h h' : Heap} {x e : Addr} {o' : HO}
theorem HOk.write (ok : HOk P w H h) (mu : Mut (H x)) (he : e = x ∨ H e = some (.own x)) (k : ∀ b u, b ≠ e → h.get? b = some u → h'.get? b = some u) (heo : ∃ u, h'.get? e = some u)
    (new : ObjOk P w (upd H x o') h' x o') : HOk P w (upd H x o') h' := fun b u q => by
  have nown : ∀ c y, H c = some (.own y) → c ≠ x := fun c y r z => by subst z; rw [r] at mu; exact mu
  have ntup : ∀ c xs, H c = some (.tup xs) → c ≠ x := fun c xs r z => by subst z; rw [r] at mu; exact mu
  by_cases hb : b = x
  · subst hb; rw [upd_same] at q; cases q; exact new
  · rw [upd_ne hb] at q
    by_cases hbe : b = e
    · have q' : H b = some (.own x) := by
        rcases he with z | z
        · exact absurd (hbe.trans z) hb
        · rw [hbe]; exact z
      rw [q] at q'; cases q'
      obtain ⟨v, hv⟩ := heo
      exact ⟨v, by rw [hbe]; exact hv⟩
    · refine (ok b u q).stay (fun c v hc r => k c v ?_ r) (fun c r => by rw [upd_ne (nown c b r)]; exact r) fun c xs r => by rw [upd_ne (ntup c xs r)]; exact r
      rcases hc with rfl | hc
      · exact hbe
      · rintro rfl
        rcases he with z | z
        · exact nown c b hc z
        · rw [hc] at z; cases z; exact hb rfl
end

structure Un (fs ex : List Addr) (H H' : Hp) (h h' : Heap) : Prop where
  keep : ∀ b o, h.get? b = some o → H b = none → b ∉ fs → b ∉ ex → h'.get? b = some o
  slot : ∀ b o, h.get? b = some o → H b = none → b ∈ fs → b ∉ ex → ∃ sl, h'.get? b = some { o with slots := sl }
  free : ∀ b o, h.get? b = some o → H b = none → b ∉ ex → H' b = none
  there : ∀ b o, h.get? b = some o → b ∉ ex → ∃ o', h'.get? b = some o'
  tups : ∀ b xs, H b = some (.tup xs) → H' b = some (.tup xs)
  frzs : ∀ b o u, H b = some (.frz o u) → H' b = some (.frz o u)
  tbls : ∀ b ps, H b = some (.tbl ps) → ∃ more, H' b = some (.tbl (ps ++ more))
section
variable {fs fs' ex ex' : List Addr} {H H1 H2 : Hp} {h h1 h2 h' : Heap} {a x e : Addr} {o : HO}
theorem Un.any (u : Un fs ex H H1 h h1) {b : Addr} {ob : Obj} (q : h.get? b = some ob) (n : H b = none) (hx : b ∉ ex) : ∃ sl, h1.get? b = some { ob with slots := sl } := by
  by_cases hb : b ∈ fs
  · exact u.slot b ob q n hb hx
  · exact ⟨ob.slots, u.keep b ob q n hb hx⟩
theorem Un.trans (a : Un fs ex H H1 h h1) (b : Un fs ex H1 H2 h1 h2) : Un fs ex H H2 h h2 where
  keep := fun c ob q n hc hx => b.keep c ob (a.keep c ob q n hc hx) (a.free c ob q n hx) hc hx
  slot := fun c ob q n hc hx => by
    obtain ⟨sl, e1⟩ := a.slot c ob q n hc hx
    obtain ⟨sl', e2⟩ := b.slot c _ e1 (a.free c ob q n hx) hc hx
    exact ⟨sl', e2⟩
  free := fun c ob q n hx => by
    obtain ⟨o', e1⟩ := a.there c ob q hx
    exact b.free c o' e1 (a.free c ob q n hx) hx
  there := fun c ob q hx => by
    obtain ⟨o', e1⟩ := a.there c ob q hx
    exact b.there c o' e1 hx
  tups := fun c xs q => b.tups c xs (a.tups c xs q)
  frzs := fun c ob xs q => b.frzs c ob xs (a.frzs c ob xs q)
  tbls := fun c ps q => by
    obtain ⟨m1, e1⟩ := a.tbls c ps q
    obtain ⟨m2, e2⟩ := b.tbls c _ e1
    exact ⟨m1 ++ m2, by rw [e2, Array.append_assoc]⟩
theorem Un.kept (k : ∀ b u, h.get? b = some u → h'.get? b = some u) : Un fs ex H H h h' :=
  ⟨fun b ob q _ _ _ => k b ob q, fun b ob q _ _ _ => ⟨ob.slots, k b ob q⟩, fun _ _ _ n _ => n, fun b ob q _ => ⟨ob, k b ob q⟩, fun _ _ q => q, fun _ _ _ q => q, fun _ ps q => ⟨#[], by rw [q]; simp⟩⟩
theorem Un.refl : Un fs ex H H h h := Un.kept fun _ _ q => q
theorem Un.laid (k : ∀ b u, h.get? b = some u → h'.get? b = some u) (hp : h.objs.size ≤ a) (hn : H a = none) : Un fs ex H (upd H a o) h h' where
  keep := fun b u q _ _ _ => k b u q
  slot := fun b u q _ _ _ => ⟨u.slots, k b u q⟩
  free := fun b u q n _ => by rw [upd_ne (Nat.ne_of_lt (Nat.lt_of_lt_of_le (Heap.lt_size q) hp))]; exact n
  there := fun b u q _ => ⟨u, k b u q⟩
  tups := fun b xs q => by rw [upd_ne (ne_of_none q hn)]; exact q
  frzs := fun b u xs q => by rw [upd_ne (ne_of_none q hn)]; exact q
  tbls := fun b ps q => ⟨#[], by rw [upd_ne (ne_of_none q hn), q]; simp⟩
theorem Un.write (mu : Mut (H x)) (he : e = x ∨ H e = some (.own x)) (k : ∀ b u, b ≠ e → h.get? b = some u → h'.get? b = some u) (heo : ∃ u, h'.get? e = some u) : Un fs ex H (upd H x o) h h' := by
  have hx : ∀ b, H b = none → b ≠ x := fun b n z => by subst z; rw [n] at mu; exact mu
  have hb : ∀ b, H b = none → b ≠ e := fun b n z => by
    subst z
    rcases he with r | r
    · exact hx b n r
    · rw [n] at r; cases r
  have hm : ∀ b u, H b = some u → ¬ Mut (some u) → b ≠ x := fun b u q nm z => by subst z; rw [q] at mu; exact nm mu
  refine ⟨fun b u q n _ _ => k b u (hb b n) q, fun b u q n _ _ => ⟨u.slots, k b u (hb b n) q⟩, fun b u q n _ => by rw [upd_ne (hx b n)]; exact n, fun b u q _ => ?_,
    fun b xs q => by rw [upd_ne (hm b _ q fun z => z)]; exact q, fun b u xs q => by rw [upd_ne (hm b _ q fun z => z)]; exact q, fun b ps q => ⟨#[], by rw [upd_ne (hm b _ q fun z => z), q]; simp⟩⟩
  by_cases hbe : b = e
  · subst hbe; exact heo
  · exact ⟨u, k b u hbe q⟩
theorem Un.mono (u : Un fs ex H H1 h h1) (hs : ∀ b ∈ fs, b ∈ fs') (hx : ∀ b ∈ ex, b ∈ ex') : Un fs' ex' H H1 h h1 :=
  ⟨fun b ob q n hb he => u.keep b ob q n (fun z => hb (hs b z)) fun z => he (hx b z), fun _ _ q n _ he => u.any q n fun z => he (hx _ z), fun b ob q n he => u.free b ob q n fun z => he (hx b z), fun b ob q he => u.there b ob q fun z => he (hx b z), u.tups, u.frzs, u.tbls⟩
end

noncomputable def trk (h : Heap) (H : Hp) : List Addr := (List.range h.objs.size).filter fun a => (H a).isSome
noncomputable def hidT (h : Heap) (H : Hp) : Heap := PySem.W.hideAll h (trk h H)
theorem hidT_size (h : Heap) (H : Hp) : (hidT h H).objs.size = h.objs.size := PySem.W.hideAll_size _ _
theorem hidT_get {h : Heap} {H : Hp} {b : Addr} {o : Obj} (e : h.get? b = some o) (n : H b = none) : (hidT h H).get? b = some o :=
  PySem.W.hideAll_get _ e fun hm => by
    have q : (H b).isSome = true := (List.mem_filter.mp hm).2
    rw [n] at q; simp at q
theorem of_hidT {h : Heap} {H : Hp} {b : Addr} {o : Obj} (e : (hidT h H).get? b = some o) : h.get? b = some o ∧ H b = none := by
  have e' : h.get? b = some o := PySem.W.of_hideAll (trk h H) e
  refine ⟨e', ?_⟩
  cases q : H b with
  | none => rfl
  | some x =>
    have hm : b ∈ trk h H := List.mem_filter.mpr ⟨List.mem_range.mpr (Heap.lt_size e'), by simp [q]⟩
    have z : (hidT h H).get? b = none := PySem.W.hideAll_none (trk h H) hm
    rw [z] at e; cases e

noncomputable def allNews (g h : Heap) (L : Addr) : List (Addr × Obj) := (List.range h.objs.size).filterMap fun a => if a = L ∨ (g.get? a).isSome = true then none else (h.get? a).map fun o => (a, o)
noncomputable def rest (g h : Heap) (L d : Addr) : List (Addr × Obj) := (allNews g h L).filter fun p => decide (p.1 ≠ d)
end L2

namespace L2
open PySem PySem.Spec PyProof.Rows

structure Mod (K : PySem.W.Frag) (mg : Str → Option Value) (base : Heap) : Prop where
  kin : K.In base
  glob : base.Ns mainGlobals mg
  blt : ∃ mb, base.Ns builtinsNs mb ∧ ∀ x : Str, x ≠ "__name__" → mb x = bootBuiltins x
  nolimit : base.NoLimit

structure Cx where
  prog : Program
  w : World
  K : PySem.W.Frag
  mg : Str → Option Value
  base : Heap
  A : Around
  N : List Str
  s₀ : Shared
  H₀ : Hp
  env : Env
  outer : List Env
  stack : List Env
  ex : List Addr
  fn : Str → Bool
  calm : Bool
  pn : List (Addr × Obj)
  xe : Value → Shared → Prop
noncomputable def frs (l : List Env) : List Addr := l.filterMap (·.frame)
noncomputable abbrev Cx.fs (X : Cx) : List Addr := frs X.outer

noncomputable def Vis (sc : Scope) (x : Str) : Prop := sc.names.lookup x = some .local ∨ sc.names.lookup x = some .cell ∨ sc.names.lookup x = some .free
noncomputable def Loc (sc : Scope) (x : Str) : Prop := sc.names.lookup x = some .local ∨ sc.names.lookup x = some .cell
noncomputable def Look (env : Env) (h : Heap) (m : Str → Option Value) (x : Str) (u : Value) : Prop :=
  (env.kindOf x = some .local ∧ m x = some u) ∨ ((env.kindOf x = some .cell ∨ env.kindOf x = some .free) ∧ ∃ c, env.cells.lookup x = some c ∧ h.IsCell c (some u))

structure Cx.Ok (X : Cx) : Prop where
  mod : Mod X.K X.mg X.base
  kind : X.env.scope.kind = .function
  glob : X.env.globals = mainGlobals
  blt : X.env.builtins = builtinsNs
  above : X.s₀.heap.objs.size ≤ X.env.locals
  inj : ∀ x y c, X.env.cells.lookup x = some c → X.env.cells.lookup y = some c → x = y
  has : ∀ x, (X.env.kindOf x = some .cell ∨ X.env.kindOf x = some .free) → ∃ c, X.env.cells.lookup x = some c
  cab : ∀ x c, X.fn x = true → X.env.cells.lookup x = some c → X.s₀.heap.objs.size ≤ c
  hd : X.calm = true → X.A.handled = none
  frames : X.A.frames = some X.stack
  stk : X.stack = X.outer ∨ (X.stack = X.env :: X.outer ∧ X.env.frame = some X.env.locals)
  exf : ∀ b ∈ X.ex, b ≠ X.env.locals ∧ ∀ x c, X.env.cells.lookup x = some c → c ≠ b
  bs : ∀ b o, X.base.get? b = some o → X.s₀.heap.get? b = some o ∧ X.H₀ b = none
  bsz : X.base.objs.size ≤ X.s₀.heap.objs.size
  noex : ∀ b o, X.base.get? b = some o → b ∉ X.ex
  exfs : ∀ b ∈ X.ex, b ∉ X.fs
  funs : X.s₀.heap.FunFrames X.base X.outer
  frf : ∀ b ∈ X.fs, X.H₀ b = none

structure Inv (X : Cx) (pins : List (Addr × Obj)) (σ : List (Option V)) (H : Hp) (s : Shared) : Prop where
  ok : X.Ok
  os : s.os = X.s₀.os
  bare : AllBare s.gens
  base : Un X.fs X.ex X.H₀ H X.s₀.heap s.heap
  loc : ∃ m, s.heap.Ns X.env.locals m ∧ ∀ (i : Nat) (x : Str) (v : V), X.N[i]? = some x → σ[i]? = some (some v) → Vis X.env.scope x → ∃ u, RelV v u ∧ Look X.env s.heap m x u
  cell : ∀ x c, X.env.cells.lookup x = some c → ∃ v, s.heap.IsCell c v
  free : H X.env.locals = none
  freeC : ∀ x c, X.env.cells.lookup x = some c → H c = none
  pin : ∀ p ∈ X.pn ++ pins, s.heap.get? p.1 = some p.2 ∧ H p.1 = none ∧ p.1 ≠ X.env.locals ∧ p.1 ∉ X.fs ∧ ∀ v, p.2.data ≠ .cell v
  hok : HOk X.prog X.w H s.heap
  len : σ.length = X.N.length

section
variable {X : Cx} {pins : List (Addr × Obj)} {σ : List (Option V)} {H H' : Hp} {s : Shared} {h' : Heap}

theorem Cx.Ok.nofr (ok : X.Ok) {b : Addr} {o : Obj} (e : X.base.get? b = some o) : b ∉ X.fs := fun hb => by
  have := (ok.funs.mem hb).1
  rw [e] at this; cases this
theorem Inv.bs (I : Inv X pins σ H s) : ∀ b o, X.base.get? b = some o → s.heap.get? b = some o ∧ H b = none := fun b o e =>
  ⟨I.base.keep b o (I.ok.bs b o e).1 (I.ok.bs b o e).2 (I.ok.nofr e) (I.ok.noex b o e), I.base.free b o (I.ok.bs b o e).1 (I.ok.bs b o e).2 (I.ok.noex b o e)⟩
theorem Inv.bk (I : Inv X pins σ H s) : ∀ b o, X.base.get? b = some o → s.heap.get? b = some o := fun b o e => (I.bs b o e).1
theorem Inv.mod (I : Inv X pins σ H s) : Mod X.K X.mg X.base := I.ok.mod
theorem Inv.kIn (I : Inv X pins σ H s) : X.K.In s.heap := I.ok.mod.kin.keeps I.bk
theorem Inv.nolimit (I : Inv X pins σ H s) : s.heap.NoLimit := I.ok.mod.nolimit.keeps I.bk
theorem Inv.fr (I : Inv X pins σ H s) : ∃ m, Fr X.base X.env.locals s.heap m :=
  let ⟨m, hn, _⟩ := I.loc
  ⟨m, hn, I.bk, Nat.le_trans I.ok.bsz I.ok.above⟩
theorem Inv.lt (I : Inv X pins σ H s) : X.env.locals < s.heap.objs.size := let ⟨_, hn, _⟩ := I.loc; hn.lt
theorem Inv.sz (I : Inv X pins σ H s) : X.s₀.heap.objs.size ≤ s.heap.objs.size := Nat.le_trans I.ok.above (Nat.le_of_lt I.lt)
theorem Inv.nofs (I : Inv X pins σ H s) {a : Addr} (h : s.heap.objs.size ≤ a) : a ∉ X.fs := fun hb => by
  obtain ⟨_, o, ho, _⟩ := I.ok.funs.mem hb
  exact absurd (Nat.lt_of_lt_of_le (Heap.lt_size ho) (Nat.le_trans I.sz h)) (Nat.lt_irrefl _)
theorem Inv.cne (I : Inv X pins σ H s) : ∀ x c, X.env.cells.lookup x = some c → c ≠ X.env.locals := fun x c e z => by
  obtain ⟨v, o, ho, hd⟩ := I.cell x c e
  obtain ⟨m, ⟨o', es, ep, ho', hd', _⟩, _⟩ := I.loc
  rw [z, ho'] at ho; cases ho; rw [hd'] at hd; cases hd
theorem Inv.funs (I : Inv X pins σ H s) : s.heap.FunFrames X.base X.outer := by
  have all : ∀ (l : List Env), (∀ b ∈ frs l, b ∈ X.fs) → X.s₀.heap.FunFrames X.base l → s.heap.FunFrames X.base l := by
    intro l
    induction l with
    | nil => intro _ _; trivial
    | cons env r ih =>
      intro hs hl
      obtain ⟨hk, ⟨L, o, hf, hn, ho, hd⟩, hr⟩ := hl
      have hL : L ∈ X.fs := hs L (by unfold frs; rw [List.filterMap_cons, hf]; exact List.mem_cons_self)
      obtain ⟨sl, e⟩ := I.base.slot L o ho (I.ok.frf L hL) hL fun z => I.ok.exfs L z hL
      exact ⟨hk, ⟨L, _, hf, hn, e, hd⟩, ih (fun b hb => hs b (by unfold frs; rw [List.filterMap_cons, hf]; exact List.mem_cons_of_mem _ hb)) hr⟩
  exact all X.outer (fun _ hb => hb) I.ok.funs

theorem Inv.stack (I : Inv X pins σ H s) : s.heap.FunFrames X.base X.stack := by
  rcases I.ok.stk with e | ⟨e, hf⟩
  · rw [e]; exact I.funs
  · rw [e]
    obtain ⟨m, hn, _⟩ := I.loc
    refine .cons (by rw [I.ok.kind]; decide) hf hn ?_ I.funs
    exact Heap.get?_none_of_le (Nat.le_trans I.ok.bsz I.ok.above)
theorem Inv.stkSub (I : Inv X pins σ H s) : ∀ b ∈ frs X.stack, b ∈ X.env.locals :: X.fs := fun b hb => by
  rcases I.ok.stk with e | ⟨e, hf⟩
  · rw [e] at hb; exact List.mem_cons_of_mem _ hb
  · rw [e] at hb
    unfold frs at hb
    rw [List.filterMap_cons, hf] at hb
    exact hb
theorem Inv.stkFree (I : Inv X pins σ H s) : ∀ b ∈ frs X.stack, H b = none := fun b hb => by
  rcases List.mem_cons.mp (I.stkSub b hb) with e | hb
  · rw [e]; exact I.free
  · obtain ⟨_, o, ho, _⟩ := I.ok.funs.mem hb
    exact I.base.free b o ho (I.ok.frf b hb) fun z => I.ok.exfs b z hb

theorem Inv.step {g' : Array GenState} {t' : Nat} {d' : Drawn} {ch : List Addr} (I : Inv X pins σ H s)
    (hch : ∀ b ∈ ch, (b ∈ X.ex ∨ X.s₀.heap.objs.size ≤ b) ∧ b ≠ X.env.locals ∧ (∀ x c, X.env.cells.lookup x = some c → c ≠ b) ∧ ∀ p ∈ X.pn ++ pins, p.1 ≠ b)
    (keep : ∀ b o, b ≠ X.env.locals → b ∉ X.fs → b ∉ ch → s.heap.get? b = some o → H b = none → h'.get? b = some o)
    (slot : ∀ b o, b ≠ X.env.locals → b ∈ X.fs → b ∉ ch → s.heap.get? b = some o → H b = none → ∃ sl, h'.get? b = some { o with slots := sl }) (free : ∀ b o, b ∉ ch → s.heap.get? b = some o → H b = none → H' b = none)
    (there : ∀ b o, b ∉ ch → s.heap.get? b = some o → ∃ o', h'.get? b = some o')
    (tups : ∀ b xs, H b = some (.tup xs) → H' b = some (.tup xs)) (frzs : ∀ b o u, H b = some (.frz o u) → H' b = some (.frz o u)) (tbls : ∀ b ps, H b = some (.tbl ps) → ∃ more, H' b = some (.tbl (ps ++ more)))
    (ns : ∀ m, s.heap.Ns X.env.locals m → h'.Ns X.env.locals m) (hok : HOk X.prog X.w H' h') (hg : AllBare g') :
    Inv X pins σ H' { s with heap := h', gens := g', drawn := d', toks := t' } := by
  have neL : ∀ b o, X.s₀.heap.get? b = some o → b ≠ X.env.locals := fun b o e => Nat.ne_of_lt (Nat.lt_of_lt_of_le (Heap.lt_size e) I.ok.above)
  have neC : ∀ b o, X.s₀.heap.get? b = some o → b ∉ X.ex → b ∉ ch := fun b o e hx hb => by
    rcases (hch b hb).1 with z | z
    · exact hx z
    · exact absurd (Nat.lt_of_lt_of_le (Heap.lt_size e) z) (Nat.lt_irrefl _)
  have cellK : ∀ x c, X.env.cells.lookup x = some c → ∀ v, s.heap.IsCell c v → h'.IsCell c v := fun x c e v ⟨o, ho, hd⟩ => by
    have nch : c ∉ ch := fun z => (hch c z).2.2.1 x c e rfl
    by_cases hc : c ∈ X.fs
    · obtain ⟨sl, q⟩ := slot c o (I.cne x c e) hc nch ho (I.freeC x c e)
      exact ⟨_, q, hd⟩
    · exact ⟨o, keep c o (I.cne x c e) hc nch ho (I.freeC x c e), hd⟩
  refine ⟨I.ok, I.os, hg, ⟨fun b o e n hb hx => ?_, fun b o e n hb hx => ?_, fun b o e n hx => ?_, fun b o e hx => ?_, fun b xs e => tups b xs (I.base.tups b xs e), fun b o xs e => frzs b o xs (I.base.frzs b o xs e), fun b ps e => ?_⟩, ?_, fun x c e => ?_, ?_, fun x c e => ?_, fun p hp => ?_, hok, I.len⟩
  · exact keep b o (neL b o e) hb (neC b o e hx) (I.base.keep b o e n hb hx) (I.base.free b o e n hx)
  · obtain ⟨sl, e1⟩ := I.base.slot b o e n hb hx
    obtain ⟨sl', e2⟩ := slot b _ (neL b o e) hb (neC b o e hx) e1 (I.base.free b o e n hx)
    exact ⟨sl', e2⟩
  · obtain ⟨o', e1⟩ := I.base.there b o e hx
    exact free b o' (neC b o e hx) e1 (I.base.free b o e n hx)
  · obtain ⟨o', e1⟩ := I.base.there b o e hx
    exact there b o' (neC b o e hx) e1
  · obtain ⟨m1, e1⟩ := I.base.tbls b ps e
    obtain ⟨m2, e2⟩ := tbls b _ e1
    exact ⟨m1 ++ m2, by rw [e2, Array.append_assoc]⟩
  · obtain ⟨m, hn, hl⟩ := I.loc
    refine ⟨m, ns m hn, fun i x v e1 e2 e3 => ?_⟩
    obtain ⟨u, r, l⟩ := hl i x v e1 e2 e3
    refine ⟨u, r, ?_⟩
    rcases l with l | ⟨k, c, e, z⟩
    · exact .inl l
    · exact .inr ⟨k, c, e, cellK x c e _ z⟩
  · obtain ⟨v, z⟩ := I.cell x c e
    exact ⟨v, cellK x c e v z⟩
  · obtain ⟨m, ⟨o, _, _, ho, _⟩, _⟩ := I.loc
    exact free _ o (fun z => (hch _ z).2.1 rfl) ho I.free
  · obtain ⟨v, o, ho, hd⟩ := I.cell x c e
    exact free c o (fun z => (hch c z).2.2.1 x c e rfl) ho (I.freeC x c e)
  · obtain ⟨e, n, ne, nf, d⟩ := I.pin p hp
    have nch : p.1 ∉ ch := fun z => (hch p.1 z).2.2.2 p hp rfl
    exact ⟨keep p.1 p.2 ne nf nch e n, free p.1 p.2 nch e n, ne, nf, d⟩
theorem Inv.un {t' : Nat} (I : Inv X pins σ H s) (u : Un X.fs [] H H' s.heap h') (hok : HOk X.prog X.w H' h') : Inv X pins σ H' { s with heap := h', toks := t' } := by
  obtain ⟨m, ⟨o, es, ep, ho, r⟩, _⟩ := id I.loc
  obtain ⟨sl, hL⟩ := u.any ho I.free (by simp)
  exact I.step (g' := s.gens) (d' := s.drawn) (ch := []) (fun _ z => nomatch z) (fun b o _ hb _ e n => u.keep b o e n hb (by simp)) (fun b o _ hb _ e n => u.slot b o e n hb (by simp)) (fun b o _ e n => u.free b o e n (by simp)) (fun b o _ e => u.there b o e (by simp)) u.tups u.frzs u.tbls (fun m' hm => by
    obtain ⟨o', es', ep', ho', r'⟩ := hm
    rw [ho] at ho'; cases ho'
    exact ⟨_, es', ep', hL, r'⟩) hok I.bare
theorem Inv.call {g' : Array GenState} {t' : Nat} {d' : Drawn} {ch : List Addr} (I : Inv X pins σ H s) (u : Un (frs X.stack) ch H H' s.heap h') (hok : HOk X.prog X.w H' h') (hg : AllBare g')
    (hch : ∀ b ∈ ch, (b ∈ X.ex ∨ X.s₀.heap.objs.size ≤ b) ∧ b ≠ X.env.locals ∧ (∀ x c, X.env.cells.lookup x = some c → c ≠ b) ∧ ∀ p ∈ X.pn ++ pins, p.1 ≠ b) :
    Inv X pins σ H' { s with heap := h', gens := g', drawn := d', toks := t' } := by
  obtain ⟨m, ⟨o, es, ep, ho, r⟩, _⟩ := id I.loc
  obtain ⟨sl, hL⟩ := u.any ho I.free fun z => (hch _ z).2.1 rfl
  exact I.step (ch := ch) hch (fun b o hL hb hc e n => u.keep b o e n (fun z => (List.mem_cons.mp (I.stkSub b z)).elim hL hb) hc) (fun b o _ _ hc e n => u.any e n hc) (fun b o hc e n => u.free b o e n hc) (fun b o hc e => u.there b o e hc) u.tups u.frzs u.tbls (fun m' hm => by
    obtain ⟨o', es', ep', ho', r'⟩ := hm
    rw [ho] at ho'; cases ho'
    exact ⟨_, es', ep', hL, r'⟩) hok hg
theorem Inv.turned {t' : Nat} {it : Addr} (I : Inv X pins σ H s) (k : ∀ b o, b ≠ it → s.heap.get? b = some o → h'.get? b = some o) (hn : H it = none) (hL : it ≠ X.env.locals)
    (h1 : it ∈ X.ex ∨ X.s₀.heap.objs.size ≤ it) (h2 : ∀ x c, X.env.cells.lookup x = some c → c ≠ it) (h3 : ∀ p ∈ X.pn ++ pins, p.1 ≠ it) : Inv X pins σ H { s with heap := h', toks := t' } := by
  have nit : ∀ b u, H b = some u → b ≠ it := fun b u e z => by rw [z, hn] at e; cases e
  refine I.step (g' := s.gens) (d' := s.drawn) (ch := [it]) (fun b hb => ?_) (fun b o _ _ hc e _ => k b o (fun z => hc (by simp [z])) e) (fun b o _ _ hc e _ => ⟨o.slots, k b o (fun z => hc (by simp [z])) e⟩) (fun _ _ _ _ n => n)
    (fun b o hc e => ⟨o, k b o (fun z => hc (by simp [z])) e⟩) (fun _ _ e => e) (fun _ _ _ e => e) (fun b ps e => ⟨#[], by rw [e]; simp⟩) (fun m hm => ?_) (fun b u e => ?_) I.bare
  · have e : b = it := by simpa using hb
    subst e
    exact ⟨h1, hL, h2, h3⟩
  · obtain ⟨o, es, ep, ho, r⟩ := hm
    exact ⟨o, es, ep, k _ o (Ne.symm hL) ho, r⟩
  · refine (I.hok b u e).stay (fun c v hc q => k c v ?_ q) (fun _ q => q) fun _ _ q => q
    rcases hc with z | z
    · rw [z]; exact nit b u e
    · exact nit c _ z
theorem Inv.tok (I : Inv X pins σ H s) (t : Nat) : Inv X pins σ H { s with toks := t } := I.un (h' := s.heap) (t' := t) Un.refl I.hok
theorem Inv.kept {t' : Nat} (I : Inv X pins σ H s) (k : ∀ b u, s.heap.get? b = some u → h'.get? b = some u) : Inv X pins σ H { s with heap := h', toks := t' } := I.un (Un.kept k) (I.hok.kept k)
theorem Inv.laid {a : Addr} {o : HO} {t' : Nat} (I : Inv X pins σ H s) (k : ∀ b u, s.heap.get? b = some u → h'.get? b = some u) (hp : s.heap.objs.size ≤ a) (new : ObjOk X.prog X.w (upd H a o) h' a o) :
    Inv X pins σ (upd H a o) { s with heap := h', toks := t' } := I.un (Un.laid k hp (I.hok.fresh hp)) (I.hok.laid k hp new)
theorem Inv.write {x e : Addr} {o : HO} {t' : Nat} (I : Inv X pins σ H s) (mu : Mut (H x)) (he : e = x ∨ H e = some (.own x)) (k : ∀ b u, b ≠ e → s.heap.get? b = some u → h'.get? b = some u) (heo : ∃ u, h'.get? e = some u)
    (new : ObjOk X.prog X.w (upd H x o) h' x o) : Inv X pins σ (upd H x o) { s with heap := h', toks := t' } := I.un (Un.write mu he k heo) (I.hok.write mu he k heo new)
theorem Inv.pins_of {pins' : List (Addr × Obj)} (I : Inv X pins σ H s) (h : ∀ p ∈ pins', s.heap.get? p.1 = some p.2 ∧ H p.1 = none ∧ p.1 ≠ X.env.locals ∧ p.1 ∉ X.fs ∧ ∀ v, p.2.data ≠ .cell v) : Inv X pins' σ H s :=
  ⟨I.ok, I.os, I.bare, I.base, I.loc, I.cell, I.free, I.freeC, fun p hp => (List.mem_append.mp hp).elim (fun z => I.pin p (List.mem_append_left _ z)) (h p), I.hok, I.len⟩

theorem nodup_ix {N : List Str} (hN : N.Nodup) {i j : Nat} {x : Str} (a : N[i]? = some x) (b : N[j]? = some x) : i = j := by
  obtain ⟨h1, e1⟩ := List.getElem?_eq_some_iff.mp a
  obtain ⟨h2, e2⟩ := List.getElem?_eq_some_iff.mp b
  exact (List.getElem_inj hN).mp (e1.trans e2.symm)

theorem store_ok2 {M : Model} {A : Around} {E : Value → Shared → Prop} {i : Nat} {x : Str} {v : V} {u : Value} {Q : Unit → Shared → Prop} (I : Inv X pins σ H s) (hN : X.N.Nodup) (hi : X.N[i]? = some x) (hx : Loc X.env.scope x) (r : RelV v u)
    (h : ∀ s', Inv X pins (σ.set i (some v)) H s' → (∃ a, Heap.SameBut a s.heap s'.heap ∧ (a = X.env.locals ∨ X.env.cells.lookup x = some a)) → Q () s') (hf : X.fn x = true ∨ X.env.scope.names.lookup x = some .local := by first | exact .inl rfl | exact .inr rfl | assumption) : wpAny M A (storeName X.env x u) Q E s := by
  obtain ⟨m, hn, hl⟩ := id I.loc
  have hcls : (X.env.scope.kind == .class || (X.env.scope.kind == .module && X.env.locals != X.env.globals)) = false := by rw [I.ok.kind]; rfl
  have hiσ : i < σ.length := by rw [I.len]; exact (List.getElem?_eq_some_iff.mp hi).1
  have cne := I.cne
  have tracked : ∀ {a : Addr} {h' : Heap}, (∃ o, s.heap.get? a = some o ∧ H a = none) → Heap.SameBut a s.heap h' → HOk X.prog X.w H h' := fun {a h'} ha hs b ob e => by
    obtain ⟨_, _, hfree⟩ := ha
    refine (I.hok b ob e).stay (fun c w' hc q => (hs.2 c ?_).trans q) (fun _ q => q) fun _ _ q => q
    rintro rfl
    rcases hc with rfl | hc
    · rw [hfree] at e; cases e
    · rw [hfree] at hc; cases hc
  rcases hx with hk | hk
  · refine wpAny_storeName_local hk hn (fun h' hn' hs => ?_) hcls
    obtain ⟨oL, _, _, hoL, _⟩ := id hn
    refine h _ ⟨I.ok, I.os, I.bare, ⟨fun b o e n hb hx => ?_, fun b o e n hb hx => ?_, I.base.free, fun b o e hx => ?_, I.base.tups, I.base.frzs, I.base.tbls⟩, ⟨_, hn', fun j y v' e1 e2 e3 => ?_⟩, fun y c e => ?_, I.free, I.freeC, fun p hp => ?_, tracked ⟨oL, hoL, I.free⟩ hs, by simpa using I.len⟩ ⟨_, hs, .inl rfl⟩
    · exact (hs.2 b (Nat.ne_of_lt (Nat.lt_of_lt_of_le (Heap.lt_size e) I.ok.above))).trans (I.base.keep b o e n hb hx)
    · obtain ⟨sl, e1⟩ := I.base.slot b o e n hb hx
      exact ⟨sl, (hs.2 b (Nat.ne_of_lt (Nat.lt_of_lt_of_le (Heap.lt_size e) I.ok.above))).trans e1⟩
    · obtain ⟨o', e1⟩ := I.base.there b o e hx
      exact ⟨o', (hs.2 b (Nat.ne_of_lt (Nat.lt_of_lt_of_le (Heap.lt_size e) I.ok.above))).trans e1⟩
    · by_cases hj : j = i
      · subst hj
        rw [hi] at e1; cases e1
        rw [List.getElem?_set_self hiσ] at e2
        cases e2
        exact ⟨u, r, .inl ⟨hk, by simp⟩⟩
      · rw [List.getElem?_set_ne (Ne.symm hj)] at e2
        obtain ⟨u', r', q⟩ := hl j y v' e1 e2 e3
        refine ⟨u', r', ?_⟩
        rcases q with ⟨k, e⟩ | ⟨k, c, e, z⟩
        · refine .inl ⟨k, ?_⟩
          have : y ≠ x := fun e => hj (nodup_ix hN e1 (e ▸ hi))
          simp [this, e]
        · exact .inr ⟨k, c, e, z.sameBut hs (cne y c e)⟩
    · obtain ⟨w', z⟩ := I.cell y c e
      exact ⟨w', z.sameBut hs (cne y c e)⟩
    · obtain ⟨e, n, ne, nf, d⟩ := I.pin p hp
      exact ⟨(hs.2 p.1 ne).trans e, n, ne, nf, d⟩
  · have hfn : X.fn x = true := by
      rcases hf with z | z
      · exact z
      · rw [z] at hk; cases hk
    obtain ⟨c, hc⟩ := I.ok.has x (.inl hk)
    obtain ⟨w', z⟩ := I.cell x c hc
    refine wpAny_storeName_cell I.ok.kind hk hc z (fun h' hc' hs => ?_)
    obtain ⟨oc, hoc, hocd⟩ := id z
    refine h { s with heap := h' } ⟨I.ok, I.os, I.bare, ⟨fun b o e n hb hx => ?_, fun b o e n hb hx => ?_, I.base.free, fun b o e hx => ?_, I.base.tups, I.base.frzs, I.base.tbls⟩, ⟨m, hn.sameBut hs (Ne.symm (cne x c hc)), fun j y v' e1 e2 e3 => ?_⟩, fun y c' e => ?_, I.free, I.freeC, fun p hp => ?_, tracked ⟨oc, hoc, I.freeC x c hc⟩ hs, by simpa using I.len⟩ ⟨c, hs, .inr hc⟩
    · exact (hs.2 b (Nat.ne_of_lt (Nat.lt_of_lt_of_le (Heap.lt_size e) (I.ok.cab x c hfn hc)))).trans (I.base.keep b o e n hb hx)
    · obtain ⟨sl, e1⟩ := I.base.slot b o e n hb hx
      exact ⟨sl, (hs.2 b (Nat.ne_of_lt (Nat.lt_of_lt_of_le (Heap.lt_size e) (I.ok.cab x c hfn hc)))).trans e1⟩
    · obtain ⟨o', e1⟩ := I.base.there b o e hx
      exact ⟨o', (hs.2 b (Nat.ne_of_lt (Nat.lt_of_lt_of_le (Heap.lt_size e) (I.ok.cab x c hfn hc)))).trans e1⟩
    · by_cases hj : j = i
      · subst hj
        rw [hi] at e1; cases e1
        rw [List.getElem?_set_self hiσ] at e2
        cases e2
        exact ⟨u, r, .inr ⟨.inl hk, c, hc, hc'⟩⟩
      · rw [List.getElem?_set_ne (Ne.symm hj)] at e2
        obtain ⟨u', r', q⟩ := hl j y v' e1 e2 e3
        refine ⟨u', r', ?_⟩
        rcases q with q | ⟨k, c', e, z'⟩
        · exact .inl q
        · refine .inr ⟨k, c', e, z'.sameBut hs ?_⟩
          rintro rfl
          exact hj (nodup_ix hN e1 (I.ok.inj _ _ _ e hc ▸ hi))
    · by_cases hcc : c' = c
      · subst hcc; exact ⟨_, hc'⟩
      · obtain ⟨w2, z2⟩ := I.cell y c' e
        exact ⟨w2, z2.sameBut hs hcc⟩
    · obtain ⟨e, n, ne, nf, d⟩ := I.pin p hp
      refine ⟨(hs.2 p.1 ?_).trans e, n, ne, nf, d⟩
      intro q
      rw [q, hoc] at e
      have q' : oc = p.2 := Option.some.inj e
      exact d w' (by rw [← q']; exact hocd)
theorem store_ok {M : Model} {A : Around} {E : Value → Shared → Prop} {i : Nat} {x : Str} {v : V} {u : Value} {Q : Unit → Shared → Prop} (I : Inv X pins σ H s) (hN : X.N.Nodup) (hi : X.N[i]? = some x) (hx : Loc X.env.scope x) (r : RelV v u)
    (h : ∀ s', Inv X pins (σ.set i (some v)) H s' → Q () s') (hf : X.fn x = true ∨ X.env.scope.names.lookup x = some .local := by first | exact .inl rfl | exact .inr rfl | assumption) : wpAny M A (storeName X.env x u) Q E s :=
  store_ok2 I hN hi hx r (fun s' I' _ => h s' I') hf
end

abbrev XK := Value → Option Addr → Hp → Prop
abbrev St := List (Option V)
abbrev VK := V → Hp → Prop
abbrev TE := St → Hp → VK → Prop
abbrev TT := St → Hp → (Bool → Hp → Prop) → Prop
abbrev TA := St → Hp → (List V → Hp → Prop) → Prop
structure Ends where
  nx : St → Hp → Prop
  rt : VK
  bk : St → Hp → Prop := fun _ _ => False
  ct : St → Hp → Prop := fun _ _ => False
abbrev TS := Ends → St → Hp → Prop

noncomputable def EP (X : Cx) (pins : List (Addr × Obj)) (σ : St) (Q : VK) (u : Value) (s' : Shared) : Prop := ∃ v H', Inv X pins σ H' s' ∧ RelV v u ∧ Q v H'
noncomputable def TP (X : Cx) (pins : List (Addr × Obj)) (σ : St) (Q : Bool → Hp → Prop) (b : Bool) (s' : Shared) : Prop := ∃ H', Inv X pins σ H' s' ∧ Q b H'
noncomputable def AP (X : Cx) (pins : List (Addr × Obj)) (σ : St) (Q : List V → Hp → Prop) (us : List Value) (s' : Shared) : Prop := ∃ vs H', Inv X pins σ H' s' ∧ Vals vs us ∧ Q vs H'
noncomputable def SP (X : Cx) (pins : List (Addr × Obj)) (D : Ends) (f : Flow) (s' : Shared) : Prop :=
  match f with
  | .next => ∃ σ' H', Inv X pins σ' H' s' ∧ D.nx σ' H'
  | .brk => ∃ σ' H', Inv X pins σ' H' s' ∧ D.bk σ' H'
  | .cont => ∃ σ' H', Inv X pins σ' H' s' ∧ D.ct σ' H'
  | .ret u => ∃ v σ' H', Inv X pins σ' H' s' ∧ RelV v u ∧ D.rt v H'

noncomputable def PE (X : Cx) (e : Expr) (t : TE) : Prop :=
  ∀ (pins : List (Addr × Obj)) (s : Shared) (σ : St) (H : Hp) (Q : VK), Inv X pins σ H s → t σ H Q → wpAny (model X.prog X.w) X.A (eval e X.env) (EP X pins σ Q) X.xe s
noncomputable def PT (X : Cx) (e : Expr) (t : TT) : Prop :=
  ∀ (pins : List (Addr × Obj)) (s : Shared) (σ : St) (H : Hp) (Q : Bool → Hp → Prop), Inv X pins σ H s → t σ H Q → wpAny (model X.prog X.w) X.A (isTrue e X.env (eval e X.env)) (TP X pins σ Q) X.xe s
noncomputable def PW (X : Cx) (e : Expr) (t : TT) : Prop :=
  ∀ (whole : Sem Value) (pins : List (Addr × Obj)) (s : Shared) (σ : St) (H : Hp) (Q : Bool → Hp → Prop), Inv X pins σ H s → t σ H Q → wpAny (model X.prog X.w) X.A (isTrue e X.env whole) (TP X pins σ Q) X.xe s
theorem PW.pt {X : Cx} {e : Expr} {t : TT} (h : PW X e t) : PT X e t := h _
noncomputable def PA (X : Cx) (es : List Expr) (t : TA) : Prop :=
  ∀ (pos : Pos) (pins : List (Addr × Obj)) (s : Shared) (σ : St) (H : Hp) (Q : List V → Hp → Prop), Inv X pins σ H s → t σ H Q → wpAny (model X.prog X.w) X.A (spliced (backTo pos (starEach es X.env))) (AP X pins σ Q) X.xe s
noncomputable def PS (X : Cx) (st : Stmt) (t : TS) : Prop :=
  ∀ (pins : List (Addr × Obj)) (s : Shared) (σ : St) (H : Hp) (D : Ends), Inv X pins σ H s → t D σ H → wpAny (model X.prog X.w) X.A (exec st X.env) (SP X pins D) X.xe s
noncomputable def PSs (X : Cx) (st : List Stmt) (t : TS) : Prop :=
  ∀ (pins : List (Addr × Obj)) (s : Shared) (σ : St) (H : Hp) (D : Ends), Inv X pins σ H s → t D σ H → wpAny (model X.prog X.w) X.A (execs st X.env) (SP X pins D) X.xe s
theorem thn {α : Type} {t : Sem α} {Q Q' : α → Shared → Prop} {M : Model} {A : Around} {E : Value → Shared → Prop} {s : Shared} (h : wpAny M A t Q E s) (hQ : ∀ a s, Q a s → Q' a s) : wpAny M A t Q' E s := wpAny_mono h hQ fun _ _ x => x
end L2

namespace L2
open PySem PySem.Spec PyProof.Rows
section
variable {X : Cx}

noncomputable def tVar (i : Nat) : TE := fun σ H Q => ∃ v, σ[i]? = some (some v) ∧ Q v H
noncomputable def tC (v : V) : TE := fun _ H Q => Q v H
theorem pe_var {i : Nat} {x : Str} {pos : Pos} (hN : X.N[i]? = some x) (hv : Vis X.env.scope x) (hd : (x == ("__debug__" : Str)) = false := by decide) (hcd : (x == ("__classdict__" : Str)) = false := by decide) : PE X (.Name x pos) (tVar i) := by
  intro pins s σ H Q I h
  obtain ⟨v, e, h⟩ := h
  obtain ⟨m, hn, hl⟩ := I.loc
  obtain ⟨u, r, l⟩ := hl i x v hN e hv
  have fin : EP X pins σ Q u s := ⟨v, H, I, r, h⟩
  rcases l with ⟨hk, hm⟩ | ⟨hk, c, hc, hcell⟩
  · exact wpAny_Name (wpAny_loadName_local I.ok.kind hk hn hm fin) hd
  · rcases hk with hk | hk
    · exact wpAny_Name (wpAny_loadName_cell I.ok.kind hk hc hcell fin) hd
    · exact wpAny_Name (wpAny_loadName_free I.ok.kind hk hc hcell fin hcd) hd
theorem pe_int {i j pos} : PE X (.Constant (.int i) j pos) (tC (.int i)) := fun _ _ _ H _ I h => wpAny_Constant_int ⟨.int i, H, I.tok _, ⟨_, rfl⟩, h⟩
theorem pe_bl {b j pos} : PE X (.Constant (.bool b) j pos) (tC (.bl b)) := fun _ _ _ H _ I h => Constant_bool ⟨.bl b, H, I, rfl, h⟩
theorem pe_non {j pos} : PE X (.Constant .none j pos) (tC .non) := fun _ _ _ H _ I h => Constant_none ⟨.non, H, I, rfl, h⟩
theorem pe_str {x j pos} : PE X (.Constant (.str x) j pos) (tC (.str x)) := fun _ _ _ H _ I h => Calls.Constant_str ⟨.str x, H, I.tok _, ⟨_, rfl⟩, h⟩

noncomputable def Gl (X : Cx) (x : Str) : Prop := X.env.kindOf x = some .globalImplicit
theorem ld_glob {E : Value → Shared → Prop} {pins : List (Addr × Obj)} {s : Shared} {σ : St} {H : Hp} {x : Str} {u : Value} {pos : Pos} {Q : Value → Shared → Prop} (I : Inv X pins σ H s) (hg : Gl X x) (hm : X.mg x = some u) (h : Q u s)
    (hd : (x == ("__debug__" : Str)) = false := by decide) : wpAny (model X.prog X.w) X.A (eval (.Name x pos) X.env) Q E s :=
  Calls.Name_function_global I.ok.kind hg (Calls.loadGlobal_global (by rw [I.ok.glob]; exact I.mod.glob.keeps I.bk) hm h) hd
theorem ld_blt {E : Value → Shared → Prop} {pins : List (Addr × Obj)} {s : Shared} {σ : St} {H : Hp} {x : Str} {u : Value} {pos : Pos} {Q : Value → Shared → Prop} (I : Inv X pins σ H s) (hg : Gl X x) (hm : X.mg x = none) (hv : bootBuiltins x = some u) (h : Q u s)
    (hn : x ≠ "__name__" := by decide) (hd : (x == ("__debug__" : Str)) = false := by decide) : wpAny (model X.prog X.w) X.A (eval (.Name x pos) X.env) Q E s := by
  obtain ⟨mb, h1, h2⟩ := I.mod.blt
  exact Calls.Name_function_global I.ok.kind hg (Calls.loadGlobal_builtin (by rw [I.ok.glob]; exact I.mod.glob.keeps I.bk) hm (by rw [I.ok.blt]; exact h1.keeps I.bk) ((h2 x hn).trans hv) h) hd
theorem pe_glob {x : Str} {v : V} {u : Value} {pos : Pos} (hg : Gl X x) (hm : X.mg x = some u) (r : RelV v u) (hd : (x == ("__debug__" : Str)) = false := by decide) : PE X (.Name x pos) (tC v) :=
  fun _ _ _ H _ I h => ld_glob I hg hm ⟨v, H, I, r, h⟩ hd
theorem pe_bltn {x : Str} {v : V} {u : Value} {pos : Pos} (hg : Gl X x) (hm : X.mg x = none) (hv : bootBuiltins x = some u) (r : RelV v u) (hn : x ≠ "__name__" := by decide) (hd : (x == ("__debug__" : Str)) = false := by decide) : PE X (.Name x pos) (tC v) :=
  fun _ _ _ H _ I h => ld_blt I hg hm hv ⟨v, H, I, r, h⟩ hn hd

variable {a b : Expr} {ta tb : TE} {pos : Pos}
noncomputable def tB (t : TE) : TT := fun σ H Q => t σ H fun x H1 => ∃ c, x = .bl c ∧ Q c H1
theorem pt_val {e : Expr} {t : TE} (h : PE X e t) (he : ∀ whole, isTrue e X.env whole = (do let v ← whole; standAt e.pos; holding [v] (truthy v)) := by intro _; rfl) : PT X e (tB t) := by
  intro pins s σ H Q I hw
  refine isTrue_plain (thn (h pins s σ H _ I hw) fun v s1 ⟨x, H1, I1, r1, q1⟩ => ?_) (he _)
  obtain ⟨d, rfl, q⟩ := q1
  cases r1
  exact wpAny_truthy_bool ⟨H1, I1, q⟩

variable {tA tB' : TT} {rest : List Expr}
noncomputable def tAnd (t u : TT) : TT := fun σ H Q => t σ H fun c H1 => if c = true then u σ H1 Q else Q false H1
noncomputable def tOr (t u : TT) : TT := fun σ H Q => t σ H fun c H1 => if c = true then Q true H1 else u σ H1 Q
noncomputable def tNot (t : TT) : TT := fun σ H Q => t σ H fun c H1 => Q (!c) H1
theorem pw_and1 (ha : PT X a tA) : PW X (.BoolOp .And [a] pos) tA := by
  intro wh pins s σ H Q I h
  refine isTrue_and (thn (ha pins s σ H Q I h) fun c s1 e => ?_)
  cases c with
  | true => exact isTrue_and_nil e
  | false => exact e
theorem pw_or1 (ha : PT X a tA) : PW X (.BoolOp .Or [a] pos) tA := by
  intro wh pins s σ H Q I h
  refine isTrue_or (thn (ha pins s σ H Q I h) fun c s1 e => ?_)
  cases c with
  | false => exact isTrue_or_nil e
  | true => exact e
theorem pw_and (ha : PT X a tA) (hb : PW X (.BoolOp .And (b :: rest) pos) tB') : PW X (.BoolOp .And (a :: b :: rest) pos) (tAnd tA tB') := by
  intro wh pins s σ H Q I h
  refine isTrue_and (thn (ha pins s σ H _ I h) fun c s1 ⟨H1, I1, q1⟩ => ?_)
  cases c with
  | true => exact hb wh pins s1 σ H1 Q I1 q1
  | false => exact ⟨H1, I1, q1⟩
theorem pw_or (ha : PT X a tA) (hb : PW X (.BoolOp .Or (b :: rest) pos) tB') : PW X (.BoolOp .Or (a :: b :: rest) pos) (tOr tA tB') := by
  intro wh pins s σ H Q I h
  refine isTrue_or (thn (ha pins s σ H _ I h) fun c s1 ⟨H1, I1, q1⟩ => ?_)
  cases c with
  | true => exact ⟨H1, I1, q1⟩
  | false => exact hb wh pins s1 σ H1 Q I1 q1
theorem pt_not (ha : PT X a tA) : PT X (.UnaryOp .Not a pos) (tNot tA) := by
  intro pins s σ H Q I h
  exact isTrue_not (ha pins s σ H (fun c H1 => Q (!c) H1) I h)
noncomputable def tAndV (ta tb : TE) : TE := fun σ H Q => ta σ H fun x H1 => ∃ c, x = .bl c ∧ if c = true then tb σ H1 Q else Q (.bl false) H1
noncomputable def tOrV (ta tb : TE) : TE := fun σ H Q => ta σ H fun x H1 => ∃ c, x = .bl c ∧ if c = true then Q (.bl true) H1 else tb σ H1 Q
noncomputable def tNotV (ta : TE) : TE := fun σ H Q => ta σ H fun x H1 => ∃ c, x = .bl c ∧ Q (.bl (!c)) H1
theorem pe_one {op} {t : TE} (h : PE X a t) : PE X (.BoolOp op [a] pos) t := fun pins s σ H Q I hw => BoolOp_one (h pins s σ H Q I hw)
theorem pe_and (ha : PE X a ta) (hb : PE X (.BoolOp .And (b :: rest) pos) tb) : PE X (.BoolOp .And (a :: b :: rest) pos) (tAndV ta tb) := by
  intro pins s σ H Q I h
  refine BoolOp_and (thn (ha pins s σ H _ I h) fun v s1 ⟨x, H1, I1, r1, q1⟩ => ?_)
  obtain ⟨c, rfl, q1⟩ := q1
  cases r1
  refine wpAny_truthy_bool ?_
  cases c with
  | true => exact hb pins s1 σ H1 Q I1 q1
  | false => exact ⟨.bl false, H1, I1, rfl, q1⟩
noncomputable def tIf (t : TT) (ta tb : TE) : TE := fun σ H Q => t σ H fun c H1 => if c = true then ta σ H1 Q else tb σ H1 Q
end
end L2

namespace L2
open PySem PySem.Spec PyProof.Rows

noncomputable def SqL (K : PySem.W.Frag) (H : Hp) (a : Addr) (xs : List V) : Prop :=
  Rd H a (.lst xs) ∨
    ∃ (o : Obj) (its : Array Value) (n : Nat), K.lookup a = some o ∧ o.cls = .type "list" ∧ o.dict = none ∧ o.data = .seq its n ∧ its.size ≤ sizeLine ∧ Vals xs its.toList
noncomputable def SqT (K : PySem.W.Frag) (H : Hp) (a : Addr) (xs : List V) : Prop :=
  Rd H a (.tup xs) ∨
    ∃ (o : Obj) (its : Array Value) (n : Nat), K.lookup a = some o ∧ o.cls = .type "tuple" ∧ o.data = .seq its n ∧ its.size ≤ sizeLine ∧ Vals xs its.toList
noncomputable def absV : Value → Option V
  | .none => some .non
  | .bool b => some (.bl b)
  | .int i _ => some (.int i)
  | .str x _ => some (.str x)
  | .bytes b _ => some (.byt b)
  | .float b _ => some (.flt b)
  | .ref a => some (.ref a)
  | .type n => some (.ty n)
  | _ => none
theorem RelV.abs {x : V} {u : Value} (r : RelV x u) : absV u = some x := by
  cases x with
  | non => cases r; rfl
  | bl _ => cases r; rfl
  | int _ => obtain ⟨t, rfl⟩ := r; rfl
  | str _ => obtain ⟨t, rfl⟩ := r; rfl
  | byt _ => obtain ⟨t, rfl⟩ := r; rfl
  | flt _ => obtain ⟨t, rfl⟩ := r; rfl
  | ref _ => cases r; rfl
  | ty _ => cases r; rfl
theorem RelV.inj {x y : V} {u : Value} (r : RelV x u) (q : RelV y u) : x = y := Option.some.inj (r.abs.symm.trans q.abs)
theorem Vals.inj : ∀ {xs ys : List V} {us : List Value}, Vals xs us → Vals ys us → xs = ys
  | _, _, _, .nil, .nil => rfl
  | _, _, _, .cons r t, .cons r' t' => by rw [r.inj r', Vals.inj t t']
section
variable {X : Cx} {pins : List (Addr × Obj)} {σ : St} {H : Hp} {s : Shared} {a : Addr} {xs ys : List V}
theorem SqL.of {K : PySem.W.Frag} (h : H a = some (.lst xs)) : SqL K H a xs := .inl (.inl h)
theorem SqT.of {K : PySem.W.Frag} (h : H a = some (.tup xs)) : SqT K H a xs := .inl (.inl h)
theorem Inv.list (I : Inv X pins σ H s) (h : SqL X.K H a xs) : ∃ its : List Value, Vals xs its ∧ PlainL s.heap a its.toArray ∧ xs.length ≤ sizeLine := by
  rcases h with h | ⟨o, its, n, hk, hc, hd, hs, hz, r⟩
  · obtain ⟨z, its, n, r, e⟩ := h.ok I.hok
    exact ⟨its, r, ⟨_, n, e, rfl, rfl, rfl⟩, z⟩
  · refine ⟨its.toList, r, ⟨o, n, I.kIn a o hk, hc, hd, by simpa using hs⟩, ?_⟩
    have e := r.length
    simp only [Array.length_toList] at e
    omega
theorem Inv.tuple (I : Inv X pins σ H s) (h : SqT X.K H a xs) : ∃ its : List Value, Vals xs its ∧ IsTup s.heap a its.toArray ∧ xs.length ≤ sizeLine := by
  rcases h with h | ⟨o, its, n, hk, hc, hs, hz, r⟩
  · obtain ⟨z, its, r, p⟩ := h.ok I.hok
    exact ⟨its, r, p, z⟩
  · refine ⟨its.toList, r, ⟨o, I.kIn a o hk, hc, n, by simpa using hs⟩, ?_⟩
    have e := r.length
    simp only [Array.length_toList] at e
    omega
theorem Inv.list_inj (I : Inv X pins σ H s) (h : SqL X.K H a xs) (h' : SqL X.K H a ys) : xs = ys := by
  obtain ⟨its, r, ⟨o, n, e, _, _, d⟩, _⟩ := I.list h
  obtain ⟨its', r', ⟨o', n', e', _, _, d'⟩, _⟩ := I.list h'
  rw [e] at e'; cases e'
  rw [d] at d'
  injection d' with d1 _
  have : its = its' := by simpa using congrArg Array.toList d1
  subst this
  exact r.inj r'
theorem Inv.tuple_inj (I : Inv X pins σ H s) (h : SqT X.K H a xs) (h' : SqT X.K H a ys) : xs = ys := by
  obtain ⟨its, r, ⟨o, e, _, n, d⟩, _⟩ := I.tuple h
  obtain ⟨its', r', ⟨o', e', _, n', d'⟩, _⟩ := I.tuple h'
  rw [e] at e'; cases e'
  rw [d] at d'
  injection d' with d1 _
  have : its = its' := by simpa using congrArg Array.toList d1
  subst this
  exact r.inj r'
end

noncomputable abbrev Cx.wish (X : Cx) (E : Value → Shared → Prop) : Cx := { X with xe := E }
noncomputable abbrev Cx.nox (X : Cx) : Cx := X.wish fun _ _ => False
theorem Cx.Ok.wish {X : Cx} (ok : X.Ok) (E : Value → Shared → Prop) : (X.wish E).Ok :=
  ⟨ok.mod, ok.kind, ok.glob, ok.blt, ok.above, ok.inj, ok.has, ok.cab, ok.hd, ok.frames, ok.stk, ok.exf, ok.bs, ok.bsz, ok.noex, ok.exfs, ok.funs, ok.frf⟩
theorem Cx.Ok.unwish {X : Cx} {E : Value → Shared → Prop} (ok : (X.wish E).Ok) : X.Ok :=
  ⟨ok.mod, ok.kind, ok.glob, ok.blt, ok.above, ok.inj, ok.has, ok.cab, ok.hd, ok.frames, ok.stk, ok.exf, ok.bs, ok.bsz, ok.noex, ok.exfs, ok.funs, ok.frf⟩
section
variable {X : Cx} {pins : List (Addr × Obj)} {σ : St} {H : Hp} {s : Shared} {E : Value → Shared → Prop}
theorem Inv.wish (I : Inv X pins σ H s) (E : Value → Shared → Prop) : Inv (X.wish E) pins σ H s := ⟨I.ok.wish E, I.os, I.bare, I.base, I.loc, I.cell, I.free, I.freeC, I.pin, I.hok, I.len⟩
theorem Inv.unwish (I : Inv (X.wish E) pins σ H s) : Inv X pins σ H s := ⟨I.ok.unwish, I.os, I.bare, I.base, I.loc, I.cell, I.free, I.freeC, I.pin, I.hok, I.len⟩
theorem SP.unwish {D : Ends} {f : Flow} {s' : Shared} (h : SP (X.wish E) pins D f s') : SP X pins D f s' := by
  cases f with
  | next => obtain ⟨σ', H', I, q⟩ := h; exact ⟨σ', H', I.unwish, q⟩
  | brk => obtain ⟨σ', H', I, q⟩ := h; exact ⟨σ', H', I.unwish, q⟩
  | cont => obtain ⟨σ', H', I, q⟩ := h; exact ⟨σ', H', I.unwish, q⟩
  | ret u => obtain ⟨v, σ', H', I, r, q⟩ := h; exact ⟨v, σ', H', I.unwish, r, q⟩
theorem PE.nox {e : Expr} {t : TE} (h : PE X.nox e t) : PE X e t := fun pins s σ H Q I hw =>
  wpAny_mono (h pins s σ H Q (I.wish _) hw) (fun _ _ ⟨v, H', I', r, q⟩ => ⟨v, H', I'.unwish, r, q⟩) fun _ _ z => False.elim z
theorem PT.nox {e : Expr} {t : TT} (h : PT X.nox e t) : PT X e t := fun pins s σ H Q I hw =>
  wpAny_mono (h pins s σ H Q (I.wish _) hw) (fun _ _ ⟨H', I', q⟩ => ⟨H', I'.unwish, q⟩) fun _ _ z => False.elim z
theorem PSs.nox {st : List Stmt} {t : TS} (h : PSs X.nox st t) : PSs X st t := fun pins s σ H D I hw =>
  wpAny_mono (h pins s σ H D (I.wish _) hw) (fun _ _ q => q.unwish) fun _ _ z => False.elim z
end

section
variable {X : Cx} {st : Stmt} {rest : List Stmt} {t u : TS} {e : Expr} {te : TE} {pos : Pos}
noncomputable def tNext : TS := fun D σ H => D.nx σ H
noncomputable def tSeq (t u : TS) : TS := fun D σ H => t { D with nx := u D } σ H
theorem pss_nil : PSs X [] tNext := fun _ _ σ H _ I h => wpAny_execs_nil ⟨σ, H, I, h⟩
theorem pss_cons (h1 : PS X st t) (h2 : PSs X rest u) : PSs X (st :: rest) (tSeq t u) := by
  intro pins s σ H D I h
  refine wpAny_execs_cons (thn (h1 pins s σ H { D with nx := u D } I h) fun f s1 q => ?_)
  cases f with
  | next =>
    obtain ⟨σ', H', I', q⟩ := q
    exact h2 pins s1 σ' H' D I' q
  | ret v => exact q
  | brk => exact q
  | cont => exact q
theorem pss_one (h1 : PS X st t) : PSs X [st] t := by
  intro pins s σ H D I h
  refine wpAny_execs_cons (thn (h1 pins s σ H D I h) fun f s1 q => ?_)
  cases f with
  | next => exact wpAny_execs_nil q
  | ret v => exact q
  | brk => exact q
  | cont => exact q
theorem Inv.quiet {pins : List (Addr × Obj)} {σ : St} {H : Hp} {s : Shared} (I : Inv X pins σ H s) : interactive X.env = false := by simp [interactive, I.ok.kind]
noncomputable def tDrop (te : TE) : TS := fun D σ H => te σ H fun _ H1 => D.nx σ H1
theorem ps_expr (he : PE X e te) (hs : swapsWith e none pos.line X.env = pure false := by rfl) : PS X (.Expr e pos) (tDrop te) := by
  intro pins s σ H D I h
  exact wpAny_Expr_any (thn (he pins s σ H _ I h) fun v s1 ⟨x, H1, I1, r1, q1⟩ => ⟨σ, H1, I1, q1⟩) I.quiet hs
noncomputable def tRet (te : TE) : TS := fun D σ H => te σ H D.rt
theorem ps_ret (he : PE X e te) : PS X (.Return (some e) pos) (tRet te) := by
  intro pins s σ H D I h
  exact wpAny_Return_some (thn (he pins s σ H _ I h) fun v s1 ⟨x, H1, I1, r1, q1⟩ => ⟨x, σ, H1, I1, r1, q1⟩)
noncomputable def tIfS (c : TT) (t u : TS) : TS := fun D σ H => c σ H fun b H1 => if b = true then t D σ H1 else u D σ H1
theorem ps_if {c : Expr} {a b : List Stmt} {tc : TT} (hc : PT X c tc) (ha : PSs X a t) (hb : PSs X b u) : PS X (.If c a b pos) (tIfS tc t u) := by
  intro pins s σ H D I h
  refine wpAny_If (thn (hc pins s σ H _ I h) fun d s1 ⟨H1, I1, q1⟩ => ?_)
  cases d with
  | true => exact ha pins s1 σ H1 D I1 q1
  | false => exact hb pins s1 σ H1 D I1 q1
noncomputable def tNever : TS := fun _ _ _ => False
theorem ps_never : PS X st tNever := fun _ _ _ _ _ _ h => h.elim
end

abbrev TG := V → St → Hp → (St → Hp → Prop) → Prop
abbrev TGs := List V → St → Hp → (St → Hp → Prop) → Prop
noncomputable def PG (X : Cx) (target : Expr) (t : TG) : Prop :=
  ∀ (pins : List (Addr × Obj)) (s : Shared) (σ : St) (H : Hp) (v : V) (u : Value) (Q : St → Hp → Prop), Inv X pins σ H s → RelV v u → t v σ H Q →
    wpAny (model X.prog X.w) X.A (assign target X.env u) (fun _ s' => ∃ σ' H', Inv X pins σ' H' s' ∧ Q σ' H') X.xe s
noncomputable def PGs (X : Cx) (ts : List Expr) (t : TGs) : Prop :=
  ∀ (pins : List (Addr × Obj)) (s : Shared) (σ : St) (H : Hp) (vs : List V) (us : List Value) (Q : St → Hp → Prop), Inv X pins σ H s → Vals vs us → t vs σ H Q →
    wpAny (model X.prog X.w) X.A (assignInOrder ((assignEach ts X.env).map (·.2)) us) (fun _ s' => ∃ σ' H', Inv X pins σ' H' s' ∧ Q σ' H') X.xe s
section
variable {X : Cx} {pos : Pos}
noncomputable def gName (i : Nat) : TG := fun v σ H Q => Q (σ.set i (some v)) H
theorem pg_name {i : Nat} {x : Str} (hN : X.N.Nodup) (hi : X.N[i]? = some x) (hx : Loc X.env.scope x) (hf : X.fn x = true ∨ X.env.scope.names.lookup x = some .local := by first | exact .inl rfl | exact .inr rfl | assumption) : PG X (.Name x pos) (gName i) := by
  intro pins s σ H v u Q I r h
  exact wpAny_assign_Name (store_ok I hN hi hx r (fun s' I' => ⟨_, H, I', h⟩) hf)
noncomputable def gNil : TGs := fun vs σ H Q => vs = [] ∧ Q σ H
noncomputable def gCons (t : TG) (u : TGs) : TGs := fun vs σ H Q => ∃ v r, vs = v :: r ∧ t v σ H fun σ' H' => u r σ' H' Q
theorem pgs_nil : PGs X [] gNil := by
  intro pins s σ H vs us Q I r h
  obtain ⟨e, h⟩ := h
  subst e
  cases r
  exact assignInOrder_nil ⟨σ, H, I, h⟩
theorem pgs_cons {e : Expr} {es : List Expr} {t : TG} {u : TGs} (h1 : PG X e t) (h2 : PGs X es u)
    (hs : (assignEach (e :: es) X.env).map (·.2) = assign e X.env :: (assignEach es X.env).map (·.2) := by rfl) : PGs X (e :: es) (gCons t u) := by
  intro pins s σ H vs us Q I r h
  obtain ⟨v, vr, e1, h⟩ := h
  subst e1
  cases r with
  | cons r rr =>
    rw [hs]
    refine assignInOrder_cons (thn (h1 pins s σ H _ _ _ I r h) fun _ s1 ⟨σ1, H1, I1, q1⟩ => ?_)
    exact h2 pins s1 σ1 H1 _ _ Q I1 rr q1
noncomputable def gTup (K : PySem.W.Frag) (n : Nat) (t : TGs) : TG := fun v σ H Q => ∃ a xs, v = .ref a ∧ SqT K H a xs ∧ xs.length = n ∧ t xs σ H Q
theorem pg_tup {es : List Expr} {k : Nat} {t : TGs} {n : Nat} (hc : X.calm = true) (h : PGs X es t)
    (hn : (assignEach es X.env).length = n := by rfl) (hst : (assignEach es X.env).findIdx? (·.1) = none := by rfl) : PG X (.Tuple es k pos) (gTup X.K n t) := by
  intro pins s σ H v u Q I r hw
  obtain ⟨a, xs, e1, hq, hl, hw⟩ := hw
  subst e1
  cases r
  obtain ⟨its, rv, ht, hz⟩ := I.tuple hq
  refine assign_Tuple_tuple (I.ok.hd hc) ht (by simp [hn, ← hl, rv.length]) hst fun h' hx => ?_
  have I1 : Inv X pins σ H { s with heap := h' } := I.kept (t' := s.toks) fun b o e => hx b o (Nat.ne_of_lt (Heap.lt_size e)) e
  exact h pins _ σ H xs _ Q I1 (by simpa using rv) hw
noncomputable def tAsg (te : TE) (g : TG) : TS := fun D σ H => te σ H fun x H1 => g x σ H1 D.nx
theorem ps_set {i : Nat} {x : Str} {e : Expr} {te : TE} {pos' : Pos} (hN : X.N.Nodup) (hi : X.N[i]? = some x) (hx : Loc X.env.scope x) (he : PE X e te) (hs : swapsWith e (some (.Name x pos')) pos.line X.env = pure false := by rfl) (hf : X.fn x = true ∨ X.env.scope.names.lookup x = some .local := by first | exact .inl rfl | exact .inr rfl | assumption) :
    PS X (.Assign [.Name x pos'] e pos) (tAsg te (gName i)) := by
  intro pins s σ H D I h
  refine wpAny_Assign_Name (thn (he pins s σ H _ I h) fun v s1 ⟨y, H1, I1, r1, q1⟩ => ?_) hs
  exact store_ok I1 hN hi hx r1 (fun s2 I2 => ⟨_, H1, I2, q1⟩) hf
noncomputable def tPar (i j : Nat) (ta : TA) : TS := fun D σ H => ta σ H fun vs H1 => ∃ v w, vs = [v, w] ∧ D.nx ((σ.set i (some v)).set j (some w)) H1
theorem ps_par {i j : Nat} {x y : Str} {a b : Expr} {ta : TA} {px py pt : Pos} {kt k2 pt2} (hc : X.calm = true) (hN : X.N.Nodup) (hi : X.N[i]? = some x) (hj : X.N[j]? = some y) (hij : i ≠ j)
    (hx : X.env.scope.names.lookup x = some .local) (hy : X.env.scope.names.lookup y = some .local) (ha : PA X [a, b] ta)
    (hw : swappedStores [.Tuple [.Name x px, .Name y py] kt pt] (.Tuple [a, b] k2 pt2) X.env = pure (some [x, y]))
    (hs : swapsWithSole [.Tuple [.Name x px, .Name y py] kt pt] (.Tuple [a, b] k2 pt2) pos.line X.env = pure false := by rfl) :
    PS X (.Assign [.Tuple [.Name x px, .Name y py] kt pt] (.Tuple [a, b] k2 pt2) pos) (tPar i j ta) := by
  intro pins s σ H D I h
  rw [exec_Assign_arm]
  refine wpAny_bind (wpAny_standAt ?_)
  rw [hs]
  refine wpAny_bind (wpAny_pure ?_)
  rw [if_neg (by decide)]
  refine wpAny_bind (Tuple_ (thn (ha _ pins s σ H _ I h) fun us s1 ⟨vs, H1, I1, r1, q1⟩ => ?_))
  obtain ⟨v, w, e1, q1⟩ := q1
  subst e1
  obtain ⟨u1, u2, rfl, rv, rw'⟩ : ∃ u1 u2, us = [u1, u2] ∧ RelV v u1 ∧ RelV w u2 := by
    cases r1 with
    | cons p q =>
      cases q with
      | cons p' q' =>
        cases q'
        exact ⟨_, _, rfl, p, p'⟩
  refine wpAny_newObj_type ?_ (by show 2 ≤ sizeLine; decide)
  have I2 : Inv X pins σ H1 { s1 with heap := s1.heap.push { cls := .type "tuple", data := .seq [u1, u2].toArray } } := I1.kept (t' := s1.toks) fun b o e => Heap.get?_push_of_some _ e
  rw [hw]
  refine wpAny_bind (wpAny_pure ?_)
  show wpAny (model X.prog X.w) X.A (do rule "assign.swapped-stores"; let items ← unpackItems (.ref s1.heap.objs.size) 2 none; assignInOrder [fun v => bindName X.env y v, fun v => bindName X.env x v] items.reverse; pure Flow.next) _ _ _
  refine wpAny_bind (wpAny_rule (wpAny_bind (unpackItems_tuple (items := #[u1, u2]) (I.ok.hd hc) (IsTup.new s1.heap _) fun h' hx' => ?_)))
  have I3 := I2.kept (h' := h') (t' := s1.toks) fun b o e => hx' b o (Nat.ne_of_lt (Heap.lt_size e)) e
  show wpAny _ _ (assignInOrder [fun v => bindName X.env y v, fun v => bindName X.env x v] [u2, u1] >>= fun _ => pure Flow.next) _ _ _
  refine wpAny_bind (assignInOrder_cons (wpAny_bindName (store_ok I3 hN hj (.inl hy) rw' (fun s2 I4 => ?_) (.inr hy))))
  refine assignInOrder_cons (wpAny_bindName (store_ok I4 hN hi (.inl hx) rv (fun s3 I5 => assignInOrder_nil (wpAny_pure ?_)) (.inr hx)))
  rw [List.set_comm _ _ (Ne.symm hij)] at I5
  exact ⟨_, H1, I5, q1⟩
end

section
variable {X : Cx} {pos : Pos}
noncomputable def tWhile (c : TT) (tb : TS) : TS := fun D σ H => ∃ W : Nat → St → Hp → Prop, (∃ m, W m σ H) ∧ ∀ m σ H, W m σ H →
  c σ H fun b H1 => if b = true then ∃ N : St → Hp → Prop, (∀ σ' H', N σ' H' → ∃ m', m' < m ∧ W m' σ' H') ∧ tb { D with nx := N, ct := N, bk := D.nx } σ H1 else D.nx σ H1
theorem ps_while {c : Expr} {body : List Stmt} {tc : TT} {tb : TS} (hp : PassesOwn (model X.prog X.w) X.A X.env X.xe) (hc : PT X c tc) (hb : PSs X body tb) : PS X (.While c body [] pos) (tWhile tc tb) := by
  intro pins s σ H D I h
  obtain ⟨W, ⟨m0, w0⟩, turn⟩ := h
  refine wpAny_While (codeAny_whileLoop (fun n s' => ∃ σ' H', Inv X pins σ' H' s' ∧ W n σ' H') ?_ m0 ⟨σ, H, I, w0⟩)
  rintro n s1 ⟨σ1, H1, I1, w1⟩
  refine wpAny_passesOwn hp (thn (hc pins s1 σ1 H1 _ I1 (turn n σ1 H1 w1)) fun b s2 ⟨H2, I2, q2⟩ => ?_)
  cases b with
  | true =>
    obtain ⟨N, hN, q2⟩ := q2
    rw [if_pos rfl]
    refine wpAny_passesOwn hp (thn (hb pins s2 σ1 H2 _ I2 q2) fun f s3 q3 => ?_)
    cases f with
    | next =>
      obtain ⟨σ3, H3, I3, n3⟩ := q3
      obtain ⟨m', hm, w3⟩ := hN σ3 H3 n3
      exact ⟨m', hm, σ3, H3, I3, w3⟩
    | cont =>
      obtain ⟨σ3, H3, I3, n3⟩ := q3
      obtain ⟨m', hm, w3⟩ := hN σ3 H3 n3
      exact ⟨m', hm, σ3, H3, I3, w3⟩
    | brk => exact q3
    | ret v => exact q3
  | false =>
    rw [if_neg Bool.false_ne_true]
    exact wpAny_execs_nil ⟨σ1, H2, I2, q2⟩
end

structure It where
  go : Nat → Hp → Prop
  yld : Nat → Hp → V → Hp → Prop
  stop : Nat → Hp → Prop
noncomputable def FpOk (X : Cx) (pins : List (Addr × Obj)) (H : Hp) (b : Addr) : Prop :=
  H b = none ∧ b ≠ X.env.locals ∧ b ∉ X.fs ∧ (b ∈ X.ex ∨ X.s₀.heap.objs.size ≤ b) ∧ (∀ x c, X.env.cells.lookup x = some c → c ≠ b) ∧ ∀ p ∈ X.pn ++ pins, p.1 ≠ b
theorem Inv.fpOk {X : Cx} {pins : List (Addr × Obj)} {σ : St} {H H' : Hp} {s : Shared} {b : Addr} (I : Inv X pins σ H s) (hb : s.heap.objs.size ≤ b) (hn : H' b = none) : FpOk X pins H' b := by
  refine ⟨hn, Nat.ne_of_gt (Nat.lt_of_lt_of_le I.lt hb), I.nofs hb, .inr (Nat.le_trans I.sz hb), fun x c e z => ?_, fun p hp z => ?_⟩
  · obtain ⟨v, q⟩ := I.cell x c e
    exact absurd (Nat.lt_of_lt_of_le q.lt (by rw [z]; exact hb)) (Nat.lt_irrefl _)
  · exact absurd (Nat.lt_of_lt_of_le (Heap.lt_size (I.pin p hp).1) (by rw [z]; exact hb)) (Nat.lt_irrefl _)
structure Turn (P : Program) (w : World) (K : PySem.W.Frag) (tg : Expr) (J : It) (fp : List Addr) (it : Addr) (tn : Nat → Heap → Prop) : Prop where
  mem : it ∈ fp
  obj : ∀ i h, tn i h → ∀ b ∈ fp, ∃ o, h.get? b = some o ∧ ∀ v, o.data ≠ .cell v
  keep : ∀ i h h', tn i h → (∀ b ∈ fp, ∀ o, h.get? b = some o → h'.get? b = some o) → tn i h'
  item : ∀ (X : Cx), X.prog = P → X.w = w → X.K = K → X.calm = true → ∀ (i : Nat) (pins : List (Addr × Obj)) (s : Shared) (σ : St) (H : Hp) (E : Value → Shared → Prop), Inv X pins σ H s → (∀ b ∈ fp, FpOk X pins H b) → tn i s.heap → J.go i H →
    wpAny (model P w) X.A (pyNext (.ref it)) (fun r s1 => ∃ u, r = some u ∧
      wpAny (model P w) X.A (letOwnedTupleGo tg (.ref it) u) (fun _ s2 => ∃ x H', Inv X pins σ H' s2 ∧ RelV x u ∧ J.yld i H x H' ∧ tn (i + 1) s2.heap ∧ ∀ b ∈ fp, H' b = none) E s1) E s
  done : ∀ (X : Cx), X.prog = P → X.w = w → X.K = K → X.calm = true → ∀ (i : Nat) (pins : List (Addr × Obj)) (s : Shared) (σ : St) (H : Hp) (E : Value → Shared → Prop), Inv X pins σ H s → (∀ b ∈ fp, FpOk X pins H b) → tn i s.heap → J.stop i H →
    wpAny (model P w) X.A (pyNext (.ref it)) (fun r s1 => r = none ∧ Inv X pins σ H s1) E s
  self : ∀ (A : Around) (i : Nat) (s : Shared) (Q : Value → Shared → Prop) (E : Value → Shared → Prop), tn i s.heap → Q (.ref it) s → wpAny (model P w) A (pyIter (.ref it)) Q E s
abbrev TI := St → Hp → (It → Hp → Prop) → Prop
noncomputable def PIE (X : Cx) (pins : List (Addr × Obj)) (σ : St) (tg : Expr) (R : It → Hp → Prop) (itv : Value) (s2 : Shared) : Prop :=
  ∃ (it : Addr) (fp : List Addr) (tn : Nat → Heap → Prop) (J : It) (H' : Hp), itv = .ref it ∧ Inv X pins σ H' s2 ∧ Turn X.prog X.w X.K tg J fp it tn ∧ tn 0 s2.heap ∧ (∀ b ∈ fp, FpOk X pins H' b) ∧ R J H'
noncomputable def PI (X : Cx) (tg iter : Expr) (wi : TI) : Prop :=
  ∀ (pins : List (Addr × Obj)) (s : Shared) (σ : St) (H : Hp) (R : It → Hp → Prop), Inv X pins σ H s → wi σ H R →
    wpAny (model X.prog X.w) X.A (eval iter X.env) (fun v s1 => wpAny (model X.prog X.w) X.A (pyIter v) (PIE X pins σ tg R) X.xe s1) X.xe s

theorem go_of {M : Model} {A : Around} {E : Value → Shared → Prop} {s : Shared} {tg : Expr} {it : Addr} {u : Value} {o : Obj} {n : String} {vs : Array Value} {Q : Unit → Shared → Prop} (ho : s.heap.get? it = some o) (hc : o.cls = .type n) (hd : o.data = .fields vs)
    (hn : ["enumerate", "zip", "dict_itemiterator", "dict_reverseitemiterator", "odict_iterator", "itertools.zip_longest", "itertools.pairwise"].contains n = false) (hQ : Q () s) : wpAny M A (letOwnedTupleGo tg (.ref it) u) Q E s := by
  unfold letOwnedTupleGo
  cases tg <;> first
    | exact wpAny_pure hQ
    | (cases u <;> first
        | exact wpAny_pure hQ
        | (refine wpAny_bind (wpAny_load ho ?_)
           rw [hc, hd]
           show wpAny M A (if (["enumerate", "zip", "dict_itemiterator", "dict_reverseitemiterator", "odict_iterator", "itertools.zip_longest", "itertools.pairwise"].contains n && vs[0]? == some (rawInt _)) = true then _ else _) Q E s
           rw [if_neg (by intro h; rw [hn, Bool.false_and] at h; cases h)]
           exact wpAny_pure hQ))

noncomputable def Itl (K : PySem.W.Frag) (a : Addr) : It :=
  ⟨fun i H => ∃ xs x, SqL K H a xs ∧ xs[i]? = some x, fun i H x H' => H' = H ∧ ∀ xs, SqL K H a xs → xs[i]? = some x, fun i H => ∃ xs, SqL K H a xs ∧ xs.length ≤ i⟩
noncomputable def Itt (K : PySem.W.Frag) (a : Addr) : It :=
  ⟨fun i H => ∃ xs x, SqT K H a xs ∧ xs[i]? = some x, fun i H x H' => H' = H ∧ ∀ xs, SqT K H a xs → xs[i]? = some x, fun i H => ∃ xs, SqT K H a xs ∧ xs.length ≤ i⟩
noncomputable def Itr (lo : Int) (n : Nat) : It := ⟨fun i _ => i < n, fun i H x H' => H' = H ∧ x = .int (lo + i), fun i _ => n ≤ i⟩
theorem turn_list {P : Program} {w : World} {K : PySem.W.Frag} {tg : Expr} (a it : Addr) : Turn P w K tg (Itl K a) [it] it (fun i h => h.IsListIter it a i) where
  mem := by simp
  obj := fun i h st b hb => by
    have e : b = it := by simpa using hb
    subst e
    obtain ⟨o, e, c, d⟩ := st
    exact ⟨o, e, fun v z => by rw [d] at z; cases z⟩
  keep := fun i h h' st k => st.at fun o e => k it (by simp) o e
  item := by
    intro X hP hw hK hc i pins s σ H E I hf st hg
    subst hP hw hK
    obtain ⟨xs, x, hq, hx⟩ := hg
    obtain ⟨its, rv, p, hz⟩ := I.list hq
    obtain ⟨u, hu, ru⟩ := rv.get hx
    obtain ⟨f0, f1, f2, f3, f4, f5⟩ := hf it (by simp)
    refine wpAny_pyNext_list_item st p.isList (x := u) (by simpa using hu) fun h' st' sb => ?_
    have I1 : Inv X pins σ H { s with heap := h' } := I.turned (t' := s.toks) (fun b o hb e => (sb.2 b hb).trans e) f0 f1 f3 f4 f5
    obtain ⟨o, e, c, d⟩ := id st'
    exact ⟨u, rfl, go_of (s := { s with heap := h' }) e c d (by decide) ⟨x, H, I1, ru, ⟨rfl, fun ys hy => by rw [I.list_inj hy hq]; exact hx⟩, st', fun b hb => (hf b hb).1⟩⟩
  done := by
    intro X hP hw hK hc i pins s σ H E I hf st hg
    subst hP hw hK
    obtain ⟨xs, hq, hx⟩ := hg
    obtain ⟨its, rv, p, hz⟩ := I.list hq
    obtain ⟨f0, f1, f2, f3, f4, f5⟩ := hf it (by simp)
    have hl := rv.length
    exact wpAny_pyNext_list_end (I.ok.hd hc) st p.isList (by simp; omega) fun h' eb => ⟨rfl, I.turned (t' := s.toks) (fun b o hb e => eb b o hb e) f0 f1 f3 f4 f5⟩
  self := fun _ _ _ _ _ st h => wpAny_pyIter_listiter st h
theorem turn_range {P : Program} {w : World} {K : PySem.W.Frag} {tg : Expr} (it : Addr) (lo : Int) (n : Nat) : Turn P w K tg (Itr lo n) [it] it (fun i h => IsRangeIter h it (lo + (i : Nat) * 1) ((n : Int) - (i : Nat)) 1) where
  mem := by simp
  obj := fun i h st b hb => by
    have e : b = it := by simpa using hb
    subst e
    exact ⟨_, st, fun v z => by
      have z' : Data.fields _ = Data.cell v := z
      cases z'⟩
  keep := fun i h h' st k => k it (by simp) _ st
  item := by
    intro X hP hw hK hc i pins s σ H E I hf st hg
    subst hP hw hK
    obtain ⟨f0, f1, f2, f3, f4, f5⟩ := hf it (by simp)
    have W := Walks.range (prog := X.prog) (w := X.w) (I.ok.hd hc) it lo 1 n
    refine W.item i s _ _ hg st fun v h' tk hv st' kk => ?_
    obtain ⟨t, rfl⟩ := hv
    have I1 : Inv X pins σ H { s with heap := h', toks := tk } := I.turned (fun b o hb e => kk b o (by simpa using hb) e) f0 f1 f3 f4 f5
    refine ⟨_, rfl, go_of (s := { s with heap := h', toks := tk }) (n := "range_iterator") st' rfl rfl (by decide) ⟨.int (lo + i), H, I1, ⟨t, ?_⟩, ⟨rfl, rfl⟩, st', fun b hb => (hf b hb).1⟩⟩
    rw [Int.mul_one]
  done := by
    intro X hP hw hK hc i pins s σ H E I hf st hg
    subst hP hw hK
    obtain ⟨f0, f1, f2, f3, f4, f5⟩ := hf it (by simp)
    exact wpAny_pyNext_range_end (I.ok.hd hc) st (by have : n ≤ i := hg; omega) fun h' eb => ⟨rfl, I.turned (t' := s.toks) (fun b o hb e => eb b o hb e) f0 f1 f3 f4 f5⟩
  self := fun _ _ _ _ _ st h => wpAny_pyIter_rangeiter st h
end L2

namespace L2
open PySem PySem.Spec PyProof.Rows
section
variable {X : Cx} {tg : Expr}
noncomputable def iList (K : PySem.W.Frag) (tl : TE) : TI := fun σ H R => tl σ H fun x H1 => ∃ a, x = .ref a ∧ (∃ xs, SqL K H1 a xs) ∧ R (Itl K a) H1
noncomputable def iTup (K : PySem.W.Frag) (tl : TE) : TI := fun σ H R => tl σ H fun x H1 => ∃ a, x = .ref a ∧ (∃ xs, SqT K H1 a xs) ∧ R (Itt K a) H1
theorem pi_list {l : Expr} {tl : TE} (hl : PE X l tl) : PI X tg l (iList X.K tl) := by
  intro pins s σ H R I h
  refine thn (hl pins s σ H _ I h) fun v s1 ⟨x, H1, I1, r1, q1⟩ => ?_
  obtain ⟨a, e, ⟨xs, hq⟩, q⟩ := q1
  subst e
  cases r1
  obtain ⟨its, rv, p, hz⟩ := I1.list hq
  refine wpAny_pyIter_list p.isList ?_
  refine ⟨s1.heap.objs.size, [s1.heap.objs.size], _, _, H1, rfl, I1.kept (t' := s1.toks) fun b o e => Heap.get?_push_of_some _ e, turn_list a _, ⟨_, Heap.get?_push_size _ rfl, rfl, rfl⟩, fun b hb => ?_, q⟩
  have e : b = s1.heap.objs.size := by simpa using hb
  subst e
  exact I1.fpOk (Nat.le_refl _) (I1.hok.fresh (Nat.le_refl _))
theorem range_it {pins : List (Addr × Obj)} {σ : St} {H : Hp} {s : Shared} {R : It → Hp → Prop} {E : Value → Shared → Prop} {lo hi : Int} {t u v : Tok} {tk : Nat} (I : Inv X pins σ H s) (h1 : -(2 ^ 62) ≤ lo) (h2 : lo < 2 ^ 62) (h3 : -(2 ^ 62) ≤ hi) (h4 : hi < 2 ^ 62)
    (q : R (Itr lo (hi - lo).toNat) H) : wpAny (model X.prog X.w) X.A (pyIter (.ref s.heap.objs.size)) (PIE X pins σ tg R) E { s with heap := s.heap.push { cls := .type "range", data := .fields #[.int lo t, .int hi u, .int 1 v] }, toks := tk } := by
  refine wpAny_pyIter_range (IsRange.new ..) (small_one h1 h2 h3 h4) ?_
  have I1 : Inv X pins σ H { s with heap := s.heap.push { cls := .type "range", data := .fields #[.int lo t, .int hi u, .int 1 v] }, toks := tk } := I.kept fun b o e => Heap.get?_push_of_some _ e
  refine ⟨(s.heap.push { cls := .type "range", data := .fields #[.int lo t, .int hi u, .int 1 v] }).objs.size, [(s.heap.push { cls := .type "range", data := .fields #[.int lo t, .int hi u, .int 1 v] }).objs.size], _, _, H, rfl,
    I1.kept (t' := tk) fun b o e => Heap.get?_push_of_some _ e, turn_range _ lo (hi - lo).toNat, ?_, fun b hb => ?_, q⟩
  · have e1 : lo + ((0 : Nat) : Int) * 1 = lo := by simp
    have e2 : (((hi - lo).toNat : Nat) : Int) - ((0 : Nat) : Int) = Builtin.Range.rangeSize lo hi 1 := by rw [rangeSize_one]; split <;> omega
    show IsRangeIter _ _ (lo + ((0 : Nat) : Int) * 1) ((((hi - lo).toNat : Nat) : Int) - ((0 : Nat) : Int)) 1
    rw [e1, e2]
    exact Heap.get?_push_size _ rfl
  · have e : b = (s.heap.push { cls := .type "range", data := .fields #[.int lo t, .int hi u, .int 1 v] }).objs.size := by simpa using hb
    subst e
    exact I1.fpOk (Nat.le_refl _) (I1.hok.fresh (Nat.le_refl _))
noncomputable def iRng1 (ta : TA) : TI := fun σ H R => ta σ H fun vs H1 => ∃ j : Int, vs = [.int j] ∧ -(2 ^ 62) ≤ j ∧ j < 2 ^ 62 ∧ R (Itr 0 j.toNat) H1
noncomputable def iRng2 (ta : TA) : TI := fun σ H R => ta σ H fun vs H1 => ∃ i j : Int, vs = [.int i, .int j] ∧ (-(2 ^ 62) ≤ i ∧ i < 2 ^ 62 ∧ -(2 ^ 62) ≤ j ∧ j < 2 ^ 62) ∧ R (Itr i (j - i).toNat) H1
theorem pi_range1 {a : Expr} {ta : TA} {p pos : Pos} (hg : Gl X "range") (hm : X.mg "range" = none) (ha : PA X [a] ta) (hs : starEach [a] X.env = [(false, eval a X.env)] := by rfl) : PI X tg (.Call (.Name "range" p) [a] [] pos) (iRng1 ta) := by
  intro pins s σ H R I h
  refine Call_ (ld_blt I hg hm boot_range (PyProof.Rows.callWith_type1 (thn (ha pos pins s σ H _ I h) fun us s1 ⟨vs, H1, I1, r1, q1⟩ => ?_) hs rfl))
  obtain ⟨j, e, q1, q2, q⟩ := q1
  subst e
  cases r1 with
  | cons r rr =>
    cases rr
    obtain ⟨t, rfl⟩ := r
    exact call_range_1 (range_it I1 (by omega) (by omega) q1 q2 (by simpa using q))
theorem pi_range2 {a b : Expr} {ta : TA} {p pos : Pos} (hg : Gl X "range") (hm : X.mg "range" = none) (ha : PA X [a, b] ta) (hs : starEach [a, b] X.env = [(false, eval a X.env), (false, eval b X.env)] := by rfl) (hs2 : starEach [b] X.env = [(false, eval b X.env)] := by rfl) :
    PI X tg (.Call (.Name "range" p) [a, b] [] pos) (iRng2 ta) := by
  intro pins s σ H R I h
  refine Call_ (ld_blt I hg hm boot_range (PyProof.Rows.callWith_type1 (thn (ha pos pins s σ H _ I h) fun us s1 ⟨vs, H1, I1, r1, q1⟩ => ?_) (by rw [hs, hs2]) (by rw [hs2]; rfl)))
  obtain ⟨i, j, e, ⟨q1, q2, q3, q4⟩, q⟩ := q1
  subst e
  cases r1 with
  | cons r rr =>
    cases rr with
    | cons r' rr =>
      cases rr
      obtain ⟨t, rfl⟩ := r
      obtain ⟨t', rfl⟩ := r'
      exact call_range_2 (range_it I1 q1 q2 q3 q4 q)

noncomputable def tFor (wi : TI) (g : TG) (tb : TS) : TS := fun D σ H => wi σ H fun J H1 => ∃ W : Nat → Nat → St → Hp → Prop, (∃ m, W 0 m σ H1) ∧ ∀ i m σ H, W i m σ H →
  (J.stop i H ∧ D.nx σ H) ∨ (J.go i H ∧ ∃ N : St → Hp → Prop, (∀ σ' H', N σ' H' → ∃ m', m' < m ∧ W (i + 1) m' σ' H') ∧ ∀ x H', J.yld i H x H' → g x σ H' fun σ2 H2 => tb { D with nx := N, ct := N, bk := D.nx } σ2 H2)
noncomputable def pinsAt (fp : List Addr) (h : Heap) : List (Addr × Obj) := fp.filterMap fun b => (h.get? b).map fun o => (b, o)
theorem mem_pinsAt {fp : List Addr} {h : Heap} {b : Addr} {o : Obj} (hb : b ∈ fp) (e : h.get? b = some o) : (b, o) ∈ pinsAt fp h := List.mem_filterMap.mpr ⟨b, hb, by rw [e]; rfl⟩
theorem of_pinsAt {fp : List Addr} {h : Heap} {p : Addr × Obj} (hp : p ∈ pinsAt fp h) : p.1 ∈ fp ∧ h.get? p.1 = some p.2 := by
  obtain ⟨b, hb, e⟩ := List.mem_filterMap.mp hp
  cases q : h.get? b with
  | none => rw [q] at e; cases e
  | some o =>
    rw [q] at e
    have e' : (b, o) = p := Option.some.inj e
    subst e'
    exact ⟨hb, q⟩
theorem Inv.pinned {pins : List (Addr × Obj)} {σ : St} {H : Hp} {s : Shared} {fp : List Addr} (I : Inv X pins σ H s) (hf : ∀ b ∈ fp, FpOk X pins H b) (ho : ∀ b ∈ fp, ∃ o, s.heap.get? b = some o ∧ ∀ v, o.data ≠ .cell v) : Inv X (pins ++ pinsAt fp s.heap) σ H s :=
  I.pins_of fun p hp => (List.mem_append.mp hp).elim (fun z => I.pin p (List.mem_append_right _ z)) fun z => by
    obtain ⟨hb, e⟩ := of_pinsAt z
    obtain ⟨f0, f1, f2, _⟩ := hf p.1 hb
    obtain ⟨o, e', d⟩ := ho p.1 hb
    rw [e] at e'; cases e'
    exact ⟨e, f0, f1, f2, d⟩
theorem Inv.unpinned {pins pl : List (Addr × Obj)} {σ : St} {H : Hp} {s : Shared} (I : Inv X (pins ++ pl) σ H s) : Inv X pins σ H s := I.pins_of fun p hp => I.pin p (List.mem_append_right _ (List.mem_append_left _ hp))
theorem ps_for {iter : Expr} {body : List Stmt} {wi : TI} {g : TG} {tb : TS} {pos : Pos} (hp : PassesOwn (model X.prog X.w) X.A X.env X.xe) (hc : X.calm = true) (hi : PI X tg iter wi) (hg : PG X tg g) (hb : PSs X body tb)
    (hs : ∀ x, foldedSetIterable iter X.env x = pure x := by intro _; rfl) : PS X (.For tg iter body [] pos) (tFor wi g tb) := by
  intro pins s σ H D I h
  refine wpAny_For (thn (hi pins s σ H _ I h) fun v s1 h1 => thn h1 fun itv s2 h2 => ?_) hs
  obtain ⟨it, fp, tn, J, H2, e, I2, T, st2, f2, W, ⟨m0, w0⟩, turn⟩ := h2
  subst e
  -- what stays true of the iterator's objects through the loop
  have stat : ∀ {H' : Hp}, (∀ b ∈ fp, H' b = none) → ∀ b ∈ fp, FpOk X pins H' b := fun hn b hb => ⟨hn b hb, (f2 b hb).2⟩
  refine codeAny_forLoop_any (fun n s' => ∃ i σ' H', Inv X pins σ' H' s' ∧ tn i s'.heap ∧ (∀ b ∈ fp, H' b = none) ∧ W i n σ' H') ?_ m0 ⟨0, σ, H2, I2, st2, fun b hb => (f2 b hb).1, w0⟩
  rintro n s3 ⟨i, σ3, H3, I3, st3, fr3, w3⟩
  rcases turn i n σ3 H3 w3 with ⟨stop, qn⟩ | ⟨go, N, hN, step⟩
  · refine wpAny_passesOwn hp (thn (T.done X rfl rfl rfl hc i pins s3 σ3 H3 X.xe I3 (stat fr3) st3 stop) fun r s4 ⟨hr, I4⟩ => ?_)
    subst hr
    exact wpAny_execs_nil ⟨σ3, H3, I4, qn⟩
  · refine wpAny_passesOwn hp (thn (T.item X rfl rfl rfl hc i pins s3 σ3 H3 X.xe I3 (stat fr3) st3 go) fun r s4 ⟨u, hr, h4⟩ => ?_)
    subst hr
    refine wpAny_passesOwn hp (thn h4 fun _ s5 ⟨x, H5, I5, r5, y5, st5, fr5⟩ => ?_)
    have I5' := I5.pinned (stat fr5) (T.obj _ _ st5)
    refine wpAny_passesOwn hp (thn (hg _ s5 σ3 H5 x u _ I5' r5 (step x H5 y5)) fun _ s6 ⟨σ6, H6, I6, q6⟩ => ?_)
    refine wpAny_passesOwn hp (thn (hb _ s6 σ6 H6 _ I6 q6) fun f s7 q7 => ?_)
    have again : ∀ {σ7 : St} {H7 : Hp}, Inv X (pins ++ pinsAt fp s5.heap) σ7 H7 s7 → N σ7 H7 → ∃ m, m < n ∧ ∃ i σ' H', Inv X pins σ' H' s7 ∧ tn i s7.heap ∧ (∀ b ∈ fp, H' b = none) ∧ W i m σ' H' := fun {σ7 H7} I7 n7 => by
      obtain ⟨m', hm, w7⟩ := hN σ7 H7 n7
      refine ⟨m', hm, i + 1, σ7, H7, I7.unpinned, T.keep _ _ _ st5 fun b hb o e => (I7.pin (b, o) (List.mem_append_right _ (List.mem_append_right _ (mem_pinsAt hb e)))).1, fun b hb => ?_, w7⟩
      obtain ⟨o, e, d⟩ := T.obj _ _ st5 b hb
      exact (I7.pin (b, o) (List.mem_append_right _ (List.mem_append_right _ (mem_pinsAt hb e)))).2.1
    cases f with
    | next => obtain ⟨σ7, H7, I7, n7⟩ := q7; exact again I7 n7
    | cont => obtain ⟨σ7, H7, I7, n7⟩ := q7; exact again I7 n7
    | brk => obtain ⟨σ7, H7, I7, q7⟩ := q7; exact ⟨σ7, H7, I7.unpinned, q7⟩
    | ret v => obtain ⟨x7, σ7, H7, I7, r7, q7⟩ := q7; exact ⟨x7, σ7, H7, I7.unpinned, r7, q7⟩
end

theorem for_list {K : PySem.W.Frag} {a : Addr} {xs : List V} {g : TG} {tb : TS} {D : Ends} {σ : St} {H : Hp} (Pv : Nat → St → Hp → Prop) (h0 : Pv 0 σ H) (hl : ∀ i σ H, i ≤ xs.length → Pv i σ H → SqL K H a xs)
    (hs : ∀ i x σ H, xs[i]? = some x → Pv i σ H → g x σ H fun σ2 H2 => tb { D with nx := Pv (i + 1), ct := Pv (i + 1), bk := D.nx } σ2 H2) (hd : ∀ σ H, Pv xs.length σ H → D.nx σ H) :
    ∃ W : Nat → Nat → St → Hp → Prop, (∃ m, W 0 m σ H) ∧ ∀ i m σ H, W i m σ H →
      ((Itl K a).stop i H ∧ D.nx σ H) ∨ ((Itl K a).go i H ∧ ∃ N : St → Hp → Prop, (∀ σ' H', N σ' H' → ∃ m', m' < m ∧ W (i + 1) m' σ' H') ∧ ∀ x H', (Itl K a).yld i H x H' → g x σ H' fun σ2 H2 => tb { D with nx := N, ct := N, bk := D.nx } σ2 H2) := by
  refine ⟨fun i m σ H => m = xs.length - i ∧ i ≤ xs.length ∧ Pv i σ H, ⟨xs.length, by simp, Nat.zero_le _, h0⟩, ?_⟩
  rintro i m σ H ⟨rfl, hi, p⟩
  have q := hl i σ H hi p
  by_cases hlt : i < xs.length
  · refine .inr ⟨⟨xs, xs[i], q, by simp [hlt]⟩, Pv (i + 1), fun σ' H' p' => ⟨xs.length - (i + 1), by omega, rfl, hlt, p'⟩, fun x H' y => ?_⟩
    obtain ⟨e, y⟩ := y
    subst e
    exact hs i x σ _ (y xs q) p
  · have e : i = xs.length := by omega
    subst e
    exact .inl ⟨⟨xs, q, Nat.le_refl _⟩, hd σ H p⟩
theorem for_range {lo : Int} {n : Nat} {g : TG} {tb : TS} {D : Ends} {σ : St} {H : Hp} (Pv : Nat → St → Hp → Prop) (h0 : Pv 0 σ H)
    (hs : ∀ i σ H, i < n → Pv i σ H → g (.int (lo + i)) σ H fun σ2 H2 => tb { D with nx := Pv (i + 1), ct := Pv (i + 1), bk := D.nx } σ2 H2) (hd : ∀ σ H, Pv n σ H → D.nx σ H) :
    ∃ W : Nat → Nat → St → Hp → Prop, (∃ m, W 0 m σ H) ∧ ∀ i m σ H, W i m σ H →
      ((Itr lo n).stop i H ∧ D.nx σ H) ∨ ((Itr lo n).go i H ∧ ∃ N : St → Hp → Prop, (∀ σ' H', N σ' H' → ∃ m', m' < m ∧ W (i + 1) m' σ' H') ∧ ∀ x H', (Itr lo n).yld i H x H' → g x σ H' fun σ2 H2 => tb { D with nx := N, ct := N, bk := D.nx } σ2 H2) := by
  refine ⟨fun i m σ H => m = n - i ∧ i ≤ n ∧ Pv i σ H, ⟨n, by simp, Nat.zero_le _, h0⟩, ?_⟩
  rintro i m σ H ⟨rfl, hi, p⟩
  by_cases hlt : i < n
  · refine .inr ⟨hlt, Pv (i + 1), fun σ' H' p' => ⟨n - (i + 1), by omega, rfl, hlt, p'⟩, fun x H' y => ?_⟩
    obtain ⟨e, y⟩ := y
    subst e y
    exact hs i σ _ hlt p
  · have e : i = n := by omega
    subst e
    exact .inl ⟨Nat.le_refl _, hd σ H p⟩
end L2

namespace L2
open PySem PySem.Spec PyProof.Rows

abbrev R2 := V → V → Hp → VK → Prop
noncomputable def OpR (X : Cx) (f : Value → Value → Sem Value) (r : R2) : Prop :=
  ∀ (pins : List (Addr × Obj)) (s : Shared) (σ : St) (H : Hp) (x y : V) (v u : Value) (Q : VK), Inv X pins σ H s → RelV x v → RelV y u → r x y H Q →
    wpAny (model X.prog X.w) X.A (f v u) (EP X pins σ Q) X.xe s
noncomputable def CallR (X : Cx) (f : Value) (r : List V → Hp → VK → Prop) : Prop :=
  ∀ (pins : List (Addr × Obj)) (s : Shared) (σ : St) (H : Hp) (xs : List V) (us : List Value) (Q : VK), Inv X pins σ H s → Vals xs us → r xs H Q →
    wpAny (model X.prog X.w) X.A (call f us) (EP X pins σ Q) X.xe s
noncomputable def tOp (r : R2) (ta tb : TE) : TE := fun σ H Q => ta σ H fun x H1 => tb σ H1 fun y H2 => r x y H2 Q
noncomputable def tUn (r : V → Hp → VK → Prop) (ta : TE) : TE := fun σ H Q => ta σ H fun x H1 => r x H1 Q
noncomputable def rI (C : Int → Int → Prop) (g : Int → Int → V) : R2 := fun x y H Q => ∃ i j, x = .int i ∧ y = .int j ∧ C i j ∧ Q (g i j) H
noncomputable def rI0 (g : Int → Int → V) : R2 := fun x y H Q => ∃ i j, x = .int i ∧ y = .int j ∧ Q (g i j) H
noncomputable def rU (g : Int → V) : V → Hp → VK → Prop := fun x H Q => ∃ i, x = .int i ∧ Q (g i) H

section
variable {X : Cx} {a b c : Expr} {ta tb tc : TE} {pos : Pos}

theorem binT (ha : PE X a ta) (hb : PE X b tb) {pins : List (Addr × Obj)} {s : Shared} {σ : St} {H : Hp} {R : V → V → Hp → Prop} (I : Inv X pins σ H s)
    (h : ta σ H fun x H1 => tb σ H1 fun y H2 => R x y H2) {Q : Value → Shared → Prop} {f : Value → Value → Sem Value}
    (hf : ∀ v u s2 x y H2, Inv X pins σ H2 s2 → RelV x v → RelV y u → R x y H2 → wpAny (model X.prog X.w) X.A (f v u) Q X.xe s2) :
    wpAny (model X.prog X.w) X.A (eval a X.env) (fun v s₁ => wpAny (model X.prog X.w) X.A (eval b X.env) (fun u s₂ => wpAny (model X.prog X.w) X.A (f v u) Q X.xe s₂) X.xe s₁) X.xe s := by
  refine thn (ha pins s σ H _ I h) fun v s1 ⟨x, H1, I1, r1, q1⟩ => ?_
  refine thn (hb pins s1 σ H1 _ I1 q1) fun u s2 ⟨y, H2, I2, r2, q2⟩ => ?_
  exact hf v u s2 x y H2 I2 r1 r2 q2

theorem pe_op {op : Operator} {r : R2} (ho : OpR X (binaryOp op) r) (ha : PE X a ta) (hb : PE X b tb) : PE X (.BinOp a op b pos) (tOp r ta tb) := by
  intro pins s σ H Q I h
  exact wpAny_BinOp (binT ha hb I h fun v u s2 x y H2 I2 rx ry q => ho pins s2 σ H2 x y v u Q I2 rx ry q)
theorem opI {f : Value → Value → Sem Value} {C : Int → Int → Prop} {g : Int → Int → Int}
    (rule : ∀ (i j : Int) (t u : Tok) (s : Shared) (Q : Value → Shared → Prop) (E : Value → Shared → Prop), C i j → Q (.int (g i j) s.toks) { s with toks := s.toks + 1 } → wpAny (model X.prog X.w) X.A (f (.int i t) (.int j u)) Q E s) :
    OpR X f (rI C fun i j => .int (g i j)) := by
  intro pins s σ H x y v u Q I rx ry h
  obtain ⟨i, j, rfl, rfl, hc, q⟩ := h
  obtain ⟨t, rfl⟩ := rx
  obtain ⟨t', rfl⟩ := ry
  exact rule i j t t' s _ _ hc ⟨.int (g i j), H, I.tok _, ⟨_, rfl⟩, q⟩
theorem opI0 {f : Value → Value → Sem Value} {g : Int → Int → Int}
    (rule : ∀ (i j : Int) (t u : Tok) (s : Shared) (Q : Value → Shared → Prop) (E : Value → Shared → Prop), Q (.int (g i j) s.toks) { s with toks := s.toks + 1 } → wpAny (model X.prog X.w) X.A (f (.int i t) (.int j u)) Q E s) :
    OpR X f (rI0 fun i j => .int (g i j)) := by
  intro pins s σ H x y v u Q I rx ry h
  obtain ⟨i, j, rfl, rfl, q⟩ := h
  obtain ⟨t, rfl⟩ := rx
  obtain ⟨t', rfl⟩ := ry
  exact rule i j t t' s _ _ ⟨.int (g i j), H, I.tok _, ⟨_, rfl⟩, q⟩
theorem opB0 {f : Value → Value → Sem Value} {g : Int → Int → Bool}
    (rule : ∀ (i j : Int) (t u : Tok) (s : Shared) (Q : Value → Shared → Prop) (E : Value → Shared → Prop), Q (.bool (g i j)) s → wpAny (model X.prog X.w) X.A (f (.int i t) (.int j u)) Q E s) :
    OpR X f (rI0 fun i j => .bl (g i j)) := by
  intro pins s σ H x y v u Q I rx ry h
  obtain ⟨i, j, rfl, rfl, q⟩ := h
  obtain ⟨t, rfl⟩ := rx
  obtain ⟨t', rfl⟩ := ry
  exact rule i j t t' s _ _ ⟨.bl (g i j), H, I, rfl, q⟩

noncomputable def CPow (i j : Int) : Prop := 0 ≤ j ∧ j ≤ 1000000 ∧ i.natAbs < 2 ^ 64
noncomputable def CMul (i j : Int) : Prop := (-(2 ^ 64) < i ∧ i < 2 ^ 64) ∨ (-(2 ^ 64) < j ∧ j < 2 ^ 64)
theorem CMul.ok {i j : Int} (h : CMul i j) : IntMulOk i j := by
  rcases h with ⟨h1, h2⟩ | ⟨h1, h2⟩
  · exact .of_left (intBits_le_64 h1 h2)
  · exact .of_right (intBits_le_64 h1 h2)
theorem op_add : OpR X (binaryOp .Add) (rI0 fun i j => .int (i + j)) := opI0 fun _ _ _ _ _ _ _ q => add_int q
theorem op_sub : OpR X (binaryOp .Sub) (rI0 fun i j => .int (i - j)) := opI0 fun _ _ _ _ _ _ _ q => sub_int q
theorem op_mod : OpR X (binaryOp .Mod) (rI (fun _ j => 0 < j) fun i j => .int (i % j)) := opI fun i j _ _ _ _ _ hc q => by
  have h1 : (0 : Int) < j := hc
  exact mod_int' (by omega) (by rw [Int.fmod_eq_emod_of_nonneg i (by omega)]; exact q)
theorem op_pow : OpR X (binaryOp .Pow) (rI CPow fun i j => .int (i ^ j.toNat)) := opI fun _ _ _ _ _ _ _ hc q => pow_int_small hc.1 hc.2.1 hc.2.2 q
end

noncomputable def scal : V → V → Bool
  | .non, .non => true | .non, .int _ => true | .int _, .non => true | .non, .bl _ => true | .bl _, .non => true | .non, .str _ => true | .str _, .non => true
  | .int _, .int _ => true | .bl _, .bl _ => true | .str _, .str _ => true | .byt _, .byt _ => true
  | .int _, .str _ => true | .str _, .int _ => true | .bl _, .str _ => true | .str _, .bl _ => true
  | _, _ => false
noncomputable def rEq : R2 := fun x y H Q => scal x y = true ∧ Q (.bl (decide (x = y))) H
noncomputable def rNe : R2 := fun x y H Q => scal x y = true ∧ Q (.bl (!decide (x = y))) H

theorem dec_int {i j : Int} : decide (V.int i = V.int j) = (i == j) := by
  rw [Bool.eq_iff_iff]
  simp
theorem dec_bl {i j : Bool} : decide (V.bl i = V.bl j) = (i == j) := by
  rw [Bool.eq_iff_iff]
  simp
theorem dec_str {i j : Str} : decide (V.str i = V.str j) = (i == j) := by
  rw [Bool.eq_iff_iff]
  simp
theorem dec_byt {i j : Array UInt8} : decide (V.byt i = V.byt j) = (i.toList == j.toList) := by
  rw [Bool.eq_iff_iff]
  cases i
  cases j
  simp

section
variable {X : Cx} {a b c : Expr} {ta tb tc : TE} {pos : Pos}
theorem fin_bl {pins : List (Addr × Obj)} {σ : St} {H : Hp} {s : Shared} {Q : VK} {k k' : Bool} (I : Inv X pins σ H s) (q : Q (.bl k) H) (e : k = k') : EP X pins σ Q (.bool k') s := by
  subst e
  exact ⟨.bl k, H, I, rfl, q⟩
theorem op_eq : OpR X (compareOp .Eq) rEq := by
  intro pins s σ H x y v u Q I rx ry h
  obtain ⟨hs, q⟩ := h
  cases x with
  | non =>
    cases rx
    cases y with
    | non => cases ry; exact PySem.EqNone.eq_none_none (fin_bl I q (by simp))
    | bl j => cases ry; exact PySem.EqNone.eq_none_bool (fin_bl I q (by simp))
    | int j => obtain ⟨t', rfl⟩ := ry; exact PySem.EqNone.eq_none_int (fin_bl I q (by simp))
    | str j => obtain ⟨t', rfl⟩ := ry; exact PySem.EqNone.eq_none_str (fin_bl I q (by simp))
    | _ => exact absurd (show false = true from hs) Bool.false_ne_true
  | bl i =>
    cases rx
    cases y with
    | non => cases ry; exact PySem.EqNone.eq_bool_none (fin_bl I q (by simp))
    | bl j => cases ry; exact eq_bool (fin_bl I q dec_bl)
    | str j => obtain ⟨t', rfl⟩ := ry; exact PySem.EqMixed.eq_bool_str (fin_bl I q (by simp))
    | _ => exact absurd (show false = true from hs) Bool.false_ne_true
  | int i =>
    obtain ⟨t, rfl⟩ := rx
    cases y with
    | non => cases ry; exact PySem.EqNone.eq_int_none (fin_bl I q (by simp))
    | int j => obtain ⟨t', rfl⟩ := ry; exact eq_int (fin_bl I q dec_int)
    | str j => obtain ⟨t', rfl⟩ := ry; exact PySem.EqMixed.eq_int_str (fin_bl I q (by simp))
    | _ => exact absurd (show false = true from hs) Bool.false_ne_true
  | str i =>
    obtain ⟨t, rfl⟩ := rx
    cases y with
    | non => cases ry; exact PySem.EqNone.eq_str_none (fin_bl I q (by simp))
    | bl j => cases ry; exact PySem.EqMixed.eq_str_bool (fin_bl I q (by simp))
    | int j => obtain ⟨t', rfl⟩ := ry; exact PySem.EqMixed.eq_str_int (fin_bl I q (by simp))
    | str j => obtain ⟨t', rfl⟩ := ry; exact eq_str (fin_bl I q dec_str)
    | _ => exact absurd (show false = true from hs) Bool.false_ne_true
  | byt i =>
    obtain ⟨t, rfl⟩ := rx
    cases y with
    | byt j => obtain ⟨t', rfl⟩ := ry; exact PySem.W.eq_bytes (fin_bl I q dec_byt)
    | _ => exact absurd (show false = true from hs) Bool.false_ne_true
  | _ => cases y <;> exact absurd (show false = true from hs) Bool.false_ne_true
theorem op_ne : OpR X (compareOp .NotEq) rNe := by
  intro pins s σ H x y v u Q I rx ry h
  obtain ⟨hs, q⟩ := h
  cases x with
  | non =>
    cases rx
    cases y with
    | non => cases ry; exact PySem.EqNone.ne_none_none (fin_bl I q (by simp))
    | bl j => cases ry; exact PySem.EqNone.ne_none_bool (fin_bl I q (by simp))
    | int j => obtain ⟨t', rfl⟩ := ry; exact PySem.EqNone.ne_none_int (fin_bl I q (by simp))
    | str j => obtain ⟨t', rfl⟩ := ry; exact PySem.EqNone.ne_none_str (fin_bl I q (by simp))
    | _ => exact absurd (show false = true from hs) Bool.false_ne_true
  | bl i =>
    cases rx
    cases y with
    | non => cases ry; exact PySem.EqNone.ne_bool_none (fin_bl I q (by simp))
    | bl j => cases ry; exact ne_bool (fin_bl I q (congrArg not dec_bl))
    | str j => obtain ⟨t', rfl⟩ := ry; exact PySem.EqMixed.ne_bool_str (fin_bl I q (by simp))
    | _ => exact absurd (show false = true from hs) Bool.false_ne_true
  | int i =>
    obtain ⟨t, rfl⟩ := rx
    cases y with
    | non => cases ry; exact PySem.EqNone.ne_int_none (fin_bl I q (by simp))
    | int j => obtain ⟨t', rfl⟩ := ry; exact ne_int (fin_bl I q (congrArg not dec_int))
    | str j => obtain ⟨t', rfl⟩ := ry; exact PySem.EqMixed.ne_int_str (fin_bl I q (by simp))
    | _ => exact absurd (show false = true from hs) Bool.false_ne_true
  | str i =>
    obtain ⟨t, rfl⟩ := rx
    cases y with
    | non => cases ry; exact PySem.EqNone.ne_str_none (fin_bl I q (by simp))
    | bl j => cases ry; exact PySem.EqMixed.ne_str_bool (fin_bl I q (by simp))
    | int j => obtain ⟨t', rfl⟩ := ry; exact PySem.EqMixed.ne_str_int (fin_bl I q (by simp))
    | str j => obtain ⟨t', rfl⟩ := ry; exact ne_str (fin_bl I q (congrArg not dec_str))
    | _ => exact absurd (show false = true from hs) Bool.false_ne_true
  | byt i =>
    obtain ⟨t, rfl⟩ := rx
    cases y with
    | byt j => obtain ⟨t', rfl⟩ := ry; exact PySem.W.ne_bytes (fin_bl I q (congrArg not dec_byt))
    | _ => exact absurd (show false = true from hs) Bool.false_ne_true
  | _ => cases y <;> exact absurd (show false = true from hs) Bool.false_ne_true

theorem op_lt : OpR X (compareOp .Lt) (rI0 fun i j => .bl (decide (i < j))) := opB0 fun _ _ _ _ _ _ _ q => lt_int q
theorem op_le : OpR X (compareOp .LtE) (rI0 fun i j => .bl (decide (i ≤ j))) := opB0 fun _ _ _ _ _ _ _ q => le_int q
theorem op_gt : OpR X (compareOp .Gt) (rI0 fun i j => .bl (decide (j < i))) := opB0 fun _ _ _ _ _ _ _ q => gt_int q
theorem op_ge : OpR X (compareOp .GtE) (rI0 fun i j => .bl (decide (j ≤ i))) := opB0 fun _ _ _ _ _ _ _ q => ge_int q
theorem op_isN : OpR X (compareOp .Is) (fun x y H Q => y = .non ∧ Q (.bl (decide (x = .non))) H) := by
  intro pins s σ H x y v u Q I rx ry h
  obtain ⟨rfl, q⟩ := h
  cases ry
  refine is_none_gen (fin_bl I q ?_)
  cases x <;> first
    | (cases rx; rfl)
    | (obtain ⟨t, rfl⟩ := rx; rfl)
theorem op_notN : OpR X (compareOp .IsNot) (fun x y H Q => y = .non ∧ Q (.bl (!decide (x = .non))) H) := by
  intro pins s σ H x y v u Q I rx ry h
  obtain ⟨rfl, q⟩ := h
  cases ry
  refine isnot_none_gen (fin_bl I q ?_)
  cases x <;> first
    | (cases rx; rfl)
    | (obtain ⟨t, rfl⟩ := rx; rfl)

theorem OpR.or {f : Value → Value → Sem Value} {r r' : R2} (h : OpR X f r) (h' : OpR X f r') : OpR X f (fun x y H Q => r x y H Q ∨ r' x y H Q) := by
  intro pins s σ H x y v u Q I rx ry q
  rcases q with q | q
  · exact h pins s σ H x y v u Q I rx ry q
  · exact h' pins s σ H x y v u Q I rx ry q

theorem nomark (b : Expr) {op : CmpOp} (h : op ≠ .In := by decide) (h2 : op ≠ .NotIn := by decide) : behindInMarks op b = false := by
  have e1 : (op == CmpOp.In) = false := by cases op <;> first | rfl | exact absurd rfl h
  have e2 : (op == CmpOp.NotIn) = false := by cases op <;> first | rfl | exact absurd rfl h2
  cases b <;> simp [behindInMarks, e1, e2]
theorem pe_cmpR {op : CmpOp} {r : R2} (ho : OpR X (compareOp op) r) (ha : PE X a ta) (hb : PE X b tb) (hm : behindInMarks op b = false) : PE X (.Compare a [op] [b] pos) (tOp r ta tb) := by
  intro pins s σ H Q I h
  exact wpAny_Compare1 (binT ha hb I h fun v u s2 x y H2 I2 rx ry q => ho pins s2 σ H2 x y v u Q I2 rx ry q) hm
noncomputable def tTest (t : TE) : TT := fun σ H Q => t σ H fun x H' => ∃ k, x = .bl k ∧ Q k H'
theorem pt_cmpR {op : CmpOp} {r : R2} (ho : OpR X (compareOp op) r) (ha : PE X a ta) (hb : PE X b tb) (hm : behindInMarks op b = false) : PT X (.Compare a [op] [b] pos) (tTest (tOp r ta tb)) := by
  intro pins s σ H Q I h
  refine wpAny_isTrue_Compare1 (thn (ha pins s σ H _ I h) fun v s1 ⟨x, H1, I1, r1, q1⟩ => thn (hb pins s1 σ H1 _ I1 q1) fun u s2 ⟨y, H2, I2, r2, q2⟩ =>
    thn (ho pins s2 σ H2 x y v u _ I2 r1 r2 q2) fun c s3 ⟨z, H3, I3, r3, k, e, q3⟩ => ?_) hm
  subst e
  cases r3
  exact wpAny_truthy_bool ⟨H3, I3, q3⟩
noncomputable def tChain (r r' : R2) (ta tb tc : TE) : TE := fun σ H Q => ta σ H fun x H1 => tb σ H1 fun y H2 => r x y H2 fun z H3 => ∃ k, z = .bl k ∧
  (if k = true then tc σ H3 fun w' H4 => r' y w' H4 Q else Q (.bl false) H3)
theorem pt_chain {op op' : CmpOp} {r r' : R2} (ho : OpR X (compareOp op) r) (ho' : OpR X (compareOp op') r') (ha : PE X a ta) (hb : PE X b tb) (hc : PE X c tc)
    (hm : lastMarks [op, op'] [b, c] = false := by with_unfolding_all rfl) : PT X (.Compare a [op, op'] [b, c] pos) (tTest (tChain r r' ta tb tc)) := by
  intro pins s σ H Q I h
  refine isTrue_chain (thn (ha pins s σ H _ I h) fun v s1 ⟨x, H1, I1, r1, q1⟩ => test_link (thn (hb pins s1 σ H1 _ I1 q1) fun u s2 ⟨y, H2, I2, r2, q2⟩ =>
    thn (ho pins s2 σ H2 x y v u _ I2 r1 r2 q2) fun d s3 ⟨z, H3, I3, r3, k, e, q3⟩ => ?_)) hm
  subst e
  cases r3
  refine wpAny_truthy_bool ?_
  cases k with
  | false =>
    obtain ⟨k', e', q'⟩ := q3
    cases e'
    exact ite_ff ⟨H3, I3, q'⟩
  | true =>
    refine ite_tt (test_last (thn (hc pins s3 σ H3 _ I3 q3) fun w' s4 ⟨z', H4, I4, r4, q4⟩ => thn (ho' pins s4 σ H4 y z' u w' _ I4 r2 r4 q4) fun d' s5 ⟨z2, H5, I5, r5, k2, e2, q5⟩ => ?_))
    subst e2
    cases r5
    exact wpAny_truthy_bool ⟨H5, I5, q5⟩

theorem line63 : (sizeLine : Nat) < 2 ^ 63 := by rw [sizeLine_eq]; decide
theorem op_add_str : OpR X (binaryOp .Add) (fun x y H Q => ∃ i j, x = .str i ∧ y = .str j ∧ i.length + j.length ≤ sizeLine ∧ Q (.str (i ++ j)) H) := by
  intro pins s σ H x y v u Q I rx ry h
  obtain ⟨i, j, rfl, rfl, hz, q⟩ := h
  obtain ⟨t, rfl⟩ := rx
  obtain ⟨t', rfl⟩ := ry
  exact add_str (fun t' tk => ⟨.str (i ++ j), H, I.tok _, ⟨_, rfl⟩, q⟩) hz
theorem vals1 {x : V} {us : List Value} (r : Vals [x] us) : ∃ u, us = [u] ∧ RelV x u := by
  cases r with
  | cons r1 r2 => cases r2; exact ⟨_, rfl, r1⟩
theorem vals2 {x y : V} {us : List Value} (r : Vals [x, y] us) : ∃ u w', us = [u, w'] ∧ RelV x u ∧ RelV y w' := by
  cases r with
  | cons r1 r2 =>
    cases r2 with
    | cons r3 r4 => cases r4; exact ⟨_, _, rfl, r1, r3⟩
theorem call_abs : CallR X (.builtin "abs") (fun xs H Q => ∃ i, xs = [.int i] ∧ Q (.int (if i < 0 then -i else i)) H) := by
  intro pins s σ H xs us Q I r h
  obtain ⟨i, rfl, q⟩ := h
  obtain ⟨u, rfl, t, rfl⟩ := vals1 r
  exact call_abs_int fun u tk => ⟨.int (if i < 0 then -i else i), H, I.tok _, ⟨_, rfl⟩, q⟩
theorem call_min2 (hc : X.calm = true) : CallR X (.builtin "min") (fun xs H Q => ∃ i j, xs = [.int i, .int j] ∧ Q (.int (if j < i then j else i)) H) := by
  intro pins s σ H xs us Q I r h
  obtain ⟨i, j, rfl, q⟩ := h
  obtain ⟨u, w', rfl, ⟨t, rfl⟩, ⟨t', rfl⟩⟩ := vals2 r
  refine min_two_ints (I.ok.hd hc) fun h' tk k => ⟨_, H, I.kept k, ?_, q⟩
  by_cases hj : j < i
  · rw [if_pos hj, if_pos hj]; exact ⟨_, rfl⟩
  · rw [if_neg hj, if_neg hj]; exact ⟨_, rfl⟩
theorem call_int1 : CallR X (.type "int") (fun xs H Q => (∃ i, xs = [.int i] ∧ Q (.int i) H) ∨ ∃ k, xs = [.bl k] ∧ Q (.int (if k then 1 else 0)) H) := by
  intro pins s σ H xs us Q I r h
  rcases h with ⟨i, rfl, q⟩ | ⟨k, rfl, q⟩
  · obtain ⟨u, rfl, t, rfl⟩ := vals1 r
    exact call_int_int ⟨.int i, H, I, ⟨_, rfl⟩, q⟩
  · obtain ⟨u, rfl, r1⟩ := vals1 r
    cases r1
    exact call_int_bool ⟨.int (if k then 1 else 0), H, I.tok _, ⟨_, rfl⟩, q⟩
end
end L2

namespace L2
open PySem PySem.Spec PyProof.Rows

section
variable {prog : Program} {w : World} {A : Around} {E : Value → Shared → Prop} {s : Shared} {K : PySem.W.Frag} {x dx C f : Addr} {mA : Str → Option Value} {name : Str} {v : Value}

end

theorem RelO.some_of {v : V} {o : Option Value} (r : RelO (some v) o) : ∃ u, o = some u ∧ RelV v u := by
  cases o with
  | none => exact (show False from r).elim
  | some u => exact ⟨u, rfl, r⟩
theorem RelO.none_of {o : Option Value} (r : RelO none o) : o = none := by
  cases o with
  | none => rfl
  | some u => exact (show False from r).elim
section
variable {P : Program} {w : World} {H H' : Hp} {h h' : Heap} {a C dx : Addr} {fs fs' : List (Str × V)}
end

structure Cls (K : PySem.W.Frag) (C : Addr) : Prop where
  pg : PySem.W.plainGet K C Str.empty = true
  hd : PySem.W.hasDictIn K C = true
  po : PySem.W.plainOver K C = true
  sa : PySem.W.findIn K (.ref C) "__setattr__" = some (some (.builtin "object.__setattr__"))
theorem Cls.get {K : PySem.W.Frag} {C : Addr} (c : Cls K C) (f : Str) : PySem.W.plainGet K C f = true := c.pg
section
variable {X : Cx} {pins : List (Addr × Obj)} {σ : St} {H : Hp} {s : Shared} {a C dx : Addr} {fs : List (Str × V)} {f : Str} {v : V} {A : Around} {E : Value → Shared → Prop}

theorem Inv.made (I : Inv X pins σ H s) : Inv X pins σ (upd (upd H s.heap.objs.size (.own (s.heap.objs.size + 1))) (s.heap.objs.size + 1) (.ins C s.heap.objs.size []))
    { s with heap := (s.heap.push PySem.W.emptyDict).push (PySem.W.instObj C s.heap.objs.size) } := by
  have e1 : (s.heap.push PySem.W.emptyDict).get? s.heap.objs.size = some PySem.W.emptyDict := Heap.get?_push_size s.heap rfl
  have e2 : ((s.heap.push PySem.W.emptyDict).push (PySem.W.instObj C s.heap.objs.size)).get? (s.heap.objs.size + 1) = some (PySem.W.instObj C s.heap.objs.size) := by
    have := Heap.get?_push_size (s.heap.push PySem.W.emptyDict) (o := PySem.W.instObj C s.heap.objs.size) rfl
    rwa [Heap.size_push] at this
  have e3 : (s.heap.push PySem.W.emptyDict).Ns s.heap.objs.size (fun _ => none) := ⟨PySem.W.emptyDict, #[], _, e1, rfl, (fun e he => absurd he (by simp)), fun _ => rfl⟩
  have I1 := I.laid (a := s.heap.objs.size) (o := .own (s.heap.objs.size + 1)) (h' := s.heap.push PySem.W.emptyDict) (t' := s.toks) (fun b u q => Heap.get?_push_of_some _ q) (Nat.le_refl _) ⟨_, e1⟩
  refine I1.laid (a := s.heap.objs.size + 1) (o := .ins C s.heap.objs.size []) (t' := s.toks) (fun b u q => Heap.get?_push_of_some _ q) (Nat.le_of_eq (Heap.size_push _ _)) ?_
  have ne : s.heap.objs.size ≠ s.heap.objs.size + 1 := Nat.ne_of_lt (Nat.lt_succ_self _)
  refine ⟨by rw [upd_ne ne, upd_same], Nat.zero_le _, ne, e2, fun _ => none, (Heap.Ns1.of_empty e3).at fun o q => Heap.get?_push_of_some _ q, fun _ => True.intro, fun y hy => absurd rfl hy⟩

end

section
variable {X : Cx} {o e value : Expr} {f : Str} {pos pos' tpos : Pos} {ta tv : TE}
end

section
variable {X : Cx} {pins : List (Addr × Obj)} {σ : St} {H : Hp} {s : Shared} {A : Around} {E : Value → Shared → Prop} {Q : Value → Shared → Prop} {c : Value} {b : Bool}
end
end L2

namespace L2
open PySem PySem.Spec PyProof.Rows

structure Room (k : Nat) (A : Around) : Prop where
  hd : A.handled = none
  dp : A.depth + 3 * k + 5 < recursionLimit
  un : A.units + 16 * k + 200 < cLine
theorem Room.mono {j k : Nat} {A : Around} (r : Room k A) (h : j ≤ k) : Room j A := ⟨r.hd, by have := r.dp; omega, by have := r.un; omega⟩
theorem Room.deeper {k : Nat} {A : Around} (r : Room (k + 1) A) (env : Env) : Room k (A.deeper env) :=
  ⟨r.hd, by have := r.dp; show A.depth + 1 + 3 * k + 5 < _; omega, by have := r.un; show A.units + 3 + 16 * k + 200 < _; omega⟩
theorem Room.in1 {k : Nat} {A : Around} (r : Room (k + 1) A) : Room k A.in1 :=
  ⟨r.hd, by have := r.dp; show A.depth + 3 * k + 5 < _; omega, by have := r.un; show A.units + 1 + 16 * k + 200 < _; omega⟩
theorem Room.depth {k : Nat} {A : Around} (r : Room k A) : A.depth < recursionLimit := by have := r.dp; omega
theorem Room.units {k : Nat} {A : Around} (r : Room k A) : A.units + 64 < cLine := by have := r.un; omega
theorem Room.units0 {k : Nat} {A : Around} (r : Room k A) : A.units < cLine := by have := r.un; omega

noncomputable def tNil : TA := fun _ H Q => Q [] H
noncomputable def tCons (ta : TE) (tr : TA) : TA := fun σ H Q => ta σ H fun x H1 => tr σ H1 fun xs H2 => Q (x :: xs) H2
section
variable {X : Cx} {e : Expr} {es : List Expr} {te : TE} {t : TA} {pos : Pos}
theorem pa_nil : PA X [] tNil := fun _ _ _ _ H Q I h => Calls.spliced_nil ⟨[], H, I, .nil, h⟩
theorem pa_cons (ha : PE X e te) (hr : PA X es t) (hs : starEach (e :: es) X.env = (false, eval e X.env) :: starEach es X.env := by rfl) : PA X (e :: es) (tCons te t) := by
  intro pos pins s σ H Q I h
  rw [hs]
  show wpAny _ _ (spliced ((false, eval e X.env) :: backTo pos (starEach es X.env))) _ _ s
  refine Calls.spliced_cons (thn (ha pins s σ H _ I h) fun u s1 ⟨x, H1, I1, r1, q1⟩ => ?_)
  exact thn (hr pos pins s1 σ H1 _ I1 q1) fun us s2 ⟨xs, H2, I2, r2, q2⟩ => ⟨x :: xs, H2, I2, .cons r1 r2, q2⟩

noncomputable def tTup (t : TA) : TE := fun σ H Q => t σ H fun xs H1 => xs.length ≤ sizeLine ∧ ∀ p, H1 p = none → Q (.ref p) (upd H1 p (.tup xs))
noncomputable def tLst (t : TA) : TE := fun σ H Q => t σ H fun xs H1 => xs.length ≤ sizeLine ∧ ∀ p, H1 p = none → Q (.ref p) (upd H1 p (.lst xs))
theorem pe_tup {x1} (h : PA X es t) : PE X (.Tuple es x1 pos) (tTup t) := by
  intro pins s σ H Q I hq
  refine wpAny_Tuple_spliced (thn (h pos pins s σ H _ I hq) fun us s1 ⟨xs, H1, I1, r, z, q⟩ => ⟨by rw [← r.length]; exact z, ?_⟩)
  have hf : H1 s1.heap.objs.size = none := I1.hok.fresh (Nat.le_refl _)
  refine ⟨.ref s1.heap.objs.size, upd H1 s1.heap.objs.size (.tup xs), I1.laid (t' := s1.toks) (fun b u e => Heap.get?_push_of_some _ e) (Nat.le_refl _) ?_, rfl, q _ hf⟩
  exact ⟨z, us, r, ⟨_, Heap.get?_push_size _ rfl, rfl, _, rfl⟩⟩
theorem pe_lst (h : PA X es t) : PE X (.List es pos) (tLst t) := by
  intro pins s σ H Q I hq
  refine wpAny_List_spliced (thn (h pos pins s σ H _ I hq) fun us s1 ⟨xs, H1, I1, r, z, q⟩ => ⟨by rw [← r.length]; exact z, ?_⟩)
  have hf : H1 s1.heap.objs.size = none := I1.hok.fresh (Nat.le_refl _)
  refine ⟨.ref s1.heap.objs.size, upd H1 s1.heap.objs.size (.lst xs), I1.laid (t' := s1.toks) (fun b u e => Heap.get?_push_of_some _ e) (Nat.le_refl _) ?_, rfl, q _ hf⟩
  exact ⟨z, us, 0, r, Heap.get?_push_size _ rfl⟩
end

abbrev Sp := List V → Hp → VK → XK → Prop
abbrev CXT := List Env → Hp → Shared → XK → Value → Shared → Prop

structure Env0 (P : Program) (w : World) (K : PySem.W.Frag) (mg : Str → Option Value) (base : Heap) (A : Around) (outer : List Env) (s : Shared) (H : Hp) : Prop where
  frames : A.frames = some outer
  mod : Mod K mg base
  bs : ∀ b o, base.get? b = some o → s.heap.get? b = some o ∧ H b = none
  bsz : base.objs.size ≤ s.heap.objs.size
  funs : s.heap.FunFrames base outer
  frf : ∀ b ∈ frs outer, H b = none
  hok : HOk P w H s.heap
  bare : AllBare s.gens
noncomputable def CE (outer : List Env) (P : Program) (w : World) (H : Hp) (s : Shared) (Q : VK) (u : Value) (s' : Shared) : Prop :=
  ∃ v H', s'.os = s.os ∧ AllBare s'.gens ∧ Un (frs outer) [] H H' s.heap s'.heap ∧ HOk P w H' s'.heap ∧ RelV v u ∧ Q v H'
noncomputable def CR (CX : CXT) (outer : List Env) (P : Program) (w : World) (H : Hp) (s : Shared) (Q : VK) (E : XK) (r : Result) (s' : Shared) : Prop :=
  match r with
  | .ok (.ret u) => CE outer P w H s Q u s'
  | .ok _ => False
  | .error e => CX outer H s E e s'
structure FnOk (P : Program) (w : World) (K : PySem.W.Frag) (mg : Str → Option Value) (base : Heap) (CX : CXT) (k : Nat) (f : Addr) (fd : FuncData) (ps : List Str) (sp : Sp) : Prop where
  len : ∀ vs H Q E, sp vs H Q E → vs.length = ps.length
  run : ∀ (A : Around) (outer : List Env) (s : Shared) (H : Hp) (args : Args) (us : List Value) (vs : List V) (Q : VK) (E : XK), Room k A → Env0 P w K mg base A outer s H → BindsTo s fd args (ps.zip us) → Vals vs us → sp vs H Q E →
    codeAny (model P w) A (.call (.ref f) args) (CR CX outer P w H s Q E) s
theorem FnOk.mono {P : Program} {w : World} {K : PySem.W.Frag} {mg : Str → Option Value} {base : Heap} {CX : CXT} {j k : Nat} {f : Addr} {fd : FuncData} {ps : List Str} {sp : Sp} (F : FnOk P w K mg base CX j f fd ps sp) (h : j ≤ k) :
    FnOk P w K mg base CX k f fd ps sp := ⟨F.len, fun A outer s H args us vs Q E hr => F.run A outer s H args us vs Q E (hr.mono h)⟩
theorem FnOk.imp {P : Program} {w : World} {K : PySem.W.Frag} {mg : Str → Option Value} {base : Heap} {CX : CXT} {k : Nat} {f : Addr} {fd : FuncData} {ps : List Str} {sp sp' : Sp} (F : FnOk P w K mg base CX k f fd ps sp)
    (h : ∀ vs H Q E, sp' vs H Q E → sp vs H Q E) : FnOk P w K mg base CX k f fd ps sp' :=
  ⟨fun vs H Q E q => F.len vs H Q E (h _ _ _ _ q), fun A outer s H args us vs Q E hr he hb hv hs => F.run A outer s H args us vs Q E hr he hb hv (h _ _ _ _ hs)⟩

theorem Env0.in1 {P : Program} {w : World} {K : PySem.W.Frag} {mg : Str → Option Value} {base : Heap} {A : Around} {outer : List Env} {s : Shared} {H : Hp} (e : Env0 P w K mg base A outer s H) :
    Env0 P w K mg base A.in1 outer s H := ⟨e.frames, e.mod, e.bs, e.bsz, e.funs, e.frf, e.hok, e.bare⟩

section
variable {X : Cx} {pins : List (Addr × Obj)} {σ : St} {H : Hp} {s s' : Shared}
theorem Inv.env0 (I : Inv X pins σ H s) : Env0 X.prog X.w X.K X.mg X.base X.A X.stack s H :=
  ⟨I.ok.frames, I.ok.mod, I.bs, Nat.le_trans I.ok.bsz I.sz, I.stack, I.stkFree, I.hok, I.bare⟩
theorem Inv.after {Q : VK} {u : Value} (I : Inv X pins σ H s) (h : CE X.stack X.prog X.w H s Q u s') : EP X pins σ Q u s' := by
  obtain ⟨v, H', os, bare, un, hok, r, q⟩ := h
  obtain ⟨hh, g, d, t, os'⟩ := s'
  obtain rfl : os' = s.os := os
  exact ⟨v, H', I.call (h' := hh) (g' := g) (d' := d) (t' := t) (ch := []) un hok bare (fun b z => absurd z (by simp)), r, q⟩
end

noncomputable def tCall (sp : Sp) (dvs : List V) (E : XK) (t : TA) : TE := fun σ H Q => t σ H fun vs H1 => sp (vs ++ dvs) H1 Q E
noncomputable def Binds (K : PySem.W.Frag) (fd : FuncData) (ps : List Str) (ds : List Value) : Prop :=
  ∀ (s : Shared) (us : List Value), K.In s.heap → (us ++ ds).length = ps.length → BindsTo s fd ⟨us, []⟩ (ps.zip (us ++ ds))
theorem Binds.all {K : PySem.W.Frag} {fd : FuncData} {ps : List Str} (h : ∀ us : List Value, us.length = ps.length → bindArgs fd ⟨us, []⟩ = pure (ps.zip us)) : Binds K fd ps [] := fun s us _ hl => by
  rw [List.append_nil] at hl ⊢
  exact .of_eq (h us hl)

noncomputable def Passes (CX : CXT) (X : Cx) (E : XK) : Prop := ∀ (pins : List (Addr × Obj)) (σ : St) (H : Hp) (s : Shared) (e : Value) (s' : Shared), Inv X pins σ H s → CX X.stack H s E e s' → X.xe e s'

section
variable {X : Cx} {CX : CXT} {k : Nat} {f C : Addr} {fd : FuncData} {ps : List Str} {sp : Sp} {dvs : List V} {ds : List Value} {E : XK} {x m : Str} {p pos apos : Pos} {e o : Expr} {es : List Expr} {ta : TE} {t : TA}

theorem run_fn {pins : List (Addr × Obj)} {σ : St} {H : Hp} {s : Shared} {Q : VK} {us : List Value} {vs : List V} (F : FnOk X.prog X.w X.K X.mg X.base CX k f fd ps sp) (hr : Room k X.A) (hb : Binds X.K fd ps ds) (hd : Vals dvs ds) (hx : Passes CX X E)
    (I : Inv X pins σ H s) (r : Vals vs us) (h : sp (vs ++ dvs) H Q E) : wpAny (model X.prog X.w) X.A (call (.ref f) us) (EP X pins σ Q) X.xe s := by
  have r2 : Vals (vs ++ dvs) (us ++ ds) := r.append hd
  have hl : (us ++ ds).length = ps.length := by rw [← r2.length]; exact F.len _ _ _ _ h
  refine wpAny_call (codeAny_mono (F.run X.A X.stack s H ⟨us, []⟩ (us ++ ds) (vs ++ dvs) Q E hr I.env0 (hb s us I.kIn hl) r2 h) fun r s' hq => ?_)
  cases r with
  | error e => exact hx pins σ H s e s' I hq
  | ok fl =>
    cases fl with
    | ret u => exact I.after hq
    | next => exact False.elim hq
    | brk => exact False.elim hq
    | cont => exact False.elim hq

theorem pe_call (F : FnOk X.prog X.w X.K X.mg X.base CX k f fd ps sp) (hr : Room k X.A) (hg : Gl X x) (hm : X.mg x = some (.ref f)) (hk : PySem.W.keepIn X.K (.ref f) = true) (hb : Binds X.K fd ps ds) (hd : Vals dvs ds) (hx : Passes CX X E)
    (ha : PA X (e :: es) t) (hdb : (x == ("__debug__" : Str)) = false := by decide) (he : starEach (e :: es) X.env = (false, eval e X.env) :: starEach es X.env := by rfl) (hpl : (backTo pos (starEach es X.env)).any (·.1) = false := by rfl) :
    PE X (.Call (.Name x p) (e :: es) [] pos) (tCall sp dvs E t) := by
  intro pins s σ H Q I h
  refine wpAny_Call_Name_kw (ld_glob I hg hm ?_ hdb)
  refine PySem.W.callWith_K (h₀ := X.base) I.ok.mod.kin hk (thn (ha pos pins s σ H _ I h) fun us s1 ⟨vs, H1, I1, r, q⟩ => ⟨I1.kIn, ?_⟩) he hpl
  exact run_fn F hr hb hd hx I1 r q
end

section
variable {X : Cx} {CX : CXT} {k : Nat} {f C : Addr} {fd : FuncData} {ps ks : List Str} {sp : Sp} {E : XK} {x m : Str} {p pos apos kpos : Pos} {e o : Expr} {es : List Expr} {kws : List Keyword} {te ta : TE} {t tk : TA} {nm : Option Str}
variable {g : List Value → List Value → List Value} {gV : List V → List V → List V}
end

structure FnScope (N P : List Str) (sc : Scope) : Prop where
  kind : sc.kind = .function
  co : sc.isCoroutine = false
  gen : sc.isGenerator = false
  nd : N.Nodup
  pre : N.take P.length = P
  par : ∀ x ∈ P, sc.names.lookup x = some .local ∨ sc.names.lookup x = some .cell
  nofree : ∀ y ∈ sc.names, y.2 ≠ .free

theorem bindL_out {kindOf : Str → Option NameKind} {x : Str} : ∀ {binds : List (Str × Value)} {m : Str → Option Value}, (∀ v, (x, v) ∉ binds) → bindL kindOf binds m x = m x
  | [], _, _ => rfl
  | (n, v) :: r, m, h => by
    unfold bindL
    rw [bindL_out fun w hw => h w (List.mem_cons_of_mem _ hw)]
    split
    · have : x ≠ n := by rintro rfl; exact h v List.mem_cons_self
      simp [this]
    · rfl
theorem bindC_out {kindOf : Str → Option NameKind} {x : Str} : ∀ {binds : List (Str × Value)} {m : Str → Option Value}, (∀ v, (x, v) ∉ binds) → bindC kindOf binds m x = m x
  | [], _, _ => rfl
  | (n, v) :: r, m, h => by
    unfold bindC
    rw [bindC_out fun w hw => h w (List.mem_cons_of_mem _ hw)]
    split
    · rfl
    · have : x ≠ n := by rintro rfl; exact h v List.mem_cons_self
      simp [this]
theorem bindL_get {kindOf : Str → Option NameKind} {x : Str} {v : Value} : ∀ {P : List Str} {vs : List Value} {i : Nat} {m : Str → Option Value}, P.Nodup → P[i]? = some x → vs[i]? = some v → kindOf x = some .local →
    bindL kindOf (P.zip vs) m x = some v
  | [], _, _, _, _, h, _, _ => by simp at h
  | _ :: _, [], _, _, _, _, h, _ => by simp at h
  | p :: P, w :: vs, 0, m, nd, h1, h2, hk => by
    simp at h1 h2; subst h1; subst h2
    show bindL kindOf ((p, w) :: P.zip vs) m p = _
    unfold bindL
    rw [bindL_out fun v hv => (List.nodup_cons.mp nd).1 (List.of_mem_zip hv).1, if_pos hk]
    simp
  | p :: P, w :: vs, i + 1, m, nd, h1, h2, hk => by
    show bindL kindOf ((p, w) :: P.zip vs) m x = _
    unfold bindL
    exact bindL_get (i := i) (List.nodup_cons.mp nd).2 (by simpa using h1) (by simpa using h2) hk
theorem bindC_get {kindOf : Str → Option NameKind} {x : Str} {v : Value} : ∀ {P : List Str} {vs : List Value} {i : Nat} {m : Str → Option Value}, P.Nodup → P[i]? = some x → vs[i]? = some v → kindOf x ≠ some .local →
    bindC kindOf (P.zip vs) m x = some v
  | [], _, _, _, _, h, _, _ => by simp at h
  | _ :: _, [], _, _, _, _, h, _ => by simp at h
  | p :: P, w :: vs, 0, m, nd, h1, h2, hk => by
    simp at h1 h2; subst h1; subst h2
    show bindC kindOf ((p, w) :: P.zip vs) m p = _
    unfold bindC
    rw [bindC_out fun v hv => (List.nodup_cons.mp nd).1 (List.of_mem_zip hv).1, if_neg hk]
    simp
  | p :: P, w :: vs, i + 1, m, nd, h1, h2, hk => by
    show bindC kindOf ((p, w) :: P.zip vs) m x = _
    unfold bindC
    exact bindC_get (i := i) (List.nodup_cons.mp nd).2 (by simpa using h1) (by simpa using h2) hk

noncomputable def start (N : List Str) (vs : List V) : St := vs.map some ++ List.replicate (N.length - vs.length) none

noncomputable def cxOf (CX : CXT) (P : Program) (w : World) (K : PySem.W.Frag) (mg : Str → Option Value) (base : Heap) (N : List Str) (qual : Str) (scope : Scope) (f : Addr) (cd : Value) (A : Around) (outer : List Env) (s : Shared) (H : Hp) (E : XK) : Cx where
  prog := P
  w := w
  K := K
  mg := mg
  base := base
  A := A.deeper (envOfC qual scope s.heap.objs.size f cd)
  N := N
  s₀ := s
  H₀ := H
  env := envOfC qual scope s.heap.objs.size f cd
  outer := outer
  stack := envOfC qual scope s.heap.objs.size f cd :: outer
  ex := []
  calm := true
  fn := fun _ => true
  pn := []
  xe := fun e s' => wpAny (model P w) (A.deeper (envOfC qual scope s.heap.objs.size f cd)) (leaving (envOfC qual scope s.heap.objs.size f cd) e) (fun _ s'' => CX outer H s E e s'') (fun e' s'' => CX outer H s E e' s'') s'

theorem cell_has {sc : Scope} {n : Nat} {x : Str} (h : sc.names.lookup x = some .cell) : ∃ c, (cellsFrom n sc.names []).lookup x = some c := by
  have q := PySem.W.cellsFrom_some sc.names n [] (.inl h)
  exact Option.isSome_iff_exists.mp q

theorem inv_start {CX : CXT} {P : Program} {w : World} {K : PySem.W.Frag} {mg : Str → Option Value} {base : Heap} {N ps : List Str} {qual : Str} {scope : Scope} {f : Addr} {cd : Value} {A : Around} {outer : List Env} {s s1 : Shared} {H : Hp} {E : XK} {us : List Value} {vs : List V}
    (S : FnScope N ps scope) (hd : A.handled = none) (e0 : Env0 P w K mg base A outer s H) (hl : vs.length = ps.length) (r : Vals vs us)
    (x : InCallC s s.heap.objs.size (bindL (envOfC qual scope s.heap.objs.size f cd).kindOf (ps.zip us) fun _ => none) (cellsFrom (s.heap.objs.size + 1) scope.names []) (bindC (envOfC qual scope s.heap.objs.size f cd).kindOf (ps.zip us) fun _ => none) s1) :
    Inv (cxOf CX P w K mg base N qual scope f cd A outer s H E) [] (start N vs) H s1 := by
  have hpl : ps.length ≤ N.length := by have := congrArg List.length S.pre; rw [List.length_take] at this; omega
  obtain ⟨h1, tk, rfl, hk⟩ := x.done
  have noA : ∀ b : Addr, b ∉ (cxOf CX P w K mg base N qual scope f cd A outer s H E).ex := fun b z => absurd (show b ∈ ([] : List Addr) from z) (by simp)
  refine ⟨⟨e0.mod, S.kind, rfl, rfl, Nat.le_refl _, fun y z c h1 h2 => ?_, fun y hy => ?_, fun y c _ h => ?_, fun _ => hd, Around.frames_deeper e0.frames, .inr ⟨rfl, rfl⟩, fun b z => absurd z (noA b), e0.bs, e0.bsz, fun b _ _ => noA b, fun b z => absurd z (noA b), e0.funs, e0.frf⟩,
    rfl, e0.bare, Un.kept hk, ⟨_, x.toInCall.ns, fun i y v h1 h2 h3 => ?_⟩, fun y c h => ⟨_, x.cell y c h⟩, e0.hok.fresh (Nat.le_refl _), fun y c h => ?_, fun p hp => absurd (show p ∈ ([] : List (Addr × Obj)) from hp) (by simp), e0.hok.kept hk, ?_⟩
  · exact name_of_addr x.apart (PySem.mem_of_lookup h1) (PySem.mem_of_lookup h2)
  · have hy : scope.names.lookup y = some .cell ∨ scope.names.lookup y = some .free := hy
    rcases hy with hy | hy
    · exact cell_has hy
    · exact absurd rfl (S.nofree _ (PySem.mem_of_lookup hy))
  · exact Nat.le_of_lt (x.above y c (PySem.mem_of_lookup h))
  · have hi : i < vs.length := by
      unfold start at h2
      by_cases hi : i < vs.length
      · exact hi
      · rw [List.getElem?_append_right (by simpa using hi)] at h2
        rw [List.getElem?_replicate] at h2
        split at h2 <;> cases h2
    have ha : vs[i]? = some v := by
      unfold start at h2
      rw [List.getElem?_append_left (by simpa using hi), List.getElem?_map] at h2
      cases e : vs[i]? with
      | none => rw [e] at h2; cases h2
      | some a => rw [e] at h2; cases h2; rfl
    obtain ⟨u, hu, rv⟩ := r.get ha
    have hp : ps[i]? = some y := by
      rw [← S.pre, List.getElem?_take_of_lt (by omega)]; exact h1
    have ndP : ps.Nodup := by rw [← S.pre]; exact S.nd.sublist (List.take_sublist _ _)
    refine ⟨u, rv, ?_⟩
    rcases S.par y (List.mem_of_getElem? hp) with k | k
    · exact .inl ⟨k, bindL_get ndP hp hu k⟩
    · obtain ⟨c, e⟩ := cell_has (n := s.heap.objs.size + 1) k
      refine .inr ⟨.inl k, c, e, ?_⟩
      have q := x.cell y c e
      rw [bindC_get ndP hp hu (by show scope.names.lookup y ≠ _; rw [k]; decide)] at q
      exact q
  · exact e0.hok.fresh (Nat.le_of_lt (x.above y c (PySem.mem_of_lookup h)))
  · unfold start
    show _ = N.length
    rw [List.length_append, List.length_map, List.length_replicate]
    omega

theorem fn_of {CX : CXT} {P : Program} {w : World} {K : PySem.W.Frag} {mg : Str → Option Value} {base : Heap} {k : Nat} {f : Addr} {name qual : Str} {params : Arguments} {body : List Stmt} {scope : Scope} {dV kV doc pm cdv ct oc : Value} {an od : Option Addr}
    {osl : Array (Option Value)} {N ps : List Str} {sp : Sp} (lk : K.lookup f = some ⟨oc, od, .func (PySem.W.fnOf name qual params body scope dV kV doc pm an cdv ct), osl⟩) (hcd : PySem.W.codeIn K cdv qual = true) (S : FnScope N ps scope)
    (len : ∀ vs H Q E, sp vs H Q E → vs.length = ps.length)
    (hbody : ∀ (A : Around) (outer : List Env) (s : Shared) (H : Hp) (vs : List V) (Q : VK) (E : XK), Room k (A.deeper (envOfC qual scope s.heap.objs.size f cdv)) → sp vs H Q E →
      ∃ t, PSs (cxOf CX P w K mg base N qual scope f cdv A outer s H E) body t ∧ t { nx := fun _ H' => Q .non H', rt := Q } (start N vs) H) :
    FnOk P w K mg base CX (k + 1) f (PySem.W.fnOf name qual params body scope dV kV doc pm an cdv ct) ps sp := by
  refine ⟨len, fun A outer s H args us vs Q E hr e0 hb r hsp => ?_⟩
  have hl := len _ _ _ _ hsp
  have KX : K.In s.heap := e0.mod.kin.keeps fun b o e => (e0.bs b o e).1
  have lim : s.heap.NoLimit := e0.mod.nolimit.keeps fun b o e => (e0.bs b o e).1
  have hkind : ∀ y ∈ ps.zip us, scope.names.lookup y.1 = some .local ∨ (scope.names.lookup y.1 = some .cell ∧ ((cellsFrom (s.heap.objs.size + 1) scope.names []).lookup y.1).isSome = true) := fun ⟨n, v⟩ hy => by
    rcases S.par n (List.of_mem_zip hy).1 with q | q
    · exact .inl q
    · exact .inr ⟨q, PySem.W.cellsFrom_some _ _ _ (.inl q)⟩
  refine codeAny_call_function hr.depth (KX _ _ lk) rfl S.co S.gen rfl (PySem.W.codeRec_of KX hcd) (hb _ _ _ _ ?_)
  refine wpAny_newFunctionEnv_cells S.kind hkind fun env he s1 x => ?_
  subst he
  refine ⟨lim.keeps x.toInCall.keep, codeAny_func ?_⟩
  obtain ⟨t, ht, hq⟩ := hbody A outer s H vs Q E (hr.deeper _) hsp
  have I : Inv (cxOf CX P w K mg base N qual scope f cdv A outer s H E) [] (start N vs) H s1 := inv_start S hr.hd e0 hl r x
  refine wpAny_mono (ht [] s1 (start N vs) H _ I hq) (fun fl s' hs => ?_) fun e s' hs => hs
  have fin : ∀ {σ' : St} {H' : Hp} {v : V} {u : Value}, Inv (cxOf CX P w K mg base N qual scope f cdv A outer s H E) [] σ' H' s' → RelV v u → Q v H' → CE outer P w H s Q u s' :=
    fun {σ' H' v u} J rv q => ⟨v, H', J.os, J.bare, J.base, J.hok, rv, q⟩
  cases fl with
  | ret u =>
    obtain ⟨v, σ', H', J, rv, q⟩ := hs
    exact fin J rv q
  | next =>
    obtain ⟨σ', H', J, q⟩ := hs
    exact fin (v := V.non) (u := Value.none) J rfl q
  | brk =>
    obtain ⟨_, _, _, q⟩ := hs
    exact False.elim q
  | cont =>
    obtain ⟨_, _, _, q⟩ := hs
    exact False.elim q
end L2

namespace L2
open PySem PySem.Spec PyProof.Rows
section
variable {X : Cx} {x : Str} {p pos : Pos} {e : Expr} {es : List Expr} {t : TA} {id T : String} {r : List V → Hp → VK → Prop}

noncomputable def tCB (r : List V → Hp → VK → Prop) (t : TA) : TE := fun σ H Q => t σ H fun vs H1 => r vs H1 Q
theorem pe_callB (hc : CallR X (.builtin id) r) (hg : Gl X x) (hm : X.mg x = none) (hv : bootBuiltins x = some (.builtin id)) (ha : PA X (e :: es) t) (hn : x ≠ "__name__" := by decide) (hdb : (x == ("__debug__" : Str)) = false := by decide)
    (he : starEach (e :: es) X.env = (false, eval e X.env) :: starEach es X.env := by rfl) (hpl : (backTo pos (starEach es X.env)).any (·.1) = false := by rfl) : PE X (.Call (.Name x p) (e :: es) [] pos) (tCB r t) := by
  intro pins s σ H Q I h
  refine wpAny_Call_Name_kw (ld_blt I hg hm hv ?_ hn hdb)
  exact PyProof.Rows.callWith_builtin1 (thn (ha pos pins s σ H _ I h) fun us s1 ⟨vs, H1, I1, r1, q1⟩ => hc pins s1 σ H1 vs us Q I1 r1 q1) he hpl
theorem pe_callTy (hc : CallR X (.type T) r) (hg : Gl X x) (hm : X.mg x = none) (hv : bootBuiltins x = some (.type T)) (ha : PA X (e :: es) t) (hn : x ≠ "__name__" := by decide) (hdb : (x == ("__debug__" : Str)) = false := by decide)
    (he : starEach (e :: es) X.env = (false, eval e X.env) :: starEach es X.env := by rfl) (hpl : (backTo pos (starEach es X.env)).any (·.1) = false := by rfl) : PE X (.Call (.Name x p) (e :: es) [] pos) (tCB r t) := by
  intro pins s σ H Q I h
  refine wpAny_Call_Name_kw (ld_blt I hg hm hv ?_ hn hdb)
  exact PyProof.Rows.callWith_type1 (thn (ha pos pins s σ H _ I h) fun us s1 ⟨vs, H1, I1, r1, q1⟩ => hc pins s1 σ H1 vs us Q I1 r1 q1) he hpl
end
end L2

namespace HT
open PySem PyProof.Rows

section
open PySem.SeqAt
open PySem.AutoSeq1 (wpAny_loadPart')
open PySem.MeetsSeq PySem.MeetsSeq2 PySem.MeetsSeq3

end

section
variable {prog : Program} {w : World} {A : Around} {E : Value → Shared → Prop} {s : Shared}

noncomputable def sIx (n d : Nat) : Option Int → Nat
  | none => d
  | some v => if v < 0 then (v + (n : Int)).toNat else min v.toNat n
theorem sIx_nat (n d k : Nat) : sIx n d (some (k : Int)) = min k n := by
  show (if (k : Int) < 0 then ((k : Int) + (n : Int)).toNat else min (k : Int).toNat n) = min k n
  rw [if_neg (by omega), Int.toNat_natCast]
end
end HT

namespace L2
open PySem PySem.Spec PyProof.Rows

abbrev TO := St → Hp → (Option Int → Hp → Prop) → Prop
noncomputable def PO (X : Cx) (e : Option Expr) (t : TO) : Prop :=
  ∀ (pins : List (Addr × Obj)) (s : Shared) (σ : St) (H : Hp) (Q : Option Int → Hp → Prop), Inv X pins σ H s → t σ H Q →
    wpAny (model X.prog X.w) X.A (evalPart e X.env) (fun u s' => ∃ o H', Inv X pins σ H' s' ∧ IsPart u o ∧ Q o H') X.xe s
noncomputable def tNoPart : TO := fun _ H Q => Q none H
noncomputable def tPart (t : TE) : TO := fun σ H Q => t σ H fun x H1 => ∃ i, x = .int i ∧ Q (some i) H1

section
variable {X : Cx} {e : Expr} {te : TE} {lo hi : Option Expr} {tl th : TO} {pos p2 : Pos}

theorem po_none : PO X none tNoPart := by
  intro pins s σ H Q I h
  rw [evalPart_none]
  exact wpAny_pure ⟨none, H, I, .none, h⟩
theorem po_some (h : PE X e te) : PO X (some e) (tPart te) := by
  intro pins s σ H Q I hw
  rw [evalPart_some]
  refine thn (h pins s σ H _ I hw) fun u s1 ⟨x, H1, I1, r1, q1⟩ => ?_
  obtain ⟨i, rfl, q⟩ := q1
  obtain ⟨t, rfl⟩ := r1
  exact ⟨some i, H1, I1, .int i t, q⟩

noncomputable def SlR (X : Cx) (r : V → Option Int → Option Int → Hp → VK → Prop) : Prop :=
  ∀ (pins : List (Addr × Obj)) (s : Shared) (σ : St) (H : Hp) (x : V) (v vl vu : Value) (lo hi : Option Int) (sl : Addr) (Q : VK), Inv X pins σ H s → RelV x v → s.heap.IsSliceOf sl vl vu .none → IsPart vl lo → IsPart vu hi → r x lo hi H Q →
    ∃ T id, typeLookup (.type T) "__getitem__" = pure (some (.builtin id)) ∧ s.TypeIs v T ∧ wpAny (model X.prog X.w) X.A (getItem v (.ref sl)) (EP X pins σ Q) X.xe s
theorem SlR.or {r r' : V → Option Int → Option Int → Hp → VK → Prop} (h : SlR X r) (h' : SlR X r') : SlR X (fun x lo hi H Q => r x lo hi H Q ∨ r' x lo hi H Q) := by
  intro pins s σ H x v vl vu lo hi sl Q I rx hs pl pu q
  rcases q with q | q
  · exact h pins s σ H x v vl vu lo hi sl Q I rx hs pl pu q
  · exact h' pins s σ H x v vl vu lo hi sl Q I rx hs pl pu q
noncomputable def tSl (r : V → Option Int → Option Int → Hp → VK → Prop) (te : TE) (tl th : TO) : TE := fun σ H Q => te σ H fun x H1 => tl σ H1 fun l H2 => th σ H2 fun u H3 => r x l u H3 Q
theorem pe_slice {r : V → Option Int → Option Int → Hp → VK → Prop} (hr : SlR X r) (he : PE X e te) (hl : PO X lo tl) (hu : PO X hi th) : PE X (.Subscript e (.Slice lo hi none p2) pos) (tSl r te tl th) := by
  intro pins s σ H Q I h
  refine Subscript_ (thn (he pins s σ H _ I h) fun v s1 ⟨x, H1, I1, r1, q1⟩ => ?_)
  refine wpAny_Slice (thn (hl pins s1 σ H1 _ I1 q1) fun vl s2 ⟨l, H2, I2, pl, q2⟩ => thn (hu pins s2 σ H2 _ I2 q2) fun vu s3 ⟨u, H3, I3, pu, q3⟩ => ?_)
  rw [evalPart_none]
  refine wpAny_pure ?_
  have I4 : Inv X pins σ H3 { s3 with heap := s3.heap.push { cls := .type "slice", data := .fields #[vl, vu, .none] } } := I3.kept (t' := s3.toks) fun b ob q => Heap.get?_push_of_some _ q
  obtain ⟨T, id, hT, ht, hg⟩ := hr pins { s3 with heap := s3.heap.push { cls := .type "slice", data := .fields #[vl, vu, .none] } } σ H3 x v vl vu l u s3.heap.objs.size Q I4 r1 (Heap.IsSliceOf.new ..) pl pu q3
  show wpAny (model X.prog X.w) X.A (subscriptTail e (.Slice lo hi none p2) v (.ref s3.heap.objs.size)) (EP X pins σ Q) X.xe { s3 with heap := s3.heap.push { cls := .type "slice", data := .fields #[vl, vu, .none] } }
  exact tail_any (ops := [.ref s3.heap.objs.size, v]) ht hT hg (by with_unfolding_all rfl)

noncomputable def cutV (xs : List V) (lo hi : Option Int) : List V := (xs.drop (HT.sIx xs.length 0 lo)).take (HT.sIx xs.length xs.length hi - HT.sIx xs.length 0 lo)
theorem cutV_length (xs : List V) (lo hi : Option Int) : (cutV xs lo hi).length ≤ xs.length := by
  unfold cutV
  rw [List.length_take, List.length_drop]
  omega
end
end L2

namespace L2
open PySem PySem.Spec PyProof.Rows

noncomputable def ixN (n : Nat) (i : Int) : Option Nat := if 0 ≤ i then (if i < n then some i.toNat else none) else if -(n : Int) ≤ i then some (i + n).toNat else none
noncomputable def atI {α : Type} (xs : List α) (i : Int) : Option α := (ixN xs.length i).bind fun j => xs[j]?
theorem ixN_seq {n : Nat} {i : Int} {j : Nat} (h : ixN n i = some j) : seqIndex? i n = some j ∧ j < n ∧ -(n : Int) ≤ i ∧ i < n := by
  unfold ixN at h
  by_cases h0 : 0 ≤ i
  · rw [if_pos h0] at h
    by_cases h1 : i < n
    · rw [if_pos h1] at h
      have e : i.toNat = j := Option.some.inj h
      exact ⟨by rw [seqIndex_of h0 h1, e], by omega, by omega, h1⟩
    · rw [if_neg h1] at h; cases h
  · rw [if_neg h0] at h
    by_cases h1 : -(n : Int) ≤ i
    · rw [if_pos h1] at h
      have e : (i + n).toNat = j := Option.some.inj h
      exact ⟨by rw [seqIndex_neg (by omega) h1, e], by omega, h1, by omega⟩
    · rw [if_neg h1] at h; cases h
theorem atI_get {α : Type} {xs : List α} {i : Int} {v : α} (h : atI xs i = some v) : ∃ j, seqIndex? i xs.length = some j ∧ xs[j]? = some v ∧ j < xs.length ∧ -(xs.length : Int) ≤ i ∧ i < xs.length := by
  unfold atI at h
  cases e : ixN xs.length i with
  | none => rw [e] at h; cases h
  | some j =>
    rw [e] at h
    obtain ⟨h1, h2, h3, h4⟩ := ixN_seq e
    exact ⟨j, h1, h, h2, h3, h4⟩
theorem atI_nat {α : Type} {xs : List α} {j : Nat} {v : α} (h : xs[j]? = some v) : atI xs (j : Int) = some v := by
  have hj : j < xs.length := (List.getElem?_eq_some_iff.mp h).1
  have e : ixN xs.length (j : Int) = some j := by
    unfold ixN
    rw [if_pos (by omega), if_pos (by omega)]; simp
  unfold atI; rw [e]; exact h
noncomputable def PlainIx (b : Expr) : Prop := ∀ o i, subscripted b false o i = operate [o, i] (getItem o i)
noncomputable def IxR (X : Cx) (r : R2) : Prop :=
  ∀ (value slice : Expr) (pins : List (Addr × Obj)) (s : Shared) (σ : St) (H : Hp) (x y : V) (v u : Value) (Q : VK), Inv X pins σ H s → RelV x v → RelV y u → r x y H Q →
    subscripted slice false v u = operate [v, u] (getItem v u) → wpAny (model X.prog X.w) X.A (subscriptTail value slice v u) (EP X pins σ Q) X.xe s
noncomputable def MtR (X : Cx) (id : String) (r : V → List V → Hp → VK → Prop) : Prop :=
  ∀ (pins : List (Addr × Obj)) (s : Shared) (σ : St) (H : Hp) (x : V) (xs : List V) (v : Value) (us : List Value) (Q : VK), Inv X pins σ H s → RelV x v → Vals xs us → r x xs H Q →
    wpAny (model X.prog X.w) X.A (call (.builtin id) (v :: us)) (EP X pins σ Q) X.xe s
section
variable {X : Cx} {a b : Expr} {ta tb : TE} {pos : Pos}
theorem IxR.or {r r' : R2} (h : IxR X r) (h' : IxR X r') : IxR X (fun x y H Q => r x y H Q ∨ r' x y H Q) := by
  intro value slice pins s σ H x y v u Q I rx ry q hs
  rcases q with q | q
  · exact h value slice pins s σ H x y v u Q I rx ry q hs
  · exact h' value slice pins s σ H x y v u Q I rx ry q hs
theorem MtR.or {id : String} {r r' : V → List V → Hp → VK → Prop} (h : MtR X id r) (h' : MtR X id r') : MtR X id (fun x xs H Q => r x xs H Q ∨ r' x xs H Q) := by
  intro pins s σ H x xs v us Q I rx rs q
  rcases q with q | q
  · exact h pins s σ H x xs v us Q I rx rs q
  · exact h' pins s σ H x xs v us Q I rx rs q
theorem pe_ix {r : R2} (hr : IxR X r) (ha : PE X a ta) (hb : PE X b tb) (hs : PlainIx b) : PE X (.Subscript a b pos) (tOp r ta tb) := by
  intro pins s σ H Q I h
  exact Subscript_ (binT ha hb I h fun v u s2 x y H2 I2 rx ry q => hr a b pins s2 σ H2 x y v u Q I2 rx ry q (hs _ _))

noncomputable def rIxL (K : PySem.W.Frag) : R2 := fun x y H Q => ∃ p xs i v, x = .ref p ∧ y = .int i ∧ SqL K H p xs ∧ atI xs i = some v ∧ Q v H
noncomputable def rIxT (K : PySem.W.Frag) : R2 := fun x y H Q => ∃ p xs i v, x = .ref p ∧ y = .int i ∧ SqT K H p xs ∧ atI xs i = some v ∧ Q v H
noncomputable def rIxS : R2 := fun x y H Q => ∃ z i c, x = .str z ∧ y = .int i ∧ z.length ≤ sizeLine ∧ atI z.cps.toList i = some c ∧ Q (.str ⟨#[c]⟩) H
theorem ix_list : IxR X (rIxL X.K) := by
  intro value slice pins s σ H x y v u Q I rx ry h hs
  obtain ⟨p, xs, i, z, rfl, rfl, hq, he, q⟩ := h
  cases rx
  obtain ⟨t, rfl⟩ := ry
  obtain ⟨its, r, pl, hz⟩ := I.list hq
  obtain ⟨j, h1, h2, h3, h4, h5⟩ := atI_get he
  obtain ⟨w, ew, rw'⟩ := r.get h2
  have hl := r.length
  have hn := line63
  have fin : EP X pins σ Q w s := ⟨z, H, I, rw', q⟩
  by_cases h0 : 0 ≤ i
  · have hj : i.toNat = j := by
      rw [seqIndex_of h0 h5] at h1
      exact Option.some.inj h1
    exact item_listR pl.isList h0 (by omega) (by rw [hj]; simpa using ew) fin hs
  · have hj : (i + (its.toArray.size : Int)).toNat = j := by
      rw [seqIndex_neg (by omega) h4] at h1
      rw [List.size_toArray, ← hl]
      exact Option.some.inj h1
    exact subscriptTail_builtinR (x := w) pl.isList.typeIs slot_list_getitem.lookup
      (wpAny_getItem_list_neg (Q := fun r s' => r = w ∧ EP X pins σ Q r s') pl.isList (by omega) (by rw [List.size_toArray] <;> omega) (by omega) (by rw [hj]; simpa using ew) ⟨rfl, fin⟩) hs
theorem ix_tup : IxR X (rIxT X.K) := by
  intro value slice pins s σ H x y v u Q I rx ry h hs
  obtain ⟨p, xs, i, z, rfl, rfl, hq, he, q⟩ := h
  cases rx
  obtain ⟨t, rfl⟩ := ry
  obtain ⟨its, r, pl, hz⟩ := I.tuple hq
  obtain ⟨j, h1, h2, h3, h4, h5⟩ := atI_get he
  obtain ⟨w, ew, rw'⟩ := r.get h2
  have hl := r.length
  have hn := line63
  have fin : EP X pins σ Q w s := ⟨z, H, I, rw', q⟩
  exact subscriptTail_builtinR (x := w) pl.typeIs slot_tuple_getitem.lookup
    (getItem_tuple (j := j) (Q := fun r s' => r = w ∧ EP X pins σ Q r s') pl (by omega) (by omega) (by rw [List.size_toArray, ← hl]; exact h1) (by simpa using ew) ⟨rfl, fin⟩) hs
theorem ix_str : IxR X rIxS := by
  intro value slice pins s σ H x y v u Q I rx ry h hs
  obtain ⟨z, i, c, rfl, rfl, hz, he, q⟩ := h
  obtain ⟨t, rfl⟩ := rx
  obtain ⟨t', rfl⟩ := ry
  obtain ⟨j, h1, h2, h3, h4, h5⟩ := atI_get he
  have hl : z.cps.toList.length = z.length := by simp [Str.length]
  rw [hl] at h1 h4 h5
  have hn := line63
  exact tail_any (typeIs_str s z t) slot_str_getitem.lookup (getItem_str (c := c) (by
    have e1 : decide (i < -(2 ^ 63 : Int)) = false := decide_eq_false (by omega)
    have e2 : decide (i ≥ 2 ^ 63) = false := decide_eq_false (by omega)
    rw [e1, e2, Bool.or_false]) (by rw [h1]; simpa using h2) ⟨.str ⟨#[c]⟩, H, I.tok _, ⟨_, rfl⟩, q⟩) hs
theorem Inv.lst {pins : List (Addr × Obj)} {σ : St} {H : Hp} {s : Shared} {p : Addr} {xs : List V} (I : Inv X pins σ H s) (h : H p = some (.lst xs)) :
    ∃ (its : List Value) (n : Nat), Vals xs its ∧ s.heap.get? p = some { cls := .type "list", data := .seq its.toArray n } ∧ xs.length ≤ sizeLine := by
  obtain ⟨z, its, n, r, e⟩ := I.hok p _ h
  exact ⟨its, n, r, e, z⟩
theorem slice_bounds (lo hi : Option Int) (n : Nat) : (sliceBounds lo hi none n).1 = ((HT.sIx n 0 lo : Nat) : Int) ∧ (sliceBounds lo hi none n).2.1 = ((HT.sIx n n hi : Nat) : Int) ∧ (sliceBounds lo hi none n).2.2 = 1 := by
  refine ⟨?_, ?_, rfl⟩
  · cases lo with
    | none => simp [sliceBounds, HT.sIx]
    | some i =>
      simp only [sliceBounds, HT.sIx, Option.getD_none, show (1 : Int) > 0 by decide, if_true]
      by_cases h : i < 0
      · simp only [h, if_true] <;> omega
      · simp only [h, if_false] <;> omega
  · cases hi with
    | none => simp [sliceBounds, HT.sIx]
    | some i =>
      simp only [sliceBounds, HT.sIx, Option.getD_none, show (1 : Int) > 0 by decide, if_true]
      by_cases h : i < 0
      · simp only [h, if_true] <;> omega
      · simp only [h, if_false] <;> omega
theorem slicePick_cut (its : List Value) (lo hi : Option Int) : slicePick its.toArray lo hi none = ((its.drop (HT.sIx its.length 0 lo)).take (HT.sIx its.length its.length hi - HT.sIx its.length 0 lo)).toArray := by
  obtain ⟨h1, h2, h3⟩ := slice_bounds lo hi its.toArray.size
  unfold slicePick
  rw [h1, h2, h3]
  simp only [sliceRange_one, pick_run, List.size_toArray] <;> rfl
noncomputable def rSlL (K : PySem.W.Frag) : V → Option Int → Option Int → Hp → VK → Prop := fun x lo hi H Q => ∃ a xs, x = .ref a ∧ SqL K H a xs ∧ ∀ p, H p = none → Q (.ref p) (upd H p (.lst (cutV xs lo hi)))
theorem sl_list : SlR X (rSlL X.K) := by
  intro pins s σ H x v vl vu lo hi sl Q I rx hs pl pu h
  obtain ⟨a, xs, rfl, hx, q⟩ := h
  cases rx
  obtain ⟨its, r, ht, hz⟩ := I.list hx
  have hlen := r.length
  refine ⟨"list", _, slot_list_getitem.lookup, ht.isList.typeIs, ?_⟩
  refine wpAny_getItem_list_slice ht.isList hs pl pu .none (by simp) ?_ (by rw [List.size_toArray] <;> omega)
  rw [slicePick_cut, ← hlen]
  refine ⟨.ref s.heap.objs.size, _, I.laid (t' := s.toks) (o := .lst (cutV xs lo hi)) (fun b ob q => Heap.get?_push_of_some _ q) (Nat.le_refl _) ?_, rfl, q _ (I.hok.fresh (Nat.le_refl _))⟩
  exact ⟨Nat.le_trans (cutV_length xs lo hi) hz, _, 0, (r.drop (HT.sIx xs.length 0 lo)).take (HT.sIx xs.length xs.length hi - HT.sIx xs.length 0 lo), Heap.get?_push_size _ rfl⟩

noncomputable def flatV : V → Bool
  | .non => true
  | .bl _ => true
  | .int _ => true
  | .str _ => true
  | _ => false
noncomputable def eqV : V → V → Bool
  | .non, .non => true
  | .bl a, .bl b => a == b
  | .bl a, .int b => (if a then 1 else 0) == b
  | .int a, .bl b => a == (if b then 1 else 0)
  | .int a, .int b => a == b
  | .str a, .str b => a == b
  | _, _ => false
theorem eqAt_V {A : Around} {s : Shared} {y x : V} {u v : Value} (ry : RelV y u) (rx : RelV x v) (fy : flatV y = true) (fx : flatV x = true) : SeqAt.EqAt A s u v (eqV y x) := by
  cases y with
  | non =>
    cases ry
    cases x with
    | non => cases rx; exact SeqAt.EqAt.same _
    | bl b => cases rx; exact SeqAt.EqAt.none_bool b
    | int b => obtain ⟨t, rfl⟩ := rx; exact SeqAt.EqAt.none_int b t
    | str b => obtain ⟨t, rfl⟩ := rx; exact SeqAt.EqAt.none_str b t
    | _ => exact absurd (show false = true from fx) Bool.false_ne_true
  | bl a =>
    cases ry
    cases x with
    | non => cases rx; exact SeqAt.EqAt.bool_none a
    | bl b => cases rx; exact SeqAt.EqAt.bool_bool a b
    | int b => obtain ⟨t, rfl⟩ := rx; exact SeqAt.EqAt.bool_int a b t
    | str b => obtain ⟨t, rfl⟩ := rx; exact SeqAt.EqAt.bool_str a b t
    | _ => exact absurd (show false = true from fx) Bool.false_ne_true
  | int a =>
    obtain ⟨t', rfl⟩ := ry
    cases x with
    | non => cases rx; exact SeqAt.EqAt.int_none a t'
    | bl b => cases rx; exact SeqAt.EqAt.int_bool a t' b
    | int b => obtain ⟨t, rfl⟩ := rx; exact SeqAt.EqAt.int_int a t' b t
    | str b => obtain ⟨t, rfl⟩ := rx; exact SeqAt.EqAt.int_str a t' b t
    | _ => exact absurd (show false = true from fx) Bool.false_ne_true
  | str a =>
    obtain ⟨t', rfl⟩ := ry
    cases x with
    | non => cases rx; exact SeqAt.EqAt.str_none a t'
    | bl b => cases rx; exact SeqAt.EqAt.str_bool a t' b
    | int b => obtain ⟨t, rfl⟩ := rx; exact SeqAt.EqAt.str_int a t' b t
    | str b => obtain ⟨t, rfl⟩ := rx; exact SeqAt.EqAt.str_str a t' b t
    | _ => exact absurd (show false = true from fx) Bool.false_ne_true
  | _ => exact absurd (show false = true from fy) Bool.false_ne_true
noncomputable def eqU (x : V) (u : Value) : Bool := match u with
  | .none => eqV .non x
  | .bool b => eqV (.bl b) x
  | .int i _ => eqV (.int i) x
  | .str z _ => eqV (.str z) x
  | _ => false
theorem eqU_of {x y : V} {u : Value} (r : RelV y u) (f : flatV y = true) : eqU x u = eqV y x := by
  cases y with
  | non => cases r; rfl
  | bl b => cases r; rfl
  | int i => obtain ⟨t, rfl⟩ := r; rfl
  | str z => obtain ⟨t, rfl⟩ := r; rfl
  | _ => exact absurd (show false = true from f) Bool.false_ne_true
theorem any_eqU {x : V} : ∀ {xs : List V} {us : List Value}, Vals xs us → xs.all flatV = true → us.any (eqU x) = xs.any fun y => eqV y x
  | _, _, .nil, _ => rfl
  | y :: xs, u :: us, .cons r t, f => by
    rw [List.all_cons, Bool.and_eq_true] at f
    rw [List.any_cons, List.any_cons, eqU_of r f.1, any_eqU t f.2]
theorem mem_eqAt {A : Around} {s : Shared} {x : V} {v : Value} (rx : RelV x v) (fx : flatV x = true) : ∀ {xs : List V} {us : List Value}, Vals xs us → xs.all flatV = true → ∀ u ∈ us, SeqAt.EqAt A s u v (eqU x u)
  | _, _, .nil, _ => fun u hu => by cases hu
  | y :: xs, u :: us, .cons r t, f => fun u' hu => by
    rw [List.all_cons, Bool.and_eq_true] at f
    rcases List.mem_cons.mp hu with rfl | hu
    · rw [eqU_of r f.1]; exact eqAt_V r rx f.1 fx
    · exact mem_eqAt rx fx t f.2 u' hu
noncomputable def inV (x : V) (xs : List V) : Bool := xs.any fun y => eqV y x
noncomputable def rIn (K : PySem.W.Frag) (neg : Bool) : R2 := fun x y H Q => ∃ p xs, y = .ref p ∧ (SqL K H p xs ∨ SqT K H p xs) ∧ flatV x = true ∧ xs.all flatV = true ∧ Q (.bl (if neg then !inV x xs else inV x xs)) H
theorem op_in_seq : OpR X (compareOp .In) (rIn X.K false) := by
  intro pins s σ H x y v u Q I rx ry h
  obtain ⟨p, xs, rfl, hq, fx, fs, q⟩ := h
  cases ry
  rcases hq with hq | hq
  · obtain ⟨its, r, pl, hz⟩ := I.list hq
    refine SeqAt.in_listAt (eqU x) pl.isList (fun w hw => mem_eqAt rx fx r fs w (by simpa using hw)) ⟨.bl _, H, I, rfl, ?_⟩
    rw [show its.toArray.any (eqU x) = its.any (eqU x) by simp, any_eqU r fs]
    exact q
  · obtain ⟨its, r, pl, hz⟩ := I.tuple hq
    refine SeqAt.in_tupleAt (eqU x) pl (fun w hw => mem_eqAt rx fx r fs w (by simpa using hw)) ⟨.bl _, H, I, rfl, ?_⟩
    rw [show its.toArray.any (eqU x) = its.any (eqU x) by simp, any_eqU r fs]
    exact q
theorem op_notIn_seq : OpR X (compareOp .NotIn) (rIn X.K true) := by
  intro pins s σ H x y v u Q I rx ry h
  obtain ⟨p, xs, rfl, hq, fx, fs, q⟩ := h
  cases ry
  rcases hq with hq | hq
  · obtain ⟨its, r, pl, hz⟩ := I.list hq
    refine SeqAt.notIn_listAt (eqU x) pl.isList (fun w hw => mem_eqAt rx fx r fs w (by simpa using hw)) ⟨.bl _, H, I, rfl, ?_⟩
    rw [show its.toArray.any (eqU x) = its.any (eqU x) by simp, any_eqU r fs]
    exact q
  · obtain ⟨its, r, pl, hz⟩ := I.tuple hq
    refine SeqAt.notIn_tupleAt (eqU x) pl (fun w hw => mem_eqAt rx fx r fs w (by simpa using hw)) ⟨.bl _, H, I, rfl, ?_⟩
    rw [show its.toArray.any (eqU x) = its.any (eqU x) by simp, any_eqU r fs]
    exact q
theorem call_len_seq : CallR X (.builtin "len") (fun xs H Q => ∃ p ys, xs = [.ref p] ∧ (SqL X.K H p ys ∨ SqT X.K H p ys) ∧ Q (.int ys.length) H) := by
  intro pins s σ H xs us Q I r h
  obtain ⟨p, ys, rfl, hq, q⟩ := h
  obtain ⟨u, rfl, rx⟩ := vals1 r
  cases rx
  have hn := line63
  rcases hq with hq | hq
  · obtain ⟨its, r', pl, hz⟩ := I.list hq
    have hlen := r'.length
    exact Calls.call_len_list pl.isList (by simp only [List.size_toArray] <;> omega) ⟨.int ys.length, H, I.tok _, ⟨s.toks + 1, by rw [List.size_toArray, hlen]⟩, q⟩
  · obtain ⟨its, r', pl, hz⟩ := I.tuple hq
    have hlen := r'.length
    exact len_tuple pl (by simp only [List.size_toArray] <;> omega) ⟨.int ys.length, H, I.tok _, ⟨s.toks + 1, by rw [List.size_toArray, hlen]⟩, q⟩
theorem CallR.or {f : Value} {r r' : List V → Hp → VK → Prop} (h : CallR X f r) (h' : CallR X f r') : CallR X f (fun xs H Q => r xs H Q ∨ r' xs H Q) := by
  intro pins s σ H xs us Q I rs q
  rcases q with q | q
  · exact h pins s σ H xs us Q I rs q
  · exact h' pins s σ H xs us Q I rs q
theorem call_list_of : CallR X (.type "list") (fun xs H Q => ∃ p ys, xs = [.ref p] ∧ (SqL X.K H p ys ∨ SqT X.K H p ys) ∧ ∀ l, H l = none → Q (.ref l) (upd H l (.lst ys))) := by
  intro pins s σ H xs us Q I r h
  obtain ⟨p, ys, rfl, hq, q⟩ := h
  obtain ⟨u, rfl, rx⟩ := vals1 r
  cases rx
  have fin : ∀ (its : List Value), Vals ys its → ys.length ≤ sizeLine → ∀ (h' : Heap) (c' : Nat), (∀ b o', s.heap.get? b = some o' → h'.get? b = some o') →
      h'.get? s.heap.objs.size = some { cls := .type "list", dict := none, data := .seq its.toArray c', slots := #[] } → EP X pins σ Q (.ref s.heap.objs.size) { s with heap := h' } := fun its r' hz h' c' kp e =>
    ⟨.ref s.heap.objs.size, _, I.laid (t' := s.toks) kp (Nat.le_refl _) (show ObjOk X.prog X.w _ h' _ (.lst ys) from ⟨hz, its, c', r', e⟩), rfl, q _ (I.hok.fresh (Nat.le_refl _))⟩
  rcases hq with hq | hq
  · obtain ⟨its, r', pl, hz⟩ := I.list hq
    have hlen := r'.length
    obtain ⟨o, ho, hc, n, hd⟩ := pl.isList
    exact call_list_seq p (.inl rfl) ho hc hd (fun h' c' kp e => fin its r' hz h' c' kp e) (by simp only [List.size_toArray] <;> omega)
  · obtain ⟨its, r', pl, hz⟩ := I.tuple hq
    have hlen := r'.length
    obtain ⟨o, ho, hc, n, hd⟩ := pl
    exact call_list_seq p (.inr rfl) ho hc hd (fun h' c' kp e => fin its r' hz h' c' kp e) (by simp only [List.size_toArray] <;> omega)
theorem call_tuple_of : CallR X (.type "tuple") (fun xs H Q => ∃ p ys, xs = [.ref p] ∧ ((SqL X.K H p ys ∧ ∀ l, H l = none → Q (.ref l) (upd H l (.tup ys))) ∨ (SqT X.K H p ys ∧ Q (.ref p) H))) := by
  intro pins s σ H xs us Q I r h
  obtain ⟨p, ys, rfl, h⟩ := h
  obtain ⟨u, rfl, rx⟩ := vals1 r
  cases rx
  rcases h with ⟨hq, q⟩ | ⟨hq, q⟩
  · obtain ⟨its, r', pl, hz⟩ := I.list hq
    have hlen := r'.length
    refine call_tuple_list pl.isList (fun h' kp => ?_) (by simp only [List.size_toArray] <;> omega)
    have I1 : Inv X pins σ H { s with heap := h' } := I.kept (t' := s.toks) kp
    have I2 : Inv X pins σ (upd H h'.objs.size (.tup ys)) { s with heap := h'.push { cls := .type "tuple", data := .seq its.toArray } } :=
      I1.laid (t' := s.toks) (fun b o e => Heap.get?_push_of_some _ e) (Nat.le_refl _) (show ObjOk X.prog X.w _ _ _ (.tup ys) from ⟨hz, its, r', IsTup.new _ _⟩)
    exact ⟨.ref h'.objs.size, _, I2, rfl, q _ (I1.hok.fresh (Nat.le_refl _))⟩
  · obtain ⟨its, r', pl, hz⟩ := I.tuple hq
    exact call_tuple_same pl ⟨.ref p, H, I, rfl, q⟩

noncomputable def tyV (K : PySem.W.Frag) (T : String) (x : V) (H : Hp) : Prop := match x with
  | .str _ => T = "str"
  | .int _ => T = "int"
  | .ref p => (T = "list" ∧ ∃ xs, SqL K H p xs) ∨ (T = "tuple" ∧ ∃ o, K.lookup p = some o ∧ o.cls = .type "tuple" ∧ o.dict = none) ∨
      (T = "dict" ∧ ((∃ kvs, H p = some (.dK kvs)) ∨ ∃ kvs, H p = some (.dT kvs))) ∨ (T = "set" ∧ ∃ S n, H p = some (.set S n))
  | _ => False
theorem tyV_is {pins : List (Addr × Obj)} {σ : St} {H : Hp} {s : Shared} {T : String} {x : V} {v : Value} (I : Inv X pins σ H s) (r : RelV x v) (ty : tyV X.K T x H) :
    s.TypeIs v T ∧ ∀ a, v = .ref a → ∃ ob, s.heap.get? a = some ob ∧ ob.dict = none := by
  cases x with
  | str z =>
    obtain ⟨t, rfl⟩ := r
    cases (show T = "str" from ty)
    exact ⟨typeIs_str s z t, fun _ e => nomatch e⟩
  | int i =>
    obtain ⟨t, rfl⟩ := r
    cases (show T = "int" from ty)
    exact ⟨typeIs_int s i t, fun _ e => nomatch e⟩
  | ref p =>
    cases r
    rcases ty with ⟨rfl, xs, hq⟩ | ⟨rfl, o, hk, hc, hd⟩ | ⟨rfl, hk⟩ | ⟨rfl, S, n, hk⟩
    · obtain ⟨its, _, pl, _⟩ := I.list hq
      refine ⟨pl.isList.typeIs, fun a e => ?_⟩
      cases e
      obtain ⟨o, n, e, c, hd, _⟩ := pl
      exact ⟨o, e, hd⟩
    · refine ⟨⟨o, I.kIn p o hk, hc⟩, fun a e => ?_⟩
      cases e
      exact ⟨o, I.kIn _ o hk, hd⟩
    · have z : ∃ o, s.heap.get? p = some o ∧ o.ExactDict := by
        rcases hk with ⟨kvs, hk⟩ | ⟨kvs, hk⟩
        · obtain ⟨_, _, _, _, o, _, _, e, ex, _⟩ := I.hok p _ hk
          exact ⟨o, e, ex⟩
        · obtain ⟨_, _, _, _, o, _, _, e, ex, _⟩ := I.hok p _ hk
          exact ⟨o, e, ex⟩
      obtain ⟨o, e, ex⟩ := z
      refine ⟨⟨o, e, ex.1⟩, fun a e2 => ?_⟩
      cases e2
      exact ⟨o, e, ex.2.1⟩
    · obtain ⟨o, _, _, _, e, ex, _⟩ := I.hok p _ hk
      refine ⟨⟨o, e, ex.1⟩, fun a e2 => ?_⟩
      cases e2
      exact ⟨o, e, ex.2.1⟩
  | _ => exact False.elim ty
noncomputable def tBM0 (K : PySem.W.Frag) (T : String) (r : V → List V → Hp → VK → Prop) (to : TE) : TE := fun σ H Q => to σ H fun x H1 => tyV K T x H1 ∧ r x [] H1 Q
noncomputable def tBM (K : PySem.W.Frag) (T : String) (r : V → List V → Hp → VK → Prop) (to : TE) (t : TA) : TE := fun σ H Q => to σ H fun x H1 => tyV K T x H1 ∧ t σ H1 fun xs H2 => r x xs H2 Q
variable {o e : Expr} {es : List Expr} {to : TE} {t : TA} {name : Str} {apos cpos : Pos} {T id : String} {r : V → List V → Hp → VK → Prop}
theorem pe_bm (pa : PlainAttrs T) (slot : Slot T name id) (hty : typeOf (.builtin id) = pure (.type "method_descriptor")) (hm : MtR X id r) (ho : PE X o to) (ha : PA X (e :: es) t)
    (hbase : attributeBase o name X.env (eval o X.env) = eval o X.env := by rfl)
    (hfew : ((backTo cpos (starEach (e :: es) X.env)).all (fun x => !x.1) && (backToKw cpos (keywordEach [] X.env)).all (fun x => x.1.isSome)
      && decide ((e :: es).length + ([] : List Keyword).length + (if ([] : List Keyword).isEmpty then 0 else 1) < 30)) = true := by rfl)
    (hline : (apos.endLine == cpos.line) = true := by rfl) (hs : starEach (e :: es) X.env = (false, eval e X.env) :: starEach es X.env := by rfl) (hplain : (backTo cpos (starEach es X.env)).any (·.1) = false := by rfl) :
    PE X (.Call (.Attribute o name apos) (e :: es) [] cpos) (tBM X.K T r to t) := by
  intro pins s σ H Q I h
  refine wpAny_Call_method_late hbase hfew hline rfl (thn (ho pins s σ H _ I h) fun v s1 ⟨x, H1, I1, r1, ty, q1⟩ => ?_)
  obtain ⟨h1, h2⟩ := tyV_is I1 r1 ty
  refine ⟨T, id, pa, slot, hty, h1, h2, ?_⟩
  have hA := ha cpos pins s1 σ H1 _ I1 q1
  rw [hs] at hA ⊢
  refine Calls.callWith_builtin (by show (false || (backTo cpos (starEach es X.env)).any (·.1)) = false; rw [hplain] <;> rfl) (Calls.evalArgs_plain ?_)
  exact thn hA fun us s2 ⟨vs, H2, I2, r2, q2⟩ => hm pins s2 σ H2 x vs v us Q I2 r1 r2 q2
/- xs.append(e), list.index on a module's tuple .. are MtR facts of 06m -/
end
end L2

namespace L2
open PySem PySem.Spec PyProof.Rows

noncomputable def MtM (X : Cx) (id : String) (r : V → List V → Hp → VK → Prop) : Prop :=
  ∀ (pins : List (Addr × Obj)) (s : Shared) (σ : St) (H : Hp) (x : V) (xs : List V) (v : Value) (us : List Value) (Q : VK), Inv X pins σ H s → RelV x v → Vals xs us → r x xs H Q →
    wpAny (model X.prog X.w) X.A (call (.builtin id) (v :: us)) (EP X pins σ Q) X.xe s

theorem Vals.one : ∀ {x : V} {us : List Value}, Vals [x] us → ∃ u, us = [u] ∧ RelV x u
  | _, _, .cons r .nil => ⟨_, rfl, r⟩
theorem Vals.zero : ∀ {us : List Value}, Vals [] us → us = []
  | _, .nil => rfl
theorem Vals.reverse {xs : List V} {us : List Value} (h : Vals xs us) : Vals xs.reverse us.reverse := by
  induction h with
  | nil => exact .nil
  | cons r t ih => rw [List.reverse_cons, List.reverse_cons]; exact Vals.append ih (.cons r .nil)
section
variable {X : Cx} {pins : List (Addr × Obj)} {σ : St} {H : Hp} {s : Shared} {l b : Addr} {xs ys zs : List V}

theorem Inv.lset {its its' : List Value} {n : Nat} {f : Array Value → Array Value} {t' : Nat} (I : Inv X pins σ H s) (hH : H l = some (.lst xs))
    (e : s.heap.get? l = some { cls := .type "list", data := .seq its.toArray n }) (hf : f its.toArray = its'.toArray) (hv : Vals ys its') (hz : ys.length ≤ sizeLine) :
    Inv X pins σ (upd H l (.lst ys)) { s with heap := s.heap.update l (Obj.mapSeq f), toks := t' } := by
  have q := PySem.IsL.update e f
  rw [hf] at q
  refine I.write (x := l) (e := l) (by rw [hH]; exact trivial) (.inl rfl) (fun b' u hb hu => (Heap.get?_update_other s.heap (Obj.mapSeq f) (Ne.symm hb)).trans hu) ⟨_, q⟩ ?_
  exact ⟨hz, its', _, hv, q⟩
theorem Inv.lnew {its : List Value} {t' : Nat} (I : Inv X pins σ H s) (hv : Vals ys its) (hz : ys.length ≤ sizeLine) :
    Inv X pins σ (upd H s.heap.objs.size (.lst ys)) { s with heap := s.heap.push { cls := .type "list", data := .seq its.toArray }, toks := t' } :=
  I.laid (fun _ _ q => Heap.get?_push_of_some _ q) (Nat.le_refl _) ⟨hz, its, 0, hv, Heap.get?_push_size _ rfl⟩
theorem Inv.fresh (I : Inv X pins σ H s) : H s.heap.objs.size = none := I.hok.fresh (Nat.le_refl _)
theorem Inv.lstM (I : Inv X pins σ H s) (hH : H l = some (.lst xs)) : xs.length ≤ sizeLine ∧ ∃ (its : List Value) (n : Nat), Vals xs its ∧ xs.length = its.length ∧ s.heap.get? l = some { cls := .type "list", data := .seq its.toArray n } := by
  obtain ⟨z, its, n, r, e⟩ := I.hok l _ hH
  exact ⟨z, its, n, r, r.length, e⟩

end

section
variable {X : Cx}

noncomputable def rAppend : V → List V → Hp → VK → Prop := fun x vs H Q => ∃ l xs y, x = .ref l ∧ vs = [y] ∧ H l = some (.lst xs) ∧ xs.length < sizeLine ∧ Q .non (upd H l (.lst (xs ++ [y])))
theorem mt_append : MtM X "list.append" rAppend := by
  intro pins s σ H x vs v us Q I rx rv h
  obtain ⟨l, xs, y, rfl, rfl, hH, hz, q⟩ := h
  cases rx
  obtain ⟨u, rfl, ru⟩ := rv.one
  obtain ⟨z, its, n, r, hl, e⟩ := I.lstM hH
  refine call_meets F.slot_list_append ⟨_, e, rfl⟩ F.entry_list_append (F.args_list_append_2 _ _) (PySem.list_append l its.toArray n u (by rw [List.size_toArray]; omega)) ⟨e, ?_⟩
  refine ⟨.non, _, I.lset (its' := its ++ [u]) hH e (by simp) (r.append (.cons ru .nil)) ?_, rfl, q⟩
  rw [List.length_append, List.length_singleton]
  omega

noncomputable def rReverse : V → List V → Hp → VK → Prop := fun x vs H Q => ∃ l xs, x = .ref l ∧ vs = [] ∧ H l = some (.lst xs) ∧ Q .non (upd H l (.lst xs.reverse))
noncomputable def rClear : V → List V → Hp → VK → Prop := fun x vs H Q => ∃ l xs, x = .ref l ∧ vs = [] ∧ H l = some (.lst xs) ∧ Q .non (upd H l (.lst []))
noncomputable def rRep : R2 := fun x y H Q => ∃ l k xs, x = .ref l ∧ y = .int k ∧ H l = some (.lst xs) ∧ -(2 ^ 63) ≤ k ∧ k < 2 ^ 63 ∧ xs.length * k.toNat ≤ sizeLine ∧
  ∀ p, H p = none → Q (.ref p) (upd H p (.lst (List.replicate k.toNat xs).flatten))
end

section
variable {prog : Program} {w : World} {A : Around} {E : Value → Shared → Prop} {s : Shared}
set_option maxRecDepth 100000 in
end

section
variable {X : Cx}
end
end L2

namespace Att
open PySem PySem.W PySem.Calls PyProof.Rows

theorem ints_of_wellAll {P : Params} {h : Heap} : ∀ (ns : List Int) (vs : List Value), WellAll P h vs (ns.map WData.int) → IntsAre vs ns := by
  intro ns
  induction ns with
  | nil =>
    intro vs w
    rw [List.map_nil] at w
    cases w
    exact .nil
  | cons n ns ih =>
    intro vs w
    rw [List.map_cons] at w
    cases w with
    | cons a b =>
      cases a
      exact .cons _ _ (ih _ b)

theorem script_of {l : OpenLaw} {n : Nat} (hn : l.most = some n) {P : Params} {h : Heap} {args : List WData} {vals : List Value}
    (hpre : l.row.toRowW.claim.pre args = true) (hwl : WellAll P h vals args) :
    ∃ a vs ns, vals = [Value.ref a] ∧ args = [WData.list (ns.map WData.int)] ∧ h.get? a = some { cls := .type "list", data := .seq vs.toArray } ∧ IntsAre vs ns ∧ ns.length ≤ n := by
  have hsh : WShape.hasAll [] args [.list .int] = true := (pre_splitW hpre).1
  have hc : l.pre.holds [] { args := args } = true := (pre_splitW hpre).2
  obtain ⟨d, r, rfl, h1, h2⟩ := hasAllW_cons hsh
  obtain rfl := hasAllW_nil h2
  obtain ⟨xs, rfl, h3⟩ := hasW_list h1
  obtain ⟨ns, rfl⟩ := items_int h3
  have hlen : ns.length ≤ n := by
    unfold OpenLaw.pre at hc
    have h4 : (WTm.not (.lt (.lit (.int (n : Int))) (.len (.arg 0)))).holds [] { args := [.list (ns.map .int)] } = true := by
      have h4 := (holds_andW hc).1
      rw [hn] at h4
      exact h4
    have h5 := condW_of h4 (w_not (w_lt w_lit (w_len_list (w_arg rfl))))
    rw [List.length_map] at h5
    refine Nat.le_of_not_lt fun q => ?_
    have q' : (n : Int) < ((ns.length : Nat) : Int) := by omega
    first
      | (rw [decide_eq_true q'] at h5; exact absurd h5 (by decide))
      | (simp at h5; omega)
  cases hwl with
  | cons w1 w2 =>
    cases w2
    cases w1 with
    | list ho hall => exact ⟨_, _, ns, rfl, rfl, ho, ints_of_wellAll ns _ hall, hlen⟩

theorem post_true (l : OpenLaw) (args : List WData) : l.row.toRowW.claim.post args (.bool true) args = true :=
  postW_of (r := l.row.toRowW) (X := (true == true))
    (show WShape.has [] (.bool true) .bool = true by first | rfl | decide | simp [WShape.has, WShape.arms, WShape.armsAll])
    (show (WTm.eq .res (.lit (.bool true))).value [] { args := args, res := some (.bool true), after := args } = some (.bool (true == true)) from w_eq_bool (w_res rfl) w_lit) rfl

theorem attach_call {l : OpenLaw} {n : Nat} {q : Program} {loose : List Str} {XP : (Str → Option Value) → Heap → Prop} {YP : World → Heap → Prop} {d : DefRec}
    (hn : l.most = some n) (hdf : d.params.defaults = [])
    (call : ∀ (w : World) (s₀ s₁ : Shared) (mg mb : Str → Option Value) (fa : Addr) (o : Obj) (pm cd doc : Value) (a : Addr) (vs : List Value) (ns : List Int),
      Ground q loose [] XP w s₀ mg mb s₁.heap → YP w s₁.heap →
      s₁.heap.get? fa = some o → o.data = .func (docDef d.name d.params d.body d.scope pm cd doc) → s₁.heap.CodeRec cd d.name → mg d.name = some (.ref fa) →
      s₁.heap.get? a = some { cls := .type "list", data := .seq vs.toArray } → IntsAre vs ns → ns.length ≤ n → s₁.gens = #[] →
      codeAny (model l.prog w) callerA (.call (.ref fa) ⟨[.ref a], []⟩) (fun r s' => r = .ok (.ret (.bool true)) ∧ OldK s₁.heap s'.heap ∧ s'.os = s₁.os ∧ AllBare s'.gens) s₁) :
    WalkO q loose XP YP l.row.toRowW d [] (fun f vs => PySem.call f vs) := by
  intro w s₀ s₁ mg mb G Y fa o pm cd doc dV kV ho hd hcd hD hmg hg args vals as hpre hlay hrd hwl hlo
  obtain rfl : dV = .none := Dflts.none hD hdf
  obtain rfl : kV = .none := Dflts.noKw hD
  obtain ⟨a, vs, ns, rfl, rfl, hobj, hints, hlen⟩ := script_of hn hpre hwl
  refine enter_call (codeAny_mono (call w s₀ s₁ mg mb fa o pm cd doc a vs ns G Y ho (fd_plain hd) hcd hmg hobj hints hlen hg) fun r s' hq => ?_)
  obtain ⟨rfl, h2, h3, h4⟩ := hq
  exact ⟨.inl ⟨.bool true, .bool true, [], rfl, fun _ => rfl, .bool true, post_true l _, fun _ => ⟨List.Pairwise.nil, fun _ hm => (nomatch hm)⟩⟩, h2, h3, h4⟩

section
variable {prog : Program} {w : World} {A : Around} {E : Value → Shared → Prop} {s : Shared} {K : Frag}

end
end Att

namespace L2
open PySem PySem.Spec PyProof.Rows

theorem vals_ints : ∀ {vs : List Value} {ns : List Int}, IntsAre vs ns → Vals (ns.map V.int) vs
  | _, _, .nil => .nil
  | _, _, .cons n t h => .cons ⟨t, rfl⟩ (vals_ints h)

noncomputable def Only (H : Hp) : Prop := ∀ b, H b = none ∨ ∃ o xs, H b = some (.frz o (.lst xs))

theorem law_call {P : Program} {w : World} {K : PySem.W.Frag} {mg mb : Str → Option Value} {CX : CXT} {k : Nat} {fa a : Addr} {fd : FuncData} {x : Str} {sp : Sp} {s₁ : Shared} {vs : List Value} {ns : List Int}
    (KX : K.In s₁.heap) (hns : s₁.heap.Ns mainGlobals mg) (hb : s₁.heap.Ns builtinsNs mb) (hbb : ∀ x : Str, x ≠ "__name__" → mb x = bootBuiltins x) (hlim : s₁.heap.NoLimit) (hg : s₁.gens = #[])
    (ha : s₁.heap.get? a = some { cls := .type "list", data := .seq vs.toArray }) (hi : IntsAre vs ns) (hl : ns.length ≤ sizeLine) (hr : Room k callerA)
    (F : ∀ base : Heap, K.In base → base.Ns mainGlobals mg → FnOk P w K mg base CX k fa fd [x] sp) (hbind : ∀ (s : Shared) (u : Value), BindsTo s fd ⟨[u], []⟩ [(x, u)])
    (hsp : ∀ H : Hp, Only H → SqL K H a (ns.map V.int) → sp [.ref a] H (fun v _ => v = .bl true) fun _ _ _ => False)
    (hCX : ∀ H e s', CX [] H s₁ (fun _ _ _ => False) e s' → False) :
    codeAny (model P w) callerA (.call (.ref fa) ⟨[.ref a], []⟩) (fun r s' => r = .ok (.ret (.bool true)) ∧ OldK s₁.heap s'.heap ∧ s'.os = s₁.os ∧ AllBare s'.gens) s₁ := by
  have rv := vals_ints hi
  have lenV := hi.length
  -- from an abstract heap in which nothing but the script may be tracked
  have core : ∀ H : Hp, Only H → SqL K H a (ns.map V.int) → HOk P w H s₁.heap → (∀ b, H b ≠ none → b = a) → (H a ≠ none → K.lookup a = none) →
      codeAny (model P w) callerA (.call (.ref fa) ⟨[.ref a], []⟩) (fun r s' => r = .ok (.ret (.bool true)) ∧ OldK s₁.heap s'.heap ∧ s'.os = s₁.os ∧ AllBare s'.gens) s₁ := by
    intro H hO hS hok hA hK
    have base_of : ∀ {b : Addr} {o : Obj}, s₁.heap.get? b = some o → H b = none → (hidT s₁.heap H).get? b = some o := fun e n => hidT_get e n
    have noA : ∀ {b : Addr} {o : Obj} {es : Array DictEntry} {ep : Nat}, s₁.heap.get? b = some o → o.data = .dict es ep → H b = none := fun {b o es ep} e d => by
      cases q : H b with
      | none => rfl
      | some u =>
        have e' : b = a := hA b (by rw [q]; simp)
        subst e'
        rw [ha] at e; cases e
        have d' : Data.seq vs.toArray _ = Data.dict es ep := d
        cases d'
    have nsK : ∀ {b : Addr} {m : Str → Option Value}, s₁.heap.Ns b m → (hidT s₁.heap H).Ns b m := fun {b m} ⟨o, es, ep, e, d, r⟩ => ⟨o, es, ep, base_of e (noA e d), d, r⟩
    have hKb : K.In (hidT s₁.heap H) := fun b o e => base_of (KX b o e) (by
      cases q : H b with
      | none => rfl
      | some u =>
        have e' : b = a := hA b (by rw [q]; simp)
        subst e'
        rw [hK (by rw [q]; simp)] at e; cases e)
    have hM : Mod K mg (hidT s₁.heap H) := ⟨hKb, nsK hns, ⟨mb, nsK hb, hbb⟩, let ⟨mc, h1, h2⟩ := hlim; ⟨mc, nsK h1, h2⟩⟩
    have e0 : Env0 P w K mg (hidT s₁.heap H) callerA [] s₁ H := ⟨rfl, hM, fun b o e => of_hidT e, Nat.le_of_eq (hidT_size _ _), trivial, fun b hb => absurd (show b ∈ ([] : List Addr) from hb) (by simp), hok, .of_eq hg⟩
    refine codeAny_mono ((F _ hKb (nsK hns)).run callerA [] s₁ H ⟨[.ref a], []⟩ [.ref a] [.ref a] _ _ hr e0 (hbind s₁ (.ref a)) (.cons rfl .nil) (hsp H hO hS)) fun r s' h => ?_
    cases r with
    | error e => exact (hCX H e s' h).elim
    | ok fl =>
      cases fl with
      | next => exact False.elim h
      | brk => exact False.elim h
      | cont => exact False.elim h
      | ret u =>
        obtain ⟨v, H', os, bare, un, hok', r', q⟩ := h
        have q' : v = .bl true := q
        subst q'
        obtain rfl : u = Value.bool true := r'
        refine ⟨rfl, OldK.of_keep fun b o e => ?_, os, bare⟩
        cases q : H b with
        | none => exact un.keep b o e q (by intro z; exact absurd (show b ∈ ([] : List Addr) from z) (by simp)) (by simp)
        | some u =>
          rcases hO b with z | ⟨ob, xs, z⟩
          · rw [q] at z; cases z
          · have z2 := un.frzs b ob _ z
            obtain ⟨e1, _⟩ := hok b _ z
            obtain ⟨e2, _⟩ := hok' b _ z2
            rw [e] at e1; cases e1
            exact e2
  cases hk : K.lookup a with
  | some o =>
    -- the script is one of the module's own objects
    have e := KX a o hk
    rw [ha] at e
    cases e
    refine core (fun _ => none) (fun _ => .inl rfl) (.inr ⟨_, vs.toArray, _, hk, rfl, rfl, rfl, by rw [List.size_toArray, lenV]; exact hl, by simpa using rv⟩) (fun b u z => by have z' : (none : Option HO) = some u := z; cases z') (fun b z => absurd rfl z) fun z => absurd rfl z
  | none =>
    refine core (fun b => if b = a then some (.frz { cls := .type "list", data := .seq vs.toArray } (.lst (ns.map V.int))) else none) (fun b => ?_) (.inl (.inr ⟨{ cls := .type "list", data := .seq vs.toArray }, if_pos rfl⟩)) (fun b u z => ?_) (fun b z => ?_) fun _ => hk
    · by_cases hb : b = a
      · exact .inr ⟨_, _, if_pos hb⟩
      · exact .inl (if_neg hb)
    · by_cases hb : b = a
      · have z' := (if_pos hb).symm.trans z
        cases z'
        subst hb
        exact ⟨ha, by rw [List.length_map]; exact hl, vs, _, rv, ha⟩
      · have z' := (if_neg hb).symm.trans z
        cases z'
    · by_cases hb : b = a
      · exact hb
      · exact absurd (if_neg hb) z
end L2

namespace L2
open PySem PySem.Spec PyProof.Rows

abbrev KOf {K : PySem.W.Frag} {h : Heap} (_ : K.In h) : PySem.W.Frag := K

theorem walk_of {l : PySem.W.OpenLaw} {n k : Nat} {q : Program} {loose : List Str} {XP : (Str → Option Value) → Heap → Prop} {YP : World → Heap → Prop} {d : DefRec} {K : Params → PySem.W.Frag} {CX : World → CXT} {sp : World → Sp} {x : Str}
    (hn : l.most = some n) (hn2 : n ≤ sizeLine) (hdf : d.params.defaults = []) (hr : Room k callerA)
    (hY : ∀ (w : World) (h : Heap), YP w h → (K w.params).In h)
    (F : ∀ (w : World) (mg : Str → Option Value) (fa : Addr) (h : Heap), (K w.params).In h → h.Ns mainGlobals mg → mg d.name = some (.ref fa) →
      ∃ fd : FuncData, (∀ (s : Shared) (u : Value), BindsTo s fd ⟨[u], []⟩ [(x, u)]) ∧
        ∀ base : Heap, (K w.params).In base → base.Ns mainGlobals mg → FnOk l.prog w (K w.params) mg base (CX w) k fa fd [x] (sp w))
    (hsp : ∀ (w : World) (H : Hp) (a : Addr) (ns : List Int), ns.length ≤ n → Only H → SqL (K w.params) H a (ns.map V.int) → sp w [.ref a] H (fun v _ => v = .bl true) fun _ _ _ => False)
    (hCX : ∀ (w : World) (H : Hp) (s : Shared) (e : Value) (s' : Shared), CX w [] H s (fun _ _ _ => False) e s' → False) :
    PySem.W.WalkO q loose XP YP l.row.toRowW d [] (fun f vs => PySem.call f vs) := by
  refine Att.attach_call hn hdf fun w s₀ s₁ mg mb fa o pm cd doc a vs ns G Y ho hd hcd hmg hobj hints hlen hg => ?_
  have KX := hY w _ Y
  obtain ⟨fd, hb, hF⟩ := F w mg fa _ KX G.T.g hmg
  exact law_call KX G.T.g G.T.b G.T.builtins G.T.nolimit hg hobj hints (Nat.le_trans hlen hn2) hr hF hb (fun H hO hS => hsp w H a ns hlen hO hS) fun H e s' => hCX w H s₁ e s'
end L2

/- THE LAST THEOREM (shape; LID, My.* are yours):
   My.Adr: a structure of the addresses that your layer names (classes, functions); My.Txt K t: a structure (Prop) of the equations over K;
   My.txt_mk : {K} {implicit addresses ..} (e1 : nsIn K mainGlobals "law" = some (some (.ref f))) (e2 : K.lookup f = some ⟨oc, od, .func (fnOf "law" "law" params body scope dV kV doc pm an cdv ct), sl⟩) (e3 : codeIn K cdv "law" = true) .. : ∃ t, My.Txt K t

set_option maxRecDepth 100000 in
set_option maxHeartbeats 0 in
theorem PySem.Challenge.cw_LID_holds : PySem.Challenge.rw_LID.Holds := by
  w_on; o_law; k_head; (case hw => w_witness2)
  k_fill
  refine L2.walk_of (l := PySem.Challenge.rw_LID) (n := 63) (k := 40) (x := "script") (CX := fun w => ..) (sp := fun _ => My.sp_law) rfl (by decide) rfl ⟨rfl, by decide, by decide⟩ (fun w h Y => PySem.W.kIn_of Y) ?F ?S ?C
  case F =>
    intro w mg fa h KX G hmg
    have T : ∃ t, My.Txt (L2.KOf KX) t := by
      dsimp only [L2.KOf]                          -- K must stand as «<heap const> w.params» for k_is
      refine' My.txt_mk ?e1 ?e2 ?e3 ..
      (case e1 => PySem.W.k_is)                    -- in the order: a name -> its address -> its object -> its parts
      (case e2 => PySem.W.k_is)
      ..
    obtain ⟨t, T⟩ := T
    have e0 := hmg.symm.trans (PySem.W.mg_of KX G T.law)
    cases e0                                       -- fa is the law's own address
    exact ⟨_, fun s u => .of_eq rfl, fun base kb nb => My.law_fn T kb nb⟩     -- if «.of_eq rfl» comes too early: refine' ⟨_, ?b, fun base kb nb => My.law_fn T kb nb⟩; exact fun s u => .of_eq rfl
  case S => exact fun w H a ns hl hO hS => ..
  case C => exact ..
(the tactic k_is has no namespace: write k_is) -/

namespace L2
open PySem PySem.Spec PyProof.Rows

noncomputable def defArgs (s : Stmt) : Arguments := match s with
  | .FunctionDef _ a _ _ _ _ _ _ _ _ => a
  | _ => { posonlyargs := [], args := [], vararg := none, kwonlyargs := [], kw_defaults := [], kwarg := none, defaults := [] }
noncomputable def defBody (s : Stmt) : List Stmt := match s with
  | .FunctionDef _ _ b _ _ _ _ _ _ _ => b
  | _ => []
noncomputable def defScope (s : Stmt) : Scope := match s with
  | .FunctionDef _ _ _ _ _ _ sc _ _ _ => sc
  | _ => { kind := .function, names := [], isGenerator := false, isCoroutine := false }

abbrev CX0 : CXT := fun _ _ _ _ _ _ => False
abbrev E0 : XK := fun _ _ _ => False
theorem pass0 {X : Cx} : Passes CX0 X E0 := fun _ _ _ _ _ _ _ h => h.elim

structure Fun (K : PySem.W.Frag) (x qual : Str) (st : Stmt) (f : Addr) (fd : FuncData) : Prop where
  ex : ∃ (oc : Value) (od : Option Addr) (kV doc pm : Value) (an : Option Addr) (cdv ct : Value) (osl : Array (Option Value)),
    fd = PySem.W.fnOf x qual (defArgs st) (defBody st) (defScope st) .none kV doc pm an cdv ct ∧ K.lookup f = some ⟨oc, od, .func fd, osl⟩ ∧ PySem.W.codeIn K cdv qual = true
  kp : PySem.W.keepIn K (.ref f) = true
section
variable {P : Program} {w : World} {K : PySem.W.Frag} {mg : Str → Option Value} {base : Heap}
theorem Fun.ok {x qual : Str} {st : Stmt} {f : Addr} {fd : FuncData} {N ps : List Str} {k : Nat} {sp : Sp} (F : Fun K x qual st f fd) (S : FnScope N ps (defScope st)) (len : ∀ vs H Q E, sp vs H Q E → vs.length = ps.length)
    (hbody : ∀ (cdv : Value) (A : Around) (outer : List Env) (s : Shared) (H : Hp) (vs : List V) (Q : VK) (E : XK), Room k (A.deeper (envOfC qual (defScope st) s.heap.objs.size f cdv)) → sp vs H Q E →
      ∃ t, PSs (cxOf CX0 P w K mg base N qual (defScope st) f cdv A outer s H E).nox (defBody st) t ∧ t { nx := fun _ H' => Q .non H', rt := Q } (start N vs) H) : FnOk P w K mg base CX0 (k + 1) f fd ps sp := by
  obtain ⟨oc, od, kV, doc, pm, an, cdv, ct, osl, rfl, lk, hcd⟩ := F.ex
  refine fn_of lk hcd S len fun A outer s H vs Q E hr hsp => ?_
  obtain ⟨t, h, q⟩ := hbody cdv A outer s H vs Q E hr hsp
  exact ⟨t, h.nox, q⟩
theorem Fun.binds {x qual : Str} {st : Stmt} {f : Addr} {fd : FuncData} {ps : List Str} (F : Fun K x qual st f fd)
    (h : ∀ (kV doc pm : Value) (an : Option Addr) (cdv ct : Value) (us : List Value), us.length = ps.length → bindArgs (PySem.W.fnOf x qual (defArgs st) (defBody st) (defScope st) .none kV doc pm an cdv ct) ⟨us, []⟩ = pure (ps.zip us)) : Binds K fd ps [] := by
  obtain ⟨oc, od, kV, doc, pm, an, cdv, ct, osl, rfl, lk, hcd⟩ := F.ex
  exact .all (h kV doc pm an cdv ct)
theorem fun_mk {x qual : Str} {st : Stmt} {f : Addr} {oc : Value} {od an : Option Addr} {osl : Array (Option Value)} {kV doc pm cdv ct : Value} (l : K.lookup f = some ⟨oc, od, .func (PySem.W.fnOf x qual (defArgs st) (defBody st) (defScope st) .none kV doc pm an cdv ct), osl⟩)
    (c : PySem.W.codeIn K cdv qual = true) (k : PySem.W.keepIn K (.ref f) = true) : Fun K x qual st f (PySem.W.fnOf x qual (defArgs st) (defBody st) (defScope st) .none kV doc pm an cdv ct) := ⟨⟨oc, od, kV, doc, pm, an, cdv, ct, osl, rfl, l, c⟩, k⟩
end
section
variable {X : Cx}
theorem pv (i : Nat) {x : Str} {pos : Pos} (hN : X.N[i]? = some x := by rfl) (hv : Vis X.env.scope x := by first | exact Or.inl rfl | exact Or.inr (Or.inl rfl) | exact Or.inr (Or.inr rfl)) (hd : (x == ("__debug__" : Str)) = false := by decide)
    (hcd : (x == ("__classdict__" : Str)) = false := by decide) : PE X (.Name x pos) (tVar i) := pe_var hN hv hd hcd
end

theorem iteF {A B : Prop} (h : B) : if false = true then A else B := by
  rw [if_neg Bool.false_ne_true]
  exact h
theorem iteT {A B : Prop} (h : A) : if true = true then A else B := by
  rw [if_pos rfl]
  exact h
theorem ite2 {c A B : Prop} [Decidable c] (h1 : c → A) (h2 : ¬ c → B) : if c then A else B := by
  by_cases h : c
  · rw [if_pos h]
    exact h1 h
  · rw [if_neg h]
    exact h2 h
noncomputable def Same (H H' : Hp) : Prop := ∀ b o, H b = some o → H' b = some o
theorem Same.refl (H : Hp) : Same H H := fun _ _ h => h
theorem Same.trans {H H1 H2 : Hp} (a : Same H H1) (b : Same H1 H2) : Same H H2 := fun c o h => b c o (a c o h)
theorem Same.free {H H' : Hp} (e : Same H H') {l : Addr} (h : H' l = Option.none) : H l = Option.none := by
  cases q : H l with
  | none => rfl
  | some o =>
    rw [e l o q] at h
    cases h
theorem Same.seq {K : PySem.W.Frag} {H H' : Hp} {a : Addr} {xs : List V} (e : Same H H') (h : SqL K H a xs) : SqL K H' a xs := by
  rcases h with (h | ⟨o, h⟩) | h
  · exact .inl (.inl (e _ _ h))
  · exact .inl (.inr ⟨o, e _ _ h⟩)
  · exact .inr h

end L2

set_option maxHeartbeats 4000000
namespace My
noncomputable def Bd (n : Nat) (x : Int) : Prop := x.natAbs < 2 ^ n
theorem Bd.mono {m n : Nat} {x : Int} (h : Bd m x) (hn : m ≤ n) : Bd n x := Nat.lt_of_lt_of_le h (Nat.pow_le_pow_right (by decide) hn)
theorem Bd.neg {n : Nat} {x : Int} (h : Bd n x) : Bd n (-x) := by unfold Bd at *; rw [Int.natAbs_neg]; exact h
theorem Bd.mul {m n : Nat} {x y : Int} (h : Bd m x) (g : Bd n y) : Bd (m + n) (x * y) := by
  unfold Bd at *
  rw [Int.natAbs_mul, Nat.pow_add]
  exact Nat.mul_lt_mul'' h g
theorem Bd.add {n : Nat} {x y : Int} (h : Bd n x) (g : Bd n y) : Bd (n + 1) (x + y) := by
  unfold Bd at *
  rw [Nat.pow_succ]
  have := Int.natAbs_add_le x y
  omega
theorem Bd.sub {n : Nat} {x y : Int} (h : Bd n x) (g : Bd n y) : Bd (n + 1) (x - y) := by
  rw [Int.sub_eq_add_neg]; exact h.add g.neg
theorem Bd.mod {n : Nat} {x y : Int} (hy : 0 < y) (g : Bd n y) : Bd n (x % y) := by
  unfold Bd at *
  have h1 := Int.emod_nonneg x (Int.ne_of_gt hy)
  have h2 := Int.emod_lt_of_pos x hy
  omega
theorem Bd.of_le {n : Nat} {x y : Int} (g : Bd n y) (h0 : 0 ≤ x) (h : x ≤ y) : Bd n x := by
  unfold Bd at *
  omega
theorem div_bounds (x y : Int) (hy : 0 < y) : y * (x / y) ≤ x ∧ x < y * (x / y) + y := by
  have h1 := Int.mul_ediv_add_emod x y
  have h2 := Int.emod_nonneg x (Int.ne_of_gt hy)
  have h3 := Int.emod_lt_of_pos x hy
  omega
theorem Bd.div {n : Nat} {x y : Int} (hy : 0 < y) (g : Bd n x) : Bd n (x / y) := by
  unfold Bd at *
  refine Nat.lt_of_le_of_lt ?_ g
  obtain ⟨h1, h2⟩ := div_bounds x y hy
  rcases Int.lt_or_le (x / y) 0 with h | h
  · -- q < 0: x < y q + y = y (q + 1) <= q + 1
    have h3 : y * (x / y + 1) ≤ 1 * (x / y + 1) := Int.mul_le_mul_of_nonpos_right (by omega) (by omega)
    rw [Int.mul_add, Int.mul_one, Int.one_mul] at h3
    omega
  · have h3 : 1 * (x / y) ≤ y * (x / y) := Int.mul_le_mul_of_nonneg_right (by omega) h
    rw [Int.one_mul] at h3
    omega
theorem gcd_step (a b : Int) : Int.gcd b (a % b) = Int.gcd a b := by
  apply Nat.dvd_antisymm
  · apply Int.dvd_gcd
    · have h1 : ((Int.gcd b (a % b) : Nat) : Int) ∣ b := Int.gcd_dvd_left ..
      have h2 : ((Int.gcd b (a % b) : Nat) : Int) ∣ a % b := Int.gcd_dvd_right ..
      have h3 := Int.mul_ediv_add_emod a b
      have h4 := Int.dvd_add (Int.dvd_trans h1 (Int.dvd_mul_right b (a / b))) h2
      rw [h3] at h4
      exact h4
    · exact Int.gcd_dvd_left ..
  · apply Int.dvd_gcd
    · exact Int.gcd_dvd_right ..
    · have h1 : ((Int.gcd a b : Nat) : Int) ∣ a := Int.gcd_dvd_left ..
      have h2 : ((Int.gcd a b : Nat) : Int) ∣ b := Int.gcd_dvd_right ..
      have h3 := Int.mul_ediv_add_emod a b
      have h4 : a % b = a - b * (a / b) := by omega
      rw [h4]
      exact Int.dvd_sub h1 (Int.dvd_trans h2 (Int.dvd_mul_right b (a / b)))
theorem gcd_pos {a b : Int} (hb : 0 < b) : 0 < ((Int.gcd a b : Nat) : Int) := by
  have : 0 < Int.gcd a b := Int.gcd_pos_of_ne_zero_right a (Int.ne_of_gt hb)
  omega
theorem gcd_le {a b : Int} (hb : 0 < b) : ((Int.gcd a b : Nat) : Int) ≤ b :=
  Int.le_of_dvd hb (Int.gcd_dvd_right ..)
end My

namespace My
noncomputable def sg (t m : Int) : Int := if m < 0 then -((Int.gcd t m : Nat) : Int) else ((Int.gcd t m : Nat) : Int)
theorem sg_ne {t m : Int} (hm : m ≠ 0) : sg t m ≠ 0 := by
  have h : 0 < Int.gcd t m := Int.gcd_pos_of_ne_zero_right t hm
  unfold sg
  split <;> omega
theorem sg_dvd_left (t m : Int) : sg t m ∣ t := by
  unfold sg
  split
  · exact Int.neg_dvd.mpr (Int.gcd_dvd_left ..)
  · exact Int.gcd_dvd_left ..
theorem sg_dvd_right (t m : Int) : sg t m ∣ m := by
  unfold sg
  split
  · exact Int.neg_dvd.mpr (Int.gcd_dvd_right ..)
  · exact Int.gcd_dvd_right ..
theorem fdiv_mul {a b : Int} (hb : b ≠ 0) (h : b ∣ a) : a.fdiv b * b = a := Int.fdiv_mul_cancel h
theorem natAbs_sg (t m : Int) : (sg t m).natAbs = Int.gcd t m := by
  unfold sg
  split
  · rw [Int.natAbs_neg, Int.natAbs_natCast]
  · rw [Int.natAbs_natCast]
structure Made (t m a b : Int) : Prop where
  pos : 0 < b
  low : Int.gcd a b = 1
  same : a * m = t * b
  ba : a.natAbs ≤ t.natAbs
  bb : b.natAbs ≤ m.natAbs
theorem made_of {t m : Int} (hm : m ≠ 0) : Made t m (t.fdiv (sg t m)) (m.fdiv (sg t m)) := by
  have hs := sg_ne (t := t) hm
  have e1 := fdiv_mul hs (sg_dvd_left t m)
  have e2 := fdiv_mul hs (sg_dvd_right t m)
  have hg : 0 < Int.gcd t m := Int.gcd_pos_of_ne_zero_right t hm
  generalize ha : t.fdiv (sg t m) = a at *
  generalize hb : m.fdiv (sg t m) = b at *
  have n1 : a.natAbs * Int.gcd t m = t.natAbs := by rw [← natAbs_sg, ← Int.natAbs_mul, e1]
  have n2 : b.natAbs * Int.gcd t m = m.natAbs := by rw [← natAbs_sg, ← Int.natAbs_mul, e2]
  refine ⟨?_, ?_, ?_, ?_, ?_⟩
  · -- sign
    unfold sg at e2
    by_cases h : m < 0
    · rw [if_pos h, Int.mul_neg] at e2
      rcases Int.lt_or_le 0 b with q | q
      · exact q
      · have := Int.mul_nonpos_of_nonpos_of_nonneg q (show (0 : Int) ≤ ((Int.gcd t m : Nat) : Int) by omega)
        omega
    · rw [if_neg h] at e2
      rcases Int.lt_or_le 0 b with q | q
      · exact q
      · have := Int.mul_nonpos_of_nonpos_of_nonneg q (show (0 : Int) ≤ ((Int.gcd t m : Nat) : Int) by omega)
        omega
  · have q : Int.gcd a b * Int.gcd t m = Int.gcd t m := by
      have h := Nat.gcd_mul_right a.natAbs (Int.gcd t m) b.natAbs
      rw [n1, n2] at h
      exact h.symm
    exact Nat.eq_of_mul_eq_mul_right hg (by rw [q, Nat.one_mul])
  · have q : a * m = a * (b * sg t m) := by rw [e2]
    have q2 : t * b = a * sg t m * b := by rw [e1]
    rw [q, q2, Int.mul_assoc, Int.mul_comm b]
  · rw [← n1]; exact Nat.le_mul_of_pos_right _ hg
  · rw [← n2]; exact Nat.le_mul_of_pos_right _ hg
end My

namespace L2
open PySem PySem.Spec PyProof.Rows


abbrev Mid (x : Int) : Prop := My.Bd 4000 x
section
variable {X : Cx}
theorem op_mulB : OpR X (binaryOp .Mult) (rI (fun i j => Mid i ∧ Mid j) fun i j => .int (i * j)) := opI fun _ _ _ _ _ _ _ hc q =>
  mul_int q (IntMulOk.of_le (PySem.intBits_le_iff.mpr hc.1) (PySem.intBits_le_iff.mpr hc.2) (by decide))
theorem log2_of_Mid {j : Int} (h : Mid j) : j.natAbs.log2 < 9000 := by
  by_cases h0 : j.natAbs = 0
  · rw [h0]; decide +kernel
  · have h1 : j.natAbs.log2 < 4000 := (Nat.log2_lt h0).mpr h
    omega
theorem op_fdivB : OpR X (binaryOp .FloorDiv) (rI (fun _ j => 0 < j ∧ Mid j) fun i j => .int (i / j)) := opI fun i j _ _ _ _ _ hc q => by
  have h1 : (0 : Int) < j := hc.1
  exact floordiv_int (by omega) (by rw [Int.fdiv_eq_ediv_of_nonneg i (by omega)]; exact q) (.inl (PyProof.noPylong_of_log2 (log2_of_Mid hc.2)))
end

theorem bt_int : bootBuiltins "int" = some (.type "int") := by decide +kernel
theorem bt_list : bootBuiltins "list" = some (.type "list") := by decide +kernel
theorem bt_tuple : bootBuiltins "tuple" = some (.type "tuple") := by decide +kernel
theorem bt_abs : bootBuiltins "abs" = some (.builtin "abs") := by decide +kernel
theorem bt_isinstance : bootBuiltins "isinstance" = some (.builtin "isinstance") := by decide +kernel
inductive Tg where
  | non | bl | int | str | tup | lst | dic
noncomputable def tgIs (K : PySem.W.Frag) (H : Hp) : V → Tg → Prop
  | .non, .non => True
  | .bl _, .bl => True
  | .int _, .int => True
  | .str _, .str => True
  | .ref a, .tup => ∃ xs, SqT K H a xs
  | .ref a, .lst => ∃ xs, SqL K H a xs
  | .ref a, .dic => ∃ kvs, H a = some (.dK kvs)
  | _, _ => False
noncomputable def Tg.isInt : Tg → Bool
  | .int => true | .bl => true | _ => false
noncomputable def Tg.isBool : Tg → Bool
  | .bl => true | _ => false
noncomputable def Tg.isStr : Tg → Bool
  | .str => true | _ => false
noncomputable def Tg.isTup : Tg → Bool
  | .tup => true | _ => false
noncomputable def Tg.isLst : Tg → Bool
  | .lst => true | _ => false
noncomputable def rIsi (K : PySem.W.Frag) (n : String) (f : Tg → Bool) : List V → Hp → VK → Prop := fun xs H Q => ∃ x g, xs = [x, .ty n] ∧ tgIs K H x g ∧ Q (.bl (f g)) H
section
variable {X : Cx}
theorem isi_of {n : String} {f : Tg → Bool}
    (h1 : ∀ {A : Around} {E : Value → Shared → Prop} {s : Shared} {Q : Value → Shared → Prop}, (∀ t, Q (.bool (f .non)) { s with toks := t }) → wpAny (model X.prog X.w) A (call (.builtin "isinstance") [.none, .type n]) Q E s)
    (h2 : ∀ {A : Around} {E : Value → Shared → Prop} {s : Shared} {Q : Value → Shared → Prop} {b : Bool}, (∀ t, Q (.bool (f .bl)) { s with toks := t }) → wpAny (model X.prog X.w) A (call (.builtin "isinstance") [.bool b, .type n]) Q E s)
    (h3 : ∀ {A : Around} {E : Value → Shared → Prop} {s : Shared} {Q : Value → Shared → Prop} {b : Int} {u : Tok}, (∀ t, Q (.bool (f .int)) { s with toks := t }) → wpAny (model X.prog X.w) A (call (.builtin "isinstance") [.int b u, .type n]) Q E s)
    (h4 : ∀ {A : Around} {E : Value → Shared → Prop} {s : Shared} {Q : Value → Shared → Prop} {b : Str} {u : Tok}, (∀ t, Q (.bool (f .str)) { s with toks := t }) → wpAny (model X.prog X.w) A (call (.builtin "isinstance") [.str b u, .type n]) Q E s)
    (h5 : ∀ {A : Around} {E : Value → Shared → Prop} {s : Shared} {Q : Value → Shared → Prop} {a : Addr} {o : Obj}, s.heap.get? a = some o → o.cls = .type "tuple" → (∀ t, Q (.bool (f .tup)) { s with toks := t }) → wpAny (model X.prog X.w) A (call (.builtin "isinstance") [.ref a, .type n]) Q E s)
    (h6 : ∀ {A : Around} {E : Value → Shared → Prop} {s : Shared} {Q : Value → Shared → Prop} {a : Addr} {o : Obj}, s.heap.get? a = some o → o.cls = .type "list" → (∀ t, Q (.bool (f .lst)) { s with toks := t }) → wpAny (model X.prog X.w) A (call (.builtin "isinstance") [.ref a, .type n]) Q E s)
    (h7 : ∀ {A : Around} {E : Value → Shared → Prop} {s : Shared} {Q : Value → Shared → Prop} {a : Addr} {o : Obj}, s.heap.get? a = some o → o.cls = .type "dict" → (∀ t, Q (.bool (f .dic)) { s with toks := t }) → wpAny (model X.prog X.w) A (call (.builtin "isinstance") [.ref a, .type n]) Q E s) :
    CallR X (.builtin "isinstance") (rIsi X.K n f) := by
  intro pins s σ H xs us Q I r h
  obtain ⟨x, g, rfl, e, q⟩ := h
  obtain ⟨u, w, rfl, rx, rw'⟩ := vals2 r
  cases rw'
  have fin : ∀ k : Bool, Q (.bl k) H → ∀ t, EP X pins σ Q (.bool k) { s with toks := t } := fun k q t => ⟨.bl k, H, I.tok t, rfl, q⟩
  cases x with
  | non => cases g <;> first | exact (show False from e).elim | (cases rx; exact h1 (fin _ q))
  | bl b => cases g <;> first | exact (show False from e).elim | (cases rx; exact h2 (fin _ q))
  | int i => cases g <;> first | exact (show False from e).elim | (obtain ⟨t, rfl⟩ := rx; exact h3 (fin _ q))
  | str y => cases g <;> first | exact (show False from e).elim | (obtain ⟨t, rfl⟩ := rx; exact h4 (fin _ q))
  | ref a =>
    cases rx
    cases g with
    | tup =>
      obtain ⟨xs, hx⟩ := (show ∃ xs, SqT X.K H a xs from e)
      obtain ⟨its, _, ⟨o, ho, hc, _⟩, _⟩ := I.tuple hx
      exact h5 ho hc (fin _ q)
    | lst =>
      obtain ⟨xs, hx⟩ := (show ∃ xs, SqL X.K H a xs from e)
      obtain ⟨its, _, ⟨o, n, ho, hc, _⟩, _⟩ := I.list hx
      exact h6 ho hc (fin _ q)
    | dic =>
      obtain ⟨kvs, hx⟩ := (show ∃ kvs, H a = some (.dK kvs) from e)
      obtain ⟨_, _, vs, _, o, es, ep, ho, hc, _⟩ := (show ObjOk X.prog X.w H s.heap a (.dK kvs) from I.hok a _ hx)
      exact h7 ho hc.1 (fin _ q)
    | non => exact (show False from e).elim
    | bl => exact (show False from e).elim
    | int => exact (show False from e).elim
    | str => exact (show False from e).elim
  | _ => exact (show False from e).elim
theorem isi_list : CallR X (.builtin "isinstance") (rIsi X.K "list" Tg.isLst) := isi_of (fun q => IsiPair.NoneType_list (q _)) (fun q => IsiPair.bool_list (q _)) (fun q => IsiPair.int_list (q _)) (fun q => IsiPair.str_list (q _))
  (fun ho hc q => call_isinstance (isinstance_false_tuple (by decide) PySem.F.isi_meta_list PySem.F.sub_tuple_list) ⟨⟨_, ho, hc⟩, q _⟩) (fun ho hc q => call_isinstance (isinstance_true (Tx := "list") PySem.F.isi_meta_list PySem.F.sub_list_list) ⟨⟨_, ho, hc⟩, q _⟩) (fun ho hc q => call_isinstance (isinstance_false_dict (by decide) PySem.F.isi_meta_list PySem.F.sub_dict_list) ⟨⟨_, ho, hc⟩, q _⟩)
theorem pe_isi {e : Expr} {te : TE} {n : Str} {T : String} {f : Tg → Bool} {p p2 pos : Pos} (hc : CallR X (.builtin "isinstance") (rIsi X.K T f)) (hg : Gl X "isinstance") (hg2 : Gl X n) (hm : X.mg "isinstance" = none) (hm2 : X.mg n = none) (hb : bootBuiltins n = some (.type T)) (he : PE X e te)
    (hn : n ≠ "__name__" := by decide) (hd : (n == ("__debug__" : Str)) = false := by decide)
    (hs1 : starEach [e, .Name n p2] X.env = (false, eval e X.env) :: starEach [.Name n p2] X.env := by rfl) (hs2 : starEach [.Name n p2] X.env = (false, eval (.Name n p2) X.env) :: starEach [] X.env := by rfl)
    (hpl : (backTo pos (starEach [.Name n p2] X.env)).any (·.1) = false := by rfl) :
    PE X (.Call (.Name "isinstance" p) [e, .Name n p2] [] pos) (tCB (rIsi X.K T f) (tCons te (tCons (tC (.ty T)) tNil))) :=
  pe_callB hc hg hm bt_isinstance (pa_cons he (pa_cons (pe_bltn (v := .ty T) hg2 hm2 hb rfl hn hd) pa_nil hs2) hs1) (by decide) (by decide) hs1 hpl
end

noncomputable def Itr3 (lo c : Int) (n : Nat) : It := ⟨fun i _ => i < n, fun i H x H' => H' = H ∧ x = .int (lo + (i : Nat) * c), fun i _ => n ≤ i⟩
noncomputable def rngN (i j c : Int) : Nat := (Builtin.Range.rangeSize i j c).toNat
noncomputable def iRng3 (ta : TA) : TI := fun σ H R => ta σ H fun vs H1 => ∃ i j c : Int, vs = [.int i, .int j, .int c] ∧ 0 < c ∧ c < 1073741824 ∧ Builtin.Range.small i j c = true ∧ R (Itr3 i c (rngN i j c)) H1
section
variable {X : Cx} {tg : Expr}
end
theorem Same.new {H : Hp} {p : Addr} (h : H p = none) (o : HO) : Same H (upd H p o) := fun b u q => by rw [upd_ne (ne_of_none q h)]; exact q
theorem Same.tup {K : PySem.W.Frag} {H H' : Hp} {a : Addr} {xs : List V} (e : Same H H') (h : SqT K H a xs) : SqT K H' a xs := by
  rcases h with (h | ⟨o, h⟩) | h
  · exact .inl (.inl (e _ _ h))
  · exact .inl (.inr ⟨o, e _ _ h⟩)
  · exact .inr h
structure FunD (K : PySem.W.Frag) (x qual : Str) (st : Stmt) (f : Addr) (fd : FuncData) : Prop where
  ex : ∃ (oc : Value) (od : Option Addr) (dV kV doc pm : Value) (an : Option Addr) (cdv ct : Value) (osl : Array (Option Value)),
    fd = PySem.W.fnOf x qual (defArgs st) (defBody st) (defScope st) dV kV doc pm an cdv ct ∧ K.lookup f = some ⟨oc, od, .func fd, osl⟩ ∧ PySem.W.codeIn K cdv qual = true
  kp : PySem.W.keepIn K (.ref f) = true
theorem Fun.toD {K : PySem.W.Frag} {x qual : Str} {st : Stmt} {f : Addr} {fd : FuncData} (F : Fun K x qual st f fd) : FunD K x qual st f fd := by
  obtain ⟨oc, od, kV, doc, pm, an, cdv, ct, osl, e, l, c⟩ := F.ex
  exact ⟨⟨oc, od, .none, kV, doc, pm, an, cdv, ct, osl, e, l, c⟩, F.kp⟩
section
variable {X : Cx}
end
end L2

namespace PySem
theorem Obj.dict_mapFields (o : Obj) (f : Array Value → Array Value) : (Obj.mapFields f o).dict = o.dict := by
  obtain ⟨c, d, dt, sl⟩ := o
  cases dt <;> rfl
noncomputable def Heap.TrX (h base : Heap) (e : Addr) (cls : Value) (dx : Option Addr) (fl : Value) : Prop :=
  ∃ (x : Obj) (vs : Array Value) (T : Addr) (y : Obj) (ts : Array Value), h.get? e = some x ∧ (x.cls = cls ∧ x.dict = dx ∧ (dx = none → vs[2]? = some .none)) ∧ x.data = .fields vs ∧ vs[1]? = some (.ref T) ∧ base.get? T = none ∧ T ≠ e ∧
    h.get? T = some y ∧ y.data = .fields ts ∧ ts[3]? = some fl
noncomputable def Heap.OnX (base : Heap) (l : List Env) (e : Addr) (cls : Value) (dx : Option Addr) (fl : Value) (h : Heap) : Prop := base.StaysIn h ∧ base.get? e = none ∧ h.FunFrames base l ∧ h.TrX base e cls dx fl
abbrev Heap.FlyX (base : Heap) (l : List Env) (e : Addr) (cls : Value) (dx : Option Addr) (h : Heap) : Prop := Heap.OnX base l e cls dx .none h
section
variable {M : Model} {A : Around} {E : Value → Shared → Prop} {s : Shared} {base : Heap} {env : Env} {outer l : List Env} {L e : Addr} {cls : Value} {dx : Option Addr} {Q : Unit → Shared → Prop}
theorem Heap.OnX.there {h : Heap} {fl : Value} (z : Heap.OnX base l e cls dx fl h) : ∃ ob, h.get? e = some ob ∧ ob.cls = cls := by
  obtain ⟨_, _, _, x, _, _, _, _, he, hc, _⟩ := z
  exact ⟨x, he, hc.1⟩
theorem noteX {x : Obj} {vs : Array Value} {head : Value} {more : Bool} (hA : A.frames = some (env :: outer)) (hF : s.heap.FunFrames base (env :: outer)) (hL : env.frame = some L)
    (hx : s.heap.get? e = some x) (hB : base.StaysIn s.heap) (hn : base.get? e = none) (hv : x.data = .fields vs) (h2 : 1 < vs.size) (hc2 : x.dict = none → vs[2]? = some .none)
    (k : ∀ h', Heap.OnX base (env :: outer) e x.cls x.dict (rawInt L) h' → s.heap.UpToSlots h' → Q () { s with heap := h' }) :
    wpAny M A (do let a ← frameOf env; let pl ← entryPlaceOf L more; let b ← EntryCells.newEntry head a .none (rawInt L) .none pl; setField (.ref e) 1 b) Q E s := by
  have out : e ∉ (env :: outer).filterMap (·.frame) := fun z => by
    obtain ⟨_, o, ho, hnf⟩ := hF.mem z
    rw [hx] at ho; cases ho; exact hnf vs hv
  refine wpAny_bind (wpAny_frameOf_fun hA hF hL fun g sg => ?_)
  refine wpAny_bind (wpAny_entryPlaceOf fun pl hpl => ?_)
  unfold EntryCells.newEntry newFields
  refine wpAny_bind (wpAny_newObj_type ?_ (hpl.sizeOk5 _ _ _ _ _))
  have x1 : g.get? e = some x := (sg.2.1 e out).trans hx
  have B1 : base.StaysIn g := fun b o q => (sg.2.1 b fun z => by rw [(hF.mem z).1] at q; cases q).trans (hB b o q)
  have x2 := Heap.get?_push_of_some (h := g) { cls := .type "traceback", dict := none, data := .fields ([head, .ref L, .none, rawInt L, .none] ++ (if pl.isEmpty then List.replicate 6 Value.none else pl)).toArray } x1
  refine wpAny_setField x2 hv h2 (k _ ?_ ?_)
  all_goals have neT : g.objs.size ≠ e := Nat.ne_of_gt (Heap.lt_size x1)
  all_goals have kp : ∀ b o, b ≠ e → g.get? b = some o → ((g.push { cls := .type "traceback", dict := none, data := .fields ([head, .ref L, .none, rawInt L, .none] ++ (if pl.isEmpty then List.replicate 6 Value.none else pl)).toArray }).update e (Obj.mapFields (·.setIfInBounds 1 (Value.ref g.objs.size)))).get? b = some o := fun b o hb q => (Heap.get?_update_other _ _ (Ne.symm hb)).trans (Heap.get?_push_of_some _ q)
  all_goals have nr : ∀ b o, s.heap.get? b = some o → (∀ vs, o.data ≠ .fields vs) → b ≠ e := fun b o q hnf z => by rw [z, hx] at q; cases q; exact hnf vs hv
  · have hv3 := Obj.data_mapFields hv (·.setIfInBounds 1 (Value.ref g.objs.size))
    refine ⟨fun b o q => kp b o (fun z => by rw [z, hn] at q; cases q) (B1 b o q), hn, hF.of_keeps fun b o q hnf => ?_, ?_⟩
    · obtain ⟨sl, q2⟩ := sg.2.2 b o q
      exact ⟨_, kp b _ (nr b o q hnf) q2, rfl⟩
    · exact ⟨_, _, g.objs.size, _, _, Heap.get?_update_self _ x2 (Obj.isFreed_of_fields hv3), ⟨Obj.cls_mapFields _ _, Obj.dict_mapFields _ _, fun z => by rw [Array.getElem?_setIfInBounds_ne (by decide)]; exact hc2 z⟩, hv3, by simp [h2], B1.fresh, neT, (Heap.get?_update_other _ _ (Ne.symm neT)).trans (Heap.get?_push_size g rfl), rfl, by
        first | (simp; done) | (rcases hpl with rfl | ⟨_, _, _, _, _, _, _, rfl⟩ <;> simp)⟩
  · intro b o q hnf
    obtain ⟨sl, q2⟩ := sg.2.2 b o q
    exact ⟨sl, kp b _ (nr b o q hnf) q2⟩
theorem looksX (hA : A.frames = some (env :: outer)) (hL : env.frame = some L) (z : Heap.FlyX base (env :: outer) e cls dx s.heap)
    (k : ∀ h', Heap.OnX base (env :: outer) e cls dx (rawInt L) h' → s.heap.UpToSlots h' → Q () { s with heap := h' }) : wpAny M A (noteFrame (.ref e) env) Q E s := by
  obtain ⟨hB, hn, hF, x, vs, T, y, ts, hx, ⟨hc, hd, hc2⟩, hv, h1, nT, Te, hT, hy, h3⟩ := z
  subst hc hd
  unfold noteFrame
  simp only [hL]
  refine wpAny_bind (wpAny_field hx hv h1 ?_)
  rw [if_pos (show (Value.ref T != Value.none) = true from by simp)]
  refine wpAny_bind (wpAny_field hT hy h3 ?_)
  rw [if_neg (show ¬ ((Value.none == rawInt L) = true) from by simp [rawInt])]
  refine wpAny_bind (wpAny_setField hT hy (Array.getElem?_eq_some_iff.mp h3).1 ?_)
  have ot : ∀ b, b ≠ T → (s.heap.update T (Obj.mapFields (·.setIfInBounds 3 Value.none))).get? b = s.heap.get? b := fun b hb => Heap.get?_update_other _ _ (Ne.symm hb)
  have nr : ∀ b o, s.heap.get? b = some o → (∀ vs, o.data ≠ .fields vs) → b ≠ T := fun b o q hnf z => by rw [z, hT] at q; cases q; exact hnf ts hy
  exact noteX (s := { s with heap := s.heap.update T (Obj.mapFields (·.setIfInBounds 3 Value.none)) }) hA (hF.of_keeps fun b o q hnf => ⟨o, (ot b (nr b o q hnf)).trans q, rfl⟩) hL ((ot e (Ne.symm Te)).trans hx)
    (fun b o q => (ot b fun z => by rw [z, nT] at q; cases q).trans (hB b o q)) hn hv (Array.getElem?_eq_some_iff.mp h1).1 hc2 fun h' z us => k h' z fun b o q hnf => us b o ((ot b (nr b o q hnf)).trans q) hnf
theorem landsX {fl : Value} (z : Heap.OnX base l e cls dx fl s.heap) (k : ∀ h', Heap.FlyX base l e cls dx h' → s.heap.UpToSlots h' → Q () { s with heap := h' }) : wpAny M A (setFlight (.ref e) none) Q E s := by
  obtain ⟨hB, hn, hF, x, vs, T, y, ts, hx, hc, hv, h1, nT, Te, hT, hy, h3⟩ := z
  have ot : ∀ b, b ≠ T → (s.heap.update T (Obj.mapFields (·.setIfInBounds 3 ((none : Option Addr).elim Value.none fun f => rawInt f)))).get? b = s.heap.get? b := fun b hb => Heap.get?_update_other _ _ (Ne.symm hb)
  have nr : ∀ b o, s.heap.get? b = some o → (∀ vs, o.data ≠ .fields vs) → b ≠ T := fun b o q hnf z => by rw [z, hT] at q; cases q; exact hnf ts hy
  have sz := (Array.getElem?_eq_some_iff.mp h3).1
  unfold setFlight
  refine wpAny_bind (wpAny_field hx hv h1 ?_)
  rw [if_pos (show (Value.ref T != Value.none) = true from by simp)]
  refine wpAny_setField hT hy sz (k _ ⟨fun b o q => (ot b fun z => by rw [z, nT] at q; cases q).trans (hB b o q), hn, hF.of_keeps fun b o q hnf => ⟨o, (ot b (nr b o q hnf)).trans q, rfl⟩,
    x, vs, T, _, _, (ot e (Ne.symm Te)).trans hx, hc, hv, h1, nT, Te, Heap.get?_update_self _ hT (Obj.isFreed_of_fields (Obj.data_mapFields hy _)), Obj.data_mapFields hy _, by simp [sz]⟩
    fun b o q hnf => ⟨o.slots, (ot b (nr b o q hnf)).trans q⟩)
theorem leavesX (hA : A.frames = some (env :: outer)) (hL : env.frame = some L) (z : Heap.FlyX base (env :: outer) e cls dx s.heap)
    (k : ∀ h', Heap.FlyX base outer e cls dx h' → s.heap.UpToSlots h' → Q () { s with heap := h' }) : wpAny M A (leaving env (.ref e)) Q E s := by
  unfold leaving
  refine wpAny_bind (looksX hA hL z fun h1 z1 u1 => ?_)
  refine landsX (s := { s with heap := h1 }) z1 fun h2 z2 u2 => ?_
  obtain ⟨k1, k2, ⟨_, _, k3⟩, k4⟩ := z2
  exact k h2 ⟨k1, k2, k3, k4⟩ (u1.trans u2)
theorem leavesNewX {x : Obj} {vs : Array Value} (hA : A.frames = some (env :: outer)) (hL : env.frame = some L) (hB : base.StaysIn s.heap) (hF : s.heap.FunFrames base (env :: outer)) (hx : s.heap.get? e = some x) (hn : base.get? e = none) (hv : x.data = .fields vs) (h1 : vs[1]? = some .none) (hc2 : x.dict = none → vs[2]? = some .none)
    (k : ∀ h', Heap.FlyX base outer e x.cls x.dict h' → s.heap.UpToSlots h' → Q () { s with heap := h' }) : wpAny M A (leaving env (.ref e)) Q E s := by
  unfold leaving noteFrame
  simp only [hL]
  refine wpAny_bind (wpAny_bind (wpAny_field hx hv h1 ?_))
  rw [if_neg (by decide)]
  refine noteX hA hF hL hx hB hn hv (Array.getElem?_eq_some_iff.mp h1).1 hc2 fun g1 z1 u1 => ?_
  refine landsX (s := { s with heap := g1 }) z1 fun g2 z2 u2 => ?_
  obtain ⟨k1, k2, ⟨_, _, k3⟩, k4⟩ := z2
  exact k g2 ⟨k1, k2, k3, k4⟩ (u1.trans u2)
end
end PySem
namespace L2
open PySem PySem.Spec PyProof.Rows

noncomputable def CXe (P : Program) (w : World) : CXT := fun outer H s E e s' => ∃ (a C : Addr) (dx : Option Addr) (H' : Hp) (B : Heap),
  e = .ref a ∧ s'.os = s.os ∧ AllBare s'.gens ∧ Un (frs outer) [] H H' s.heap s'.heap ∧ HOk P w H' B ∧ Heap.FlyX B outer a (.ref C) dx s'.heap ∧
  (∀ b o, s.heap.get? b = some o → H b = none → b ∉ frs outer → B.get? b = some o) ∧ (∀ b o, s.heap.get? b = some o → b ∉ frs outer → ∃ o', B.get? b = some o') ∧ E (.ref C) dx H'

section
variable {P : Program} {w : World} {K : PySem.W.Frag} {mg : Str → Option Value} {base : Heap} {N : List Str} {qual : Str} {scope : Scope} {f : Addr} {cd : Value} {A : Around} {outer : List Env} {s : Shared} {H : Hp} {E : XK}
  {pins : List (Addr × Obj)} {σ : St} {H1 : Hp} {s1 : Shared}
theorem frs_own {CX : CXT} {b : Addr} : b ∈ frs (cxOf CX P w K mg base N qual scope f cd A outer s H E).stack ↔ b = s.heap.objs.size ∨ b ∈ frs outer := by
  show b ∈ (envOfC qual scope s.heap.objs.size f cd :: outer).filterMap (·.frame) ↔ _
  rw [List.filterMap_cons]
  exact List.mem_cons
theorem raises_cx {h' : Heap} {e C : Addr} {vs : List Value} (I : Inv (cxOf (CXe P w) P w K mg base N qual scope f cd A outer s H E) pins σ H1 s1) (hx : Heap.MadeExcOf s1.heap h' e (.ref C) vs) (q : E (.ref C) none H1) :
    (cxOf (CXe P w) P w K mg base N qual scope f cd A outer s H E).xe (.ref e) { s1 with heap := h' } := by
  have hin : ∀ env ∈ (cxOf (CXe P w) P w K mg base N qual scope f cd A outer s H E).stack, ∀ b, env.frame = some b → b ∈ frs (cxOf (CXe P w) P w K mg base N qual scope f cd A outer s H E).stack := fun env he b hb => List.mem_filterMap.mpr ⟨env, he, hb⟩
  have toB : ∀ b o, s1.heap.get? b = some o → b ∉ frs (cxOf (CXe P w) P w K mg base N qual scope f cd A outer s H E).stack → (PySem.W.hideAll s1.heap (frs (cxOf (CXe P w) P w K mg base N qual scope f cd A outer s H E).stack)).get? b = some o := fun b o e n => PySem.W.hideAll_get _ e n
  have hl := PySem.W.funFrames_hide (as := frs (cxOf (CXe P w) P w K mg base N qual scope f cd A outer s H E).stack) I.stack hin
  have nstk : ∀ b o, s.heap.get? b = some o → b ∉ frs outer → b ∉ frs (cxOf (CXe P w) P w K mg base N qual scope f cd A outer s H E).stack := fun b o e n z => by
    rcases frs_own.mp z with z | z
    · rw [z] at e
      exact absurd (Heap.lt_size e) (Nat.lt_irrefl _)
    · exact n z
  have hB : HOk P w H1 (PySem.W.hideAll s1.heap (frs (cxOf (CXe P w) P w K mg base N qual scope f cd A outer s H E).stack)) := fun b u eu => (I.hok b u eu).stay (fun c v hc q => toB c v q fun z => by
    have n := I.stkFree c z
    rcases hc with hc | hc
    · rw [hc, eu] at n; cases n
    · rw [hc] at n; cases n) (fun _ q => q) fun _ _ q => q
  obtain ⟨tt, hmade, _, _⟩ := hx.there
  have fresh : (PySem.W.hideAll s1.heap (frs (cxOf (CXe P w) P w K mg base N qual scope f cd A outer s H E).stack)).get? e = none := by
    cases z : (PySem.W.hideAll s1.heap (frs (cxOf (CXe P w) P w K mg base N qual scope f cd A outer s H E).stack)).get? e with
    | none => rfl
    | some o => have := PySem.W.of_hideAll _ z; rw [hx.new] at this; cases this
  refine leavesNewX (base := PySem.W.hideAll s1.heap (frs (cxOf (CXe P w) P w K mg base N qual scope f cd A outer s H E).stack)) (s := { s1 with heap := h' }) I.ok.frames rfl (fun b o q => hx.keeps b o (PySem.W.of_hideAll _ q)) (hl.of_keeps fun b o q _ => ⟨o, hx.keeps b o q, rfl⟩) hmade fresh rfl rfl (fun _ => rfl) fun h2 fl us => ?_
  refine ⟨e, C, none, H1, _, rfl, I.os, I.bare, ?_, hB, fl, ?_, ?_, q⟩
  · have cs : ∀ b ∈ frs outer, ∀ o, s1.heap.get? b = some o → ∃ sl, h2.get? b = some { o with slots := sl } := fun b hb o e => by
      obtain ⟨_, o', e', hd⟩ := I.funs.mem hb
      rw [e] at e'; cases e'
      exact us b o (hx.keeps b o e) hd
    exact {
      keep := fun b o e n hb _ => fl.1 b o (toB b o (I.base.keep b o e n hb (by exact fun z => nomatch z)) (nstk b o e hb))
      slot := fun b o e n hb _ => by
        obtain ⟨sl, e1⟩ := I.base.slot b o e n hb (by exact fun z => nomatch z)
        obtain ⟨sl', e2⟩ := cs b hb _ e1
        exact ⟨sl', e2⟩
      free := fun b o e n _ => I.base.free b o e n (by exact fun z => nomatch z)
      there := fun b o e _ => by
        obtain ⟨o', e1⟩ := I.base.there b o e (by exact fun z => nomatch z)
        by_cases hb : b ∈ frs outer
        · obtain ⟨sl, e2⟩ := cs b hb _ e1
          exact ⟨_, e2⟩
        · exact ⟨o', fl.1 b o' (toB b o' e1 (nstk b o e hb))⟩
      tups := I.base.tups
      frzs := I.base.frzs
      tbls := I.base.tbls }
  · exact fun b o e n hb => toB b o (I.base.keep b o e n hb (by exact fun z => nomatch z)) (nstk b o e hb)
  · intro b o e hb
    obtain ⟨o', e1⟩ := I.base.there b o e (by exact fun z => nomatch z)
    exact ⟨o', toB b o' e1 (nstk b o e hb)⟩
theorem passes_on : Passes (CXe P w) (cxOf (CXe P w) P w K mg base N qual scope f cd A outer s H E) E := by
  intro pins σ H1 s1 e s' I cx
  obtain ⟨a, C, dx, H', B, rfl, os, bare, un, hB, fl, kU, kT, q⟩ := cx
  have nstk : ∀ b o, s.heap.get? b = some o → b ∉ frs outer → b ∉ frs (cxOf (CXe P w) P w K mg base N qual scope f cd A outer s H E).stack := fun b o e n z => by
    rcases frs_own.mp z with z | z
    · rw [z] at e
      exact absurd (Heap.lt_size e) (Nat.lt_irrefl _)
    · exact n z
  have sub : ∀ b ∈ frs outer, b ∈ frs (cxOf (CXe P w) P w K mg base N qual scope f cd A outer s H E).stack := fun b hb => frs_own.mpr (.inr hb)
  have ff : s'.heap.FunFrames B (cxOf (CXe P w) P w K mg base N qual scope f cd A outer s H E).stack := fl.2.2.1
  refine leavesX (s := s') I.ok.frames rfl fl fun h2 fl2 us => ?_
  have cs : ∀ b ∈ frs outer, ∀ o, s'.heap.get? b = some o → ∃ sl, h2.get? b = some { o with slots := sl } := fun b hb o e => by
    obtain ⟨_, o', e', hd⟩ := ff.mem (sub b hb)
    rw [e] at e'; cases e'
    exact us b o e hd
  have no : ∀ b : Addr, b ∉ ([] : List Addr) := fun b z => nomatch z
  refine ⟨a, C, dx, H', B, rfl, os.trans I.os, bare, ?_, hB, fl2, ?_, ?_, q⟩
  · exact {
      keep := fun b o e n hb _ => fl2.1 b o (kU b o (I.base.keep b o e n hb (no b)) (I.base.free b o e n (no b)) (nstk b o e hb))
      slot := fun b o e n hb _ => by
        obtain ⟨sl, e1⟩ := I.base.slot b o e n hb (no b)
        obtain ⟨sl', e2⟩ := un.slot b _ e1 (I.base.free b o e n (no b)) (sub b hb) (no b)
        obtain ⟨sl'', e3⟩ := cs b hb _ e2
        exact ⟨sl'', e3⟩
      free := fun b o e n _ => by
        obtain ⟨o', e1⟩ := I.base.there b o e (no b)
        exact un.free b o' e1 (I.base.free b o e n (no b)) (no b)
      there := fun b o e _ => by
        obtain ⟨o1, e1⟩ := I.base.there b o e (no b)
        by_cases hb : b ∈ frs outer
        · obtain ⟨o2, e2⟩ := un.there b o1 e1 (no b)
          obtain ⟨sl, e3⟩ := cs b hb _ e2
          exact ⟨_, e3⟩
        · obtain ⟨o2, e2⟩ := kT b o1 e1 (nstk b o e hb)
          exact ⟨o2, fl2.1 b o2 e2⟩
      tups := fun b xs z => un.tups b xs (I.base.tups b xs z)
      frzs := fun b o u z => un.frzs b o u (I.base.frzs b o u z)
      tbls := fun b ps z => by
        obtain ⟨m1, e1⟩ := I.base.tbls b ps z
        obtain ⟨m2, e2⟩ := un.tbls b _ e1
        exact ⟨m1 ++ m2, by rw [e2, Array.append_assoc]⟩ }
  · exact fun b o e n hb => kU b o (I.base.keep b o e n hb (no b)) (I.base.free b o e n (no b)) (nstk b o e hb)
  · intro b o e hb
    obtain ⟨o1, e1⟩ := I.base.there b o e (no b)
    exact kT b o1 e1 (nstk b o e hb)
theorem FunD.okE {x qual : Str} {st : Stmt} {f : Addr} {fd : FuncData} {N ps : List Str} {k : Nat} {sp : Sp} (F : FunD K x qual st f fd) (S : FnScope N ps (defScope st)) (len : ∀ vs H Q E, sp vs H Q E → vs.length = ps.length)
    (hbody : ∀ (cdv : Value) (A : Around) (outer : List Env) (s : Shared) (H : Hp) (vs : List V) (Q : VK) (E : XK), Room k (A.deeper (envOfC qual (defScope st) s.heap.objs.size f cdv)) → sp vs H Q E →
      ∃ t, PSs (cxOf (CXe P w) P w K mg base N qual (defScope st) f cdv A outer s H E) (defBody st) t ∧ t { nx := fun _ H' => Q .non H', rt := Q } (start N vs) H) : FnOk P w K mg base (CXe P w) (k + 1) f fd ps sp := by
  obtain ⟨oc, od, dV, kV, doc, pm, an, cdv, ct, osl, rfl, lk, hcd⟩ := F.ex
  exact fn_of lk hcd S len fun A outer s H vs Q E hr hsp => hbody cdv A outer s H vs Q E hr hsp
end

abbrev bmVE : List Value := [.type "ValueError", .type "Exception", .type "BaseException", .type "object"]
theorem topRead_any {p : Program} {mg mb : Str → Option Value} {h : Heap} (g : h.Ns mainGlobals mg) (b : h.Ns builtinsNs mb) (nl : h.NoLimit) (bl : ∀ x : Str, x ≠ "__name__" → mb x = bootBuiltins x) :
    ∃ loose, PySem.W.TopRead p loose mg mb h := by
  obtain ⟨o, es, ep, ho, hd, hk, hm⟩ := id g
  refine ⟨es.toList.filterMap (fun (e : DictEntry) => match e.key with | .str n _ => some n | _ => none), ⟨g, b, nl, bl, fun x _ hx _ _ _ => ?_⟩⟩
  rw [← hm x]
  unfold nsFind findBy
  rw [Option.map_eq_none_iff, Array.find?_eq_none]
  intro e he hs
  obtain ⟨n, t, hn⟩ := hk e he
  apply hx
  refine List.mem_filterMap.mpr ⟨e, Array.mem_toList_iff.mpr he, ?_⟩
  rw [hn] at hs ⊢
  have e2 : n = x := by simpa [Value.isStr] using hs
  rw [e2]
noncomputable def tRaise (C : Addr) (E : XK) (t : TA) : TS := fun _ σ H => t σ H fun vs H1 => vs.length ≤ sizeLine ∧ E (.ref C) none H1
noncomputable def Raises (X : Cx) (C : Addr) (E : XK) : Prop := ∀ (pins : List (Addr × Obj)) (σ : St) (H : Hp) (s : Shared) (h' : Heap) (e : Addr) (vs : List Value), Inv X pins σ H s → Heap.MadeExcOf s.heap h' e (.ref C) vs → E (.ref C) none H → X.xe (.ref e) { s with heap := h' }
theorem raisesE {P : Program} {w : World} {K : PySem.W.Frag} {mg : Str → Option Value} {base : Heap} {N : List Str} {qual : Str} {scope : Scope} {f C : Addr} {cd : Value} {A : Around} {outer : List Env} {s : Shared} {H : Hp} {E : XK} :
    Raises (cxOf (CXe P w) P w K mg base N qual scope f cd A outer s H E) C E := fun _ _ _ _ _ _ _ I me q => raises_cx I me q
section
variable {X : Cx} {E : XK} {x : Str} {np cpos pos : Pos} {e0 : Expr} {es : List Expr} {t : TA} {C : Addr}
theorem ps_raise (hc : X.calm = true) (O : PySem.W.excIn X.K C bmVE "ValueError.__new__" = true) (hn : PySem.W.nsIn X.K mainGlobals x = some (some (.ref C))) (hm : X.mg x = some (.ref C)) (hg : Gl X x) (hx : Raises X C E) (ha : PA X (e0 :: es) t)
    (hd : (x == ("__debug__" : Str)) = false := by decide) (he : starEach (e0 :: es) X.env = (false, eval e0 X.env) :: starEach es X.env := by rfl) (hpl : (backTo cpos (starEach es X.env)).any (·.1) = false := by rfl) :
    PS X (.Raise (some (.Call (.Name x np) (e0 :: es) [] cpos)) none pos) (tRaise C E t) := by
  intro pins s σ H D I h
  obtain ⟨mb, b1, b2⟩ := I.mod.blt
  obtain ⟨loose, TR⟩ := topRead_any (p := X.prog) I.mod.glob b1 I.mod.nolimit b2
  have OC := PySem.W.own_of_in I.mod.kin TR hn O
  obtain ⟨tl, Nn, nm, qq, bs, hdct, sn, sub, ab, col, dd, k0, k1, k2, k3, k5, mN, oC, oN, oi, oT⟩ := OC.obj
  have hp2 : (backTo cpos (starEach (e0 :: es) X.env)).any (·.1) = false := by
    rw [he]
    show (false || (backTo cpos (starEach es X.env)).any (·.1)) = false
    rw [hpl]
    rfl
  refine wpAny_Raise_call_subU (C := C) (nm := nm) (q := qq) (N := Nn) (bs := bs) (bm := tl) (hdct := hdct) (sn := sn) (sub := sub) (ab := ab) (col := col) (dd := dd) (k0 := k0) (k1 := k1) (k2 := k2) (k3 := k3) (k5 := k5)
    PySem.F.excBase_ValueError (by decide) PySem.F.excBase_ValueError (mN := mN) (oT.hasType PySem.F.excBase_ValueError.hasBase) (I.ok.hd hc) hp2 oi (ld_glob I hg hm ⟨rfl, ?_⟩ hd)
  have hA := ha cpos pins s σ H _ I h
  rw [he] at hA ⊢
  refine Calls.evalArgs_plain (thn hA fun us s2 ⟨vs, H2, I2, r2, hl, q⟩ => ⟨rfl, by rw [← r2.length]; exact hl, I2.bk _ _ oC, oN.keeps I2.bk, oT.keeps I2.bk, fun h' e me => hx pins σ H2 s2 h' e us I2 me q⟩)
end

noncomputable abbrev Cx.marked (X : Cx) (a : Addr) : Cx := { X with A := X.A.mark (some (.ref a)), calm := false }
section
variable {X : Cx} {pins : List (Addr × Obj)} {σ : St} {H H' : Hp} {s s' : Shared}
theorem Cx.Ok.marked (ok : X.Ok) (a : Addr) : (X.marked a).Ok :=
  ⟨ok.mod, ok.kind, ok.glob, ok.blt, ok.above, ok.inj, ok.has, ok.cab, (fun z => nomatch z), ok.frames, ok.stk, ok.exf, ok.bs, ok.bsz, ok.noex, ok.exfs, ok.funs, ok.frf⟩
theorem Inv.marked (I : Inv X pins σ H s) (a : Addr) : Inv (X.marked a) pins σ H s := ⟨I.ok.marked a, I.os, I.bare, I.base, I.loc, I.cell, I.free, I.freeC, I.pin, I.hok, I.len⟩
theorem Inv.unmarked {a : Addr} (I : Inv (X.marked a) pins σ H s) (ok : X.Ok) : Inv X pins σ H s := ⟨ok, I.os, I.bare, I.base, I.loc, I.cell, I.free, I.freeC, I.pin, I.hok, I.len⟩
theorem SP.unmarked {a : Addr} {D : Ends} {f : Flow} (h : SP (X.marked a) pins D f s') (ok : X.Ok) : SP X pins D f s' := by
  cases f with
  | next => obtain ⟨σ', H', I, q⟩ := h; exact ⟨σ', H', I.unmarked ok, q⟩
  | brk => obtain ⟨σ', H', I, q⟩ := h; exact ⟨σ', H', I.unmarked ok, q⟩
  | cont => obtain ⟨σ', H', I, q⟩ := h; exact ⟨σ', H', I.unmarked ok, q⟩
  | ret u => obtain ⟨v, σ', H', I, r, q⟩ := h; exact ⟨v, σ', H', I.unmarked ok, r, q⟩
theorem Inv.flown {B h2 : Heap} (I : Inv X pins σ H s) (os : s'.os = s.os) (bare : AllBare s'.gens) (un : Un (frs X.stack) [] H H' s.heap s'.heap) (hB : HOk X.prog X.w H' B) (ff : s'.heap.FunFrames B X.stack)
    (kU : ∀ b o, s.heap.get? b = some o → H b = none → b ∉ frs X.stack → B.get? b = some o) (kT : ∀ b o, s.heap.get? b = some o → b ∉ frs X.stack → ∃ o', B.get? b = some o') (st : B.StaysIn h2) (us : s'.heap.UpToSlots h2) :
    Inv X pins σ H' { s' with heap := h2 } := by
  have cs : ∀ b ∈ frs X.stack, ∀ o, s'.heap.get? b = some o → ∃ sl, h2.get? b = some { o with slots := sl } := fun b hb o e => by
    obtain ⟨_, o', e', hd⟩ := ff.mem hb
    rw [e] at e'; cases e'
    exact us b o e hd
  have u2 : Un (frs X.stack) [] H H' s.heap h2 := {
    keep := fun b o e n hb _ => st b o (kU b o e n hb)
    slot := fun b o e n hb hx => by
      obtain ⟨sl, e1⟩ := un.slot b o e n hb hx
      obtain ⟨sl', e2⟩ := cs b hb _ e1
      exact ⟨sl', e2⟩
    free := un.free
    there := fun b o e hx => by
      by_cases hb : b ∈ frs X.stack
      · obtain ⟨o2, e2⟩ := un.there b o e hx
        obtain ⟨sl, e3⟩ := cs b hb _ e2
        exact ⟨_, e3⟩
      · obtain ⟨o2, e2⟩ := kT b o e hb
        exact ⟨o2, st b o2 e2⟩
    tups := un.tups
    frzs := un.frzs
    tbls := un.tbls }
  obtain ⟨hh, g, d, t, os'⟩ := s'
  obtain rfl : os' = s.os := os
  show Inv X pins σ H' { s with heap := h2, gens := g, drawn := d, toks := t }
  exact I.call (h' := h2) (g' := g) (d' := d) (t' := t) (ch := []) u2 (hB.kept st) bare (fun b z => absurd z (by simp))
end
structure Meets1 (X : Cx) (x : Str) (T : Addr) (C : Addr) (b : Bool) : Prop where
  gl : Gl X x
  m : X.mg x = some (.ref T)
  ex : PySem.W.exmOne X.K (.ref C) (.ref T) = some b
  db : (x == ("__debug__" : Str)) = false
section
variable {X : Cx} {pins : List (Addr × Obj)} {σ : St} {H : Hp} {s s' : Shared} {E : XK} {ex : Value} {x : Str} {T : Addr} {np hpos : Pos} {b0 : Stmt} {suite : List Stmt} {ts : TS} {D : Ends} {Q0 : Hp → Prop}
end
section
variable {X : Cx} {k : Nat} {f : Addr} {fd : FuncData} {ps : List Str} {sp : Sp} {dvs : List V} {ds : List Value} {fx x cx : Str} {p cpos px apos np hpos pos : Pos} {e : Expr} {es : List Expr} {t : TA} {T : Addr} {b0 : Stmt} {suite : List Stmt} {ts : TS} {i : Nat}
end
end L2

namespace L2
open PySem PySem.Spec PyProof.Rows

section
variable {prog : Program} {w : World} {A : Around} {R : Result → Shared → Prop} {s : Shared}
abbrev NB (prog : Program) (w : World) (A : Around) (env : Env) (R : Result → Shared → Prop) : Value → Shared → Prop := notedBy (model prog w) A env fun e s' => R (.error e) s'
theorem comp_loop {elt tg iter : Expr} {scope : Scope} {pos : Pos} {itv acc : Value} {env : Env} (J : Nat → Shared → Prop)
    (turn : ∀ n s, J n s → wpAny (model prog w) A (pyNext itv) (fun r s1 => match r with
      | none => R (.ok .next) s1
      | some v => wpAny (model prog w) A (letOwnedTupleGo tg itv v) (fun _ s2 => wpAny (model prog w) A (assign tg env v) (fun _ s3 => wpAny (model prog w) A (eval elt env) (fun x s4 =>
          wpAny (model prog w) A (call (.builtin "list.append") [acc, x]) (fun _ s5 => ∃ m, m < n ∧ J m s5) (NB prog w A env R) s4) (NB prog w A env R) s3) (NB prog w A env R) s2) (NB prog w A env R) s1) (NB prog w A env R) s)
    (n : Nat) (h : J n s) : codeAny (model prog w) A (.compLoop (.ListComp elt [⟨tg, iter, [], 0⟩] scope pos) 0 itv acc env) R s := by
  refine codeAny_loop rfl J (fun n s hJ => ?_) n h
  show wpAny _ _ ((compTurn (.ListComp elt [⟨tg, iter, [], 0⟩] scope pos) 0 itv acc env).onRaise (fun x => do noteFrame x env; theTreesLotGoes x)) _ _ s
  refine wpAny_noted ?_
  rw [compTurn_list1]
  refine wpAny_bind (wpAny_standAt (wpAny_bind (wpAny_mono (turn n s hJ) (fun r s1 z => ?_) fun _ _ q => q)))
  match r, z with
  | none, z => exact wpAny_pure z
  | some v, z =>
    exact wpAny_bind (wpAny_mono z (fun _ s2 z => wpAny_bind (wpAny_mono z (fun _ s3 z => wpAny_bind (wpAny_bind (wpAny_mono z (fun x s4 z =>
      wpAny_bind (wpAny_mono z (fun _ s5 z => wpAny_pure (wpAny_pure ⟨rfl, z⟩)) fun _ _ q => q)) fun _ _ q => q))) fun _ _ q => q)) fun _ _ q => q)
end

theorem closure_from {env : Env} : ∀ (names : List (Str × NameKind)) (acc : List (Str × Addr)), (∀ y ∈ names, y.2 = .free → ∃ c, env.cells.lookup y.1 = some c) → (∀ x c, acc.lookup x = some c → env.cells.lookup x = some c) →
    ∃ cl, (forIn names acc (fun (x : Str × NameKind) cs => if (x.2 == NameKind.free) = true then (do let __do_lift ← cellOf env x.1; pure (ForInStep.yield ((x.1, __do_lift) :: cs))) else pure (ForInStep.yield cs)) : Sem (List (Str × Addr))) = pure cl ∧
      (∀ x c, cl.lookup x = some c → env.cells.lookup x = some c) ∧ (∀ x, (∃ c, acc.lookup x = some c) → ∃ c, cl.lookup x = some c) ∧ ∀ y ∈ names, y.2 = .free → ∃ c, cl.lookup y.1 = some c
  | [], acc, _, ha => ⟨acc, rfl, ha, fun _ h => h, fun _ h => nomatch h⟩
  | y :: r, acc, hn, ha => by
    by_cases hf : y.2 = .free
    · obtain ⟨c, hc⟩ := hn y List.mem_cons_self hf
      obtain ⟨cl, e, h1, h2, h3⟩ := closure_from r ((y.1, c) :: acc) (fun z hz => hn z (List.mem_cons_of_mem _ hz)) (fun x d e => by
        rw [List.lookup_cons] at e
        cases q : x == y.1 with
        | true => rw [q] at e; cases e; rw [eq_of_beq q]; exact hc
        | false => rw [q] at e; exact ha x d e)
      refine ⟨cl, ?_, h1, fun x ⟨d, hd⟩ => h2 x ?_, fun z hz zf => ?_⟩
      · rw [List.forIn_cons, if_pos (by rw [hf]; rfl)]
        have ec : cellOf env y.1 = pure c := by unfold cellOf; rw [hc]
        rw [ec]
        exact e
      · rw [List.lookup_cons]
        cases q : x == y.1 with
        | true => exact ⟨c, rfl⟩
        | false => exact ⟨d, hd⟩
      · rcases List.mem_cons.mp hz with z1 | z1
        · subst z1
          exact h2 z.1 ⟨c, by rw [List.lookup_cons, beq_self_eq_true]⟩
        · exact h3 z z1 zf
    · obtain ⟨cl, e, h1, h2, h3⟩ := closure_from r acc (fun z hz => hn z (List.mem_cons_of_mem _ hz)) ha
      refine ⟨cl, ?_, h1, h2, fun z hz zf => ?_⟩
      · rw [List.forIn_cons, if_neg (by simpa using hf)]
        exact e
      · rcases List.mem_cons.mp hz with z1 | z1
        · subst z1; exact absurd zf hf
        · exact h3 z z1 zf
theorem closure_of {env : Env} {sc : Scope} (h : ∀ y ∈ sc.names, y.2 = .free → ∃ c, env.cells.lookup y.1 = some c) :
    ∃ cl, closureFor sc env = pure cl ∧ (∀ x c, cl.lookup x = some c → env.cells.lookup x = some c) ∧ ∀ y ∈ sc.names, y.2 = .free → ∃ c, cl.lookup y.1 = some c := by
  obtain ⟨cl, e, h1, _, h3⟩ := closure_from sc.names [] h (fun x c e => by simp at e)
  refine ⟨cl, ?_, h1, h3⟩
  unfold closureFor
  simp only [e]
  rfl

structure CompOk (X : Cx) (tg : Str) (sc : Scope) (fr : List (Str × Nat)) : Prop where
  kind : sc.kind = .function
  nocell : ∀ y ∈ sc.names, y.2 ≠ .cell
  locs : ∀ y ∈ sc.names, y.2 = .local → sc.names.lookup y.1 = some .local
  tgl : sc.names.lookup tg = some .local
  fre : ∀ y ∈ sc.names, y.2 = .free → X.env.scope.names.lookup y.1 = some .cell ∨ X.env.scope.names.lookup y.1 = some .free
  nd : (tg :: fr.map (·.1)).Nodup
  vis : ∀ p ∈ fr, X.N[p.2]? = some p.1 ∧ (X.env.scope.names.lookup p.1 = some .cell ∨ X.env.scope.names.lookup p.1 = some .free) ∧ sc.names.lookup p.1 = some .free
noncomputable abbrev Cx.blk (X : Cx) (Nc : List Str) (sc : Scope) (cl : List (Str × Addr)) (C : Addr) (s3 : Shared) (H3 : Hp) (fp : List Addr) : Cx :=
  { X with N := Nc, s₀ := s3, H₀ := H3, env := compEnvC sc cl C X.env, outer := X.stack, ex := fp, fn := fun _ => false, pn := [], xe := fun _ _ => False }
theorem relabel_free {env : Env} : ∀ {names : List (Str × NameKind)} {x : Str} {k : NameKind}, (∀ y ∈ names, y.2 ≠ .cell) → (k = .cell ∨ k = .free) →
    (names.map fun (n, k) => if (k == NameKind.free && env.scope.kind == .function && env.kindOf n == some .cell) then (n, NameKind.cell) else (n, k)).lookup x = some k → ∃ y ∈ names, y.1 = x ∧ y.2 = .free
  | [], _, _, _, _, e => by simp at e
  | (n, k') :: r, x, k, hn, hk, e => by
    have ih := @relabel_free env r x k (fun y hy => hn y (List.mem_cons_of_mem _ hy)) hk
    rw [List.map_cons] at e
    by_cases hc : (k' == NameKind.free && env.scope.kind == .function && env.kindOf n == some .cell) = true
    · simp only [hc, if_true, List.lookup_cons] at e
      cases q : x == n with
      | true =>
        have hf : k' = .free := by
          simp only [Bool.and_eq_true, beq_iff_eq] at hc
          exact hc.1.1
        exact ⟨(n, k'), List.mem_cons_self, (eq_of_beq q).symm, hf⟩
      | false =>
        rw [q] at e
        obtain ⟨y, h1, h2⟩ := ih e
        exact ⟨y, List.mem_cons_of_mem _ h1, h2⟩
    · simp only [hc, Bool.false_eq_true, if_false, List.lookup_cons] at e
      cases q : x == n with
      | true =>
        rw [q] at e
        have ek : k' = k := Option.some.inj e
        rcases hk with z | z
        · exact absurd (ek.trans z) (hn (n, k') List.mem_cons_self)
        · exact ⟨(n, k'), List.mem_cons_self, (eq_of_beq q).symm, ek.trans z⟩
      | false =>
        rw [q] at e
        obtain ⟨y, h1, h2⟩ := ih e
        exact ⟨y, List.mem_cons_of_mem _ h1, h2⟩
theorem relabel_seen {env : Env} : ∀ {names : List (Str × NameKind)} {x : Str}, names.lookup x = some .free →
    (names.map fun (n, k) => if (k == NameKind.free && env.scope.kind == .function && env.kindOf n == some .cell) then (n, NameKind.cell) else (n, k)).lookup x = some .cell ∨
    (names.map fun (n, k) => if (k == NameKind.free && env.scope.kind == .function && env.kindOf n == some .cell) then (n, NameKind.cell) else (n, k)).lookup x = some .free
  | [], _, e => by simp at e
  | (n, k') :: r, x, e => by
    have ih := @relabel_seen env r x
    rw [List.map_cons]
    rw [List.lookup_cons] at e
    by_cases hc : (k' == NameKind.free && env.scope.kind == .function && env.kindOf n == some .cell) = true
    · simp only [hc, if_true, List.lookup_cons]
      cases q : x == n with
      | true => exact .inl rfl
      | false => rw [q] at e; exact ih e
    · simp only [hc, Bool.false_eq_true, if_false, List.lookup_cons]
      cases q : x == n with
      | true => rw [q] at e; exact .inr e
      | false => rw [q] at e; exact ih e
section
variable {X : Cx} {pins : List (Addr × Obj)} {σ : St} {H : Hp} {s3 s4 : Shared} {tg : Str} {sc : Scope} {fr : List (Str × Nat)} {fp : List Addr} {cl : List (Str × Addr)}
noncomputable def inSt (σ : St) (fr : List (Str × Nat)) : St := fr.map fun p => (σ[p.2]?).join
theorem blk_start (ok : CompOk X tg sc fr) (I : Inv X pins σ H s3) (hf : ∀ b ∈ fp, FpOk X pins H b) (hfo : ∀ b ∈ fp, ∃ o, s3.heap.get? b = some o) (hk : ∀ x c, cl.lookup x = some c → X.env.cells.lookup x = some c) (hc : ∀ y ∈ sc.names, y.2 = .free → ∃ c, cl.lookup y.1 = some c)
    {h4 : Heap} {t4 : Nat} (hns : ∃ m, h4.Ns s3.heap.objs.size m) (hkeep : ∀ b o, s3.heap.get? b = some o → h4.get? b = some o) :
    Inv (X.blk (tg :: fr.map (·.1)) sc cl s3.heap.objs.size s3 H fp) [] (none :: inSt σ fr) H { s3 with heap := h4, toks := t4 } := by
  have hasc : ∀ x, ((relabel sc X.env).names.lookup x = some .cell ∨ (relabel sc X.env).names.lookup x = some .free) → ∃ c, cl.lookup x = some c := fun x hx => by
    obtain ⟨y, h1, h2, h3⟩ : ∃ y ∈ sc.names, y.1 = x ∧ y.2 = .free := by
      rcases hx with z | z
      · exact relabel_free ok.nocell (.inl rfl) z
      · exact relabel_free ok.nocell (.inr rfl) z
    subst h2
    exact hc y h1 h3
  have cell4 : ∀ x c, cl.lookup x = some c → ∀ v, s3.heap.IsCell c v → h4.IsCell c v := fun x c _ v ⟨o, ho, hd⟩ => ⟨o, hkeep c o ho, hd⟩
  have fresh : H s3.heap.objs.size = none := I.hok.fresh (Nat.le_refl _)
  refine ⟨⟨I.mod, ok.kind, I.ok.glob, I.ok.blt, Nat.le_refl _, fun x y c e1 e2 => I.ok.inj x y c (hk x c e1) (hk y c e2), hasc, (fun x c e => nomatch e), I.ok.hd, I.ok.frames, .inl rfl, fun b hb => ?_, I.bs, Nat.le_trans I.ok.bsz I.sz, fun b o e hb => ?_, fun b hb z => ?_, I.stack, I.stkFree⟩,
    rfl, I.bare, Un.kept hkeep, ?_, fun x c e => ?_, fresh, fun x c e => I.freeC x c (hk x c e), (fun p hp => nomatch hp), I.hok.kept hkeep, ?_⟩
  · obtain ⟨f0, f1, f2, f3, f4, f5⟩ := hf b hb
    refine ⟨fun z => ?_, fun x c e => f4 x c (hk x c e)⟩
    obtain ⟨o, eo⟩ := hfo b hb
    have z' : b = s3.heap.objs.size := z
    rw [z'] at eo
    exact absurd (Heap.lt_size eo) (Nat.lt_irrefl _)
  · obtain ⟨f0, f1, f2, f3, f4, f5⟩ := hf b hb
    rcases f3 with z | z
    · exact I.ok.noex b o e z
    · exact absurd (Nat.lt_of_lt_of_le (Nat.lt_of_lt_of_le (Heap.lt_size e) I.ok.bsz) z) (Nat.lt_irrefl _)
  · obtain ⟨f0, f1, f2, f3, f4, f5⟩ := hf b hb
    rcases List.mem_cons.mp (I.stkSub b z) with q | q
    · exact f1 q
    · exact f2 q
  · obtain ⟨m, hn⟩ := hns
    obtain ⟨m0, _, hl0⟩ := I.loc
    refine ⟨m, hn, fun i x v e1 e2 _ => ?_⟩
    cases i with
    | zero => cases e2
    | succ i =>
      have e2' : ((fr.map fun p => (σ[p.2]?).join))[i]? = some (some v) := e2
      have e1' : (fr.map (·.1))[i]? = some x := e1
      rw [List.getElem?_map] at e1' e2'
      cases q : fr[i]? with
      | none => rw [q] at e1'; cases e1'
      | some p =>
        rw [q] at e1' e2'
        have ex : p.1 = x := Option.some.inj e1'
        have ev : (σ[p.2]?).join = some v := Option.some.inj e2'
        obtain ⟨g1, g2, g3⟩ := ok.vis p (List.mem_of_getElem? q)
        have ev' : σ[p.2]? = some (some v) := by
          cases z : σ[p.2]? with
          | none => rw [z] at ev; cases ev
          | some w => rw [z] at ev; exact congrArg some ev
        have gv : Vis X.env.scope p.1 := g2.elim (fun z => .inr (.inl z)) fun z => .inr (.inr z)
        obtain ⟨u, ru, lk⟩ := hl0 p.2 p.1 v g1 ev' gv
        subst ex
        refine ⟨u, ru, .inr ⟨relabel_seen g3, ?_⟩⟩
        rcases lk with ⟨k1, _⟩ | ⟨_, c, ec, hcell⟩
        · rcases g2 with z | z
          · have k2 : X.env.scope.names.lookup p.1 = some .local := k1
            rw [z] at k2; cases k2
          · have k2 : X.env.scope.names.lookup p.1 = some .local := k1
            rw [z] at k2; cases k2
        · obtain ⟨c', ec'⟩ := hasc p.1 (relabel_seen g3)
          have e3 := hk _ _ ec'
          rw [ec] at e3
          cases e3
          exact ⟨c, ec', cell4 _ c ec' _ hcell⟩
  · obtain ⟨v, z⟩ := I.cell x c (hk x c e)
    exact ⟨v, cell4 x c e v z⟩
  · show (none :: inSt σ fr).length = (tg :: fr.map (·.1)).length
    simp [inSt]
end

noncomputable def tLC (fr : List (Str × Nat)) (wi : TI) (te : TE) : TE := fun σ H Q => wi σ H fun J H1 => ∀ acc, H1 acc = none → ∃ W : Nat → Nat → Hp → Prop, (∃ m, W 0 m (upd H1 acc (.lst []))) ∧ ∀ i m H2, W i m H2 →
  (J.stop i H2 ∧ Q (.ref acc) H2) ∨ (J.go i H2 ∧ ∀ x H3, J.yld i H2 x H3 → te (some x :: inSt σ fr) H3 fun v H4 => ∃ xs m', H4 acc = some (.lst xs) ∧ xs.length < sizeLine ∧ m' < m ∧ W (i + 1) m' (upd H4 acc (.lst (xs ++ [v]))))
section
variable {X : Cx} {elt iter : Expr} {x : Str} {px pos : Pos} {sc : Scope} {fr : List (Str × Nat)} {wi : TI} {te : TE}
theorem pe_lc (hc : X.calm = true) (ok : CompOk X x sc fr) (hi : PI X (.Name x px) iter wi) (he : ∀ cl C s3 H3 fp, PE (X.blk (x :: fr.map (·.1)) sc cl C s3 H3 fp) elt te) (hs : ∀ x, foldedSetIterable iter X.env x = pure x := by intro _; rfl) :
    PE X (.ListComp elt [⟨.Name x px, iter, [], 0⟩] sc pos) (tLC fr wi te) := by
  intro pins s σ H Q I h
  obtain ⟨cl, ecl, hk, hcx⟩ := closure_of (env := X.env) (sc := sc) (fun y hy yf => I.ok.has y.1 (ok.fre y hy yf))
  rw [eval_ListComp]
  refine wpAny_comprehension_free (use := none) rfl hs ecl ok.kind ok.locs (thn (hi pins s σ H _ I h) fun v s1 h1 => thn h1 fun itv s2 h2 => ?_)
  obtain ⟨it, fp, tn, J, H2, e, I2, T, st2, f2, q⟩ := h2
  subst e
  have hacc : H2 s2.heap.objs.size = none := I2.hok.fresh (Nat.le_refl _)
  obtain ⟨W, ⟨m0, w0⟩, turn⟩ := q s2.heap.objs.size hacc
  refine wpAny_newObj_type ?_
  have I3 := I2.laid (a := s2.heap.objs.size) (o := .lst []) (h' := s2.heap.push { cls := .type "list", data := .seq ([] : List Value).toArray }) (t' := s2.toks) (fun b u e => Heap.get?_push_of_some _ e) (Nat.le_refl _) ⟨Nat.zero_le _, [], 0, .nil, Heap.get?_push_size _ rfl⟩
  refine wpAny_newFunctionEnv ok.nocell (by intro y hy; simp at hy) (fun h4 hns4 hsb4 => ?_) ok.kind
  generalize hs3 : ({ s2 with heap := s2.heap.push { cls := .type "list", data := .seq ([] : List Value).toArray } } : Shared) = s3 at *
  have keep4 : ∀ b o, s3.heap.get? b = some o → h4.get? b = some o := fun b o e => hsb4.extBut b o (Nat.ne_of_lt (Heap.lt_size e)) (Heap.get?_push_of_some _ e)
  have keep3 : ∀ b o, s2.heap.get? b = some o → s3.heap.get? b = some o := fun b o e => by rw [← hs3]; exact Heap.get?_push_of_some _ e
  have hfo : ∀ b ∈ fp, ∃ o, s3.heap.get? b = some o := fun b hb => by
    obtain ⟨o, eo, _⟩ := T.obj 0 _ st2 b hb
    exact ⟨o, keep3 b o eo⟩
  have f3 : ∀ b ∈ fp, FpOk X pins (upd H2 s2.heap.objs.size (.lst [])) b := fun b hb => by
    obtain ⟨o, eo, _⟩ := T.obj 0 _ st2 b hb
    exact ⟨by rw [upd_ne (Nat.ne_of_lt (Heap.lt_size eo))]; exact (f2 b hb).1, (f2 b hb).2⟩
  have I4 := blk_start (t4 := s3.toks + ([] : List (Str × Value)).length) ok I3 f3 hfo hk hcx ⟨_, hns4⟩ keep4
  have st4 : tn 0 h4 := T.keep 0 s2.heap h4 st2 fun b hb o e => keep4 b o (keep3 b o e)
  have stat : ∀ {H' : Hp}, (∀ b ∈ fp, H' b = none) → ∀ b ∈ fp, FpOk (X.blk (x :: fr.map (·.1)) sc cl s3.heap.objs.size s3 (upd H2 s2.heap.objs.size (.lst [])) fp) [] H' b := fun hn b hb =>
    ⟨hn b hb, (I4.ok.exf b hb).1, I4.ok.exfs b hb, .inl hb, (I4.ok.exf b hb).2, fun p hp => nomatch hp⟩
  have lk : (relabel sc X.env).names.lookup x = some .local := lookup_relabel_local ok.tgl
  have loop : codeAny (model X.prog X.w) X.A (.compLoop (.ListComp elt [⟨.Name x px, iter, [], 0⟩] sc pos) 0 (.ref it) (.ref s2.heap.objs.size) (compEnvC sc cl s3.heap.objs.size X.env))
      (compPost (model X.prog X.w) X.A X.xe none (EP X pins σ Q) (.ref s2.heap.objs.size) s3.heap.objs.size) { s3 with heap := h4, toks := s3.toks + ([] : List (Str × Value)).length } := by
    refine comp_loop (fun n s' => ∃ i x0 H', Inv (X.blk (x :: fr.map (·.1)) sc cl s3.heap.objs.size s3 (upd H2 s2.heap.objs.size (.lst [])) fp) [] (x0 :: inSt σ fr) H' s' ∧ tn i s'.heap ∧ (∀ b ∈ fp, H' b = none) ∧ W i n H') ?_ m0
      ⟨0, none, _, I4, st4, fun b hb => (f3 b hb).1, w0⟩
    rintro n s5 ⟨i, x0, H5, I5, st5, fr5, w5⟩
    rcases turn i n H5 w5 with ⟨stop, qq⟩ | ⟨go, step⟩
    · refine thn (T.done (X.blk (x :: fr.map (·.1)) sc cl s3.heap.objs.size s3 (upd H2 s2.heap.objs.size (.lst [])) fp) rfl rfl rfl hc i [] s5 _ H5 _ I5 (stat fr5) st5 stop) fun r s6 ⟨hr, I6⟩ => ?_
      subst hr
      obtain ⟨m6, hn6, _⟩ := I6.loc
      refine ⟨m6, hn6, fun h7 hsb7 => ?_⟩
      have ne : ∀ b o, s3.heap.get? b = some o → b ≠ s3.heap.objs.size := fun b o e => Nat.ne_of_lt (Heap.lt_size e)
      have u6 : Un (frs X.stack) fp (upd H2 s2.heap.objs.size (.lst [])) H5 s3.heap s6.heap := I6.base
      have u7 : Un (frs X.stack) fp (upd H2 s2.heap.objs.size (.lst [])) H5 s3.heap h7 := {
        keep := fun b o e n hb hx => hsb7.extBut b o (ne b o e) (u6.keep b o e n hb hx)
        slot := fun b o e n hb hx => by
          obtain ⟨sl, e1⟩ := u6.slot b o e n hb hx
          exact ⟨sl, hsb7.extBut b _ (ne b o e) e1⟩
        free := u6.free
        there := fun b o e hx => by
          obtain ⟨o', e1⟩ := u6.there b o e hx
          exact ⟨o', hsb7.extBut b _ (ne b o e) e1⟩
        tups := u6.tups
        frzs := u6.frzs
        tbls := u6.tbls }
      have hok7 : HOk X.prog X.w H5 h7 := fun b u eu => (I6.hok b u eu).stay (fun c v hcx q => hsb7.extBut c v (fun z => by
        have nf := I6.free
        have z' : H5 s3.heap.objs.size = none := nf
        rw [← z] at z'
        rcases hcx with y | y
        · rw [y, eu] at z'; cases z'
        · rw [y] at z'; cases z') q) (fun _ q => q) fun _ _ q => q
      have os6 : s6.os = s3.os := I6.os
      have bare6 := I6.bare
      obtain ⟨hh, g, d, t, os'⟩ := s6
      obtain rfl : os' = s3.os := os6
      refine ⟨.ref s2.heap.objs.size, H5, ?_, rfl, qq⟩
      show Inv X pins σ H5 { s3 with heap := h7, gens := g, drawn := d, toks := t }
      exact I3.call (h' := h7) (g' := g) (d' := d) (t' := t) (ch := fp) u7 hok7 bare6 fun b hb => ⟨(f3 b hb).2.2.2.1, (f3 b hb).2.1, (f3 b hb).2.2.2.2.1, (f3 b hb).2.2.2.2.2⟩
    · refine thn (T.item (X.blk (x :: fr.map (·.1)) sc cl s3.heap.objs.size s3 (upd H2 s2.heap.objs.size (.lst [])) fp) rfl rfl rfl hc i [] s5 _ H5 _ I5 (stat fr5) st5 go) fun r s6 ⟨u, hr, h6⟩ => ?_
      subst hr
      refine thn h6 fun _ s7 ⟨y, H7, I7, r7, y7, st7, fr7⟩ => ?_
      have I7' := I7.pinned (stat fr7) (T.obj _ _ st7)
      refine wpAny_mono (pg_name (X := X.blk (x :: fr.map (·.1)) sc cl s3.heap.objs.size s3 (upd H2 s2.heap.objs.size (.lst [])) fp) (i := 0) (pos := px) ok.nd rfl (Or.inl lk) (.inr lk) _ s7 _ H7 y u (fun σ' H' => σ' = some y :: inSt σ fr ∧ H' = H7) I7' r7 ⟨rfl, rfl⟩) (fun _ s8 z => ?_) (fun e s z => (show False from z).elim)
      obtain ⟨σ8, H8, I8, e8, e8'⟩ := z
      subst e8 e8'
      refine wpAny_mono (he cl s3.heap.objs.size s3 (upd H2 s2.heap.objs.size (.lst [])) fp _ s8 _ H8 _ I8 (step y H8 y7)) (fun v s9 z => ?_) (fun e s z => (show False from z).elim)
      obtain ⟨z, H9, I9, r9, xs, m', ha, hl, hm, w9⟩ := z
      refine wpAny_mono (mt_append (X := X.blk (x :: fr.map (·.1)) sc cl s3.heap.objs.size s3 (upd H2 s2.heap.objs.size (.lst [])) fp) _ s9 _ H9 (.ref s2.heap.objs.size) [z] (.ref s2.heap.objs.size) [v] (fun _ H' => H' = upd H9 s2.heap.objs.size (.lst (xs ++ [z]))) I9 rfl (.cons r9 .nil) ⟨_, xs, z, rfl, rfl, ha, hl, rfl⟩) (fun _ s10 z => ?_) (fun e s z => (show False from z).elim)
      obtain ⟨_, H10, I10, _, e10⟩ := z
      subst e10
      refine ⟨m', hm, i + 1, some y, _, I10.unpinned, T.keep _ _ _ st7 fun b hb o e => (I10.pin (b, o) (List.mem_append_right _ (List.mem_append_right _ (mem_pinsAt hb e)))).1, fun b hb => ?_, w9⟩
      obtain ⟨o, e, d⟩ := T.obj _ _ st7 b hb
      exact (I10.pin (b, o) (List.mem_append_right _ (List.mem_append_right _ (mem_pinsAt hb e)))).2.1
  exact codeAny_compStart_list loop (T.self X.A 0 _ _ _ st4 loop)
end
end L2

namespace L2
open PySem PySem.Spec PyProof.Rows
section
variable {X : Cx}
end
noncomputable def tSetLC (iy : Nat) (fr : List (Str × Nat)) (wi : TI) (te : TE) : TS := fun D σ H => tLC fr wi te σ H fun v H' => D.nx (σ.set iy (some v)) H'
section
variable {X : Cx} {elt iter : Expr} {x : Str} {px pos : Pos} {sc : Scope} {fr : List (Str × Nat)} {wi : TI} {te : TE}
theorem ps_setLC {y : Str} {py spos : Pos} {iy : Nat} (hN : X.N.Nodup) (hi' : X.N[iy]? = some y) (hy : Loc X.env.scope y) (hc : X.calm = true) (ok : CompOk X x sc fr) (hi : PI X (.Name x px) iter wi) (he : ∀ cl C s3 H3 fp, PE (X.blk (x :: fr.map (·.1)) sc cl C s3 H3 fp) elt te) (hs : ∀ x, foldedSetIterable iter X.env x = pure x := by intro _; rfl)
    (hsw : swapsWith (.ListComp elt [⟨.Name x px, iter, [], 0⟩] sc pos) (some (.Name y py)) spos.line X.env = pure true := by rfl) (hfn : X.fn y = true ∨ X.env.scope.names.lookup y = some .local := by first | exact .inl rfl | exact .inr rfl | assumption) :
    PS X (.Assign [.Name y py] (.ListComp elt [⟨.Name x px, iter, [], 0⟩] sc pos) spos) (tSetLC iy fr wi te) := by
  intro pins s σ H D I h
  obtain ⟨cl, ecl, hk, hcx⟩ := closure_of (env := X.env) (sc := sc) (fun y hy yf => I.ok.has y.1 (ok.fre y hy yf))
  rw [exec_Assign_Name_used _ _ _ _ hsw]
  refine wpAny_bind (wpAny_standAt (wpAny_bind ?_))
  show wpAny _ X.A (do let _ ← comprehension (.ListComp elt [⟨.Name x px, iter, [], 0⟩] sc pos) sc X.env _ (newList []) false (eval iter X.env) (some (assign (.Name y py) X.env))) _ _ s
  refine wpAny_bind (wpAny_mono (wpAny_comprehension_free (use := some (assign (.Name y py) X.env)) (Q := fun _ s' => SP X pins D .next s') rfl hs ecl ok.kind ok.locs ?_) (fun _ s' z => wpAny_pure (wpAny_pure z)) fun _ _ z => z)
  refine (thn (hi pins s σ H _ I h) fun v s1 h1 => thn h1 fun itv s2 h2 => ?_)
  obtain ⟨it, fp, tn, J, H2, e, I2, T, st2, f2, q⟩ := h2
  subst e
  have hacc : H2 s2.heap.objs.size = none := I2.hok.fresh (Nat.le_refl _)
  obtain ⟨W, ⟨m0, w0⟩, turn⟩ := q s2.heap.objs.size hacc
  refine wpAny_newObj_type ?_
  have I3 := I2.laid (a := s2.heap.objs.size) (o := .lst []) (h' := s2.heap.push { cls := .type "list", data := .seq ([] : List Value).toArray }) (t' := s2.toks) (fun b u e => Heap.get?_push_of_some _ e) (Nat.le_refl _) ⟨Nat.zero_le _, [], 0, .nil, Heap.get?_push_size _ rfl⟩
  refine wpAny_newFunctionEnv ok.nocell (by intro y hy; simp at hy) (fun h4 hns4 hsb4 => ?_) ok.kind
  generalize hs3 : ({ s2 with heap := s2.heap.push { cls := .type "list", data := .seq ([] : List Value).toArray } } : Shared) = s3 at *
  have keep4 : ∀ b o, s3.heap.get? b = some o → h4.get? b = some o := fun b o e => hsb4.extBut b o (Nat.ne_of_lt (Heap.lt_size e)) (Heap.get?_push_of_some _ e)
  have keep3 : ∀ b o, s2.heap.get? b = some o → s3.heap.get? b = some o := fun b o e => by rw [← hs3]; exact Heap.get?_push_of_some _ e
  have hfo : ∀ b ∈ fp, ∃ o, s3.heap.get? b = some o := fun b hb => by
    obtain ⟨o, eo, _⟩ := T.obj 0 _ st2 b hb
    exact ⟨o, keep3 b o eo⟩
  have f3 : ∀ b ∈ fp, FpOk X pins (upd H2 s2.heap.objs.size (.lst [])) b := fun b hb => by
    obtain ⟨o, eo, _⟩ := T.obj 0 _ st2 b hb
    exact ⟨by rw [upd_ne (Nat.ne_of_lt (Heap.lt_size eo))]; exact (f2 b hb).1, (f2 b hb).2⟩
  have I4 := blk_start (t4 := s3.toks + ([] : List (Str × Value)).length) ok I3 f3 hfo hk hcx ⟨_, hns4⟩ keep4
  have st4 : tn 0 h4 := T.keep 0 s2.heap h4 st2 fun b hb o e => keep4 b o (keep3 b o e)
  have stat : ∀ {H' : Hp}, (∀ b ∈ fp, H' b = none) → ∀ b ∈ fp, FpOk (X.blk (x :: fr.map (·.1)) sc cl s3.heap.objs.size s3 (upd H2 s2.heap.objs.size (.lst [])) fp) [] H' b := fun hn b hb =>
    ⟨hn b hb, (I4.ok.exf b hb).1, I4.ok.exfs b hb, .inl hb, (I4.ok.exf b hb).2, fun p hp => nomatch hp⟩
  have lk : (relabel sc X.env).names.lookup x = some .local := lookup_relabel_local ok.tgl
  have loop : codeAny (model X.prog X.w) X.A (.compLoop (.ListComp elt [⟨.Name x px, iter, [], 0⟩] sc pos) 0 (.ref it) (.ref s2.heap.objs.size) (compEnvC sc cl s3.heap.objs.size X.env))
      (compPost (model X.prog X.w) X.A X.xe (some (assign (.Name y py) X.env)) (fun _ s' => SP X pins D .next s') (.ref s2.heap.objs.size) s3.heap.objs.size) { s3 with heap := h4, toks := s3.toks + ([] : List (Str × Value)).length } := by
    refine comp_loop (fun n s' => ∃ i x0 H', Inv (X.blk (x :: fr.map (·.1)) sc cl s3.heap.objs.size s3 (upd H2 s2.heap.objs.size (.lst [])) fp) [] (x0 :: inSt σ fr) H' s' ∧ tn i s'.heap ∧ (∀ b ∈ fp, H' b = none) ∧ W i n H') ?_ m0
      ⟨0, none, _, I4, st4, fun b hb => (f3 b hb).1, w0⟩
    rintro n s5 ⟨i, x0, H5, I5, st5, fr5, w5⟩
    rcases turn i n H5 w5 with ⟨stop, qq⟩ | ⟨go, step⟩
    · refine thn (T.done (X.blk (x :: fr.map (·.1)) sc cl s3.heap.objs.size s3 (upd H2 s2.heap.objs.size (.lst [])) fp) rfl rfl rfl hc i [] s5 _ H5 _ I5 (stat fr5) st5 stop) fun r s6 ⟨hr, I6⟩ => ?_
      subst hr
      obtain ⟨m6, hn6, _⟩ := I6.loc
      have u6 : Un (frs X.stack) fp (upd H2 s2.heap.objs.size (.lst [])) H5 s3.heap s6.heap := I6.base
      have hok6 : HOk X.prog X.w H5 s6.heap := I6.hok
      have os6 : s6.os = s3.os := I6.os
      have bare6 := I6.bare
      have free6 : H5 s3.heap.objs.size = none := I6.free
      have IX : Inv X pins σ H5 s6 := by
        obtain ⟨hh, g, d, t, os'⟩ := s6
        obtain rfl : os' = s3.os := os6
        show Inv X pins σ H5 { s3 with heap := hh, gens := g, drawn := d, toks := t }
        exact I3.call (h' := hh) (g' := g) (d' := d) (t' := t) (ch := fp) u6 hok6 bare6 fun b hb => ⟨(f3 b hb).2.2.2.1, (f3 b hb).2.1, (f3 b hb).2.2.2.2.1, (f3 b hb).2.2.2.2.2⟩
      obtain ⟨oC, es, ep, hoC, hdC, rC⟩ := hn6
      have hfC : FpOk X pins H5 s3.heap.objs.size := I3.fpOk (Nat.le_refl _) free6
      have IX' : Inv X (pins ++ [(s3.heap.objs.size, oC)]) σ H5 s6 := IX.pins_of fun p hp => by
        rcases List.mem_append.mp hp with z | z
        · exact IX.pin p (List.mem_append_right _ z)
        · have z' := List.mem_singleton.mp z
          subst z'
          exact ⟨hoC, free6, hfC.2.1, hfC.2.2.1, fun v z => by
            have z2 : oC.data = .cell v := z
            rw [hdC] at z2; cases z2⟩
      refine thn (pg_name (X := X) (i := iy) (pos := py) hN hi' hy hfn _ s6 σ H5 (.ref s2.heap.objs.size) (.ref s2.heap.objs.size) (fun σ' H' => σ' = σ.set iy (some (.ref s2.heap.objs.size)) ∧ H' = H5) IX' rfl ⟨rfl, rfl⟩) fun _ s7 z => ?_
      obtain ⟨σ7, H7, I7, e7, e7'⟩ := z
      subst e7 e7'
      have pC := I7.pin (s3.heap.objs.size, oC) (List.mem_append_right _ (List.mem_append_right _ (List.mem_singleton.mpr rfl)))
      refine ⟨m6, ⟨oC, es, ep, pC.1, hdC, rC⟩, fun h8 hsb8 => ?_⟩
      have I7u : Inv X pins (σ.set iy (some (.ref s2.heap.objs.size))) H7 s7 := I7.unpinned
      refine ⟨_, H7, ?_, qq⟩
      exact I7u.turned (it := s3.heap.objs.size) (t' := s7.toks) (fun b o hb e => hsb8.extBut b o hb e) free6 hfC.2.1 hfC.2.2.2.1 hfC.2.2.2.2.1 hfC.2.2.2.2.2
    · refine thn (T.item (X.blk (x :: fr.map (·.1)) sc cl s3.heap.objs.size s3 (upd H2 s2.heap.objs.size (.lst [])) fp) rfl rfl rfl hc i [] s5 _ H5 _ I5 (stat fr5) st5 go) fun r s6 ⟨u, hr, h6⟩ => ?_
      subst hr
      refine thn h6 fun _ s7 ⟨y, H7, I7, r7, y7, st7, fr7⟩ => ?_
      have I7' := I7.pinned (stat fr7) (T.obj _ _ st7)
      refine wpAny_mono (pg_name (X := X.blk (x :: fr.map (·.1)) sc cl s3.heap.objs.size s3 (upd H2 s2.heap.objs.size (.lst [])) fp) (i := 0) (pos := px) ok.nd rfl (Or.inl lk) (.inr lk) _ s7 _ H7 y u (fun σ' H' => σ' = some y :: inSt σ fr ∧ H' = H7) I7' r7 ⟨rfl, rfl⟩) (fun _ s8 z => ?_) (fun e s z => (show False from z).elim)
      obtain ⟨σ8, H8, I8, e8, e8'⟩ := z
      subst e8 e8'
      refine wpAny_mono (he cl s3.heap.objs.size s3 (upd H2 s2.heap.objs.size (.lst [])) fp _ s8 _ H8 _ I8 (step y H8 y7)) (fun v s9 z => ?_) (fun e s z => (show False from z).elim)
      obtain ⟨z, H9, I9, r9, xs, m', ha, hl, hm, w9⟩ := z
      refine wpAny_mono (mt_append (X := X.blk (x :: fr.map (·.1)) sc cl s3.heap.objs.size s3 (upd H2 s2.heap.objs.size (.lst [])) fp) _ s9 _ H9 (.ref s2.heap.objs.size) [z] (.ref s2.heap.objs.size) [v] (fun _ H' => H' = upd H9 s2.heap.objs.size (.lst (xs ++ [z]))) I9 rfl (.cons r9 .nil) ⟨_, xs, z, rfl, rfl, ha, hl, rfl⟩) (fun _ s10 z => ?_) (fun e s z => (show False from z).elim)
      obtain ⟨_, H10, I10, _, e10⟩ := z
      subst e10
      refine ⟨m', hm, i + 1, some y, _, I10.unpinned, T.keep _ _ _ st7 fun b hb o e => (I10.pin (b, o) (List.mem_append_right _ (List.mem_append_right _ (mem_pinsAt hb e)))).1, fun b hb => ?_, w9⟩
      obtain ⟨o, e, d⟩ := T.obj _ _ st7 b hb
      exact (I10.pin (b, o) (List.mem_append_right _ (List.mem_append_right _ (mem_pinsAt hb e)))).2.1
  exact codeAny_compStart_list loop (T.self X.A 0 _ _ _ st4 loop)
end
end L2

namespace L2
open PySem PySem.Spec PyProof.Rows
noncomputable def compOkB (osc : Scope) (N : List Str) (tg : Str) (sc : Scope) (fr : List (Str × Nat)) : Bool :=
  decide (sc.kind = .function) && (sc.names.all fun y => decide (y.2 ≠ .cell)) && (sc.names.all fun y => decide (y.2 ≠ .local) || decide (sc.names.lookup y.1 = some .local)) && decide (sc.names.lookup tg = some .local) &&
  (sc.names.all fun y => decide (y.2 ≠ .free) || decide (osc.names.lookup y.1 = some .cell) || decide (osc.names.lookup y.1 = some .free)) && decide ((tg :: fr.map (·.1)).Nodup) &&
  (fr.all fun p => decide (N[p.2]? = some p.1) && (decide (osc.names.lookup p.1 = some .cell) || decide (osc.names.lookup p.1 = some .free)) && decide (sc.names.lookup p.1 = some .free))
theorem compOk_of {X : Cx} {tg : Str} {sc : Scope} {fr : List (Str × Nat)} {osc : Scope} {N : List Str} (ho : X.env.scope = osc) (hN : X.N = N) (h : compOkB osc N tg sc fr = true) : CompOk X tg sc fr := by
  subst ho hN
  unfold compOkB at h
  simp only [Bool.and_eq_true, decide_eq_true_eq, List.all_eq_true, Bool.or_eq_true] at h
  obtain ⟨⟨⟨⟨⟨⟨h1, h2⟩, h3⟩, h4⟩, h5⟩, h6⟩, h7⟩ := h
  refine ⟨h1, h2, fun y hy e => ?_, h4, fun y hy e => ?_, h6, fun p hp => ?_⟩
  · rcases h3 y hy with z | z
    · exact absurd e z
    · exact z
  · rcases h5 y hy with (z | z) | z
    · exact absurd e z
    · exact .inl z
    · exact .inr z
  · obtain ⟨⟨a, b⟩, c⟩ := h7 p hp
    exact ⟨a, b, c⟩
end L2

namespace L2
open PySem
end L2

namespace L2
open PySem
theorem pa_consI {X : Cx} {es : List Expr} {t : TA} {i : Int} {j} {pos : Pos} (hr : PA X es t) : PA X (.Constant (.int i) j pos :: es) (tCons (tC (.int i)) t) := pa_cons pe_int hr rfl
end L2

namespace L2
open PySem
noncomputable def intsOf : List Expr → Option (List Int)
  | [] => some []
  | .Constant (.int i) _ _ :: es => (intsOf es).map (i :: ·)
  | _ :: _ => none
noncomputable def tInts (ns : List Int) : TA := fun _ H Q => Q (ns.map V.int) H
theorem pa_ints {X : Cx} {es : List Expr} (ns : List Int) (h : intsOf es = some ns) : PA X es (tInts ns) := by
  induction es generalizing ns with
  | nil =>
    have e : ns = [] := (Option.some.inj h).symm
    subst e
    exact pa_nil
  | cons e es ih =>
    unfold intsOf at h
    split at h
    · rename_i he; cases he
    · rename_i i j pos es' he
      obtain ⟨rfl, rfl⟩ := List.cons.inj he
      cases hr : intsOf es with
      | none => rw [hr] at h; cases h
      | some ms =>
        rw [hr] at h
        have e : ns = i :: ms := (Option.some.inj h).symm
        subst e
        exact pa_consI (j := j) (pos := pos) (ih ms hr)
    · cases h
end L2

namespace L2
open PySem PySem.Spec PyProof.Rows
section
variable {prog : Program} {w : World} {A : Around} {R : Result → Shared → Prop} {s : Shared}
abbrev testsOf (ifs : List Expr) (env : Env) : Sem Bool := forIn ifs true fun c r => if r = true then do let ok ← isTrue c env (eval c env); pure (ForInStep.yield ok) else pure (ForInStep.yield r)
theorem comp_loopG {elt tg iter : Expr} {ifs : List Expr} {scope : Scope} {pos : Pos} {itv acc : Value} {env : Env} (J : Nat → Shared → Prop)
    (turn : ∀ n s, J n s → wpAny (model prog w) A (pyNext itv) (fun r s1 => match r with
      | none => R (.ok .next) s1
      | some v => wpAny (model prog w) A (letOwnedTupleGo tg itv v) (fun _ s2 => wpAny (model prog w) A (assign tg env v) (fun _ s3 => wpAny (model prog w) A (testsOf ifs env) (fun ok s4 =>
          if ok = true then wpAny (model prog w) A (eval elt env) (fun x s5 => wpAny (model prog w) A (call (.builtin "list.append") [acc, x]) (fun _ s6 => ∃ m, m < n ∧ J m s6) (NB prog w A env R) s5) (NB prog w A env R) s4
          else ∃ m, m < n ∧ J m s4) (NB prog w A env R) s3) (NB prog w A env R) s2) (NB prog w A env R) s1) (NB prog w A env R) s)
    (n : Nat) (h : J n s) : codeAny (model prog w) A (.compLoop (.ListComp elt [⟨tg, iter, ifs, 0⟩] scope pos) 0 itv acc env) R s := by
  refine codeAny_loop rfl J (fun n s hJ => ?_) n h
  show wpAny _ _ ((compTurn (.ListComp elt [⟨tg, iter, ifs, 0⟩] scope pos) 0 itv acc env).onRaise (fun x => do noteFrame x env; theTreesLotGoes x)) _ _ s
  refine wpAny_noted ?_
  rw [compTurn_list]
  refine wpAny_bind (wpAny_standAt (wpAny_bind (wpAny_mono (turn n s hJ) (fun r s1 z => ?_) fun _ _ q => q)))
  match r, z with
  | none, z => exact wpAny_pure z
  | some v, z =>
    refine wpAny_bind (wpAny_mono z (fun _ s2 z => wpAny_bind (wpAny_mono z (fun _ s3 z => wpAny_bind (wpAny_mono z (fun ok s4 z => ?_) fun _ _ q => q)) fun _ _ q => q)) fun _ _ q => q)
    cases ok with
    | true =>
      have z' := (if_pos rfl).mp z
      exact wpAny_bind (wpAny_bind (wpAny_mono z' (fun x s5 z => wpAny_bind (wpAny_mono z (fun _ s6 z => wpAny_pure (wpAny_pure ⟨rfl, z⟩)) fun _ _ q => q)) fun _ _ q => q))
    | false =>
      have z' := (if_neg Bool.false_ne_true).mp z
      exact wpAny_bind (wpAny_pure (wpAny_pure ⟨rfl, z'⟩))
end
structure CompOkG (X : Cx) (tgs : List Str) (sc : Scope) (fr : List (Str × Nat)) : Prop where
  kind : sc.kind = .function
  nocell : ∀ y ∈ sc.names, y.2 ≠ .cell
  locs : ∀ y ∈ sc.names, y.2 = .local → sc.names.lookup y.1 = some .local
  fre : ∀ y ∈ sc.names, y.2 = .free → X.env.scope.names.lookup y.1 = some .cell ∨ X.env.scope.names.lookup y.1 = some .free
  nd : (tgs ++ fr.map (·.1)).Nodup
  vis : ∀ p ∈ fr, X.N[p.2]? = some p.1 ∧ (X.env.scope.names.lookup p.1 = some .cell ∨ X.env.scope.names.lookup p.1 = some .free) ∧ sc.names.lookup p.1 = some .free
noncomputable def PIF (X : Cx) (ifs : List Expr) (t : TT) : Prop :=
  ∀ (pins : List (Addr × Obj)) (s : Shared) (σ : St) (H : Hp) (Q : Bool → Hp → Prop), Inv X pins σ H s → t σ H Q → wpAny (model X.prog X.w) X.A (testsOf ifs X.env) (TP X pins σ Q) X.xe s
noncomputable def tYes : TT := fun _ H Q => Q true H
theorem pif_nil {X : Cx} : PIF X [] tYes := fun _ _ _ H _ I h => wpAny_tests_nil ⟨H, I, h⟩
theorem pif_one {X : Cx} {c : Expr} {t : TT} (h : PT X c t) : PIF X [c] t := fun pins s σ H Q I q => wpAny_tests_one (h pins s σ H Q I q)
section
variable {X : Cx} {pins : List (Addr × Obj)} {σ : St} {H : Hp} {s3 s4 : Shared} {tgs : List Str} {sc : Scope} {fr : List (Str × Nat)} {fp : List Addr} {cl : List (Str × Addr)}
theorem blk_startG (ok : CompOkG X tgs sc fr) (I : Inv X pins σ H s3) (hf : ∀ b ∈ fp, FpOk X pins H b) (hfo : ∀ b ∈ fp, ∃ o, s3.heap.get? b = some o) (hk : ∀ x c, cl.lookup x = some c → X.env.cells.lookup x = some c) (hc : ∀ y ∈ sc.names, y.2 = .free → ∃ c, cl.lookup y.1 = some c)
    {h4 : Heap} {t4 : Nat} (hns : ∃ m, h4.Ns s3.heap.objs.size m) (hkeep : ∀ b o, s3.heap.get? b = some o → h4.get? b = some o) :
    Inv (X.blk (tgs ++ fr.map (·.1)) sc cl s3.heap.objs.size s3 H fp) [] (List.replicate tgs.length none ++ inSt σ fr) H { s3 with heap := h4, toks := t4 } := by
  have hasc : ∀ x, ((relabel sc X.env).names.lookup x = some .cell ∨ (relabel sc X.env).names.lookup x = some .free) → ∃ c, cl.lookup x = some c := fun x hx => by
    obtain ⟨y, h1, h2, h3⟩ : ∃ y ∈ sc.names, y.1 = x ∧ y.2 = .free := by
      rcases hx with z | z
      · exact relabel_free ok.nocell (.inl rfl) z
      · exact relabel_free ok.nocell (.inr rfl) z
    subst h2
    exact hc y h1 h3
  have cell4 : ∀ x c, cl.lookup x = some c → ∀ v, s3.heap.IsCell c v → h4.IsCell c v := fun x c _ v ⟨o, ho, hd⟩ => ⟨o, hkeep c o ho, hd⟩
  have fresh : H s3.heap.objs.size = none := I.hok.fresh (Nat.le_refl _)
  refine ⟨⟨I.mod, ok.kind, I.ok.glob, I.ok.blt, Nat.le_refl _, fun x y c e1 e2 => I.ok.inj x y c (hk x c e1) (hk y c e2), hasc, (fun x c e => nomatch e), I.ok.hd, I.ok.frames, .inl rfl, fun b hb => ?_, I.bs, Nat.le_trans I.ok.bsz I.sz, fun b o e hb => ?_, fun b hb z => ?_, I.stack, I.stkFree⟩,
    rfl, I.bare, Un.kept hkeep, ?_, fun x c e => ?_, fresh, fun x c e => I.freeC x c (hk x c e), (fun p hp => nomatch hp), I.hok.kept hkeep, ?_⟩
  · obtain ⟨f0, f1, f2, f3, f4, f5⟩ := hf b hb
    refine ⟨fun z => ?_, fun x c e => f4 x c (hk x c e)⟩
    obtain ⟨o, eo⟩ := hfo b hb
    have z' : b = s3.heap.objs.size := z
    rw [z'] at eo
    exact absurd (Heap.lt_size eo) (Nat.lt_irrefl _)
  · obtain ⟨f0, f1, f2, f3, f4, f5⟩ := hf b hb
    rcases f3 with z | z
    · exact I.ok.noex b o e z
    · exact absurd (Nat.lt_of_lt_of_le (Nat.lt_of_lt_of_le (Heap.lt_size e) I.ok.bsz) z) (Nat.lt_irrefl _)
  · obtain ⟨f0, f1, f2, f3, f4, f5⟩ := hf b hb
    rcases List.mem_cons.mp (I.stkSub b z) with q | q
    · exact f1 q
    · exact f2 q
  · obtain ⟨m, hn⟩ := hns
    obtain ⟨m0, _, hl0⟩ := I.loc
    refine ⟨m, hn, fun i x v e1 e2 _ => ?_⟩
    have hge : tgs.length ≤ i := by
      rcases Nat.lt_or_ge i tgs.length with z | z
      · rw [List.getElem?_append_left (by rw [List.length_replicate]; exact z), List.getElem?_replicate, if_pos z] at e2
        cases e2
      · exact z
    have e1x : (tgs ++ fr.map (·.1))[i]? = some x := e1
    rw [List.getElem?_append_right hge] at e1x
    rw [List.getElem?_append_right (by rw [List.length_replicate]; exact hge), List.length_replicate] at e2
    generalize i - tgs.length = i at *
    · have e2' : ((fr.map fun p => (σ[p.2]?).join))[i]? = some (some v) := e2
      have e1' : (fr.map (·.1))[i]? = some x := e1x
      rw [List.getElem?_map] at e1' e2'
      cases q : fr[i]? with
      | none => rw [q] at e1'; cases e1'
      | some p =>
        rw [q] at e1' e2'
        have ex : p.1 = x := Option.some.inj e1'
        have ev : (σ[p.2]?).join = some v := Option.some.inj e2'
        obtain ⟨g1, g2, g3⟩ := ok.vis p (List.mem_of_getElem? q)
        have ev' : σ[p.2]? = some (some v) := by
          cases z : σ[p.2]? with
          | none => rw [z] at ev; cases ev
          | some w => rw [z] at ev; exact congrArg some ev
        have gv : Vis X.env.scope p.1 := g2.elim (fun z => .inr (.inl z)) fun z => .inr (.inr z)
        obtain ⟨u, ru, lk⟩ := hl0 p.2 p.1 v g1 ev' gv
        subst ex
        refine ⟨u, ru, .inr ⟨relabel_seen g3, ?_⟩⟩
        rcases lk with ⟨k1, _⟩ | ⟨_, c, ec, hcell⟩
        · rcases g2 with z | z
          · have k2 : X.env.scope.names.lookup p.1 = some .local := k1
            rw [z] at k2; cases k2
          · have k2 : X.env.scope.names.lookup p.1 = some .local := k1
            rw [z] at k2; cases k2
        · obtain ⟨c', ec'⟩ := hasc p.1 (relabel_seen g3)
          have e3 := hk _ _ ec'
          rw [ec] at e3
          cases e3
          exact ⟨c, ec', cell4 _ c ec' _ hcell⟩
  · obtain ⟨v, z⟩ := I.cell x c (hk x c e)
    exact ⟨v, cell4 x c e v z⟩
  · show (List.replicate tgs.length none ++ inSt σ fr).length = (tgs ++ fr.map (·.1)).length
    simp [inSt]
end


noncomputable def tLCG (k : Nat) (fr : List (Str × Nat)) (wi : TI) (g : TG) (tc : TT) (te : TE) : TE := fun σ H Q => wi σ H fun J H1 => ∀ acc, H1 acc = none → ∃ W : Nat → Nat → St → Hp → Prop, (∃ m, W 0 m (List.replicate k none ++ inSt σ fr) (upd H1 acc (.lst []))) ∧ ∀ i m σb H2, W i m σb H2 →
  (J.stop i H2 ∧ Q (.ref acc) H2) ∨ (J.go i H2 ∧ ∀ x H3, J.yld i H2 x H3 → g x σb H3 fun σ2 H4 => tc σ2 H4 fun b H5 =>
    if b = true then te σ2 H5 fun v H6 => ∃ xs m', H6 acc = some (.lst xs) ∧ xs.length < sizeLine ∧ m' < m ∧ W (i + 1) m' σ2 (upd H6 acc (.lst (xs ++ [v]))) else ∃ m', m' < m ∧ W (i + 1) m' σ2 H5)
section
variable {X : Cx} {elt iter tg : Expr} {ifs : List Expr} {tgs : List Str} {pos : Pos} {sc : Scope} {fr : List (Str × Nat)} {wi : TI} {te : TE} {g : TG} {tc : TT}
theorem pe_lcG (hc : X.calm = true) (ok : CompOkG X tgs sc fr) (hi : PI X tg iter wi) (hg : ∀ cl C s3 H3 fp, PG (X.blk (tgs ++ fr.map (·.1)) sc cl C s3 H3 fp) tg g) (ht : ∀ cl C s3 H3 fp, PIF (X.blk (tgs ++ fr.map (·.1)) sc cl C s3 H3 fp) ifs tc) (he : ∀ cl C s3 H3 fp, PE (X.blk (tgs ++ fr.map (·.1)) sc cl C s3 H3 fp) elt te) (hs : ∀ x, foldedSetIterable iter X.env x = pure x := by intro _; rfl) :
    PE X (.ListComp elt [⟨tg, iter, ifs, 0⟩] sc pos) (tLCG tgs.length fr wi g tc te) := by
  intro pins s σ H Q I h
  obtain ⟨cl, ecl, hk, hcx⟩ := closure_of (env := X.env) (sc := sc) (fun y hy yf => I.ok.has y.1 (ok.fre y hy yf))
  rw [eval_ListComp]
  refine wpAny_comprehension_free (use := none) rfl hs ecl ok.kind ok.locs (thn (hi pins s σ H _ I h) fun v s1 h1 => thn h1 fun itv s2 h2 => ?_)
  obtain ⟨it, fp, tn, J, H2, e, I2, T, st2, f2, q⟩ := h2
  subst e
  have hacc : H2 s2.heap.objs.size = none := I2.hok.fresh (Nat.le_refl _)
  obtain ⟨W, ⟨m0, w0⟩, turn⟩ := q s2.heap.objs.size hacc
  refine wpAny_newObj_type ?_
  have I3 := I2.laid (a := s2.heap.objs.size) (o := .lst []) (h' := s2.heap.push { cls := .type "list", data := .seq ([] : List Value).toArray }) (t' := s2.toks) (fun b u e => Heap.get?_push_of_some _ e) (Nat.le_refl _) ⟨Nat.zero_le _, [], 0, .nil, Heap.get?_push_size _ rfl⟩
  refine wpAny_newFunctionEnv ok.nocell (by intro y hy; simp at hy) (fun h4 hns4 hsb4 => ?_) ok.kind
  generalize hs3 : ({ s2 with heap := s2.heap.push { cls := .type "list", data := .seq ([] : List Value).toArray } } : Shared) = s3 at *
  have keep4 : ∀ b o, s3.heap.get? b = some o → h4.get? b = some o := fun b o e => hsb4.extBut b o (Nat.ne_of_lt (Heap.lt_size e)) (Heap.get?_push_of_some _ e)
  have keep3 : ∀ b o, s2.heap.get? b = some o → s3.heap.get? b = some o := fun b o e => by rw [← hs3]; exact Heap.get?_push_of_some _ e
  have hfo : ∀ b ∈ fp, ∃ o, s3.heap.get? b = some o := fun b hb => by
    obtain ⟨o, eo, _⟩ := T.obj 0 _ st2 b hb
    exact ⟨o, keep3 b o eo⟩
  have f3 : ∀ b ∈ fp, FpOk X pins (upd H2 s2.heap.objs.size (.lst [])) b := fun b hb => by
    obtain ⟨o, eo, _⟩ := T.obj 0 _ st2 b hb
    exact ⟨by rw [upd_ne (Nat.ne_of_lt (Heap.lt_size eo))]; exact (f2 b hb).1, (f2 b hb).2⟩
  have I4 := blk_startG (t4 := s3.toks + ([] : List (Str × Value)).length) ok I3 f3 hfo hk hcx ⟨_, hns4⟩ keep4
  have st4 : tn 0 h4 := T.keep 0 s2.heap h4 st2 fun b hb o e => keep4 b o (keep3 b o e)
  have stat : ∀ {H' : Hp}, (∀ b ∈ fp, H' b = none) → ∀ b ∈ fp, FpOk (X.blk (tgs ++ fr.map (·.1)) sc cl s3.heap.objs.size s3 (upd H2 s2.heap.objs.size (.lst [])) fp) [] H' b := fun hn b hb =>
    ⟨hn b hb, (I4.ok.exf b hb).1, I4.ok.exfs b hb, .inl hb, (I4.ok.exf b hb).2, fun p hp => nomatch hp⟩
  have loop : codeAny (model X.prog X.w) X.A (.compLoop (.ListComp elt [⟨tg, iter, ifs, 0⟩] sc pos) 0 (.ref it) (.ref s2.heap.objs.size) (compEnvC sc cl s3.heap.objs.size X.env))
      (compPost (model X.prog X.w) X.A X.xe none (EP X pins σ Q) (.ref s2.heap.objs.size) s3.heap.objs.size) { s3 with heap := h4, toks := s3.toks + ([] : List (Str × Value)).length } := by
    refine comp_loopG (fun n s' => ∃ i σb H', Inv (X.blk (tgs ++ fr.map (·.1)) sc cl s3.heap.objs.size s3 (upd H2 s2.heap.objs.size (.lst [])) fp) [] σb H' s' ∧ tn i s'.heap ∧ (∀ b ∈ fp, H' b = none) ∧ W i n σb H') ?_ m0
      ⟨0, _, _, I4, st4, fun b hb => (f3 b hb).1, w0⟩
    rintro n s5 ⟨i, σb, H5, I5, st5, fr5, w5⟩
    rcases turn i n σb H5 w5 with ⟨stop, qq⟩ | ⟨go, step⟩
    · refine thn (T.done (X.blk (tgs ++ fr.map (·.1)) sc cl s3.heap.objs.size s3 (upd H2 s2.heap.objs.size (.lst [])) fp) rfl rfl rfl hc i [] s5 _ H5 _ I5 (stat fr5) st5 stop) fun r s6 ⟨hr, I6⟩ => ?_
      subst hr
      obtain ⟨m6, hn6, _⟩ := I6.loc
      refine ⟨m6, hn6, fun h7 hsb7 => ?_⟩
      have ne : ∀ b o, s3.heap.get? b = some o → b ≠ s3.heap.objs.size := fun b o e => Nat.ne_of_lt (Heap.lt_size e)
      have u6 : Un (frs X.stack) fp (upd H2 s2.heap.objs.size (.lst [])) H5 s3.heap s6.heap := I6.base
      have u7 : Un (frs X.stack) fp (upd H2 s2.heap.objs.size (.lst [])) H5 s3.heap h7 := {
        keep := fun b o e n hb hx => hsb7.extBut b o (ne b o e) (u6.keep b o e n hb hx)
        slot := fun b o e n hb hx => by
          obtain ⟨sl, e1⟩ := u6.slot b o e n hb hx
          exact ⟨sl, hsb7.extBut b _ (ne b o e) e1⟩
        free := u6.free
        there := fun b o e hx => by
          obtain ⟨o', e1⟩ := u6.there b o e hx
          exact ⟨o', hsb7.extBut b _ (ne b o e) e1⟩
        tups := u6.tups
        frzs := u6.frzs
        tbls := u6.tbls }
      have hok7 : HOk X.prog X.w H5 h7 := fun b u eu => (I6.hok b u eu).stay (fun c v hcx q => hsb7.extBut c v (fun z => by
        have nf := I6.free
        have z' : H5 s3.heap.objs.size = none := nf
        rw [← z] at z'
        rcases hcx with y | y
        · rw [y, eu] at z'; cases z'
        · rw [y] at z'; cases z') q) (fun _ q => q) fun _ _ q => q
      have os6 : s6.os = s3.os := I6.os
      have bare6 := I6.bare
      obtain ⟨hh, g, d, t, os'⟩ := s6
      obtain rfl : os' = s3.os := os6
      refine ⟨.ref s2.heap.objs.size, H5, ?_, rfl, qq⟩
      show Inv X pins σ H5 { s3 with heap := h7, gens := g, drawn := d, toks := t }
      exact I3.call (h' := h7) (g' := g) (d' := d) (t' := t) (ch := fp) u7 hok7 bare6 fun b hb => ⟨(f3 b hb).2.2.2.1, (f3 b hb).2.1, (f3 b hb).2.2.2.2.1, (f3 b hb).2.2.2.2.2⟩
    · refine thn (T.item (X.blk (tgs ++ fr.map (·.1)) sc cl s3.heap.objs.size s3 (upd H2 s2.heap.objs.size (.lst [])) fp) rfl rfl rfl hc i [] s5 _ H5 _ I5 (stat fr5) st5 go) fun r s6 ⟨u, hr, h6⟩ => ?_
      subst hr
      refine thn h6 fun _ s7 ⟨y, H7, I7, r7, y7, st7, fr7⟩ => ?_
      have I7' := I7.pinned (stat fr7) (T.obj _ _ st7)
      refine wpAny_mono (hg cl s3.heap.objs.size s3 (upd H2 s2.heap.objs.size (.lst [])) fp _ s7 _ H7 y u _ I7' r7 (step y H7 y7)) (fun _ s8 z => ?_) (fun e s z => (show False from z).elim)
      obtain ⟨σ8, H8, I8, q8⟩ := z
      refine wpAny_mono (ht cl s3.heap.objs.size s3 (upd H2 s2.heap.objs.size (.lst [])) fp _ s8 σ8 H8 _ I8 q8) (fun b s8' z => ?_) (fun e s z => (show False from z).elim)
      obtain ⟨H8', I8', q8'⟩ := z
      have goOn : ∀ {s10 : Shared} {H10 : Hp} {m' : Nat}, Inv (X.blk (tgs ++ fr.map (·.1)) sc cl s3.heap.objs.size s3 (upd H2 s2.heap.objs.size (.lst [])) fp) _ σ8 H10 s10 → m' < n → W (i + 1) m' σ8 H10 → ∃ m, m < n ∧ ∃ i σb H', Inv (X.blk (tgs ++ fr.map (·.1)) sc cl s3.heap.objs.size s3 (upd H2 s2.heap.objs.size (.lst [])) fp) [] σb H' s10 ∧ tn i s10.heap ∧ (∀ b ∈ fp, H' b = none) ∧ W i m σb H' := fun {s10 H10 m'} I10 hm w9 => by
        refine ⟨m', hm, i + 1, σ8, _, I10.unpinned, T.keep _ _ _ st7 fun b hb o e => (I10.pin (b, o) (List.mem_append_right _ (List.mem_append_right _ (mem_pinsAt hb e)))).1, fun b hb => ?_, w9⟩
        obtain ⟨o, e, d⟩ := T.obj _ _ st7 b hb
        exact (I10.pin (b, o) (List.mem_append_right _ (List.mem_append_right _ (mem_pinsAt hb e)))).2.1
      cases b with
      | false =>
        obtain ⟨m', hm, w9⟩ := (if_neg Bool.false_ne_true).mp q8'
        exact (if_neg Bool.false_ne_true).mpr (goOn I8' hm w9)
      | true =>
        refine (if_pos rfl).mpr ?_
        refine wpAny_mono (he cl s3.heap.objs.size s3 (upd H2 s2.heap.objs.size (.lst [])) fp _ s8' _ H8' _ I8' ((if_pos rfl).mp q8')) (fun v s9 z => ?_) (fun e s z => (show False from z).elim)
        obtain ⟨z, H9, I9, r9, xs, m', ha, hl, hm, w9⟩ := z
        refine wpAny_mono (mt_append (X := X.blk (tgs ++ fr.map (·.1)) sc cl s3.heap.objs.size s3 (upd H2 s2.heap.objs.size (.lst [])) fp) _ s9 _ H9 (.ref s2.heap.objs.size) [z] (.ref s2.heap.objs.size) [v] (fun _ H' => H' = upd H9 s2.heap.objs.size (.lst (xs ++ [z]))) I9 rfl (.cons r9 .nil) ⟨_, xs, z, rfl, rfl, ha, hl, rfl⟩) (fun _ s10 z => ?_) (fun e s z => (show False from z).elim)
        obtain ⟨_, H10, I10, _, e10⟩ := z
        subst e10
        exact goOn I10 hm w9
  exact codeAny_compStart_list loop (T.self X.A 0 _ _ _ st4 loop)
end
end L2

namespace L2
open PySem PySem.Spec PyProof.Rows
section
variable {X : Cx}
end
end L2

namespace My
noncomputable def qv (a b : Int) : Rat := (a : Rat) / (b : Rat)
end My

namespace My
theorem part_in {E A C : Rat} (h : A < C) (h1 : A ≤ E) (h2 : E ≤ C) : 0 ≤ (E - A) / (C - A) ∧ (E - A) / (C - A) ≤ 1 := by
  have hp : 0 < C - A := by grind
  constructor
  · rw [← Rat.not_lt, Rat.div_lt_iff hp]
    grind
  · rw [← Rat.not_lt, Rat.lt_div_iff hp]
    grind
theorem along_in {E A C F T : Rat} (h : A < C) (hf : F < T) (h1 : A ≤ E) (h2 : E ≤ C) : F ≤ F + (E - A) / (C - A) * (T - F) ∧ F + (E - A) / (C - A) * (T - F) ≤ T := by
  obtain ⟨p0, p1⟩ := part_in h h1 h2
  generalize (E - A) / (C - A) = r at *
  have w1 : 0 ≤ r * (T - F) := Rat.mul_nonneg p0 (by grind)
  have w2 : r * (T - F) ≤ 1 * (T - F) := Rat.mul_le_mul_of_nonneg_right p1 (by grind)
  grind
end My

namespace My
noncomputable def leap (y : Int) : Bool := if y % 4 = 0 then (if y % 100 = 0 then decide (y % 400 = 0) else true) else false
noncomputable def mls : List Int := [31, 28, 31, 30, 31, 30, 31, 31, 30, 31, 30, 31]
noncomputable def ml (L : Bool) (m : Int) : Int := if m = 2 ∧ L = true then 29 else mls.getD (m - 1).toNat 0
noncomputable def mlen (y m : Int) : Int := ml (leap y) m
noncomputable def bf (L : Bool) (m : Int) : Int := ((List.range (m - 1).toNat).map fun i : Nat => ml L (1 + i)).sum
noncomputable def ybeg (y : Int) : Int := 365 * (y - 1) + (y - 1) / 4 - (y - 1) / 100 + (y - 1) / 400
noncomputable def ylen (L : Bool) : Int := if L then 366 else 365
theorem ybeg_next (y : Int) : ybeg (y + 1) = ybeg y + ylen (leap y) := by
  unfold ybeg ylen leap
  by_cases h4 : y % 4 = 0
  · rw [if_pos h4]
    by_cases h1 : y % 100 = 0
    · rw [if_pos h1]
      by_cases h3 : y % 400 = 0
      · rw [decide_eq_true h3, if_pos rfl]; omega
      · rw [decide_eq_false h3, if_neg (by decide)]; omega
    · rw [if_neg h1, if_pos rfl]; omega
  · rw [if_neg h4, if_neg (by decide)]; omega
theorem m_cases {m : Int} (h1 : 1 ≤ m) (h2 : m ≤ 12) : m = 1 ∨ m = 2 ∨ m = 3 ∨ m = 4 ∨ m = 5 ∨ m = 6 ∨ m = 7 ∨ m = 8 ∨ m = 9 ∨ m = 10 ∨ m = 11 ∨ m = 12 := by omega
theorem bf_next {L : Bool} {m : Int} (h1 : 1 ≤ m) (h2 : m ≤ 12) : bf L (m + 1) = bf L m + ml L m := by
  cases L <;> rcases m_cases h1 h2 with h | h | h | h | h | h | h | h | h | h | h | h <;> subst h <;> decide
theorem bf_first (L : Bool) : bf L 1 = 0 := by cases L <;> decide
theorem bf_last (L : Bool) : bf L 13 = ylen L := by cases L <;> decide
theorem ml_pos {L : Bool} {m : Int} (h1 : 1 ≤ m) (h2 : m ≤ 12) : 28 ≤ ml L m ∧ ml L m ≤ 31 := by
  cases L <;> rcases m_cases h1 h2 with h | h | h | h | h | h | h | h | h | h | h | h <;> subst h <;> decide
noncomputable def dayOf (y m e : Int) : Int := ybeg y + bf (leap y) m + e - 1
structure Valid (y m e : Int) : Prop where
  y1 : 1 ≤ y
  y2 : y ≤ 9999
  m1 : 1 ≤ m
  m2 : m ≤ 12
  e1 : 1 ≤ e
  e2 : e ≤ mlen y m
theorem bf_mono {L : Bool} {m n : Int} (h1 : 1 ≤ m) (h : m < n) (h2 : n ≤ 13) : bf L m + ml L m ≤ bf L n := by
  have key : ∀ (k : Nat) (n : Int), n = m + 1 + k → n ≤ 13 → bf L m + ml L m ≤ bf L n := by
    intro k
    induction k with
    | zero =>
      intro n hn hn2
      have e : n = m + 1 := by omega
      rw [e, bf_next h1 (by omega)]
      exact Int.le_refl _
    | succ k ih =>
      intro n hn hn2
      have q := ih (n - 1) (by omega) (by omega)
      have e := bf_next (L := L) (m := n - 1) (by omega) (by omega)
      rw [Int.sub_add_cancel] at e
      have p := (ml_pos (L := L) (m := n - 1) (by omega) (by omega)).1
      omega
  exact key (n - m - 1).toNat n (by omega) h2
theorem Valid.range {y m e : Int} (v : Valid y m e) : ybeg y ≤ dayOf y m e ∧ dayOf y m e < ybeg (y + 1) := by
  have h1 : 0 ≤ bf (leap y) m := by
    by_cases h : m = 1
    · rw [h, bf_first]; exact Int.le_refl _
    · have q := bf_mono (L := leap y) (m := 1) (n := m) (by omega) (by have := v.m1; omega) (by have := v.m2; omega)
      have p := (ml_pos (L := leap y) (m := 1) (by omega) (by omega)).1
      rw [bf_first] at q
      omega
  have h2 := bf_mono (L := leap y) (m := m) (n := 13) v.m1 (by have := v.m2; omega) (by omega)
  rw [bf_last] at h2
  have h3 := ybeg_next y
  have h4 := v.e2
  have h5 := v.e1
  unfold mlen at h4
  unfold dayOf
  omega
theorem ybeg_mono {y z : Int} (h : y ≤ z) : ybeg y ≤ ybeg z := by unfold ybeg; omega
theorem Valid.inj {y m e y' m' e' : Int} (v : Valid y m e) (v' : Valid y' m' e') (h : dayOf y m e = dayOf y' m' e') : y = y' ∧ m = m' ∧ e = e' := by
  have r := v.range
  have r' := v'.range
  have hy : y = y' := by
    rcases Int.lt_trichotomy y y' with q | q | q
    · have := ybeg_mono (show y + 1 ≤ y' by omega); omega
    · exact q
    · have := ybeg_mono (show y' + 1 ≤ y by omega); omega
  subst hy
  have a := v.e2; have a' := v'.e2; have b := v.e1; have b' := v'.e1
  unfold mlen at a a'
  unfold dayOf at h
  have hm : m = m' := by
    rcases Int.lt_trichotomy m m' with q | q | q
    · have := bf_mono (L := leap y) v.m1 q (by have := v'.m2; omega); omega
    · exact q
    · have := bf_mono (L := leap y) v'.m1 q (by have := v.m2; omega); omega
  subst hm
  refine ⟨rfl, rfl, by omega⟩
end My

namespace My
structure Sc (R : Rat → Rat → Prop) (len : Rat) : Prop where
  lo : ∀ {v r : Rat}, R v r → 0 ≤ r
  hi : ∀ {v r : Rat}, R v r → r ≤ len
  up : ∀ {v w r s : Rat}, R v r → R w s → v < w → r < s
  fn : ∀ {v r s : Rat}, R v r → R v s → r = s
theorem Sc.lt {R : Rat → Rat → Prop} {len : Rat} (S : Sc R len) {v w r s : Rat} (h1 : R v r) (h2 : R w s) : v < w ↔ r < s := by
  refine ⟨S.up h1 h2, fun h => ?_⟩
  rcases (Rat.le_total : v ≤ w ∨ w ≤ v) with z | z
  · rcases Rat.le_iff_lt_or_eq.mp z with y | y
    · exact y
    · subst y
      have := S.fn h1 h2
      grind
  · rcases Rat.le_iff_lt_or_eq.mp z with y | y
    · have := S.up h2 h1 y
      grind
    · subst y
      have := S.fn h1 h2
      grind
theorem Sc.eq {R : Rat → Rat → Prop} {len : Rat} (S : Sc R len) {v w r s : Rat} (h1 : R v r) (h2 : R w s) : v = w ↔ r = s := by
  have a := S.lt h1 h2
  have b := S.lt h2 h1
  rcases (Rat.le_total : v ≤ w ∨ w ≤ v) with z | z <;> rcases (Rat.le_total : r ≤ s ∨ s ≤ r) with y | y <;> grind
noncomputable def RStr (A C L : Rat) : Rat → Rat → Prop := fun v r => A ≤ v ∧ v ≤ C ∧ r = (v - A) / (C - A) * L
theorem div_lt_div {x y d : Rat} (hd : 0 < d) (h : x < y) : x / d < y / d := by
  rw [Rat.div_lt_iff hd]
  have : y / d * d = y := by grind
  rw [this]
  exact h
theorem along_lt {A C F T v w : Rat} (h : A < C) (hf : F < T) (hv : v < w) : F + (v - A) / (C - A) * (T - F) < F + (w - A) / (C - A) * (T - F) := by
  have h1 : (v - A) / (C - A) < (w - A) / (C - A) := div_lt_div (by grind) (by grind)
  have h2 : (v - A) / (C - A) * (T - F) < (w - A) / (C - A) * (T - F) := Rat.mul_lt_mul_of_pos_right h1 (by grind)
  grind
theorem Sc.str {A C L : Rat} (h : A < C) (hl : 0 < L) : Sc (RStr A C L) L where
  lo := fun ⟨a, b, e⟩ => by
    have := (along_in (F := 0) (T := L) h hl a b).1
    grind
  hi := fun ⟨a, b, e⟩ => by
    have := (along_in (F := 0) (T := L) h hl a b).2
    grind
  up := fun ⟨a, b, e⟩ ⟨c, d, f⟩ z => by
    have := along_lt (F := 0) (T := L) h hl z
    grind
  fn := fun ⟨_, _, e⟩ ⟨_, _, f⟩ => by rw [e, f]
structure Pq where
  (A C F T : Rat)
noncomputable def RBrk (ps : List Pq) : Rat → Rat → Prop := fun v r => ∃ x ∈ ps, x.A ≤ v ∧ v ≤ x.C ∧ r = x.F + (v - x.A) / (x.C - x.A) * (x.T - x.F)
theorem Sc.brk {ps : List Pq} {L : Rat} (h1 : ∀ x ∈ ps, x.A < x.C ∧ x.F < x.T ∧ 0 ≤ x.F ∧ x.T ≤ L) (h2 : ∀ x ∈ ps, ∀ y ∈ ps, x = y ∨ (x.C < y.A ∧ x.T < y.F) ∨ (y.C < x.A ∧ y.T < x.F)) : Sc (RBrk ps) L where
  lo := fun ⟨x, hx, a, b, e⟩ => by
    obtain ⟨w1, w2, w3, w4⟩ := h1 x hx
    have := (along_in w1 w2 a b).1
    grind
  hi := fun ⟨x, hx, a, b, e⟩ => by
    obtain ⟨w1, w2, w3, w4⟩ := h1 x hx
    have := (along_in w1 w2 a b).2
    grind
  up := fun ⟨x, hx, a, b, e⟩ ⟨y, hy, c, d, f⟩ z => by
    obtain ⟨w1, w2, w3, w4⟩ := h1 x hx
    obtain ⟨v1, v2, v3, v4⟩ := h1 y hy
    have p := (along_in w1 w2 a b).2
    have q := (along_in v1 v2 c d).1
    rcases h2 x hx y hy with k | ⟨k1, k2⟩ | ⟨k1, k2⟩
    · subst k
      have := along_lt w1 w2 z
      grind
    · grind
    · grind
  fn := fun ⟨x, hx, a, b, e⟩ ⟨y, hy, c, d, f⟩ => by
    rcases h2 x hx y hy with k | ⟨k1, k2⟩ | ⟨k1, k2⟩
    · subst k; rw [e, f]
    · grind
    · grind
end My

namespace My
end My

namespace L2
open PySem PySem.Spec PyProof.Rows
noncomputable def rIsN : R2 := fun x y H Q => y = .non ∧ Q (.bl (decide (x = .non))) H
noncomputable def rNotN : R2 := fun x y H Q => y = .non ∧ Q (.bl (!decide (x = .non))) H
theorem op_isN' {X : Cx} : OpR X (compareOp .Is) rIsN := op_isN
theorem op_notN' {X : Cx} : OpR X (compareOp .IsNot) rNotN := op_notN
noncomputable def MkT (xs : List V) (H : Hp) (Q : VK) : Prop := xs.length ≤ sizeLine ∧ ∀ p, H p = none → Q (.ref p) (upd H p (.tup xs))
noncomputable def MkL (xs : List V) (H : Hp) (Q : VK) : Prop := xs.length ≤ sizeLine ∧ ∀ p, H p = none → Q (.ref p) (upd H p (.lst xs))
inductive SetTo : St → Nat → Option V → St → Prop
  | here {x : Option V} {r : St} {v : Option V} : SetTo (x :: r) 0 v (v :: r)
  | next {x : Option V} {r : St} {v : Option V} {i : Nat} {r' : St} : SetTo r i v r' → SetTo (x :: r) (i + 1) v (x :: r')
theorem SetTo.eq {σ σ' : St} {i : Nat} {v : Option V} (h : SetTo σ i v σ') : σ.set i v = σ' := by
  induction h with
  | here => rfl
  | next _ ih => rw [List.set_cons_succ, ih]
inductive GetTo : St → Nat → V → Prop
  | here {v : V} {r : St} : GetTo (some v :: r) 0 v
  | next {x : Option V} {r : St} {v : V} {i : Nat} : GetTo r i v → GetTo (x :: r) (i + 1) v
theorem GetTo.eq {σ : St} {i : Nat} {v : V} (h : GetTo σ i v) : σ[i]? = some (some v) := by
  induction h with
  | here => rfl
  | next _ ih => rw [List.getElem?_cons_succ, ih]
section
variable {σ σ' : St} {H : Hp} {Q : VK} {i j : Int} {k : Nat} {v x y : V} {te ta tb tc : TE} {t u : TS} {nx bk ct : St → Hp → Prop} {rt : VK} {c d : TT} {R : Bool → Hp → Prop} {r r' : R2} {b : Bool}
theorem z_var (h : GetTo σ k v) (q : Q v H) : tVar k σ H Q := ⟨v, h.eq, q⟩
theorem z_c (q : Q v H) : tC v σ H Q := q
theorem z_op (h : ta σ H fun x H1 => tb σ H1 fun y H2 => r x y H2 Q) : tOp r ta tb σ H Q := h
theorem z_un {r : V → Hp → VK → Prop} (h : ta σ H fun x H1 => r x H1 Q) : tUn r ta σ H Q := h
theorem z_I {C : Int → Int → Prop} {g : Int → Int → V} (hc : C i j) (q : Q (g i j) H) : rI C g (.int i) (.int j) H Q := ⟨i, j, rfl, rfl, hc, q⟩
theorem z_I0 {g : Int → Int → V} (q : Q (g i j) H) : rI0 g (.int i) (.int j) H Q := ⟨i, j, rfl, rfl, q⟩
theorem z_U {g : Int → V} (q : Q (g i) H) : rU g (.int i) H Q := ⟨i, rfl, q⟩
theorem zdec_int : decide (V.int i = V.int j) = decide (i = j) := by
  by_cases h : i = j
  · subst h; simp
  · rw [decide_eq_false h, decide_eq_false (fun z => h (V.int.inj z))]
theorem zdec_str {a b : Str} : decide (V.str a = V.str b) = decide (a = b) := by
  by_cases h : a = b
  · subst h; simp
  · rw [decide_eq_false h, decide_eq_false (fun z => h (V.str.inj z))]
theorem z_EqI (q : Q (.bl (decide (i = j))) H) : rEq (.int i) (.int j) H Q := ⟨rfl, by rw [zdec_int]; exact q⟩
theorem z_NeI (q : Q (.bl (!decide (i = j))) H) : rNe (.int i) (.int j) H Q := ⟨rfl, by rw [zdec_int]; exact q⟩
theorem z_EqS {a b : Str} (q : Q (.bl (decide (a = b))) H) : rEq (.str a) (.str b) H Q := ⟨rfl, by rw [zdec_str]; exact q⟩
theorem z_NeS {a b : Str} (q : Q (.bl (!decide (a = b))) H) : rNe (.str a) (.str b) H Q := ⟨rfl, by rw [zdec_str]; exact q⟩
theorem z_test (h : te σ H fun x H' => ∃ k, x = .bl k ∧ R k H') : tTest te σ H R := h
theorem z_tB (h : te σ H fun x H' => ∃ k, x = .bl k ∧ R k H') : tB te σ H R := h
theorem z_ebl {S : Bool → Prop} (q : S b) : ∃ k, V.bl b = .bl k ∧ S k := ⟨b, rfl, q⟩
theorem z_and (h : c σ H fun k H1 => if k = true then d σ H1 R else R false H1) : tAnd c d σ H R := h
theorem z_or (h : c σ H fun k H1 => if k = true then R true H1 else d σ H1 R) : tOr c d σ H R := h
theorem z_not (h : c σ H fun k H1 => R (!k) H1) : tNot c σ H R := h
theorem z_andV (h : ta σ H fun x H1 => ∃ c, x = .bl c ∧ if c = true then tb σ H1 Q else Q (.bl false) H1) : tAndV ta tb σ H Q := h
theorem z_orV (h : ta σ H fun x H1 => ∃ c, x = .bl c ∧ if c = true then Q (.bl true) H1 else tb σ H1 Q) : tOrV ta tb σ H Q := h
theorem z_notV (h : ta σ H fun x H1 => ∃ c, x = .bl c ∧ Q (.bl (!c)) H1) : tNotV ta σ H Q := h
theorem z_if (h : c σ H fun k H1 => if k = true then ta σ H1 Q else tb σ H1 Q) : tIf c ta tb σ H Q := h
theorem z_chain (h : ta σ H fun x H1 => tb σ H1 fun y H2 => r x y H2 fun z H3 => ∃ k, z = .bl k ∧ (if k = true then tc σ H3 fun w' H4 => r' y w' H4 Q else Q (.bl false) H3)) : tChain r r' ta tb tc σ H Q := h
theorem z_nil {S : List V → Hp → Prop} (q : S [] H) : tNil σ H S := q
theorem z_cons {S : List V → Hp → Prop} {tr : TA} (h : ta σ H fun x H1 => tr σ H1 fun xs H2 => S (x :: xs) H2) : tCons ta tr σ H S := h
theorem z_seq (h : t ⟨u ⟨nx, rt, bk, ct⟩, rt, bk, ct⟩ σ H) : tSeq t u ⟨nx, rt, bk, ct⟩ σ H := h
theorem z_next (h : nx σ H) : tNext ⟨nx, rt, bk, ct⟩ σ H := h
theorem z_drop (h : te σ H fun _ H1 => nx σ H1) : tDrop te ⟨nx, rt, bk, ct⟩ σ H := h
theorem z_ret (h : te σ H rt) : tRet te ⟨nx, rt, bk, ct⟩ σ H := h
theorem z_ifs (h : c σ H fun b H1 => if b = true then t ⟨nx, rt, bk, ct⟩ σ H1 else u ⟨nx, rt, bk, ct⟩ σ H1) : tIfS c t u ⟨nx, rt, bk, ct⟩ σ H := h
theorem z_asg {g : TG} (h : te σ H fun x H1 => g x σ H1 nx) : tAsg te g ⟨nx, rt, bk, ct⟩ σ H := h
theorem z_name {S : St → Hp → Prop} (h : SetTo σ k (some v) σ') (q : S σ' H) : gName k v σ H S := by
  show S (σ.set k (some v)) H
  rw [h.eq]; exact q
theorem z_par {i j : Nat} {tA : TA} (h : tA σ H fun vs H1 => ∃ v w, vs = [v, w] ∧ nx ((σ.set i (some v)).set j (some w)) H1) : tPar i j tA ⟨nx, rt, bk, ct⟩ σ H := h
theorem z_par2 {i j : Nat} {v w : V} {σ2 : St} (h1 : SetTo σ i (some v) σ') (h2 : SetTo σ' j (some w) σ2) (q : nx σ2 H) : ∃ v' w', [v, w] = [v', w'] ∧ nx ((σ.set i (some v')).set j (some w')) H := ⟨v, w, rfl, by rw [h1.eq, h2.eq]; exact q⟩
theorem z_iteD {c A B : Prop} [Decidable c] (h1 : c → A) (h2 : ¬ c → B) : if decide c = true then A else B := by
  by_cases h : c
  · rw [decide_eq_true h]; exact iteT (h1 h)
  · rw [decide_eq_false h]; exact iteF (h2 h)
theorem z_iteNb {b : Bool} {A B : Prop} (h : if b = true then B else A) : if (!b) = true then A else B := by
  cases b with
  | true => exact iteF h
  | false => exact iteT h
theorem z_call0 {sp : Sp} {E : XK} {tA : TA} (h : tA σ H fun vs H1 => sp vs H1 Q E) : tCall sp [] E tA σ H Q := by
  unfold tCall
  simpa using h
theorem z_callD {sp : Sp} {E : XK} {tA : TA} {w : V} (h : tA σ H fun vs H1 => sp (vs ++ [w]) H1 Q E) : tCall sp [w] E tA σ H Q := h
theorem z_cb {rr : List V → Hp → VK → Prop} {tA : TA} (h : tA σ H fun vs H1 => rr vs H1 Q) : tCB rr tA σ H Q := h
theorem z_e1 {S : Int → Prop} (q : S i) : ∃ i', [V.int i] = [.int i'] ∧ S i' := ⟨i, rfl, q⟩
theorem z_e2 {S : Int → Int → Prop} (q : S i j) : ∃ i' j', [V.int i, V.int j] = [.int i', .int j'] ∧ S i' j' := ⟨i, j, rfl, q⟩
theorem z_tup {tA : TA} (h : tA σ H fun xs H1 => MkT xs H1 Q) : tTup tA σ H Q := h
theorem z_mkt {xs : List V} (hl : xs.length ≤ 100) (q : ∀ p H', H p = none → Same H H' → H' p = some (.tup xs) → Q (.ref p) H') : MkT xs H Q :=
  ⟨Nat.le_trans hl (by decide), fun p hp => q p _ hp (Same.new hp _) upd_same⟩
theorem z_ixT {K : PySem.W.Frag} {p : Addr} {xs : List V} (hs : SqT K H p xs) (ha : atI xs i = some v) (q : Q v H) : rIxT K (.ref p) (.int i) H Q := ⟨p, xs, i, v, rfl, rfl, hs, ha, q⟩
theorem z_ixL {K : PySem.W.Frag} {p : Addr} {xs : List V} (hs : SqL K H p xs) (ha : atI xs i = some v) (q : Q v H) : rIxL K (.ref p) (.int i) H Q := ⟨p, xs, i, v, rfl, rfl, hs, ha, q⟩
theorem z_nonN (q : Q (.bl true) H) : rIsN .non .non H Q := ⟨rfl, q⟩
theorem z_nonI (q : Q (.bl false) H) : rIsN (.int i) .non H Q := ⟨rfl, q⟩
theorem z_nonS {a : Str} (q : Q (.bl false) H) : rIsN (.str a) .non H Q := ⟨rfl, q⟩
theorem z_nonR {p : Addr} (q : Q (.bl false) H) : rIsN (.ref p) .non H Q := ⟨rfl, q⟩
theorem z_notN (q : Q (.bl false) H) : rNotN .non .non H Q := ⟨rfl, q⟩
theorem z_notI (q : Q (.bl true) H) : rNotN (.int i) .non H Q := ⟨rfl, q⟩
theorem z_notS {a : Str} (q : Q (.bl true) H) : rNotN (.str a) .non H Q := ⟨rfl, q⟩
theorem z_notR {p : Addr} (q : Q (.bl true) H) : rNotN (.ref p) .non H Q := ⟨rfl, q⟩
theorem z_len {K : PySem.W.Frag} {p : Addr} {ys : List V} {S : List V → Prop} (hs : SqL K H p ys ∨ SqT K H p ys) (q : S ys) : ∃ p' ys', [V.ref p] = [V.ref p'] ∧ (SqL K H p' ys' ∨ SqT K H p' ys') ∧ S ys' := ⟨p, ys, rfl, hs, q⟩
theorem z_toI {S1 S2 : Int → Prop} {S3 : Bool → Prop} (q : S1 i) : (∃ i', [V.int i] = [.int i'] ∧ S1 i') ∨ ∃ k, [V.int i] = [.bl k] ∧ S3 k := .inl ⟨i, rfl, q⟩
theorem z_toB {S1 : Int → Prop} {S3 : Bool → Prop} (q : S3 b) : (∃ i', [V.bl b] = [.int i'] ∧ S1 i') ∨ ∃ k, [V.bl b] = [.bl k] ∧ S3 k := .inr ⟨b, rfl, q⟩
theorem z_gtup {K : PySem.W.Frag} {p : Addr} {n : Nat} {tg : TGs} {xs : List V} {S : St → Hp → Prop} (hs : SqT K H p xs) (hl : xs.length = n) (q : tg xs σ H S) : gTup K n tg (.ref p) σ H S := ⟨p, xs, rfl, hs, hl, q⟩
theorem z_gnil {S : St → Hp → Prop} (q : S σ H) : gNil [] σ H S := ⟨rfl, q⟩
theorem z_gcons {g : TG} {tg : TGs} {v : V} {r : List V} {S : St → Hp → Prop} (q : g v σ H fun σ' H' => tg r σ' H' S) : gCons g tg (v :: r) σ H S := ⟨v, r, rfl, q⟩
theorem z_sl {r : V → Option Int → Option Int → Hp → VK → Prop} {tl th : TO} (h : te σ H fun x H1 => tl σ H1 fun l H2 => th σ H2 fun u H3 => r x l u H3 Q) : tSl r te tl th σ H Q := h
theorem z_noP {S : Option Int → Hp → Prop} (q : S none H) : tNoPart σ H S := q
theorem z_part {S : Option Int → Hp → Prop} (h : te σ H fun x H1 => ∃ i, x = .int i ∧ S (some i) H1) : tPart te σ H S := h
theorem z_eint {S : Int → Prop} (q : S i) : ∃ i', V.int i = .int i' ∧ S i' := ⟨i, rfl, q⟩
theorem z_lst {tA : TA} (h : tA σ H fun xs H1 => MkL xs H1 Q) : tLst tA σ H Q := h
theorem z_mkl {xs : List V} (hl : xs.length ≤ 100) (q : ∀ p H', H p = none → Same H H' → H' p = some (.lst xs) → Q (.ref p) H') : MkL xs H Q :=
  ⟨Nat.le_trans hl (by decide), fun p hp => q p _ hp (Same.new hp _) upd_same⟩
theorem z_bm {K : PySem.W.Frag} {T : String} {rr : V → List V → Hp → VK → Prop} {tA : TA} (h : te σ H fun x H1 => tyV K T x H1 ∧ tA σ H1 fun xs H2 => rr x xs H2 Q) : tBM K T rr te tA σ H Q := h
end
theorem sm2 {A B C : Hp} (g : Same B C) (h : Same A B) : Same A C := h.trans g
noncomputable def But (l : Addr) (H H' : Hp) : Prop := ∀ b o, b ≠ l → H b = some o → H' b = some o
theorem But.upd {H : Hp} {l : Addr} {o : HO} : But l H (upd H l o) := fun b u hb q => by rw [upd_ne hb]; exact q
theorem But.tup {K : PySem.W.Frag} {H H' : Hp} {l a : Addr} {xs ys : List V} (e : But l H H') (hl : H l = some (.lst ys)) (h : SqT K H a xs) : SqT K H' a xs := by
  rcases h with (h | ⟨o, h⟩) | h
  · exact .inl (.inl (e _ _ (fun z => by rw [z, hl] at h; cases h) h))
  · exact .inl (.inr ⟨o, e _ _ (fun z => by rw [z, hl] at h; cases h) h⟩)
  · exact .inr h
theorem But.seq {K : PySem.W.Frag} {H H' : Hp} {l a : Addr} {xs : List V} (e : But l H H') (hne : a ≠ l) (h : SqL K H a xs) : SqL K H' a xs := by
  rcases h with (h | ⟨o, h⟩) | h
  · exact .inl (.inl (e _ _ hne h))
  · exact .inl (.inr ⟨o, e _ _ hne h⟩)
  · exact .inr h
section
variable {σ σ' : St} {H : Hp} {Q : VK}
theorem z_append {l : Addr} {xs : List V} {v : V} (h : H l = some (.lst xs)) (hl : xs.length < sizeLine) (q : ∀ H', But l H H' → H' l = some (.lst (xs ++ [v])) → Q .non H') : rAppend (.ref l) [v] H Q :=
  ⟨l, xs, v, rfl, rfl, h, hl, q _ But.upd upd_same⟩
end
section
variable {σ : St} {H : Hp} {te : TE} {tb : TS} {g : TG} {nx bk ct : St → Hp → Prop} {rt : VK} {wi : TI} {K : PySem.W.Frag} {a : Addr} {xs : List V}
noncomputable def FW (J : It) (g : TG) (tb : TS) (nx : St → Hp → Prop) (rt : VK) (σ : St) (H : Hp) : Prop := ∃ W : Nat → Nat → St → Hp → Prop, (∃ m, W 0 m σ H) ∧ ∀ i m σ H, W i m σ H →
  (J.stop i H ∧ nx σ H) ∨ (J.go i H ∧ ∃ N : St → Hp → Prop, (∀ σ' H', N σ' H' → ∃ m', m' < m ∧ W (i + 1) m' σ' H') ∧ ∀ x H', J.yld i H x H' → g x σ H' fun σ2 H2 => tb ⟨N, rt, nx, N⟩ σ2 H2)
theorem z_for (h : wi σ H fun J H1 => FW J g tb nx rt σ H1) : tFor wi g tb ⟨nx, rt, bk, ct⟩ σ H := h
theorem z_iL {R : It → Hp → Prop} (h : te σ H fun x H1 => ∃ a, x = .ref a ∧ (∃ xs, SqL K H1 a xs) ∧ R (Itl K a) H1) : iList K te σ H R := h
theorem z_iT {R : It → Hp → Prop} (h : te σ H fun x H1 => ∃ a, x = .ref a ∧ (∃ xs, SqT K H1 a xs) ∧ R (Itt K a) H1) : iTup K te σ H R := h
theorem z_iL2 {S : Addr → Prop} (hs : SqL K H a xs) (q : S a) : ∃ a', V.ref a = .ref a' ∧ (∃ xs, SqL K H a' xs) ∧ S a' := ⟨a, rfl, ⟨xs, hs⟩, q⟩
theorem z_iT2 {S : Addr → Prop} (hs : SqT K H a xs) (q : S a) : ∃ a', V.ref a = .ref a' ∧ (∃ xs, SqT K H a' xs) ∧ S a' := ⟨a, rfl, ⟨xs, hs⟩, q⟩
theorem z_iR1 {tA : TA} {R : It → Hp → Prop} (h : tA σ H fun vs H1 => ∃ j : Int, vs = [.int j] ∧ -(2 ^ 62) ≤ j ∧ j < 2 ^ 62 ∧ R (Itr 0 j.toNat) H1) : iRng1 tA σ H R := h
theorem z_iR2 {tA : TA} {R : It → Hp → Prop} (h : tA σ H fun vs H1 => ∃ i j : Int, vs = [.int i, .int j] ∧ (-(2 ^ 62) ≤ i ∧ i < 2 ^ 62 ∧ -(2 ^ 62) ≤ j ∧ j < 2 ^ 62) ∧ R (Itr i (j - i).toNat) H1) : iRng2 tA σ H R := h
theorem z_iR3 {tA : TA} {R : It → Hp → Prop} (h : tA σ H fun vs H1 => ∃ i j c : Int, vs = [.int i, .int j, .int c] ∧ 0 < c ∧ c < 1073741824 ∧ Builtin.Range.small i j c = true ∧ R (Itr3 i c (rngN i j c)) H1) : iRng3 tA σ H R := h
theorem z_r1c {J : It} {j : Int} (h1 : -(2 ^ 62) ≤ j) (h2 : j < 2 ^ 62) (q : FW J g tb nx rt σ H) : -(2 ^ 62) ≤ j ∧ j < 2 ^ 62 ∧ FW J g tb nx rt σ H := ⟨h1, h2, q⟩
theorem z_r2c {J : It} {i j : Int} (h1 : -(2 ^ 62) ≤ i) (h2 : i < 2 ^ 62) (h3 : -(2 ^ 62) ≤ j) (h4 : j < 2 ^ 62) (q : FW J g tb nx rt σ H) : (-(2 ^ 62) ≤ i ∧ i < 2 ^ 62 ∧ -(2 ^ 62) ≤ j ∧ j < 2 ^ 62) ∧ FW J g tb nx rt σ H := ⟨⟨h1, h2, h3, h4⟩, q⟩
theorem f_list (Pv : Nat → St → Hp → Prop) (h0 : Pv 0 σ H) (hl : ∀ i σ H, i ≤ xs.length → Pv i σ H → SqL K H a xs)
    (hs : ∀ i x σ H, xs[i]? = some x → Pv i σ H → g x σ H fun σ2 H2 => tb ⟨Pv (i + 1), rt, nx, Pv (i + 1)⟩ σ2 H2) (hd : ∀ σ H, Pv xs.length σ H → nx σ H) : FW (Itl K a) g tb nx rt σ H := for_list (D := ⟨nx, rt, nx, nx⟩) Pv h0 hl hs hd
theorem f_range {lo : Int} {n : Nat} (Pv : Nat → St → Hp → Prop) (h0 : Pv 0 σ H)
    (hs : ∀ i σ H, i < n → Pv i σ H → g (.int (lo + i)) σ H fun σ2 H2 => tb ⟨Pv (i + 1), rt, nx, Pv (i + 1)⟩ σ2 H2) (hd : ∀ σ H, Pv n σ H → nx σ H) : FW (Itr lo n) g tb nx rt σ H := for_range (D := ⟨nx, rt, nx, nx⟩) Pv h0 hs hd
theorem z_while {c : TT} (W : Nat → St → Hp → Prop) (m0 : Nat) (h0 : W m0 σ H)
    (hs : ∀ m σ H, W m σ H → c σ H fun b H1 => if b = true then ∃ N : St → Hp → Prop, (∀ σ' H', N σ' H' → ∃ m', m' < m ∧ W m' σ' H') ∧ tb ⟨N, rt, nx, N⟩ σ H1 else nx σ H1) : tWhile c tb ⟨nx, rt, bk, ct⟩ σ H := ⟨W, ⟨m0, h0⟩, hs⟩
theorem z_whN {W : Nat → St → Hp → Prop} {m : Nat} (h : tb ⟨fun σ' H' => ∃ m', m' < m ∧ W m' σ' H', rt, nx, fun σ' H' => ∃ m', m' < m ∧ W m' σ' H'⟩ σ H) : ∃ N : St → Hp → Prop, (∀ σ' H', N σ' H' → ∃ m', m' < m ∧ W m' σ' H') ∧ tb ⟨N, rt, nx, N⟩ σ H := ⟨_, fun _ _ z => z, h⟩
end
noncomputable def IsiG (K : PySem.W.Frag) (n : String) (f : Tg → Bool) (xs : List V) (H : Hp) (Q : VK) : Prop := rIsi K n f xs H Q
theorem z_isi0 {K : PySem.W.Frag} {n : String} {f : Tg → Bool} {xs : List V} {H : Hp} {Q : VK} (h : IsiG K n f xs H Q) : rIsi K n f xs H Q := h
section
variable {H : Hp} {Q : VK} {K : PySem.W.Frag} {i : Int} {a : Str} {b : Bool} {p : Addr} {xs : List V}
theorem z_isN_int (q : Q (.bl false) H) : IsiG K "int" Tg.isInt [.non, .ty "int"] H Q := ⟨_, .non, rfl, True.intro, q⟩
theorem z_isB_int (q : Q (.bl true) H) : IsiG K "int" Tg.isInt [.bl b, .ty "int"] H Q := ⟨_, .bl, rfl, True.intro, q⟩
theorem z_isI_int (q : Q (.bl true) H) : IsiG K "int" Tg.isInt [.int i, .ty "int"] H Q := ⟨_, .int, rfl, True.intro, q⟩
theorem z_isS_int (q : Q (.bl false) H) : IsiG K "int" Tg.isInt [.str a, .ty "int"] H Q := ⟨_, .str, rfl, True.intro, q⟩
theorem z_isT_int (hs : SqT K H p xs) (q : Q (.bl false) H) : IsiG K "int" Tg.isInt [.ref p, .ty "int"] H Q := ⟨_, .tup, rfl, ⟨xs, hs⟩, q⟩
theorem z_isL_int (hs : SqL K H p xs) (q : Q (.bl false) H) : IsiG K "int" Tg.isInt [.ref p, .ty "int"] H Q := ⟨_, .lst, rfl, ⟨xs, hs⟩, q⟩
theorem z_isN_bool (q : Q (.bl false) H) : IsiG K "bool" Tg.isBool [.non, .ty "bool"] H Q := ⟨_, .non, rfl, True.intro, q⟩
theorem z_isB_bool (q : Q (.bl true) H) : IsiG K "bool" Tg.isBool [.bl b, .ty "bool"] H Q := ⟨_, .bl, rfl, True.intro, q⟩
theorem z_isI_bool (q : Q (.bl false) H) : IsiG K "bool" Tg.isBool [.int i, .ty "bool"] H Q := ⟨_, .int, rfl, True.intro, q⟩
theorem z_isS_bool (q : Q (.bl false) H) : IsiG K "bool" Tg.isBool [.str a, .ty "bool"] H Q := ⟨_, .str, rfl, True.intro, q⟩
theorem z_isT_bool (hs : SqT K H p xs) (q : Q (.bl false) H) : IsiG K "bool" Tg.isBool [.ref p, .ty "bool"] H Q := ⟨_, .tup, rfl, ⟨xs, hs⟩, q⟩
theorem z_isL_bool (hs : SqL K H p xs) (q : Q (.bl false) H) : IsiG K "bool" Tg.isBool [.ref p, .ty "bool"] H Q := ⟨_, .lst, rfl, ⟨xs, hs⟩, q⟩
theorem z_isN_str (q : Q (.bl false) H) : IsiG K "str" Tg.isStr [.non, .ty "str"] H Q := ⟨_, .non, rfl, True.intro, q⟩
theorem z_isB_str (q : Q (.bl false) H) : IsiG K "str" Tg.isStr [.bl b, .ty "str"] H Q := ⟨_, .bl, rfl, True.intro, q⟩
theorem z_isI_str (q : Q (.bl false) H) : IsiG K "str" Tg.isStr [.int i, .ty "str"] H Q := ⟨_, .int, rfl, True.intro, q⟩
theorem z_isS_str (q : Q (.bl true) H) : IsiG K "str" Tg.isStr [.str a, .ty "str"] H Q := ⟨_, .str, rfl, True.intro, q⟩
theorem z_isT_str (hs : SqT K H p xs) (q : Q (.bl false) H) : IsiG K "str" Tg.isStr [.ref p, .ty "str"] H Q := ⟨_, .tup, rfl, ⟨xs, hs⟩, q⟩
theorem z_isL_str (hs : SqL K H p xs) (q : Q (.bl false) H) : IsiG K "str" Tg.isStr [.ref p, .ty "str"] H Q := ⟨_, .lst, rfl, ⟨xs, hs⟩, q⟩
theorem z_isN_tuple (q : Q (.bl false) H) : IsiG K "tuple" Tg.isTup [.non, .ty "tuple"] H Q := ⟨_, .non, rfl, True.intro, q⟩
theorem z_isB_tuple (q : Q (.bl false) H) : IsiG K "tuple" Tg.isTup [.bl b, .ty "tuple"] H Q := ⟨_, .bl, rfl, True.intro, q⟩
theorem z_isI_tuple (q : Q (.bl false) H) : IsiG K "tuple" Tg.isTup [.int i, .ty "tuple"] H Q := ⟨_, .int, rfl, True.intro, q⟩
theorem z_isS_tuple (q : Q (.bl false) H) : IsiG K "tuple" Tg.isTup [.str a, .ty "tuple"] H Q := ⟨_, .str, rfl, True.intro, q⟩
theorem z_isT_tuple (hs : SqT K H p xs) (q : Q (.bl true) H) : IsiG K "tuple" Tg.isTup [.ref p, .ty "tuple"] H Q := ⟨_, .tup, rfl, ⟨xs, hs⟩, q⟩
theorem z_isL_tuple (hs : SqL K H p xs) (q : Q (.bl false) H) : IsiG K "tuple" Tg.isTup [.ref p, .ty "tuple"] H Q := ⟨_, .lst, rfl, ⟨xs, hs⟩, q⟩
theorem z_isN_list (q : Q (.bl false) H) : IsiG K "list" Tg.isLst [.non, .ty "list"] H Q := ⟨_, .non, rfl, True.intro, q⟩
theorem z_isB_list (q : Q (.bl false) H) : IsiG K "list" Tg.isLst [.bl b, .ty "list"] H Q := ⟨_, .bl, rfl, True.intro, q⟩
theorem z_isI_list (q : Q (.bl false) H) : IsiG K "list" Tg.isLst [.int i, .ty "list"] H Q := ⟨_, .int, rfl, True.intro, q⟩
theorem z_isS_list (q : Q (.bl false) H) : IsiG K "list" Tg.isLst [.str a, .ty "list"] H Q := ⟨_, .str, rfl, True.intro, q⟩
theorem z_isT_list (hs : SqT K H p xs) (q : Q (.bl false) H) : IsiG K "list" Tg.isLst [.ref p, .ty "list"] H Q := ⟨_, .tup, rfl, ⟨xs, hs⟩, q⟩
theorem z_isL_list (hs : SqL K H p xs) (q : Q (.bl true) H) : IsiG K "list" Tg.isLst [.ref p, .ty "list"] H Q := ⟨_, .lst, rfl, ⟨xs, hs⟩, q⟩
end
theorem bd_mul {m n : Nat} {x y : Int} (h : My.Bd m x) (g : My.Bd n y) : My.Bd (m + n) (x * y) := h.mul g
theorem bd_add {m n : Nat} {x y : Int} (h : My.Bd m x) (g : My.Bd n y) : My.Bd (max m n + 1) (x + y) := (h.mono (show m ≤ max m n by omega)).add (g.mono (show n ≤ max m n by omega))
theorem bd_sub {m n : Nat} {x y : Int} (h : My.Bd m x) (g : My.Bd n y) : My.Bd (max m n + 1) (x - y) := (h.mono (show m ≤ max m n by omega)).sub (g.mono (show n ≤ max m n by omega))
theorem bd_60 {n : Int} (h1 : -1152921504606846976 < n) (h2 : n < 1152921504606846976) : My.Bd 60 n := by unfold My.Bd; omega
theorem bt_min : bootBuiltins "min" = some (.builtin "min") := by decide +kernel
theorem Same.but {H H2 H3 : Hp} {l : Addr} (s : Same H H2) (n : H l = none) (b : But l H2 H3) : Same H H3 := fun c o e => b c o (fun z => by rw [z, n] at e; cases e) (s c o e)
theorem z_tyL {K : PySem.W.Frag} {l : Addr} {xs : List V} {H : Hp} {S : Prop} (h : SqL K H l xs) (q : S) : tyV K "list" (.ref l) H ∧ S := ⟨.inl ⟨rfl, xs, h⟩, q⟩
theorem z_joinI {c : TT} {te : TE} {k : Nat} {σ σ' : St} {H : Hp} {R bk ct : St → Hp → Prop} {rt : VK} (b : Bool) (i1 i2 : Int) (hc : ∀ S : Bool → Hp → Prop, S b H → c σ H S) (h1 : b = true → ∀ S : V → Hp → Prop, S (.int i1) H → te σ H S) (hold : GetTo σ k (.int i2)) (hs : SetTo σ k (some (.int (if b = true then i1 else i2))) σ') (q : R σ' H) :
    tIfS c (tAsg te (gName k)) tNext ⟨R, rt, bk, ct⟩ σ H := by
  refine hc _ ?_
  cases b with
  | true =>
    refine iteT (h1 rfl _ ?_)
    show R (σ.set k (some (.int i1))) H
    have := hs.eq
    rw [if_pos rfl] at this
    rw [this]; exact q
  | false =>
    refine iteF ?_
    show R σ H
    have e := hs.eq
    rw [if_neg Bool.false_ne_true] at e
    have e2 : σ.set k (some (.int i2)) = σ := by
      apply List.ext_getElem?
      intro j
      rw [List.getElem?_set]
      split
      · next z =>
        subst z
        have := hold.eq
        rw [this]
        split
        · rfl
        · next y => rw [List.getElem?_eq_none (by omega)] at this; cases this
      · rfl
    rw [← e2, e]; exact q
theorem z_go {N : List Str} {vs : List V} {σ : St} {t : TS} {D : Ends} {H : Hp} (h : start N vs = σ) (q : t D σ H) : t D (start N vs) H := by rw [h]; exact q
end L2

namespace L2
open PySem PySem.Spec PyProof.Rows
theorem compOkG_of {X : Cx} {tg : Str} {sc : Scope} {fr : List (Str × Nat)} {osc : Scope} {N : List Str} (ho : X.env.scope = osc) (hN : X.N = N) (h : compOkB osc N tg sc fr = true) : CompOkG X [tg] sc fr ∧ sc.names.lookup tg = some .local := by
  have o := compOk_of ho hN h
  exact ⟨⟨o.kind, o.nocell, o.locs, o.fre, o.nd, o.vis⟩, o.tgl⟩
theorem pe_lcIf {X : Cx} {elt iter c : Expr} {tg : Str} {ps pos : Pos} {sc : Scope} {fr : List (Str × Nat)} {wi : TI} {te : TE} {tc : TT} (hc : X.calm = true) (ok : CompOkG X [tg] sc fr ∧ sc.names.lookup tg = some .local) (hi : PI X (.Name tg ps) iter wi)
    (ht : ∀ cl C s3 H3 fp, PT (X.blk ([tg] ++ fr.map (·.1)) sc cl C s3 H3 fp) c tc) (he : ∀ cl C s3 H3 fp, PE (X.blk ([tg] ++ fr.map (·.1)) sc cl C s3 H3 fp) elt te) (hs : ∀ x, foldedSetIterable iter X.env x = pure x := by intro _; rfl) :
    PE X (.ListComp elt [⟨.Name tg ps, iter, [c], 0⟩] sc pos) (tLCG 1 fr wi (gName 0) tc te) :=
  pe_lcG (tgs := [tg]) hc ok.1 hi (fun _ _ _ _ _ => pg_name ok.1.nd rfl (.inl (lookup_relabel_local ok.2)) (.inr (lookup_relabel_local ok.2))) (fun _ _ _ _ _ => pif_one (ht _ _ _ _ _)) he hs
noncomputable def LCW (k : Nat) (st : St) (J : It) (g : TG) (tc : TT) (te : TE) (H1 : Hp) (Q : VK) : Prop := ∀ acc, H1 acc = none → ∃ W : Nat → Nat → St → Hp → Prop, (∃ m, W 0 m (List.replicate k none ++ st) (upd H1 acc (.lst []))) ∧ ∀ i m σb H2, W i m σb H2 →
  (J.stop i H2 ∧ Q (.ref acc) H2) ∨ (J.go i H2 ∧ ∀ x H3, J.yld i H2 x H3 → g x σb H3 fun σ2 H4 => tc σ2 H4 fun b H5 =>
    if b = true then te σ2 H5 fun v H6 => ∃ xs m', H6 acc = some (.lst xs) ∧ xs.length < sizeLine ∧ m' < m ∧ W (i + 1) m' σ2 (upd H6 acc (.lst (xs ++ [v]))) else ∃ m', m' < m ∧ W (i + 1) m' σ2 H5)
theorem z_lcg {k : Nat} {fr : List (Str × Nat)} {wi : TI} {g : TG} {tc : TT} {te : TE} {σ : St} {H : Hp} {Q : VK} (h : wi σ H fun J H1 => LCW k (inSt σ fr) J g tc te H1 Q) : tLCG k fr wi g tc te σ H Q := h
noncomputable def picked (p : Nat → Bool) (f : Nat → V) (n : Nat) : List V := ((List.range n).filter p).map f
theorem picked_le (p : Nat → Bool) (f : Nat → V) (n : Nat) : (picked p f n).length ≤ n := by
  unfold picked
  rw [List.length_map]
  exact Nat.le_trans (List.length_filter_le _ _) (by rw [List.length_range]; exact Nat.le_refl _)
theorem picked_succ (p : Nat → Bool) (f : Nat → V) (n : Nat) : picked p f (n + 1) = if p n = true then picked p f n ++ [f n] else picked p f n := by
  unfold picked
  rw [List.range_succ, List.filter_append, List.map_append]
  by_cases h : p n = true
  · rw [if_pos h, List.filter_cons_of_pos h]; rfl
  · rw [if_neg h, List.filter_cons_of_neg h]; simp
theorem lcw {J : It} {st : St} {tc : TT} {te : TE} {H1 : Hp} {Q : VK} (n : Nat) (it f : Nat → V) (p : Nat → Bool) (hn : n ≤ sizeLine)
    (hgo : ∀ i H2, Same H1 H2 → i < n → J.go i H2 ∧ ∀ x H3, J.yld i H2 x H3 → H3 = H2 ∧ x = it i) (hstop : ∀ H2, Same H1 H2 → J.stop n H2)
    (ht : ∀ i H2 (S : Bool → Hp → Prop), i < n → Same H1 H2 → (∀ H3, Same H2 H3 → S (p i) H3) → tc (some (it i) :: st) H2 S)
    (he : ∀ i H2 (S : V → Hp → Prop), i < n → p i = true → Same H1 H2 → (∀ H3, Same H2 H3 → S (f i) H3) → te (some (it i) :: st) H2 S)
    (fin : ∀ acc H2, H1 acc = none → Same H1 H2 → H2 acc = some (.lst (picked p f n)) → Q (.ref acc) H2) : LCW 1 st J (gName 0) tc te H1 Q := by
  intro acc hacc
  refine ⟨fun i m σb H2 => m = n - i ∧ i ≤ n ∧ Same H1 H2 ∧ H2 acc = some (.lst (picked p f i)) ∧ ∃ u, σb = u :: st, ⟨n, by simp, Nat.zero_le _, Same.new hacc _, upd_same, none, rfl⟩, ?_⟩
  rintro i m σb H2 ⟨rfl, hi, sH, ha, u, rfl⟩
  by_cases hlt : i < n
  · obtain ⟨g1, g2⟩ := hgo i H2 sH hlt
    refine .inr ⟨g1, fun x H3 y => ?_⟩
    obtain ⟨rfl, rfl⟩ := g2 x H3 y
    show tc (some (it i) :: st) H3 _
    refine ht i H3 _ hlt sH (fun H5 s5 => ?_)
    have ps := picked_succ p f i
    by_cases hp : p i = true
    · rw [if_pos hp] at ps ⊢
      refine he i H5 _ hlt hp (sH.trans s5) (fun H6 s6 => ?_)
      refine ⟨picked p f i, n - (i + 1), s6 _ _ (s5 _ _ ha), Nat.lt_of_le_of_lt (picked_le p f i) (by omega), by omega, rfl, hlt, ?_, by rw [upd_same, ps], _, rfl⟩
      exact Same.but (sH.trans (s5.trans s6)) hacc But.upd
    · rw [if_neg hp] at ps ⊢
      exact ⟨n - (i + 1), by omega, rfl, hlt, sH.trans s5, by rw [ps]; exact s5 _ _ ha, _, rfl⟩
  · have e : i = n := by omega
    subst e
    exact .inl ⟨hstop H2 sH, fin acc H2 hacc sH ha⟩
theorem lcw_list {K : PySem.W.Frag} {a : Addr} {xs : List V} {st : St} {tc : TT} {te : TE} {H1 : Hp} {Q : VK} (f : Nat → V) (p : Nat → Bool) (hs : SqL K H1 a xs) (hn : xs.length ≤ sizeLine)
    (ht : ∀ i x H2 (S : Bool → Hp → Prop), xs[i]? = some x → Same H1 H2 → (∀ H3, Same H2 H3 → S (p i) H3) → tc (some x :: st) H2 S)
    (he : ∀ i x H2 (S : V → Hp → Prop), xs[i]? = some x → p i = true → Same H1 H2 → (∀ H3, Same H2 H3 → S (f i) H3) → te (some x :: st) H2 S)
    (fin : ∀ acc H2, H1 acc = none → Same H1 H2 → H2 acc = some (.lst (picked p f xs.length)) → Q (.ref acc) H2) : LCW 1 st (Itl K a) (gName 0) tc te H1 Q := by
  have at_ : ∀ i, i < xs.length → xs[i]? = some (xs.getD i .non) := fun i hi => by rw [List.getElem?_eq_getElem hi, List.getD_eq_getElem?_getD, List.getElem?_eq_getElem hi]; rfl
  refine lcw xs.length (fun i => xs.getD i .non) f p hn (fun i H2 s2 hi => ⟨⟨xs, _, s2.seq hs, at_ i hi⟩, fun x H3 y => ⟨y.1, ?_⟩⟩) (fun H2 s2 => ⟨xs, s2.seq hs, Nat.le_refl _⟩)
    (fun i H2 S hi s2 k => ht i _ H2 S (at_ i hi) s2 k) (fun i H2 S hi hp s2 k => he i _ H2 S (at_ i hi) hp s2 k) fin
  have := y.2 xs (s2.seq hs)
  rw [at_ i hi] at this
  exact (Option.some.inj this).symm
end L2

namespace L2
open PySem PySem.Spec PyProof.Rows
section
variable {X : Cx} {elt iter tg : Expr} {ifs : List Expr} {tgs : List Str} {pos : Pos} {sc : Scope} {fr : List (Str × Nat)} {wi : TI} {te : TE} {g : TG} {tc : TT}
theorem ps_setLCG {y : Str} {py spos : Pos} {iy : Nat} (hN : X.N.Nodup) (hi' : X.N[iy]? = some y) (hy : Loc X.env.scope y) (hc : X.calm = true) (ok : CompOkG X tgs sc fr) (hi : PI X tg iter wi) (hg : ∀ cl C s3 H3 fp, PG (X.blk (tgs ++ fr.map (·.1)) sc cl C s3 H3 fp) tg g) (ht : ∀ cl C s3 H3 fp, PIF (X.blk (tgs ++ fr.map (·.1)) sc cl C s3 H3 fp) ifs tc) (he : ∀ cl C s3 H3 fp, PE (X.blk (tgs ++ fr.map (·.1)) sc cl C s3 H3 fp) elt te) (hs : ∀ x, foldedSetIterable iter X.env x = pure x := by intro _; rfl)
    (hsw : swapsWith (.ListComp elt [⟨tg, iter, ifs, 0⟩] sc pos) (some (.Name y py)) spos.line X.env = pure true := by rfl) (hfn : X.fn y = true ∨ X.env.scope.names.lookup y = some .local := by first | exact .inl rfl | exact .inr rfl | assumption) :
    PS X (.Assign [.Name y py] (.ListComp elt [⟨tg, iter, ifs, 0⟩] sc pos) spos) (tAsg (tLCG tgs.length fr wi g tc te) (gName iy)) := by
  intro pins s σ H D I h
  obtain ⟨cl, ecl, hk, hcx⟩ := closure_of (env := X.env) (sc := sc) (fun y hy yf => I.ok.has y.1 (ok.fre y hy yf))
  rw [exec_Assign_Name_used _ _ _ _ hsw]
  refine wpAny_bind (wpAny_standAt (wpAny_bind ?_))
  show wpAny _ X.A (do let _ ← comprehension (.ListComp elt [⟨tg, iter, ifs, 0⟩] sc pos) sc X.env _ (newList []) false (eval iter X.env) (some (assign (.Name y py) X.env))) _ _ s
  refine wpAny_bind (wpAny_mono (wpAny_comprehension_free (use := some (assign (.Name y py) X.env)) (Q := fun _ s' => SP X pins D .next s') rfl hs ecl ok.kind ok.locs ?_) (fun _ s' z => wpAny_pure (wpAny_pure z)) fun _ _ z => z)
  refine (thn (hi pins s σ H _ I h) fun v s1 h1 => thn h1 fun itv s2 h2 => ?_)
  obtain ⟨it, fp, tn, J, H2, e, I2, T, st2, f2, q⟩ := h2
  subst e
  have hacc : H2 s2.heap.objs.size = none := I2.hok.fresh (Nat.le_refl _)
  obtain ⟨W, ⟨m0, w0⟩, turn⟩ := q s2.heap.objs.size hacc
  refine wpAny_newObj_type ?_
  have I3 := I2.laid (a := s2.heap.objs.size) (o := .lst []) (h' := s2.heap.push { cls := .type "list", data := .seq ([] : List Value).toArray }) (t' := s2.toks) (fun b u e => Heap.get?_push_of_some _ e) (Nat.le_refl _) ⟨Nat.zero_le _, [], 0, .nil, Heap.get?_push_size _ rfl⟩
  refine wpAny_newFunctionEnv ok.nocell (by intro y hy; simp at hy) (fun h4 hns4 hsb4 => ?_) ok.kind
  generalize hs3 : ({ s2 with heap := s2.heap.push { cls := .type "list", data := .seq ([] : List Value).toArray } } : Shared) = s3 at *
  have keep4 : ∀ b o, s3.heap.get? b = some o → h4.get? b = some o := fun b o e => hsb4.extBut b o (Nat.ne_of_lt (Heap.lt_size e)) (Heap.get?_push_of_some _ e)
  have keep3 : ∀ b o, s2.heap.get? b = some o → s3.heap.get? b = some o := fun b o e => by rw [← hs3]; exact Heap.get?_push_of_some _ e
  have hfo : ∀ b ∈ fp, ∃ o, s3.heap.get? b = some o := fun b hb => by
    obtain ⟨o, eo, _⟩ := T.obj 0 _ st2 b hb
    exact ⟨o, keep3 b o eo⟩
  have f3 : ∀ b ∈ fp, FpOk X pins (upd H2 s2.heap.objs.size (.lst [])) b := fun b hb => by
    obtain ⟨o, eo, _⟩ := T.obj 0 _ st2 b hb
    exact ⟨by rw [upd_ne (Nat.ne_of_lt (Heap.lt_size eo))]; exact (f2 b hb).1, (f2 b hb).2⟩
  have I4 := blk_startG (t4 := s3.toks + ([] : List (Str × Value)).length) ok I3 f3 hfo hk hcx ⟨_, hns4⟩ keep4
  have st4 : tn 0 h4 := T.keep 0 s2.heap h4 st2 fun b hb o e => keep4 b o (keep3 b o e)
  have stat : ∀ {H' : Hp}, (∀ b ∈ fp, H' b = none) → ∀ b ∈ fp, FpOk (X.blk (tgs ++ fr.map (·.1)) sc cl s3.heap.objs.size s3 (upd H2 s2.heap.objs.size (.lst [])) fp) [] H' b := fun hn b hb =>
    ⟨hn b hb, (I4.ok.exf b hb).1, I4.ok.exfs b hb, .inl hb, (I4.ok.exf b hb).2, fun p hp => nomatch hp⟩
  have loop : codeAny (model X.prog X.w) X.A (.compLoop (.ListComp elt [⟨tg, iter, ifs, 0⟩] sc pos) 0 (.ref it) (.ref s2.heap.objs.size) (compEnvC sc cl s3.heap.objs.size X.env))
      (compPost (model X.prog X.w) X.A X.xe (some (assign (.Name y py) X.env)) (fun _ s' => SP X pins D .next s') (.ref s2.heap.objs.size) s3.heap.objs.size) { s3 with heap := h4, toks := s3.toks + ([] : List (Str × Value)).length } := by
    refine comp_loopG (fun n s' => ∃ i σb H', Inv (X.blk (tgs ++ fr.map (·.1)) sc cl s3.heap.objs.size s3 (upd H2 s2.heap.objs.size (.lst [])) fp) [] σb H' s' ∧ tn i s'.heap ∧ (∀ b ∈ fp, H' b = none) ∧ W i n σb H') ?_ m0
      ⟨0, _, _, I4, st4, fun b hb => (f3 b hb).1, w0⟩
    rintro n s5 ⟨i, σb, H5, I5, st5, fr5, w5⟩
    rcases turn i n σb H5 w5 with ⟨stop, qq⟩ | ⟨go, step⟩
    · refine thn (T.done (X.blk (tgs ++ fr.map (·.1)) sc cl s3.heap.objs.size s3 (upd H2 s2.heap.objs.size (.lst [])) fp) rfl rfl rfl hc i [] s5 _ H5 _ I5 (stat fr5) st5 stop) fun r s6 ⟨hr, I6⟩ => ?_
      subst hr
      obtain ⟨m6, hn6, _⟩ := I6.loc
      have u6 : Un (frs X.stack) fp (upd H2 s2.heap.objs.size (.lst [])) H5 s3.heap s6.heap := I6.base
      have hok6 : HOk X.prog X.w H5 s6.heap := I6.hok
      have os6 : s6.os = s3.os := I6.os
      have bare6 := I6.bare
      have free6 : H5 s3.heap.objs.size = none := I6.free
      have IX : Inv X pins σ H5 s6 := by
        obtain ⟨hh, g, d, t, os'⟩ := s6
        obtain rfl : os' = s3.os := os6
        show Inv X pins σ H5 { s3 with heap := hh, gens := g, drawn := d, toks := t }
        exact I3.call (h' := hh) (g' := g) (d' := d) (t' := t) (ch := fp) u6 hok6 bare6 fun b hb => ⟨(f3 b hb).2.2.2.1, (f3 b hb).2.1, (f3 b hb).2.2.2.2.1, (f3 b hb).2.2.2.2.2⟩
      obtain ⟨oC, es, ep, hoC, hdC, rC⟩ := hn6
      have hfC : FpOk X pins H5 s3.heap.objs.size := I3.fpOk (Nat.le_refl _) free6
      have IX' : Inv X (pins ++ [(s3.heap.objs.size, oC)]) σ H5 s6 := IX.pins_of fun p hp => by
        rcases List.mem_append.mp hp with z | z
        · exact IX.pin p (List.mem_append_right _ z)
        · have z' := List.mem_singleton.mp z
          subst z'
          exact ⟨hoC, free6, hfC.2.1, hfC.2.2.1, fun v z => by
            have z2 : oC.data = .cell v := z
            rw [hdC] at z2; cases z2⟩
      refine thn (pg_name (X := X) (i := iy) (pos := py) hN hi' hy hfn _ s6 σ H5 (.ref s2.heap.objs.size) (.ref s2.heap.objs.size) (fun σ' H' => σ' = σ.set iy (some (.ref s2.heap.objs.size)) ∧ H' = H5) IX' rfl ⟨rfl, rfl⟩) fun _ s7 z => ?_
      obtain ⟨σ7, H7, I7, e7, e7'⟩ := z
      subst e7 e7'
      have pC := I7.pin (s3.heap.objs.size, oC) (List.mem_append_right _ (List.mem_append_right _ (List.mem_singleton.mpr rfl)))
      refine ⟨m6, ⟨oC, es, ep, pC.1, hdC, rC⟩, fun h8 hsb8 => ?_⟩
      have I7u : Inv X pins (σ.set iy (some (.ref s2.heap.objs.size))) H7 s7 := I7.unpinned
      refine ⟨_, H7, ?_, qq⟩
      exact I7u.turned (it := s3.heap.objs.size) (t' := s7.toks) (fun b o hb e => hsb8.extBut b o hb e) free6 hfC.2.1 hfC.2.2.2.1 hfC.2.2.2.2.1 hfC.2.2.2.2.2
    · refine thn (T.item (X.blk (tgs ++ fr.map (·.1)) sc cl s3.heap.objs.size s3 (upd H2 s2.heap.objs.size (.lst [])) fp) rfl rfl rfl hc i [] s5 _ H5 _ I5 (stat fr5) st5 go) fun r s6 ⟨u, hr, h6⟩ => ?_
      subst hr
      refine thn h6 fun _ s7 ⟨y, H7, I7, r7, y7, st7, fr7⟩ => ?_
      have I7' := I7.pinned (stat fr7) (T.obj _ _ st7)
      refine wpAny_mono (hg cl s3.heap.objs.size s3 (upd H2 s2.heap.objs.size (.lst [])) fp _ s7 _ H7 y u _ I7' r7 (step y H7 y7)) (fun _ s8 z => ?_) (fun e s z => (show False from z).elim)
      obtain ⟨σ8, H8, I8, q8⟩ := z
      refine wpAny_mono (ht cl s3.heap.objs.size s3 (upd H2 s2.heap.objs.size (.lst [])) fp _ s8 σ8 H8 _ I8 q8) (fun b s8' z => ?_) (fun e s z => (show False from z).elim)
      obtain ⟨H8', I8', q8'⟩ := z
      have goOn : ∀ {s10 : Shared} {H10 : Hp} {m' : Nat}, Inv (X.blk (tgs ++ fr.map (·.1)) sc cl s3.heap.objs.size s3 (upd H2 s2.heap.objs.size (.lst [])) fp) _ σ8 H10 s10 → m' < n → W (i + 1) m' σ8 H10 → ∃ m, m < n ∧ ∃ i σb H', Inv (X.blk (tgs ++ fr.map (·.1)) sc cl s3.heap.objs.size s3 (upd H2 s2.heap.objs.size (.lst [])) fp) [] σb H' s10 ∧ tn i s10.heap ∧ (∀ b ∈ fp, H' b = none) ∧ W i m σb H' := fun {s10 H10 m'} I10 hm w9 => by
        refine ⟨m', hm, i + 1, σ8, _, I10.unpinned, T.keep _ _ _ st7 fun b hb o e => (I10.pin (b, o) (List.mem_append_right _ (List.mem_append_right _ (mem_pinsAt hb e)))).1, fun b hb => ?_, w9⟩
        obtain ⟨o, e, d⟩ := T.obj _ _ st7 b hb
        exact (I10.pin (b, o) (List.mem_append_right _ (List.mem_append_right _ (mem_pinsAt hb e)))).2.1
      cases b with
      | false =>
        obtain ⟨m', hm, w9⟩ := (if_neg Bool.false_ne_true).mp q8'
        exact (if_neg Bool.false_ne_true).mpr (goOn I8' hm w9)
      | true =>
        refine (if_pos rfl).mpr ?_
        refine wpAny_mono (he cl s3.heap.objs.size s3 (upd H2 s2.heap.objs.size (.lst [])) fp _ s8' _ H8' _ I8' ((if_pos rfl).mp q8')) (fun v s9 z => ?_) (fun e s z => (show False from z).elim)
        obtain ⟨z, H9, I9, r9, xs, m', ha, hl, hm, w9⟩ := z
        refine wpAny_mono (mt_append (X := X.blk (tgs ++ fr.map (·.1)) sc cl s3.heap.objs.size s3 (upd H2 s2.heap.objs.size (.lst [])) fp) _ s9 _ H9 (.ref s2.heap.objs.size) [z] (.ref s2.heap.objs.size) [v] (fun _ H' => H' = upd H9 s2.heap.objs.size (.lst (xs ++ [z]))) I9 rfl (.cons r9 .nil) ⟨_, xs, z, rfl, rfl, ha, hl, rfl⟩) (fun _ s10 z => ?_) (fun e s z => (show False from z).elim)
        obtain ⟨_, H10, I10, _, e10⟩ := z
        subst e10
        exact goOn I10 hm w9
  exact codeAny_compStart_list loop (T.self X.A 0 _ _ _ st4 loop)
end
noncomputable def rLen (K : PySem.W.Frag) : List V → Hp → VK → Prop := fun xs H Q => ∃ p ys, xs = [.ref p] ∧ (SqL K H p ys ∨ SqT K H p ys) ∧ Q (.int ys.length) H
end L2

namespace L2
open PySem PySem.Spec PyProof.Rows
inductive Alike (K : PySem.W.Frag) (H : Hp) : Nat → V → V → Prop
  | int {n : Nat} {i : Int} : Alike K H n (.int i) (.int i)
  | str {n : Nat} {x : Str} : Alike K H n (.str x) (.str x)
  | bl {n : Nat} {b : Bool} : Alike K H n (.bl b) (.bl b)
  | non {n : Nat} : Alike K H n .non .non
  | ref {n : Nat} {a : Addr} : Alike K H n (.ref a) (.ref a)
  | tup {n : Nat} {p q : Addr} {xs ys : List V} (h1 : SqT K H p xs) (h2 : SqT K H q ys) (hl : xs.length = ys.length) (he : ∀ (j : Nat) (x y : V), xs[j]? = some x → ys[j]? = some y → Alike K H n x y) : Alike K H (n + 1) (.ref p) (.ref q)
  | lst {n : Nat} {p q : Addr} {xs ys : List V} (h1 : SqL K H p xs) (h2 : SqL K H q ys) (hl : xs.length = ys.length) (he : ∀ (j : Nat) (x y : V), xs[j]? = some x → ys[j]? = some y → Alike K H n x y) : Alike K H (n + 1) (.ref p) (.ref q)
  | dct {n : Nat} {p q : Addr} (h1 : H p = some (.dK [])) (h2 : H q = some (.dK [])) : Alike K H n (.ref p) (.ref q)
theorem dict_nil {P P' : Program} {w w' : World} {h : Heap} {a : Addr} (d : h.DictOf (mixKind P w) a []) : h.DictOf (mixKind P' w') a [] := by
  obtain ⟨o, es, ep, ho, he, hd, hk, hp, hn⟩ := d
  obtain ⟨es⟩ := es
  cases hp
  exact ⟨o, _, ep, ho, he, hd, fun _ h => absurd h (by simp), .nil, hn⟩
theorem vals_at {xs : List V} {us : List Value} (h : Vals xs us) : ∀ {j : Nat} {u : Value}, us[j]? = some u → ∃ x, xs[j]? = some x ∧ RelV x u := by
  induction h with
  | nil => intro j u e; simp at e
  | cons r rr ih =>
    intro j u e
    cases j with
    | zero => exact ⟨_, rfl, by rw [List.getElem?_cons_zero] at e; cases e; exact r⟩
    | succ j => exact ih (by rw [List.getElem?_cons_succ] at e; exact e)
theorem all_true {n : Nat} : (List.range n).all (fun _ => true) = true := by rw [List.all_eq_true]; intro _ _; rfl
section
variable {X : Cx} {pins : List (Addr × Obj)} {σ : St} {H : Hp} {s : Shared}
theorem Inv.alike (I : Inv X pins σ H s) {n : Nat} {x y : V} (h : Alike X.K H n x y) : ∀ {A : Around} {u v : Value}, A.units + n < cLine → RelV x u → RelV y v → SeqAt.EqAt A s u v true := by
  induction h with
  | @int n i =>
    intro A u v hu r1 r2
    obtain ⟨t, rfl⟩ := r1
    obtain ⟨t', rfl⟩ := r2
    have := SeqAt.EqAt.int_int (A := A) (s := s) i t i t'
    rw [beq_self_eq_true] at this
    exact this
  | @str n x =>
    intro A u v hu r1 r2
    obtain ⟨t, rfl⟩ := r1
    obtain ⟨t', rfl⟩ := r2
    have := SeqAt.EqAt.str_str (A := A) (s := s) x t x t'
    rw [beq_self_eq_true] at this
    exact this
  | bl => intro A u v hu r1 r2; cases r1; cases r2; exact SeqAt.EqAt.same _
  | non => intro A u v hu r1 r2; cases r1; cases r2; exact SeqAt.EqAt.same _
  | ref => intro A u v hu r1 r2; cases r1; cases r2; exact SeqAt.EqAt.same _
  | @tup n p q xs ys h1 h2 hl he ih =>
    intro A u v hu r1 r2
    cases r1
    cases r2
    by_cases e : p = q
    · subst e; exact SeqAt.EqAt.same _
    · refine SeqAt.EqAt.of_refs e ?_
      obtain ⟨its, v1, p1, _⟩ := I.tuple h1
      obtain ⟨its2, v2, p2, _⟩ := I.tuple h2
      have l1 := v1.length
      have l2 := v2.length
      have key := SeqAt.RcAt.tuples (A := A) (s := s) (l := p) (b := q) (items := its.toArray) (items2 := its2.toArray) (e := fun _ => true) p1 p2 (by omega) (fun j g1 g2 => by
        have g1' : j < its.length := by simpa using g1
        have g2' : j < its2.length := by simpa using g2
        obtain ⟨x, ex, rx⟩ := vals_at v1 (List.getElem?_eq_getElem g1')
        obtain ⟨y, ey, ry⟩ := vals_at v2 (List.getElem?_eq_getElem g2')
        have w1 : its.toArray[j] = its[j] := by simp
        have w2 : its2.toArray[j] = its2[j] := by simp
        rw [w1, w2]
        exact ih j x y ex ey (by show A.units + 1 + n < cLine; omega) rx ry)
      have e2 : ((List.range (min its.toArray.size its2.toArray.size)).all (fun _ => true) && its.toArray.size == its2.toArray.size) = true := by
        rw [all_true, Bool.true_and, List.size_toArray, List.size_toArray, ← l1, ← l2, hl, beq_self_eq_true]
      rw [e2] at key
      exact key
  | @lst n p q xs ys h1 h2 hl he ih =>
    intro A u v hu r1 r2
    cases r1
    cases r2
    by_cases e : p = q
    · subst e; exact SeqAt.EqAt.same _
    · refine SeqAt.EqAt.of_refs e ?_
      obtain ⟨its, v1, p1, _⟩ := I.list h1
      obtain ⟨its2, v2, p2, _⟩ := I.list h2
      have l1 := v1.length
      have l2 := v2.length
      have key := SeqAt.RcAt.lists (A := A) (s := s) (l := p) (b := q) (items := its.toArray) (items2 := its2.toArray) (e := fun _ => true) p1.isList p2.isList (by rw [List.size_toArray, List.size_toArray, ← l1, ← l2, hl]) (by omega) (fun j g1 g2 => by
        have g1' : j < its.length := by simpa using g1
        have g2' : j < its2.length := by simpa using g2
        obtain ⟨x, ex, rx⟩ := vals_at v1 (List.getElem?_eq_getElem g1')
        obtain ⟨y, ey, ry⟩ := vals_at v2 (List.getElem?_eq_getElem g2')
        have w1 : its.toArray[j] = its[j] := by simp
        have w2 : its2.toArray[j] = its2[j] := by simp
        rw [w1, w2]
        exact ih j x y ex ey (by show A.units + 1 + n < cLine; omega) rx ry)
      rw [all_true] at key
      exact key
  | @dct n p q h1 h2 =>
    intro A u v hu r1 r2
    cases r1
    cases r2
    by_cases e : p = q
    · subst e; exact SeqAt.EqAt.same _
    · refine SeqAt.EqAt.of_refs e fun prog w E Q hq => ?_
      obtain ⟨_, z1, vs1, k1, d1⟩ := (show ObjOk X.prog X.w H s.heap p (.dK []) from I.hok p _ h1)
      obtain ⟨_, z2, vs2, k2, d2⟩ := (show ObjOk X.prog X.w H s.heap q (.dK []) from I.hok q _ h2)
      cases k1
      cases k2
      exact PySem.W.keq_eq (r := true) z1 z2 (dict_nil (P' := prog) (w' := w) d1) (dict_nil d2) (by omega) (fun _ => .nil) hq
noncomputable def AlikeS (K : PySem.W.Frag) (H : Hp) (p q : Addr) : Prop := ∃ (n : Nat) (xs ys : List V), n ≤ 100 ∧ ((SqT K H p xs ∧ SqT K H q ys) ∨ (SqL K H p xs ∧ SqL K H q ys)) ∧ xs.length = ys.length ∧ ∀ (j : Nat) (x y : V), xs[j]? = some x → ys[j]? = some y → Alike K H n x y
noncomputable def rAlk (K : PySem.W.Frag) (b : Bool) : R2 := fun x y H Q => ∃ p q, x = .ref p ∧ y = .ref q ∧ AlikeS K H p q ∧ Q (.bl b) H
theorem z_alk {K : PySem.W.Frag} {H : Hp} {Q : VK} {b : Bool} {p q : Addr} (h : AlikeS K H p q) (k : Q (.bl b) H) : rAlk K b (.ref p) (.ref q) H Q := ⟨p, q, rfl, rfl, h, k⟩
theorem op_eqA (hu : X.A.units + 150 < cLine) : OpR X (compareOp .Eq) (rAlk X.K true) := by
  intro pins s σ H x y v u Q I rx ry h
  obtain ⟨p, q, rfl, rfl, ⟨n, xs, ys, hn, hs, hl, he⟩, k⟩ := h
  cases rx
  cases ry
  rcases hs with ⟨h1, h2⟩ | ⟨h1, h2⟩
  · obtain ⟨its, v1, p1, _⟩ := I.tuple h1
    obtain ⟨its2, v2, p2, _⟩ := I.tuple h2
    have l1 := v1.length
    have l2 := v2.length
    have key := SeqAt.RcAt.tuples (A := X.A) (s := s) (l := p) (b := q) (items := its.toArray) (items2 := its2.toArray) (e := fun _ => true) p1 p2 (by omega) (fun j g1 g2 => by
      have g1' : j < its.length := by simpa using g1
      have g2' : j < its2.length := by simpa using g2
      obtain ⟨x, ex, rx⟩ := vals_at v1 (List.getElem?_eq_getElem g1')
      obtain ⟨y, ey, ry⟩ := vals_at v2 (List.getElem?_eq_getElem g2')
      have w1 : its.toArray[j] = its[j] := by simp
      have w2 : its2.toArray[j] = its2[j] := by simp
      rw [w1, w2]
      exact I.alike (he j x y ex ey) (by show X.A.units + 1 + n < cLine; omega) rx ry)
    have e2 : ((List.range (min its.toArray.size its2.toArray.size)).all (fun _ => true) && its.toArray.size == its2.toArray.size) = true := by
      rw [all_true, Bool.true_and, List.size_toArray, List.size_toArray, ← l1, ← l2, hl, beq_self_eq_true]
    rw [e2] at key
    exact key _ _ _ _ ⟨.bl true, H, I, rfl, k⟩
  · obtain ⟨its, v1, p1, _⟩ := I.list h1
    obtain ⟨its2, v2, p2, _⟩ := I.list h2
    have l1 := v1.length
    have l2 := v2.length
    have key := SeqAt.RcAt.lists (A := X.A) (s := s) (l := p) (b := q) (items := its.toArray) (items2 := its2.toArray) (e := fun _ => true) p1.isList p2.isList (by rw [List.size_toArray, List.size_toArray, ← l1, ← l2, hl]) (by omega) (fun j g1 g2 => by
      have g1' : j < its.length := by simpa using g1
      have g2' : j < its2.length := by simpa using g2
      obtain ⟨x, ex, rx⟩ := vals_at v1 (List.getElem?_eq_getElem g1')
      obtain ⟨y, ey, ry⟩ := vals_at v2 (List.getElem?_eq_getElem g2')
      have w1 : its.toArray[j] = its[j] := by simp
      have w2 : its2.toArray[j] = its2[j] := by simp
      rw [w1, w2]
      exact I.alike (he j x y ex ey) (by show X.A.units + 1 + n < cLine; omega) rx ry)
    rw [all_true] at key
    exact key _ _ _ _ ⟨.bl true, H, I, rfl, k⟩
theorem op_neA (hu : X.A.units + 150 < cLine) : OpR X (compareOp .NotEq) (rAlk X.K false) := by
  intro pins s σ H x y v u Q I rx ry h
  obtain ⟨p, q, rfl, rfl, ⟨n, xs, ys, hn, hs, hl, he⟩, k⟩ := h
  cases rx
  cases ry
  rcases hs with ⟨h1, h2⟩ | ⟨h1, h2⟩
  · obtain ⟨its, v1, p1, _⟩ := I.tuple h1
    obtain ⟨its2, v2, p2, _⟩ := I.tuple h2
    have l1 := v1.length
    have l2 := v2.length
    have key := SeqAt.RcNeAt.tuples (A := X.A) (s := s) (l := p) (b := q) (items := its.toArray) (items2 := its2.toArray) (e := fun _ => true) p1 p2 (by omega) (fun j g1 g2 => by
      have g1' : j < its.length := by simpa using g1
      have g2' : j < its2.length := by simpa using g2
      obtain ⟨x, ex, rx⟩ := vals_at v1 (List.getElem?_eq_getElem g1')
      obtain ⟨y, ey, ry⟩ := vals_at v2 (List.getElem?_eq_getElem g2')
      have w1 : its.toArray[j] = its[j] := by simp
      have w2 : its2.toArray[j] = its2[j] := by simp
      rw [w1, w2]
      exact I.alike (he j x y ex ey) (by show X.A.units + 1 + n < cLine; omega) rx ry)
    have e2 : (!((List.range (min its.toArray.size its2.toArray.size)).all (fun _ => true) && its.toArray.size == its2.toArray.size)) = false := by
      rw [all_true, Bool.true_and, List.size_toArray, List.size_toArray, ← l1, ← l2, hl, beq_self_eq_true]; rfl
    rw [e2] at key
    exact key _ _ _ _ ⟨.bl false, H, I, rfl, k⟩
  · obtain ⟨its, v1, p1, _⟩ := I.list h1
    obtain ⟨its2, v2, p2, _⟩ := I.list h2
    have l1 := v1.length
    have l2 := v2.length
    have key := SeqAt.RcNeAt.lists (A := X.A) (s := s) (l := p) (b := q) (items := its.toArray) (items2 := its2.toArray) (e := fun _ => true) p1.isList p2.isList (by rw [List.size_toArray, List.size_toArray, ← l1, ← l2, hl]) (by omega) (fun j g1 g2 => by
      have g1' : j < its.length := by simpa using g1
      have g2' : j < its2.length := by simpa using g2
      obtain ⟨x, ex, rx⟩ := vals_at v1 (List.getElem?_eq_getElem g1')
      obtain ⟨y, ey, ry⟩ := vals_at v2 (List.getElem?_eq_getElem g2')
      have w1 : its.toArray[j] = its[j] := by simp
      have w2 : its2.toArray[j] = its2[j] := by simp
      rw [w1, w2]
      exact I.alike (he j x y ex ey) (by show X.A.units + 1 + n < cLine; omega) rx ry)
    rw [all_true] at key
    exact key _ _ _ _ ⟨.bl false, H, I, rfl, k⟩
end
theorem Room.un150 {k : Nat} {A : Around} (r : Room k A) : A.units + 150 < cLine := by have := r.un; omega
end L2

namespace L2
open PySem PySem.Spec PyProof.Rows PySem.W PySem.Calls
theorem bits_of_script : ∀ {ns : List Int}, WData.weightAll (ns.map WData.int) ≤ 2 ^ 20 → ∀ x ∈ ns, My.Bd 1048576 x
  | y :: r, h, x, hx => by
    have h' : WData.weight (.int y) + 1 + WData.weightAll (r.map WData.int) ≤ 2 ^ 20 := h
    rcases List.mem_cons.mp hx with e | e
    · subst e
      have w : WData.weight (.int x) = (if x == 0 then 0 else x.natAbs.log2 + 1) := by
        first | rfl | simp [WData.weight]
      unfold My.Bd
      by_cases z : x = 0
      · subst z
        exact Nat.two_pow_pos _
      · have zb : (x == 0) = false := by simpa using z
        rw [w, zb] at h'
        have h2 : x.natAbs.log2 < 1048576 := by
          have e20 : (2 : Nat) ^ 20 = 1048576 := by decide
          rw [e20] at h'
          simp only [Bool.false_eq_true, if_false] at h'
          omega
        exact (Nat.log2_lt (by omega)).mp h2
    · exact bits_of_script (by omega) x e
theorem attach_callB {l : OpenLaw} {n : Nat} {q : Program} {loose : List Str} {XP : (Str → Option Value) → Heap → Prop} {YP : World → Heap → Prop} {d : DefRec}
    (hn : l.most = some n) (hdf : d.params.defaults = [])
    (call : ∀ (w : World) (s₀ s₁ : Shared) (mg mb : Str → Option Value) (fa : Addr) (o : Obj) (pm cd doc : Value) (a : Addr) (vs : List Value) (ns : List Int),
      Ground q loose [] XP w s₀ mg mb s₁.heap → YP w s₁.heap →
      s₁.heap.get? fa = some o → o.data = .func (docDef d.name d.params d.body d.scope pm cd doc) → s₁.heap.CodeRec cd d.name → mg d.name = some (.ref fa) →
      s₁.heap.get? a = some { cls := .type "list", data := .seq vs.toArray } → IntsAre vs ns → ns.length ≤ n → (∀ x ∈ ns, My.Bd 1048576 x) → s₁.gens = #[] →
      codeAny (model l.prog w) callerA (.call (.ref fa) ⟨[.ref a], []⟩) (fun r s' => r = .ok (.ret (.bool true)) ∧ OldK s₁.heap s'.heap ∧ s'.os = s₁.os ∧ AllBare s'.gens) s₁) :
    WalkO q loose XP YP l.row.toRowW d [] (fun f vs => PySem.call f vs) := by
  intro w s₀ s₁ mg mb G Y fa o pm cd doc dV kV ho hd hcd hD hmg hg args vals as hpre hlay hrd hwl hlo
  obtain rfl : dV = .none := Dflts.none hD hdf
  obtain rfl : kV = .none := Dflts.noKw hD
  obtain ⟨a, vs, ns, rfl, rfl, hobj, hints, hlen⟩ := Att.script_of hn hpre hwl
  have hb : ∀ x ∈ ns, My.Bd 1048576 x := by
    have h1 : (WData.list (ns.map WData.int)).layable = true := by
      have h2 : ([WData.list (ns.map WData.int)].all WData.layable) = true := hlay
      simpa using h2
    obtain ⟨_, _, h3⟩ := layableW_iff.mp h1
    refine bits_of_script ?_
    have e : WData.weight (.list (ns.map WData.int)) = WData.weightAll (ns.map WData.int) := by
      first | rfl | simp [WData.weight]
    rw [e] at h3
    exact h3
  refine enter_call (codeAny_mono (call w s₀ s₁ mg mb fa o pm cd doc a vs ns G Y ho (fd_plain hd) hcd hmg hobj hints hlen hb hg) fun r s' hq => ?_)
  obtain ⟨rfl, h2, h3, h4⟩ := hq
  exact ⟨.inl ⟨.bool true, .bool true, [], rfl, fun _ => rfl, .bool true, Att.post_true l _, fun _ => ⟨List.Pairwise.nil, fun _ hm => (nomatch hm)⟩⟩, h2, h3, h4⟩
theorem walk_ofB {l : PySem.W.OpenLaw} {n k : Nat} {q : Program} {loose : List Str} {XP : (Str → Option Value) → Heap → Prop} {YP : World → Heap → Prop} {d : DefRec} {K : Params → PySem.W.Frag} {CX : World → CXT} {sp : World → Sp} {x : Str}
    (hn : l.most = some n) (hn2 : n ≤ sizeLine) (hdf : d.params.defaults = []) (hr : Room k callerA)
    (hY : ∀ (w : World) (h : Heap), YP w h → (K w.params).In h)
    (F : ∀ (w : World) (mg : Str → Option Value) (fa : Addr) (h : Heap), (K w.params).In h → h.Ns mainGlobals mg → mg d.name = some (.ref fa) →
      ∃ fd : FuncData, (∀ (s : Shared) (u : Value), BindsTo s fd ⟨[u], []⟩ [(x, u)]) ∧
        ∀ base : Heap, (K w.params).In base → base.Ns mainGlobals mg → FnOk l.prog w (K w.params) mg base (CX w) k fa fd [x] (sp w))
    (hsp : ∀ (w : World) (H : Hp) (a : Addr) (ns : List Int), ns.length ≤ n → (∀ x ∈ ns, My.Bd 1048576 x) → Only H → SqL (K w.params) H a (ns.map V.int) → sp w [.ref a] H (fun v _ => v = .bl true) fun _ _ _ => False)
    (hCX : ∀ (w : World) (H : Hp) (s : Shared) (e : Value) (s' : Shared), CX w [] H s (fun _ _ _ => False) e s' → False) :
    PySem.W.WalkO q loose XP YP l.row.toRowW d [] (fun f vs => PySem.call f vs) := by
  refine attach_callB hn hdf fun w s₀ s₁ mg mb fa o pm cd doc a vs ns G Y ho hd hcd hmg hobj hints hlen hbits hg => ?_
  have KX := hY w _ Y
  obtain ⟨fd, hb, hF⟩ := F w mg fa _ KX G.T.g hmg
  exact law_call KX G.T.g G.T.b G.T.builtins G.T.nolimit hg hobj hints (Nat.le_trans hlen hn2) hr hF hb (fun H hO hS => hsp w H a ns hlen hbits hO hS) fun H e s' => hCX w H s₁ e s'
end L2

namespace L2
open PySem PySem.Spec PyProof.Rows
noncomputable def rIndex (K : PySem.W.Frag) : V → List V → Hp → VK → Prop := fun x vs H Q => ∃ (l : Addr) (xs : List V) (y z : V) (j : Nat), x = .ref l ∧ vs = [y] ∧ SqL K H l xs ∧ flatV y = true ∧ xs.all flatV = true ∧ xs[j]? = some z ∧ eqV z y = true ∧ (∀ (i : Nat) (u : V), i < j → xs[i]? = some u → eqV u y = false) ∧ Q (.int j) H
noncomputable def rJoin (K : PySem.W.Frag) : V → List V → Hp → VK → Prop := fun x vs H Q => ∃ (l : Addr) (sep : Str) (ts : List Str), x = .str sep ∧ vs = [.ref l] ∧ SqL K H l (ts.map V.str) ∧ JoinOk sep ts = true ∧ Q (.str (Txt.join sep ts)) H
section
variable {X : Cx}
theorem flat_at {xs : List V} (h : xs.all flatV = true) {j : Nat} {x : V} (hx : xs[j]? = some x) : flatV x = true := List.all_eq_true.mp h x (List.mem_of_getElem? hx)
theorem mt_index : MtM X "list.index" (rIndex X.K) := by
  intro pins s σ H x vs v us Q I rx rv h
  obtain ⟨l, xs, y, z, j, rfl, rfl, hq, fy, fs, hz, hit, hno, q⟩ := h
  cases rx
  obtain ⟨u, rfl, ru⟩ := rv.one
  obtain ⟨its, r, pl, hsz⟩ := I.list hq
  have hlen := r.length
  have hj : j < xs.length := by
    rcases Nat.lt_or_ge j xs.length with c | c
    · exact c
    · rw [List.getElem?_eq_none c] at hz; cases hz
  have h63 := line63
  obtain ⟨⟨cls, dd, data, sl⟩, n, ho, hc, _, hd⟩ := id pl
  simp only at hc hd
  subst hc hd
  have at_ : ∀ (i : Nat) (hi : i < its.length), ∃ w, xs[i]? = some w ∧ eqU y its[i] = eqV w y := fun i hi => by
    obtain ⟨w, hw, rw'⟩ : ∃ w, xs[i]? = some w ∧ RelV w its[i] := by
      have : ∀ {xs : List V} {us : List Value}, Vals xs us → ∀ {i : Nat} {u : Value}, us[i]? = some u → ∃ x, xs[i]? = some x ∧ RelV x u := by
        intro xs us h
        induction h with
        | nil => intro i u e; simp at e
        | cons r rr ih =>
          intro i u e
          cases i with
          | zero => exact ⟨_, rfl, by rw [List.getElem?_cons_zero] at e; cases e; exact r⟩
          | succ i => exact ih (by rw [List.getElem?_cons_succ] at e; exact e)
      exact this r (List.getElem?_eq_getElem hi)
    exact ⟨w, hw, eqU_of rw' (flat_at fs hw)⟩
  refine call_meets PySem.F.slot_list_index ⟨_, ho, rfl⟩ PySem.F.entry_list_index (PySem.F.args_list_index_2 _ _)
    (SeqAt.list_indexAt l its.toArray n dd sl u (eqU y) j (by simpa [← hlen] using hj) (by omega) ?_ ?_) ⟨ho, fun w hw => mem_eqAt ru fy r fs w (by simpa using hw), ⟨.int j, H, I.tok _, ⟨_, rfl⟩, q⟩⟩
  · obtain ⟨w, hw, e⟩ := at_ j (by omega)
    rw [hz] at hw
    cases hw
    show eqU y its.toArray[j] = true
    rw [show its.toArray[j]'(by simpa [← hlen] using hj) = its[j]'(by omega) by simp, e]
    exact hit
  · intro i hi hlt
    have hi' : i < its.length := by simpa using hi
    obtain ⟨w, hw, e⟩ := at_ i hi'
    show eqU y its.toArray[i] = false
    rw [show its.toArray[i] = its[i] by simp, e]
    exact hno i w hlt hw
theorem strs_of : ∀ {ts : List Str} {us : List Value}, Vals (ts.map V.str) us → ∃ l : List (Str × Tok), strValues l = us ∧ l.map (·.1) = ts
  | [], _, .nil => ⟨[], rfl, rfl⟩
  | x :: r, _, .cons h t => by
    obtain ⟨tk, rfl⟩ := h
    obtain ⟨l, e1, e2⟩ := strs_of (ts := r) t
    exact ⟨(x, tk) :: l, by rw [← e1]; rfl, by rw [← e2]; rfl⟩
theorem mt_join : MtM X "str.join" (rJoin X.K) := by
  intro pins s σ H x vs v us Q I rx rv h
  obtain ⟨l, sep, ts, rfl, rfl, hq, hok, q⟩ := h
  obtain ⟨t, rfl⟩ := rx
  obtain ⟨u, rfl, ru⟩ := rv.one
  cases ru
  obtain ⟨its, r, pl, hsz⟩ := I.list hq
  obtain ⟨ll, e1, e2⟩ := strs_of r
  refine SC.join (l := ll) (texts := ts) (by rw [e1]; exact pl.isList) e2 hok (fun t' k => ⟨.str _, H, I.tok _, ⟨_, rfl⟩, q⟩)
noncomputable def rSlS : V → Option Int → Option Int → Hp → VK → Prop := fun x lo hi H Q => ∃ z : Str, x = .str z ∧ z.length ≤ sizeLine ∧ Q (.str (Txt.slice z lo hi)) H
theorem sl_str : SlR X rSlS := by
  intro pins s σ H x v vl vu lo hi sl Q I rx hs pl pu h
  obtain ⟨z, rfl, hz, q⟩ := h
  obtain ⟨t, rfl⟩ := rx
  have fin : ∀ (l u : Option (Int × Tok)), s.heap.IsSlice sl l u none → Q (.str (Txt.slice z (l.map (·.1)) (u.map (·.1)))) H → wpAny (model X.prog X.w) X.A (getItem (.str z t) (.ref sl)) (EP X pins σ Q) X.xe s := fun l u hs q =>
    wpAny_getItem_str_slice (l := l) (u := u) (st := none) hs rfl (post_val_or_str ⟨Nat.le_trans (Txt.slice_le z _ _) hz, fun t' k => ⟨.str _, H, I.tok _, ⟨_, rfl⟩, q⟩⟩)
  refine ⟨"str", _, PySem.F.slot_str_getitem.lookup, typeIs_str _ _ _, ?_⟩
  cases pl with
  | none =>
    cases pu with
    | none => exact fin none none hs q
    | int j tj => exact fin none (some (j, tj)) hs q
  | int i ti =>
    cases pu with
    | none => exact fin (some (i, ti)) none hs q
    | int j tj => exact fin (some (i, ti)) (some (j, tj)) hs q
noncomputable def rEqE (K : PySem.W.Frag) (f : Bool → Bool) : R2 := fun x y H Q => ∃ (p q : Addr) (xs : List V), x = .ref p ∧ y = .ref q ∧ SqL K H p xs ∧ SqL K H q [] ∧ Q (.bl (f xs.isEmpty)) H
theorem op_eqE (hu : X.A.units < cLine) : OpR X (compareOp .Eq) (rEqE X.K (fun b => b)) := by
  intro pins s σ H x y v u Q I rx ry h
  obtain ⟨p, q, xs, rfl, rfl, h1, h2, k⟩ := h
  cases rx
  cases ry
  obtain ⟨its, v1, p1, _⟩ := I.list h1
  obtain ⟨its2, v2, p2, _⟩ := I.list h2
  have l1 := v1.length
  have l2 := v2.length
  cases xs with
  | nil =>
    have e1 : its.length = 0 := by rw [← l1]; rfl
    have e2 : its2.length = 0 := by rw [← l2]; rfl
    have key := SeqAt.RcAt.lists (A := X.A) (s := s) (l := p) (b := q) (items := its.toArray) (items2 := its2.toArray) (e := fun _ => true) p1.isList p2.isList (by rw [List.size_toArray, List.size_toArray, e1, e2]) hu (fun j g1 g2 => by
      have g1' : j < its.length := by simpa using g1
      omega)
    have e3 : (List.range its.toArray.size).all (fun _ => true) = true := by rw [List.all_eq_true]; intro _ _; rfl
    rw [e3] at key
    exact key _ _ _ _ ⟨.bl true, H, I, rfl, k⟩
  | cons y r =>
    have e1 : its.length = r.length + 1 := by rw [← l1]; rfl
    have e2 : its2.length = 0 := by rw [← l2]; rfl
    have key := SeqAt.RcAt.lists_lengths (A := X.A) (s := s) (l := p) (b := q) (items := its.toArray) (items2 := its2.toArray) p1.isList p2.isList (by rw [List.size_toArray, List.size_toArray, e1, e2]; rfl) hu
    exact key _ _ _ _ ⟨.bl false, H, I, rfl, k⟩
noncomputable def rAddS : R2 := fun x y H Q => ∃ i j, x = .str i ∧ y = .str j ∧ i.length + j.length ≤ sizeLine ∧ Q (.str (i ++ j)) H
theorem op_addS : OpR X (binaryOp .Add) rAddS := op_add_str
end
section
variable {σ : St} {H : Hp} {Q : VK} {K : PySem.W.Frag} {p q : Addr} {xs : List V} {f : Bool → Bool}
theorem z_addS {a b : Str} (h : a.length + b.length ≤ sizeLine) (k : Q (.str (a ++ b)) H) : rAddS (.str a) (.str b) H Q := ⟨a, b, rfl, rfl, h, k⟩
theorem z_slS {z : Str} {lo hi : Option Int} (h : z.length ≤ sizeLine) (k : Q (.str (Txt.slice z lo hi)) H) : rSlS (.str z) lo hi H Q := ⟨z, rfl, h, k⟩
theorem z_ixS {z : Str} {i : Int} {c : Nat} (h : z.length ≤ sizeLine) (ha : atI z.cps.toList i = some c) (k : Q (.str ⟨#[c]⟩) H) : rIxS (.str z) (.int i) H Q := ⟨z, i, c, rfl, rfl, h, ha, k⟩
theorem z_in {b : Bool} {x : V} (h : SqL K H p xs) (fx : flatV x = true) (fs : xs.all flatV = true) (k : Q (.bl (if b then !inV x xs else inV x xs)) H) : rIn K b x (.ref p) H Q := ⟨p, xs, rfl, .inl h, fx, fs, k⟩
theorem z_join {sep : Str} {ts : List Str} (h : SqL K H p (ts.map V.str)) (ok : JoinOk sep ts = true) (k : Q (.str (Txt.join sep ts)) H) : rJoin K (.str sep) [.ref p] H Q := ⟨p, sep, ts, rfl, rfl, h, ok, k⟩
theorem z_tyS {z : Str} {S : Prop} (q : S) : tyV K "str" (.str z) H ∧ S := ⟨rfl, q⟩
end
end L2

namespace L2
open PySem PySem.Spec PyProof.Rows
section
variable {prog : Program} {w : World} {A : Around} {R : Result → Shared → Prop} {I : Addr} {fp wr : List Addr} {n : Nat} {P : Nat → Value → Prop} {St : Nat → Heap → Prop} {kw : List (Str × Value)}
end
section
variable {X : Cx}
end
end L2

namespace L2
open PySem PySem.Spec PyProof.Rows
noncomputable def rIsB : R2 := fun x y H Q => ∃ a b : Bool, x = .bl a ∧ y = .bl b ∧ Q (.bl (a == b)) H
section
variable {σ : St} {H : Hp} {Q : VK}
theorem z_isB {a b : Bool} (q : Q (.bl (a == b)) H) : rIsB (.bl a) (.bl b) H Q := ⟨a, b, rfl, rfl, q⟩
end
noncomputable def LCN (st : St) (J : It) (te : TE) (H1 : Hp) (Q : VK) : Prop := ∀ acc, H1 acc = none → ∃ W : Nat → Nat → Hp → Prop, (∃ m, W 0 m (upd H1 acc (.lst []))) ∧ ∀ i m H2, W i m H2 →
  (J.stop i H2 ∧ Q (.ref acc) H2) ∨ (J.go i H2 ∧ ∀ x H3, J.yld i H2 x H3 → te (some x :: st) H3 fun v H4 => ∃ xs m', H4 acc = some (.lst xs) ∧ xs.length < sizeLine ∧ m' < m ∧ W (i + 1) m' (upd H4 acc (.lst (xs ++ [v]))))
theorem z_lcn {fr : List (Str × Nat)} {wi : TI} {te : TE} {σ : St} {H : Hp} {Q : VK} (h : wi σ H fun J H1 => LCN (inSt σ fr) J te H1 Q) : tLC fr wi te σ H Q := h
theorem z_r1N {J : It} {j : Int} {st : St} {te : TE} {H : Hp} {Q : VK} (h1 : -(2 ^ 62) ≤ j) (h2 : j < 2 ^ 62) (q : LCN st J te H Q) : -(2 ^ 62) ≤ j ∧ j < 2 ^ 62 ∧ LCN st J te H Q := ⟨h1, h2, q⟩
theorem lcn_range {lo : Int} {n : Nat} {st : St} {te : TE} {H1 : Hp} {Q : VK} (Pv : Nat → List V → Hp → Prop) (hn : n ≤ sizeLine) (h0 : Pv 0 [] H1)
    (hup : ∀ i xs H2 acc o, H1 acc = none → Pv i xs H2 → Pv i xs (upd H2 acc o))
    (step : ∀ i xs acc H2 (S : V → Hp → Prop), i < n → H1 acc = none → Pv i xs H2 → H2 acc = some (.lst xs) → (∀ v H3, Pv (i + 1) (xs ++ [v]) H3 → H3 acc = some (.lst xs) → S v H3) → te (some (.int (lo + (i : Nat))) :: st) H2 S)
    (fin : ∀ acc xs H2, H1 acc = none → xs.length = n → Pv n xs H2 → H2 acc = some (.lst xs) → Q (.ref acc) H2) : LCN st (Itr lo n) te H1 Q := by
  intro acc hacc
  refine ⟨fun i m H2 => ∃ xs, m = n - i ∧ i ≤ n ∧ xs.length = i ∧ Pv i xs H2 ∧ H2 acc = some (.lst xs), ⟨n, [], by simp, Nat.zero_le _, rfl, hup _ _ _ _ _ hacc h0, upd_same⟩, ?_⟩
  rintro i m H2 ⟨xs, rfl, hi, hx, pv, ha⟩
  by_cases hlt : i < n
  · refine .inr ⟨hlt, fun x H3 y => ?_⟩
    obtain ⟨e, y⟩ := y
    subst e y
    refine step i xs acc _ _ hlt hacc pv ha fun v H4 pv4 e4 => ⟨xs, n - (i + 1), e4, by omega, by omega, xs ++ [v], rfl, hlt, by rw [List.length_append, hx]; rfl, hup _ _ _ _ _ hacc pv4, upd_same⟩
  · have e : i = n := by omega
    subst e
    exact .inl ⟨Nat.le_refl _, fin acc xs H2 hacc hx pv ha⟩
theorem z_EqB {H : Hp} {Q : VK} {a b : Bool} (q : Q (.bl (decide (a = b))) H) : rEq (.bl a) (.bl b) H Q := by
  refine ⟨rfl, ?_⟩
  have e : decide (V.bl a = V.bl b) = decide (a = b) := by
    by_cases h : a = b
    · subst h; simp
    · rw [decide_eq_false h, decide_eq_false (fun z => h (V.bl.inj z))]
  rw [e]; exact q
end L2

namespace L2
open PySem PySem.Spec PyProof.Rows PySem.Builtin PySem.Builtin.Str
section
variable {X : Cx}
noncomputable def rStarts : V → List V → Hp → VK → Prop := fun x vs H Q => ∃ z y : Str, x = .str z ∧ vs = [.str y] ∧ Q (.bl (Txt.startswith z y)) H
noncomputable def tFv (te : TE) : TE := fun σ H Q => te σ H fun x H1 => ∃ i : Int, x = .int i ∧ i.natAbs.log2 < 1920 ∧ Q (.str (Str.ofString (toString i))) H1
noncomputable def tFs : List TE → Str → TE
  | [], acc => fun _ H Q => Q (.str acc) H
  | t :: r, acc => fun σ H Q => t σ H fun x H1 => ∃ a : Str, x = .str a ∧ (acc ++ a).length ≤ sizeLine ∧ tFs r (acc ++ a) σ H1 Q
noncomputable def Its (z : Str) : It := ⟨fun i _ => i < z.cps.size, fun i H x H' => H' = H ∧ ∃ c, z.cps.toList[i]? = some c ∧ x = .str ⟨#[c]⟩, fun i _ => z.cps.size ≤ i⟩
noncomputable def iStr (te : TE) : TI := fun σ H R => te σ H fun x H1 => ∃ z : Str, x = .str z ∧ R (Its z) H1
end
section
variable {σ : St} {H : Hp} {Q : VK} {te : TE}
theorem z_starts {z y : Str} (q : Q (.bl (Txt.startswith z y)) H) : rStarts (.str z) [.str y] H Q := ⟨z, y, rfl, rfl, q⟩
theorem z_fv (h : te σ H fun x H1 => ∃ i : Int, x = .int i ∧ i.natAbs.log2 < 1920 ∧ Q (.str (Str.ofString (toString i))) H1) : tFv te σ H Q := h
theorem z_fsn {acc : Str} (q : Q (.str acc) H) : tFs [] acc σ H Q := q
theorem z_fsc {acc : Str} {r : List TE} (h : te σ H fun x H1 => ∃ a : Str, x = .str a ∧ (acc ++ a).length ≤ sizeLine ∧ tFs r (acc ++ a) σ H1 Q) : tFs (te :: r) acc σ H Q := h
theorem z_iS {R : It → Hp → Prop} (h : te σ H fun x H1 => ∃ z : Str, x = .str z ∧ R (Its z) H1) : iStr te σ H R := h
theorem z_iS2 {z : Str} {S : Str → Prop} (q : S z) : ∃ z' : Str, V.str z = .str z' ∧ S z' := ⟨z, rfl, q⟩
theorem z_inS {i j : Str} {S : Str → Str → Prop} (q : S i j) : ∃ i' j' : Str, V.str i = .str i' ∧ V.str j = .str j' ∧ S i' j' := ⟨i, j, rfl, rfl, q⟩
end
end L2

namespace L2
open PySem PySem.Spec PyProof.Rows PySem.Builtin PySem.Builtin.Str
section
variable {X : Cx}
end
end L2

namespace My
open PySem PySem.NumText
noncomputable def dg (n : Nat) : List Nat := (Nat.toDigits 10 n).map Char.toNat
noncomputable def txt (n : Int) : List Nat := if n < 0 then 45 :: dg n.natAbs else dg n.natAbs
noncomputable def hd (A : List Nat) : List Nat := if A.head? = some 45 then A.tail else A
noncomputable def val (A : List Nat) : Int := if A.head? = some 45 then -((digitsVal A.tail : Nat) : Int) else ((digitsVal A : Nat) : Int)
noncomputable def plain (cs : List Nat) : Prop := cs ≠ [] ∧ cs.length ≤ 60 ∧ ¬ (cs.head? = some 48 ∧ cs ≠ [48]) ∧ AllDigits cs
end My

namespace My
open PySem PySem.NumText PySem.StrLaws
abbrev cs (z : Str) : List Nat := z.cps.toList
theorem cs_len (z : Str) : (cs z).length = z.length := by simp [Str.length]
theorem cs_app (a b : Str) : cs (a ++ b) = cs a ++ cs b := by
  show (a.cps ++ b.cps).toList = _
  rw [Array.toList_append]
end My

namespace My
open PySem PySem.NumText
noncomputable def pad4 (n : Nat) : List Nat := [48 + n / 1000, 48 + n / 100 % 10, 48 + n / 10 % 10, 48 + n % 10]
noncomputable def pad2 (n : Nat) : List Nat := [48 + n / 10, 48 + n % 10]
noncomputable def dtx (y m e : Nat) : List Nat := pad4 y ++ 45 :: (pad2 m ++ 45 :: pad2 e)
end My

namespace My
open PySem PySem.NumText PySem.StrLaws PySem.Builtin PySem.Builtin.Str
theorem clip_ss (a b n : Nat) : strSliceIndices (some (a : Int)) (some (b : Int)) 1 n = strSliceIndices (some ((min a n : Nat) : Int)) (some ((min b n : Nat) : Int)) 1 n := by
  have e1 : ¬ ((a : Int) < 0) := by omega
  have e2 : ¬ ((b : Int) < 0) := by omega
  have e3 : ¬ (((min a n : Nat) : Int) < 0) := by omega
  have e4 : ¬ (((min b n : Nat) : Int) < 0) := by omega
  have h1 : max (0 : Int) (min (a : Int) (n : Int)) = max 0 (min ((min a n : Nat) : Int) n) := by omega
  have h2 : max (0 : Int) (min (b : Int) (n : Int)) = max 0 (min ((min b n : Nat) : Int) n) := by omega
  unfold strSliceIndices
  simp only [e1, e2, e3, e4, if_false, show (1 : Int) > 0 by decide, if_true]
  rw [h1, h2]
theorem sl_ss (z : Str) (a b : Nat) : cs (Txt.slice z (some (a : Int)) (some (b : Int))) = ((cs z).drop a).take (b - a) := by
  have hl := cs_len z
  have e : Txt.slice z (some (a : Int)) (some (b : Int)) = Txt.slice z (some ((min a z.length : Nat) : Int)) (some ((min b z.length : Nat) : Int)) := by
    unfold Txt.slice
    rw [clip_ss]
  rw [e]
  by_cases h : min a z.length ≤ min b z.length
  · show cs (sliceText z _ _) = _
    rw [sliceText_nat z h (Nat.min_le_right ..)]
    show ((z.cps.toList.drop _).take _).toArray.toList = _
    rw [List.toList_toArray]
    show ((cs z).drop _).take _ = _
    by_cases ha : a ≤ z.length
    · rw [Nat.min_eq_left ha]
      by_cases hb : b ≤ z.length
      · rw [Nat.min_eq_left hb]
      · rw [Nat.min_eq_right (by omega), List.take_of_length_le (by rw [List.length_drop]; omega), List.take_of_length_le (by rw [List.length_drop]; omega)]
    · rw [Nat.min_eq_right (by omega), List.drop_of_length_le (by omega), List.drop_of_length_le (by omega), List.take_nil, List.take_nil]
  · have e0 : strSliceIndices (some ((min a z.length : Nat) : Int)) (some ((min b z.length : Nat) : Int)) 1 z.length = [] := by
      apply List.eq_nil_of_length_eq_zero
      unfold strSliceIndices sliceRange
      have e3 : ¬ (((min a z.length : Nat) : Int) < 0) := by omega
      have e4 : ¬ (((min b z.length : Nat) : Int) < 0) := by omega
      simp only [e3, e4, if_false, show (1 : Int) > 0 by decide, if_true, List.length_map, List.length_range]
      rw [if_neg (by omega)]
      rfl
    have hz : (0 == z.length) = false := by
      rw [beq_eq_false_iff_ne]
      omega
    unfold Txt.slice
    rw [e0]
    simp only [List.length_nil, hz, Bool.and_false]
    show [] = _
    symm
    apply List.eq_nil_of_length_eq_zero
    rw [List.length_take, List.length_drop]
    omega
theorem sl_0s (z : Str) (b : Nat) : cs (Txt.slice z none (some (b : Int))) = (cs z).take b := by
  have e : Txt.slice z none (some (b : Int)) = Txt.slice z (some ((0 : Nat) : Int)) (some (b : Int)) := by
    unfold Txt.slice; rw [sliceIdx_none_lo]; rfl
  rw [e, sl_ss, List.drop_zero, Nat.sub_zero]
theorem sl_s0 (z : Str) (a : Nat) : cs (Txt.slice z (some (a : Int)) none) = (cs z).drop a := by
  have e : Txt.slice z (some (a : Int)) none = Txt.slice z (some (a : Int)) (some ((z.length : Nat) : Int)) := by
    unfold Txt.slice; rw [sliceIdx_none_hi]
  have hl := cs_len z
  rw [e, sl_ss, List.take_of_length_le (by rw [List.length_drop]; omega)]
theorem pad4_dig (n : Nat) (h : n < 10000) : AllDigits (pad4 n) := by
  intro c hc
  unfold pad4 at hc
  simp only [List.mem_cons, List.not_mem_nil, or_false] at hc
  rcases hc with e | e | e | e <;> omega
theorem pad2_dig (n : Nat) (h : n < 100) : AllDigits (pad2 n) := by
  intro c hc
  unfold pad2 at hc
  simp only [List.mem_cons, List.not_mem_nil, or_false] at hc
  rcases hc with e | e <;> omega
theorem pad4_val {n : Nat} (h : n < 10000) : digitsVal (pad4 n) = n := by
  show ((((0 * 10 + (48 + n / 1000 - 48)) * 10 + (48 + n / 100 % 10 - 48)) * 10 + (48 + n / 10 % 10 - 48)) * 10 + (48 + n % 10 - 48)) = n
  omega
theorem pad2_val {n : Nat} (h : n < 100) : digitsVal (pad2 n) = n := by
  show ((0 * 10 + (48 + n / 10 - 48)) * 10 + (48 + n % 10 - 48)) = n
  omega
noncomputable def DueDay (c : List Nat) (y m e : Int) : Prop := Valid y m e ∧ c = dtx y.toNat m.toNat e.toNat
theorem Valid.bd {y m e : Int} (v : Valid y m e) : y.toNat < 10000 ∧ m.toNat < 100 ∧ e.toNat < 100 := by
  have v1 := v.y2
  have v2 := v.m2
  have v3 := v.e2
  have v4 : mlen y m ≤ 31 := (ml_pos (L := leap y) v.m1 v.m2).2
  omega
theorem DueDay.parts {c : List Nat} {y m e : Int} (d : DueDay c y m e) : ∃ A B C, c = A ++ 45 :: (B ++ 45 :: C) ∧ A.length = 4 ∧ AllDigits A ∧ B.length = 2 ∧ AllDigits B ∧ C.length = 2 ∧ AllDigits C ∧ y = (digitsVal A : Nat) ∧ m = (digitsVal B : Nat) ∧ e = (digitsVal C : Nat) := by
  obtain ⟨v, rfl⟩ := d
  obtain ⟨w1, w2, w3⟩ := v.bd
  have y1 := v.y1
  have m1 := v.m1
  have z1 := v.e1
  exact ⟨_, _, _, rfl, rfl, pad4_dig _ w1, rfl, pad2_dig _ w2, rfl, pad2_dig _ w3, by rw [pad4_val w1]; omega, by rw [pad2_val w2]; omega, by rw [pad2_val w3]; omega⟩
end My

namespace L2
open PySem PySem.Spec PyProof.Rows
noncomputable def rNotB : R2 := fun x y H Q => ∃ a b : Bool, x = .bl a ∧ y = .bl b ∧ Q (.bl (a != b)) H
theorem z_notB {H : Hp} {Q : VK} {a b : Bool} (q : Q (.bl (a != b)) H) : rNotB (.bl a) (.bl b) H Q := ⟨a, b, rfl, rfl, q⟩
theorem z_NeB {H : Hp} {Q : VK} {a b : Bool} (q : Q (.bl (!decide (a = b))) H) : rNe (.bl a) (.bl b) H Q := by
  refine ⟨rfl, ?_⟩
  have e : decide (V.bl a = V.bl b) = decide (a = b) := by cases a <;> cases b <;> rfl
  rw [e]; exact q
theorem z_ints {is : List Int} {σ : St} {H : Hp} {S : List V → Hp → Prop} (q : S (is.map V.int) H) : tInts is σ H S := q
theorem lcn_rangeP {lo : Int} {n : Nat} {st : St} {te : TE} {H1 : Hp} {Q : VK} (P : Nat → V → Prop) (hn : n ≤ sizeLine)
    (step : ∀ i H2 (S : V → Hp → Prop), i < n → Same H1 H2 → (∀ v H3, Same H2 H3 → P i v → S v H3) → te (some (.int (lo + (i : Nat))) :: st) H2 S)
    (fin : ∀ acc xs H2, H1 acc = none → xs.length = n → (∀ i v, xs[i]? = some v → P i v) → Same H1 H2 → H2 acc = some (.lst xs) → Q (.ref acc) H2) : LCN st (Itr lo n) te H1 Q := by
  refine lcn_range (fun i xs H2 => xs.length = i ∧ Same H1 H2 ∧ ∀ i v, xs[i]? = some v → P i v) hn ⟨rfl, Same.refl _, fun i v h => by cases h⟩ ?_ ?_ ?_
  · rintro i xs H2 acc o hacc ⟨h1, h2, h3⟩
    exact ⟨h1, fun b u e => by rw [upd_ne (fun z => by rw [z, hacc] at e; cases e)]; exact h2 b u e, h3⟩
  · rintro i xs acc H2 S hi hacc ⟨h1, h2, h3⟩ ha k
    refine step i H2 S hi h2 fun v H3 s3 hv => k v H3 ⟨by rw [List.length_append, h1]; rfl, h2.trans s3, fun j u e => ?_⟩ (s3 _ _ ha)
    rcases Nat.lt_or_ge j xs.length with q | q
    · rw [List.getElem?_append_left q] at e
      exact h3 j u e
    · rw [List.getElem?_append_right q] at e
      have := (List.getElem?_eq_some_iff.mp e).1
      simp at this
      have ej : j = i := by omega
      subst ej
      rw [show j - xs.length = 0 by omega] at e
      cases e
      exact hv
  · rintro acc xs H2 hacc hx ⟨_, h2, h3⟩ ha
    exact fin acc xs H2 hacc hx h3 h2 ha
end L2
namespace L2
open PySem PySem.Spec PyProof.Rows
noncomputable def rCatL (K : PySem.W.Frag) : R2 := fun x y H Q => ∃ l m xs zs, x = .ref l ∧ y = .ref m ∧ SqL K H l xs ∧ SqL K H m zs ∧ xs.length + zs.length ≤ sizeLine ∧ ∀ p, H p = none → Q (.ref p) (upd H p (.lst (xs ++ zs)))
theorem op_catL {X : Cx} : OpR X (binaryOp .Add) (rCatL X.K) := by
  intro pins s σ H x y v u Q I rx ry h
  obtain ⟨l, b, xs, zs, rfl, rfl, hH, hB, hz, q⟩ := h
  cases rx
  cases ry
  obtain ⟨its, r, p1, _⟩ := I.list hH
  obtain ⟨its2, r2, p2, _⟩ := I.list hB
  have l1 := r.length
  have l2 := r2.length
  obtain ⟨⟨cls, dd, data, sl⟩, ho, hc, n, hd⟩ := p1.isList
  obtain ⟨⟨cls2, dd2, data2, sl2⟩, ho2, hc2, n2, hd2⟩ := p2.isList
  simp only at hc hd hc2 hd2
  subst hc hd hc2 hd2
  have e : its.toArray ++ its2.toArray = (its ++ its2).toArray := by simp
  refine concat_meets ⟨_, ho, rfl⟩ ⟨_, ho2, rfl⟩ noFill_list_add seq_list_add PySem.F.slot_list_add PySem.F.entry_list_add (PySem.F.args_list_add_2 _ _) (list_addW l b its.toArray its2.toArray n n2 dd dd2 sl sl2 (by rw [List.size_toArray, List.size_toArray]; omega)) ⟨ho, ho2, ?_⟩
  rw [e]
  exact ⟨.ref _, _, I.lnew (t' := s.toks) (r.append r2) (by rw [List.length_append]; omega), rfl, q _ I.fresh⟩
theorem z_catL {K : PySem.W.Frag} {H : Hp} {Q : VK} {l m : Addr} {xs zs : List V} (h1 : SqL K H l xs) (h2 : SqL K H m zs) (hl : xs.length + zs.length ≤ 1000) (q : ∀ p H', H p = none → Same H H' → H' p = some (.lst (xs ++ zs)) → Q (.ref p) H') : rCatL K (.ref l) (.ref m) H Q :=
  ⟨l, m, xs, zs, rfl, rfl, h1, h2, Nat.le_trans hl (by decide), fun p hp => q p _ hp (Same.new hp _) upd_same⟩
end L2

namespace L2
open PySem PySem.Spec PyProof.Rows
section
variable {X : Cx} {pins : List (Addr × Obj)} {σ : St} {H : Hp} {s : Shared} {h' : Heap}
theorem Inv.turnedL {t' : Nat} {fp : List Addr} (I : Inv X pins σ H s) (k : ∀ b o, b ∉ fp → s.heap.get? b = some o → h'.get? b = some o) (hf : ∀ b ∈ fp, FpOk X pins H b) : Inv X pins σ H { s with heap := h', toks := t' } := by
  have nit : ∀ b u, H b = some u → b ∉ fp := fun b u e z => by rw [(hf b z).1] at e; cases e
  refine I.step (g' := s.gens) (d' := s.drawn) (ch := fp) (fun b hb => ?_) (fun b o _ _ hc e _ => k b o hc e) (fun b o _ _ hc e _ => ⟨o.slots, k b o hc e⟩) (fun _ _ _ _ n => n)
    (fun b o hc e => ⟨o, k b o hc e⟩) (fun _ _ e => e) (fun _ _ _ e => e) (fun b ps e => ⟨#[], by rw [e]; simp⟩) (fun m hm => ?_) (fun b u e => ?_) I.bare
  · obtain ⟨_, f1, _, f3, f4, f5⟩ := hf b hb
    exact ⟨f3, f1, f4, f5⟩
  · obtain ⟨o, es, ep, ho, r⟩ := hm
    exact ⟨o, es, ep, k _ o (fun z => (hf _ z).2.1 rfl) ho, r⟩
  · refine (I.hok b u e).stay (fun c v hc q => k c v ?_ q) (fun _ q => q) fun _ _ q => q
    rcases hc with z | z
    · rw [z]; exact nit b u e
    · exact nit c _ z
end
noncomputable def Ite (K : PySem.W.Frag) (a : Addr) : It :=
  ⟨fun i H => ∃ xs x, SqL K H a xs ∧ xs[i]? = some x, fun i H v H' => ∃ p x, v = .ref p ∧ H p = none ∧ (∀ xs, SqL K H a xs → xs[i]? = some x) ∧ H' = upd H p (.tup [.int i, x]), fun i H => ∃ xs, SqL K H a xs ∧ xs.length ≤ i⟩
theorem turn_enum {P : Program} {w : World} {K : PySem.W.Frag} {elts : List Expr} {x1 : _} {pos : Pos} (a e it : Addr) (hne : e ≠ it) : Turn P w K (.Tuple elts x1 pos) (Ite K a) [e, it] e (fun i h => (∃ old, IsEnum h e it i old) ∧ h.IsListIter it a i) where
  mem := by simp
  obj := fun i h st b hb => by
    obtain ⟨⟨old, he⟩, o, ho, c, d⟩ := st
    have hb' : b = e ∨ b = it := by simpa using hb
    rcases hb' with rfl | rfl
    · exact ⟨_, he, fun v z => by cases z⟩
    · exact ⟨o, ho, fun v z => by rw [d] at z; cases z⟩
  keep := fun i h h' st k => by
    obtain ⟨⟨old, he⟩, hi⟩ := st
    exact ⟨⟨old, k e (by simp) _ he⟩, hi.at fun o e' => k it (by simp) o e'⟩
  item := by
    intro X hP hw hK hc i pins s σ H E I hf st hg
    subst hP hw hK
    obtain ⟨xs, x, hq, hx⟩ := hg
    obtain ⟨⟨old, he⟩, hit⟩ := st
    obtain ⟨its, rv, p, hz⟩ := I.list hq
    obtain ⟨u, hu, ru⟩ := rv.get hx
    have hel := Heap.lt_size he
    have hil : it < s.heap.objs.size := by obtain ⟨o, ho, _⟩ := hit; exact Heap.lt_size ho
    refine wpAny_pyNext_enum_item he hit p.isList (x := u) (by simpa using hu) hne fun h1 ho hit1 htup hsz kk => ?_
    refine ⟨.ref s.heap.objs.size, rfl, wpAny_letOwnedTupleGo_enum ho fun h2 he2 sb => ?_⟩
    have sb2 : ∀ b, b ≠ e → h2.get? b = h1.get? b := sb.2
    have hfr : H s.heap.objs.size = none := I.hok.fresh (Nat.le_refl _)
    have I1 : Inv X pins σ (upd H s.heap.objs.size (.tup [.int i, x])) { s with heap := s.heap.push { cls := .type "tuple", data := .seq #[.int i s.toks, u] }, toks := s.toks + 1 } :=
      I.laid (fun b o e => Heap.get?_push_of_some _ e) (Nat.le_refl _) ⟨by show 2 ≤ sizeLine; decide, [.int i s.toks, u], .cons ⟨_, rfl⟩ (.cons ru .nil), _, Heap.get?_push_size _ rfl, rfl, _, rfl⟩
    have hf2 : ∀ b ∈ [e, it], FpOk X pins (upd H s.heap.objs.size (.tup [.int i, x])) b := fun b hb => by
      obtain ⟨f0, f1, f2, f3, f4, f5⟩ := hf b hb
      have hb' : b = e ∨ b = it := by simpa using hb
      have hlt : b < s.heap.objs.size := by rcases hb' with rfl | rfl <;> assumption
      exact ⟨by rw [upd_ne (Nat.ne_of_lt hlt)]; exact f0, f1, f2, f3, f4, f5⟩
    have I2 := Inv.turnedL (h' := h2) (t' := s.toks + 1) (fp := [e, it]) I1 (fun b o hb e' => by
      have hbe : b ≠ e := fun z => hb (by simp [z])
      have hbi : b ≠ it := fun z => hb (by simp [z])
      rw [sb2 b hbe]
      rcases Heap.get?_push_cases e' with ⟨z1, z2⟩ | z
      · rw [z1, z2]; exact htup
      · exact kk b o hbe hbi z) hf2
    refine ⟨.ref s.heap.objs.size, _, I2, rfl, ⟨_, x, rfl, hfr, fun ys hy => by rw [I.list_inj hy hq]; exact hx, rfl⟩, ⟨⟨u, by simpa using he2⟩, ?_⟩, fun b hb => (hf2 b hb).1⟩
    obtain ⟨o, ho', r⟩ := hit1
    exact ⟨o, (sb2 it (Ne.symm hne)).trans ho', r⟩
  done := by
    intro X hP hw hK hc i pins s σ H E I hf st hg
    subst hP hw hK
    obtain ⟨xs, hq, hx⟩ := hg
    obtain ⟨⟨old, he⟩, hit⟩ := st
    obtain ⟨its, rv, p, hz⟩ := I.list hq
    obtain ⟨f0, f1, f2, f3, f4, f5⟩ := hf it (by simp)
    have hl := rv.length
    exact wpAny_pyNext_enum_end (I.ok.hd hc) he hit p.isList (by simp; omega) fun h' eb => ⟨rfl, I.turned (t' := s.toks) (fun b o hb e => eb b o hb e) f0 f1 f3 f4 f5⟩
  self := fun _ _ _ _ _ st h => by
    obtain ⟨⟨old, he⟩, _⟩ := st
    exact wpAny_pyIter_enum he h
section
variable {X : Cx}
noncomputable def iEnum (K : PySem.W.Frag) (ta : TA) : TI := fun σ H R => ta σ H fun vs H1 => ∃ a, vs = [.ref a] ∧ (∃ xs, SqL K H1 a xs) ∧ R (Ite K a) H1
theorem pi_enum {l : Expr} {ta : TA} {elts : List Expr} {x1 : _} {p pos pos' : Pos} (hg : Gl X "enumerate") (hm : X.mg "enumerate" = none) (ha : PA X [l] ta) (hs : starEach [l] X.env = [(false, eval l X.env)] := by rfl) :
    PI X (.Tuple elts x1 pos') (.Call (.Name "enumerate" p) [l] [] pos) (iEnum X.K ta) := by
  intro pins s σ H R I h
  refine Call_ (ld_blt I hg hm PyProof.Rows.boot_enumerate (PyProof.Rows.callWith_type1 (thn (ha pos pins s σ H _ I h) fun us s1 ⟨vs, H1, I1, r1, q1⟩ => ?_) hs rfl))
  obtain ⟨a, e, ⟨xs, hq⟩, q⟩ := q1
  subst e
  cases r1 with
  | cons r rr =>
    cases rr
    cases r
    obtain ⟨its, rv, p, hz⟩ := I1.list hq
    refine call_enumerate_list p.isList fun h' he hit hsz kk => ?_
    have I2 : Inv X pins σ H1 { s1 with heap := h' } := I1.kept (t' := s1.toks) kk
    refine wpAny_pyIter_enum he ⟨s1.heap.objs.size + 1, [s1.heap.objs.size + 1, s1.heap.objs.size], _, _, H1, rfl, I2, turn_enum a _ _ (Nat.succ_ne_self _), ⟨⟨_, he⟩, hit⟩, fun b hb => ?_, q⟩
    have hb' : b = s1.heap.objs.size + 1 ∨ b = s1.heap.objs.size := by simpa using hb
    rcases hb' with rfl | rfl
    · exact I1.fpOk (Nat.le_succ _) (I1.hok.fresh (Nat.le_succ _))
    · exact I1.fpOk (Nat.le_refl _) (I1.hok.fresh (Nat.le_refl _))
end
section
variable {σ : St} {H : Hp} {g : TG} {tb : TS} {nx : St → Hp → Prop} {rt : VK} {K : PySem.W.Frag} {a : Addr} {xs : List V}
theorem z_iE {ta : TA} {R : It → Hp → Prop} (h : ta σ H fun vs H1 => ∃ a, vs = [.ref a] ∧ (∃ xs, SqL K H1 a xs) ∧ R (Ite K a) H1) : iEnum K ta σ H R := h
theorem z_iE2 {S : Addr → Prop} (hs : SqL K H a xs) (q : S a) : ∃ a', [V.ref a] = [.ref a'] ∧ (∃ xs, SqL K H a' xs) ∧ S a' := ⟨a, rfl, ⟨xs, hs⟩, q⟩
theorem f_enum (Pv : Nat → St → Hp → Prop) (h0 : Pv 0 σ H) (hl : ∀ i σ H, i ≤ xs.length → Pv i σ H → SqL K H a xs)
    (hs : ∀ i x σ H, xs[i]? = some x → Pv i σ H → ∀ p H', Same H H' → H' p = some (.tup [.int i, x]) → g (.ref p) σ H' fun σ2 H2 => tb ⟨Pv (i + 1), rt, nx, Pv (i + 1)⟩ σ2 H2) (hd : ∀ σ H, Pv xs.length σ H → nx σ H) : FW (Ite K a) g tb nx rt σ H := by
  refine ⟨fun i m σ H => Pv i σ H ∧ i ≤ xs.length ∧ m = xs.length - i, ⟨_, h0, Nat.zero_le _, rfl⟩, fun i m σ H ⟨hp, hi, hm⟩ => ?_⟩
  rcases Nat.lt_or_ge i xs.length with hlt | hge
  · obtain ⟨x, hx⟩ : ∃ x, xs[i]? = some x := ⟨_, List.getElem?_eq_getElem hlt⟩
    refine .inr ⟨⟨xs, x, hl i σ H hi hp, hx⟩, Pv (i + 1), fun σ' H' h => ⟨xs.length - (i + 1), by omega, h, by omega, rfl⟩, ?_⟩
    rintro v H' ⟨p, y, rfl, hn, hy, rfl⟩
    have e := hy _ (hl i σ H hi hp)
    rw [hx] at e
    cases e
    exact hs i x σ H hx hp p _ (Same.new hn _) upd_same
  · have e : i = xs.length := by omega
    subst e
    exact .inl ⟨⟨xs, hl _ σ H hi hp, Nat.le_refl _⟩, hd σ H hp⟩
end
end L2

namespace L2
open PySem PySem.Spec PyProof.Rows

section
variable {κ : Type} [DecidableEq κ]
noncomputable def valV (kvs : List (κ × V)) (k : κ) : Option V := (kvs.find? fun kv => decide (kv.1 = k)).map (·.2)
noncomputable def putK (kvs : List (κ × V)) (k : κ) (v : V) : List (κ × V) :=
  if (kvs.any fun kv => decide (kv.1 = k)) = true then kvs.map (fun kv => if kv.1 = k then (kv.1, v) else kv) else kvs ++ [(k, v)]
noncomputable def dropK (kvs : List (κ × V)) (k : κ) : List (κ × V) := kvs.filter fun kv => decide (kv.1 ≠ k)

theorem valV_pos {p : κ × V} {r : List (κ × V)} {k : κ} (e : p.1 = k) : valV (p :: r) k = some p.2 := by simp [valV, List.find?_cons, e]
theorem valV_neg {p : κ × V} {r : List (κ × V)} {k : κ} (e : ¬ p.1 = k) : valV (p :: r) k = valV r k := by simp [valV, List.find?_cons, e]
theorem valV_any (k : κ) : ∀ kvs : List (κ × V), (kvs.any fun kv => decide (kv.1 = k)) = (valV kvs k).isSome
  | [] => rfl
  | p :: r => by
    rw [List.any_cons]
    by_cases e : p.1 = k
    · simp only [valV_pos e, decide_eq_true e, Bool.true_or, Option.isSome_some]
    · rw [valV_neg e, decide_eq_false e, Bool.false_or]; exact valV_any k r
theorem length_putK (kvs : List (κ × V)) (k : κ) (v : V) : (putK kvs k v).length ≤ kvs.length + 1 := by
  unfold putK
  split
  · rw [List.length_map]; omega
  · rw [List.length_append, List.length_cons, List.length_nil]; omega
theorem RelO.isSome_eq {o : Option V} {u : Option Value} (r : RelO o u) : o.isSome = u.isSome := by
  cases o with
  | none => cases u with
    | none => rfl
    | some _ => exact (show False from r).elim
  | some _ => cases u with
    | none => exact (show False from r).elim
    | some _ => rfl
theorem RelO.getD {o : Option V} {u : Option Value} {d : V} {d' : Value} (r : RelO o u) (rd : RelV d d') : RelV (o.getD d) (u.getD d') := by
  cases o with
  | none => cases u with
    | none => exact rd
    | some _ => exact (show False from r).elim
  | some _ => cases u with
    | none => exact (show False from r).elim
    | some _ => exact r

theorem KV.val {kvs : List (κ × V)} {vs : List (κ × Value)} (r : KV kvs vs) (k : κ) : RelO (valV kvs k) (valueAt vs k) := by
  unfold KV at r
  induction r with
  | nil => exact True.intro
  | @cons p q ps qs h t ih =>
    obtain ⟨h1, h2⟩ := h
    by_cases e : p.1 = k
    · have e' : q.1 = k := h1.symm.trans e
      have b : valueAt (q :: qs) k = some q.2 := by simp [valueAt, List.find?_cons, e']
      rw [valV_pos e, b]; exact h2
    · have e' : ¬ q.1 = k := fun z => e (h1.trans z)
      have b : valueAt (q :: qs) k = valueAt qs k := by simp [valueAt, List.find?_cons, e']
      rw [valV_neg e, b]; exact ih
theorem KV.any {kvs : List (κ × V)} {vs : List (κ × Value)} (r : KV kvs vs) (k : κ) : (kvs.any fun kv => decide (kv.1 = k)) = vs.any fun kv => decide (kv.1 = k) := by
  unfold KV at r
  induction r with
  | nil => rfl
  | cons h t ih => rw [List.any_cons, List.any_cons, ih, h.1]
theorem KV.repl {kvs : List (κ × V)} {vs : List (κ × Value)} (r : KV kvs vs) (k : κ) {y : V} {u : Value} (ry : RelV y u) :
    KV (kvs.map fun kv => if kv.1 = k then (kv.1, y) else kv) (vs.map fun kv => if kv.1 = k then (kv.1, u) else kv) := by
  unfold KV at r ⊢
  induction r with
  | nil => exact .nil
  | @cons p q ps qs h t ih =>
    rw [List.map_cons, List.map_cons]
    refine .cons ?_ ih
    obtain ⟨h1, h2⟩ := h
    by_cases e : p.1 = k
    · rw [if_pos e, if_pos (h1.symm.trans e)]; exact ⟨h1, ry⟩
    · rw [if_neg e, if_neg (fun z => e (h1.trans z))]; exact ⟨h1, h2⟩
theorem KV.put {kvs : List (κ × V)} {vs : List (κ × Value)} (r : KV kvs vs) (k : κ) {y : V} {u : Value} (ry : RelV y u) : KV (putK kvs k y) (stored vs k u) := by
  unfold putK stored
  rw [r.any k]
  by_cases e : (vs.any fun kv => decide (kv.1 = k)) = true
  · rw [if_pos e, if_pos e]; exact r.repl k ry
  · rw [if_neg e, if_neg e]; exact Paired.snoc r ⟨rfl, ry⟩
theorem KV.drop {kvs : List (κ × V)} {vs : List (κ × Value)} (r : KV kvs vs) (k : κ) : KV (dropK kvs k) (without vs k) := by
  unfold KV at r ⊢
  unfold dropK without
  induction r with
  | nil => exact .nil
  | @cons p q ps qs h t ih =>
    obtain ⟨h1, h2⟩ := h
    rw [List.filter_cons, List.filter_cons]
    by_cases e : p.1 = k
    · have a : ¬ decide (p.1 ≠ k) = true := by simp [e]
      have b : ¬ decide (q.1 ≠ k) = true := by simp [h1.symm.trans e]
      rw [if_neg a, if_neg b]; exact ih
    · have e' : ¬ q.1 = k := fun z => e (h1.trans z)
      have a : decide (p.1 ≠ k) = true := by simp [e]
      have b : decide (q.1 ≠ k) = true := by simp [e']
      rw [if_pos a, if_pos b]; exact .cons ⟨h1, h2⟩ ih
theorem KV.length {kvs : List (κ × V)} {vs : List (κ × Value)} (r : KV kvs vs) : kvs.length = vs.length := Paired.length r
end


theorem kV_is {P : Program} {w : World} {k : Key} {u : Value} (r : RelV (kV k) u) : (mixKind P w).is k u = true := by
  cases k with
  | inl i => obtain ⟨t, e⟩ := (show ∃ t, u = Value.int i t from r); subst e; exact mixKind_int P w i t
  | inr x => obtain ⟨t, e⟩ := (show ∃ t, u = Value.str x t from r); subst e; exact mixKind_str P w x t
theorem items_are {P : Program} {w : World} : ∀ {ks : List Key} {us : List Value}, Vals (ks.map kV) us → ItemsAre (mixKind P w) ks us
  | [], _, r => by rw [List.map_nil] at r; cases r; exact .nil
  | k :: ks, _, r => by
    rw [List.map_cons] at r
    cases r with
    | cons h t => exact .cons (kV_is h) (items_are t)

abbrev KT (H : Hp) : List (List Key × V) → List (List Key × Addr × Value) → Prop := Paired fun p q => p.1 = q.1 ∧ H q.2.1 = some (.tup (p.1.map kV)) ∧ RelV p.2 q.2.2
theorem KT.val {H : Hp} {kvs : List (List Key × V)} {xs : List (List Key × Addr × Value)} (r : KT H kvs xs) (k : List Key) : RelO (valV kvs k) ((atKey xs k).map (·.2)) := by
  induction r with
  | nil => exact True.intro
  | @cons p q ps qs h t ih =>
    obtain ⟨h1, _, h2⟩ := h
    by_cases e : p.1 = k
    · have e' : q.1 = k := h1.symm.trans e
      have b : atKey (q :: qs) k = some q.2 := by simp [atKey, List.find?_cons, e']
      rw [valV_pos e, b]; exact h2
    · have e' : ¬ q.1 = k := fun z => e (h1.trans z)
      have b : atKey (q :: qs) k = atKey qs k := by simp [atKey, List.find?_cons, e']
      rw [valV_neg e, b]; exact ih
theorem KT.repl {H : Hp} {kvs : List (List Key × V)} {xs : List (List Key × Addr × Value)} (r : KT H kvs xs) (k : List Key) {y : V} {u : Value} (ry : RelV y u) :
    KT H (kvs.map fun kv => if kv.1 = k then (kv.1, y) else kv) (xs.map (putAt k u)) := by
  induction r with
  | nil => exact .nil
  | @cons p q ps qs h t ih =>
    rw [List.map_cons, List.map_cons]
    refine .cons ?_ ih
    obtain ⟨h1, h2, h3⟩ := h
    unfold putAt
    by_cases e : p.1 = k
    · rw [if_pos e, if_pos (h1.symm.trans e)]; exact ⟨h1, h2, ry⟩
    · rw [if_neg e, if_neg (fun z => e (h1.trans z))]; exact ⟨h1, h2, h3⟩
theorem KT.put {H : Hp} {kvs : List (List Key × V)} {xs : List (List Key × Addr × Value)} (r : KT H kvs xs) (k : List Key) {b : Addr} {y : V} {u : Value} (hb : H b = some (.tup (k.map kV))) (ry : RelV y u) :
    KT H (putK kvs k y) (storedH xs k b u) := by
  have e : (kvs.any fun kv => decide (kv.1 = k)) = (atKey xs k).isSome := by
    rw [valV_any, (r.val k).isSome_eq, Option.isSome_map]
  unfold putK storedH
  rw [e]
  by_cases q : (atKey xs k).isSome = true
  · rw [if_pos q, if_pos q]; exact r.repl k ry
  · rw [if_neg q, if_neg q]; exact Paired.snoc r ⟨rfl, hb, ry⟩
theorem KT.keeps {H H' : Hp} {kvs : List (List Key × V)} {xs : List (List Key × Addr × Value)} (r : KT H kvs xs) (ht : ∀ b ys, H b = some (.tup ys) → H' b = some (.tup ys)) : KT H' kvs xs :=
  Paired.mapP r fun _ _ z => ⟨z.1, ht _ _ z.2.1, z.2.2⟩

section
variable {P : Program} {w : World} {H : Hp} {h : Heap} {a : Addr}
theorem rd_of {u : HO} (ok : HOk P w H h) (e : Rd H a u) : ObjOk P w H h a u := e.ok ok
theorem dk_rd {kvs : List (Key × V)} (ok : HOk P w H h) (e : Rd H a (.dK kvs)) : kvs.length ≤ sizeLine ∧ (a == sysModules) = false ∧ ∃ vs, KV kvs vs ∧ h.DictOf (mixKind P w) a vs :=
  show ObjOk P w H h a (.dK kvs) from rd_of ok e
theorem dk_of {kvs : List (Key × V)} (ok : HOk P w H h) (e : H a = some (.dK kvs)) : kvs.length ≤ sizeLine ∧ (a == sysModules) = false ∧ ∃ vs, KV kvs vs ∧ h.DictOf (mixKind P w) a vs := dk_rd ok (.inl e)
theorem key_of {ks : List Key} (ok : HOk P w H h) (e : H a = some (.tup (ks.map kV))) : (tupleKind (mixKind P w)).is h ks a := by
  obtain ⟨_, its, r, o, h1, h2, n, h3⟩ := (show ObjOk P w H h a (.tup (ks.map kV)) from ok a _ e)
  exact ⟨o, its.toArray, n, h1, h2, h3, by simpa using items_are r⟩
theorem dt_rd {kvs : List (List Key × V)} (ok : HOk P w H h) (e : Rd H a (.dT kvs)) : kvs.length ≤ sizeLine ∧ (a == sysModules) = false ∧
    ∃ xs, KT H kvs xs ∧ h.DictOfH (tupleKind (mixKind P w)) a xs := by
  obtain ⟨z, y, xs, r, o, es, ep, h1, h2, h3, h4, h5⟩ := (show ObjOk P w H h a (.dT kvs) from rd_of ok e)
  refine ⟨z, y, xs, r, o, es, ep, h1, h2, h3, h4, fun x hx => ?_, h5⟩
  have all : ∀ {l : List (List Key × V)} {m : List (List Key × Addr × Value)}, KT H l m → ∀ x ∈ m, (tupleKind (mixKind P w)).is h x.1 x.2.1 := by
    intro l m q
    induction q with
    | nil => intro x hx; exact nomatch hx
    | @cons p q ps qs hq t ih =>
      intro x hx
      rcases List.mem_cons.mp hx with e | hx
      · subst e
        exact key_of ok (by rw [← hq.1]; exact hq.2.1)
      · exact ih x hx
  exact all r x hx
theorem dt_of {kvs : List (List Key × V)} (ok : HOk P w H h) (e : H a = some (.dT kvs)) : kvs.length ≤ sizeLine ∧ (a == sysModules) = false ∧
    ∃ xs, KT H kvs xs ∧ h.DictOfH (tupleKind (mixKind P w)) a xs := dt_rd ok (.inl e)
end

noncomputable def DGet (H : Hp) (a : Addr) (y : V) (r : Option V) : Prop :=
  (∃ kvs k, Rd H a (.dK kvs) ∧ y = kV k ∧ r = valV kvs k) ∨ ∃ kvs k b, Rd H a (.dT kvs) ∧ y = .ref b ∧ H b = some (.tup (k.map kV)) ∧ r = valV kvs k
noncomputable def DPut (H : Hp) (a : Addr) (y v : V) (H' : Hp) : Prop :=
  (∃ kvs k, H a = some (.dK kvs) ∧ y = kV k ∧ kvs.length < sizeLine ∧ H' = upd H a (.dK (putK kvs k v))) ∨
  ∃ kvs k b, H a = some (.dT kvs) ∧ y = .ref b ∧ H b = some (.tup (k.map kV)) ∧ kvs.length < sizeLine ∧ H' = upd H a (.dT (putK kvs k v))
theorem DGet.k {H : Hp} {a : Addr} {kvs : List (Key × V)} {k : Key} (e : H a = some (.dK kvs)) : DGet H a (kV k) (valV kvs k) := .inl ⟨kvs, k, .inl e, rfl, rfl⟩
theorem DGet.t {H : Hp} {a b : Addr} {kvs : List (List Key × V)} {k : List Key} (e : H a = some (.dT kvs)) (eb : H b = some (.tup (k.map kV))) : DGet H a (.ref b) (valV kvs k) := .inr ⟨kvs, k, b, .inl e, rfl, eb, rfl⟩
theorem DPut.k {H : Hp} {a : Addr} {kvs : List (Key × V)} {k : Key} {v : V} (e : H a = some (.dK kvs)) (hl : kvs.length < sizeLine) : DPut H a (kV k) v (upd H a (.dK (putK kvs k v))) := .inl ⟨kvs, k, e, rfl, hl, rfl⟩
theorem DPut.t {H : Hp} {a b : Addr} {kvs : List (List Key × V)} {k : List Key} {v : V} (e : H a = some (.dT kvs)) (eb : H b = some (.tup (k.map kV))) (hl : kvs.length < sizeLine) :
    DPut H a (.ref b) v (upd H a (.dT (putK kvs k v))) := .inr ⟨kvs, k, b, e, rfl, eb, hl, rfl⟩


section
variable {X : Cx} {pins : List (Addr × Obj)} {σ : St} {H : Hp} {s : Shared} {a : Addr} {y v : V} {u r : Value} {o : Option V} {A : Around} {E : Value → Shared → Prop}

theorem Inv.big (I : Inv X pins σ H s) : sysModules < s.heap.objs.size := by
  have h : mainGlobals < s.heap.objs.size := (I.mod.glob.keeps I.bk).lt
  exact Nat.lt_trans (by decide) h

theorem d_getItem {Q : Value → Shared → Prop} (hu : A.units + 1 < cLine) (I : Inv X pins σ H s) (g : DGet H a y (some v)) (ry : RelV y u) (h : ∀ w' s', Inv X pins σ H s' → RelV v w' → Q w' s') :
    wpAny (model X.prog X.w) A (getItem (.ref a) u) Q E s := by
  rcases g with ⟨kvs, k, e, ey, l⟩ | ⟨kvs, k, b, e, ey, eb, l⟩
  · subst ey
    obtain ⟨z, hd, vs, rel, dd⟩ := dk_rd I.hok e
    obtain ⟨w', hw, rw'⟩ := RelO.some_of (v := v) (o := valueAt vs k) (by rw [l]; exact rel.val k)
    exact wpAny_getItem_of (kV_is ry) dd.mapOf hw (h w' _ (I.tok _) rw')
  · subst ey
    cases (show u = Value.ref b from ry)
    obtain ⟨z, hd, xs, rel, dd⟩ := dt_rd I.hok e
    obtain ⟨w', hw, rw'⟩ := RelO.some_of (v := v) (o := (atKey xs k).map (·.2)) (by rw [l]; exact rel.val k)
    obtain ⟨p, hp, hp2⟩ := Option.map_eq_some_iff.mp hw
    refine wpAny_getItem_heap (tupleKind_room_in1 hu) (key_of I.hok eb) dd hp ?_
    rw [hp2]
    exact h w' _ (I.tok _) rw'
theorem d_write {h' : Heap} {t' : Nat} {ob : HO} (I : Inv X pins σ H s) (mu : Mut (H a)) (hs : Heap.SameBut a s.heap h') (he : ∃ q, h'.get? a = some q) (new : ObjOk X.prog X.w (upd H a ob) h' a ob) :
    Inv X pins σ (upd H a ob) { s with heap := h', toks := t' } :=
  I.write (x := a) (e := a) mu (.inl rfl) (fun b q hb z => (hs.2 b hb).trans z) he new
theorem dk_new {P : Program} {w : World} {H' : Hp} {h' : Heap} {kvs : List (Key × V)} {vs : List (Key × Value)} (z : kvs.length ≤ sizeLine) (hd : (a == sysModules) = false) (rel : KV kvs vs) (dd : h'.DictOf (mixKind P w) a vs) :
    ObjOk P w H' h' a (.dK kvs) := ⟨z, hd, vs, rel, dd⟩
theorem d_setItem {H' : Hp} {Q : Unit → Shared → Prop} (hu : A.units + 1 < cLine) (I : Inv X pins σ H s) (g : DPut H a y v H') (ry : RelV y u) (rv : RelV v r) (h : ∀ s', Inv X pins σ H' s' → Q () s') :
    wpAny (model X.prog X.w) A (setItem (.ref a) u r) Q E s := by
  rcases g with ⟨kvs, k, e, ey, l, eH⟩ | ⟨kvs, k, b, e, ey, eb, l, eH⟩
  · subst ey eH
    obtain ⟨z, hd, vs, rel, dd⟩ := dk_of I.hok e
    have hz : vs.length ≤ sizeLine := by rw [← rel.length]; exact z
    have hl : (putK kvs k v).length ≤ sizeLine := by have := length_putK kvs k v; omega
    refine wpAny_setItem_pairs (hsz := hz) (kV_is ry) dd fun h' dd' hs => h _ ?_
    have he : ∃ q, h'.get? a = some q := let ⟨q, _, _, hq, _⟩ := dd'; ⟨q, hq⟩
    exact d_write I (by rw [e]; exact True.intro) hs he (dk_new hl hd (rel.put k rv) dd')
  · subst ey eH
    cases (show u = Value.ref b from ry)
    obtain ⟨z, hd, xs, rel, dd⟩ := dt_of I.hok e
    have hz : xs.length ≤ sizeLine := by rw [← Paired.length rel]; exact z
    have hl : (putK kvs k v).length ≤ sizeLine := by have := length_putK kvs k v; omega
    refine wpAny_setItem_heap (hsz := hz) (tupleKind_room_in1 hu) (key_of I.hok eb) dd fun h' dd' hs => h _ ?_
    obtain ⟨q, es, ep, hq, h2, h3, h4, _, h5⟩ := dd'
    refine d_write I (by rw [e]; exact True.intro) hs ⟨q, hq⟩ ⟨hl, hd, _, (rel.put k eb rv).keeps fun c ys ec => ?_, q, es, ep, hq, h2, h3, h4, h5⟩
    rw [upd_ne (ne_of ec e (fun z => nomatch z))]
    exact ec
end

section
variable {X : Cx} {pins : List (Addr × Obj)} {σ : St} {H : Hp} {s : Shared} {a : Addr} {kvs : List (Key × V)} {k : Key} {u : Value} {A : Around} {E : Value → Shared → Prop}
end


noncomputable def NoSl (i : Expr) : Prop := ∀ ov iv, subscripted i false ov iv = operate [ov, iv] (getItem ov iv)
theorem subD_of {prog : Program} {w : World} {A : Around} {E : Value → Shared → Prop} {s : Shared} {env : Env} {value slice : Expr} {pos : Pos} {T id : String} {Q : Value → Shared → Prop}
    (hl : typeLookup (.type T) "__getitem__" = pure (some (.builtin id))) (hs : NoSl slice)
    (h : wpAny (model prog w) A (eval value env) (fun o s₁ => wpAny (model prog w) A (eval slice env) (fun i s₂ => s₂.TypeIs o T ∧ wpAny (model prog w) A (getItem o i) Q E s₂) E s₁) E s) :
    wpAny (model prog w) A (eval (.Subscript value slice pos) env) Q E s := by
  refine Subscript_ (wpAny_mono h (fun o s₁ h₁ => wpAny_mono h₁ (fun i s₂ h₂ => ?_) fun _ _ x => x) fun _ _ x => x)
  obtain ⟨hT, h₂⟩ := h₂
  unfold subscriptTail
  refine wpAny_bind ?_
  rw [getitemInPython_of_ne hT.not_modules]
  refine wpAny_bind (wpAny_specialOf hT hl ?_)
  have fin : wpAny (model prog w) A (subscripted slice false o i) (fun r s₃ => wpAny (model prog w) A (letTemporaryGo value o r >>= fun _ => pure r) Q E s₃) E s₂ := by
    rw [hs o i]
    exact wpAny_operating (wpAny_mono h₂ (fun r s₃ h₃ => wpAny_bind (wpAny_letTemporaryGo (wpAny_pure h₃))) fun _ _ x => x)
  first
    | exact wpAny_pure (wpAny_bind fin)
    | exact wpAny_bind (wpAny_pure (wpAny_bind fin))
    | exact wpAny_bind fin

theorem dict_typeIs {X : Cx} {pins : List (Addr × Obj)} {σ : St} {H : Hp} {s : Shared} {a : Addr} {y : V} {o : Option V} (I : Inv X pins σ H s) (g : DGet H a y o) : s.TypeIs (.ref a) "dict" := by
  rcases g with ⟨kvs, k, e, _, _⟩ | ⟨kvs, k, b, e, _, _, _⟩
  · obtain ⟨_, _, vs, _, dd⟩ := dk_rd I.hok e
    exact dd.typeIs
  · obtain ⟨_, _, xs, _, dd⟩ := dt_rd I.hok e
    exact dd.typeIs
noncomputable def tDGet (td ty : TE) : TE := fun σ H Q => td σ H fun x H1 => ty σ H1 fun y H2 => ∃ a v, x = .ref a ∧ DGet H2 a y (some v) ∧ Q v H2
noncomputable def sDPut (td ty tv : TE) : TS := fun D σ H => tv σ H fun v H1 => td σ H1 fun x H2 => ty σ H2 fun y H3 => ∃ a H4, x = .ref a ∧ DPut H3 a y v H4 ∧ D.nx σ H4
section
variable {X : Cx} {o i e value : Expr} {pos pos' tpos : Pos} {td ty tv : TE}
theorem pe_dget (hu : X.A.units + 1 < cLine) (ho : PE X o td) (hi : PE X i ty) (hs : NoSl i) : PE X (.Subscript o i pos) (tDGet td ty) := by
  intro pins s σ H Q I h
  refine subD_of PySem.F.slot_dict_getitem.lookup hs (thn (ho pins s σ H _ I h) fun u s1 ⟨x, H1, I1, rx, q1⟩ => thn (hi pins s1 σ H1 _ I1 q1) fun iv s2 ⟨y, H2, I2, ry, a, v, ex, g, q2⟩ => ?_)
  subst ex
  obtain rfl : u = Value.ref a := rx
  exact ⟨dict_typeIs I2 g, d_getItem hu I2 g ry fun w' s3 I3 rw' => ⟨v, H2, I3, rw', q2⟩⟩
theorem ps_dput (hu : X.A.units + 1 < cLine) (ho : PE X o td) (hi : PE X i ty) (hv : PE X value tv) (hs : swapsWith value (some (.Subscript o i pos')) pos.line X.env = pure false) :
    PS X (.Assign [.Subscript o i pos'] value pos) (sDPut td ty tv) := by
  intro pins s σ H D I h
  refine wpAny_Assign_Subscript (thn (hv pins s σ H _ I h) fun r s1 ⟨v, H1, I1, rv, q1⟩ => thn (ho pins s1 σ H1 _ I1 q1) fun u s2 ⟨x, H2, I2, rx, q2⟩ => thn (hi pins s2 σ H2 _ I2 q2) fun iv s3 ⟨y, H3, I3, ry, a, H4, ex, g, q3⟩ => ?_) hs
  subst ex
  obtain rfl : u = Value.ref a := rx
  exact d_setItem hu I3 g ry rv fun s4 I4 => ⟨σ, H4, I4, q3⟩
end


theorem dk_empty {P : Program} {w : World} {H : Hp} (h : Heap) (hb : sysModules < h.objs.size) : ObjOk P w H (h.push { cls := .type "dict", data := .dict #[] }) h.objs.size (.dK []) :=
  ⟨Nat.zero_le _, beq_eq_false_iff_ne.mpr (Ne.symm (Nat.ne_of_lt hb)), [], .nil, Heap.DictOf.new h⟩
noncomputable def tDNewK : TE := fun _ H Q => ∀ p, H p = none → Q (.ref p) (upd H p (.dK []))
section
variable {X : Cx} {pos : Pos}
theorem pe_dnewK : PE X (.Dict [] [] pos) tDNewK := fun pins s σ H Q I h =>
  wpAny_Dict_empty ⟨.ref s.heap.objs.size, _, I.laid (a := s.heap.objs.size) (o := .dK []) (t' := s.toks) (fun _ _ q => Heap.get?_push_of_some _ q) (Nat.le_refl _) (dk_empty s.heap I.big), rfl, h _ (I.hok.fresh (Nat.le_refl _))⟩
end

structure M1 (X : Cx) (o : Expr) (m : Str) (apos : Pos) (e : Expr) (cpos : Pos) : Prop where
  base : attributeBase o m X.env (eval o X.env) = eval o X.env
  few : ((backTo cpos (starEach [e] X.env)).all (fun x => !x.1) && (backToKw cpos (keywordEach [] X.env)).all (fun x => x.1.isSome)
    && decide (([e] : List Expr).length + ([] : List Keyword).length + (if ([] : List Keyword).isEmpty then 0 else 1) < 30)) = true
  line : (apos.endLine == cpos.line) = true
  trees : backTo cpos (starEach [e] X.env) = [(false, eval e X.env)]
section
variable {X : Cx} {pins : List (Addr × Obj)} {σ : St} {H : Hp} {s : Shared} {a : Addr} {y d : V} {u r : Value} {o : Option V} {A : Around} {E : Value → Shared → Prop}
end

section
variable {X : Cx} {o e f : Expr} {apos cpos : Pos} {td ty tx : TE}
end

section
variable {X : Cx} {pins : List (Addr × Obj)} {σ : St} {H : Hp} {s : Shared} {a : Addr} {kvs : List (Key × V)} {A : Around} {E : Value → Shared → Prop}
end


section
variable {X : Cx} {pins : List (Addr × Obj)} {σ : St} {H : Hp} {s : Shared} {a : Addr} {y : V} {u : Value} {A : Around} {E : Value → Shared → Prop}
end
end L2


namespace L2
open PySem PySem.Spec PyProof.Rows
section
variable {X : Cx}
end
section
variable {κ : Type} [DecidableEq κ]
end
end L2

namespace L2
open PySem PySem.Spec PyProof.Rows PySem.Builtin
section
variable {X : Cx}
noncomputable def rInsert : V → List V → Hp → VK → Prop := fun x vs H Q => ∃ (l : Addr) (xs : List V) (i : Int) (v : V), x = .ref l ∧ vs = [.int i, v] ∧ H l = some (.lst xs) ∧ 0 ≤ i ∧ i ≤ xs.length ∧ xs.length < sizeLine ∧ Q .non (upd H l (.lst (xs.take i.toNat ++ v :: xs.drop i.toNat)))
theorem mt_insert : MtM X "list.insert" rInsert := by
  intro pins s σ H x vs v us Q I rx rv h
  obtain ⟨l, xs, i, y, rfl, rfl, hH, h0, h1, hz, q⟩ := h
  cases rx
  obtain ⟨u1, u2, rfl, r1, r2⟩ := vals2 rv
  obtain ⟨t, rfl⟩ := r1
  obtain ⟨z, its, n, r, hl, e⟩ := I.lstM hH
  have hfit : ¬ (!Builtin.List.listFitsIndex i) = true := by
    have h2 : (sizeLine : Int) < 2 ^ 62 := by decide
    rw [fitsIndex_both (by omega) (by omega)]
    decide
  refine call_meets F.slot_list_insert ⟨_, e, rfl⟩ F.entry_list_insert (F.args_list_insert_3 _ _ _) (AutoSeq1.list_insert_list_int_val_1 l its.toArray n i t u2 hfit (by rw [List.size_toArray]; omega)) ⟨e, ?_⟩
  refine ⟨.non, _, I.lset (its' := its.take i.toNat ++ u2 :: its.drop i.toNat) hH e ?_ ((r.take _).append (.cons r2 (r.drop _))) ?_, rfl, q⟩
  · have hk : (if i < 0 then (i + ((its.toArray.size : Nat) : Int)).toNat else min i.toNat its.toArray.size) = i.toNat := by
      rw [if_neg (by omega), List.size_toArray]; omega
    show (its.toArray.extract 0 (if i < 0 then (i + ((its.toArray.size : Nat) : Int)).toNat else min i.toNat its.toArray.size)).push u2 ++ its.toArray.extract (if i < 0 then (i + ((its.toArray.size : Nat) : Int)).toNat else min i.toNat its.toArray.size) = _
    rw [hk]
    apply Array.toList_inj.mp
    simp
    exact List.take_of_length_le (by rw [List.length_drop]; exact Nat.le_refl _)
  · rw [List.length_append, List.length_cons, List.length_take, List.length_drop]; omega
end
theorem compOkG2_of {X : Cx} {t1 t2 : Str} {sc : Scope} {fr : List (Str × Nat)} {osc : Scope} {N : List Str} (ho : X.env.scope = osc) (hN : X.N = N) (h1 : compOkB osc N t1 sc fr = true) (h2 : compOkB osc N t2 sc fr = true) (hne : t1 ≠ t2) : CompOkG X [t1, t2] sc fr ∧ sc.names.lookup t1 = some .local ∧ sc.names.lookup t2 = some .local := by
  have o1 := compOk_of ho hN h1
  have o2 := compOk_of ho hN h2
  refine ⟨⟨o1.kind, o1.nocell, o1.locs, o1.fre, ?_, o1.vis⟩, o1.tgl, o2.tgl⟩
  obtain ⟨a1, a2⟩ := List.nodup_cons.mp o1.nd
  exact List.nodup_cons.mpr ⟨fun m => (List.mem_cons.mp m).elim hne a1, o2.nd⟩
theorem pe_lcP {X : Cx} {elt iter : Expr} {t1 t2 : Str} {x1 : _} {p1 p2 p3 pos : Pos} {sc : Scope} {fr : List (Str × Nat)} {wi : TI} {te : TE} (hc : X.calm = true) (ok : CompOkG X [t1, t2] sc fr ∧ sc.names.lookup t1 = some .local ∧ sc.names.lookup t2 = some .local)
    (hi : PI X (.Tuple [.Name t1 p1, .Name t2 p2] x1 p3) iter wi) (he : ∀ cl C s3 H3 fp, PE (X.blk ([t1, t2] ++ fr.map (·.1)) sc cl C s3 H3 fp) elt te) (hs : ∀ x, foldedSetIterable iter X.env x = pure x := by intro _; rfl) :
    PE X (.ListComp elt [⟨.Tuple [.Name t1 p1, .Name t2 p2] x1 p3, iter, [], 0⟩] sc pos) (tLCG 2 fr wi (gTup X.K 2 (gCons (gName 0) (gCons (gName 1) gNil))) tYes te) :=
  pe_lcG (tgs := [t1, t2]) hc ok.1 hi (fun _ _ _ _ _ => pg_tup hc (pgs_cons (pg_name ok.1.nd rfl (.inl (lookup_relabel_local ok.2.1)) (.inr (lookup_relabel_local ok.2.1))) (pgs_cons (pg_name ok.1.nd rfl (.inl (lookup_relabel_local ok.2.2)) (.inr (lookup_relabel_local ok.2.2))) pgs_nil))) (fun _ _ _ _ _ => pif_nil) he hs
theorem op_powB {X : Cx} : OpR X (binaryOp .Pow) (rI (fun i j => 0 ≤ j ∧ j ≤ 1000 ∧ My.Bd 1000 i) fun i j => .int (i ^ j.toNat)) := opI fun i j _ _ _ _ _ hc q => pow_int hc.1 (by
  have h1 : Builtin.Int.intBits i ≤ 1000 := PySem.intBits_le_iff.mpr hc.2.2
  have h2 : ((Builtin.Int.intBits i : Nat) : Int) * j ≤ 1000 * 1000 := Int.mul_le_mul (by omega) hc.2.1 hc.1 (by decide)
  exact Int.le_trans h2 (by decide)) q
end L2

namespace L2
open PySem PySem.Spec PyProof.Rows
end L2

namespace L2
open PySem PySem.Spec PyProof.Rows

structure ExcF (K : PySem.W.Frag) (C : Addr) : Prop where
  ga : PySem.W.findIn K (.ref C) "__getattribute__" = some (some (.builtin "BaseException.__getattribute__"))
  nohook : PySem.W.findIn K (.ref C) "__getattr__" = some none
  cls : PySem.W.findIn K (.ref C) "__class__" = some (some (.builtin "object.__class__"))
  get : PySem.W.specialIn K (.builtin "object.__class__") "__get__" = some (some (.builtin "getset_descriptor.__get__"))
  tk : PySem.W.takesIn K (.builtin "object.__class__") = some true
  exc : PySem.W.mroIn K C (.type "BaseException") = some true
  obj : PySem.W.mroIn K C (.type "object") = some true

section
open PySem.W PySem.Calls PySem.Builtin PySem.Builtin.ObjectAttr PySem.Builtin.Getset_descriptor
variable {prog : Program} {w : World} {A : Around} {E : Value → Shared → Prop} {s : Shared} {K : Frag} {a C : Addr} {oe : Obj}
theorem exc_type {M : Model} {h : Heap} (p : h.get? a = some oe) (hc : oe.cls = .ref C) : Looks M h (typeOf (.ref a)) (.ref C) := hc ▸ (Looks.ld p).andThen .now
theorem exc_find {M : Model} {h : Heap} (Fx : ExcF K C) (X : K.In h) : Looks M h (find (.ref a) (.ref C) "__class__") (.bind (.builtin "getset_descriptor.__get__") (.builtin "object.__class__")) := by
  have L1 := looks_findIn (M := M) X Fx.cls
  have L2 : Looks M h (getOf (some (.builtin "object.__class__"))) (some (.builtin "getset_descriptor.__get__")) := looks_specialIn X Fx.get
  have L3 := looks_takesIn (M := M) X Fx.tk
  refine L1.andThen (L2.andThen ?_)
  exact (show Looks M h (dataDescriptor? (some (.builtin "object.__class__")) (some (.builtin "getset_descriptor.__get__"))) (some (.builtin "getset_descriptor.__get__", .builtin "object.__class__")) from L3.andThen .now).andThen (Looks.tag .now)
theorem exc_class_get {R : Result → Shared → Prop} {tp : Value} (Fx : ExcF K C) (X : K.In s.heap) (p : s.heap.get? a = some oe) (hc : oe.cls = .ref C)
    (h : R (.ok (.ret (.ref C))) s) : codeAny (model prog w) A (.call (.builtin "getset_descriptor.__get__") ⟨[.builtin "object.__class__", .ref a, tp], []⟩) R s := by
  obtain ⟨hh, g, dr, t, os⟩ := s
  have L0 := exc_type (M := model prog w) p hc
  have L1 := looks_mroIn (M := model prog w) X Fx.obj
  refine codeAny_call_builtin KF.slot_gs.plain KF.entry_gs (KF.slot_gs.check _ _ _ _ _ _ _ _ KF.type_class (KF.args_gs _ _ _) ?_)
  unfold Builtin.«getset_descriptor.__get__» descrGet
  rw [dga_obj]
  refine wpAny_bind (wpAny_pure ?_)
  unfold descrGetter descrCheckInstance descrNameAndClass isInstance
  simp only [KF.owner_class]
  repeat lk
  refine ⟨Code.quiet_builtin _ (by decide +kernel), codeAny_builtin KF.entry_class ?_⟩
  unfold Builtin.«object.__class__» shownTypeOf
  repeat lk
  exact h
theorem exc_check {M : Model} {nameV : Value} {Q : Unit → Shared → Prop} (Fx : ExcF K C) (X : K.In s.heap) (p : s.heap.get? a = some oe) (hc : oe.cls = .ref C) (hq : Q () s) :
    wpAny M A (checkBuiltinCall "BaseException.__getattribute__" ⟨[.ref a, nameV], []⟩) Q E s := by
  obtain ⟨hh, g, dr, t, os⟩ := s
  have hk : builtinKind "BaseException.__getattribute__" = some .slot := by decide +kernel
  have hsplit : splitId "BaseException.__getattribute__" = some ("BaseException", "__getattribute__") := by decide +kernel
  have ha := F.args_bexc_ga (.ref a) nameV
  simp only [checkBuiltinCall, hk, hsplit]
  refine wpAny_bind (wpAny_bind ?_)
  refine (exc_type p hc).at ((looks_mroIn X Fx.exc).at ?_)
  repeat (any_goals (first | assumption | wp_step))
theorem exc_class {Q : Option Value → Shared → Prop} (Fx : ExcF K C) (X : K.In s.heap) (p : s.heap.get? a = some oe) (hc : oe.cls = .ref C) (h : Q (some (.ref C)) { s with toks := s.toks + 1 }) :
    wpAny (model prog w) A (getAttr? (.ref a) "__class__") Q E s := by
  obtain ⟨hh, g, d, t, os⟩ := s
  have L0 := exc_type (M := model prog w) p hc
  have L1 := looks_findIn (M := model prog w) X Fx.ga
  have L2 := looks_findIn (M := model prog w) X Fx.nohook
  unfold getAttr? getAttrBy? getAttrBy
  refine wpAny_bind (wpAny_mkText (wpAny_bind (wpAny_attempt (wpAny_holding (wpAny_bind (L0.at (wpAny_bind (L1.at ?_))))))))
  show wpAny _ _ (if (onTheHeap (Value.ref C) && (Value.builtin "BaseException.__getattribute__" == Value.builtin "object.__getattribute__")) = true then _ else getAttrByItsOwn _ _ _ _ _ _) _ _ _
  have hne : (Value.builtin "BaseException.__getattribute__" == Value.builtin "object.__getattribute__") = false := by decide +kernel
  rw [hne, Bool.and_false, if_neg Bool.false_ne_true]
  unfold getAttrByItsOwn
  refine wpAny_bind ((show Looks (model prog w) hh (hookBefore (.ref C)) none from L2).at ?_)
  refine wpAny_bind (wpAny_attempt (wpAny_holding ?_))
  show wpAny _ _ (boundAndCalled _ _ _) _ _ _
  unfold boundAndCalled
  rw [F.excAttr_ValueError.ga.bind]
  refine wpAny_bind (wpAny_pure ?_)
  refine wpAny_call (codeAny_call_builtin F.excAttr_ValueError.ga.plain F.entry_bexc_ga (exc_check Fx X p hc ?_))
  unfold Builtin.«object.__getattribute__»
  refine wpAny_bind (wpAny_pure (a := (Value.ref a, [Value.str (Str.ofString "__class__") t])) ?_)
  refine wpAny_bind (wpAny_pure (a := Str.ofString "__class__") ?_)
  refine wpAny_bind (L0.at (wpAny_bind ((exc_find (a := a) Fx X).at ?_)))
  show wpAny _ _ (bindTo _ _ _ _) _ _ _
  show wpAny _ _ (holding [Value.builtin "object.__class__"] (call (Value.builtin "getset_descriptor.__get__") [Value.builtin "object.__class__", Value.ref a, Value.ref C]) >>= ret) _ _ _
  refine wpAny_bind (wpAny_holding (wpAny_call (exc_class_get Fx X p hc ?_)))
  show wpAny _ _ (pure _) _ _ _
  refine wpAny_pure ?_
  exact wpAny_pure (wpAny_pure h)
end
end L2

namespace L2
open PySem PySem.Spec PyProof.Rows
theorem kitx_exc {K : PySem.W.Frag} {a C : Addr} {oe : Obj} (Fx : ExcF K C) (hc : oe.cls = .ref C) : PySem.W.KitX K (.ref a) (.ref C) (fun h => h.get? a = some oe) where
  ty := fun _ _ _ p => exc_type p hc
  it := fun _ _ X _ => by
    obtain ⟨cd, hcD, _⟩ := Option.bind_eq_some_iff.mp Fx.obj
    unfold PySem.W.clsIn at hcD
    split at hcD
    · rename_i c' d' cd' sl' ho
      intro A' Q' E' s' k q
      unfold isType loadHead
      exact wpAny_bind (wpAny_loadPart (k _ _ (X _ _ ho)) (wpAny_pure q))
    · cases hcD
  ne := fun h tp dd its n sl X htp => by
    obtain ⟨cd, hcD, _⟩ := Option.bind_eq_some_iff.mp Fx.obj
    refine Bool.eq_false_iff.mpr fun q => ?_
    have e : C = tp := Value.ref.inj (beq_iff_eq.mp q)
    subst e
    unfold PySem.W.clsIn at hcD
    split at hcD
    · rename_i c' d' cd' sl' ho
      have z := (X _ _ ho).symm.trans htp
      cases z
    · cases hcD
  ca := fun X p k => exc_class Fx X p hc k

section
variable {X : Cx} {pins : List (Addr × Obj)} {σ : St} {H H' : Hp} {s s' : Shared}
theorem Inv.goes {i : Nat} {x : Str} {h' : Heap} {m : Str → Option Value} {v' : Option Value} {t' : Nat} (I : Inv X pins σ H s) (hm : s.heap.Ns X.env.locals m)
    (hl : ∀ (i : Nat) (x : Str) (v : V), X.N[i]? = some x → σ[i]? = some (some v) → Vis X.env.scope x → ∃ u, RelV v u ∧ Look X.env s.heap m x u) (hN : X.N.Nodup) (hi : X.N[i]? = some x)
    (hn' : h'.Ns X.env.locals (fun y => if y = x then v' else m y)) (hs : Heap.SameBut X.env.locals s.heap h') : Inv X pins (σ.set i none) H { s with heap := h', toks := t' } := by
  have cne := I.cne
  have hiσ : i < σ.length := by rw [I.len]; exact (List.getElem?_eq_some_iff.mp hi).1
  refine ⟨I.ok, I.os, I.bare, ⟨fun b o e n hb hx => ?_, fun b o e n hb hx => ?_, I.base.free, fun b o e hx => ?_, I.base.tups, I.base.frzs, I.base.tbls⟩, ⟨_, hn', fun j y v e1 e2 e3 => ?_⟩, fun y c e => ?_, I.free, I.freeC, fun p hp => ?_, fun b ob e => ?_, by simpa using I.len⟩
  · exact (hs.2 b (Nat.ne_of_lt (Nat.lt_of_lt_of_le (Heap.lt_size e) I.ok.above))).trans (I.base.keep b o e n hb hx)
  · obtain ⟨sl, e1⟩ := I.base.slot b o e n hb hx
    exact ⟨sl, (hs.2 b (Nat.ne_of_lt (Nat.lt_of_lt_of_le (Heap.lt_size e) I.ok.above))).trans e1⟩
  · obtain ⟨o', e1⟩ := I.base.there b o e hx
    exact ⟨o', (hs.2 b (Nat.ne_of_lt (Nat.lt_of_lt_of_le (Heap.lt_size e) I.ok.above))).trans e1⟩
  · have hj : j ≠ i := by
      rintro rfl
      rw [List.getElem?_set_self hiσ] at e2
      cases e2
    rw [List.getElem?_set_ne (Ne.symm hj)] at e2
    obtain ⟨u', r', q⟩ := hl j y v e1 e2 e3
    refine ⟨u', r', ?_⟩
    rcases q with ⟨k, e⟩ | ⟨k, c, e, z⟩
    · refine .inl ⟨k, ?_⟩
      have : y ≠ x := fun e => hj (nodup_ix hN e1 (e ▸ hi))
      simp [this, e]
    · exact .inr ⟨k, c, e, z.sameBut hs (cne y c e)⟩
  · obtain ⟨w', z⟩ := I.cell y c e
    exact ⟨w', z.sameBut hs (cne y c e)⟩
  · obtain ⟨e, n, ne, nf, d⟩ := I.pin p hp
    exact ⟨(hs.2 p.1 ne).trans e, n, ne, nf, d⟩
  · refine (I.hok b ob e).stay (fun c w' hc q => (hs.2 c ?_).trans q) (fun _ q => q) fun _ _ q => q
    rintro rfl
    rcases hc with rfl | hc
    · rw [I.free] at e; cases e
    · rw [I.free] at hc; cases hc
end
noncomputable def goneD (j : Nat) (D : Ends) : Ends := { nx := fun σ H => D.nx (σ.set j none) H, rt := D.rt, bk := fun σ H => D.bk (σ.set j none) H, ct := fun σ H => D.ct (σ.set j none) H }
section
variable {X : Cx} {pins : List (Addr × Obj)} {σ : St} {H : Hp} {s s' : Shared} {E : XK} {ex : Value} {x n : Str} {T C : Addr} {np hpos : Pos} {b0 : Stmt} {suite : List Stmt} {ts : Addr → TS} {D : Ends} {j : Nat}
theorem ObjOk.thereIs {P : Program} {w : World} {H : Hp} {h : Heap} {a : Addr} {o : HO} (x : ObjOk P w H h a o) : ∃ ob, h.get? a = some ob := by
  cases o with
  | lst xs => obtain ⟨_, _, _, _, e⟩ := x; exact ⟨_, e⟩
  | tup xs => obtain ⟨_, _, _, o, e, _⟩ := x; exact ⟨_, e⟩
  | dK kvs => obtain ⟨_, _, _, _, o, _, _, e, _⟩ := x; exact ⟨_, e⟩
  | dT kvs => obtain ⟨_, _, _, _, o, _, _, e, _⟩ := x; exact ⟨_, e⟩
  | set S n => obtain ⟨o, _, _, _, e, _⟩ := x; exact ⟨_, e⟩
  | ins C dx fs => obtain ⟨_, _, _, e, _⟩ := x; exact ⟨_, e⟩
  | own y => obtain ⟨_, e⟩ := x; exact ⟨_, e⟩
  | xd fs => obtain ⟨_, ⟨_, _, _, e, _⟩, _⟩ := x; exact ⟨_, e⟩
  | rng lo hi => obtain ⟨_, _, _, e⟩ := x; exact ⟨_, e⟩
  | frz ob u => obtain ⟨e, _⟩ := x; exact ⟨_, e⟩
  | tbl ps => exact ⟨_, show h.get? a = some _ from x⟩
  | met f y => exact ⟨_, show h.get? a = some _ from x⟩
  | ext φ => obtain ⟨_, ⟨_, e⟩, _⟩ := x; exact ⟨_, e⟩
end
section
variable {X : Cx} {k : Nat} {f : Addr} {fd : FuncData} {ps : List Str} {sp : Sp} {dvs : List V} {ds : List Value} {fx x cx n : Str} {p cpos px apos np hpos pos : Pos} {e : Expr} {es : List Expr} {t : TA} {T C : Addr} {b0 : Stmt} {suite : List Stmt} {ts : Addr → TS} {i j : Nat}
end
end L2

namespace L2
open PySem PySem.Spec PyProof.Rows
theorem bt_ValueError : bootBuiltins "ValueError" = some (.type "ValueError") := by decide +kernel
noncomputable def ExcO (a C : Addr) : HO := .ext fun h => ∃ oe : Obj, h.get? a = some oe ∧ oe.cls = .ref C
section
variable {X : Cx} {pins : List (Addr × Obj)} {σ : St} {H : Hp} {s : Shared}
theorem Inv.track {a C : Addr} {oe : Obj} (I : Inv X pins σ H s) (h1 : s.heap.get? a = some oe) (hc : oe.cls = .ref C) (h2 : H a = none) (h3 : a ≠ X.env.locals) (h4 : ∀ x c, X.env.cells.lookup x = some c → c ≠ a) (h5 : ∀ p ∈ X.pn ++ pins, p.1 ≠ a) (h6 : X.s₀.heap.get? a = none) :
    Inv X pins σ (upd H a (ExcO a C)) s := by
  have ne : ∀ b u, H b = some u → b ≠ a := fun b u e z => by rw [z, h2] at e; cases e
  refine ⟨I.ok, I.os, I.bare, ⟨I.base.keep, I.base.slot, fun b o e n hx => ?_, I.base.there, fun b xs e => ?_, fun b o u e => ?_, fun b ps e => ?_⟩, I.loc, I.cell, ?_, fun x c e => ?_, fun p hp => ?_, fun b ob e => ?_, I.len⟩
  · rw [upd_ne (fun z => by rw [z, h6] at e; cases e)]; exact I.base.free b o e n hx
  · have := I.base.tups b xs e; rw [upd_ne (ne _ _ this)]; exact this
  · have := I.base.frzs b o u e; rw [upd_ne (ne _ _ this)]; exact this
  · obtain ⟨m, q⟩ := I.base.tbls b ps e; exact ⟨m, by rw [upd_ne (ne _ _ q)]; exact q⟩
  · rw [upd_ne (Ne.symm h3)]; exact I.free
  · rw [upd_ne (h4 x c e)]; exact I.freeC x c e
  · obtain ⟨q1, q2, q3, q4, q5⟩ := I.pin p hp
    exact ⟨q1, by rw [upd_ne (h5 p hp)]; exact q2, q3, q4, q5⟩
  · by_cases z : b = a
    · subst z
      rw [upd_same] at e
      cases e
      exact ⟨⟨oe, h1, hc⟩, ⟨oe, h1⟩, fun g1 g2 ⟨o, ho, hc⟩ k => ⟨o, k o ho, hc⟩⟩
    · rw [upd_ne z] at e
      exact (I.hok b ob e).stay (fun c u _ q => q) (fun c q => by rw [upd_ne (ne _ _ q)]; exact q) (fun c xs q => by rw [upd_ne (ne _ _ q)]; exact q)
end
section
variable {X : Cx} {C : Addr} {b : Bool}
theorem isiH {c : V} {u : Value} (Fx : ExcF X.K C) (hr : ∀ u', RelV c u' → u' = u) (e : PySem.W.kitOne X.K (.ref C) u = some b) :
    CallR X (.builtin "isinstance") (fun xs H Q => ∃ a, xs = [.ref a, c] ∧ H a = some (ExcO a C) ∧ Q (.bl b) H) := by
  intro pins s σ H xs us Q I r h
  obtain ⟨a, rfl, ha, q⟩ := h
  obtain ⟨v, w, rfl, rx, rw'⟩ := vals2 r
  cases rx
  cases hr _ rw'
  obtain ⟨⟨oe, he, hc⟩, _⟩ := (show ObjOk X.prog X.w H s.heap a (ExcO a C) from I.hok a _ ha)
  exact PySem.W.kia_one (kitx_exc Fx hc) I.kIn he e (by intro z; cases z) fun tk => ⟨.bl b, H, I.tok tk, rfl, q⟩
end
section
variable {P : Program} {w : World} {K : PySem.W.Frag} {mg : Str → Option Value} {base : Heap}
end
section
variable {X : Cx} {k : Nat} {f : Addr} {fd : FuncData} {ps : List Str} {sp : Sp} {x : Str} {p pos : Pos} {e : Expr} {es : List Expr} {t : TA}
end
section
variable {X : Cx} {pins : List (Addr × Obj)} {σ : St} {H : Hp} {s s' : Shared} {E : XK} {ex : Value} {x n : Str} {T C : Addr} {np hpos : Pos} {b0 : Stmt} {suite : List Stmt} {ts : Addr → TS} {D : Ends} {j : Nat}
theorem name_goneM {M : Model} {A : Around} {a : Addr} {f : Flow} (hN : X.N.Nodup) (hi : X.N[j]? = some n) (hk : X.env.kindOf n = some .local) (ok : X.Ok) (h : SP (X.marked a) pins (goneD j D) f s) :
    wpAny M A (do bindName X.env n .none; unbindBehindTheSuite X.env n hpos) (fun _ s' => SP X pins D f s') (fun _ _ => False) s := by
  have hcls : (X.env.scope.kind == .class || (X.env.scope.kind == .module && X.env.locals != X.env.globals)) = false := by rw [ok.kind]; rfl
  have one : ∀ {σ' : St} {H' : Hp} {Q : Unit → Shared → Prop}, Inv X pins σ' H' s → (∀ s2, Inv X pins (σ'.set j none) H' s2 → Q () s2) → wpAny M A (do bindName X.env n .none; unbindBehindTheSuite X.env n hpos) Q (fun _ _ => False) s := fun {σ' H' Q} I q => by
    obtain ⟨m, hm, hl⟩ := id I.loc
    exact wpAny_nameGoes_keeps hk hm hcls fun h' v hn hs => q _ (I.goes hm hl hN hi hn hs)
  cases f with
  | next => obtain ⟨σ', H', I, q⟩ := h; exact one (I.unmarked ok) fun s2 I2 => ⟨_, H', I2, q⟩
  | brk => obtain ⟨σ', H', I, q⟩ := h; exact one (I.unmarked ok) fun s2 I2 => ⟨_, H', I2, q⟩
  | cont => obtain ⟨σ', H', I, q⟩ := h; exact one (I.unmarked ok) fun s2 I2 => ⟨_, H', I2, q⟩
  | ret u => obtain ⟨v, σ', H', I, r, q⟩ := h; exact one (I.unmarked ok) fun s2 I2 => ⟨v, _, H', I2, r, q⟩
theorem caught_at (I : Inv X pins σ H s) (hst : X.stack = X.env :: X.outer) (hf : X.env.frame = some X.env.locals) (h0 : ∀ e s, X.xe e s → False) (cx : CXe X.prog X.w X.stack H s E ex s')
    (hN : X.N.Nodup) (hi : X.N[j]? = some n) (hln : X.env.scope.names.lookup n = some .local) (hk : X.env.kindOf n = some .local) (M1 : Meets1 X x T C true) (hex : X.ex = [])
    (hE : ∀ cls d H', E cls d H' → cls = .ref C ∧ ∀ a, H' a = none → ts a (goneD j D) (σ.set j (some (.ref a))) (upd H' a (ExcO a C))) (hs : ∀ a, PSs (X.marked a) (b0 :: suite) (ts a)) :
    wpAny (model X.prog X.w) X.A (noteFrame ex X.env) (fun _ s2 => wpAny (model X.prog X.w) X.A (setFlight ex none) (fun _ s3 =>
      wpAny (model X.prog X.w) X.A (handleBy ex X.env [.ExceptHandler (some (.Name x np)) (some n) (b0 :: suite) hpos]) (SP X pins D) X.xe s3) X.xe s2) X.xe s' := by
  obtain ⟨a, C', dx, H', B, rfl, os, bare, un, hB, fl, kU, kT, q⟩ := cx
  obtain ⟨ec, qq⟩ := hE _ _ H' q
  cases ec
  have ff := fl.2.2.1
  have fl' : Heap.FlyX B (X.env :: X.outer) a (.ref C) dx s'.heap := by rw [← hst]; exact fl
  have hfr : X.A.frames = some (X.env :: X.outer) := by rw [← hst]; exact I.ok.frames
  refine looksX (s := s') hfr hf fl' fun h4 held4 us4 => ?_
  refine landsX (s := { s' with heap := h4 }) held4 fun h5 fl5 us5 => ?_
  have us45 := us4.trans us5
  have I5 : Inv X pins σ H' { s' with heap := h5 } := I.flown os bare un hB ff kU kT fl5.1 us45
  refine wpAny_handleBy_cons (codeAny_handlers_test ?_) (by intro z; cases z)
  refine ld_glob (X := X.marked a) (I5.marked a) M1.gl M1.m ?_ M1.db
  have LT : PySem.W.Looks (model X.prog X.w) h5 (typeOf (.ref a)) (.ref C) := by
    obtain ⟨ob, hob, hc⟩ := fl5.there
    rw [← hc]
    exact (PySem.W.Looks.ld hob).andThen .now
  refine (PySem.W.exm_one I5.kIn LT M1.ex).here ?_
  refine codeAny_handlers_suite_as ?_
  refine landsX (s := { s' with heap := h5 }) fl5 fun h6 fl6 us6 => ?_
  have I6 : Inv X pins σ H' { s' with heap := h6 } := I.flown os bare un hB ff kU kT fl6.1 (us45.trans us6)
  have fn := fl6.2.1
  obtain ⟨oe, vs, T', oT, tsn, he, ⟨hcls, _⟩, hd, _⟩ := fl6.2.2.2
  obtain ⟨oe', vs', _, _, _, he', _, hd', _⟩ := fl.2.2.2
  have hfree : H' a = none := by
    cases e : H' a with
    | none => rfl
    | some u =>
      obtain ⟨ob, eb⟩ := (hB a u e).thereIs
      rw [fn] at eb; cases eb
  have nstk : a ∉ frs X.stack := fun z2 => by
    obtain ⟨_, o2, e2, hnf⟩ := ff.mem z2
    rw [he'] at e2; cases e2
    exact hnf _ hd'
  have nloc : a ≠ X.env.locals := fun z => by
    obtain ⟨m, ⟨o2, es, ep, ho, hd2, _⟩, _⟩ := I6.loc
    rw [← z] at ho
    have ho : h6.get? a = some o2 := ho
    rw [he] at ho; cases ho
    rw [hd] at hd2; cases hd2
  have nos : s.heap.get? a = none := by
    cases e : s.heap.get? a with
    | none => rfl
    | some o =>
      obtain ⟨o', e'⟩ := kT a o e nstk
      rw [fn] at e'; cases e'
  have nos0 : X.s₀.heap.get? a = none := by
    cases e : X.s₀.heap.get? a with
    | none => rfl
    | some o =>
      obtain ⟨o', e'⟩ := I.base.there a o e (by rw [hex]; simp)
      rw [nos] at e'; cases e'
  have ncell : ∀ y c, X.env.cells.lookup y = some c → c ≠ a := fun y c e z => by
    obtain ⟨v, o2, ho, hd2⟩ := I.cell y c e
    rw [z, nos] at ho; cases ho
  have npin : ∀ p ∈ X.pn ++ pins, p.1 ≠ a := fun p hp z => by
    have := (I.pin p hp).1
    rw [z, nos] at this; cases this
  refine store_ok2 (X := X.marked a) (v := .ref a) (I6.marked a) hN hi (.inl hln) rfl (fun s7 I7 sb => ?_) (.inr hln)
  obtain ⟨ad, sb, had⟩ := sb
  have ane : a ≠ ad := fun z => by
    rcases had with had | had
    · exact nloc (z.trans had)
    · exact ncell n ad had z.symm
  have he7 : s7.heap.get? a = some oe := (sb.2 a ane).trans he
  have I8 := Inv.track (X := X.marked a) I7 he7 hcls hfree nloc ncell npin nos0
  refine wpAny_mono (hs a pins s7 _ _ (goneD j D) I8 (qq a hfree)) (fun f s9 z => ?_) fun e s9 z => (h0 e s9 z).elim
  exact wpAny_mono (name_goneM (M := model X.prog X.w) (A := X.A) hN hi hk I.ok z) (fun _ _ z => z) fun _ _ z => z.elim
end
section
variable {X : Cx} {k : Nat} {f : Addr} {fd : FuncData} {ps : List Str} {sp : Sp} {dvs : List V} {ds : List Value} {fx x cx n : Str} {p cpos px apos np hpos pos : Pos} {e : Expr} {es : List Expr} {t : TA} {T C : Addr} {b0 : Stmt} {suite : List Stmt} {ts : Addr → TS} {i j : Nat}
end
end L2

namespace L2
open PySem PySem.Spec PyProof.Rows
end L2

namespace L2
open PySem PySem.Spec PyProof.Rows
noncomputable def rIsiTL (K : PySem.W.Frag) : List V → Hp → VK → Prop := fun xs H Q => ∃ x g tp, xs = [x, .ref tp] ∧ SqT K H tp [.ty "tuple", .ty "list"] ∧ tgIs K H x g ∧ Q (.bl (g.isTup || g.isLst)) H
section
variable {K : PySem.W.Frag}
end
end L2

namespace L2
open PySem PySem.Spec PyProof.Rows
noncomputable def QIt (q : Bool) (h : Heap) (n a : Addr) (k : Nat) : Prop := ∃ o, h.get? n = some o ∧ o.cls = .type (if q = true then "tuple_iterator" else "list_iterator") ∧ o.data = .fields #[.ref a, .int k 0]
noncomputable def QSq (q : Bool) (h : Heap) (a : Addr) (us : Array Value) : Prop := ∃ o, h.get? a = some o ∧ o.cls = .type (if q = true then "tuple" else "list") ∧ ∃ n, o.data = .seq us n
theorem QIt.at {q : Bool} {h h' : Heap} {n a : Addr} {k : Nat} (x : QIt q h n a k) (e : ∀ o, h.get? n = some o → h'.get? n = some o) : QIt q h' n a k := by
  obtain ⟨o, ho, r⟩ := x; exact ⟨o, e o ho, r⟩
theorem QSq.at {q : Bool} {h h' : Heap} {a : Addr} {us : Array Value} (x : QSq q h a us) (e : ∀ o, h.get? a = some o → h'.get? a = some o) : QSq q h' a us := by
  obtain ⟨o, ho, r⟩ := x; exact ⟨o, e o ho, r⟩
section
variable {P : Program} {w : World} {A : Around} {E : Value → Shared → Prop} {s : Shared} {q : Bool} {n a : Addr} {k : Nat} {us : Array Value} {u : Value}
theorem q_next {Q : Value → Shared → Prop} (hi : QIt q s.heap n a k) (hs : QSq q s.heap a us) (hu : us[k]? = some u) (go : ∀ h', QIt q h' n a (k + 1) → Heap.SameBut n s.heap h' → Q u { s with heap := h' }) : wpAny (model P w) A (Builtin.SmallTypes.nextOf (.ref n)) Q E s := by
  cases q with
  | false => exact wpAny_nextOf_list_item hi hs hu go
  | true =>
    have ty : s.heap.IsTupleIter n a k := hi
    obtain ⟨oi, e1, e2, e3⟩ := hi
    obtain ⟨os, e4, _, m, e5⟩ := hs
    unfold Builtin.SmallTypes.nextOf
    refine wpAny_bind (wpAny_callSpecial?_slot (name := Str.ofString "__next__") ty.typeIs F.slot_tuple_iterator_next (wpAny_call_entry F.slot_tuple_iterator_next ty.typeIs F.entry_tuple_iterator_next ?_ (F.args_tuple_iterator_next_1 _)))
    refine wpAny_bind (m := field (.ref n) 0) (wpAny_field e1 e3 (x := .ref a) rfl ?_)
    show wpAny _ _ (ite ((Value.ref a == Value.none) = true) _ _) _ _ s; rw [if_neg (show ¬ (Value.ref a == Value.none) = true from nofun)]
    refine wpAny_bind (m := field (.ref n) 1) (wpAny_field e1 e3 (x := .int k 0) rfl (wpAny_bind (m := seqItems? (.ref a)) (wpAny_seqItems e4 e5 ?_)))
    simp only [hu, Int.toNat_natCast]
    refine wpAny_bind (wpAny_setField e1 e3 (by simp) (wpAny_pure ⟨u, rfl, wpAny_pure (go _ ⟨_, Heap.get?_update_self _ e1 (Obj.isFreed_of_fields (Obj.data_mapFields e3 _)), (Obj.cls_mapFields ..).trans e2, ?_⟩ (Heap.SameBut.update ..))⟩))
    rw [Obj.data_mapFields e3]; simp [rawInt]
theorem q_stop {Q : Value → Shared → Prop} (hh : A.handled = none) (hi : QIt q s.heap n a k) (hs : QSq q s.heap a us) (hu : us[k]? = none) (go : ∀ h' e, Heap.ExtBut n s.heap h' → (∃ o, h'.get? e = some o ∧ o.cls = .type "StopIteration") → E (.ref e) { s with heap := h' }) : wpAny (model P w) A (Builtin.SmallTypes.nextOf (.ref n)) Q E s := by
  cases q with
  | false => exact wpAny_nextOf_list_end hh hi hs hu go
  | true =>
    have ty : s.heap.IsTupleIter n a k := hi
    obtain ⟨oi, e1, e2, e3⟩ := hi
    obtain ⟨os, e4, _, m, e5⟩ := hs
    unfold Builtin.SmallTypes.nextOf
    refine wpAny_bind (wpAny_callSpecial?_slot (name := Str.ofString "__next__") ty.typeIs F.slot_tuple_iterator_next (wpAny_call_entry F.slot_tuple_iterator_next ty.typeIs F.entry_tuple_iterator_next ?_ (F.args_tuple_iterator_next_1 _)))
    refine wpAny_bind (m := field (.ref n) 0) (wpAny_field e1 e3 (x := .ref a) rfl ?_)
    show wpAny _ _ (ite ((Value.ref a == Value.none) = true) _ _) _ _ s; rw [if_neg (show ¬ (Value.ref a == Value.none) = true from nofun)]
    refine wpAny_bind (m := field (.ref n) 1) (wpAny_field e1 e3 (x := .int k 0) rfl (wpAny_bind (m := seqItems? (.ref a)) (wpAny_seqItems e4 e5 ?_)))
    simp only [hu, Int.toNat_natCast]
    refine wpAny_bind (wpAny_rule (wpAny_bind (wpAny_setField e1 e3 (by simp) (wpAny_bind (m := newExc (.type "StopIteration") []) ?_))))
    simp only [newTuple, newExc]
    refine wpAny_bind (wpAny_newObj_type (wpAny_bind (m := firstArgMember _ _) (wpAny_of_eq (a := Value.none) (by first | rfl | (simp only [firstArgMember]; rfl)) (wpAny_newObj_type ?_ (by size_fits)))) (by size_fits))
    simp only [raiseNew]
    refine wpAny_bind (wpAny_handled ?_)
    first | rw [hh] | rw [show A.in1.handled = none from hh]
    exact wpAny_bind (wpAny_pure (wpAny_throw (go _ _ (((Heap.SameBut.update ..).extBut.push _).push _) ⟨_, Heap.get?_push_size _ rfl, rfl⟩)))
end
section
variable {P : Program} {w : World} {A : Around} {E : Value → Shared → Prop} {s : Shared} {q1 q2 : Bool} {z ti to n1 n2 a1 a2 : Addr} {k : Nat} {us vs : Array Value} {u v c d : Value}
structure ZAp (z ti to n1 n2 a1 a2 : Addr) : Prop where
  nd : [z, ti, to, n1, n2].Nodup
  x1 : a1 ∉ [z, to, n1, n2]
  x2 : a2 ∉ [z, to, n1, n2]
theorem z_item {Q : Value → Shared → Prop} (D : ZAp z ti to n1 n2 a1 a2) (hz : IsZip s.heap z ti to .none) (hi : IsPair s.heap ti (.ref n1) (.ref n2)) (ho : IsPair s.heap to c d)
    (h1 : QIt q1 s.heap n1 a1 k) (h2 : QIt q2 s.heap n2 a2 k) (l1 : QSq q1 s.heap a1 us) (l2 : QSq q2 s.heap a2 vs) (hu : us[k]? = some u) (hv : vs[k]? = some v)
    (go : ∀ h', IsZip h' z ti to (rawInt s.heap.objs.size) → IsPair h' to u v → QIt q1 h' n1 a1 (k + 1) → QIt q2 h' n2 a2 (k + 1) → IsPair h' s.heap.objs.size u v → h'.objs.size = s.heap.objs.size + 1 →
      (∀ b o, b ∉ [z, to, n1, n2] → s.heap.get? b = some o → h'.get? b = some o) → Q (.ref s.heap.objs.size) { s with heap := h' }) :
    wpAny (model P w) A (Builtin.«zip.__next__» ⟨[.ref z], []⟩) (fun fin s' => ∃ r, fin = .done (.ret r) ∧ Q r s') E s := by
  obtain ⟨nd, x1, x2⟩ := D
  simp only [List.nodup_cons, List.mem_cons, List.not_mem_nil, or_false, not_or, List.nodup_nil, not_false_eq_true, and_true] at nd x1 x2
  obtain ⟨⟨zti, zto, zn1, zn2⟩, ⟨tito, tin1, tin2⟩, ⟨ton1, ton2⟩, n12⟩ := nd
  refine wpAny_bind (m := field (.ref z) 2) (wpAny_field hz rfl (x := .bool false) rfl (wpAny_bind (m := field (.ref z) 3) (wpAny_field hz rfl (x := .ref ti) rfl (wpAny_bind (wpAny_seqItems hi rfl ?_)))))
  refine wpAny_bind (m := Builtin.SmallTypes.ownedTupleIsFree (.ref z)) ?_
  unfold Builtin.SmallTypes.ownedTupleIsFree
  refine wpAny_bind (wpAny_field hz rfl (x := .none) rfl (wpAny_pure ?_))
  simp only [if_true]
  refine wpAny_bind (wpAny_rule (wpAny_bind (wpAny_field hz rfl (x := .ref to) rfl (wpAny_bind (wpAny_setField_rec hz (by simp) fun g1 z1 s1 => wpAny_bind ?_)))))
  have z1 : IsZip g1 z ti to .ellipsis := z1
  simp only [List.forIn_cons, List.forIn_nil, List.zipIdx_cons, List.zipIdx_nil]
  refine wpAny_bind (wpAny_bind (wpAny_onRaise (wpAny_bind (m := Builtin.SmallTypes.nextOf (.ref n1)) (q_next (h1.at fun o e => s1.extBut _ _ (Ne.symm zn1) e) (l1.at fun o e => s1.extBut _ _ x1.1 e) hu fun g2 i2 s2 => wpAny_pure ?_))))
  have t2 : IsPair g2 to c d := s2.extBut _ _ ton1 (s1.extBut _ _ (Ne.symm zto) ho)
  refine wpAny_bind (wpAny_seqItems t2 rfl (wpAny_bind (wpAny_updateSeq_pair t2 fun g3 t3 s3 => wpAny_bind (wpAny_letGo (wpAny_pure ?_)))))
  have t3 : IsPair g3 to u d := t3
  refine wpAny_bind (wpAny_bind (wpAny_onRaise (wpAny_bind (m := Builtin.SmallTypes.nextOf (.ref n2)) (q_next (h2.at fun o e => s3.extBut _ _ (Ne.symm ton2) (s2.extBut _ _ (Ne.symm n12) (s1.extBut _ _ (Ne.symm zn2) e))) (l2.at fun o e => s3.extBut _ _ x2.2.1 (s2.extBut _ _ x2.2.2.1 (s1.extBut _ _ x2.1 e))) hv fun g4 i4 s4 => wpAny_pure ?_))))
  have t4 : IsPair g4 to u d := s4.extBut _ _ ton2 t3
  refine wpAny_bind (wpAny_seqItems t4 rfl (wpAny_bind (wpAny_updateSeq_pair t4 fun g5 t5 s5 => wpAny_bind (wpAny_letGo (wpAny_pure (wpAny_pure ?_))))))
  have t5 : IsPair g5 to u v := t5
  refine wpAny_bind (wpAny_seqItems t5 rfl (wpAny_bind (wpAny_newTuple ?_)))
  have sz : g5.objs.size = s.heap.objs.size := by rw [s5.1, s4.1, s3.1, s2.1, s1.1]
  have z5 : IsZip g5 z ti to .ellipsis := s5.extBut _ _ zto (s4.extBut _ _ zn2 (s3.extBut _ _ zto (s2.extBut _ _ zn1 z1)))
  have k5 : ∀ b o, b ∉ [z, to, n1, n2] → s.heap.get? b = some o → g5.get? b = some o := fun b o hb e => by
    simp only [List.mem_cons, List.not_mem_nil, or_false, not_or] at hb
    exact s5.extBut _ _ hb.2.1 (s4.extBut _ _ hb.2.2.2 (s3.extBut _ _ hb.2.1 (s2.extBut _ _ hb.2.2.1 (s1.extBut _ _ hb.1 e))))
  have i1 : QIt q1 g5 n1 a1 (k + 1) := i2.at fun o e => s5.extBut _ _ (Ne.symm ton1) (s4.extBut _ _ n12 (s3.extBut _ _ (Ne.symm ton1) e))
  have i2' : QIt q2 g5 n2 a2 (k + 1) := i4.at fun o e => s5.extBut _ _ (Ne.symm ton2) e
  have zlt : z < g5.objs.size := Heap.lt_size z5
  refine wpAny_bind (m := Builtin.SmallTypes.ownedTupleHandOut (.ref z) (.ref g5.objs.size)) ?_
  unfold Builtin.SmallTypes.ownedTupleHandOut
  refine wpAny_bind (wpAny_setField_rec (show IsZip (g5.push { cls := .type "tuple", data := .seq #[u, v] }) z ti to .ellipsis from Heap.get?_push_of_some _ z5) (by simp) fun g7 z7 s7 => ?_)
  have z7 : IsZip g7 z ti to (rawInt g5.objs.size) := z7
  refine wpAny_setField_rec z7 (by simp) fun g8 z8 s8 => wpAny_pure ⟨_, rfl, ?_⟩
  have z8 : IsZip g8 z ti to (rawInt g5.objs.size) := z8
  have up : ∀ b o, b ≠ z → g5.get? b = some o → g8.get? b = some o := fun b o hb e => s8.extBut _ _ hb (s7.extBut _ _ hb (Heap.get?_push_of_some _ e))
  have t8 : IsPair g8 g5.objs.size u v := s8.extBut _ _ (Nat.ne_of_gt zlt) (s7.extBut _ _ (Nat.ne_of_gt zlt) (Heap.get?_push_size _ rfl))
  have sz8 : g8.objs.size = g5.objs.size + 1 := by rw [s8.1, s7.1, Heap.size_push]
  show Q (.ref g5.objs.size) _
  rw [sz] at z8 t8 sz8 ⊢
  exact go g8 z8 (up _ _ (Ne.symm zto) t5) (i1.at fun o e => up _ o (Ne.symm zn1) e) (i2'.at fun o e => up _ o (Ne.symm zn2) e) t8 sz8 fun b o hb e => up b o (fun x => hb (by simp [x])) (k5 b o hb e)
theorem z_last {Q : PySem.Fin → Shared → Prop} (hh : A.handled = none) (D : ZAp z ti to n1 n2 a1 a2) (hz : IsZip s.heap z ti to .none) (hi : IsPair s.heap ti (.ref n1) (.ref n2)) (ho : IsPair s.heap to c d)
    (h1 : QIt q1 s.heap n1 a1 k) (h2 : QIt q2 s.heap n2 a2 k) (l1 : QSq q1 s.heap a1 us) (l2 : QSq q2 s.heap a2 vs) (hend : us[k]? = none ∨ vs[k]? = none)
    (go : ∀ h' e, (∀ b o, b ∉ [z, to, n1, n2] → s.heap.get? b = some o → h'.get? b = some o) → (∃ o, h'.get? e = some o ∧ o.cls = .type "StopIteration") → E (.ref e) { s with heap := h' }) :
    wpAny (model P w) A (Builtin.«zip.__next__» ⟨[.ref z], []⟩) Q E s := by
  obtain ⟨nd, x1, x2⟩ := D
  simp only [List.nodup_cons, List.mem_cons, List.not_mem_nil, or_false, not_or, List.nodup_nil, not_false_eq_true, and_true] at nd x1 x2
  obtain ⟨⟨zti, zto, zn1, zn2⟩, ⟨tito, tin1, tin2⟩, ⟨ton1, ton2⟩, n12⟩ := nd
  refine wpAny_bind (m := field (.ref z) 2) (wpAny_field hz rfl (x := .bool false) rfl (wpAny_bind (m := field (.ref z) 3) (wpAny_field hz rfl (x := .ref ti) rfl (wpAny_bind (wpAny_seqItems hi rfl ?_)))))
  refine wpAny_bind (m := Builtin.SmallTypes.ownedTupleIsFree (.ref z)) ?_
  unfold Builtin.SmallTypes.ownedTupleIsFree
  refine wpAny_bind (wpAny_field hz rfl (x := .none) rfl (wpAny_pure ?_))
  simp only [if_true]
  refine wpAny_bind (wpAny_rule (wpAny_bind (wpAny_field hz rfl (x := .ref to) rfl (wpAny_bind (wpAny_setField_rec hz (by simp) fun g1 z1 s1 => wpAny_bind ?_)))))
  have z1 : IsZip g1 z ti to .ellipsis := z1
  simp only [List.forIn_cons, List.forIn_nil, List.zipIdx_cons, List.zipIdx_nil]
  cases hu : us[k]? with
  | none =>
    refine wpAny_bind (wpAny_bind (wpAny_onRaise (wpAny_bind (m := Builtin.SmallTypes.nextOf (.ref n1)) (q_stop hh (h1.at fun o e => s1.extBut _ _ (Ne.symm zn1) e) (l1.at fun o e => s1.extBut _ _ x1.1 e) hu fun g2 e s2 he => ?_))))
    obtain ⟨oe, hoe, hce⟩ := he
    have z2 : IsZip g2 z ti to .ellipsis := s2 _ _ zn1 z1
    have ez : e ≠ z := fun x => by rw [x, z2] at hoe; cases hoe; simp at hce
    refine wpAny_setField_rec z2 (by simp) fun g3 _ s3 => go g3 e (fun b o hb x => ?_) ⟨oe, s3.extBut _ _ ez hoe, hce⟩
    simp only [List.mem_cons, List.not_mem_nil, or_false, not_or] at hb
    exact s3.extBut _ _ hb.1 (s2 _ _ hb.2.2.1 (s1.extBut _ _ hb.1 x))
  | some u =>
    have hv : vs[k]? = none := by
      rcases hend with h | h
      · rw [hu] at h; cases h
      · exact h
    refine wpAny_bind (wpAny_bind (wpAny_onRaise (wpAny_bind (m := Builtin.SmallTypes.nextOf (.ref n1)) (q_next (h1.at fun o e => s1.extBut _ _ (Ne.symm zn1) e) (l1.at fun o e => s1.extBut _ _ x1.1 e) hu fun g2 i2 s2 => wpAny_pure ?_))))
    have t2 : IsPair g2 to c d := s2.extBut _ _ ton1 (s1.extBut _ _ (Ne.symm zto) ho)
    refine wpAny_bind (wpAny_seqItems t2 rfl (wpAny_bind (wpAny_updateSeq_pair t2 fun g3 t3 s3 => wpAny_bind (wpAny_letGo (wpAny_pure ?_)))))
    refine wpAny_bind (wpAny_bind (wpAny_onRaise (wpAny_bind (m := Builtin.SmallTypes.nextOf (.ref n2)) (q_stop hh (h2.at fun o e => s3.extBut _ _ (Ne.symm ton2) (s2.extBut _ _ (Ne.symm n12) (s1.extBut _ _ (Ne.symm zn2) e))) (l2.at fun o e => s3.extBut _ _ x2.2.1 (s2.extBut _ _ x2.2.2.1 (s1.extBut _ _ x2.1 e))) hv fun g4 e s4 he => ?_))))
    obtain ⟨oe, hoe, hce⟩ := he
    have z4 : IsZip g4 z ti to .ellipsis := s4 _ _ zn2 (s3.extBut _ _ zto (s2.extBut _ _ zn1 z1))
    have ez : e ≠ z := fun x => by rw [x, z4] at hoe; cases hoe; simp at hce
    refine wpAny_setField_rec z4 (by simp) fun g5 _ s5 => go g5 e (fun b o hb x => ?_) ⟨oe, s5.extBut _ _ ez hoe, hce⟩
    simp only [List.mem_cons, List.not_mem_nil, or_false, not_or] at hb
    exact s5.extBut _ _ hb.1 (s4 _ _ hb.2.2.2 (s3.extBut _ _ hb.2.1 (s2.extBut _ _ hb.2.2.1 (s1.extBut _ _ hb.1 x))))
theorem pn_item {Q : Option Value → Shared → Prop} (D : ZAp z ti to n1 n2 a1 a2) (hz : IsZip s.heap z ti to .none) (hi : IsPair s.heap ti (.ref n1) (.ref n2)) (ho : IsPair s.heap to c d)
    (h1 : QIt q1 s.heap n1 a1 k) (h2 : QIt q2 s.heap n2 a2 k) (l1 : QSq q1 s.heap a1 us) (l2 : QSq q2 s.heap a2 vs) (hu : us[k]? = some u) (hv : vs[k]? = some v)
    (go : ∀ h', IsZip h' z ti to (rawInt s.heap.objs.size) → IsPair h' to u v → QIt q1 h' n1 a1 (k + 1) → QIt q2 h' n2 a2 (k + 1) → IsPair h' s.heap.objs.size u v → h'.objs.size = s.heap.objs.size + 1 →
      (∀ b o, b ∉ [z, to, n1, n2] → s.heap.get? b = some o → h'.get? b = some o) → Q (some (.ref s.heap.objs.size)) { s with heap := h' }) : wpAny (model P w) A (pyNext (.ref z)) Q E s := by
  have ty : s.TypeIs (.ref z) "zip" := ⟨_, hz, rfl⟩
  unfold pyNext
  exact wpAny_bind (wpAny_attempt (wpAny_callSpecial?_slot (name := Str.ofString "__next__") ty F.slot_zip_next (wpAny_call_entry F.slot_zip_next ty F.entry_zip_next (z_item D hz hi ho h1 h2 l1 l2 hu hv fun h' b1 b2 b3 b4 b5 b6 b7 => wpAny_pure (go h' b1 b2 b3 b4 b5 b6 b7)) (F.args_zip_next_1 _))))
theorem pn_last {Q : Option Value → Shared → Prop} (hh : A.handled = none) (D : ZAp z ti to n1 n2 a1 a2) (hz : IsZip s.heap z ti to .none) (hi : IsPair s.heap ti (.ref n1) (.ref n2)) (ho : IsPair s.heap to c d)
    (h1 : QIt q1 s.heap n1 a1 k) (h2 : QIt q2 s.heap n2 a2 k) (l1 : QSq q1 s.heap a1 us) (l2 : QSq q2 s.heap a2 vs) (hend : us[k]? = none ∨ vs[k]? = none)
    (go : ∀ h', (∀ b o, b ∉ [z, to, n1, n2] → s.heap.get? b = some o → h'.get? b = some o) → Q none { s with heap := h' }) : wpAny (model P w) A (pyNext (.ref z)) Q E s := by
  have ty : s.TypeIs (.ref z) "zip" := ⟨_, hz, rfl⟩
  unfold pyNext
  refine wpAny_bind (wpAny_attempt (wpAny_callSpecial?_slot (name := Str.ofString "__next__") ty F.slot_zip_next (wpAny_call_entry F.slot_zip_next ty F.entry_zip_next (z_last hh D hz hi ho h1 h2 l1 l2 hend fun h' e hk he => ?_) (F.args_zip_next_1 _))))
  obtain ⟨o, e1, e2⟩ := he
  exact wpAny_bind (wpAny_isInstance (T := "StopIteration") (b := true) ⟨o, e1, e2⟩ isSubtype_stop (wpAny_pure (go _ hk)))
end
abbrev itO (q : Bool) (a : Addr) : Obj := { cls := .type (if q = true then "tuple_iterator" else "list_iterator"), data := .fields #[.ref a, .int 0 0] }
theorem q_iter {P : Program} {w : World} {A : Around} {E : Value → Shared → Prop} {s : Shared} {q : Bool} {a : Addr} {us : Array Value} {Q : Value → Shared → Prop} (hs : QSq q s.heap a us) (go : Q (.ref s.heap.objs.size) { s with heap := s.heap.push (itO q a) }) : wpAny (model P w) A (pyIter (.ref a)) Q E s := by
  cases q with
  | false => exact wpAny_pyIter_list hs go
  | true => exact wpAny_pyIter_tuple hs go
abbrev zh1 (h : Heap) (q1 : Bool) (a1 : Addr) : Heap := h.push (itO q1 a1)
abbrev zh2 (h : Heap) (q1 q2 : Bool) (a1 a2 : Addr) : Heap := (zh1 h q1 a1).push (itO q2 a2)
abbrev zh3 (h : Heap) (q1 q2 : Bool) (a1 a2 : Addr) : Heap := (zh2 h q1 q2 a1 a2).push { cls := .type "tuple", data := .seq #[.ref h.objs.size, .ref (zh1 h q1 a1).objs.size] }
abbrev zh4 (h : Heap) (q1 q2 : Bool) (a1 a2 : Addr) : Heap := (zh3 h q1 q2 a1 a2).push { cls := .type "tuple", data := .seq #[.none, .none] }
abbrev zh5 (h : Heap) (q1 q2 : Bool) (a1 a2 : Addr) : Heap := (zh4 h q1 q2 a1 a2).push { cls := .type "zip", data := .fields #[.none, .bool false, .bool false, .ref (zh2 h q1 q2 a1 a2).objs.size, .ref (zh3 h q1 q2 a1 a2).objs.size] }
theorem z_made (q1 q2 : Bool) (a1 a2 : Addr) (us vs : Array Value) : Meets (Builtin.«zip.__new__» ⟨[.type "zip", .ref a1, .ref a2], []⟩) (fun _ R s => QSq q1 s.heap a1 us ∧ QSq q2 s.heap a2 vs ∧ R (.ok (.ret (.ref (zh4 s.heap q1 q2 a1 a2).objs.size))) { s with heap := zh5 s.heap q1 q2 a1 a2 }) :=
  .of_wp fun prog w A R s h => by
    obtain ⟨hp, g, d, tk, os⟩ := s
    obtain ⟨l1, l2, h⟩ := h
    have hsub := sub_zip
    have L1 : QSq q1 (Shared.heap ⟨hp, g, d, tk, os⟩) a1 us := l1
    have L2 : QSq q2 (Shared.heap ⟨hp.push (itO q1 a1), g, d, tk, os⟩) a2 vs := l2.at fun o e => Heap.get?_push_of_some _ e
    wp_walk using q_iter L1, q_iter L2
    exact ⟨_, rfl, h⟩
theorem z_call {P : Program} {w : World} {A : Around} {E : Value → Shared → Prop} {s : Shared} {q1 q2 : Bool} {a1 a2 : Addr} {us vs : Array Value} {Q : Value → Shared → Prop} (l1 : QSq q1 s.heap a1 us) (l2 : QSq q2 s.heap a2 vs)
    (go : ∀ h', IsZip h' (s.heap.objs.size + 4) (s.heap.objs.size + 2) (s.heap.objs.size + 3) .none → IsPair h' (s.heap.objs.size + 2) (.ref s.heap.objs.size) (.ref (s.heap.objs.size + 1)) → IsPair h' (s.heap.objs.size + 3) .none .none →
      QIt q1 h' s.heap.objs.size a1 0 → QIt q2 h' (s.heap.objs.size + 1) a2 0 → (∀ b o, s.heap.get? b = some o → h'.get? b = some o) → Q (.ref (s.heap.objs.size + 4)) { s with heap := h' }) : wpAny (model P w) A (call (.type "zip") [.ref a1, .ref a2]) Q E s := by
  refine callType_new F.called_zip (by decide) (F.typeCall_zip_2 _ _) (F.newCall_zip_2 _ _) (fun obj => F.args_object_init_3 obj _ _) F.entry_zip_new (z_made q1 q2 a1 a2 us vs) ⟨l1, l2, ?_⟩
  have y1 : (zh1 s.heap q1 a1).objs.size = s.heap.objs.size + 1 := Heap.size_push ..
  have y2 : (zh2 s.heap q1 q2 a1 a2).objs.size = s.heap.objs.size + 2 := by rw [Heap.size_push, y1]
  have y3 : (zh3 s.heap q1 q2 a1 a2).objs.size = s.heap.objs.size + 3 := by rw [Heap.size_push, y2]
  have y4 : (zh4 s.heap q1 q2 a1 a2).objs.size = s.heap.objs.size + 4 := by rw [Heap.size_push, y3]
  have p5 : (zh5 s.heap q1 q2 a1 a2).get? (zh4 s.heap q1 q2 a1 a2).objs.size = some _ := Heap.get?_push_size _ rfl
  have p4 : (zh5 s.heap q1 q2 a1 a2).get? (zh3 s.heap q1 q2 a1 a2).objs.size = some _ := Heap.get?_push_of_some _ (Heap.get?_push_size _ rfl)
  have p3 : (zh5 s.heap q1 q2 a1 a2).get? (zh2 s.heap q1 q2 a1 a2).objs.size = some _ := Heap.get?_push_of_some _ (Heap.get?_push_of_some _ (Heap.get?_push_size _ rfl))
  have p2 : (zh5 s.heap q1 q2 a1 a2).get? (zh1 s.heap q1 a1).objs.size = some _ := Heap.get?_push_of_some _ (Heap.get?_push_of_some _ (Heap.get?_push_of_some _ (Heap.get?_push_size _ rfl)))
  have p1 : (zh5 s.heap q1 q2 a1 a2).get? s.heap.objs.size = some _ := Heap.get?_push_of_some _ (Heap.get?_push_of_some _ (Heap.get?_push_of_some _ (Heap.get?_push_of_some _ (Heap.get?_push_size _ rfl))))
  show _ ∧ _
  rw [y2, y3, y4] at p5
  rw [y1, y2] at p3
  rw [y3] at p4
  rw [y1] at p2
  rw [y4]
  exact ⟨⟨_, p5, rfl⟩, go _ p5 p3 p4 ⟨_, p1, rfl, rfl⟩ ⟨_, p2, rfl, rfl⟩ fun b o x => Heap.get?_push_of_some _ (Heap.get?_push_of_some _ (Heap.get?_push_of_some _ (Heap.get?_push_of_some _ (Heap.get?_push_of_some _ x))))⟩
end L2

namespace L2
open PySem PySem.Spec PyProof.Rows
noncomputable def SqB (q : Bool) (K : PySem.W.Frag) (H : Hp) (a : Addr) (xs : List V) : Prop := if q = true then SqT K H a xs else SqL K H a xs
section
variable {X : Cx} {pins : List (Addr × Obj)} {σ : St} {H : Hp} {s : Shared} {q : Bool} {a : Addr} {xs ys : List V}
theorem Inv.sqB (I : Inv X pins σ H s) (h : SqB q X.K H a xs) : ∃ its : List Value, Vals xs its ∧ QSq q s.heap a its.toArray := by
  cases q with
  | false =>
    obtain ⟨its, r, p, _⟩ := I.list h
    exact ⟨its, r, p.isList⟩
  | true =>
    obtain ⟨its, r, p, _⟩ := I.tuple h
    exact ⟨its, r, show s.heap.IsTuple a its.toArray from p⟩
theorem Inv.sqB_inj (I : Inv X pins σ H s) (h : SqB q X.K H a xs) (g : SqB q X.K H a ys) : xs = ys := by
  cases q with
  | false => exact I.list_inj h g
  | true => exact I.tuple_inj h g
end
noncomputable def Itz (K : PySem.W.Frag) (q1 q2 : Bool) (a1 a2 : Addr) : It :=
  ⟨fun i H => ∃ xs ys x y, SqB q1 K H a1 xs ∧ SqB q2 K H a2 ys ∧ xs[i]? = some x ∧ ys[i]? = some y,
   fun i H v H' => ∃ p x y, v = .ref p ∧ H p = none ∧ (∀ xs, SqB q1 K H a1 xs → xs[i]? = some x) ∧ (∀ ys, SqB q2 K H a2 ys → ys[i]? = some y) ∧ H' = upd H p (.tup [x, y]),
   fun i H => ∃ xs ys, SqB q1 K H a1 xs ∧ SqB q2 K H a2 ys ∧ (xs.length ≤ i ∨ ys.length ≤ i)⟩
theorem turn_zip {P : Program} {w : World} {K : PySem.W.Frag} {elts : List Expr} {x1 : _} {pos : Pos} {q1 q2 : Bool} {a1 a2 z ti to n1 n2 : Addr} (D : ZAp z ti to n1 n2 a1 a2) :
    Turn P w K (.Tuple elts x1 pos) (Itz K q1 q2 a1 a2) [z, ti, to, n1, n2] z (fun i h => IsZip h z ti to .none ∧ IsPair h ti (.ref n1) (.ref n2) ∧ (∃ c d, IsPair h to c d) ∧ QIt q1 h n1 a1 i ∧ QIt q2 h n2 a2 i) where
  mem := by simp
  obj := fun i h st b hb => by
    obtain ⟨hz, hi, ⟨c, d, ho⟩, ⟨o1, e1, c1, d1⟩, ⟨o2, e2, c2, d2⟩⟩ := st
    have hb' : b = z ∨ b = ti ∨ b = to ∨ b = n1 ∨ b = n2 := by simpa using hb
    rcases hb' with rfl | rfl | rfl | rfl | rfl
    · exact ⟨_, hz, fun v y => by cases y⟩
    · exact ⟨_, hi, fun v y => by cases y⟩
    · exact ⟨_, ho, fun v y => by cases y⟩
    · exact ⟨o1, e1, fun v y => by rw [d1] at y; cases y⟩
    · exact ⟨o2, e2, fun v y => by rw [d2] at y; cases y⟩
  keep := fun i h h' st k => by
    obtain ⟨hz, hi, ⟨c, d, ho⟩, h1, h2⟩ := st
    exact ⟨k z (by simp) _ hz, k ti (by simp) _ hi, ⟨c, d, k to (by simp) _ ho⟩, h1.at fun o e => k n1 (by simp) o e, h2.at fun o e => k n2 (by simp) o e⟩
  item := by
    intro X hP hw hK hc i pins s σ H E I hf st hg
    subst hP hw hK
    obtain ⟨xs, ys, x, y, hq1, hq2, hx, hy⟩ := hg
    obtain ⟨hz, hi, ⟨c, d, ho⟩, h1, h2⟩ := st
    obtain ⟨it1, r1, p1⟩ := I.sqB hq1
    obtain ⟨it2, r2, p2⟩ := I.sqB hq2
    obtain ⟨u, hu, ru⟩ := r1.get hx
    obtain ⟨v, hv, rv⟩ := r2.get hy
    have fpl : ∀ b ∈ [z, ti, to, n1, n2], b < s.heap.objs.size := fun b hb => by
      obtain ⟨o1, e1, _⟩ := id h1
      obtain ⟨o2, e2, _⟩ := id h2
      have hb' : b = z ∨ b = ti ∨ b = to ∨ b = n1 ∨ b = n2 := by simpa using hb
      rcases hb' with rfl | rfl | rfl | rfl | rfl
      · exact Heap.lt_size hz
      · exact Heap.lt_size hi
      · exact Heap.lt_size ho
      · exact Heap.lt_size e1
      · exact Heap.lt_size e2
    refine pn_item D hz hi ho h1 h2 p1 p2 (u := u) (v := v) (by simpa using hu) (by simpa using hv) fun g z1 o1 i1 i2 t1 sz kk => ?_
    refine ⟨.ref s.heap.objs.size, rfl, wpAny_letOwnedTupleGo_zip z1 fun g2 z2 sb => ?_⟩
    have sb2 : ∀ b, b ≠ z → g2.get? b = g.get? b := sb.2
    have hfr : H s.heap.objs.size = none := I.hok.fresh (Nat.le_refl _)
    have I1 : Inv X pins σ (upd H s.heap.objs.size (.tup [x, y])) { s with heap := s.heap.push { cls := .type "tuple", data := .seq #[u, v] } } :=
      I.laid (t' := s.toks) (fun b o e => Heap.get?_push_of_some _ e) (Nat.le_refl _) ⟨by show 2 ≤ sizeLine; decide, [u, v], .cons ru (.cons rv .nil), _, Heap.get?_push_size _ rfl, rfl, _, rfl⟩
    have hf2 : ∀ b ∈ [z, ti, to, n1, n2], FpOk X pins (upd H s.heap.objs.size (.tup [x, y])) b := fun b hb => by
      obtain ⟨f0, f1, f2, f3, f4, f5⟩ := hf b hb
      exact ⟨by rw [upd_ne (Nat.ne_of_lt (fpl b hb))]; exact f0, f1, f2, f3, f4, f5⟩
    have I2 := Inv.turnedL (h' := g2) (t' := s.toks) (fp := [z, ti, to, n1, n2]) I1 (fun b o hb e => by
      have hbz : b ≠ z := fun q => hb (by simp [q])
      rw [sb2 b hbz]
      rcases Heap.get?_push_cases e with ⟨y1, y2⟩ | y1
      · rw [y1, y2]; exact t1
      · exact kk b o (fun q => hb (by simp at q ⊢; rcases q with q | q | q | q <;> simp [q])) y1) hf2
    have nz : ∀ b ∈ [ti, to, n1, n2], b ≠ z := fun b hb q => by
      have := D.nd
      simp only [List.nodup_cons] at this
      exact this.1 (by rw [← q]; exact hb)
    have keep2 : ∀ b ∈ [ti, to, n1, n2], ∀ o, g.get? b = some o → g2.get? b = some o := fun b hb o e => by rw [sb2 b (nz b hb)]; exact e
    have tk : g.get? ti = some _ := kk ti _ (fun q => by
      have := D.nd
      simp only [List.nodup_cons] at this
      simp at q
      rcases q with q | q | q | q
      · exact nz ti (by simp) q
      · exact this.2.1 (by rw [q]; simp)
      · exact this.2.1 (by rw [q]; simp)
      · exact this.2.1 (by rw [q]; simp)) hi
    exact ⟨.ref s.heap.objs.size, _, I2, rfl, ⟨_, x, y, rfl, hfr, fun zs hzs => by rw [I.sqB_inj hzs hq1]; exact hx, fun zs hzs => by rw [I.sqB_inj hzs hq2]; exact hy, rfl⟩,
      ⟨z2, keep2 ti (by simp) _ tk, ⟨_, _, keep2 to (by simp) _ o1⟩, i1.at fun o e => keep2 n1 (by simp) o e, i2.at fun o e => keep2 n2 (by simp) o e⟩, fun b hb => (hf2 b hb).1⟩
  done := by
    intro X hP hw hK hc i pins s σ H E I hf st hg
    subst hP hw hK
    obtain ⟨xs, ys, hq1, hq2, hx⟩ := hg
    obtain ⟨hz, hi, ⟨c, d, ho⟩, h1, h2⟩ := st
    obtain ⟨it1, r1, p1⟩ := I.sqB hq1
    obtain ⟨it2, r2, p2⟩ := I.sqB hq2
    have l1 := r1.length
    have l2 := r2.length
    refine pn_last (I.ok.hd hc) D hz hi ho h1 h2 p1 p2 ?_ fun g kk => ⟨rfl, Inv.turnedL (t' := s.toks) I (fun b o hb e => kk b o (fun q => hb (by simp at q ⊢; rcases q with q | q | q | q <;> simp [q])) e) hf⟩
    rcases hx with hx | hx
    · exact .inl (by simp; omega)
    · exact .inr (by simp; omega)
  self := fun _ _ _ _ _ st h => wpAny_pyIter_zip st.1 h
theorem bt_zip : bootBuiltins "zip" = some (.type "zip") := by decide +kernel
section
variable {X : Cx}
noncomputable def iZip (K : PySem.W.Frag) (ta : TA) : TI := fun σ H R => ta σ H fun vs H1 => ∃ q1 q2 a1 a2, vs = [.ref a1, .ref a2] ∧ (∃ xs, SqB q1 K H1 a1 xs) ∧ (∃ ys, SqB q2 K H1 a2 ys) ∧ R (Itz K q1 q2 a1 a2) H1
theorem pi_zip {l1 l2 : Expr} {ta : TA} {elts : List Expr} {x1 : _} {p pos pos' : Pos} (hg : Gl X "zip") (hm : X.mg "zip" = none) (ha : PA X [l1, l2] ta) (hs : starEach [l1, l2] X.env = (false, eval l1 X.env) :: starEach [l2] X.env := by rfl) (hpl : (backTo pos (starEach [l2] X.env)).any (·.1) = false := by rfl) :
    PI X (.Tuple elts x1 pos') (.Call (.Name "zip" p) [l1, l2] [] pos) (iZip X.K ta) := by
  intro pins s σ H R I h
  refine Call_ (ld_blt I hg hm bt_zip (PyProof.Rows.callWith_type1 (thn (ha pos pins s σ H _ I h) fun us s1 ⟨vs, H1, I1, r1, q1⟩ => ?_) hs hpl))
  obtain ⟨b1, b2, a1, a2, e, ⟨xs, hq1⟩, ⟨ys, hq2⟩, q⟩ := q1
  subst e
  cases r1 with
  | cons r rr =>
    cases rr with
    | cons r2 rr =>
      cases rr
      cases r
      cases r2
      obtain ⟨it1, rv1, p1⟩ := I1.sqB hq1
      obtain ⟨it2, rv2, p2⟩ := I1.sqB hq2
      have lt1 : a1 < s1.heap.objs.size := by obtain ⟨o, e, _⟩ := id p1; exact Heap.lt_size e
      have lt2 : a2 < s1.heap.objs.size := by obtain ⟨o, e, _⟩ := id p2; exact Heap.lt_size e
      refine z_call p1 p2 fun g hz hi ho h1 h2 kk => ?_
      have I2 : Inv X pins σ H1 { s1 with heap := g } := I1.kept (t' := s1.toks) kk
      have D : ZAp (s1.heap.objs.size + 4) (s1.heap.objs.size + 2) (s1.heap.objs.size + 3) s1.heap.objs.size (s1.heap.objs.size + 1) a1 a2 := by
        have ap : ∀ b : Addr, b < s1.heap.objs.size → b ∉ [s1.heap.objs.size + 4, s1.heap.objs.size + 3, s1.heap.objs.size, s1.heap.objs.size + 1] := fun b lt hb => by
          have hb' : b = s1.heap.objs.size + 4 ∨ b = s1.heap.objs.size + 3 ∨ b = s1.heap.objs.size ∨ b = s1.heap.objs.size + 1 := by simpa using hb
          rcases hb' with e | e | e | e
          · exact absurd lt (by rw [e]; exact Nat.not_lt_of_le (Nat.le_add_right _ _))
          · exact absurd lt (by rw [e]; exact Nat.not_lt_of_le (Nat.le_add_right _ _))
          · exact absurd lt (by rw [e]; exact Nat.lt_irrefl _)
          · exact absurd lt (by rw [e]; exact Nat.not_lt_of_le (Nat.le_add_right _ _))
        exact ⟨by simp, ap a1 lt1, ap a2 lt2⟩
      refine wpAny_pyIter_zip hz ⟨s1.heap.objs.size + 4, [s1.heap.objs.size + 4, s1.heap.objs.size + 2, s1.heap.objs.size + 3, s1.heap.objs.size, s1.heap.objs.size + 1], _, _, H1, rfl, I2, turn_zip D, ⟨hz, hi, ⟨_, _, ho⟩, h1, h2⟩, fun b hb => ?_, q⟩
      have hge : s1.heap.objs.size ≤ b := by
        have hb' : b = s1.heap.objs.size + 4 ∨ b = s1.heap.objs.size + 2 ∨ b = s1.heap.objs.size + 3 ∨ b = s1.heap.objs.size ∨ b = s1.heap.objs.size + 1 := by simpa using hb
        rcases hb' with e | e | e | e | e
        · rw [e]; exact Nat.le_add_right _ _
        · rw [e]; exact Nat.le_add_right _ _
        · rw [e]; exact Nat.le_add_right _ _
        · rw [e]; exact Nat.le_refl _
        · rw [e]; exact Nat.le_add_right _ _
      exact I1.fpOk hge (I1.hok.fresh hge)
end
end L2

namespace L2
open PySem PySem.Spec PyProof.Rows
inductive Tr where
  | non | bl (b : Bool) | int (i : Int) | str (x : Str) | tup (ts : List Tr) | lst (ts : List Tr) | dct (kvs : List (Key × Tr)) | ty (n : String)
mutual
inductive Is (K : PySem.W.Frag) (F : Hp) : V → Tr → Prop
  | non : Is K F .non .non
  | bl {b : Bool} : Is K F (.bl b) (.bl b)
  | int {i : Int} : Is K F (.int i) (.int i)
  | str {x : Str} : Is K F (.str x) (.str x)
  | ty {n : String} : Is K F (.ty n) (.ty n)
  | tup {p : Addr} {vs : List V} {ts : List Tr} : SqT K F p vs → IsL K F vs ts → Is K F (.ref p) (.tup ts)
  | lst {p : Addr} {vs : List V} {ts : List Tr} : SqL K F p vs → IsL K F vs ts → Is K F (.ref p) (.lst ts)
  | dct {p : Addr} {kvs : List (Key × V)} {ts : List (Key × Tr)} : F p = some (.dK kvs) → kvs.map (·.1) = ts.map (·.1) → IsL K F (kvs.map (·.2)) (ts.map (·.2)) → Is K F (.ref p) (.dct ts)
inductive IsL (K : PySem.W.Frag) (F : Hp) : List V → List Tr → Prop
  | nil : IsL K F [] []
  | cons {v : V} {t : Tr} {vs : List V} {ts : List Tr} : Is K F v t → IsL K F vs ts → IsL K F (v :: vs) (t :: ts)
end
mutual
theorem Is.same {K : PySem.W.Frag} {F F' : Hp} (s : Same F F') : ∀ {v : V} {t : Tr}, Is K F v t → Is K F' v t
  | _, _, .non => .non
  | _, _, .bl => .bl
  | _, _, .int => .int
  | _, _, .str => .str
  | _, _, .ty => .ty
  | _, _, .tup h g => .tup (s.tup h) (IsL.same s g)
  | _, _, .lst h g => .lst (s.seq h) (IsL.same s g)
  | _, _, .dct h e g => .dct (s _ _ h) e (IsL.same s g)
theorem IsL.same {K : PySem.W.Frag} {F F' : Hp} (s : Same F F') : ∀ {vs : List V} {ts : List Tr}, IsL K F vs ts → IsL K F' vs ts
  | _, _, .nil => .nil
  | _, _, .cons h g => .cons (Is.same s h) (IsL.same s g)
end
section
variable {K : PySem.W.Frag} {F : Hp}
theorem IsL.length : ∀ {vs : List V} {ts : List Tr}, IsL K F vs ts → vs.length = ts.length
  | _, _, .nil => rfl
  | _, _, .cons _ g => congrArg (· + 1) (IsL.length g)
theorem IsL.get : ∀ {vs : List V} {ts : List Tr} {i : Nat} {t : Tr}, IsL K F vs ts → ts[i]? = some t → ∃ v, vs[i]? = some v ∧ Is K F v t
  | _, _, _, _, .nil, e => by simp at e
  | _, _, 0, _, .cons h _, e => by simp at e; subst e; exact ⟨_, rfl, h⟩
  | _, _, i + 1, t, .cons _ g, e => by
    obtain ⟨u, h1, h2⟩ := IsL.get (i := i) (t := t) g (by simpa using e)
    exact ⟨u, by simpa using h1, h2⟩
theorem IsL.get2 : ∀ {vs : List V} {ts : List Tr} {i : Nat} {v : V}, IsL K F vs ts → vs[i]? = some v → ∃ t, ts[i]? = some t ∧ Is K F v t
  | _, _, _, _, .nil, e => by simp at e
  | _, _, 0, _, .cons h _, e => by simp at e; subst e; exact ⟨_, rfl, h⟩
  | _, _, i + 1, t, .cons _ g, e => by
    obtain ⟨u, h1, h2⟩ := IsL.get2 (i := i) (v := t) g (by simpa using e)
    exact ⟨u, by simpa using h1, h2⟩
theorem IsL.app : ∀ {vs ws : List V} {ts us : List Tr}, IsL K F vs ts → IsL K F ws us → IsL K F (vs ++ ws) (ts ++ us)
  | _, _, _, _, .nil, s => s
  | _, _, _, _, .cons h g, s => .cons h (IsL.app g s)
theorem IsL.take : ∀ {vs : List V} {ts : List Tr} (n : Nat), IsL K F vs ts → IsL K F (vs.take n) (ts.take n)
  | _, _, 0, _ => .nil
  | _, _, _ + 1, .nil => .nil
  | _, _, n + 1, .cons h g => .cons h (IsL.take n g)
theorem IsL.drop : ∀ {vs : List V} {ts : List Tr} (n : Nat), IsL K F vs ts → IsL K F (vs.drop n) (ts.drop n)
  | _, _, 0, h => h
  | _, _, _ + 1, .nil => .nil
  | _, _, n + 1, .cons _ g => IsL.drop n g
theorem IsL.snoc {vs : List V} {ts : List Tr} {v : V} {t : Tr} (h : IsL K F vs ts) (g : Is K F v t) : IsL K F (vs ++ [v]) (ts ++ [t]) := h.app (.cons g .nil)
theorem IsL.rev : ∀ {vs : List V} {ts : List Tr}, IsL K F vs ts → IsL K F vs.reverse ts.reverse
  | _, _, .nil => .nil
  | _, _, .cons h g => by rw [List.reverse_cons, List.reverse_cons]; exact (IsL.rev g).snoc h
theorem IsL.ints : ∀ {vs : List V} {ns : List Int}, IsL K F vs (ns.map Tr.int) → vs = ns.map V.int
  | _, [], .nil => rfl
  | _, _ :: _, .cons .int g => by rw [List.map_cons, IsL.ints g]
theorem IsL.strs : ∀ {vs : List V} {ns : List Str}, IsL K F vs (ns.map Tr.str) → vs = ns.map V.str
  | _, [], .nil => rfl
  | _, _ :: _, .cons .str g => by rw [List.map_cons, IsL.strs g]
theorem IsL.ofInts : ∀ (ns : List Int), IsL K F (ns.map V.int) (ns.map Tr.int)
  | [] => .nil
  | _ :: r => .cons .int (IsL.ofInts r)
end
noncomputable def Mb : HO → Prop
  | .lst _ => True
  | .dK _ => True
  | .tbl _ => True
  | _ => False
structure Bk where
  K : PySem.W.Frag
  F0 : Hp
  H0 : Hp
  W : Addr → Prop
  J : Hp → Prop
  rt : Addr
  jl : ∀ H H' : Hp, (∀ p, W p → H p = H' p) → (∀ p φ, H p = some (.ext φ) → H' p = some (.ext φ)) → J H → J H'
  jm : ∀ (H : Hp) (p : Addr), J H → W p → ∃ o, H p = some o ∧ Mb o
structure Up (B : Bk) (F H F' H' : Hp) : Prop where
  f : Same F F'
  h : ∀ p o, ¬ B.W p → H p = some o → H' p = some o
  i : Same F' H'
  m : ∀ p o, H p = some o → Mb o → F p = none → F' p = none
  w : ∀ p, H' p = none → H p = none
  x : ∀ p, B.W p → F p = none → F' p = none
  j : B.J H → B.J H'
theorem Up.refl {B : Bk} {F H : Hp} (i : Same F H) : Up B F H F H := ⟨Same.refl _, fun _ _ _ h => h, i, fun _ _ _ _ h => h, fun _ h => h, fun _ _ h => h, fun h => h⟩
theorem Up.trans {B : Bk} {F H F1 H1 F2 H2 : Hp} (a : Up B F H F1 H1) (b : Up B F1 H1 F2 H2) : Up B F H F2 H2 := ⟨a.f.trans b.f, fun p o n h => b.h p o n (a.h p o n h), b.i, fun p o h mb n => by
  by_cases hw : B.W p
  · exact b.x p hw (a.x p hw n)
  · exact b.m p o (a.h p o hw h) mb (a.m p o h mb n), fun p h => a.w p (b.w p h), fun p hw n => b.x p hw (a.x p hw n), fun h => b.j (a.j h)⟩
inductive Ow (K : PySem.W.Frag) (F H : Hp) (l : Addr) : Tr → Prop
  | lst {vs : List V} {ts : List Tr} : H l = some (.lst vs) → IsL K F vs ts → Ow K F H l (.lst ts)
  | dct {kvs : List (Key × V)} {ts : List (Key × Tr)} : H l = some (.dK kvs) → kvs.map (·.1) = ts.map (·.1) → IsL K F (kvs.map (·.2)) (ts.map (·.2)) → Ow K F H l (.dct ts)
theorem Ow.mb {K : PySem.W.Frag} {F H : Hp} {l : Addr} {t : Tr} (h : Ow K F H l t) : ∃ o, H l = some o ∧ Mb o := by
  cases h with
  | lst h _ => exact ⟨_, h, trivial⟩
  | dct h _ _ => exact ⟨_, h, trivial⟩
theorem Ow.to {K : PySem.W.Frag} {F F' H H' : Hp} {l : Addr} {t : Tr} (h : Ow K F H l t) (s : Same F F') (e : ∀ o, H l = some o → H' l = some o) : Ow K F' H' l t := by
  cases h with
  | lst h g => exact .lst (e _ h) (g.same s)
  | dct h e' g => exact .dct (e _ h) e' (g.same s)
theorem Ow.is {K : PySem.W.Frag} {F H F' : Hp} {l : Addr} {t : Tr} (h : Ow K F H l t) (s : Same F F') (e : F' l = H l) : Is K F' (.ref l) t := by
  cases h with
  | lst h g => exact .lst (SqL.of (by rw [e, h])) (g.same s)
  | dct h e' g => exact .dct (by rw [e, h]) e' (g.same s)
inductive Sl where
  | no | fz (t : Tr) | own (t : Tr) | vw (t : Tr) | wd
abbrev TSt := List Sl
abbrev SAt (σ : St) (i : Nat) (v : V) : Prop := σ[i]? = some (some v)
abbrev TAt (τ : TSt) (i : Nat) (s : Sl) : Prop := τ[i]? = some s
structure Rp (B : Bk) (F H : Hp) (σ : St) (τ : TSt) : Prop where
  up : Up B B.F0 B.H0 F H
  wa : ∀ p, B.W p → B.H0 p ≠ none
  wf : ∀ p, B.W p → F p = none
  wj : B.J H
  wd : ∀ i, TAt τ i .wd → SAt σ i (.ref B.rt)
  len : σ.length = τ.length
  fz : ∀ i t, TAt τ i (.fz t) → ∃ v, SAt σ i v ∧ Is B.K F v t
  ow : ∀ i t, TAt τ i (.own t) → ∃ l, SAt σ i (.ref l) ∧ Ow B.K F H l t ∧ F l = none ∧ B.H0 l = none
  vw : ∀ i t, TAt τ i (.vw t) → ∃ l, SAt σ i (.ref l) ∧ Ow B.K F H l t ∧ F l = none ∧ ¬ B.W l
  ap : ∀ i j t u l, TAt τ i (.own t) → TAt τ j (.own u) → i ≠ j → SAt σ i (.ref l) → SAt σ j (.ref l) → False
  av : ∀ i j t u l, TAt τ i (.own t) → TAt τ j (.vw u) → SAt σ i (.ref l) → SAt σ j (.ref l) → False
inductive Kd where
  | fz (t : Tr) | nw (t : Tr) | sl (i : Nat) | wd
noncomputable def KdOk (B : Bk) (F H : Hp) (σ : St) (τ : TSt) (v : V) : Kd → Prop
  | .fz t => Is B.K F v t
  | .nw t => ∃ l, v = .ref l ∧ Ow B.K F H l t ∧ F l = none ∧ B.H0 l = none ∧ ∀ i u, TAt τ i (.own u) ∨ TAt τ i (.vw u) → ¬ SAt σ i (.ref l)
  | .sl i => SAt σ i v
  | .wd => v = .ref B.rt
noncomputable def NewK (H : Hp) (v : V) : Kd → Prop
  | .nw _ => ∀ l, v = .ref l → H l = none
  | _ => True
structure Fr (B : Bk) (σ : St) (τ : TSt) (F H : Hp) (τ' : TSt) (F' H' : Hp) : Prop where
  f : Same F F'
  k : ∀ p o, H p = some o → ¬ B.W p → (∀ i t, TAt τ i (.own t) → ¬ SAt σ i (.ref p)) → H' p = some o ∧ (Mb o → F p = none → F' p = none)
  o : ∀ i t, TAt τ' i (.own t) → ∃ u, TAt τ i (.own u)
  h : ∀ p, H' p = none → H p = none
theorem Fr.refl {B : Bk} {σ : St} {τ : TSt} {F H : Hp} : Fr B σ τ F H τ F H := ⟨Same.refl _, fun _ _ h _ _ => ⟨h, fun _ z => z⟩, fun _ t h => ⟨t, h⟩, fun _ h => h⟩
theorem Fr.trans {B : Bk} {σ : St} {τ τ1 τ2 : TSt} {F H F1 H1 F2 H2 : Hp} (a : Fr B σ τ F H τ1 F1 H1) (b : Fr B σ τ1 F1 H1 τ2 F2 H2) : Fr B σ τ F H τ2 F2 H2 :=
  ⟨a.f.trans b.f, fun p o h nw n => by
    obtain ⟨h1, h2⟩ := a.k p o h nw n
    obtain ⟨h3, h4⟩ := b.k p o h1 nw fun i t e => by
      obtain ⟨u, e'⟩ := a.o i t e
      exact n i u e'
    exact ⟨h3, fun mb z => h4 mb (h2 mb z)⟩, fun i t e => by
    obtain ⟨u, e'⟩ := b.o i t e
    exact a.o i u e', fun p h => a.h p (b.h p h)⟩
abbrev TK := Kd → TSt → Prop
noncomputable def CT (B : Bk) (σ : St) (τ : TSt) (F H : Hp) (Φ : TK) (Q : VK) : Prop := ∀ v F' H' k τ', Fr B σ τ F H τ' F' H' → Rp B F' H' σ τ' → KdOk B F' H' σ τ' v k → NewK H v k → Φ k τ' → Q v H'
noncomputable def EV (B : Bk) (te : TE) (τ : TSt) (Φ : TK) : Prop := ∀ σ F H Q, Rp B F H σ τ → CT B σ τ F H Φ Q → te σ H Q
noncomputable def TV (B : Bk) (tt : TT) (τ : TSt) (Φ : Bool → TSt → Prop) : Prop := ∀ σ F H (Q : Bool → Hp → Prop), Rp B F H σ τ → (∀ b F' H' τ', Fr B σ τ F H τ' F' H' → Rp B F' H' σ τ' → Φ b τ' → Q b H') → tt σ H Q
noncomputable def EVA (B : Bk) (ta : TA) (τ : TSt) (Φ : List Tr → TSt → Prop) : Prop := ∀ σ F H (Q : List V → Hp → Prop), Rp B F H σ τ → (∀ vs F' H' ts τ', Fr B σ τ F H τ' F' H' → Rp B F' H' σ τ' → IsL B.K F' vs ts → Φ ts τ' → Q vs H') → ta σ H Q
noncomputable def AsF (k : Kd) (τ : TSt) (S : Tr → TSt → Prop) : Prop := match k with
  | .fz t => S t τ
  | .nw t => S t τ
  | .sl i => (∃ t, TAt τ i (.own t) ∧ S t (τ.set i (.fz t))) ∨ ∃ t, TAt τ i (.fz t) ∧ S t τ
  | .wd => False
noncomputable def Pnd (k : Kd) (τ : TSt) (S : TK) : Prop := match k with
  | .fz t => S (.fz t) τ
  | .nw t => S (.fz t) τ
  | .sl i => S (.sl i) τ
  | .wd => False
noncomputable def PdOk (K : PySem.W.Frag) (F : Hp) (σ : St) (v : V) : Kd → Prop
  | .fz t => Is K F v t
  | .nw _ => False
  | .sl i => SAt σ i v
  | .wd => False
theorem PdOk.same {K : PySem.W.Frag} {F F' : Hp} {σ : St} {v : V} {k : Kd} (s : Same F F') (h : PdOk K F σ v k) : PdOk K F' σ v k := by
  cases k with
  | fz t => exact Is.same s h
  | nw t => exact h
  | sl i => exact h
  | wd => exact h
section
variable {B : Bk} {F H F1 H1 F' H' : Hp} {σ : St} {τ τ1 τ' : TSt}
theorem CT.on {Φ : TK} {Q : VK} (c : CT B σ τ F H Φ Q) (f : Fr B σ τ F H τ1 F1 H1) : CT B σ τ1 F1 H1 Φ Q := fun v F' H' k τ' f' r ok n φ => c v F' H' k τ' (f.trans f') r ok (by
  cases k with
  | nw t => exact fun l e => f.h l (n l e)
  | fz t => exact trivial
  | sl i => exact trivial
  | wd => exact trivial) φ
theorem Rp.go (r : Rp B F H σ τ) (u : Up B F H F' H') : Rp B F' H' σ τ where
  up := r.up.trans u
  wa := r.wa
  wf := fun p hw => u.x p hw (r.wf p hw)
  wj := u.j r.wj
  wd := r.wd
  len := r.len
  fz := fun i t h => by obtain ⟨v, e, g⟩ := r.fz i t h; exact ⟨v, e, g.same u.f⟩
  ow := fun i t h => by
    obtain ⟨l, e, g, n, n0⟩ := r.ow i t h
    obtain ⟨o, ho, mb⟩ := g.mb
    exact ⟨l, e, g.to u.f (fun o => u.h l o fun hw => r.wa l hw n0), u.m l o ho mb n, n0⟩
  vw := fun i t h => by
    obtain ⟨l, e, g, n, nw⟩ := r.vw i t h
    obtain ⟨o, ho, mb⟩ := g.mb
    exact ⟨l, e, g.to u.f (fun o => u.h l o nw), u.m l o ho mb n, nw⟩
  ap := r.ap
  av := r.av
theorem Fr.up (u : Up B F H F' H') : Fr B σ τ F H τ F' H' := ⟨u.f, fun p o h nw _ => ⟨u.h p o nw h, fun mb n => u.m p o h mb n⟩, fun _ t h => ⟨t, h⟩, u.w⟩
theorem upd_none {H : Hp} {a b : Addr} {o : HO} (h : upd H a o b = none) : H b = none := by
  by_cases e : b = a
  · rw [e, upd_same] at h; cases h
  · rw [upd_ne e] at h; exact h
theorem Rp.tup {p : Addr} {vs : List V} (r : Rp B F H σ τ) (n : H p = none) : Up B F H (upd F p (.tup vs)) (upd H p (.tup vs)) where
  f := Same.new (r.up.i.free n) _
  h := fun q o _ z => Same.new n _ q o z
  i := fun b o e => by
    by_cases hb : b = p
    · subst hb; rw [upd_same] at e ⊢; exact e
    · rw [upd_ne hb] at e ⊢; exact r.up.i b o e
  m := fun q o h _ z => by
    have : q ≠ p := fun e => by rw [e, n] at h; cases h
    rw [upd_ne this]; exact z
  w := fun q h => upd_none h
  x := fun q hw z => by
    have : q ≠ p := fun e => r.wa q hw (r.up.w q (by rw [e]; exact n))
    rw [upd_ne this]; exact z
  j := fun h => B.jl _ _ (fun q hw => by
    have : q ≠ p := fun e => r.wa q hw (r.up.w q (by rw [e]; exact n))
    rw [upd_ne this]) (fun q φ z => Same.new n _ q _ z) h
theorem Rp.new {p : Addr} {o : HO} (r : Rp B F H σ τ) (n : H p = none) : Up B F H F (upd H p o) where
  f := Same.refl _
  h := fun q o _ z => Same.new n _ q o z
  i := r.up.i.trans (Same.new n _)
  m := fun q o h _ z => z
  w := fun q h => upd_none h
  x := fun q hw z => z
  j := fun h => B.jl _ _ (fun q hw => by
    have : q ≠ p := fun e => r.wa q hw (r.up.w q (by rw [e]; exact n))
    rw [upd_ne this]) (fun q φ z => Same.new n _ q _ z) h
theorem Rp.inc (r : Rp B F H σ τ) : Same F H := r.up.i
theorem Rp.fixA {l : Addr} {o : HO} (r : Rp B F H σ τ) (ho : H l = some o) (n : F l = none) (n0 : B.H0 l = none) (ne : ∀ i u, TAt τ i (.own u) ∨ TAt τ i (.vw u) → ¬ SAt σ i (.ref l)) : Rp B (upd F l o) H σ τ where
  wa := r.wa
  wf := fun p hw => by
    have : p ≠ l := fun e => r.wa p hw (by rw [e]; exact n0)
    rw [upd_ne this]; exact r.wf p hw
  wj := r.wj
  wd := r.wd
  up := { f := r.up.f.trans (Same.new n o), h := r.up.h, w := r.up.w, j := r.up.j
          m := fun p q hp mb z => by
            have : p ≠ l := fun e => by rw [e, n0] at hp; cases hp
            rw [upd_ne this]; exact r.up.m p q hp mb z
          x := fun p hw z => by
            have : p ≠ l := fun e => r.wa p hw (by rw [e]; exact n0)
            rw [upd_ne this]; exact r.up.x p hw z
          i := fun b q e => by
            by_cases hb : b = l
            · subst hb; rw [upd_same] at e; cases e; exact ho
            · rw [upd_ne hb] at e; exact r.up.i b q e }
  len := r.len
  fz := fun i t h => by obtain ⟨v, e, g⟩ := r.fz i t h; exact ⟨v, e, g.same (Same.new n o)⟩
  ow := fun i t h => by
    obtain ⟨l', e, g, n', n0'⟩ := r.ow i t h
    have hl : l' ≠ l := fun z => ne i t (.inl h) (by rw [← z]; exact e)
    exact ⟨l', e, g.to (Same.new n o) (fun _ q => q), by rw [upd_ne hl]; exact n', n0'⟩
  vw := fun i t h => by
    obtain ⟨l', e, g, n', nw⟩ := r.vw i t h
    have hl : l' ≠ l := fun z => ne i t (.inr h) (by rw [← z]; exact e)
    exact ⟨l', e, g.to (Same.new n o) (fun _ q => q), by rw [upd_ne hl]; exact n', nw⟩
  ap := r.ap
  av := r.av
theorem tset {τ : TSt} {i j : Nat} {s u : Sl} (h : TAt (τ.set i s) j u) : (j = i ∧ u = s ∧ i < τ.length) ∨ (j ≠ i ∧ TAt τ j u) := by
  unfold TAt at h
  rw [List.getElem?_set] at h
  by_cases e : i = j
  · subst e
    rw [if_pos rfl] at h
    by_cases g : i < τ.length
    · rw [if_pos g] at h; cases h; exact .inl ⟨rfl, rfl, g⟩
    · rw [if_neg g] at h; cases h
  · rw [if_neg e] at h; exact .inr ⟨fun z => e z.symm, h⟩
theorem sset {σ : St} {i j : Nat} {x : Option V} {v : V} (h : SAt (σ.set i x) j v) : (j = i ∧ x = some v) ∨ (j ≠ i ∧ SAt σ j v) := by
  unfold SAt at h
  rw [List.getElem?_set] at h
  by_cases e : i = j
  · subst e
    rw [if_pos rfl] at h
    by_cases g : i < σ.length
    · rw [if_pos g] at h; cases h; exact .inl ⟨rfl, rfl⟩
    · rw [if_neg g] at h; cases h
  · rw [if_neg e] at h; exact .inr ⟨fun z => e z.symm, h⟩
theorem ssetHere {σ : St} {i : Nat} {v : V} (h : i < σ.length) : SAt (σ.set i (some v)) i v := by
  unfold SAt
  rw [List.getElem?_set, if_pos rfl, if_pos h]
theorem ssetNe {σ : St} {i j : Nat} {x : Option V} {v : V} (n : j ≠ i) (h : SAt σ j v) : SAt (σ.set i x) j v := by
  unfold SAt at h ⊢
  rw [List.getElem?_set, if_neg (fun z => n z.symm)]; exact h
theorem Rp.setF {i : Nat} {v : V} {t : Tr} (r : Rp B F H σ τ) (h : Is B.K F v t) : Rp B F H (σ.set i (some v)) (τ.set i (.fz t)) where
  up := r.up
  wa := r.wa
  wf := r.wf
  wj := r.wj
  wd := fun j e => by
    rcases tset e with ⟨_, e, _⟩ | ⟨n, e⟩
    · cases e
    · exact ssetNe n (r.wd j e)
  len := by rw [List.length_set, List.length_set]; exact r.len
  fz := fun j u e => by
    rcases tset e with ⟨rfl, e, g⟩ | ⟨n, e⟩
    · cases e; exact ⟨v, ssetHere (by rw [r.len]; exact g), h⟩
    · obtain ⟨w, a, b⟩ := r.fz j u e
      exact ⟨w, ssetNe n a, b⟩
  ow := fun j u e => by
    rcases tset e with ⟨rfl, e, g⟩ | ⟨n, e⟩
    · cases e
    · obtain ⟨w, a, b⟩ := r.ow j u e
      exact ⟨w, ssetNe n a, b⟩
  vw := fun j u e => by
    rcases tset e with ⟨rfl, e, g⟩ | ⟨n, e⟩
    · cases e
    · obtain ⟨w, a, b⟩ := r.vw j u e
      exact ⟨w, ssetNe n a, b⟩
  ap := fun a b t u l ha hb ne hi hj => by
    rcases tset ha with ⟨_, e, _⟩ | ⟨na, ha⟩
    · cases e
    rcases tset hb with ⟨_, e, _⟩ | ⟨nb, hb⟩
    · cases e
    rcases sset hi with ⟨e, _⟩ | ⟨_, hi⟩
    · exact na e
    rcases sset hj with ⟨e, _⟩ | ⟨_, hj⟩
    · exact nb e
    exact r.ap a b t u l ha hb ne hi hj
  av := fun a b t u l ha hb hi hj => by
    rcases tset ha with ⟨_, e, _⟩ | ⟨na, ha⟩
    · cases e
    rcases tset hb with ⟨_, e, _⟩ | ⟨nb, hb⟩
    · cases e
    rcases sset hi with ⟨e, _⟩ | ⟨_, hi⟩
    · exact na e
    rcases sset hj with ⟨e, _⟩ | ⟨_, hj⟩
    · exact nb e
    exact r.av a b t u l ha hb hi hj
theorem Rp.setN {i : Nat} {v : V} {t : Tr} (r : Rp B F H σ τ) (h : KdOk B F H σ τ v (.nw t)) : Rp B F H (σ.set i (some v)) (τ.set i (.own t)) := by
  obtain ⟨l0, rfl, hw, n, n0, dis⟩ := h
  exact {
  up := r.up
  wa := r.wa
  wf := r.wf
  wj := r.wj
  wd := fun j e => by
    rcases tset e with ⟨_, e, _⟩ | ⟨n, e⟩
    · cases e
    · exact ssetNe n (r.wd j e)
  len := by rw [List.length_set, List.length_set]; exact r.len
  fz := fun j u e => by
    rcases tset e with ⟨rfl, e, g⟩ | ⟨n, e⟩
    · cases e
    · obtain ⟨w, a, b⟩ := r.fz j u e
      exact ⟨w, ssetNe n a, b⟩
  ow := fun j u e => by
    rcases tset e with ⟨rfl, e, g⟩ | ⟨n, e⟩
    · cases e; exact ⟨l0, ssetHere (by rw [r.len]; exact g), hw, n, n0⟩
    · obtain ⟨w, a, b⟩ := r.ow j u e
      exact ⟨w, ssetNe n a, b⟩
  vw := fun j u e => by
    rcases tset e with ⟨rfl, e, g⟩ | ⟨n, e⟩
    · cases e
    · obtain ⟨w, a, b⟩ := r.vw j u e
      exact ⟨w, ssetNe n a, b⟩
  ap := fun a b t u l ha hb ne hi hj => by
    rcases tset ha with ⟨ea, _, _⟩ | ⟨na, ha⟩
    · rcases tset hb with ⟨eb, _, _⟩ | ⟨nb, hb⟩
      · exact ne (ea.trans eb.symm)
      · rcases sset hi with ⟨_, e⟩ | ⟨na, _⟩
        · cases e
          rcases sset hj with ⟨e, _⟩ | ⟨_, hj⟩
          · exact nb e
          · exact dis b u (.inl hb) hj
        · exact na ea
    · rcases sset hi with ⟨e, _⟩ | ⟨_, hi⟩
      · exact na e
      rcases tset hb with ⟨eb, _, _⟩ | ⟨nb, hb⟩
      · rcases sset hj with ⟨_, e⟩ | ⟨nb, _⟩
        · cases e; exact dis a t (.inl ha) hi
        · exact nb eb
      · rcases sset hj with ⟨e, _⟩ | ⟨_, hj⟩
        · exact nb e
        · exact r.ap a b t u l ha hb ne hi hj
  av := fun a b t u l ha hb hi hj => by
    rcases tset hb with ⟨_, e, _⟩ | ⟨nb, hb⟩
    · cases e
    rcases sset hj with ⟨e, _⟩ | ⟨_, hj⟩
    · exact nb e
    rcases tset ha with ⟨ea, _, _⟩ | ⟨na, ha⟩
    · rcases sset hi with ⟨_, e⟩ | ⟨na, _⟩
      · cases e; exact dis b u (.inr hb) hj
      · exact na ea
    · rcases sset hi with ⟨e, _⟩ | ⟨_, hi⟩
      · exact na e
      · exact r.av a b t u l ha hb hi hj }
theorem Rp.forget {i : Nat} (r : Rp B F H σ τ) : Rp B F H σ (τ.set i .no) where
  up := r.up
  wa := r.wa
  wf := r.wf
  wj := r.wj
  wd := fun j e => by
    rcases tset e with ⟨_, e, _⟩ | ⟨n, e⟩
    · cases e
    · exact r.wd j e
  len := by rw [List.length_set]; exact r.len
  fz := fun j u e => by
    rcases tset e with ⟨_, e, _⟩ | ⟨_, e⟩
    · cases e
    · exact r.fz j u e
  ow := fun j u e => by
    rcases tset e with ⟨_, e, _⟩ | ⟨_, e⟩
    · cases e
    · exact r.ow j u e
  vw := fun j u e => by
    rcases tset e with ⟨_, e, _⟩ | ⟨_, e⟩
    · cases e
    · exact r.vw j u e
  ap := fun a b t u l ha hb => by
    rcases tset ha with ⟨_, e, _⟩ | ⟨_, ha⟩
    · cases e
    rcases tset hb with ⟨_, e, _⟩ | ⟨_, hb⟩
    · cases e
    exact r.ap a b t u l ha hb
  av := fun a b t u l ha hb => by
    rcases tset ha with ⟨_, e, _⟩ | ⟨_, ha⟩
    · cases e
    rcases tset hb with ⟨_, e, _⟩ | ⟨_, hb⟩
    · cases e
    exact r.av a b t u l ha hb
theorem sat_unique {σ : St} {i : Nat} {v w : V} (h : SAt σ i v) (g : SAt σ i w) : v = w := by
  unfold SAt at h g
  rw [h] at g; exact Option.some.inj (Option.some.inj g)
theorem set_same {σ : St} {i : Nat} {v : V} (h : SAt σ i v) : σ.set i (some v) = σ := by
  apply List.ext_getElem?
  intro j
  rw [List.getElem?_set]
  by_cases e : i = j
  · subst e
    rw [if_pos rfl, if_pos (List.getElem?_eq_some_iff.mp h).1]; exact h.symm
  · rw [if_neg e]
theorem Rp.fixS {i : Nat} {t : Tr} (r : Rp B F H σ τ) (h : TAt τ i (.own t)) : ∃ F2 l, SAt σ i (.ref l) ∧ Same F F2 ∧ Rp B F2 H σ (τ.set i (.fz t)) ∧ Is B.K F2 (.ref l) t ∧ ∀ p, p ≠ l → F2 p = F p := by
  obtain ⟨l, e, g, n, n0⟩ := r.ow i t h
  obtain ⟨o, ho, mb⟩ := g.mb
  have r1 : Rp B F H σ (τ.set i .no) := r.forget
  have r2 := r1.fixA ho n n0 (fun j u hj hs => by
    rcases hj with hj | hj
    · rcases tset hj with ⟨_, z, _⟩ | ⟨nj, hj⟩
      · cases z
      · exact r.ap i j t u l h hj (fun z => nj z.symm) e hs
    · rcases tset hj with ⟨_, z, _⟩ | ⟨nj, hj⟩
      · cases z
      · exact r.av i j t u l h hj e hs)
  have hi : Is B.K (upd F l o) (.ref l) t := g.is (Same.new n o) (by rw [upd_same, ho])
  have r3 := r2.setF (i := i) hi
  rw [set_same e, List.set_set] at r3
  exact ⟨_, l, e, Same.new n o, r3, hi, fun p hp => upd_ne hp⟩
theorem asF_ok {v : V} {k : Kd} {S : Tr → TSt → Prop} (f : Fr B σ τ F H τ1 F1 H1) (r : Rp B F1 H1 σ τ1) (ok : KdOk B F1 H1 σ τ1 v k) (nk : NewK H v k) (h : AsF k τ1 S) : ∃ F2 t τ2, Fr B σ τ F H τ2 F2 H1 ∧ Rp B F2 H1 σ τ2 ∧ Is B.K F2 v t ∧ S t τ2 ∧ Same F1 F2 := by
  cases k with
  | fz t => exact ⟨F1, t, τ1, f, r, ok, h, Same.refl _⟩
  | nw t =>
    obtain ⟨l, rfl, g, n, n0, ne⟩ := ok
    obtain ⟨o, ho, mb⟩ := g.mb
    refine ⟨upd F1 l o, t, τ1, ⟨f.f.trans (Same.new n o), fun p q hp nw no => ?_, f.o, f.h⟩, r.fixA ho n n0 ne, g.is (Same.new n o) (by rw [upd_same, ho]), h, Same.new n o⟩
    obtain ⟨h1, h2⟩ := f.k p q hp nw no
    refine ⟨h1, fun mb z => ?_⟩
    have : p ≠ l := fun e => by rw [e, nk l rfl] at hp; cases hp
    rw [upd_ne this]; exact h2 mb z
  | sl i =>
    rcases h with ⟨t, ht, hs⟩ | ⟨t, ht, hs⟩
    · obtain ⟨F2, l, e, sF, r2, hi, ne⟩ := r.fixS ht
      cases sat_unique e ok
      refine ⟨F2, t, _, ⟨f.f.trans sF, fun p q hp nw no => ?_, fun j u hj => ?_, f.h⟩, r2, hi, hs, sF⟩
      · obtain ⟨h1, h2⟩ := f.k p q hp nw no
        refine ⟨h1, fun mb z => ?_⟩
        obtain ⟨u, hu⟩ := f.o i t ht
        have : p ≠ l := fun e' => no i u hu (by rw [e']; exact e)
        rw [ne p this]; exact h2 mb z
      · rcases tset hj with ⟨_, z, _⟩ | ⟨_, hj⟩
        · cases z
        · exact f.o j u hj
    · obtain ⟨w, e, hi⟩ := r.fz i t ht
      cases sat_unique e ok
      exact ⟨F1, t, τ1, f, r, hi, hs, Same.refl _⟩
  | wd => exact h.elim
theorem pnd_ok {v : V} {k : Kd} {S : TK} (f : Fr B σ τ F H τ1 F1 H1) (r : Rp B F1 H1 σ τ1) (ok : KdOk B F1 H1 σ τ1 v k) (nk : NewK H v k) (h : Pnd k τ1 S) : ∃ F2 k', Fr B σ τ F H τ1 F2 H1 ∧ Rp B F2 H1 σ τ1 ∧ PdOk B.K F2 σ v k' ∧ S k' τ1 ∧ Same F1 F2 := by
  cases k with
  | fz t => exact ⟨F1, .fz t, f, r, ok, h, Same.refl _⟩
  | nw t =>
    obtain ⟨F2, t2, τ2, f2, r2, i2, ⟨s2, rfl, rfl⟩, sF⟩ := asF_ok (S := fun t' τ' => S (.fz t') τ' ∧ t' = t ∧ τ' = τ1) f r ok nk ⟨h, rfl, rfl⟩
    exact ⟨F2, _, f2, r2, (show PdOk B.K F2 σ v (.fz _) from i2), s2, sF⟩
  | sl i => exact ⟨F1, .sl i, f, r, ok, h, Same.refl _⟩
  | wd => exact h.elim
end
end L2

namespace L2
open PySem PySem.Spec PyProof.Rows
inductive Gt {α : Type} : List α → Nat → α → Prop
  | here {v : α} {r : List α} : Gt (v :: r) 0 v
  | next {x v : α} {r : List α} {i : Nat} : Gt r i v → Gt (x :: r) (i + 1) v
theorem Gt.eq {α : Type} {σ : List α} {i : Nat} {v : α} (h : Gt σ i v) : σ[i]? = some v := by
  induction h with
  | here => rfl
  | next _ ih => rw [List.getElem?_cons_succ, ih]
inductive Sto {α : Type} : List α → Nat → α → List α → Prop
  | here {x v : α} {r : List α} : Sto (x :: r) 0 v (v :: r)
  | next {x v : α} {r r' : List α} {i : Nat} : Sto r i v r' → Sto (x :: r) (i + 1) v (x :: r')
theorem Sto.eq {α : Type} {σ σ' : List α} {i : Nat} {v : α} (h : Sto σ i v σ') : σ.set i v = σ' := by
  induction h with
  | here => rfl
  | next _ ih => rw [List.set_cons_succ, ih]
inductive Rk (τ : TSt) : Kd → Tr → Prop
  | fz {t : Tr} : Rk τ (.fz t) t
  | own {i : Nat} {t : Tr} : Gt τ i (.own t) → Rk τ (.sl i) t
  | vw {i : Nat} {t : Tr} : Gt τ i (.vw t) → Rk τ (.sl i) t
  | sfz {i : Nat} {t : Tr} : Gt τ i (.fz t) → Rk τ (.sl i) t
section
variable {B : Bk} {F H : Hp} {σ : St} {τ : TSt}
theorem Rk.list {v : V} {k : Kd} {ts : List Tr} (h : Rk τ k (.lst ts)) (r : Rp B F H σ τ) (ok : PdOk B.K F σ v k) : ∃ p vs, v = .ref p ∧ SqL B.K H p vs ∧ IsL B.K F vs ts := by
  cases h with
  | fz =>
    cases ok with
    | lst a b => exact ⟨_, _, rfl, r.inc.seq a, b⟩
  | own g =>
    obtain ⟨l, e, hw, _⟩ := r.ow _ _ g.eq
    cases sat_unique e ok
    cases hw with
    | lst a b => exact ⟨_, _, rfl, SqL.of a, b⟩
  | vw g =>
    obtain ⟨l, e, hw, _⟩ := r.vw _ _ g.eq
    cases sat_unique e ok
    cases hw with
    | lst a b => exact ⟨_, _, rfl, SqL.of a, b⟩
  | sfz g =>
    obtain ⟨w, e, hi⟩ := r.fz _ _ g.eq
    cases sat_unique e ok
    cases hi with
    | lst a b => exact ⟨_, _, rfl, r.inc.seq a, b⟩
theorem Rk.tuple {v : V} {k : Kd} {ts : List Tr} (h : Rk τ k (.tup ts)) (r : Rp B F H σ τ) (ok : PdOk B.K F σ v k) : ∃ p vs, v = .ref p ∧ SqT B.K H p vs ∧ IsL B.K F vs ts := by
  cases h with
  | fz =>
    cases ok with
    | tup a b => exact ⟨_, _, rfl, r.inc.tup a, b⟩
  | own g =>
    obtain ⟨l, e, hw, _⟩ := r.ow _ _ g.eq
    cases hw
  | vw g =>
    obtain ⟨l, e, hw, _⟩ := r.vw _ _ g.eq
    cases hw
  | sfz g =>
    obtain ⟨w, e, hi⟩ := r.fz _ _ g.eq
    cases sat_unique e ok
    cases hi with
    | tup a b => exact ⟨_, _, rfl, r.inc.tup a, b⟩
theorem Rk.dict {v : V} {k : Kd} {ts : List (Key × Tr)} (h : Rk τ k (.dct ts)) (r : Rp B F H σ τ) (ok : PdOk B.K F σ v k) : ∃ p kvs, v = .ref p ∧ H p = some (.dK kvs) ∧ kvs.map (·.1) = ts.map (·.1) ∧ IsL B.K F (kvs.map (·.2)) (ts.map (·.2)) := by
  cases h with
  | fz =>
    cases ok with
    | dct a b c => exact ⟨_, _, rfl, r.inc _ _ a, b, c⟩
  | own g =>
    obtain ⟨l, e, hw, _⟩ := r.ow _ _ g.eq
    cases sat_unique e ok
    cases hw with
    | dct a b c => exact ⟨_, _, rfl, a, b, c⟩
  | vw g =>
    obtain ⟨l, e, hw, _⟩ := r.vw _ _ g.eq
    cases sat_unique e ok
    cases hw with
    | dct a b c => exact ⟨_, _, rfl, a, b, c⟩
  | sfz g =>
    obtain ⟨w, e, hi⟩ := r.fz _ _ g.eq
    cases sat_unique e ok
    cases hi with
    | dct a b c => exact ⟨_, _, rfl, r.inc _ _ a, b, c⟩
end
section
variable {B : Bk} {τ τ' : TSt} {Φ : TK} {te ta tb tc : TE} {k : Nat} {t : Tr} {i j : Int} {x y : Kd} {b : Bool} {c d : TT} {Ψ : Bool → TSt → Prop}
theorem p_fz {S : TK} (h : S (.fz t) τ) : Pnd (.fz t) τ S := h
theorem p_nw {S : TK} (h : S (.fz t) τ) : Pnd (.nw t) τ S := h
theorem p_sl {S : TK} (h : S (.sl k) τ) : Pnd (.sl k) τ S := h
theorem as_fz {S : Tr → TSt → Prop} (h : S t τ) : AsF (.fz t) τ S := h
theorem as_nw {S : Tr → TSt → Prop} (h : S t τ) : AsF (.nw t) τ S := h
theorem as_own {S : Tr → TSt → Prop} (g : Gt τ k (.own t)) (s : Sto τ k (.fz t) τ') (h : S t τ') : AsF (.sl k) τ S := .inl ⟨t, g.eq, by rw [s.eq]; exact h⟩
theorem as_sfz {S : Tr → TSt → Prop} (g : Gt τ k (.fz t)) (h : S t τ) : AsF (.sl k) τ S := .inr ⟨t, g.eq, h⟩
theorem CT.pl {F H : Hp} {σ : St} {Q : VK} {v : V} (c : CT B σ τ F H Φ Q) (r : Rp B F H σ τ) (h : Is B.K F v t) (φ : Φ (.fz t) τ) : Q v H := c v F H (.fz t) τ Fr.refl r h trivial φ
theorem e_var (g : Gt τ k (.fz t)) (q : Φ (.fz t) τ) : EV B (tVar k) τ Φ := fun σ F H Q r c => by
  obtain ⟨v, e, h⟩ := r.fz _ _ g.eq
  exact ⟨v, e, c.pl r h q⟩
theorem e_varO (g : Gt τ k (.own t)) (q : Φ (.sl k) τ) : EV B (tVar k) τ Φ := fun σ F H Q r c => by
  obtain ⟨l, e, h⟩ := r.ow _ _ g.eq
  exact ⟨_, e, c _ F H (.sl k) τ Fr.refl r e trivial q⟩
theorem e_varV (g : Gt τ k (.vw t)) (q : Φ (.sl k) τ) : EV B (tVar k) τ Φ := fun σ F H Q r c => by
  obtain ⟨l, e, h⟩ := r.vw _ _ g.eq
  exact ⟨_, e, c _ F H (.sl k) τ Fr.refl r e trivial q⟩
theorem e_varW (g : Gt τ k .wd) (q : Φ .wd τ) : EV B (tVar k) τ Φ := fun σ F H Q r c => by
  have e := r.wd _ g.eq
  exact ⟨_, e, c _ F H .wd τ Fr.refl r rfl trivial q⟩
theorem e_cI (q : Φ (.fz (.int i)) τ) : EV B (tC (.int i)) τ Φ := fun _ _ _ _ r c => c.pl r .int q
theorem e_cB (q : Φ (.fz (.bl b)) τ) : EV B (tC (.bl b)) τ Φ := fun _ _ _ _ r c => c.pl r .bl q
theorem e_cN (q : Φ (.fz .non) τ) : EV B (tC .non) τ Φ := fun _ _ _ _ r c => c.pl r .non q
theorem e_cS {z : Str} (q : Φ (.fz (.str z)) τ) : EV B (tC (.str z)) τ Φ := fun _ _ _ _ r c => c.pl r .str q
theorem e_cT {z : String} (q : Φ (.fz (.ty z)) τ) : EV B (tC (.ty z)) τ Φ := fun _ _ _ _ r c => c.pl r .ty q
noncomputable def RO (B : Bk) (r : R2) (x y : Kd) (τ : TSt) (Φ : TK) : Prop := ∀ σ F H v w Q, Rp B F H σ τ → PdOk B.K F σ v x → PdOk B.K F σ w y → CT B σ τ F H Φ Q → r v w H Q
theorem e_op {r : R2} (h : EV B ta τ fun x τ1 => Pnd x τ1 fun x τ1 => EV B tb τ1 fun y τ2 => Pnd y τ2 fun y τ2 => RO B r x y τ2 Φ) : EV B (tOp r ta tb) τ Φ := fun σ F H Q rp c => by
  refine h σ F H _ rp fun v F1 H1 k τ1 f1 r1 ok1 n1 h1 => ?_
  obtain ⟨F2, k', f2, r2, ok2, h2, _⟩ := pnd_ok f1 r1 ok1 n1 h1
  refine h2 σ F2 H1 _ r2 fun w F3 H3 k3 τ3 f3 r3 ok3 n3 h3 => ?_
  obtain ⟨F4, k4, f4, r4, ok4, h4, _⟩ := pnd_ok f3 r3 ok3 n3 h3
  exact h4 σ F4 H3 v w Q r4 (ok2.same f4.f) ok4 (c.on (f2.trans f4))
noncomputable def RU (B : Bk) (r : V → Hp → VK → Prop) (x : Kd) (τ : TSt) (Φ : TK) : Prop := ∀ σ F H v Q, Rp B F H σ τ → PdOk B.K F σ v x → CT B σ τ F H Φ Q → r v H Q
theorem e_un {r : V → Hp → VK → Prop} (h : EV B ta τ fun x τ1 => Pnd x τ1 fun x τ1 => RU B r x τ1 Φ) : EV B (tUn r ta) τ Φ := fun σ F H Q rp c => by
  refine h σ F H _ rp fun v F1 H1 k τ1 f1 r1 ok1 n1 h1 => ?_
  obtain ⟨F2, k', f2, r2, ok2, h2, _⟩ := pnd_ok f1 r1 ok1 n1 h1
  exact h2 σ F2 H1 v Q r2 ok2 (c.on f2)
theorem pd_int {K : PySem.W.Frag} {F : Hp} {σ : St} {v : V} (h : PdOk K F σ v (.fz (.int i))) : v = .int i := by cases h; rfl
theorem pd_bl {K : PySem.W.Frag} {F : Hp} {σ : St} {v : V} (h : PdOk K F σ v (.fz (.bl b))) : v = .bl b := by cases h; rfl
theorem pd_str {K : PySem.W.Frag} {F : Hp} {σ : St} {v : V} {z : Str} (h : PdOk K F σ v (.fz (.str z))) : v = .str z := by cases h; rfl
theorem pd_non {K : PySem.W.Frag} {F : Hp} {σ : St} {v : V} (h : PdOk K F σ v (.fz .non)) : v = .non := by cases h; rfl
theorem ro_I {C : Int → Int → Prop} {g : Int → Int → Int} (hc : C i j) (q : Φ (.fz (.int (g i j))) τ) : RO B (rI C fun i j => .int (g i j)) (.fz (.int i)) (.fz (.int j)) τ Φ := fun _ _ _ _ _ _ r a b c => by
  cases pd_int a; cases pd_int b
  exact ⟨i, j, rfl, rfl, hc, c.pl r .int q⟩
theorem ro_IB {C : Int → Int → Prop} {g : Int → Int → Bool} (hc : C i j) (q : Φ (.fz (.bl (g i j))) τ) : RO B (rI C fun i j => .bl (g i j)) (.fz (.int i)) (.fz (.int j)) τ Φ := fun _ _ _ _ _ _ r a b c => by
  cases pd_int a; cases pd_int b
  exact ⟨i, j, rfl, rfl, hc, c.pl r .bl q⟩
theorem ro_I0 {g : Int → Int → Int} (q : Φ (.fz (.int (g i j))) τ) : RO B (rI0 fun i j => .int (g i j)) (.fz (.int i)) (.fz (.int j)) τ Φ := fun _ _ _ _ _ _ r a b c => by
  cases pd_int a; cases pd_int b
  exact ⟨i, j, rfl, rfl, c.pl r .int q⟩
theorem ro_I0B {g : Int → Int → Bool} (q : Φ (.fz (.bl (g i j))) τ) : RO B (rI0 fun i j => .bl (g i j)) (.fz (.int i)) (.fz (.int j)) τ Φ := fun _ _ _ _ _ _ r a b c => by
  cases pd_int a; cases pd_int b
  exact ⟨i, j, rfl, rfl, c.pl r .bl q⟩
theorem ru_U {g : Int → Int} (q : Φ (.fz (.int (g i))) τ) : RU B (rU fun i => .int (g i)) (.fz (.int i)) τ Φ := fun _ _ _ _ _ r a c => by
  cases pd_int a
  exact ⟨i, rfl, c.pl r .int q⟩
theorem ro_EqI (q : Φ (.fz (.bl (decide (i = j)))) τ) : RO B rEq (.fz (.int i)) (.fz (.int j)) τ Φ := fun _ _ _ _ _ _ r a b c => by
  cases pd_int a; cases pd_int b
  exact z_EqI (c.pl r .bl q)
theorem ro_NeI (q : Φ (.fz (.bl (!decide (i = j)))) τ) : RO B rNe (.fz (.int i)) (.fz (.int j)) τ Φ := fun _ _ _ _ _ _ r a b c => by
  cases pd_int a; cases pd_int b
  exact z_NeI (c.pl r .bl q)
theorem ro_EqS {z u : Str} (q : Φ (.fz (.bl (decide (z = u)))) τ) : RO B rEq (.fz (.str z)) (.fz (.str u)) τ Φ := fun _ _ _ _ _ _ r a b c => by
  cases pd_str a; cases pd_str b
  exact z_EqS (c.pl r .bl q)
theorem ro_NeS {z u : Str} (q : Φ (.fz (.bl (!decide (z = u)))) τ) : RO B rNe (.fz (.str z)) (.fz (.str u)) τ Φ := fun _ _ _ _ _ _ r a b c => by
  cases pd_str a; cases pd_str b
  exact z_NeS (c.pl r .bl q)
theorem ro_NeB {b1 b2 : Bool} (q : Φ (.fz (.bl (!decide (b1 = b2)))) τ) : RO B rNe (.fz (.bl b1)) (.fz (.bl b2)) τ Φ := fun _ _ _ _ _ _ r a b c => by
  cases pd_bl a; cases pd_bl b
  exact z_NeB (c.pl r .bl q)
theorem ro_EqB {b1 b2 : Bool} (q : Φ (.fz (.bl (decide (b1 = b2)))) τ) : RO B rEq (.fz (.bl b1)) (.fz (.bl b2)) τ Φ := fun _ _ _ _ _ _ r a b c => by
  cases pd_bl a; cases pd_bl b
  exact z_EqB (c.pl r .bl q)
theorem ro_isB {b1 b2 : Bool} (q : Φ (.fz (.bl (b1 == b2))) τ) : RO B rIsB (.fz (.bl b1)) (.fz (.bl b2)) τ Φ := fun _ _ _ _ _ _ r a b c => by
  cases pd_bl a; cases pd_bl b
  exact ⟨b1, b2, rfl, rfl, c.pl r .bl q⟩
theorem ro_notB {b1 b2 : Bool} (q : Φ (.fz (.bl (b1 != b2))) τ) : RO B rNotB (.fz (.bl b1)) (.fz (.bl b2)) τ Φ := fun _ _ _ _ _ _ r a b c => by
  cases pd_bl a; cases pd_bl b
  exact ⟨b1, b2, rfl, rfl, c.pl r .bl q⟩
noncomputable def Tr.isN : Tr → Bool
  | .non => true
  | _ => false
theorem is_non {K : PySem.W.Frag} {F : Hp} {v : V} (h : Is K F v t) : decide (v = .non) = t.isN := by cases h <;> rfl
theorem ro_isN (q : Φ (.fz (.bl t.isN)) τ) : RO B rIsN (.fz t) (.fz .non) τ Φ := fun _ _ _ v _ _ r a b c => by
  cases pd_non b
  refine ⟨rfl, ?_⟩
  rw [is_non (show Is B.K _ v t from a)]
  exact c.pl r .bl q
theorem ro_notN (q : Φ (.fz (.bl (!t.isN))) τ) : RO B rNotN (.fz t) (.fz .non) τ Φ := fun _ _ _ v _ _ r a b c => by
  cases pd_non b
  refine ⟨rfl, ?_⟩
  rw [is_non (show Is B.K _ v t from a)]
  exact c.pl r .bl q
theorem isl_at {K : PySem.W.Frag} {F : Hp} {vs : List V} {ts : List Tr} (h : IsL K F vs ts) (e : atI ts i = some t) : ∃ v, atI vs i = some v ∧ Is K F v t := by
  unfold atI at e ⊢
  rw [h.length]
  cases hx : ixN ts.length i with
  | none => rw [hx] at e; cases e
  | some n =>
    rw [hx] at e
    exact h.get e
theorem ro_ixL {K : PySem.W.Frag} {ts : List Tr} (hK : K = B.K) (rk : Rk τ x (.lst ts)) (e : atI ts i = some t) (q : Φ (.fz t) τ) : RO B (rIxL K) x (.fz (.int i)) τ Φ := fun _ _ _ _ _ _ r a b c => by
  subst hK
  cases pd_int b
  obtain ⟨p, vs, rfl, s, l⟩ := rk.list r a
  obtain ⟨w, ew, hw⟩ := isl_at l e
  exact ⟨p, vs, i, w, rfl, rfl, s, ew, c.pl r hw q⟩
theorem ro_ixT {K : PySem.W.Frag} {ts : List Tr} (hK : K = B.K) (rk : Rk τ x (.tup ts)) (e : atI ts i = some t) (q : Φ (.fz t) τ) : RO B (rIxT K) x (.fz (.int i)) τ Φ := fun _ _ _ _ _ _ r a b c => by
  subst hK
  cases pd_int b
  obtain ⟨p, vs, rfl, s, l⟩ := rk.tuple r a
  obtain ⟨w, ew, hw⟩ := isl_at l e
  exact ⟨p, vs, i, w, rfl, rfl, s, ew, c.pl r hw q⟩
theorem t_test (h : EV B te τ fun x τ1 => ∃ b, x = .fz (.bl b) ∧ Ψ b τ1) : TV B (tTest te) τ Ψ := fun σ F H Q r c => by
  refine h σ F H _ r fun v F1 H1 k τ1 f1 r1 ok1 _ ⟨b, e, h1⟩ => ?_
  subst e
  cases ok1
  exact ⟨b, rfl, c b F1 H1 τ1 f1 r1 h1⟩
theorem t_B (h : EV B te τ fun x τ1 => ∃ b, x = .fz (.bl b) ∧ Ψ b τ1) : TV B (tB te) τ Ψ := t_test h
theorem t_ebl {S : Bool → Prop} (q : S b) : ∃ b', Kd.fz (.bl b) = .fz (.bl b') ∧ S b' := ⟨b, rfl, q⟩
theorem TV.on {σ : St} {F H F1 H1 : Hp} {τ1 : TSt} {Q : Bool → Hp → Prop} (c : ∀ b F' H' τ', Fr B σ τ F H τ' F' H' → Rp B F' H' σ τ' → Ψ b τ' → Q b H') (f : Fr B σ τ F H τ1 F1 H1) : ∀ b F' H' τ', Fr B σ τ1 F1 H1 τ' F' H' → Rp B F' H' σ τ' → Ψ b τ' → Q b H' :=
  fun b F' H' τ' f' r h => c b F' H' τ' (f.trans f') r h
theorem t_and (h : TV B c τ fun k τ1 => if k = true then TV B d τ1 Ψ else Ψ false τ1) : TV B (tAnd c d) τ Ψ := fun σ F H Q r k => by
  refine h σ F H _ r fun b F1 H1 τ1 f1 r1 h1 => ?_
  cases b with
  | true => rw [if_pos rfl] at h1 ⊢; exact h1 σ F1 H1 Q r1 (TV.on k f1)
  | false => rw [if_neg Bool.false_ne_true] at h1 ⊢; exact k _ F1 H1 τ1 f1 r1 h1
theorem t_or (h : TV B c τ fun k τ1 => if k = true then Ψ true τ1 else TV B d τ1 Ψ) : TV B (tOr c d) τ Ψ := fun σ F H Q r k => by
  refine h σ F H _ r fun b F1 H1 τ1 f1 r1 h1 => ?_
  cases b with
  | true => rw [if_pos rfl] at h1 ⊢; exact k _ F1 H1 τ1 f1 r1 h1
  | false => rw [if_neg Bool.false_ne_true] at h1 ⊢; exact h1 σ F1 H1 Q r1 (TV.on k f1)
theorem t_not (h : TV B c τ fun k τ1 => Ψ (!k) τ1) : TV B (tNot c) τ Ψ := fun σ F H Q r k => h σ F H _ r fun b F1 H1 τ1 f1 r1 h1 => k _ F1 H1 τ1 f1 r1 h1
theorem e_andV (h : EV B ta τ fun x τ1 => ∃ b, x = .fz (.bl b) ∧ if b = true then EV B tb τ1 Φ else Φ (.fz (.bl false)) τ1) : EV B (tAndV ta tb) τ Φ := fun σ F H Q r c => by
  refine h σ F H _ r fun v F1 H1 k τ1 f1 r1 ok1 _ ⟨b, e, h1⟩ => ?_
  subst e
  cases ok1
  refine ⟨b, rfl, ?_⟩
  cases b with
  | true => rw [if_pos rfl] at h1 ⊢; exact h1 σ F1 H1 Q r1 (c.on f1)
  | false => rw [if_neg Bool.false_ne_true] at h1 ⊢; exact (c.on f1).pl r1 .bl h1
theorem e_orV (h : EV B ta τ fun x τ1 => ∃ b, x = .fz (.bl b) ∧ if b = true then Φ (.fz (.bl true)) τ1 else EV B tb τ1 Φ) : EV B (tOrV ta tb) τ Φ := fun σ F H Q r c => by
  refine h σ F H _ r fun v F1 H1 k τ1 f1 r1 ok1 _ ⟨b, e, h1⟩ => ?_
  subst e
  cases ok1
  refine ⟨b, rfl, ?_⟩
  cases b with
  | true => rw [if_pos rfl] at h1 ⊢; exact (c.on f1).pl r1 .bl h1
  | false => rw [if_neg Bool.false_ne_true] at h1 ⊢; exact h1 σ F1 H1 Q r1 (c.on f1)
theorem e_notV (h : EV B ta τ fun x τ1 => ∃ b, x = .fz (.bl b) ∧ Φ (.fz (.bl (!b))) τ1) : EV B (tNotV ta) τ Φ := fun σ F H Q r c => by
  refine h σ F H _ r fun v F1 H1 k τ1 f1 r1 ok1 _ ⟨b, e, h1⟩ => ?_
  subst e
  cases ok1
  exact ⟨b, rfl, (c.on f1).pl r1 .bl h1⟩
theorem e_if (h : TV B c τ fun k τ1 => if k = true then EV B ta τ1 Φ else EV B tb τ1 Φ) : EV B (tIf c ta tb) τ Φ := fun σ F H Q r k => by
  refine h σ F H _ r fun b F1 H1 τ1 f1 r1 h1 => ?_
  cases b with
  | true => rw [if_pos rfl] at h1 ⊢; exact h1 σ F1 H1 Q r1 (k.on f1)
  | false => rw [if_neg Bool.false_ne_true] at h1 ⊢; exact h1 σ F1 H1 Q r1 (k.on f1)
theorem e_chain {r r' : R2} (h : EV B ta τ fun x τ1 => Pnd x τ1 fun x τ1 => EV B tb τ1 fun y τ2 => Pnd y τ2 fun y τ2 => RO B r x y τ2 fun z τ3 => ∃ b, z = .fz (.bl b) ∧ if b = true then EV B tc τ3 fun w τ4 => Pnd w τ4 fun w τ4 => RO B r' y w τ4 Φ else Φ (.fz (.bl false)) τ3) : EV B (tChain r r' ta tb tc) τ Φ := fun σ F H Q rp c => by
  refine h σ F H _ rp fun v F1 H1 k τ1 f1 r1 ok1 n1 h1 => ?_
  obtain ⟨F2, k', f2, r2, ok2, h2, _⟩ := pnd_ok f1 r1 ok1 n1 h1
  refine h2 σ F2 H1 _ r2 fun w F3 H3 k3 τ3 f3 r3 ok3 n3 h3 => ?_
  obtain ⟨F4, k4, f4, r4, ok4, h4, _⟩ := pnd_ok f3 r3 ok3 n3 h3
  refine h4 σ F4 H3 v w _ r4 (ok2.same f4.f) ok4 fun u F5 H5 k5 τ5 f5 r5 ok5 n5 ⟨b, e, h5⟩ => ?_
  subst e
  cases ok5
  refine ⟨b, rfl, ?_⟩
  have f05 := f2.trans (f4.trans f5)
  cases b with
  | true =>
    rw [if_pos rfl] at h5 ⊢
    refine h5 σ F5 H5 _ r5 fun w6 F6 H6 k6 τ6 f6 r6 ok6 n6 h6 => ?_
    obtain ⟨F7, k7, f7, r7, ok7, h7, _⟩ := pnd_ok f6 r6 ok6 n6 h6
    exact h7 σ F7 H6 w w6 Q r7 ((ok4.same f5.f).same f7.f) ok7 (c.on (f05.trans f7))
  | false => rw [if_neg Bool.false_ne_true] at h5 ⊢; exact (c.on f05).pl r5 .bl h5
theorem a_nil {S : List Tr → TSt → Prop} (q : S [] τ) : EVA B tNil τ S := fun σ F H Q r c => c [] F H [] τ Fr.refl r .nil q
theorem a_ints {S : List Tr → TSt → Prop} {ns : List Int} (q : S (ns.map Tr.int) τ) : EVA B (tInts ns) τ S := fun σ F H Q r c => c _ F H _ τ Fr.refl r (.ofInts ns) q
theorem a_cons {tr : TA} {S : List Tr → TSt → Prop} (h : EV B te τ fun x τ1 => AsF x τ1 fun t τ2 => EVA B tr τ2 fun ts τ3 => S (t :: ts) τ3) : EVA B (tCons te tr) τ S := fun σ F H Q r c => by
  refine h σ F H _ r fun v F1 H1 k τ1 f1 r1 ok1 n1 h1 => ?_
  obtain ⟨F2, t, τ2, f2, r2, i2, h2, _⟩ := asF_ok f1 r1 ok1 n1 h1
  exact h2 σ F2 H1 _ r2 fun vs F3 H3 ts τ3 f3 r3 l3 h3 => c _ F3 H3 _ τ3 (f2.trans f3) r3 (.cons (i2.same f3.f) l3) h3
theorem e_tup {tA : TA} (h : EVA B tA τ fun ts τ1 => ts.length ≤ 1000 ∧ Φ (.fz (.tup ts)) τ1) : EV B (tTup tA) τ Φ := fun σ F H Q r c => by
  refine h σ F H _ r fun vs F1 H1 ts τ1 f1 r1 l1 ⟨hl, h1⟩ => ⟨by rw [l1.length]; exact Nat.le_trans hl (by decide), fun p hp => ?_⟩
  have u := r1.tup (vs := vs) hp
  exact c _ _ _ (.fz (.tup ts)) τ1 (f1.trans (Fr.up u)) (r1.go u) (Is.tup (SqT.of upd_same) (l1.same u.f)) trivial h1
theorem nw_new {F H : Hp} {σ : St} {vs : List V} {ts : List Tr} {p : Addr} (r : Rp B F H σ τ) (l : IsL B.K F vs ts) (hp : H p = none) : KdOk B F (upd H p (.lst vs)) σ τ (.ref p) (.nw (.lst ts)) := by
  refine ⟨p, rfl, .lst upd_same l, r.inc.free hp, r.up.w p hp, fun i u h e => ?_⟩
  rcases h with h | h
  · obtain ⟨l', e', g, _⟩ := r.ow i u h
    obtain ⟨o, ho, _⟩ := g.mb
    have := sat_unique e' e
    cases this
    rw [hp] at ho; cases ho
  · obtain ⟨l', e', g, _⟩ := r.vw i u h
    obtain ⟨o, ho, _⟩ := g.mb
    have := sat_unique e' e
    cases this
    rw [hp] at ho; cases ho
theorem CT.nl {F H : Hp} {σ : St} {Q : VK} {vs : List V} {ts : List Tr} {p : Addr} (c : CT B σ τ F H Φ Q) (r : Rp B F H σ τ) (l : IsL B.K F vs ts) (hp : H p = none) (φ : Φ (.nw (.lst ts)) τ) : Q (.ref p) (upd H p (.lst vs)) :=
  c _ F _ (.nw (.lst ts)) τ (Fr.up (r.new hp)) (r.go (r.new hp)) (nw_new r l hp) (fun l e => by cases e; exact hp) φ
theorem CT.nt {F H : Hp} {σ : St} {Q : VK} {vs : List V} {ts : List Tr} {p : Addr} (c : CT B σ τ F H Φ Q) (r : Rp B F H σ τ) (l : IsL B.K F vs ts) (hp : H p = none) (φ : Φ (.fz (.tup ts)) τ) : Q (.ref p) (upd H p (.tup vs)) := by
  have u := r.tup (vs := vs) hp
  exact c _ _ _ (.fz (.tup ts)) τ (Fr.up u) (r.go u) (Is.tup (SqT.of upd_same) (l.same u.f)) trivial φ
theorem e_lst {tA : TA} (h : EVA B tA τ fun ts τ1 => ts.length ≤ 1000 ∧ Φ (.nw (.lst ts)) τ1) : EV B (tLst tA) τ Φ := fun σ F H Q r c => by
  refine h σ F H _ r fun vs F1 H1 ts τ1 f1 r1 l1 ⟨hl, h1⟩ => ⟨by rw [l1.length]; exact Nat.le_trans hl (by decide), fun p hp => ?_⟩
  exact (c.on f1).nl r1 l1 hp h1
theorem e_cb1 {r : List V → Hp → VK → Prop} (h : EV B te τ fun x τ1 => Pnd x τ1 fun x τ1 => RU B (fun v H Q => r [v] H Q) x τ1 Φ) : EV B (tCB r (tCons te tNil)) τ Φ := fun σ F H Q rp c => by
  refine h σ F H _ rp fun v F1 H1 k τ1 f1 r1 ok1 n1 h1 => ?_
  obtain ⟨F2, k', f2, r2, ok2, h2, _⟩ := pnd_ok f1 r1 ok1 n1 h1
  exact h2 σ F2 H1 v Q r2 ok2 (c.on f2)
theorem e_cb2 {r : List V → Hp → VK → Prop} (h : EV B ta τ fun x τ1 => Pnd x τ1 fun x τ1 => EV B tb τ1 fun y τ2 => Pnd y τ2 fun y τ2 => RO B (fun v w H Q => r [v, w] H Q) x y τ2 Φ) : EV B (tCB r (tCons ta (tCons tb tNil))) τ Φ := fun σ F H Q rp c => by
  refine h σ F H _ rp fun v F1 H1 k τ1 f1 r1 ok1 n1 h1 => ?_
  obtain ⟨F2, k', f2, r2, ok2, h2, _⟩ := pnd_ok f1 r1 ok1 n1 h1
  refine h2 σ F2 H1 _ r2 fun w F3 H3 k3 τ3 f3 r3 ok3 n3 h3 => ?_
  obtain ⟨F4, k4, f4, r4, ok4, h4, _⟩ := pnd_ok f3 r3 ok3 n3 h3
  exact h4 σ F4 H3 v w Q r4 (ok2.same f4.f) ok4 (c.on (f2.trans f4))
noncomputable def OV (B : Bk) (to : TO) (τ : TSt) (Φ : Option Int → TSt → Prop) : Prop := ∀ σ F H (Q : Option Int → Hp → Prop), Rp B F H σ τ → (∀ b F' H' τ', Fr B σ τ F H τ' F' H' → Rp B F' H' σ τ' → Φ b τ' → Q b H') → to σ H Q
theorem o_no {S : Option Int → TSt → Prop} (q : S none τ) : OV B tNoPart τ S := fun _ F H _ r c => c none F H τ Fr.refl r q
theorem o_part {S : Option Int → TSt → Prop} (h : EV B te τ fun x τ1 => ∃ i, x = .fz (.int i) ∧ S (some i) τ1) : OV B (tPart te) τ S := fun σ F H Q r c => by
  refine h σ F H _ r fun v F1 H1 k τ1 f1 r1 ok1 _ ⟨b, e, h1⟩ => ?_
  subst e
  cases ok1
  exact ⟨b, rfl, c _ F1 H1 τ1 f1 r1 h1⟩
theorem t_eint {S : Int → Prop} (q : S i) : ∃ b', Kd.fz (.int i) = .fz (.int b') ∧ S b' := ⟨i, rfl, q⟩
noncomputable def RSl (B : Bk) (r : V → Option Int → Option Int → Hp → VK → Prop) (x : Kd) (lo hi : Option Int) (τ : TSt) (Φ : TK) : Prop := RU B (fun v H Q => r v lo hi H Q) x τ Φ
theorem e_sl {r : V → Option Int → Option Int → Hp → VK → Prop} {tl th : TO} (h : EV B te τ fun x τ1 => Pnd x τ1 fun x τ1 => OV B tl τ1 fun lo τ2 => OV B th τ2 fun hi τ3 => RSl B r x lo hi τ3 Φ) : EV B (tSl r te tl th) τ Φ := fun σ F H Q rp c => by
  refine h σ F H _ rp fun v F1 H1 k τ1 f1 r1 ok1 n1 h1 => ?_
  obtain ⟨F2, k', f2, r2, ok2, h2, _⟩ := pnd_ok f1 r1 ok1 n1 h1
  refine h2 σ F2 H1 _ r2 fun lo F3 H3 τ3 f3 r3 h3 => ?_
  refine h3 σ F3 H3 _ r3 fun hi F4 H4 τ4 f4 r4 h4 => ?_
  exact h4 σ F4 H4 v Q r4 ((ok2.same f3.f).same f4.f) (c.on (f2.trans (f3.trans f4)))
noncomputable def cutT (xs : List Tr) (lo hi : Option Int) : List Tr := (xs.drop (HT.sIx xs.length 0 lo)).take (HT.sIx xs.length xs.length hi - HT.sIx xs.length 0 lo)
theorem isl_cut {K : PySem.W.Frag} {F : Hp} {vs : List V} {ts : List Tr} {lo hi : Option Int} (h : IsL K F vs ts) : IsL K F (cutV vs lo hi) (cutT ts lo hi) := by
  unfold cutV cutT
  rw [h.length]
  exact (h.drop _).take _
theorem rs_L {K : PySem.W.Frag} {ts : List Tr} {lo hi : Option Int} (hK : K = B.K) (rk : Rk τ x (.lst ts)) (q : Φ (.nw (.lst (cutT ts lo hi))) τ) : RSl B (rSlL K) x lo hi τ Φ := fun _ _ _ _ _ r a c => by
  subst hK
  obtain ⟨p, vs, rfl, s, l⟩ := rk.list r a
  exact ⟨p, vs, rfl, s, fun p' hp => c.nl r (isl_cut l) hp q⟩
end
end L2

namespace L2
open PySem PySem.Spec PyProof.Rows
section
variable {B : Bk} {F H : Hp} {σ : St} {τ τ' : TSt}
theorem Rp.setO {i : Nat} {t t' : Tr} {l : Addr} {o' : HO} (r : Rp B F H σ τ) (h : TAt τ i (.own t)) (e : SAt σ i (.ref l)) (g : Ow B.K F (upd H l o') l t') : Rp B F (upd H l o') σ (τ.set i (.own t')) ∧ Fr B σ τ F H (τ.set i (.own t')) F (upd H l o') := by
  obtain ⟨l', e', g0, n, n0⟩ := r.ow i t h
  cases sat_unique e e'
  have keep : ∀ q, q ≠ l → ∀ o, H q = some o → (upd H l o') q = some o := fun q hq o z => by rw [upd_ne hq]; exact z
  have kx : ∀ q φ, H q = some (.ext φ) → (upd H l o') q = some (.ext φ) := fun q φ z => keep q (fun e => by
    obtain ⟨o, ho, mb⟩ := g0.mb
    rw [e, ho] at z; cases z; exact mb) _ z
  refine ⟨{
    wa := r.wa
    wf := r.wf
    wj := B.jl _ _ (fun q hw => by
      have : q ≠ l := fun e => r.wa q hw (by rw [e]; exact n0)
      rw [upd_ne this]) kx r.wj
    wd := fun j z => by
      rcases tset z with ⟨_, z, _⟩ | ⟨_, z⟩
      · cases z
      · exact r.wd j z
    up := { f := r.up.f, h := fun q o nw z => by
              have : q ≠ l := fun e => by rw [e, n0] at z; cases z
              exact keep q this o (r.up.h q o nw z)
            w := fun q z => r.up.w q (upd_none z)
            x := r.up.x
            j := fun z => B.jl _ _ (fun q hw => by
              have : q ≠ l := fun e => r.wa q hw (by rw [e]; exact n0)
              rw [upd_ne this]) kx r.wj
            i := fun q o z => by
              have : q ≠ l := fun e => by rw [e, n] at z; cases z
              exact keep q this o (r.up.i q o z)
            m := r.up.m }
    len := by rw [List.length_set]; exact r.len
    fz := fun j u z => by
      rcases tset z with ⟨_, z, _⟩ | ⟨_, z⟩
      · cases z
      · exact r.fz j u z
    ow := fun j u z => by
      rcases tset z with ⟨rfl, z, _⟩ | ⟨nj, z⟩
      · cases z; exact ⟨l, e, g, n, n0⟩
      · obtain ⟨l2, a, b, c⟩ := r.ow j u z
        have : l2 ≠ l := fun q => r.ap i j t u l h z (fun q => nj q.symm) e (by rw [← q]; exact a)
        exact ⟨l2, a, b.to (Same.refl _) (keep l2 this), c⟩
    vw := fun j u z => by
      rcases tset z with ⟨_, z, _⟩ | ⟨nj, z⟩
      · cases z
      · obtain ⟨l2, a, b, c⟩ := r.vw j u z
        have : l2 ≠ l := fun q => r.av i j t u l h z e (by rw [← q]; exact a)
        exact ⟨l2, a, b.to (Same.refl _) (keep l2 this), c⟩
    ap := fun a b u w l2 ha hb ne hi hj => by
      obtain ⟨u', ha'⟩ : ∃ u, TAt τ a (.own u) := by
        rcases tset ha with ⟨rfl, _, _⟩ | ⟨_, z⟩
        · exact ⟨_, h⟩
        · exact ⟨_, z⟩
      obtain ⟨w', hb'⟩ : ∃ u, TAt τ b (.own u) := by
        rcases tset hb with ⟨rfl, _, _⟩ | ⟨_, z⟩
        · exact ⟨_, h⟩
        · exact ⟨_, z⟩
      exact r.ap a b u' w' l2 ha' hb' ne hi hj
    av := fun a b u w l2 ha hb hi hj => by
      obtain ⟨u', ha'⟩ : ∃ u, TAt τ a (.own u) := by
        rcases tset ha with ⟨rfl, _, _⟩ | ⟨_, z⟩
        · exact ⟨_, h⟩
        · exact ⟨_, z⟩
      rcases tset hb with ⟨_, z, _⟩ | ⟨_, z⟩
      · cases z
      · exact r.av a b u' w l2 ha' z hi hj }, ?_⟩
  refine ⟨Same.refl _, fun p o hp _ no => ?_, fun j u z => ?_, fun p hp => ?_⟩
  · have : p ≠ l := fun q => no i t h (by rw [q]; exact e)
    exact ⟨keep p this o hp, fun _ z => z⟩
  · rcases tset z with ⟨rfl, _, _⟩ | ⟨_, z⟩
    · exact ⟨_, h⟩
    · exact ⟨_, z⟩
  · by_cases q : p = l
    · rw [q, upd_same] at hp; cases hp
    · rw [upd_ne q] at hp; exact hp
end
section
variable {B : Bk} {τ τ' τ2 : TSt} {Φ : TK} {te ta tb : TE} {i k : Nat} {t u : Tr} {x : Kd} {ts us : List Tr}
noncomputable def tyT (T : String) : Tr → Prop
  | .str _ => T = "str"
  | .lst _ => T = "list"
  | .dct _ => T = "dict"
  | _ => False
noncomputable def TyK (T : String) (x : Kd) (τ : TSt) : Prop := ∃ t, Rk τ x t ∧ tyT T t
theorem TyK.v {F H : Hp} {σ : St} {T : String} {v : V} (h : TyK T x τ) (r : Rp B F H σ τ) (ok : PdOk B.K F σ v x) : tyV B.K T v H := by
  obtain ⟨t, rk, ht⟩ := h
  cases t with
  | lst ts =>
    obtain ⟨p, vs, rfl, s, _⟩ := rk.list r ok
    exact .inl ⟨ht, vs, s⟩
  | dct ts =>
    obtain ⟨p, vs, rfl, s, _⟩ := rk.dict r ok
    exact .inr (.inr (.inl ⟨ht, .inl ⟨vs, s⟩⟩))
  | str z =>
    have : v = .str z := by
      cases rk with
      | fz => cases ok; rfl
      | own g => obtain ⟨l, e, hw, _⟩ := r.ow _ _ g.eq; cases hw
      | vw g => obtain ⟨l, e, hw, _⟩ := r.vw _ _ g.eq; cases hw
      | sfz g =>
        obtain ⟨w, e, hi⟩ := r.fz _ _ g.eq
        cases sat_unique e ok
        cases hi; rfl
    subst this
    exact ht
  | _ => exact ht.elim
noncomputable def RM (B : Bk) (rr : V → List V → Hp → VK → Prop) (x : Kd) (ts : List Tr) (τ : TSt) (Φ : TK) : Prop := ∀ σ F H v vs Q, Rp B F H σ τ → PdOk B.K F σ v x → IsL B.K F vs ts → CT B σ τ F H Φ Q → rr v vs H Q
theorem e_bm {K : PySem.W.Frag} (hK : K = B.K) {T : String} {rr : V → List V → Hp → VK → Prop} {tA : TA} (h : EV B te τ fun x τ1 => Pnd x τ1 fun x τ1 => TyK T x τ1 ∧ EVA B tA τ1 fun ts τ2 => RM B rr x ts τ2 Φ) : EV B (tBM K T rr te tA) τ Φ := fun σ F H Q rp c => by
  subst hK
  refine h σ F H _ rp fun v F1 H1 k τ1 f1 r1 ok1 n1 h1 => ?_
  obtain ⟨F2, k', f2, r2, ok2, ⟨ty, h2⟩, _⟩ := pnd_ok f1 r1 ok1 n1 h1
  refine ⟨ty.v r2 ok2, h2 σ F2 H1 _ r2 fun vs F3 H3 ts τ3 f3 r3 l3 h3 => ?_⟩
  exact h3 σ F3 H3 v vs Q r3 (ok2.same f3.f) l3 (c.on (f2.trans f3))
theorem e_bm0 {K : PySem.W.Frag} (hK : K = B.K) {T : String} {rr : V → List V → Hp → VK → Prop} (h : EV B te τ fun x τ1 => Pnd x τ1 fun x τ1 => TyK T x τ1 ∧ RM B rr x [] τ1 Φ) : EV B (tBM0 K T rr te) τ Φ := fun σ F H Q rp c => by
  subst hK
  refine h σ F H _ rp fun v F1 H1 k τ1 f1 r1 ok1 n1 h1 => ?_
  obtain ⟨F2, k', f2, r2, ok2, ⟨ty, h2⟩, _⟩ := pnd_ok f1 r1 ok1 n1 h1
  exact ⟨ty.v r2 ok2, h2 σ F2 H1 v [] Q r2 ok2 .nil (c.on f2)⟩
theorem ty_list {S : Prop} (rk : Rk τ x (.lst ts)) (q : S) : TyK "list" x τ ∧ S := ⟨⟨_, rk, rfl⟩, q⟩
theorem ty_str {S : Prop} {z : Str} (q : S) : TyK "str" (.fz (.str z)) τ ∧ S := ⟨⟨_, .fz, rfl⟩, q⟩
theorem rm_own {rr : V → List V → Hp → VK → Prop} {ts us : List Tr} {as : List Tr} {res : Tr} (g : Gt τ k (.own (.lst ts))) (st : Sto τ k (.own (.lst us)) τ')
    (h : ∀ (K : PySem.W.Frag) (F H : Hp) (l : Addr) (vs ws : List V) (Q : VK), H l = some (.lst vs) → IsL K F vs ts → IsL K F ws as → (∀ v vs', IsL K F vs' us → Is K F v res → Q v (upd H l (.lst vs'))) → rr (.ref l) ws H Q) (q : Φ (.fz res) τ') : RM B rr (.sl k) as τ Φ := fun σ F H v ws Q r a l c => by
  obtain ⟨l0, e, hw, n, n0⟩ := r.ow _ _ g.eq
  cases sat_unique e a
  cases hw with
  | lst h1 h2 =>
    refine h B.K F H l0 _ ws Q h1 h2 l fun v vs' l' hv => ?_
    obtain ⟨r2, f2⟩ := r.setO g.eq e (.lst upd_same l')
    rw [st.eq] at r2 f2
    exact c _ F _ (.fz res) τ' f2 r2 hv trivial q
theorem rm_append (g : Gt τ k (.own (.lst ts))) (hl : ts.length ≤ 10000) (st : Sto τ k (.own (.lst (ts ++ [t]))) τ') (q : Φ (.fz .non) τ') : RM B rAppend (.sl k) [t] τ Φ :=
  rm_own g st (fun K F H l vs ws Q h1 h2 h3 c => by
    cases h3 with
    | cons a b =>
      cases b
      exact ⟨l, vs, _, rfl, rfl, h1, by rw [h2.length]; exact Nat.lt_of_le_of_lt hl (by decide), c _ _ (h2.snoc a) .non⟩) q
theorem rm_clear (g : Gt τ k (.own (.lst ts))) (st : Sto τ k (.own (.lst [])) τ') (q : Φ (.fz .non) τ') : RM B rClear (.sl k) [] τ Φ :=
  rm_own g st (fun K F H l vs ws Q h1 h2 h3 c => by
    cases h3
    exact ⟨l, vs, rfl, rfl, h1, c _ _ .nil .non⟩) q
theorem rm_reverse (g : Gt τ k (.own (.lst ts))) (st : Sto τ k (.own (.lst ts.reverse)) τ') (q : Φ (.fz .non) τ') : RM B rReverse (.sl k) [] τ Φ :=
  rm_own g st (fun K F H l vs ws Q h1 h2 h3 c => by
    cases h3
    exact ⟨l, vs, rfl, rfl, h1, c _ _ h2.rev .non⟩) q
theorem rm_insert {j : Int} (g : Gt τ k (.own (.lst ts))) (h0 : 0 ≤ j) (h1 : j ≤ ts.length) (hl : ts.length ≤ 10000) (st : Sto τ k (.own (.lst (ts.take j.toNat ++ t :: ts.drop j.toNat))) τ') (q : Φ (.fz .non) τ') : RM B rInsert (.sl k) [.int j, t] τ Φ :=
  rm_own g st (fun K F H l vs ws Q e1 e2 e3 c => by
    cases e3 with
    | cons a b =>
      cases a
      cases b with
      | cons a b =>
        cases b
        exact ⟨l, vs, j, _, rfl, rfl, e1, h0, by rw [e2.length]; exact h1, by rw [e2.length]; exact Nat.lt_of_le_of_lt hl (by decide), c _ _ ((e2.take _).app (.cons a (e2.drop _))) .non⟩) q
inductive Ar where
  | fz (t : Tr) | wd
noncomputable def ArOk (B : Bk) (F : Hp) (v : V) : Ar → Prop
  | .fz t => Is B.K F v t
  | .wd => v = .ref B.rt
inductive ArL (B : Bk) (F : Hp) : List V → List Ar → Prop
  | nil : ArL B F [] []
  | cons {v : V} {a : Ar} {vs : List V} {as : List Ar} : ArOk B F v a → ArL B F vs as → ArL B F (v :: vs) (a :: as)
theorem ArL.length {B : Bk} {F : Hp} : ∀ {vs : List V} {as : List Ar}, ArL B F vs as → vs.length = as.length
  | _, _, .nil => rfl
  | _, _, .cons _ g => congrArg (· + 1) (ArL.length g)
theorem ArOk.same {B : Bk} {F F' : Hp} {v : V} {a : Ar} (s : Same F F') (h : ArOk B F v a) : ArOk B F' v a := by
  cases a with
  | fz t => exact Is.same s h
  | wd => exact h
theorem ArL.get {B : Bk} {F : Hp} : ∀ {vs : List V} {as : List Ar} {i : Nat} {a : Ar}, ArL B F vs as → as[i]? = some a → ∃ v, vs[i]? = some v ∧ ArOk B F v a
  | _, _, _, _, .nil, e => by simp at e
  | _, _, 0, _, .cons h _, e => by simp at e; subst e; exact ⟨_, rfl, h⟩
  | _, _, i + 1, t, .cons _ g, e => by
    obtain ⟨u, h1, h2⟩ := ArL.get (i := i) (a := t) g (by simpa using e)
    exact ⟨u, by simpa using h1, h2⟩
theorem ArL.app {B : Bk} {F : Hp} : ∀ {vs ws : List V} {as bs : List Ar}, ArL B F vs as → ArL B F ws bs → ArL B F (vs ++ ws) (as ++ bs)
  | _, _, _, _, .nil, s => s
  | _, _, _, _, .cons h g, s => .cons h (ArL.app g s)
noncomputable def EVW (B : Bk) (ta : TA) (τ : TSt) (Φ : List Ar → TSt → Prop) : Prop := ∀ σ F H (Q : List V → Hp → Prop), Rp B F H σ τ → (∀ vs F' H' as τ', Fr B σ τ F H τ' F' H' → Rp B F' H' σ τ' → ArL B F' vs as → Φ as τ' → Q vs H') → ta σ H Q
noncomputable def AsA (k : Kd) (τ : TSt) (S : Ar → TSt → Prop) : Prop := match k with
  | .wd => S .wd τ
  | .fz t => S (.fz t) τ
  | .nw t => S (.fz t) τ
  | .sl i => (∃ t, TAt τ i (.own t) ∧ S (.fz t) (τ.set i (.fz t))) ∨ ∃ t, TAt τ i (.fz t) ∧ S (.fz t) τ
theorem aa_wd {S : Ar → TSt → Prop} (h : S .wd τ) : AsA .wd τ S := h
theorem aa_fz {S : Ar → TSt → Prop} (h : S (.fz t) τ) : AsA (.fz t) τ S := h
theorem aa_nw {S : Ar → TSt → Prop} (h : S (.fz t) τ) : AsA (.nw t) τ S := h
theorem aa_own {S : Ar → TSt → Prop} (g : Gt τ k (.own t)) (s : Sto τ k (.fz t) τ') (h : S (.fz t) τ') : AsA (.sl k) τ S := as_own (S := fun t τ' => S (.fz t) τ') g s h
theorem aa_sfz {S : Ar → TSt → Prop} (g : Gt τ k (.fz t)) (h : S (.fz t) τ) : AsA (.sl k) τ S := as_sfz (S := fun t τ' => S (.fz t) τ') g h
theorem w_nil {S : List Ar → TSt → Prop} (q : S [] τ) : EVW B tNil τ S := fun σ F H Q r c => c [] F H [] τ Fr.refl r .nil q
theorem w_cons {tr : TA} {S : List Ar → TSt → Prop} (h : EV B te τ fun x τ1 => AsA x τ1 fun a τ2 => EVW B tr τ2 fun as τ3 => S (a :: as) τ3) : EVW B (tCons te tr) τ S := fun σ F H Q r c => by
  refine h σ F H _ r fun v F1 H1 k τ1 f1 r1 ok1 n1 h1 => ?_
  have go : AsF k τ1 (fun t τ2 => EVW B tr τ2 fun as τ3 => S (.fz t :: as) τ3) → tr σ H1 fun vs H2 => Q (v :: vs) H2 := fun h => by
    obtain ⟨F2, t, τ2, f2, r2, i2, h2, _⟩ := asF_ok f1 r1 ok1 n1 h
    exact h2 σ F2 H1 _ r2 fun vs F3 H3 ts τ3 f3 r3 l3 h3 => c _ F3 H3 _ τ3 (f2.trans f3) r3 (.cons (ArOk.same (a := .fz t) f3.f i2) l3) h3
  cases k with
  | wd => exact h1 σ F1 H1 _ r1 fun vs F3 H3 ts τ3 f3 r3 l3 h3 => c _ F3 H3 _ τ3 (f1.trans f3) r3 (.cons (a := .wd) ok1 l3) h3
  | fz t => exact go h1
  | nw t => exact go h1
  | sl i => exact go h1
noncomputable def RetOk (B : Bk) (F H : Hp) (v : V) : Kd → Prop
  | .fz t => Is B.K F v t
  | .nw t => ∃ l, v = .ref l ∧ Ow B.K F H l t ∧ F l = none ∧ B.H0 l = none
  | .sl _ => False
  | .wd => False
abbrev SpT := Bk → List Ar → (Kd → Prop) → (Addr → Prop) → Prop
structure BkOk (B : Bk) : Prop where
  i : Same B.F0 B.H0
  wa : ∀ p, B.W p → B.H0 p ≠ none
  wf : ∀ p, B.W p → B.F0 p = none
  wj : B.J B.H0
noncomputable def toSp (K : PySem.W.Frag) (S : SpT) : Sp := fun vs H Q E => ∃ B as Φ Ψ, B.K = K ∧ B.H0 = H ∧ BkOk B ∧ ArL B B.F0 vs as ∧ S B as Φ Ψ ∧ (∀ v F' H' k, Up B B.F0 H F' H' → RetOk B F' H' v k → Φ k → Q v H') ∧ ∀ C F' H', Up B B.F0 H F' H' → Ψ C → E (.ref C) none H'
theorem toSp_len {K : PySem.W.Frag} {S : SpT} {n : Nat} (hn : ∀ B as Φ Ψ, S B as Φ Ψ → as.length = n) : ∀ vs H Q E, toSp K S vs H Q E → vs.length = n := fun vs H Q E h => by
  obtain ⟨B, as, Φ, Ψ, _, _, _, l, s, _⟩ := h
  rw [l.length]; exact hn B as Φ Ψ s
theorem ret_kd {F H F' H' : Hp} {σ : St} {v : V} {kd : Kd} {B' : Bk} (r : Rp B F H σ τ) (hK : B'.K = B.K) (hH : B'.H0 = H) (h : RetOk B' F' H' v kd) : KdOk B F' H' σ τ v kd ∧ NewK H v kd := by
  cases kd with
  | fz t => exact ⟨by
      have h2 : Is B'.K F' v t := h
      rw [hK] at h2; exact h2, trivial⟩
  | sl i => exact h.elim
  | wd => exact h.elim
  | nw t =>
    obtain ⟨l, rfl, g, n, n0⟩ := h
    rw [hH] at n0
    rw [hK] at g
    refine ⟨⟨l, rfl, g, n, r.up.w l n0, fun i w h e => ?_⟩, fun l' e => by cases e; exact n0⟩
    rcases h with h | h
    · obtain ⟨l', e', g, _⟩ := r.ow i w h
      obtain ⟨o, ho, _⟩ := g.mb
      cases sat_unique e' e
      rw [n0] at ho; cases ho
    · obtain ⟨l', e', g, _⟩ := r.vw i w h
      obtain ⟨o, ho, _⟩ := g.mb
      cases sat_unique e' e
      rw [n0] at ho; cases ho
abbrev Bk.now (B : Bk) (F H : Hp) : Bk := { B with F0 := F, H0 := H }
theorem Up.of_now {F H F1 H1 F' H' : Hp} (u : Up (B.now F1 H1) F H F' H') : Up B F H F' H' := ⟨u.f, u.h, u.i, u.m, u.w, u.x, u.j⟩
theorem Rp.bkok {F H : Hp} {σ : St} (r : Rp B F H σ τ) : BkOk (B.now F H) := ⟨r.inc, fun p hw z => r.wa p hw (r.up.w p z), r.wf, r.wj⟩
theorem ArL.now {F F1 H1 : Hp} : ∀ {vs : List V} {as : List Ar}, ArL B F vs as → ArL (B.now F1 H1) F vs as
  | _, _, .nil => .nil
  | _, _, .cons (a := .fz _) h g => .cons (a := .fz _) h (ArL.now g)
  | _, _, .cons (a := .wd) h g => .cons (a := .wd) h (ArL.now g)
theorem e_callX {K : PySem.W.Frag} (hK : K = B.K) {S : SpT} {E : XK} {tA : TA} {Ψ : Addr → Prop} (hE : ∀ C F H, Up B B.F0 B.H0 F H → Ψ C → E (.ref C) none H) (h : EVW B tA τ fun as τ1 => ∀ F H, S (B.now F H) as (fun k => Φ k τ1) Ψ) : EV B (tCall (toSp K S) [] E tA) τ Φ := fun σ F H Q rp c => by
  subst hK
  unfold tCall
  simp only [List.append_nil]
  refine h σ F H _ rp fun vs F1 H1 as τ1 f1 r1 l1 h1 => ?_
  refine ⟨B.now F1 H1, as, _, _, rfl, rfl, r1.bkok, ?_, h1 F1 H1, fun v F2 H2 kd u ok φ => ?_, fun C F2 H2 u ψ => hE C F2 H2 (r1.up.trans u.of_now) ψ⟩
  · exact l1.now
  obtain ⟨a, b⟩ := ret_kd r1 (B' := B.now F1 H1) rfl rfl ok
  exact c.on f1 v F2 H2 kd τ1 (Fr.up u.of_now) (r1.go u.of_now) (by
    cases kd with
    | nw t => exact ⟨a.choose, a.choose_spec.1, a.choose_spec.2.1, a.choose_spec.2.2⟩
    | _ => exact a) b φ
theorem e_call {K : PySem.W.Frag} (hK : K = B.K) {S : SpT} {E : XK} {tA : TA} (h : EVW B tA τ fun as τ1 => ∀ F H, S (B.now F H) as (fun k => Φ k τ1) fun _ => False) : EV B (tCall (toSp K S) [] E tA) τ Φ := e_callX hK (fun _ _ _ _ z => z.elim) h
end
structure ET where
  nx : TSt → Prop
  rt : Kd → Prop
  bk : TSt → Prop
  ct : TSt → Prop
structure EO (B : Bk) (F : Hp) (D : Ends) (D' : ET) : Prop where
  nx : ∀ σ F' H τ, Same F F' → Rp B F' H σ τ → D'.nx τ → D.nx σ H
  rt : ∀ v F' H k, Up B B.F0 B.H0 F' H → RetOk B F' H v k → D'.rt k → D.rt v H
  bk : ∀ σ F' H τ, Same F F' → Rp B F' H σ τ → D'.bk τ → D.bk σ H
  ct : ∀ σ F' H τ, Same F F' → Rp B F' H σ τ → D'.ct τ → D.ct σ H
noncomputable def SV (B : Bk) (t : TS) (τ : TSt) (D' : ET) : Prop := ∀ σ F H D, Rp B F H σ τ → EO B F D D' → t D σ H
section
variable {B : Bk} {τ τ' τ2 : TSt} {te ta tb : TE} {i k : Nat} {t u : Tr} {x : Kd} {ts us : List Tr} {s1 s2 : TS} {nx bk ct : TSt → Prop} {rt : Kd → Prop} {c : TT}
theorem EO.on {F F1 : Hp} {D : Ends} {D' : ET} (e : EO B F D D') (s : Same F F1) : EO B F1 D D' := ⟨fun σ F' H τ z => e.nx σ F' H τ (s.trans z), e.rt, fun σ F' H τ z => e.bk σ F' H τ (s.trans z), fun σ F' H τ z => e.ct σ F' H τ (s.trans z)⟩
theorem s_seq (h : SV B s1 τ ⟨fun τ1 => SV B s2 τ1 ⟨nx, rt, bk, ct⟩, rt, bk, ct⟩) : SV B (tSeq s1 s2) τ ⟨nx, rt, bk, ct⟩ := fun σ F H D r e => h σ F H _ r ⟨fun σ' F' H' τ' s r' h' => h' σ' F' H' D r' (e.on s), e.rt, e.bk, e.ct⟩
theorem s_next (h : nx τ) : SV B tNext τ ⟨nx, rt, bk, ct⟩ := fun σ F H D r e => e.nx σ F H τ (Same.refl _) r h
theorem s_drop (h : EV B te τ fun _ τ1 => nx τ1) : SV B (tDrop te) τ ⟨nx, rt, bk, ct⟩ := fun σ F H D r e => h σ F H _ r fun v F1 H1 k τ1 f r1 _ _ h1 => e.nx σ F1 H1 τ1 f.f r1 h1
noncomputable def RtK (k : Kd) (τ : TSt) (R : Kd → Prop) : Prop := match k with
  | .fz t => R (.fz t)
  | .nw t => R (.nw t) ∨ R (.fz t)
  | .sl i => (∃ t, TAt τ i (.own t) ∧ (R (.nw t) ∨ R (.fz t))) ∨ ∃ t, TAt τ i (.fz t) ∧ R (.fz t)
  | .wd => False
theorem s_ret (h : EV B te τ fun k τ1 => RtK k τ1 rt) : SV B (tRet te) τ ⟨nx, rt, bk, ct⟩ := fun σ F H D r e => h σ F H _ r fun v F1 H1 k τ1 f r1 ok n h1 => by
  have fixed : ∀ l t, v = .ref l → Ow B.K F1 H1 l t → F1 l = none → B.H0 l = none → rt (.fz t) → D.rt v H1 := fun l t ev g nn n0 h => by
    subst ev
    obtain ⟨o, ho, mb⟩ := g.mb
    refine e.rt _ (upd F1 l o) H1 (.fz t) ⟨r1.up.f.trans (Same.new nn o), r1.up.h, fun q z hz => ?_, fun q z hz mz nz => ?_, r1.up.w, fun q hw nz => ?_, r1.up.j⟩ (g.is (Same.new nn o) (by rw [upd_same, ho])) h
    · by_cases hq : q = l
      · rw [hq, upd_same] at hz; cases hz; rw [hq]; exact ho
      · rw [upd_ne hq] at hz; exact r1.up.i q z hz
    · have : q ≠ l := fun e' => by rw [e', n0] at hz; cases hz
      rw [upd_ne this]; exact r1.up.m q z hz mz nz
    · have : q ≠ l := fun e' => r1.wa q hw (by rw [e']; exact n0)
      rw [upd_ne this]; exact r1.up.x q hw nz
  cases k with
  | fz t => exact e.rt v F1 H1 (.fz t) r1.up ok h1
  | nw t =>
    obtain ⟨l, ev, g, nn, n0, _⟩ := ok
    rcases h1 with h1 | h1
    · exact e.rt v F1 H1 (.nw t) r1.up ⟨l, ev, g, nn, n0⟩ h1
    · exact fixed l t ev g nn n0 h1
  | sl i =>
    rcases h1 with ⟨t, ht, h1⟩ | ⟨t, ht, h1⟩
    · obtain ⟨l, es, g, nn, n0⟩ := r1.ow i t ht
      have ev : v = .ref l := sat_unique ok es
      rcases h1 with h1 | h1
      · exact e.rt v F1 H1 (.nw t) r1.up ⟨l, ev, g, nn, n0⟩ h1
      · exact fixed l t ev g nn n0 h1
    · obtain ⟨w, es, g⟩ := r1.fz i t ht
      cases sat_unique es ok
      exact e.rt v F1 H1 (.fz t) r1.up g h1
  | wd => exact h1.elim
theorem rt_fz {R : Kd → Prop} (h : R (.fz t)) : RtK (.fz t) τ R := h
theorem rt_nw {R : Kd → Prop} (h : R (.nw t)) : RtK (.nw t) τ R := .inl h
theorem rt_sl {R : Kd → Prop} (g : Gt τ k (.own t)) (h : R (.nw t)) : RtK (.sl k) τ R := .inl ⟨t, g.eq, .inl h⟩
theorem rt_sf {R : Kd → Prop} (g : Gt τ k (.own t)) (h : R (.fz t)) : RtK (.sl k) τ R := .inl ⟨t, g.eq, .inr h⟩
theorem s_ifs (h : TV B c τ fun b τ1 => if b = true then SV B s1 τ1 ⟨nx, rt, bk, ct⟩ else SV B s2 τ1 ⟨nx, rt, bk, ct⟩) : SV B (tIfS c s1 s2) τ ⟨nx, rt, bk, ct⟩ := fun σ F H D r e => h σ F H _ r fun b F1 H1 τ1 f r1 h1 => by
  cases b with
  | true => rw [if_pos rfl] at h1 ⊢; exact h1 σ F1 H1 D r1 (e.on f.f)
  | false => rw [if_neg Bool.false_ne_true] at h1 ⊢; exact h1 σ F1 H1 D r1 (e.on f.f)
theorem s_cut (J : TSt → Prop) (h : SV B s1 τ ⟨J, rt, bk, ct⟩) (q : ∀ τ', J τ' → nx τ') : SV B s1 τ ⟨nx, rt, bk, ct⟩ := fun σ F H D r e => h σ F H D r ⟨fun σ F' H τ s r h => e.nx σ F' H τ s r (q τ h), e.rt, e.bk, e.ct⟩
noncomputable def GA (B : Bk) (g : TG) (k : Kd) (τ : TSt) (N : TSt → Prop) : Prop := ∀ σ F H v (S : St → Hp → Prop), Rp B F H σ τ → KdOk B F H σ τ v k → (∀ σ' F' H' τ', Same F F' → Rp B F' H' σ' τ' → N τ' → S σ' H') → g v σ H S
theorem s_asg {g : TG} (h : EV B te τ fun k τ1 => GA B g k τ1 nx) : SV B (tAsg te g) τ ⟨nx, rt, bk, ct⟩ := fun σ F H D r e => h σ F H _ r fun v F1 H1 k τ1 f r1 ok _ h1 => h1 σ F1 H1 v _ r1 ok fun σ' F' H' τ' s r' n => e.nx σ' F' H' τ' (f.f.trans s) r' n
theorem g_fz {N : TSt → Prop} (s : Sto τ k (.fz t) τ') (h : N τ') : GA B (gName k) (.fz t) τ N := fun σ F H v S r ok q => q _ F H τ' (Same.refl _) (by have := r.setF (i := k) ok; rw [s.eq] at this; exact this) h
theorem g_nw {N : TSt → Prop} (s : Sto τ k (.own t) τ') (h : N τ') : GA B (gName k) (.nw t) τ N := fun σ F H v S r ok q => q _ F H τ' (Same.refl _) (by have := r.setN (i := k) ok; rw [s.eq] at this; exact this) h
theorem g_sl {N : TSt → Prop} (g : Gt τ i (.own t)) (s : Sto τ i (.fz t) τ') (s2 : Sto τ' k (.fz t) τ2) (h : N τ2) : GA B (gName k) (.sl i) τ N := fun σ F H v S r ok q => by
  obtain ⟨F2, l, e, sF, r2, hi, _⟩ := r.fixS g.eq
  cases sat_unique e ok
  rw [s.eq] at r2
  have r3 := r2.setF (i := k) hi
  rw [s2.eq] at r3
  exact q _ F2 H τ2 sF r3 h
noncomputable def GAs (B : Bk) (g : TGs) (ts : List Tr) (τ : TSt) (N : TSt → Prop) : Prop := ∀ σ F H vs (S : St → Hp → Prop), Rp B F H σ τ → IsL B.K F vs ts → (∀ σ' F' H' τ', Same F F' → Rp B F' H' σ' τ' → N τ' → S σ' H') → g vs σ H S
theorem g_tup {K : PySem.W.Frag} (hK : K = B.K) {N : TSt → Prop} {n : Nat} {g : TGs} (hl : ts.length = n) (h : GAs B g ts τ N) : GA B (gTup K n g) (.fz (.tup ts)) τ N := fun σ F H v S r ok q => by
  subst hK
  cases (show Is B.K F v (.tup ts) from ok) with
  | tup a b => exact ⟨_, _, rfl, r.inc.tup a, by rw [b.length]; exact hl, h σ F H _ S r b q⟩
theorem gs_nil {N : TSt → Prop} (h : N τ) : GAs B gNil [] τ N := fun σ F H vs S r l q => by
  cases l
  exact ⟨rfl, q σ F H τ (Same.refl _) r h⟩
theorem gs_cons {N : TSt → Prop} {g : TG} {gr : TGs} (h : GA B g (.fz t) τ fun τ1 => GAs B gr ts τ1 N) : GAs B (gCons g gr) (t :: ts) τ N := fun σ F H vs S r l q => by
  cases l with
  | cons a b => exact ⟨_, _, rfl, h σ F H _ _ r a fun σ1 F1 H1 τ1 s1 r1 h1 => h1 σ1 F1 H1 _ S r1 (b.same s1) fun σ' F' H' τ' s' r' n => q σ' F' H' τ' (s1.trans s') r' n⟩
theorem s_par {i j : Nat} {tA : TA} (h : EVA B tA τ fun ts τ1 => ∃ t u τ2 τ3, ts = [t, u] ∧ Sto τ1 i (.fz t) τ2 ∧ Sto τ2 j (.fz u) τ3 ∧ nx τ3) : SV B (tPar i j tA) τ ⟨nx, rt, bk, ct⟩ := fun σ F H D r e => h σ F H _ r fun vs F1 H1 ts τ1 f r1 l ⟨t, u, τ2, τ3, e1, s1, s2, hn⟩ => by
  subst e1
  cases l with
  | cons a b =>
    cases b with
    | cons b z =>
      cases z
      have r2 := r1.setF (i := i) a
      rw [s1.eq] at r2
      have r3 := r2.setF (i := j) b
      rw [s2.eq] at r3
      exact ⟨_, _, rfl, e.nx _ F1 H1 τ3 f.f r3 hn⟩
theorem par2 {i j : Nat} {t u : Tr} {N : TSt → Prop} (s1 : Sto τ i (.fz t) τ') (s2 : Sto τ' j (.fz u) τ2) (h : N τ2) : ∃ t' u' τa τb, [t, u] = [t', u'] ∧ Sto τ i (.fz t') τa ∧ Sto τa j (.fz u') τb ∧ N τb := ⟨t, u, τ', τ2, rfl, s1, s2, h⟩
theorem sto2 {s : Sl} {N : TSt → Prop} (g : Sto τ k s τ') (h : N τ') : ∃ τ2, Sto τ k s τ2 ∧ N τ2 := ⟨τ', g, h⟩
noncomputable def ItOk (B : Bk) (F : Hp) (J : It) (ts : List Tr) : Prop := ∀ σ τ F' H', Same F F' → Rp B F' H' σ τ → (∀ i t, ts[i]? = some t → J.go i H' ∧ ∀ x H2, J.yld i H' x H2 → ∃ F2, Up B F' H' F2 H2 ∧ Is B.K F2 x t) ∧ J.stop ts.length H'
noncomputable def IV (B : Bk) (wi : TI) (τ : TSt) (Φ : List Tr → TSt → Prop) : Prop := ∀ σ F H (R : It → Hp → Prop), Rp B F H σ τ → (∀ J F' H' ts τ', Fr B σ τ F H τ' F' H' → Rp B F' H' σ τ' → ItOk B F' J ts → Φ ts τ' → R J H') → wi σ H R
theorem i_list {K : PySem.W.Frag} (hK : K = B.K) {Φ : List Tr → TSt → Prop} (h : EV B te τ fun x τ1 => AsF x τ1 fun t τ2 => ∃ ts, t = .lst ts ∧ Φ ts τ2) : IV B (iList K te) τ Φ := fun σ F H R r c => by
  subst hK
  refine h σ F H _ r fun v F1 H1 k τ1 f1 r1 ok1 n1 h1 => ?_
  obtain ⟨F2, t, τ2, f2, r2, i2, ⟨ts, e, h2⟩, _⟩ := asF_ok f1 r1 ok1 n1 h1
  subst e
  cases i2 with
  | lst a b =>
    refine ⟨_, rfl, ⟨_, r2.inc.seq a⟩, c _ F2 H1 ts τ2 f2 r2 (fun σ' τ' F' H' sF rH => ⟨fun i t e => ?_, ⟨_, rH.inc.seq (sF.seq a), by rw [b.length]; exact Nat.le_refl _⟩⟩) h2⟩
    obtain ⟨w, ew, hw⟩ := b.get e
    refine ⟨⟨_, w, rH.inc.seq (sF.seq a), ew⟩, fun x H2 y => ?_⟩
    obtain ⟨rfl, y2⟩ := y
    have := y2 _ (rH.inc.seq (sF.seq a))
    rw [ew] at this
    cases this
    exact ⟨F', Up.refl rH.inc, hw.same sF⟩
theorem i_tup {K : PySem.W.Frag} (hK : K = B.K) {Φ : List Tr → TSt → Prop} (h : EV B te τ fun x τ1 => AsF x τ1 fun t τ2 => ∃ ts, t = .tup ts ∧ Φ ts τ2) : IV B (iTup K te) τ Φ := fun σ F H R r c => by
  subst hK
  refine h σ F H _ r fun v F1 H1 k τ1 f1 r1 ok1 n1 h1 => ?_
  obtain ⟨F2, t, τ2, f2, r2, i2, ⟨ts, e, h2⟩, _⟩ := asF_ok f1 r1 ok1 n1 h1
  subst e
  cases i2 with
  | tup a b =>
    refine ⟨_, rfl, ⟨_, r2.inc.tup a⟩, c _ F2 H1 ts τ2 f2 r2 (fun σ' τ' F' H' sF rH => ⟨fun i t e => ?_, ⟨_, rH.inc.tup (sF.tup a), by rw [b.length]; exact Nat.le_refl _⟩⟩) h2⟩
    obtain ⟨w, ew, hw⟩ := b.get e
    refine ⟨⟨_, w, rH.inc.tup (sF.tup a), ew⟩, fun x H2 y => ?_⟩
    obtain ⟨rfl, y2⟩ := y
    have := y2 _ (rH.inc.tup (sF.tup a))
    rw [ew] at this
    cases this
    exact ⟨F', Up.refl rH.inc, hw.same sF⟩
theorem t_lst {S : List Tr → Prop} (q : S ts) : ∃ ts', Tr.lst ts = .lst ts' ∧ S ts' := ⟨ts, rfl, q⟩
theorem t_tup {S : List Tr → Prop} (q : S ts) : ∃ ts', Tr.tup ts = .tup ts' ∧ S ts' := ⟨ts, rfl, q⟩
noncomputable def rangeT (lo : Int) (n : Nat) : List Tr := (List.range n).map fun i => .int (lo + (i : Nat))
theorem rangeT_at {lo : Int} {n i : Nat} {t : Tr} (h : (rangeT lo n)[i]? = some t) : i < n ∧ t = .int (lo + (i : Nat)) := by
  unfold rangeT at h
  rw [List.getElem?_map] at h
  by_cases hi : i < n
  · rw [List.getElem?_range hi] at h; cases h; exact ⟨hi, rfl⟩
  · rw [List.getElem?_eq_none (by rw [List.length_range]; omega)] at h; cases h
theorem rangeT_len {lo : Int} {n : Nat} : (rangeT lo n).length = n := by unfold rangeT; rw [List.length_map, List.length_range]
theorem itr_ok {F : Hp} {lo : Int} {n : Nat} : ItOk B F (Itr lo n) (rangeT lo n) := fun σ' τ' F' H' sF rH => ⟨fun i t e => by
    obtain ⟨hi, rfl⟩ := rangeT_at e
    exact ⟨hi, fun x H2 y => by obtain ⟨rfl, rfl⟩ := y; exact ⟨F', Up.refl rH.inc, .int⟩⟩, by rw [rangeT_len]; exact Nat.le_refl _⟩
theorem i_rng1 {Φ : List Tr → TSt → Prop} (h : EV B te τ fun x τ1 => ∃ j, x = .fz (.int j) ∧ (-(2 ^ 62) ≤ j ∧ j < 2 ^ 62) ∧ Φ (rangeT 0 j.toNat) τ1) : IV B (iRng1 (tCons te tNil)) τ Φ := fun σ F H R r c => by
  refine h σ F H _ r fun v F1 H1 k τ1 f1 r1 ok1 n1 ⟨j, e, hb, h1⟩ => ?_
  subst e
  cases ok1
  exact ⟨j, rfl, hb.1, hb.2, c _ F1 H1 _ τ1 f1 r1 itr_ok h1⟩
theorem i_rng2 {Φ : List Tr → TSt → Prop} (h : EV B ta τ fun x τ1 => ∃ i, x = .fz (.int i) ∧ EV B tb τ1 fun y τ2 => ∃ j, y = .fz (.int j) ∧ (-(2 ^ 62) ≤ i ∧ i < 2 ^ 62 ∧ -(2 ^ 62) ≤ j ∧ j < 2 ^ 62) ∧ Φ (rangeT i (j - i).toNat) τ2) : IV B (iRng2 (tCons ta (tCons tb tNil))) τ Φ := fun σ F H R r c => by
  refine h σ F H _ r fun v F1 H1 k τ1 f1 r1 ok1 n1 ⟨i, e, h1⟩ => ?_
  subst e
  cases ok1
  refine h1 σ F1 H1 _ r1 fun w F2 H2 k2 τ2 f2 r2 ok2 n2 ⟨j, e, hb, h2⟩ => ?_
  subst e
  cases ok2
  exact ⟨i, j, rfl, hb, c _ F2 H2 _ τ2 (f1.trans f2) r2 itr_ok h2⟩
noncomputable def zipT (n : Nat) (ts : List Tr) : List Tr := (List.range ts.length).map fun i => .tup [.int ((n + i : Nat) : Int), ts.getD i .non]
theorem zipT_at {ts : List Tr} {i : Nat} {t : Tr} (h : (zipT 0 ts)[i]? = some t) : ∃ x, ts[i]? = some x ∧ t = .tup [.int (i : Nat), x] := by
  unfold zipT at h
  rw [List.getElem?_map] at h
  by_cases hi : i < ts.length
  · rw [List.getElem?_range hi] at h
    cases h
    refine ⟨ts[i], List.getElem?_eq_getElem hi, ?_⟩
    show Tr.tup [.int ((0 + i : Nat) : Int), ts.getD i .non] = _
    rw [List.getD_eq_getElem?_getD, List.getElem?_eq_getElem hi, Nat.zero_add]
    rfl
  · rw [List.getElem?_eq_none (by rw [List.length_range]; omega)] at h; cases h
theorem zipT_len {n : Nat} {ts : List Tr} : (zipT n ts).length = ts.length := by unfold zipT; rw [List.length_map, List.length_range]
theorem i_enum {K : PySem.W.Frag} (hK : K = B.K) {Φ : List Tr → TSt → Prop} (h : EV B te τ fun x τ1 => AsF x τ1 fun t τ2 => ∃ ts, t = .lst ts ∧ Φ (zipT 0 ts) τ2) : IV B (iEnum K (tCons te tNil)) τ Φ := fun σ F H R r c => by
  subst hK
  refine h σ F H _ r fun v F1 H1 k τ1 f1 r1 ok1 n1 h1 => ?_
  obtain ⟨F2, t, τ2, f2, r2, i2, ⟨ts, e, h2⟩, _⟩ := asF_ok f1 r1 ok1 n1 h1
  subst e
  cases i2 with
  | lst a b =>
    refine ⟨_, rfl, ⟨_, r2.inc.seq a⟩, c _ F2 H1 _ τ2 f2 r2 (fun σ' τ' F' H' sF rH => ⟨fun i t e => ?_, ⟨_, rH.inc.seq (sF.seq a), by rw [b.length, zipT_len]; exact Nat.le_refl _⟩⟩) h2⟩
    obtain ⟨x0, ex, rfl⟩ := zipT_at e
    obtain ⟨w, ew, hw⟩ := b.get ex
    refine ⟨⟨_, w, rH.inc.seq (sF.seq a), ew⟩, ?_⟩
    rintro x H2 ⟨p, y, rfl, hn, hy, rfl⟩
    have := hy _ (rH.inc.seq (sF.seq a))
    rw [ew] at this
    cases this
    have u := rH.tup (vs := [.int (i : Nat), w]) hn
    exact ⟨_, u, .tup (SqT.of upd_same) (.cons .int (.cons ((hw.same sF).same u.f) .nil))⟩
theorem s_for {wi : TI} {g : TG} {tbd : TS} (h : IV B wi τ fun ts τ1 => ∃ I : Nat → TSt → Prop, I 0 τ1 ∧ (∀ i t τ2, ts[i]? = some t → I i τ2 → GA B g (.fz t) τ2 fun τ3 => SV B tbd τ3 ⟨I (i + 1), rt, nx, I (i + 1)⟩) ∧ ∀ τ2, I ts.length τ2 → nx τ2) : SV B (tFor wi g tbd) τ ⟨nx, rt, bk, ct⟩ := fun σ F H D r e => by
  refine h σ F H _ r fun J F1 H1 ts τ1 f1 r1 itk ⟨I, i0, step, fin⟩ => ?_
  refine ⟨fun i m σ H => ∃ F2 τ2, Same F1 F2 ∧ Rp B F2 H σ τ2 ∧ I i τ2 ∧ i ≤ ts.length ∧ m = ts.length - i, ⟨_, F1, τ1, Same.refl _, r1, i0, Nat.zero_le _, rfl⟩, ?_⟩
  rintro i m σ H ⟨F2, τ2, s2, r2, i2, hi, rfl⟩
  obtain ⟨itg, its⟩ := itk σ τ2 F2 H s2 r2
  by_cases hlt : i < ts.length
  · obtain ⟨g1, g2⟩ := itg i ts[i] (List.getElem?_eq_getElem hlt)
    refine .inr ⟨g1, fun σ' H' => ∃ F2 τ2, Same F1 F2 ∧ Rp B F2 H' σ' τ2 ∧ I (i + 1) τ2, fun σ' H' ⟨F2, τ2, a, b, c⟩ => ⟨_, by omega, F2, τ2, a, b, c, hlt, rfl⟩, fun x H3 y => ?_⟩
    obtain ⟨F3, u3, hx⟩ := g2 x H3 y
    refine step i ts[i] τ2 (List.getElem?_eq_getElem hlt) i2 σ F3 H3 x _ (r2.go u3) hx fun σ4 F4 H4 τ4 s4 r4 h4 => ?_
    have s14 := s2.trans (u3.f.trans s4)
    exact h4 σ4 F4 H4 _ r4 ⟨fun σ5 F5 H5 τ5 s5 r5 h5 => ⟨F5, τ5, s14.trans s5, r5, h5⟩, e.rt, fun σ5 F5 H5 τ5 s5 r5 h5 => e.nx σ5 F5 H5 τ5 (f1.f.trans (s14.trans s5)) r5 h5, fun σ5 F5 H5 τ5 s5 r5 h5 => ⟨F5, τ5, s14.trans s5, r5, h5⟩⟩
  · have ei : i = ts.length := by omega
    subst ei
    exact .inl ⟨its, e.nx σ F2 H τ2 (f1.f.trans s2) r2 (fin τ2 i2)⟩
end
end L2

namespace L2
open PySem PySem.Spec PyProof.Rows
noncomputable def slOf : Ar → Sl
  | .fz t => .fz t
  | .wd => .wd
noncomputable def startT (n : Nat) (as : List Ar) : TSt := as.map slOf ++ List.replicate (n - as.length) Sl.no
theorem startT_at {n : Nat} {as : List Ar} {i : Nat} {s : Sl} (h : TAt (startT n as) i s) : (∃ a, s = slOf a ∧ as[i]? = some a) ∨ s = .no := by
  unfold TAt startT at h
  by_cases hi : i < as.length
  · rw [List.getElem?_append_left (by rw [List.length_map]; exact hi), List.getElem?_map, List.getElem?_eq_getElem hi] at h
    cases h
    exact .inl ⟨_, rfl, List.getElem?_eq_getElem hi⟩
  · rw [List.getElem?_append_right (by rw [List.length_map]; omega), List.getElem?_replicate] at h
    split at h
    · cases h; exact .inr rfl
    · cases h
theorem rp_start {B : Bk} {N : List Str} {vs : List V} {as : List Ar} (k : BkOk B) (l : ArL B B.F0 vs as) : Rp B B.F0 B.H0 (start N vs) (startT N.length as) := by
  have got : ∀ i a, as[i]? = some a → ∃ v, SAt (start N vs) i v ∧ ArOk B B.F0 v a := fun i a h => by
    obtain ⟨v, hv, hi⟩ := l.get h
    refine ⟨v, ?_, hi⟩
    have hj := (List.getElem?_eq_some_iff.mp hv).1
    unfold SAt start
    rw [List.getElem?_append_left (by rw [List.length_map]; exact hj), List.getElem?_map, hv]
    rfl
  exact {
  up := Up.refl k.i
  wa := k.wa
  wf := k.wf
  wj := k.wj
  wd := fun j h => by
    rcases startT_at h with ⟨a, e, hu⟩ | e
    · cases a with
      | fz t => cases e
      | wd =>
        obtain ⟨v, e, hv⟩ := got j _ hu
        cases (show v = .ref B.rt from hv)
        exact e
    · cases e
  len := by unfold start startT; rw [List.length_append, List.length_append, List.length_map, List.length_map, List.length_replicate, List.length_replicate, l.length]
  fz := fun j t h => by
    rcases startT_at h with ⟨a, e, hu⟩ | e
    · cases a with
      | wd => cases e
      | fz u =>
        cases e
        obtain ⟨v, e, hv⟩ := got j _ hu
        exact ⟨v, e, hv⟩
    · cases e
  ow := fun j t h => by
    rcases startT_at h with ⟨a, e, hu⟩ | e
    · cases a <;> cases e
    · cases e
  vw := fun j t h => by
    rcases startT_at h with ⟨a, e, hu⟩ | e
    · cases a <;> cases e
    · cases e
  ap := fun _ b t u l h => by
    rcases startT_at h with ⟨a, e, hu⟩ | e
    · cases a <;> cases e
    · cases e
  av := fun _ b t u l h => by
    rcases startT_at h with ⟨a, e, hu⟩ | e
    · cases a <;> cases e
    · cases e }
theorem toSp_open {K : PySem.W.Frag} {S : SpT} {vs : List V} {H : Hp} {Q : VK} {E : XK} (h : toSp K S vs H Q E) : ∃ B as Φ Ψ, B.K = K ∧ S B as Φ Ψ ∧ (∀ C F' H', Up B B.F0 B.H0 F' H' → Ψ C → E (.ref C) none H') ∧ ∀ (N : List Str) (t : TS), SV B t (startT N.length as) ⟨fun _ => Φ (.fz .non), Φ, fun _ => False, fun _ => False⟩ → t { nx := fun _ H' => Q .non H', rt := Q } (start N vs) H := by
  obtain ⟨B, as, Φ, Ψ, hK, rfl, k, l, s, q, x⟩ := h
  refine ⟨B, as, Φ, Ψ, hK, s, x, fun N t sv => sv _ _ _ _ (rp_start k l) ⟨?_, ?_, ?_, ?_⟩⟩
  · intro σ F' H' τ _ r h
    exact q .non F' H' (.fz .non) r.up .non h
  · intro v F' H' k u ok h
    exact q v F' H' k u ok h
  · exact fun _ _ _ _ _ _ z => z
  · exact fun _ _ _ _ _ _ z => z
theorem s_go {B : Bk} {t : TS} {τ : TSt} {n : Nat} {ts : List Ar} {D : ET} (h : startT n ts = τ) (q : SV B t τ D) : SV B t (startT n ts) D := by rw [h]; exact q
inductive InR (τ : TSt) : List (Str × Nat) → TSt → Prop
  | nil : InR τ [] []
  | fz {x : Str} {k : Nat} {t : Tr} {r : List (Str × Nat)} {r' : TSt} : Gt τ k (.fz t) → InR τ r r' → InR τ ((x, k) :: r) (.fz t :: r')
  | own {x : Str} {k : Nat} {t : Tr} {r : List (Str × Nat)} {r' : TSt} : Gt τ k (.own t) → InR τ r r' → InR τ ((x, k) :: r) (.vw t :: r')
  | vw {x : Str} {k : Nat} {t : Tr} {r : List (Str × Nat)} {r' : TSt} : Gt τ k (.vw t) → InR τ r r' → InR τ ((x, k) :: r) (.vw t :: r')
  | wd {x : Str} {k : Nat} {r : List (Str × Nat)} {r' : TSt} : Gt τ k .wd → InR τ r r' → InR τ ((x, k) :: r) (.wd :: r')
  | no {x : Str} {k : Nat} {r : List (Str × Nat)} {r' : TSt} : InR τ r r' → InR τ ((x, k) :: r) (.no :: r')
theorem InR.at {τ : TSt} {fr : List (Str × Nat)} {τi : TSt} (h : InR τ fr τi) : τi.length = fr.length ∧ ∀ i s, TAt τi i s → ∃ x k, fr[i]? = some (x, k) ∧ ((s = .no ∨ (s = .wd ∧ TAt τ k .wd)) ∨ (∃ t, s = .fz t ∧ TAt τ k (.fz t)) ∨ ∃ t, s = .vw t ∧ (TAt τ k (.own t) ∨ TAt τ k (.vw t))) := by
  induction h with
  | nil => exact ⟨rfl, fun i s h => by unfold TAt at h; simp at h⟩
  | fz g _ ih =>
    refine ⟨by rw [List.length_cons, List.length_cons, ih.1], fun i s h => ?_⟩
    cases i with
    | zero => simp [TAt] at h; subst h; exact ⟨_, _, rfl, .inr (.inl ⟨_, rfl, g.eq⟩)⟩
    | succ i => exact ih.2 i s (by simpa [TAt] using h)
  | own g _ ih =>
    refine ⟨by rw [List.length_cons, List.length_cons, ih.1], fun i s h => ?_⟩
    cases i with
    | zero => simp [TAt] at h; subst h; exact ⟨_, _, rfl, .inr (.inr ⟨_, rfl, .inl g.eq⟩)⟩
    | succ i => exact ih.2 i s (by simpa [TAt] using h)
  | vw g _ ih =>
    refine ⟨by rw [List.length_cons, List.length_cons, ih.1], fun i s h => ?_⟩
    cases i with
    | zero => simp [TAt] at h; subst h; exact ⟨_, _, rfl, .inr (.inr ⟨_, rfl, .inr g.eq⟩)⟩
    | succ i => exact ih.2 i s (by simpa [TAt] using h)
  | no _ ih =>
    refine ⟨by rw [List.length_cons, List.length_cons, ih.1], fun i s h => ?_⟩
    cases i with
    | zero => simp [TAt] at h; subst h; exact ⟨_, _, rfl, .inl (.inl rfl)⟩
    | succ i => exact ih.2 i s (by simpa [TAt] using h)
  | wd g _ ih =>
    refine ⟨by rw [List.length_cons, List.length_cons, ih.1], fun i s h => ?_⟩
    cases i with
    | zero => simp [TAt] at h; subst h; exact ⟨_, _, rfl, .inl (.inr ⟨rfl, g.eq⟩)⟩
    | succ i => exact ih.2 i s (by simpa [TAt] using h)
section
variable {B : Bk} {F H : Hp} {σ : St} {τ τi : TSt} {fr : List (Str × Nat)}
theorem inSt_at {i k : Nat} {x : Str} {v : V} (h : fr[i]? = some (x, k)) (g : SAt σ k v) : SAt (inSt σ fr) i v := by
  unfold SAt inSt at *
  rw [List.getElem?_map, h]
  show some ((σ[k]?).join) = _
  rw [g]; rfl
theorem InR.rp (h : InR τ fr τi) (r : Rp B F H σ τ) : Rp B F H (inSt σ fr) τi where
  up := r.up
  wa := r.wa
  wf := r.wf
  wj := r.wj
  wd := fun i z => by
    obtain ⟨x, k, hk, (e | ⟨e, g⟩) | ⟨u, e, g⟩ | ⟨u, e, g⟩⟩ := h.at.2 i _ z
    · cases e
    · exact inSt_at hk (r.wd _ g)
    · cases e
    · cases e
  len := by unfold inSt; rw [List.length_map, h.at.1]
  fz := fun i t z => by
    obtain ⟨x, k, hk, (e | ⟨e, g⟩) | ⟨u, e, g⟩ | ⟨u, e, g⟩⟩ := h.at.2 i _ z
    · cases e
    · cases e
    · cases e
      obtain ⟨v, a, b⟩ := r.fz _ _ g
      exact ⟨v, inSt_at hk a, b⟩
    · cases e
  ow := fun i t z => by
    obtain ⟨x, k, hk, (e | ⟨e, g⟩) | ⟨u, e, g⟩ | ⟨u, e, g⟩⟩ := h.at.2 i _ z <;> cases e
  vw := fun i t z => by
    obtain ⟨x, k, hk, (e | ⟨e, g⟩) | ⟨u, e, g⟩ | ⟨u, e, g⟩⟩ := h.at.2 i _ z
    · cases e
    · cases e
    · cases e
    · cases e
      rcases g with g | g
      · obtain ⟨l, a, b, c, n0⟩ := r.ow _ _ g
        exact ⟨l, inSt_at hk a, b, c, fun hw => r.wa l hw n0⟩
      · obtain ⟨l, a, b, c⟩ := r.vw _ _ g
        exact ⟨l, inSt_at hk a, b, c⟩
  ap := fun a b t u l z => by
    obtain ⟨x, k, hk, (e | ⟨e, g⟩) | ⟨u, e, g⟩ | ⟨u, e, g⟩⟩ := h.at.2 a _ z <;> cases e
  av := fun a b t u l z => by
    obtain ⟨x, k, hk, (e | ⟨e, g⟩) | ⟨u, e, g⟩ | ⟨u, e, g⟩⟩ := h.at.2 a _ z <;> cases e
theorem InR.noown (h : InR τ fr τi) {i : Nat} {t : Tr} (z : TAt τi i (.own t)) : False := by
  obtain ⟨x, k, hk, (e | ⟨e, g⟩) | ⟨u, e, g⟩ | ⟨u, e, g⟩⟩ := h.at.2 i _ z <;> cases e
theorem Rp.consO {o : Option V} (r : Rp B F H σ τ) : Rp B F H (o :: σ) (.no :: τ) where
  up := r.up
  wa := r.wa
  wf := r.wf
  wj := r.wj
  wd := fun i z => by
    cases i with
    | zero => cases z
    | succ i => exact r.wd i z
  len := by rw [List.length_cons, List.length_cons, r.len]
  fz := fun i t z => by
    cases i with
    | zero => cases z
    | succ i => obtain ⟨v, a, b⟩ := r.fz i t z; exact ⟨v, a, b⟩
  ow := fun i t z => by
    cases i with
    | zero => cases z
    | succ i => exact r.ow i t z
  vw := fun i t z => by
    cases i with
    | zero => cases z
    | succ i => exact r.vw i t z
  ap := fun a b t u l ha hb ne hi hj => by
    cases a with
    | zero => cases ha
    | succ a =>
      cases b with
      | zero => cases hb
      | succ b => exact r.ap a b t u l ha hb (fun z => ne (by rw [z])) hi hj
  av := fun a b t u l ha hb hi hj => by
    cases a with
    | zero => cases ha
    | succ a =>
      cases b with
      | zero => cases hb
      | succ b => exact r.av a b t u l ha hb hi hj
theorem Rp.consF {v : V} {t : Tr} (r : Rp B F H σ τ) (h : Is B.K F v t) : Rp B F H (some v :: σ) (.fz t :: τ) := (r.consO (o := none)).setF (i := 0) h
theorem Rp.back {σi : St} {τ2 τ3 : TSt} {F' H' : Hp} (r : Rp B F H σ τ) (f : Fr B σi τ2 F H τ3 F' H') (no : ∀ i t, ¬ TAt τ2 i (.own t)) (ri : Rp B F' H' σi τ3) : Rp B F' H' σ τ ∧ Up B F H F' H' := by
  have up : Up B F H F' H' := ⟨f.f, fun p o nw hp => (f.k p o hp nw fun i t z => (no i t z).elim).1, ri.up.i, fun p o hp mb n => by
    by_cases hw : B.W p
    · exact ri.wf p hw
    · exact (f.k p o hp hw fun i t z => (no i t z).elim).2 mb n, f.h, fun p hw _ => ri.wf p hw, fun _ => ri.wj⟩
  exact ⟨r.go up, up⟩
theorem Rp.acc {acc : Addr} {o : HO} {ys : List V} (rb : Rp B F H σ τ) (hy : H acc = some (.lst ys)) (h0 : B.H0 acc = none) (na : F acc = none) (dis : ∀ i u, TAt τ i (.own u) ∨ TAt τ i (.vw u) → ¬ SAt σ i (.ref acc)) : Rp B F (upd H acc o) σ τ := {
      wa := rb.wa
      wf := rb.wf
      wj := B.jl _ _ (fun q hw => by
        have : q ≠ acc := fun e => rb.wa q hw (by rw [e]; exact h0)
        rw [upd_ne this]) (fun q φ z => by rw [upd_ne (ne_of z hy nofun)]; exact z) rb.wj
      wd := rb.wd
      up := { f := rb.up.f, h := fun q o nw z => by
                have : q ≠ acc := fun e => by rw [e, h0] at z; cases z
                rw [upd_ne this]; exact rb.up.h q o nw z
              i := fun q o z => by
                have : q ≠ acc := fun e => by rw [e, na] at z; cases z
                rw [upd_ne this]; exact rb.up.i q o z
              m := rb.up.m
              w := fun q z => rb.up.w q (upd_none z)
              x := rb.up.x
              j := fun z => B.jl _ _ (fun q hw => by
                have : q ≠ acc := fun e => rb.wa q hw (by rw [e]; exact h0)
                rw [upd_ne this]) (fun q φ z => by rw [upd_ne (ne_of z hy nofun)]; exact z) rb.wj }
      len := rb.len
      fz := rb.fz
      ow := fun j u z => by
        obtain ⟨l', a, b, c⟩ := rb.ow j u z
        have : l' ≠ acc := fun e => dis j u (.inl z) (by rw [← e]; exact a)
        exact ⟨l', a, b.to (Same.refl _) (fun o ho => by rw [upd_ne this]; exact ho), c⟩
      vw := fun j u z => by
        obtain ⟨l', a, b, c⟩ := rb.vw j u z
        have : l' ≠ acc := fun e => dis j u (.inr z) (by rw [← e]; exact a)
        exact ⟨l', a, b.to (Same.refl _) (fun o ho => by rw [upd_ne this]; exact ho), c⟩
      ap := rb.ap
      av := rb.av }
end
section
variable {B : Bk} {τ τi : TSt} {Φ : TK} {fr : List (Str × Nat)} {wi : TI} {te : TE}
theorem e_lc (h : IV B wi τ fun ts τ1 => ∃ τi, InR τ1 fr τi ∧ ts.length ≤ 100000 ∧ ∃ P : Nat → Tr → Prop, (∀ i t, ts[i]? = some t → EV B te (.fz t :: τi) fun k τ2 => AsF k τ2 fun o _ => P i o) ∧ ∀ os : List Tr, os.length = ts.length → (∀ i o, os[i]? = some o → P i o) → Φ (.nw (.lst os)) τ1) : EV B (tLC fr wi te) τ Φ := fun σ F H Q r c => by
  refine h σ F H _ r fun J F1 H1 ts τ1 f1 r1 itk ⟨τi, inr, hlen, P, step, fin⟩ => ?_
  intro acc hacc
  refine ⟨fun i m H2 => ∃ F2 vs os, Rp B F2 H2 σ τ1 ∧ Fr B σ τ1 F1 H1 τ1 F2 H2 ∧ H2 acc = some (.lst vs) ∧ F2 acc = none ∧ IsL B.K F2 vs os ∧ os.length = i ∧ (∀ j o, os[j]? = some o → P j o) ∧ i ≤ ts.length ∧ m = ts.length - i, ⟨_, F1, [], [], r1.go (r1.new hacc), Fr.up (r1.new hacc), upd_same, r1.inc.free hacc, .nil, rfl, fun j o z => (by cases z), Nat.zero_le _, rfl⟩, ?_⟩
  rintro i m H2 ⟨F2, vs, os, r2, f2, ha, na, l2, hos, hP, hi, rfl⟩
  obtain ⟨itg, its⟩ := itk σ τ1 F2 H2 f2.f r2
  have dis : ∀ (i : Nat) (u : Tr), TAt τ1 i (.own u) ∨ TAt τ1 i (.vw u) → ¬ SAt σ i (.ref acc) := fun i u hu hs => by
    rcases hu with hu | hu
    · obtain ⟨l', e', g, _⟩ := r1.ow i u hu
      obtain ⟨o, ho, _⟩ := g.mb
      cases sat_unique e' hs
      rw [hacc] at ho; cases ho
    · obtain ⟨l', e', g, _⟩ := r1.vw i u hu
      obtain ⟨o, ho, _⟩ := g.mb
      cases sat_unique e' hs
      rw [hacc] at ho; cases ho
  by_cases hlt : i < ts.length
  · obtain ⟨g1, g2⟩ := itg i ts[i] (List.getElem?_eq_getElem hlt)
    refine .inr ⟨g1, fun x H3 y => ?_⟩
    obtain ⟨F3, u3, hx⟩ := g2 x H3 y
    have r3 := r2.go u3
    have ri : Rp B F3 H3 (some x :: inSt σ fr) (.fz ts[i] :: τi) := (inr.rp r3).consF hx
    refine step i ts[i] (List.getElem?_eq_getElem hlt) _ F3 H3 _ ri fun v F4 H4 k τ4 f4 r4 ok4 n4 h4 => ?_
    obtain ⟨F5, o, τ5, f5, r5, i5, hp5, _⟩ := asF_ok f4 r4 ok4 n4 h4
    have noo' : ∀ j t, ¬ TAt (Sl.fz ts[i] :: τi) j (.own t) := fun j t z => by
      cases j with
      | zero => cases z
      | succ j => exact inr.noown z
    obtain ⟨rb, ub⟩ := r3.back f5 noo' r5
    have u25 := u3.trans ub
    have nwa : ¬ B.W acc := fun hw => r1.wa acc hw (r1.up.w acc hacc)
    have ha5 : H4 acc = some (.lst vs) := u25.h _ _ nwa ha
    have na5 : F5 acc = none := u25.m _ _ ha trivial na
    refine ⟨vs, ts.length - (i + 1), ha5, by rw [l2.length, hos]; exact Nat.lt_of_lt_of_le (Nat.lt_of_lt_of_le hlt hlen) (by decide), by omega, ?_⟩
    have r6 : Rp B F5 (upd H4 acc (.lst (vs ++ [v]))) σ τ1 := rb.acc ha5 (r1.up.w acc hacc) na5 dis
    have f6 : Fr B σ τ1 F1 H1 τ1 F5 (upd H4 acc (.lst (vs ++ [v]))) := by
      have f7 := f2.trans (Fr.up u25)
      refine ⟨f7.f, fun p o hp nw no => ?_, f7.o, fun p hp => ?_⟩
      · have : p ≠ acc := fun e => by rw [e, hacc] at hp; cases hp
        rw [upd_ne this]; exact f7.k p o hp nw no
      · by_cases e : p = acc
        · rw [e, upd_same] at hp; cases hp
        · rw [upd_ne e] at hp; exact f7.h p hp
    refine ⟨F5, vs ++ [v], os ++ [o], r6, f6, upd_same, na5, (l2.same u25.f).snoc i5, by rw [List.length_append, hos]; rfl, fun j q hj => ?_, hlt, rfl⟩
    rcases Nat.lt_or_ge j os.length with hjl | hjl
    · rw [List.getElem?_append_left hjl] at hj
      exact hP j q hj
    · rw [List.getElem?_append_right hjl] at hj
      have hz := (List.getElem?_eq_some_iff.mp hj).1
      rw [List.length_singleton] at hz
      have ej : j = i := by omega
      rw [show j - os.length = 0 by omega] at hj
      cases hj
      rw [ej]; exact hp5
  · have ei : i = ts.length := by omega
    subst ei
    exact .inl ⟨its, c _ F2 H2 (.nw (.lst os)) τ1 (f1.trans f2) r2 ⟨acc, rfl, .lst ha l2, na, r1.up.w acc hacc, dis⟩ (fun l e => by cases e; exact f1.h _ hacc) (fin os hos hP)⟩
end
end L2

namespace L2
open PySem PySem.Spec PyProof.Rows
section
variable {B : Bk} {F H : Hp} {σ : St} {τ τi : TSt} {fr : List (Str × Nat)}
theorem Rp.pre (r : Rp B F H σ τ) : ∀ (vs : List V) (ts : List Tr), IsL B.K F vs ts → Rp B F H (vs.map some ++ σ) (ts.map Sl.fz ++ τ)
  | _, _, .nil => r
  | _, _, .cons h g => (Rp.pre r _ _ g).consF h
end
section
variable {B : Bk} {τ τi : TSt} {Φ : TK} {fr : List (Str × Nat)} {wi : TI} {te : TE} {tc : TT} {g : TG} {k : Nat}
theorem e_lcg (Cut : Tr → List Tr → Prop) (hk : ∀ t as, Cut t as → as.length = k)
    (hg : ∀ t as, Cut t as → ∀ (F H : Hp) (v : V) (σb : St) (S : St → Hp → Prop), Same F H → Is B.K F v t → k ≤ σb.length → (∀ ws, IsL B.K F ws as → S (ws.map some ++ σb.drop k) H) → g v σb H S)
    (h : IV B wi τ fun ts τ1 => ∃ τi, InR τ1 fr τi ∧ ts.length ≤ 100000 ∧ ∃ P : Nat → Option Tr → Prop, (∀ i t, ts[i]? = some t → ∃ as, Cut t as ∧ TV B tc (as.map Sl.fz ++ τi) fun b τ2 => if b = true then EV B te τ2 fun k τ3 => AsF k τ3 fun o _ => P i (some o) else P i none) ∧ ∀ os : List (Option Tr), os.length = ts.length → (∀ i o, os[i]? = some o → P i o) → Φ (.nw (.lst (os.filterMap id))) τ1) : EV B (tLCG k fr wi g tc te) τ Φ := fun σ F H Q r c => by
  refine h σ F H _ r fun J F1 H1 ts τ1 f1 r1 itk ⟨τi, inr, hlen, P, step, fin⟩ => ?_
  intro acc hacc
  refine ⟨fun i m σb H2 => ∃ F2 vs os, Rp B F2 H2 σ τ1 ∧ Fr B σ τ1 F1 H1 τ1 F2 H2 ∧ H2 acc = some (.lst vs) ∧ F2 acc = none ∧ IsL B.K F2 vs (os.filterMap id) ∧ os.length = i ∧ (∀ j o, os[j]? = some o → P j o) ∧ i ≤ ts.length ∧ m = ts.length - i ∧ k ≤ σb.length ∧ σb.drop k = inSt σ fr, ⟨_, F1, [], [], r1.go (r1.new hacc), Fr.up (r1.new hacc), upd_same, r1.inc.free hacc, .nil, rfl, fun j o z => (by cases z), Nat.zero_le _, rfl, by rw [List.length_append, List.length_replicate]; omega, by rw [List.drop_append_of_le_length (by rw [List.length_replicate]; exact Nat.le_refl _), List.drop_replicate, Nat.sub_self]; rfl⟩, ?_⟩
  rintro i m σb H2 ⟨F2, vs, os, r2, f2, ha, na, l2, hos, hP, hi, rfl, hkb, hdb⟩
  obtain ⟨itg, its⟩ := itk σ τ1 F2 H2 f2.f r2
  have nwa : ¬ B.W acc := fun hw => r1.wa acc hw (r1.up.w acc hacc)
  have dis : ∀ (i : Nat) (u : Tr), TAt τ1 i (.own u) ∨ TAt τ1 i (.vw u) → ¬ SAt σ i (.ref acc) := fun i u hu hs => by
    rcases hu with hu | hu
    · obtain ⟨l', e', g, _⟩ := r1.ow i u hu
      obtain ⟨o, ho, _⟩ := g.mb
      cases sat_unique e' hs
      rw [hacc] at ho; cases ho
    · obtain ⟨l', e', g, _⟩ := r1.vw i u hu
      obtain ⟨o, ho, _⟩ := g.mb
      cases sat_unique e' hs
      rw [hacc] at ho; cases ho
  have more : ∀ {o : Option Tr}, P i o → ∀ (j : Nat) (q : Option Tr), (os ++ [o])[j]? = some q → P j q := fun {o} hp j q hj => by
    rcases Nat.lt_or_ge j os.length with hjl | hjl
    · rw [List.getElem?_append_left hjl] at hj
      exact hP j q hj
    · rw [List.getElem?_append_right hjl] at hj
      have hz := (List.getElem?_eq_some_iff.mp hj).1
      rw [List.length_singleton] at hz
      have ej : j = i := by omega
      rw [show j - os.length = 0 by omega] at hj
      cases hj
      rw [ej]; exact hp
  by_cases hlt : i < ts.length
  · obtain ⟨g1, g2⟩ := itg i ts[i] (List.getElem?_eq_getElem hlt)
    refine .inr ⟨g1, fun x H3 y => ?_⟩
    obtain ⟨F3, u3, hx⟩ := g2 x H3 y
    have r3 := r2.go u3
    obtain ⟨as, hcut, htv⟩ := step i ts[i] (List.getElem?_eq_getElem hlt)
    refine hg ts[i] as hcut F3 H3 x σb _ r3.inc hx hkb fun ws lw => ?_
    rw [hdb]
    have ri : Rp B F3 H3 (ws.map some ++ inSt σ fr) (as.map Sl.fz ++ τi) := Rp.pre (inr.rp r3) ws as lw
    have noo : ∀ j t, ¬ TAt (as.map Sl.fz ++ τi) j (.own t) := fun j t z => by
      unfold TAt at z
      rcases Nat.lt_or_ge j as.length with q | q
      · rw [List.getElem?_append_left (by rw [List.length_map]; exact q), List.getElem?_map, List.getElem?_eq_getElem q] at z
        cases z
      · rw [List.getElem?_append_right (by rw [List.length_map]; exact q)] at z
        exact inr.noown z
    have hwl : (ws.map some).length = k := by rw [List.length_map, lw.length, hk _ _ hcut]
    have hk2 : k ≤ (ws.map some ++ inSt σ fr).length := by rw [List.length_append, hwl]; omega
    have hd2 : (ws.map some ++ inSt σ fr).drop k = inSt σ fr := by rw [← hwl, List.drop_left]
    refine htv _ F3 H3 _ ri fun b F4 H4 τ4 f4 r4 h4 => ?_
    cases b with
    | false =>
      rw [if_neg Bool.false_ne_true] at h4 ⊢
      obtain ⟨rb, ub⟩ := r3.back f4 noo r4
      have u25 := u3.trans ub
      exact ⟨ts.length - (i + 1), by omega, F4, vs, os ++ [none], rb, f2.trans (Fr.up u25), u25.h _ _ nwa ha, u25.m _ _ ha trivial na, by rw [List.filterMap_append]; simpa using l2.same u25.f, by rw [List.length_append, hos]; rfl, more h4, hlt, rfl, hk2, hd2⟩
    | true =>
      rw [if_pos rfl] at h4 ⊢
      refine h4 _ F4 H4 _ r4 fun v F5 H5 kd τ5 f5 r5 ok5 n5 h5 => ?_
      obtain ⟨F6, o, τ6, f6, r6, i6, hp6, _⟩ := asF_ok f5 r5 ok5 n5 h5
      obtain ⟨rb, ub⟩ := r3.back (f4.trans f6) noo r6
      have u25 := u3.trans ub
      have ha5 : H5 acc = some (.lst vs) := u25.h _ _ nwa ha
      have na5 : F6 acc = none := u25.m _ _ ha trivial na
      have hvl : vs.length ≤ i := by rw [l2.length, ← hos]; exact List.length_filterMap_le _ _
      refine ⟨vs, ts.length - (i + 1), ha5, Nat.lt_of_le_of_lt hvl (Nat.lt_of_lt_of_le (Nat.lt_of_lt_of_le hlt hlen) (by decide)), by omega, ?_⟩
      have f6' : Fr B σ τ1 F1 H1 τ1 F6 (upd H5 acc (.lst (vs ++ [v]))) := by
        have f7 := f2.trans (Fr.up u25)
        refine ⟨f7.f, fun p o hp nw no => ?_, f7.o, fun p hp => ?_⟩
        · have : p ≠ acc := fun e => by rw [e, hacc] at hp; cases hp
          rw [upd_ne this]; exact f7.k p o hp nw no
        · by_cases e : p = acc
          · rw [e, upd_same] at hp; cases hp
          · rw [upd_ne e] at hp; exact f7.h p hp
      exact ⟨F6, vs ++ [v], os ++ [some o], rb.acc ha5 (r1.up.w acc hacc) na5 dis, f6', upd_same, na5, by rw [List.filterMap_append]; exact (l2.same u25.f).snoc i6, by rw [List.length_append, hos]; rfl, more hp6, hlt, rfl, hk2, hd2⟩
  · have ei : i = ts.length := by omega
    subst ei
    exact .inl ⟨its, c _ F2 H2 (.nw (.lst (os.filterMap id))) τ1 (f1.trans f2) r2 ⟨acc, rfl, .lst ha l2, na, r1.up.w acc hacc, dis⟩ (fun l e => by cases e; exact f1.h _ hacc) (fin os hos hP)⟩
theorem e_lcIf (h : IV B wi τ fun ts τ1 => ∃ τi, InR τ1 fr τi ∧ ts.length ≤ 100000 ∧ ∃ P : Nat → Option Tr → Prop, (∀ i t, ts[i]? = some t → TV B tc (.fz t :: τi) fun b τ2 => if b = true then EV B te τ2 fun k τ3 => AsF k τ3 fun o _ => P i (some o) else P i none) ∧ ∀ os : List (Option Tr), os.length = ts.length → (∀ i o, os[i]? = some o → P i o) → Φ (.nw (.lst (os.filterMap id))) τ1) : EV B (tLCG 1 fr wi (gName 0) tc te) τ Φ := by
  refine e_lcg (fun t as => as = [t]) (fun t as e => by rw [e]; rfl) (fun t as e F H v σb S i hi hk q => ?_) ?_
  · subst e
    have := q [v] (.cons hi .nil)
    show S (σb.set 0 (some v)) H
    cases σb with
    | nil => exact absurd hk (by decide)
    | cons x r => exact this
  · intro σ F H R r c
    refine h σ F H R r fun J F' H' ts τ' f r' it ⟨τi, a, b, P, st, fin⟩ => c J F' H' ts τ' f r' it ⟨τi, a, b, P, fun i t e => ⟨[t], rfl, st i t e⟩, fin⟩
theorem e_lcP {K : PySem.W.Frag} (hK : K = B.K) (h : IV B wi τ fun ts τ1 => ∃ τi, InR τ1 fr τi ∧ ts.length ≤ 100000 ∧ ∃ P : Nat → Option Tr → Prop, (∀ i t, ts[i]? = some t → ∃ a b, t = .tup [a, b] ∧ TV B tc (.fz a :: .fz b :: τi) fun b τ2 => if b = true then EV B te τ2 fun k τ3 => AsF k τ3 fun o _ => P i (some o) else P i none) ∧ ∀ os : List (Option Tr), os.length = ts.length → (∀ i o, os[i]? = some o → P i o) → Φ (.nw (.lst (os.filterMap id))) τ1) : EV B (tLCG 2 fr wi (gTup K 2 (gCons (gName 0) (gCons (gName 1) gNil))) tc te) τ Φ := by
  subst hK
  refine e_lcg (fun t as => ∃ a b, t = .tup [a, b] ∧ as = [a, b]) (fun t as e => by obtain ⟨a, b, _, rfl⟩ := e; rfl) (fun t as e F H v σb S i hi hk q => ?_) ?_
  · obtain ⟨a, b, rfl, rfl⟩ := e
    cases hi with
    | tup s l =>
      cases l with
      | cons h1 l =>
        cases l with
        | cons h2 l =>
          cases l
          refine ⟨_, _, rfl, i.tup s, rfl, _, _, rfl, _, _, rfl, rfl, ?_⟩
          have := q _ (.cons h1 (.cons h2 .nil))
          match σb, hk with
          | x :: y :: r, _ => exact this
  · intro σ F H R r c
    refine h σ F H R r fun J F' H' ts τ' f r' it ⟨τi, a, b, P, st, fin⟩ => c J F' H' ts τ' f r' it ⟨τi, a, b, P, fun i t e => ?_, fin⟩
    obtain ⟨a, b, e, tv⟩ := st i t e
    exact ⟨[a, b], ⟨a, b, e, rfl⟩, tv⟩
theorem t_yes {Ψ : Bool → TSt → Prop} (h : Ψ true τ) : TV B tYes τ Ψ := fun σ F H Q r c => c true F H τ Fr.refl r h
theorem s_setlc {iy : Nat} {nx bk ct : TSt → Prop} {rt : Kd → Prop} (h : EV B (tLC fr wi te) τ fun k τ1 => GA B (gName iy) k τ1 nx) : SV B (tSetLC iy fr wi te) τ ⟨nx, rt, bk, ct⟩ := fun σ F H D r e => h σ F H _ r fun v F1 H1 k τ1 f r1 ok _ h1 => h1 σ F1 H1 v _ r1 ok fun σ' F' H' τ' s r' n => e.nx σ' F' H' τ' (f.f.trans s) r' n
end
section
variable {B : Bk} {τ τ' : TSt} {Φ : TK} {x : Kd} {i j : Int} {ts : List Tr} {b : Bool} {t : Tr} {K : PySem.W.Frag}
theorem ru_len (hK : K = B.K) (rk : Rk τ x (.lst ts)) (q : Φ (.fz (.int (ts.length : Nat))) τ) : RU B (fun v H Q => ∃ p ys, [v] = [V.ref p] ∧ (SqL K H p ys ∨ SqT K H p ys) ∧ Q (.int (ys.length : Nat)) H) x τ Φ := fun σ F H v Q r a c => by
  subst hK
  obtain ⟨p, vs, rfl, s, l⟩ := rk.list r a
  refine ⟨p, vs, rfl, .inl s, ?_⟩
  rw [l.length]; exact c.pl r .int q
theorem ru_lenT (hK : K = B.K) (rk : Rk τ x (.tup ts)) (q : Φ (.fz (.int (ts.length : Nat))) τ) : RU B (fun v H Q => ∃ p ys, [v] = [V.ref p] ∧ (SqL K H p ys ∨ SqT K H p ys) ∧ Q (.int (ys.length : Nat)) H) x τ Φ := fun σ F H v Q r a c => by
  subst hK
  obtain ⟨p, vs, rfl, s, l⟩ := rk.tuple r a
  refine ⟨p, vs, rfl, .inr s, ?_⟩
  rw [l.length]; exact c.pl r .int q
theorem ru_lenK (h : RU B (fun v H Q => ∃ p ys, [v] = [V.ref p] ∧ (SqL K H p ys ∨ SqT K H p ys) ∧ Q (.int (ys.length : Nat)) H) x τ Φ) : RU B (fun v H Q => rLen K [v] H Q) x τ Φ := h
theorem ru_abs (q : Φ (.fz (.int (if i < 0 then -i else i))) τ) : RU B (fun v H Q => ∃ i, [v] = [V.int i] ∧ Q (.int (if i < 0 then -i else i)) H) (.fz (.int i)) τ Φ := fun σ F H v Q r a c => by
  cases pd_int a
  exact ⟨i, rfl, c.pl r .int q⟩
theorem ru_toI (q : Φ (.fz (.int i)) τ) : RU B (fun v H Q => (∃ i, [v] = [V.int i] ∧ Q (.int i) H) ∨ ∃ k, [v] = [V.bl k] ∧ Q (.int (if k = true then 1 else 0)) H) (.fz (.int i)) τ Φ := fun σ F H v Q r a c => by
  cases pd_int a
  exact .inl ⟨i, rfl, c.pl r .int q⟩
theorem ru_toB (q : Φ (.fz (.int (if b = true then 1 else 0))) τ) : RU B (fun v H Q => (∃ i, [v] = [V.int i] ∧ Q (.int i) H) ∨ ∃ k, [v] = [V.bl k] ∧ Q (.int (if k = true then 1 else 0)) H) (.fz (.bl b)) τ Φ := fun σ F H v Q r a c => by
  cases pd_bl a
  exact .inr ⟨b, rfl, c.pl r .int q⟩
theorem ru_list (hK : K = B.K) (rk : Rk τ x (.lst ts)) (q : Φ (.nw (.lst ts)) τ) : RU B (fun v H Q => ∃ p ys, [v] = [V.ref p] ∧ (SqL K H p ys ∨ SqT K H p ys) ∧ ∀ l, H l = none → Q (.ref l) (upd H l (.lst ys))) x τ Φ := fun σ F H v Q r a c => by
  subst hK
  obtain ⟨p, vs, rfl, s, l⟩ := rk.list r a
  exact ⟨p, vs, rfl, .inl s, fun l' hl => c.nl r l hl q⟩
theorem ru_listT (hK : K = B.K) (rk : Rk τ x (.tup ts)) (q : Φ (.nw (.lst ts)) τ) : RU B (fun v H Q => ∃ p ys, [v] = [V.ref p] ∧ (SqL K H p ys ∨ SqT K H p ys) ∧ ∀ l, H l = none → Q (.ref l) (upd H l (.lst ys))) x τ Φ := fun σ F H v Q r a c => by
  subst hK
  obtain ⟨p, vs, rfl, s, l⟩ := rk.tuple r a
  exact ⟨p, vs, rfl, .inr s, fun l' hl => c.nl r l hl q⟩
theorem ru_tup (hK : K = B.K) (rk : Rk τ x (.lst ts)) (q : Φ (.fz (.tup ts)) τ) : RU B (fun v H Q => ∃ p ys, [v] = [V.ref p] ∧ ((SqL K H p ys ∧ ∀ l, H l = none → Q (.ref l) (upd H l (.tup ys))) ∨ (SqT K H p ys ∧ Q (.ref p) H))) x τ Φ := fun σ F H v Q r a c => by
  subst hK
  obtain ⟨p, vs, rfl, s, l⟩ := rk.list r a
  exact ⟨p, vs, rfl, .inl ⟨s, fun l' hl => c.nt r l hl q⟩⟩
theorem ro_max2 (q : Φ (.fz (.int (if j > i then j else i))) τ) : RO B (fun v w H Q => ∃ i j, [v, w] = [V.int i, V.int j] ∧ Q (.int (if j > i then j else i)) H) (.fz (.int i)) (.fz (.int j)) τ Φ := fun σ F H v w Q r a b c => by
  cases pd_int a; cases pd_int b
  exact ⟨i, j, rfl, c.pl r .int q⟩
theorem ro_min2 (q : Φ (.fz (.int (if j < i then j else i))) τ) : RO B (fun v w H Q => ∃ i j, [v, w] = [V.int i, V.int j] ∧ Q (.int (if j < i then j else i)) H) (.fz (.int i)) (.fz (.int j)) τ Φ := fun σ F H v w Q r a b c => by
  cases pd_int a; cases pd_int b
  exact ⟨i, j, rfl, c.pl r .int q⟩
noncomputable def tgT : Tr → Option Tg
  | .non => some .non
  | .bl _ => some .bl
  | .int _ => some .int
  | .str _ => some .str
  | .tup _ => some .tup
  | .lst _ => some .lst
  | .dct _ => some .dic
  | .ty _ => none
theorem is_tg {F H : Hp} {v : V} {g : Tg} (i : Same F H) (h : Is K F v t) (e : tgT t = some g) : tgIs K H v g := by
  cases h with
  | tup a b => cases e; exact ⟨_, i.tup a⟩
  | lst a b => cases e; exact ⟨_, i.seq a⟩
  | dct a b c => cases e; exact ⟨_, i _ _ a⟩
  | ty => cases e
  | _ => cases e; trivial
theorem ro_isi (hK : K = B.K) {n : String} {f : Tg → Bool} {g : Tg} (e : tgT t = some g) (q : Φ (.fz (.bl (f g))) τ) : RO B (fun v w H Q => rIsi K n f [v, w] H Q) (.fz t) (.fz (.ty n)) τ Φ := fun σ F H v w Q r a b c => by
  subst hK
  cases (show Is B.K F w (.ty n) from b)
  exact ⟨v, g, rfl, is_tg r.inc a e, c.pl r .bl q⟩
theorem ro_isiT (hK : K = B.K) {n : String} {f : Tg → Bool} {g : Tg} (e : tgT t = some g) (hb : f g = true) (q : Φ (.fz (.bl true)) τ) : RO B (fun v w H Q => rIsi K n f [v, w] H Q) (.fz t) (.fz (.ty n)) τ Φ := ro_isi hK e (by rw [hb]; exact q)
theorem ro_isiF (hK : K = B.K) {n : String} {f : Tg → Bool} {g : Tg} (e : tgT t = some g) (hb : f g = false) (q : Φ (.fz (.bl false)) τ) : RO B (fun v w H Q => rIsi K n f [v, w] H Q) (.fz t) (.fz (.ty n)) τ Φ := ro_isi hK e (by rw [hb]; exact q)
theorem ro_isNT (h : t.isN = true) (q : Φ (.fz (.bl true)) τ) : RO B rIsN (.fz t) (.fz .non) τ Φ := ro_isN (by rw [h]; exact q)
theorem ro_isNF (h : t.isN = false) (q : Φ (.fz (.bl false)) τ) : RO B rIsN (.fz t) (.fz .non) τ Φ := ro_isN (by rw [h]; exact q)
theorem ro_notNT (h : t.isN = true) (q : Φ (.fz (.bl false)) τ) : RO B rNotN (.fz t) (.fz .non) τ Φ := ro_notN (by rw [h]; exact q)
theorem ro_notNF (h : t.isN = false) (q : Φ (.fz (.bl true)) τ) : RO B rNotN (.fz t) (.fz .non) τ Φ := ro_notN (by rw [h]; exact q)
end
end L2

namespace L2
open PySem PySem.Spec PyProof.Rows
theorem t_len {α : Type} {l : List α} {n : Nat} {S : Prop} (h : l.length ≤ n) (q : S) : l.length ≤ n ∧ S := ⟨h, q⟩
noncomputable def zip2T : List Tr → List Tr → List Tr
  | x :: r, y :: q => .tup [x, y] :: zip2T r q
  | _, _ => []
theorem zip2T_len : ∀ xs ys : List Tr, (zip2T xs ys).length = min xs.length ys.length
  | [], _ => by simp [zip2T]
  | _ :: _, [] => by simp [zip2T]
  | _ :: r, _ :: q => by
    simp only [zip2T, List.length_cons, zip2T_len r q]
    omega
theorem zip2T_at : ∀ (xs ys : List Tr) (i : Nat) (t : Tr), (zip2T xs ys)[i]? = some t → ∃ x y, xs[i]? = some x ∧ ys[i]? = some y ∧ t = .tup [x, y]
  | [], _, _, _, h => by simp [zip2T] at h
  | _ :: _, [], _, _, h => by simp [zip2T] at h
  | x :: r, y :: q, 0, t, h => by simp [zip2T] at h; exact ⟨x, y, rfl, rfl, h.symm⟩
  | _ :: r, _ :: q, i + 1, t, h => by
    obtain ⟨x, y, h1, h2, h3⟩ := zip2T_at r q i t (by simpa [zip2T] using h)
    exact ⟨x, y, by simpa using h1, by simpa using h2, h3⟩
noncomputable def seqT : Tr → Option (Bool × List Tr)
  | .lst ts => some (false, ts)
  | .tup ts => some (true, ts)
  | _ => none
section
variable {B : Bk} {τ : TSt} {ta tb : TE}
theorem is_seq {K : PySem.W.Frag} {F H : Hp} {v : V} {t : Tr} {q : Bool} {ts : List Tr} (i : Same F H) (h : Is K F v t) (e : seqT t = some (q, ts)) : ∃ a xs, v = .ref a ∧ SqB q K H a xs ∧ IsL K F xs ts := by
  cases h with
  | lst a b => cases e; exact ⟨_, _, rfl, i.seq a, b⟩
  | tup a b => cases e; exact ⟨_, _, rfl, i.tup a, b⟩
  | _ => cases e
theorem SqB.same {q : Bool} {K : PySem.W.Frag} {H H' : Hp} {a : Addr} {xs : List V} (s : Same H H') (h : SqB q K H a xs) : SqB q K H' a xs := by
  cases q with
  | true => exact s.tup h
  | false => exact s.seq h
theorem i_zip {K : PySem.W.Frag} (hK : K = B.K) {Φ : List Tr → TSt → Prop} (h : EV B ta τ fun x τ1 => AsF x τ1 fun t τ2 => EV B tb τ2 fun y τ3 => AsF y τ3 fun u τ4 => ∃ q1 ts q2 us, seqT t = some (q1, ts) ∧ seqT u = some (q2, us) ∧ Φ (zip2T ts us) τ4) : IV B (iZip K (tCons ta (tCons tb tNil))) τ Φ := fun σ F H R r c => by
  subst hK
  refine h σ F H _ r fun v F1 H1 k τ1 f1 r1 ok1 n1 h1 => ?_
  obtain ⟨F2, t, τ2, f2, r2, i2, h2, _⟩ := asF_ok f1 r1 ok1 n1 h1
  refine h2 σ F2 H1 _ r2 fun w F3 H3 k3 τ3 f3 r3 ok3 n3 h3 => ?_
  obtain ⟨F4, u, τ4, f4, r4, i4, ⟨q1, ts, q2, us, e1, e2, h4⟩, _⟩ := asF_ok f3 r3 ok3 n3 h3
  obtain ⟨a1, xs, rfl, s1, l1⟩ := is_seq r4.inc (i2.same f4.f) e1
  obtain ⟨a2, ys, rfl, s2, l2⟩ := is_seq r4.inc i4 e2
  obtain ⟨_, _, ea, s1', l1'⟩ := is_seq (Same.refl F4) (i2.same f4.f) e1
  cases ea
  obtain ⟨_, _, eb, s2', l2'⟩ := is_seq (Same.refl F4) i4 e2
  cases eb
  refine ⟨q1, q2, a1, a2, rfl, ⟨xs, s1⟩, ⟨ys, s2⟩, c _ F4 H3 _ τ4 (f2.trans f4) r4 (fun σ' τ' F' H' sF rH => ⟨fun i t e => ?_, ?_⟩) h4⟩
  · obtain ⟨x0, y0, ex, ey, rfl⟩ := zip2T_at ts us i t e
    obtain ⟨w1, ew1, hw1⟩ := l1'.get ex
    obtain ⟨w2, ew2, hw2⟩ := l2'.get ey
    have t1 := SqB.same rH.inc (SqB.same sF s1')
    have t2 := SqB.same rH.inc (SqB.same sF s2')
    refine ⟨⟨_, _, w1, w2, t1, t2, ew1, ew2⟩, ?_⟩
    rintro x H2 ⟨p, y1, y2, rfl, hn, hy1, hy2, rfl⟩
    have g1 := hy1 _ t1
    have g2 := hy2 _ t2
    rw [ew1] at g1
    rw [ew2] at g2
    cases g1
    cases g2
    have u := rH.tup (vs := [w1, w2]) hn
    exact ⟨_, u, .tup (SqT.of upd_same) (.cons ((hw1.same sF).same u.f) (.cons ((hw2.same sF).same u.f) .nil))⟩
  · refine ⟨_, _, SqB.same rH.inc (SqB.same sF s1'), SqB.same rH.inc (SqB.same sF s2'), ?_⟩
    rw [l1'.length, l2'.length, zip2T_len]
    omega
end
section
variable {B : Bk} {τ τ' : TSt} {Φ : TK} {x y : Kd} {ts us : List Tr} {K : PySem.W.Frag}
theorem Rk.isT {F H : Hp} {σ : St} {v : V} (h : Rk τ x (.tup ts)) (r : Rp B F H σ τ) (ok : PdOk B.K F σ v x) : Is B.K F v (.tup ts) := by
  cases h with
  | fz => exact ok
  | own g => obtain ⟨l, e, hw, _⟩ := r.ow _ _ g.eq; cases hw
  | vw g => obtain ⟨l, e, hw, _⟩ := r.vw _ _ g.eq; cases hw
  | sfz g =>
    obtain ⟨w, e, hi⟩ := r.fz _ _ g.eq
    cases sat_unique e ok
    exact hi
end
end L2

namespace L2
open PySem PySem.Spec PyProof.Rows
inductive Dp : Nat → Tr → Prop
  | non {n : Nat} : Dp n .non
  | bl {n : Nat} {b : Bool} : Dp n (.bl b)
  | int {n : Nat} {i : Int} : Dp n (.int i)
  | str {n : Nat} {x : Str} : Dp n (.str x)
  | tup {n : Nat} {ts : List Tr} : (∀ t ∈ ts, Dp n t) → Dp (n + 1) (.tup ts)
  | lst {n : Nat} {ts : List Tr} : (∀ t ∈ ts, Dp n t) → Dp (n + 1) (.lst ts)
  | dct {n : Nat} : Dp n (.dct [])
theorem dp_nil {n : Nat} : ∀ t ∈ ([] : List Tr), Dp n t := fun _ h => absurd h List.not_mem_nil
theorem dp_cons {n : Nat} {t : Tr} {r : List Tr} (h : Dp n t) (g : ∀ t ∈ r, Dp n t) : ∀ u ∈ t :: r, Dp n u := List.forall_mem_cons.mpr ⟨h, g⟩
theorem Dp.up {n : Nat} {t : Tr} (h : Dp n t) : ∀ {m : Nat}, n ≤ m → Dp m t := by
  induction h with
  | non => exact fun _ => .non
  | bl => exact fun _ => .bl
  | int => exact fun _ => .int
  | str => exact fun _ => .str
  | dct => exact fun _ => .dct
  | @tup n ts _ ih =>
    intro m hm
    obtain ⟨k, rfl⟩ : ∃ k, m = k + 1 := ⟨m - 1, by omega⟩
    exact .tup fun t ht => ih t ht (by omega)
  | @lst n ts _ ih =>
    intro m hm
    obtain ⟨k, rfl⟩ : ∃ k, m = k + 1 := ⟨m - 1, by omega⟩
    exact .lst fun t ht => ih t ht (by omega)
theorem alike_of {K : PySem.W.Frag} {F G H : Hp} {n : Nat} {t : Tr} (d : Dp n t) : ∀ {v w : V}, Same F H → Same G H → Is K F v t → Is K G w t → Alike K H n v w := by
  induction d with
  | non => intro v w i j a b; cases a; cases b; exact .non
  | bl => intro v w i j a b; cases a; cases b; exact .bl
  | int => intro v w i j a b; cases a; cases b; exact .int
  | str => intro v w i j a b; cases a; cases b; exact .str
  | dct =>
    intro v w i j a b
    cases a with
    | @dct p kvs _ h1 k1 _ =>
      cases b with
      | @dct q kvs' _ h2 k2 _ =>
        cases kvs with
        | cons _ _ => cases k1
        | nil =>
          cases kvs' with
          | cons _ _ => cases k2
          | nil => exact .dct (i _ _ h1) (j _ _ h2)
  | tup _ ih =>
    intro v w i j a b
    cases a with
    | tup s1 l1 =>
      cases b with
      | tup s2 l2 =>
        refine .tup (i.tup s1) (j.tup s2) (by rw [l1.length, l2.length]) fun k x y hx hy => ?_
        obtain ⟨t1, e1, h1⟩ := l1.get2 hx
        obtain ⟨t2, e2, h2⟩ := l2.get2 hy
        rw [e1] at e2
        cases e2
        exact ih t1 (List.mem_of_getElem? e1) i j h1 h2
  | lst _ ih =>
    intro v w i j a b
    cases a with
    | lst s1 l1 =>
      cases b with
      | lst s2 l2 =>
        refine .lst (i.seq s1) (j.seq s2) (by rw [l1.length, l2.length]) fun k x y hx hy => ?_
        obtain ⟨t1, e1, h1⟩ := l1.get2 hx
        obtain ⟨t2, e2, h2⟩ := l2.get2 hy
        rw [e1] at e2
        cases e2
        exact ih t1 (List.mem_of_getElem? e1) i j h1 h2
section
variable {B : Bk} {τ τ' : TSt} {Φ : TK} {x y : Kd} {ts us : List Tr} {K : PySem.W.Frag} {b : Bool}
theorem ro_alkT (hK : K = B.K) {n : Nat} (d : ∀ t ∈ ts, Dp n t) (hn : n ≤ 100) (r1 : Rk τ x (.tup ts)) (r2 : Rk τ y (.tup ts)) (q : Φ (.fz (.bl b)) τ) : RO B (rAlk K b) x y τ Φ := fun _ _ _ _ _ _ r a b c => by
  subst hK
  obtain ⟨p, vs, rfl, s, l⟩ := r1.tuple r a
  obtain ⟨p2, ws, rfl, s2, l2⟩ := r2.tuple r b
  refine ⟨p, p2, rfl, rfl, ⟨n, vs, ws, hn, .inl ⟨s, s2⟩, by rw [l.length, l2.length], fun j x y hx hy => ?_⟩, c.pl r .bl q⟩
  obtain ⟨t1, e1, h1⟩ := l.get2 hx
  obtain ⟨t2, e2, h2⟩ := l2.get2 hy
  rw [e1] at e2
  cases e2
  exact alike_of (d t1 (List.mem_of_getElem? e1)) r.inc r.inc h1 h2
theorem inV_str {z : Str} : ∀ {ws : List Str}, inV (.str z) (ws.map V.str) = decide (z ∈ ws)
  | [] => rfl
  | x :: r => by
    have ih := inV_str (z := z) (ws := r)
    unfold inV at ih ⊢
    rw [List.map_cons, List.any_cons, ih]
    show ((x == z) || decide (z ∈ r)) = _
    by_cases h : x = z
    · subst h; simp
    · have h1 : (x == z) = false := by simpa using h
      rw [h1, Bool.false_or]
      by_cases k : z ∈ r
      · rw [decide_eq_true k, decide_eq_true (List.mem_cons_of_mem _ k)]
      · rw [decide_eq_false k, decide_eq_false (fun q => (List.mem_cons.mp q).elim (fun e => h e.symm) k)]
theorem flat_str : ∀ {ws : List Str}, (ws.map V.str).all flatV = true
  | [] => rfl
  | _ :: _ => by rw [List.map_cons, List.all_cons, flat_str]; rfl
theorem ro_in (hK : K = B.K) {ws : List Str} {z : Str} (r2 : Rk τ y (.lst (ws.map Tr.str))) (q : Φ (.fz (.bl (decide (z ∈ ws)))) τ) : RO B (rIn K false) (.fz (.str z)) y τ Φ := fun σ F H v w Q r a b c => by
  subst hK
  cases pd_str a
  obtain ⟨p, vs, rfl, s, l⟩ := r2.list r b
  rw [l.strs] at s
  refine ⟨p, _, rfl, .inl s, rfl, flat_str, ?_⟩
  rw [inV_str]; exact c.pl r .bl q
theorem ro_notin (hK : K = B.K) {ws : List Str} {z : Str} (r2 : Rk τ y (.lst (ws.map Tr.str))) (q : Φ (.fz (.bl (!decide (z ∈ ws)))) τ) : RO B (rIn K true) (.fz (.str z)) y τ Φ := fun σ F H v w Q r a b c => by
  subst hK
  cases pd_str a
  obtain ⟨p, vs, rfl, s, l⟩ := r2.list r b
  rw [l.strs] at s
  refine ⟨p, _, rfl, .inl s, rfl, flat_str, ?_⟩
  rw [inV_str]; exact c.pl r .bl q
noncomputable def ixS (ws : List Str) (z : Str) : Option Nat := ws.findIdx? fun x => decide (x = z)
theorem ixS_is {ws : List Str} {z : Str} {j : Nat} (h : ixS ws z = some j) : ws[j]? = some z ∧ ∀ i u, i < j → ws[i]? = some u → u ≠ z := by
  unfold ixS at h
  rw [List.findIdx?_eq_some_iff_getElem] at h
  obtain ⟨hl, e, hb⟩ := h
  have e : ws[j] = z := by simpa using e
  refine ⟨by rw [List.getElem?_eq_getElem hl, e], fun i x hi hx => ?_⟩
  have := hb i hi
  obtain ⟨_, ex⟩ := List.getElem?_eq_some_iff.mp hx
  rw [ex] at this
  simpa using this
theorem rm_index (hK : K = B.K) {ws : List Str} {z : Str} {j : Nat} (rk : Rk τ x (.lst (ws.map Tr.str))) (h : ixS ws z = some j) (q : Φ (.fz (.int (j : Nat))) τ) : RM B (rIndex K) x [.str z] τ Φ := fun σ F H v vs Q r a l c => by
  subst hK
  obtain ⟨p, ws', rfl, s, l2⟩ := rk.list r a
  rw [l2.strs] at s
  cases l with
  | cons h1 l =>
    cases l
    cases h1
    obtain ⟨e1, e2⟩ := ixS_is h
    refine ⟨p, _, .str z, .str z, j, rfl, rfl, s, rfl, flat_str, by rw [List.getElem?_map, e1]; rfl, show (z == z) = true by simp, fun i u hi hu => ?_, c.pl r .int q⟩
    rw [List.getElem?_map] at hu
    cases ew : ws[i]? with
    | none => rw [ew] at hu; cases hu
    | some y =>
      rw [ew] at hu
      cases hu
      have := e2 i y hi ew
      show (y == z) = false
      simpa using this
theorem ro_eqE (hK : K = B.K) {f : Bool → Bool} (r1 : Rk τ x (.lst ts)) (r2 : Rk τ y (.lst [])) (q : Φ (.fz (.bl (f ts.isEmpty))) τ) : RO B (rEqE K f) x y τ Φ := fun σ F H v w Q r a b c => by
  subst hK
  obtain ⟨p, vs, rfl, s, l⟩ := r1.list r a
  obtain ⟨p2, ws, rfl, s2, l2⟩ := r2.list r b
  cases l2
  refine ⟨p, p2, vs, rfl, rfl, s, s2, ?_⟩
  have e : vs.isEmpty = ts.isEmpty := by cases l <;> rfl
  rw [e]; exact c.pl r .bl q
theorem e_repLit {tA : TA} {n : Int} (h0 : 0 ≤ n) (h1 : n ≤ 1000) (h : EVA B tA τ fun ts τ1 => ts.length ≤ 1000 ∧ Φ (.nw (.lst (List.replicate n.toNat ts).flatten)) τ1) : EV B (tOp rRep (tLst tA) (tC (.int n))) τ Φ := fun σ F H Q r c => by
  refine h σ F H _ r fun vs F1 H1 ts τ1 f1 r1 l1 ⟨hl, h2⟩ => ⟨by rw [l1.length]; exact Nat.le_trans hl (by decide), fun p hp => ?_⟩
  have u := r1.new (o := .lst vs) hp
  refine ⟨p, n, vs, rfl, rfl, upd_same, by omega, by omega, Nat.le_trans (Nat.mul_le_mul (show vs.length ≤ 1000 by rw [l1.length]; exact hl) (show n.toNat ≤ 1000 by omega)) (by decide), fun p' hp' => ?_⟩
  refine (c.on (f1.trans (Fr.up u))).nl (r1.go u) ?_ hp' h2
  generalize n.toNat = m
  induction m with
  | zero => exact .nil
  | succ m ih => rw [List.replicate_succ, List.replicate_succ, List.flatten_cons, List.flatten_cons]; exact l1.app ih
theorem e_isiTL (hK : K = B.K) {te : TE} (h : EV B te τ fun x τ1 => Pnd x τ1 fun x τ1 => ∃ t g b, x = .fz t ∧ tgT t = some g ∧ (g.isTup || g.isLst) = b ∧ Φ (.fz (.bl b)) τ1) : EV B (tCB (rIsiTL K) (tCons te (tCons (tTup (tCons (tC (.ty "tuple")) (tCons (tC (.ty "list")) tNil))) tNil))) τ Φ := fun σ F H Q rp c => by
  subst hK
  refine h σ F H _ rp fun v F1 H1 k τ1 f1 r1 ok1 n1 h1 => ?_
  obtain ⟨F2, k', f2, r2, ok2, ⟨t, g, b, e1, e2, e3, φ⟩, _⟩ := pnd_ok f1 r1 ok1 n1 h1
  subst e1
  subst e3
  refine ⟨by decide, fun p hp => ?_⟩
  have u := r2.tup (vs := [.ty "tuple", .ty "list"]) hp
  refine ⟨v, g, p, rfl, SqT.of upd_same, is_tg (r2.go u).inc (Is.same u.f ok2) e2, ?_⟩
  exact (c.on (f2.trans (Fr.up u))).pl (r2.go u) .bl φ
theorem t_efzT {t : Tr} {g : Tg} {S : Bool → Prop} (e : tgT t = some g) (h : (g.isTup || g.isLst) = true) (q : S true) : ∃ t' g' b, Kd.fz t = .fz t' ∧ tgT t' = some g' ∧ (g'.isTup || g'.isLst) = b ∧ S b := ⟨t, g, true, rfl, e, h, q⟩
theorem t_efzF {t : Tr} {g : Tg} {S : Bool → Prop} (e : tgT t = some g) (h : (g.isTup || g.isLst) = false) (q : S false) : ∃ t' g' b, Kd.fz t = .fz t' ∧ tgT t' = some g' ∧ (g'.isTup || g'.isLst) = b ∧ S b := ⟨t, g, false, rfl, e, h, q⟩
end
section
variable {B : Bk} {τ : TSt} {Φ : TK}
theorem e_callD0 {K : PySem.W.Frag} (hK : K = B.K) {S : SpT} {E : XK} {tA : TA} {j : Int} (h : EVW B tA τ fun as τ1 => ∀ F H, S (B.now F H) (as ++ [.fz (.int j)]) (fun k => Φ k τ1) fun _ => False) : EV B (tCall (toSp K S) [.int j] E tA) τ Φ := fun σ F H Q rp c => by
  subst hK
  unfold tCall
  refine h σ F H _ rp fun vs F1 H1 as τ1 f1 r1 l1 h1 => ?_
  refine ⟨B.now F1 H1, _, _, _, rfl, rfl, r1.bkok, l1.now.app (.cons (a := .fz (.int j)) Is.int .nil), h1 F1 H1, fun v F2 H2 kd u ok φ => ?_, fun C F2 H2 u ψ => ψ.elim⟩
  obtain ⟨a, b⟩ := ret_kd r1 (B' := B.now F1 H1) rfl rfl ok
  exact c.on f1 v F2 H2 kd τ1 (Fr.up u.of_now) (r1.go u.of_now) (by
    cases kd with
    | nw t => exact ⟨a.choose, a.choose_spec.1, a.choose_spec.2.1, a.choose_spec.2.2⟩
    | _ => exact a) b φ
end
end L2

namespace L2
open PySem PySem.Spec PyProof.Rows
theorem arl2 {B : Bk} {F : Hp} {vs : List V} {t u : Tr} (h : ArL B F vs [.fz t, .fz u]) : ∃ v w, vs = [v, w] ∧ Is B.K F v t ∧ Is B.K F w u := by
  cases h with
  | cons a b =>
    cases b with
    | cons b c => cases c; exact ⟨_, _, rfl, a, b⟩
noncomputable def addT (F H : Hp) : Hp := fun p => match F p with
  | some o => some o
  | none => match H p with
    | some (.tup xs) => some (.tup xs)
    | some (.frz o (.tup xs)) => some (.frz o (.tup xs))
    | _ => none
theorem addT_some {F H : Hp} {p : Addr} {o : HO} (h : addT F H p = some o) : F p = some o ∨ (F p = none ∧ H p = some o ∧ ¬ Mb o) := by
  unfold addT at h
  cases e : F p with
  | some o' => rw [e] at h; exact .inl h
  | none =>
    rw [e] at h
    refine .inr ⟨rfl, ?_⟩
    cases e2 : H p with
    | none => rw [e2] at h; cases h
    | some o2 =>
      rw [e2] at h
      cases o2 with
      | tup xs => cases h; exact ⟨rfl, fun z => z⟩
      | frz o3 u =>
        cases u with
        | tup xs => cases h; exact ⟨rfl, fun z => z⟩
        | _ => cases h
      | _ => cases h
theorem upT {B : Bk} {F H H' : Hp} (k : BkOk B) (hF : B.F0 = F) (hH : B.H0 = H) (s : Same H H') : Up B F H (addT F H') H' where
  f := fun b o e => by unfold addT; rw [e]
  h := fun p o _ e => s p o e
  i := fun p o e => by
    rcases addT_some e with e | ⟨_, e, _⟩
    · exact s p o (by rw [← hH]; exact k.i p o (by rw [hF]; exact e))
    · exact e
  m := fun p o hp mb n => by
    cases e : addT F H' p with
    | none => rfl
    | some o2 =>
      rcases addT_some e with e | ⟨_, e, nm⟩
      · rw [n] at e; cases e
      · have := s p o hp
        rw [this] at e
        cases e
        exact (nm mb).elim
  w := fun p e => s.free e
  x := fun p hw n => by
    cases e : addT F H' p with
    | none => rfl
    | some o2 =>
      rcases addT_some e with e | ⟨_, e, nm⟩
      · rw [n] at e; cases e
      · obtain ⟨o, ho, mb⟩ := B.jm H' p (B.jl H H' (fun p hw => by
          cases e : H p with
          | none => exact absurd (by rw [hH]; exact e) (k.wa p hw)
          | some o => rw [s p o e]) (fun p φ z => s p _ z) (by rw [← hH]; exact k.wj)) hw
        rw [ho] at e
        cases e
        exact (nm mb).elim
  j := fun h => B.jl _ _ (fun p hw => by
    cases e : H p with
    | none => exact absurd (by rw [hH]; exact e) (k.wa p hw)
    | some o => rw [s p o e]) (fun p φ z => s p _ z) h
theorem SqT.addT {K : PySem.W.Frag} {F H : Hp} {p : Addr} {xs : List V} (i : Same F H) (h : SqT K H p xs) : SqT K (addT F H) p xs := by
  rcases h with (h | ⟨o, h⟩) | h
  · refine .inl (.inl ?_)
    unfold L2.addT
    cases e : F p with
    | some o => exact (i p o e).symm.trans h
    | none => show (match H p with | some (.tup xs) => some (HO.tup xs) | some (.frz o (.tup xs)) => some (HO.frz o (.tup xs)) | _ => none) = _; rw [h]
  · refine .inl (.inr ⟨o, ?_⟩)
    unfold L2.addT
    cases e : F p with
    | some o2 => exact (i p o2 e).symm.trans h
    | none => show (match H p with | some (.tup xs) => some (HO.tup xs) | some (.frz o (.tup xs)) => some (HO.frz o (.tup xs)) | _ => none) = _; rw [h]
  · exact .inr h
end L2

namespace L2
open PySem PySem.Spec PyProof.Rows
noncomputable def SVD (B : Bk) (D : Ends) (t : TS) (τ : TSt) : Prop := ∀ σ F H, Rp B F H σ τ → t D σ H
section
variable {B : Bk} {τ : TSt} {s1 s2 : TS} {D : Ends} {i j : Nat} {ts us : List Tr}
theorem d_seq (h : SV B s1 τ ⟨fun τ' => SVD B D s2 τ', fun _ => False, fun _ => False, fun _ => False⟩) : SVD B D (tSeq s1 s2) τ := fun σ F H r =>
  h σ F H _ r ⟨fun σ' F' H' τ' _ r' h' => h' σ' F' H' r', fun _ _ _ _ _ _ z => z.elim, fun _ _ _ _ _ _ z => z.elim, fun _ _ _ _ _ _ z => z.elim⟩
end
noncomputable def bkL (K : PySem.W.Frag) (F H : Hp) (p : Addr) (l : List (Addr × List V)) : Bk where
  K := K
  F0 := F
  H0 := H
  W := fun q => ∃ vs, (q, vs) ∈ l
  J := fun H' => ∀ x ∈ l, H' x.1 = some (.lst x.2)
  rt := p
  jl := fun H H' e _ h x hx => by rw [← e x.1 ⟨x.2, hx⟩]; exact h x hx
  jm := fun H q h hw => by
    obtain ⟨vs, hx⟩ := hw
    exact ⟨_, h _ hx, trivial⟩
section
variable {B : Bk} {τ : TSt} {σ : St} {F H F' H' : Hp} {p : Addr} {l : List (Addr × List V)} {k : Nat}
variable {D : Ends} {s2 : TS}
variable {B' : Bk} {a b : Addr} {ws : List V} {ts us ms : List Tr}
theorem Rp.plain {H3 : Hp} (r : Rp B F H σ τ) (cl : ∀ i s, TAt τ i s → s = .no ∨ ∃ t, s = .fz t) (s : Same F H3) : Rp (bkL B.K F H3 p []) F H3 σ τ where
  up := Up.refl s
  wa := fun q hw => by obtain ⟨_, hx⟩ := hw; exact absurd hx List.not_mem_nil
  wf := fun q hw => by obtain ⟨_, hx⟩ := hw; exact absurd hx List.not_mem_nil
  wj := fun x hx => absurd hx List.not_mem_nil
  wd := fun i e => by rcases cl i _ e with z | ⟨_, z⟩ <;> cases z
  len := r.len
  fz := r.fz
  ow := fun i t e => by rcases cl i _ e with z | ⟨_, z⟩ <;> cases z
  vw := fun i t e => by rcases cl i _ e with z | ⟨_, z⟩ <;> cases z
  ap := fun i j t u l e => by rcases cl i _ e with z | ⟨_, z⟩ <;> cases z
  av := fun i j t u l e => by rcases cl i _ e with z | ⟨_, z⟩ <;> cases z
theorem law_open {K : PySem.W.Frag} {H : Hp} {a : Addr} {ns : List Int} {Q : VK} (hS : SqL K H a (ns.map V.int)) (q : ∀ H', Q (.bl true) H') (N : List Str) (t : TS) (h : ∀ D : Ends, (∀ H', D.rt (.bl true) H') → SVD (bkL K H H a []) D t (startT N.length [.fz (.lst (ns.map Tr.int))])) : t { nx := fun _ H' => Q .non H', rt := Q } (start N [.ref a]) H :=
  h _ q _ H H (rp_start (B := bkL K H H a []) ⟨Same.refl _, fun q hw => (by obtain ⟨_, hx⟩ := hw; exact absurd hx List.not_mem_nil), fun q hw => (by obtain ⟨_, hx⟩ := hw; exact absurd hx List.not_mem_nil), fun x hx => absurd hx List.not_mem_nil⟩ (.cons (a := .fz _) (.lst hS (IsL.ofInts ns)) .nil))
end
end L2

namespace L2
open PySem PySem.Spec PyProof.Rows
section
variable {B B' : Bk} {τ τ' : TSt} {D : Ends} {s2 : TS} {p a b : Addr} {vs ws : List V} {ts us : List Tr} {k : Nat}
end
end L2

namespace L2
open PySem PySem.Spec PyProof.Rows
noncomputable def VwB (B : Bk) (ts : List Tr) : Prop := ∃ vs, IsL B.K B.F0 vs ts ∧ ∀ H, B.J H → H B.rt = some (.lst vs)
theorem VwB.now {B : Bk} {ts : List Tr} {F H : Hp} (h : VwB B ts) (s : Same B.F0 F) : VwB (B.now F H) ts := by
  obtain ⟨vs, a, b⟩ := h
  exact ⟨vs, a.same s, b⟩
section
variable {B : Bk} {τ τ' : TSt} {k : Nat}
abbrev Bk.at (B : Bk) (l : Addr) : Bk := { B with rt := l }
theorem ArL.base {B1 B2 : Bk} {F : Hp} (hK : B1.K = B2.K) (hr : B1.rt = B2.rt) : ∀ {vs : List V} {as : List Ar}, ArL B1 F vs as → ArL B2 F vs as
  | _, _, .nil => .nil
  | _, _, .cons (a := .fz t) h g => .cons (a := .fz t) (by have h : Is B1.K F _ t := h; rw [hK] at h; exact h) (ArL.base hK hr g)
  | _, _, .cons (a := .wd) h g => .cons (a := .wd) (by have h : _ = V.ref B1.rt := h; rw [hr] at h; exact h) (ArL.base hK hr g)
end
end L2
namespace L2
end L2

namespace L2
open PySem PySem.Spec PyProof.Rows
section
variable {B : Bk} {τ τ1 : TSt} {Φ : TK} {te : TE} {K : PySem.W.Frag} {x y : Kd}
theorem ro_inT (hK : K = B.K) {ws : List Str} {z : Str} (r2 : Rk τ y (.tup (ws.map Tr.str))) (q : Φ (.fz (.bl (decide (z ∈ ws)))) τ) : RO B (rIn K false) (.fz (.str z)) y τ Φ := fun σ F H v w Q r a b c => by
  subst hK
  cases pd_str a
  obtain ⟨p, vs, rfl, s, l⟩ := r2.tuple r b
  rw [l.strs] at s
  refine ⟨p, _, rfl, .inr s, rfl, flat_str, ?_⟩
  rw [inV_str]; exact c.pl r .bl q
end
end L2

namespace L2
open PySem PySem.Spec PyProof.Rows
noncomputable def addS (acc : List Str) (z : Str) : List Str := if z ∈ acc then acc else acc ++ [z]
noncomputable def metS (ws : List Str) : List Str := ws.foldl addS []
theorem metS_snoc (ws : List Str) (z : Str) : metS (ws ++ [z]) = addS (metS ws) z := by unfold metS; rw [List.foldl_append]; rfl
theorem addS_mem {acc : List Str} {z x : Str} : x ∈ addS acc z ↔ x ∈ acc ∨ x = z := by
  unfold addS
  split
  · rename_i h; exact ⟨.inl, fun q => q.elim id fun e => e ▸ h⟩
  · rw [List.mem_append, List.mem_singleton]
theorem addS_len {acc : List Str} {z : Str} : (addS acc z).length = if decide (z ∈ acc) = true then acc.length else acc.length + 1 := by
  unfold addS
  by_cases h : z ∈ acc
  · rw [if_pos h, decide_eq_true h, if_pos rfl]
  · rw [if_neg h, decide_eq_false h, if_neg Bool.false_ne_true, List.length_append]; rfl
theorem metS_le : ∀ ws : List Str, (metS ws).length ≤ ws.length := by
  have g : ∀ (ws acc : List Str), (ws.foldl addS acc).length ≤ acc.length + ws.length := by
    intro ws
    induction ws with
    | nil => intro acc; exact Nat.le_refl _
    | cons z r ih =>
      intro acc
      have h1 := ih (addS acc z)
      have h2 : (addS acc z).length ≤ acc.length + 1 := by rw [addS_len]; split <;> omega
      rw [List.foldl_cons, List.length_cons]
      omega
  intro ws
  have := g ws []
  unfold metS
  simpa using this
section
variable {prog : Program} {w : World} {A : Around} {R : Result → Shared → Prop} {I : Addr} {fp wr : List Addr} {G : Array GenState → Array GenState → Prop} {n : Nat} {P : Nat → Value → Prop} {St : Nat → Shared → Prop}
theorem set_walk (W : WalksS prog w A.in1 I fp wr G n P St) (S : Addr) (nS : S ∉ fp) (ws : List Str) (lw : ws.length = n)
    (tx : ∀ i v, P i v → ∃ z t, ws[i]? = some z ∧ v = .str z t) (room : n + 1 < scanBound) : ∀ (k i : Nat) (s : Shared), n - i = k → i ≤ n → St i s →
      s.heap.SetOf (strKind prog w) S (fun x => decide (x ∈ metS (ws.take i))) (metS (ws.take i)).length →
      (∀ s', Moved (S :: wr) G s s' → s'.heap.SetOf (strKind prog w) S (fun x => decide (x ∈ metS ws)) (metS ws).length → R (.ok (.ret .none)) s') →
      codeAny (model prog w) A (.builtin "set.update.loop" ⟨[.ref S, .ref I], []⟩) R s := by
  have nW : S ∉ wr := fun z => nS (W.sub _ z)
  have up : ∀ b ∈ wr, b ∈ S :: wr := fun b z => List.mem_cons_of_mem _ z
  have on : ∀ {s s' : Shared} {f : Str → Bool} {m : Nat}, Moved wr G s s' → s.heap.SetOf (strKind prog w) S f m → s'.heap.SetOf (strKind prog w) S f m := fun mv q => by
    obtain ⟨o, es, ep, t, ho, r⟩ := q
    exact ⟨o, es, ep, t, mv.heap S _ nW ho, r⟩
  intro k
  induction k with
  | zero =>
    intro i s ek il st hS fin
    obtain rfl : i = n := by omega
    refine codeAny_builtin F.entry_set_update_loop ?_
    rw [Around.under_plainId F.plain_set_update_loop _]
    refine wpAny_bind (m := pyNext (.ref I)) (W.done s _ _ st fun s' mv => ?_)
    refine wpAny_pure (fin s' (mv.mono up) ?_)
    have q := on mv hS
    rw [← lw, List.take_length] at q
    exact q
  | succ k ih =>
    intro i s ek il st hS fin
    have lt : i < n := by omega
    refine codeAny_builtin F.entry_set_update_loop ?_
    rw [Around.under_plainId F.plain_set_update_loop _]
    refine wpAny_bind (m := pyNext (.ref I)) (W.item i s _ _ lt st fun v s' pv st' mv => ?_)
    obtain ⟨z, t, ez, rfl⟩ := tx i v pv
    have hS' := on mv hS
    refine wpAny_bind (m := holding [Value.str z t] (setAdd S (.str z t))) (wpAny_holding ?_)
    unfold setAdd
    refine wpAny_holding (wpAny_bind ((strKind prog w).pyHash (k := z) (strKind_is _ _ _ _) ?_))
    have rm : (metS (ws.take i)).length + 1 < scanBound := by
      have h1 := metS_le (ws.take i)
      rw [List.length_take] at h1
      omega
    refine wpAny_setAddHashed_of (knd := strKind prog w) (s := { s' with toks := s'.toks + 1 }) (strKind_is _ _ _ _) rfl hS' rm fun h' sb hS2 => ?_
    have ei : metS (ws.take (i + 1)) = addS (metS (ws.take i)) z := by rw [List.take_succ, ez]; exact metS_snoc _ _
    have hN : h'.SetOf (strKind prog w) S (fun x => decide (x ∈ metS (ws.take (i + 1)))) (metS (ws.take (i + 1))).length :=
      SetOf_congr hS2 (fun x => by rw [ei, Bool.eq_iff_iff, decide_eq_true_eq, addS_mem, Bool.or_eq_true, decide_eq_true_eq, decide_eq_true_eq]) (by rw [ei, addS_len])
    refine wpAny_pure ⟨plainId_quiet F.plain_set_update_loop _, ih (i + 1) _ (by omega) lt (W.frame _ s' _ _ st' (Nat.le_succ _) fun b z o e => ?_) hN fun s'' mv2 q => ?_⟩
    · rw [sb.2 b (fun y : b = S => nS (by rw [← y]; exact z))]; exact e
    · refine fin s'' (Moved.trans W.gtrans ((mv.mono up).then_heap (Nat.le_succ _) fun b o z e => ?_) mv2) q
      rw [sb.2 b (fun y : b = S => z (by rw [y]; exact List.mem_cons_self))]; exact e
end
end L2
namespace L2
open PySem PySem.Spec PyProof.Rows
section
variable {prog : Program} {w : World} {A : Around} {E : Value → Shared → Prop} {s : Shared}
abbrev noSet (b : Bool) : Obj := { cls := .type "set", dict := none, data := .set #[] 0 (.fresh 0 0 b) }
set_option maxHeartbeats 6400000 in
theorem set_of_tup {l : Addr} {its : Array Value} {ws : List Str} {Q : Value → Shared → Prop} (nh : A.handled = none) (tl : s.heap.IsTuple l its) (lw : ws.length = its.size) (tx : ∀ (i : Nat) (v : Value), its[i]? = some v → ∃ z t, ws[i]? = some z ∧ v = Value.str z t) (room : its.size + 1 < scanBound)
    (q : ∀ (h' : Heap) (tk : Nat), h'.SetOf (strKind prog w) s.heap.objs.size (fun x => decide (x ∈ metS ws)) (metS ws).length → (∀ b o, b < s.heap.objs.size → s.heap.get? b = some o → h'.get? b = some o) → Q (.ref s.heap.objs.size) { s with heap := h', toks := tk }) :
    wpAny (model prog w) A (call (.type "set") [.ref l]) Q E s := by
  obtain ⟨c0, c1, order⟩ := F.called_set.mro
  have made := F.called_set.made
  have sub0 := F.called_set.sub
  refine wpAny_call (codeAny_of_tree ?_)
  show wpAny _ _ (callAny (.type "set") _) _ _ _
  refine wpAny_pure ⟨Code.quiet_builtin _ (by decide +kernel), codeAny_builtin F.entry_type_call ?_⟩
  rw [Around.under_plain (weight_type_call_type "set" [.ref l] []) rfl]
  have k1 := F.called_set.notType
  have k2 := F.called_set.canCreate
  have k3 := F.typeCall_set_1 (.ref l)
  repeat any_goals first | assumption | wp_step
  refine codeAny_mono (code_set_new_1 (.ref l) (E := E) (Q₁ := fun v s1 => ∃ ld : Bool, v = .ref s.heap.objs.size ∧ s1 = { s with heap := s.heap.push (noSet ld) }) fun ld => ⟨ld, rfl, rfl⟩) fun r s1 hr => ?_
  cases r with
  | error e => exact hr
  | ok fl =>
    cases fl with
    | ret v =>
      obtain ⟨ld, rfl, rfl⟩ := hr
      have gS : (s.heap.push (noSet ld)).get? s.heap.objs.size = some (noSet ld) := Heap.get?_push_size _ rfl
      have ty : Shared.TypeIs { s with heap := s.heap.push (noSet ld) } (.ref s.heap.objs.size) "set" := ⟨_, gS, rfl⟩
      have i1 := F.called_set.init.lookup
      have i2 := F.called_set.init.bind (.ref s.heap.objs.size)
      repeat any_goals first | assumption | wp_step
      refine codeAny_mono (codeAny_call_builtin (R := wants (fun r s2 => r = .none ∧ ∃ h' tk, s2 = { s with heap := h', toks := tk } ∧ h'.SetOf (strKind prog w) s.heap.objs.size (fun x => decide (x ∈ metS ws)) (metS ws).length ∧ ∀ b o, b < s.heap.objs.size → s.heap.get? b = some o → h'.get? b = some o) E) F.called_set.init.plain F.entry_set_init (check_set_init_1 ty ?_)) fun r2 s2 hr2 => ?_
      · obtain ⟨ot, got, ct, nt, dt⟩ := tl
        obtain ⟨oc, od, odt, os⟩ := ot
        simp only at ct dt
        subst ct; subst dt
        have got1 : (s.heap.push (noSet ld)).get? l = some { cls := .type "tuple", dict := od, data := .seq its nt, slots := os } := Heap.get?_push_of_some _ got
        have t1 := F.sub_tuple_set
        have t2 := F.sub_tuple_frozenset
        have t3 : (Value.type "tuple" == Value.type "dict") = false := by decide
        have tl1 : (s.heap.push (noSet ld)).IsTuple l its := ⟨_, got1, rfl, nt, rfl⟩
        unfold Builtin.«set.__init__» noKeywords Builtin.Frozenset.updateFrom
        generalize ePI : pyIter = PI
        wp_walk
        subst ePI
        refine wpAny_pyIter_tuple tl1 ?_
        refine wpAny_bind (wpAny_runValue ?_)
        have lS : l < s.heap.objs.size := Heap.lt_size got
        have nh3 : A.in1.in1.in1.handled = none := by simp [nh]
        have sz : (s.heap.push (noSet ld)).objs.size = s.heap.objs.size + 1 := Heap.size_push ..
        have nI : l ≠ (s.heap.push (noSet ld)).objs.size := by rw [sz]; exact Nat.ne_of_lt (Nat.lt_succ_of_lt lS)
        have nS : s.heap.objs.size ∉ [(s.heap.push (noSet ld)).objs.size, l] := by
          rw [sz]
          simp only [List.mem_cons, List.not_mem_nil, or_false, not_or]
          exact ⟨Nat.ne_of_lt (Nat.lt_succ_self _), Nat.ne_of_gt lS⟩
        refine set_walk ((Walks.tuple nh3 _ l nI its).toS) s.heap.objs.size nS ws lw tx room (its.size - 0) 0 _ (by omega) (Nat.zero_le _) ⟨⟨_, Heap.get?_push_size _ rfl, rfl, rfl⟩, (tl1.push _)⟩ ?z0 ?z1
        case z0 =>
          exact SetOf_congr ((setObjOf_fresh (knd := strKind prog w) ld).setOf (Heap.get?_push_of_some _ gS) (by unfold scanBound; omega)) (fun x => by simp [metS]) rfl
        case z1 =>
          intro s' mv gs
          obtain ⟨h', g', d', tk', os'⟩ := s'
          obtain rfl : g' = s.gens := mv.gens
          obtain rfl : d' = s.drawn := mv.drawn
          obtain rfl : os' = s.os := mv.os
          refine wpAny_pure ?_
          show wpAny _ _ (ret Value.none) _ _ _
          refine wpAny_pure ⟨rfl, h', tk', rfl, gs, fun b o lb e => mv.heap b o ?_ (Heap.get?_push_of_some _ (Heap.get?_push_of_some _ e))⟩
          simp only [List.mem_cons, List.not_mem_nil, or_false, not_or]
          rw [sz]
          exact ⟨Nat.ne_of_lt lb, Nat.ne_of_lt (Nat.lt_succ_of_lt lb)⟩
      · cases r2 with
        | error e => exact hr2
        | ok f2 =>
          cases f2 with
          | ret v2 =>
            obtain ⟨rfl, h', tk, rfl, gs, kp⟩ := hr2
            repeat any_goals first | assumption | wp_step
            exact q _ _ gs kp
          | _ => exact hr2.elim
    | _ => exact hr.elim
end
end L2

namespace L2
open PySem PySem.Spec PyProof.Rows
section
variable {X : Cx}
end
section
variable {B : Bk} {τ : TSt} {Φ : TK} {te : TE} {K : PySem.W.Frag} {P : Program} {w : World}
end
end L2

namespace L2
open PySem PySem.Spec PyProof.Rows
section
variable {prog : Program} {w : World} {A : Around} {E : Value → Shared → Prop} {s : Shared}
set_option maxHeartbeats 6400000 in
theorem set_of_lst {l : Addr} {its : Array Value} {ws : List Str} {Q : Value → Shared → Prop} (nh : A.handled = none) (tl : s.heap.IsList l its) (lw : ws.length = its.size) (tx : ∀ (i : Nat) (v : Value), its[i]? = some v → ∃ z t, ws[i]? = some z ∧ v = Value.str z t) (room : its.size + 1 < scanBound)
    (q : ∀ (h' : Heap) (tk : Nat), h'.SetOf (strKind prog w) s.heap.objs.size (fun x => decide (x ∈ metS ws)) (metS ws).length → (∀ b o, b < s.heap.objs.size → s.heap.get? b = some o → h'.get? b = some o) → Q (.ref s.heap.objs.size) { s with heap := h', toks := tk }) :
    wpAny (model prog w) A (call (.type "set") [.ref l]) Q E s := by
  obtain ⟨c0, c1, order⟩ := F.called_set.mro
  have made := F.called_set.made
  have sub0 := F.called_set.sub
  refine wpAny_call (codeAny_of_tree ?_)
  show wpAny _ _ (callAny (.type "set") _) _ _ _
  refine wpAny_pure ⟨Code.quiet_builtin _ (by decide +kernel), codeAny_builtin F.entry_type_call ?_⟩
  rw [Around.under_plain (weight_type_call_type "set" [.ref l] []) rfl]
  have k1 := F.called_set.notType
  have k2 := F.called_set.canCreate
  have k3 := F.typeCall_set_1 (.ref l)
  repeat any_goals first | assumption | wp_step
  refine codeAny_mono (code_set_new_1 (.ref l) (E := E) (Q₁ := fun v s1 => ∃ ld : Bool, v = .ref s.heap.objs.size ∧ s1 = { s with heap := s.heap.push (noSet ld) }) fun ld => ⟨ld, rfl, rfl⟩) fun r s1 hr => ?_
  cases r with
  | error e => exact hr
  | ok fl =>
    cases fl with
    | ret v =>
      obtain ⟨ld, rfl, rfl⟩ := hr
      have gS : (s.heap.push (noSet ld)).get? s.heap.objs.size = some (noSet ld) := Heap.get?_push_size _ rfl
      have ty : Shared.TypeIs { s with heap := s.heap.push (noSet ld) } (.ref s.heap.objs.size) "set" := ⟨_, gS, rfl⟩
      have i1 := F.called_set.init.lookup
      have i2 := F.called_set.init.bind (.ref s.heap.objs.size)
      repeat any_goals first | assumption | wp_step
      refine codeAny_mono (codeAny_call_builtin (R := wants (fun r s2 => r = .none ∧ ∃ h' tk, s2 = { s with heap := h', toks := tk } ∧ h'.SetOf (strKind prog w) s.heap.objs.size (fun x => decide (x ∈ metS ws)) (metS ws).length ∧ ∀ b o, b < s.heap.objs.size → s.heap.get? b = some o → h'.get? b = some o) E) F.called_set.init.plain F.entry_set_init (check_set_init_1 ty ?_)) fun r2 s2 hr2 => ?_
      · obtain ⟨ot, got, ct, nt, dt⟩ := tl
        obtain ⟨oc, od, odt, os⟩ := ot
        simp only at ct dt
        subst ct; subst dt
        have got1 : (s.heap.push (noSet ld)).get? l = some { cls := .type "list", dict := od, data := .seq its nt, slots := os } := Heap.get?_push_of_some _ got
        have t1 := F.sub_list_set
        have t2 := F.sub_list_frozenset
        have t3 : (Value.type "list" == Value.type "dict") = false := by decide
        have tl1 : (s.heap.push (noSet ld)).IsList l its := ⟨_, got1, rfl, nt, rfl⟩
        unfold Builtin.«set.__init__» noKeywords Builtin.Frozenset.updateFrom
        generalize ePI : pyIter = PI
        wp_walk
        subst ePI
        refine wpAny_pyIter_list tl1 ?_
        refine wpAny_bind (wpAny_runValue ?_)
        have lS : l < s.heap.objs.size := Heap.lt_size got
        have nh3 : A.in1.in1.in1.handled = none := by simp [nh]
        have sz : (s.heap.push (noSet ld)).objs.size = s.heap.objs.size + 1 := Heap.size_push ..
        have nI : l ≠ (s.heap.push (noSet ld)).objs.size := by rw [sz]; exact Nat.ne_of_lt (Nat.lt_succ_of_lt lS)
        have nS : s.heap.objs.size ∉ [(s.heap.push (noSet ld)).objs.size, l] := by
          rw [sz]
          simp only [List.mem_cons, List.not_mem_nil, or_false, not_or]
          exact ⟨Nat.ne_of_lt (Nat.lt_succ_self _), Nat.ne_of_gt lS⟩
        refine set_walk ((Walks.list nh3 _ l nI its).toS) s.heap.objs.size nS ws lw tx room (its.size - 0) 0 _ (by omega) (Nat.zero_le _) ⟨⟨_, Heap.get?_push_size _ rfl, rfl, rfl⟩, (tl1.push _)⟩ ?z0 ?z1
        case z0 =>
          exact SetOf_congr ((setObjOf_fresh (knd := strKind prog w) ld).setOf (Heap.get?_push_of_some _ gS) (by unfold scanBound; omega)) (fun x => by simp [metS]) rfl
        case z1 =>
          intro s' mv gs
          obtain ⟨h', g', d', tk', os'⟩ := s'
          obtain rfl : g' = s.gens := mv.gens
          obtain rfl : d' = s.drawn := mv.drawn
          obtain rfl : os' = s.os := mv.os
          refine wpAny_pure ?_
          show wpAny _ _ (ret Value.none) _ _ _
          refine wpAny_pure ⟨rfl, h', tk', rfl, gs, fun b o lb e => mv.heap b o ?_ (Heap.get?_push_of_some _ (Heap.get?_push_of_some _ e))⟩
          simp only [List.mem_cons, List.not_mem_nil, or_false, not_or]
          rw [sz]
          exact ⟨Nat.ne_of_lt lb, Nat.ne_of_lt (Nat.lt_succ_of_lt lb)⟩
      · cases r2 with
        | error e => exact hr2
        | ok f2 =>
          cases f2 with
          | ret v2 =>
            obtain ⟨rfl, h', tk, rfl, gs, kp⟩ := hr2
            repeat any_goals first | assumption | wp_step
            exact q _ _ gs kp
          | _ => exact hr2.elim
    | _ => exact hr.elim
end

section
variable {X : Cx}
end
section
variable {B : Bk} {τ : TSt} {Φ : TK} {te : TE} {K : PySem.W.Frag} {P : Program} {w : World}
end
end L2

namespace L2
open PySem PySem.Spec PyProof.Rows
section
variable {B : Bk} {τ τ1 : TSt} {k : Nat} {F H F2 H2 : Hp} {σ : St} {l : Addr} {Ok : List V → Prop}
end
end L2

namespace L2
open PySem PySem.Spec PyProof.Rows
section
variable {B : Bk} {τ : TSt} {ta tb tc : TE}
end
end L2

namespace L2
open PySem PySem.Spec PyProof.Rows
section
variable {B : Bk} {τ : TSt} {Φ : TK} {x y : Kd} {ts us : List Tr} {K : PySem.W.Frag}
theorem e_dnew (q : Φ (.nw (.dct [])) τ) : EV B tDNewK τ Φ := fun σ F H Q r c p hp => by
  refine c _ F _ (.nw (.dct [])) τ (Fr.up (r.new hp)) (r.go (r.new hp)) ⟨p, rfl, .dct upd_same rfl .nil, r.inc.free hp, r.up.w p hp, fun i u h e => ?_⟩ (fun l e => by cases e; exact hp) q
  rcases h with h | h
  · obtain ⟨l', e', g, _⟩ := r.ow i u h
    obtain ⟨o, ho, _⟩ := g.mb
    cases sat_unique e' e
    rw [hp] at ho; cases ho
  · obtain ⟨l', e', g, _⟩ := r.vw i u h
    obtain ⟨o, ho, _⟩ := g.mb
    cases sat_unique e' e
    rw [hp] at ho; cases ho
end
end L2

namespace L2
open PySem PySem.Spec PyProof.Rows PySem.W
section
variable {X : Cx} {pins : List (Addr × Obj)} {σ : St} {H : Hp} {s : Shared}
theorem Inv.old (I : Inv X pins σ H s) {it : Addr} (h : s.heap.objs.size ≤ it) : ∀ p ∈ pins, p.1 ≠ it := fun p hp z => absurd (z ▸ Heap.lt_size (I.pin p (List.mem_append_right _ hp)).1) (Nat.not_lt_of_le h)
end

section
variable {X : Cx} {pins : List (Addr × Obj)} {σ : St} {H : Hp} {s : Shared} {A : Around} {f : Value} {b : Bool} {vs : List Value} {kz : List Int} {kS a : Addr} {e1 : Nat} {R : PySem.Fin → Shared → Prop} {E : Value → Shared → Prop}
end
end L2

namespace L2
open PySem PySem.Spec PyProof.Rows PySem.W
noncomputable def CodeAt (c' : Addr) (qual : Str) : Heap → Prop := fun h => h.CodeRec (.ref c') qual
noncomputable def TabOk (Pt : Addr) (pos : Pos) (qual : Str) (H : Hp) : Prop :=
  ∃ ps, H Pt = some (.tbl ps) ∧ TriplesOk ps.toList ∧ (codeAmong pos ps.toList = none ∨ ∃ c', codeAmong pos ps.toList = some (.ref c') ∧ H c' = some (.ext (CodeAt c' qual)))
inductive TabStep (Pt : Addr) (pos : Pos) (qual : Str) (H : Hp) : Hp → Prop
  | hit : TabStep Pt pos qual H H
  | new {ps more : Array Value} {c' : Addr} : H Pt = some (.tbl ps) → H c' = none → TabOk Pt pos qual (upd (upd H Pt (.tbl (ps ++ more))) c' (.ext (CodeAt c' qual))) → TabStep Pt pos qual H (upd (upd H Pt (.tbl (ps ++ more))) c' (.ext (CodeAt c' qual)))
section
variable {X : Cx} {pins : List (Addr × Obj)} {σ : St} {H : Hp} {s : Shared} {E : Value → Shared → Prop}
end
end L2

namespace L2
open PySem PySem.Spec PyProof.Rows PySem.W PySem.Calls
end L2

namespace L2
open PySem PySem.Spec PyProof.Rows
structure HasTab (Pt : Addr) (pos : Pos) (q : Str) (B : Bk) : Prop where
  w : B.W Pt
  t : ∀ H, B.J H → TabOk Pt pos q H
  s : ∀ H H', TabStep Pt pos q H H' → B.J H → B.J H'
theorem HasTab.now {Pt : Addr} {pos : Pos} {q : Str} {B : Bk} (h : HasTab Pt pos q B) (F H : Hp) : HasTab Pt pos q (B.now F H) := ⟨h.w, h.t, h.s⟩
end L2
namespace L2
open PySem PySem.Spec PyProof.Rows
section
variable {P : Program} {w : World} {K : PySem.W.Frag} {mg : Str → Option Value} {base : Heap}
end
end L2

namespace L2
open PySem PySem.Spec PyProof.Rows PySem.W PySem.Calls
section
variable {X : Cx}
end
end L2

namespace L2
open PySem PySem.Spec PyProof.Rows
section
variable {B : Bk} {K : PySem.W.Frag} {τ : TSt} {Φ : TK} {x : Kd} {ns : List Int}
end
end L2

namespace L2
open PySem PySem.Spec
section
variable {B : Bk} {τ τ' : TSt} {Φ : TK} {te ta : TE}
end
end L2

namespace L2
open PySem PySem.Spec
theorem IsL.set {K : PySem.W.Frag} {F : Hp} : ∀ {vs : List V} {ts : List Tr} {v : V} {t : Tr} (n : Nat), IsL K F vs ts → Is K F v t → IsL K F (vs.set n v) (ts.set n t)
  | _, _, _, _, _, .nil, _ => .nil
  | _, _, _, _, 0, .cons _ g, h => .cons h g
  | _, _, _, _, n + 1, .cons a g, h => .cons a (IsL.set n g h)
section
variable {B : Bk} {τ τ' : TSt} {N : TSt → Prop} {ti : TE}
variable {Φ : TK} {te : TE}
end
end L2

namespace L2
open PySem PySem.Spec PyProof.Rows
section
variable {X : Cx}
end
section
variable {B : Bk} {τ : TSt} {Φ : TK}
end
end L2

namespace L2
open PySem PySem.Spec PyProof.Rows
section
variable {X : Cx} {x : Str} {C : Addr}
theorem ObjOk.here {P : Program} {w : World} {H : Hp} {h : Heap} {a : Addr} {o : HO} (x : ObjOk P w H h a o) : ∃ u, h.get? a = some u := by
  cases o with
  | lst xs => obtain ⟨_, _, _, _, e⟩ := x; exact ⟨_, e⟩
  | tup xs => obtain ⟨_, _, _, p⟩ := x; obtain ⟨_, e⟩ := p; exact ⟨_, e.1⟩
  | dK kvs => obtain ⟨_, _, _, _, o, _, _, e, _⟩ := x; exact ⟨_, e⟩
  | dT kvs => obtain ⟨_, _, _, _, o, _, _, e, _⟩ := x; exact ⟨_, e⟩
  | set S n => obtain ⟨o, _, _, _, e, _⟩ := x; exact ⟨_, e⟩
  | ins C dx fs => obtain ⟨_, _, _, e, _⟩ := x; exact ⟨_, e⟩
  | own y => obtain ⟨_, e⟩ := x; exact ⟨_, e⟩
  | xd fs => obtain ⟨_, ⟨_, _, _, e, _⟩, _⟩ := x; exact ⟨_, e⟩
  | rng lo hi => obtain ⟨_, _, _, e⟩ := x; exact ⟨_, e⟩
  | frz ob u => obtain ⟨e, _⟩ := x; exact ⟨_, e⟩
  | tbl ps => exact ⟨_, (show h.get? a = some _ from x)⟩
  | met f y => exact ⟨_, (show h.get? a = some _ from x)⟩
  | ext φ => obtain ⟨_, ⟨_, e⟩, _⟩ := x; exact ⟨_, e⟩
variable {p pos : Pos} {e0 : Expr} {es : List Expr} {t : TA}
end
end L2

namespace PySem
open Sem (wp)
section
open PySem.W
variable {prog : Program} {w : World} {A : Around} {h : Heap} {g : Array GenState} {d : Drawn} {t : Nat} {os : OsState} {E : Value → Shared → Prop}
variable {nm q : Str} {C N fI : Addr} {bs bm bmB : List Value} {hdct : Bool} {sn : List Str} {sub : List Value} {ab : Bool} {col : Option Bool} {dd : Option Addr} {k0 k1 k2 k3 k5 : Option Value} {B Bn newId nid initId inN : String} {bmN : List Value}
end
end PySem

namespace L2
open PySem PySem.Spec PyProof.Rows
section
open PySem.W PySem.Calls PySem.Builtin PySem.Builtin.ObjectAttr
variable {prog : Program} {w : World} {A : Around} {E : Value → Shared → Prop} {s : Shared} {K : Frag} {a C : Addr} {oe : Obj}
end
end L2

namespace L2
open PySem PySem.Spec PyProof.Rows
section
variable {P : Program} {w : World} {H : Hp} {h : Heap} {a C dx t : Addr} {oe : Obj} {vs : Array Value}
end
section
variable {X : Cx} {pins : List (Addr × Obj)} {σ : St} {H : Hp} {s : Shared}
end
section
variable {X : Cx} {k : Nat} {C fI : Addr} {fd : FuncData} {f : Str}
end
end L2

namespace L2
open PySem PySem.Spec PyProof.Rows
section
variable {X : Cx} {x : Str} {C fI : Addr} {r : List V → Hp → VK → Prop} {p pos : Pos} {e0 : Expr} {es : List Expr} {t : TA}
end
section
variable {X : Cx} {k : Nat} {f : Addr} {fd : FuncData} {ps : List Str} {sp : Sp} {dvs : List V} {ds : List Value} {fx cx n : Str} {p cpos epos np hpos pos : Pos} {e : Expr} {es : List Expr} {t : TA} {T C : Addr} {b0 : Stmt} {suite : List Stmt} {ts : Addr → TS} {j : Nat}
end
end L2

namespace PySem
section
variable {M : Model} {A : Around} {E : Value → Shared → Prop} {s : Shared} {env : Env}
variable {nm q : Str} {C N : Addr} {bs bm : List Value} {hdct : Bool} {sn : List Str} {sub : List Value} {ab : Bool} {col : Option Bool} {dd : Option Addr} {k0 k1 k2 k3 k5 : Option Value} {newId : String}
end
end PySem
namespace L2
open PySem PySem.Spec PyProof.Rows
section
variable {P : Program} {w : World} {K : PySem.W.Frag} {mg : Str → Option Value} {base : Heap} {N : List Str} {qual : Str} {scope : Scope} {f : Addr} {cd : Value} {A : Around} {outer : List Env} {s : Shared} {H : Hp} {E : XK}
  {pins : List (Addr × Obj)} {σ : St} {H1 : Hp} {s1 : Shared} {a C dx : Addr} {fld : Str} {v : V}
end
section
variable {X : Cx} {k : Nat} {C fI : Addr} {fd : FuncData} {f : Str}
variable {E : XK} {x : Str} {np cpos pos : Pos} {e0 : Expr} {es : List Expr} {t : TA}
end
end L2

namespace PySem
section
variable {M : Model} {A : Around} {E : Value → Shared → Prop} {s : Shared} {base : Heap} {env : Env} {outer l : List Env} {L e : Addr} {cls : Value} {dx : Option Addr} {Q : Unit → Shared → Prop}
noncomputable def Heap.StX (h base : Heap) (e : Addr) (cls : Value) (dx : Option Addr) (L : Addr) : Prop :=
  (∃ (x : Obj) (vs : Array Value), h.get? e = some x ∧ (x.cls = cls ∧ x.dict = dx ∧ (dx = none → vs[2]? = some .none)) ∧ x.data = .fields vs ∧ vs[1]? = some .none) ∨ h.TrX base e cls dx .none ∨ h.TrX base e cls dx (rawInt L)
end
end PySem
namespace L2
open PySem PySem.Spec PyProof.Rows
structure Way (X : Cx) (H' : Hp) (B : Heap) (a : Addr) (s' : Shared) : Prop where
  os : s'.os = X.s₀.os
  bare : AllBare s'.gens
  hok : HOk X.prog X.w H' B
  st : B.StaysIn s'.heap
  na : B.get? a = none
  ff : s'.heap.FunFrames B X.stack
  un : Un (frs X.outer) [] X.H₀ H' X.s₀.heap s'.heap
  kU : ∀ b o, X.s₀.heap.get? b = some o → X.H₀ b = none → b ∉ frs X.outer → B.get? b = some o
  kT : ∀ b o, X.s₀.heap.get? b = some o → b ∉ frs X.outer → ∃ o', B.get? b = some o'
noncomputable def XeS (X : Cx) (E : XK) : Value → Shared → Prop := fun e s' => ∃ (a C : Addr) (dx : Option Addr) (H' : Hp) (B : Heap), e = .ref a ∧ Way X H' B a s' ∧ s'.heap.StX B a (.ref C) dx X.env.locals ∧ E (.ref C) dx H'
section
variable {X : Cx} {E : XK} {H' : Hp} {B h2 : Heap} {a : Addr} {s' : Shared} {cls : Value} {dx : Option Addr} {fl : Value}
end
section
variable {P : Program} {w : World} {K : PySem.W.Frag} {mg : Str → Option Value} {base : Heap} {N : List Str} {qual : Str} {scope : Scope} {f : Addr} {cd : Value} {A : Around} {outer : List Env} {s : Shared} {H : Hp} {E : XK}
noncomputable abbrev cxS (P : Program) (w : World) (K : PySem.W.Frag) (mg : Str → Option Value) (base : Heap) (N : List Str) (qual : Str) (scope : Scope) (f : Addr) (cd : Value) (A : Around) (outer : List Env) (s : Shared) (H : Hp) (E : XK) : Cx :=
  (cxOf (CXe P w) P w K mg base N qual scope f cd A outer s H E).wish (XeS (cxOf (CXe P w) P w K mg base N qual scope f cd A outer s H E) E)
end
section
variable {P : Program} {w : World} {K : PySem.W.Frag} {mg : Str → Option Value} {base : Heap} {N : List Str} {qual : Str} {scope : Scope} {f : Addr} {cd : Value} {A : Around} {outer : List Env} {s : Shared} {H : Hp} {E : XK}
end
end L2

namespace PySem
section
variable {prog : Program} {w : World} {A : Around} {E : Value → Shared → Prop} {s : Shared} {env : Env}
variable {nm q : Str} {C N : Addr} {bs bm : List Value} {hdct : Bool} {sn : List Str} {sub : List Value} {ab : Bool} {col : Option Bool} {dd : Option Addr} {k0 k1 k2 k3 k5 : Option Value} {newId : String}
end
end PySem
namespace L2
open PySem PySem.Spec PyProof.Rows
section
variable {X : Cx} {k : Nat} {C fI : Addr} {fd : FuncData} {f : Str}
end
section
variable {P : Program} {w : World} {K : PySem.W.Frag} {mg : Str → Option Value} {base : Heap} {N : List Str} {qual : Str} {scope : Scope} {f : Addr} {cd : Value} {A : Around} {outer : List Env} {s : Shared} {H : Hp} {E : XK}
end
section
variable {X : Cx} {k k2 : Nat} {f fI : Addr} {fd fd2 : FuncData} {ps : List Str} {sp : Sp} {dvs : List V} {ds : List Value} {fx x c1 c2 cx : Str} {p cpos px apos q1 q2 tpos np c2pos kpos rpos spos hpos pos : Pos} {e : Expr} {es : List Expr} {t : TA} {T1 T2 C : Addr} {i : Nat} {E : XK} {fld : Str} {tx n1 n2 : Nat}
end
end L2

namespace L2
open PySem PySem.Spec PyProof.Rows
section
variable {X : Cx} {pins : List (Addr × Obj)} {σ : St} {H : Hp} {s : Shared}
end
section
variable {X : Cx} {pins : List (Addr × Obj)} {σ : St} {H : Hp} {s s' : Shared} {E : XK} {ex : Value} {x n : Str} {T C : Addr} {np hpos : Pos} {b0 : Stmt} {suite : List Stmt} {ts : Addr → TS} {D : Ends} {j : Nat}
end
section
variable {X : Cx} {k : Nat} {f : Addr} {fd : FuncData} {ps : List Str} {sp : Sp} {dvs : List V} {ds : List Value} {fx cx n : Str} {p cpos epos np hpos pos : Pos} {e : Expr} {es : List Expr} {t : TA} {T C : Addr} {b0 : Stmt} {suite : List Stmt} {ts : Addr → TS} {j : Nat}
end
end L2

namespace L2
open PySem PySem.Spec PyProof.Rows PySem.SeqAt
section
end
section
variable {X : Cx}
noncomputable def PsL (K : PySem.W.Frag) (H : Hp) (ps : List V) (cs : List (List Str)) : Prop := ps.length = cs.length ∧ ∀ (j : Nat) (v : V) (c : List Str), ps[j]? = some v → cs[j]? = some c → ∃ r, v = .ref r ∧ SqT K H r (c.map V.str)
noncomputable def rNiP (K : PySem.W.Frag) : R2 := fun x y H Q => ∃ (p q : Addr) (ps : List V) (zs : List Str) (cs : List (List Str)), x = .ref p ∧ y = .ref q ∧ SqT K H p (zs.map V.str) ∧ SqL K H q ps ∧ PsL K H ps cs ∧ Q (.bl (!decide (zs ∈ cs))) H
theorem strs_inj : ∀ {xs ys : List Str}, xs.map V.str = ys.map V.str → xs = ys
  | [], [], _ => rfl
  | [], _ :: _, h => by cases h
  | _ :: _, [], h => by cases h
  | x :: xs, y :: ys, h => by
    rw [List.map_cons, List.map_cons] at h
    injection h with h1 h2
    injection h1 with h1
    rw [h1, strs_inj h2]
theorem strs_all {c zs : List Str} : ((List.range (min c.length zs.length)).all (fun j => decide (c[j]? = zs[j]?)) && c.length == zs.length) = decide (c = zs) := by
  by_cases h : c = zs
  · subst h
    rw [decide_eq_true rfl]
    simp
  · rw [decide_eq_false h, Bool.and_eq_false_iff]
    by_cases hl : c.length = zs.length
    · refine .inl ?_
      cases ha : (List.range (min c.length zs.length)).all (fun j => decide (c[j]? = zs[j]?)) with
      | false => rfl
      | true =>
        refine absurd (List.ext_getElem? fun i => ?_) h
        rcases Nat.lt_or_ge i c.length with k | k
        · exact of_decide_eq_true (List.all_eq_true.mp ha i (List.mem_range.mpr (by omega)))
        · rw [List.getElem?_eq_none k, List.getElem?_eq_none (by omega)]
    · exact .inr (by simpa using hl)
theorem Inv.eqStrs {pins : List (Addr × Obj)} {σ : St} {H : Hp} {s : Shared} (I : Inv X pins σ H s) {A : Around} {r p : Addr} {c zs : List Str} (hu : A.units < cLine) (hr : SqT X.K H r (c.map V.str)) (hp : SqT X.K H p (zs.map V.str)) : EqAt A s (.ref r) (.ref p) (decide (c = zs)) := by
  by_cases e : r = p
  · subst e
    have : c = zs := strs_inj (I.tuple_inj hr hp)
    rw [decide_eq_true this]
    exact EqAt.same _
  refine EqAt.of_refs e ?_
  obtain ⟨its, v1, p1, _⟩ := I.tuple hr
  obtain ⟨its2, v2, p2, _⟩ := I.tuple hp
  have l1 := v1.length
  have l2 := v2.length
  rw [List.length_map] at l1 l2
  have key := RcAt.tuples (A := A) (s := s) (l := r) (b := p) (items := its.toArray) (items2 := its2.toArray) (e := fun j => decide (c[j]? = zs[j]?)) p1 p2 hu (fun j g1 g2 => by
    have g1' : j < its.length := by simpa using g1
    have g2' : j < its2.length := by simpa using g2
    obtain ⟨x, ex, rx⟩ := vals_at v1 (List.getElem?_eq_getElem g1')
    obtain ⟨y, ey, ry⟩ := vals_at v2 (List.getElem?_eq_getElem g2')
    have w1 : its.toArray[j] = its[j] := by simp
    have w2 : its2.toArray[j] = its2[j] := by simp
    rw [w1, w2]
    rw [List.getElem?_map] at ex ey
    obtain ⟨a, ea, rfl⟩ := Option.map_eq_some_iff.mp ex
    obtain ⟨b, eb, rfl⟩ := Option.map_eq_some_iff.mp ey
    obtain ⟨t, et⟩ := rx
    obtain ⟨t', et'⟩ := ry
    rw [ea, eb, et, et']
    have e : decide (some a = some b) = (a == b) := by
      by_cases z : a = b
      · subst z; simp
      · simp [z]
    rw [e]
    exact EqAt.str_str a t b t')
  have e2 : ((List.range (min its.toArray.size its2.toArray.size)).all (fun j => decide (c[j]? = zs[j]?)) && its.toArray.size == its2.toArray.size) = decide (c = zs) := by
    rw [List.size_toArray, List.size_toArray, ← l1, ← l2, strs_all]
  rw [e2] at key
  exact key
open Classical in
theorem op_notInP (hu : X.A.units + 150 < cLine) : OpR X (compareOp .NotIn) (rNiP X.K) := by
  intro pins s σ H x y v u Q I rx ry h
  obtain ⟨p, q, ps, zs, cs, rfl, rfl, hp, hq, hP, k⟩ := h
  cases rx
  cases ry
  obtain ⟨its, r, pl, hz⟩ := I.list hq
  have rel : ∀ (j : Nat) (w : Value), its[j]? = some w → ∃ a c, w = .ref a ∧ cs[j]? = some c ∧ SqT X.K H a (c.map V.str) := fun j w hw => by
    obtain ⟨x, hx, rx⟩ := vals_at r hw
    obtain ⟨c, hc⟩ : ∃ c, cs[j]? = some c := ⟨_, List.getElem?_eq_getElem (by rw [← hP.1]; exact (List.getElem?_eq_some_iff.mp hx).1)⟩
    obtain ⟨a, rfl, ha⟩ := hP.2 j x c hx hc
    cases rx
    exact ⟨a, c, rfl, hc, ha⟩
  let e : Value → Bool := fun w => decide (∃ a, w = .ref a ∧ SqT X.K H a (zs.map V.str))
  have ev : ∀ (a : Addr) (c : List Str), SqT X.K H a (c.map V.str) → e (.ref a) = decide (c = zs) := fun a c ha => by
    show decide _ = decide _
    by_cases z : c = zs
    · subst z
      rw [decide_eq_true rfl]
      exact decide_eq_true ⟨a, rfl, ha⟩
    · rw [decide_eq_false z]
      exact decide_eq_false fun ⟨a', ea, ha'⟩ => z (by cases ea; exact strs_inj (I.tuple_inj ha ha'))
  refine SeqAt.notIn_listAt e pl.isList (fun w hw => ?_) ⟨.bl _, H, I, rfl, ?_⟩
  · have hw : w ∈ its := by simpa using hw
    obtain ⟨j, hj⟩ := List.getElem?_of_mem hw
    obtain ⟨a, c, rfl, _, ha⟩ := rel j w hj
    rw [ev a c ha]
    exact I.eqStrs (by show X.A.units + 1 < cLine; omega) ha hp
  · have ea : its.toArray.any e = decide (zs ∈ cs) := by
      rw [show its.toArray.any e = its.any e by simp]
      by_cases z : zs ∈ cs
      · rw [decide_eq_true z, List.any_eq_true]
        obtain ⟨j, hj⟩ := List.getElem?_of_mem z
        have l1 := r.length
        obtain ⟨w, hw⟩ : ∃ w, its[j]? = some w := ⟨_, List.getElem?_eq_getElem (by rw [← l1, hP.1]; exact (List.getElem?_eq_some_iff.mp hj).1)⟩
        obtain ⟨a, c, rfl, hc, ha⟩ := rel j w hw
        rw [hj] at hc
        cases hc
        exact ⟨_, List.mem_of_getElem? hw, by rw [ev a zs ha]; exact decide_eq_true rfl⟩
      · rw [decide_eq_false z, List.any_eq_false]
        intro w hw
        obtain ⟨j, hj⟩ := List.getElem?_of_mem hw
        obtain ⟨a, c, rfl, hc, ha⟩ := rel j w hj
        rw [ev a c ha, decide_eq_false (fun h : c = zs => z (by rw [← h]; exact List.mem_of_getElem? hc))]
        decide
    rw [ea]
    exact k
end
section
variable {B : Bk} {τ τ' : TSt} {Φ : TK} {K : PySem.W.Frag}
end
end L2

namespace L2
open PySem PySem.Spec PyProof.Rows
section
variable {X : Cx} {k : Nat} {f : Addr} {fd : FuncData} {ps : List Str} {sp : Sp} {fx cx n : Str} {p cpos cmpos kpos ipos np hpos pos : Pos} {e : Expr} {es : List Expr} {t : TA} {T C : Addr} {b0 : Stmt} {suite body : List Stmt} {ts : Addr → TS} {i j : Nat} {kj}
end
end L2

namespace L2
open PySem PySem.Spec PyProof.Rows
section
variable {X : Cx}
noncomputable def rListD : List V → Hp → VK → Prop := fun xs H Q => ∃ (p : Addr) (kvs : List (Key × V)) (ws : List Str), xs = [.ref p] ∧ H p = some (.dK kvs) ∧ kvs.map (·.1) = ws.map Sum.inr ∧ ∀ l, H l = none → Q (.ref l) (upd H l (.lst (ws.map V.str)))
theorem kv_at {κ : Type} : ∀ {kvs : List (κ × V)} {vs : List (κ × Value)}, KV kvs vs → ∀ {j : Nat} {k : κ} {x : Value}, vs[j]? = some (k, x) → (kvs.map (·.1))[j]? = some k
  | _, _, .nil, j, k, x, h => by simp at h
  | _, _, .cons r rr, 0, k, x, h => by
    cases h
    exact congrArg some r.1
  | _, _, .cons r rr, j + 1, k, x, h => kv_at rr (j := j) h
theorem vals_of : ∀ {ws : List Str} {us : List Value}, us.length = ws.length → (∀ (j : Nat) (u : Value), us[j]? = some u → ∃ z t, ws[j]? = some z ∧ u = .str z t) → Vals (ws.map V.str) us
  | [], [], _, _ => .nil
  | [], _ :: _, h, _ => by simp at h
  | _ :: _, [], h, _ => by simp at h
  | w :: ws, u :: us, h, g => by
    obtain ⟨z, t, e, rfl⟩ := g 0 u rfl
    cases e
    exact .cons ⟨t, rfl⟩ (vals_of (by simpa using h) fun j v hv => g (j + 1) v hv)
theorem call_list_dK (hc : X.calm = true) : CallR X (.type "list") rListD := by
  intro pins s σ H xs us Q I r h
  obtain ⟨p, kvs, ws, rfl, hp, hk, q⟩ := h
  obtain ⟨u, rfl, rx⟩ := vals1 r
  cases rx
  obtain ⟨hz, hS, vs, rv, m⟩ : kvs.length ≤ sizeLine ∧ (p == sysModules) = false ∧ ∃ vs, KV kvs vs ∧ s.heap.DictOf (mixKind X.prog X.w) p vs := I.hok p _ hp
  obtain ⟨ep, m2⟩ := m.dictAt
  have hlen : vs.length = kvs.length := rv.length.symm
  have hw : ws.length = kvs.length := by have := congrArg List.length hk; rw [List.length_map, List.length_map] at this; exact this.symm
  refine PySem.W.kdl_call (PySem.W.kdl_dict (knd := mixKind X.prog X.w) (kvs := vs) (ep := ep) hS) (I.ok.hd hc) m2 (by rw [hlen]; exact hz) (fun h' tk acc' c' kp e hacc => ?_)
  obtain ⟨l1, l2⟩ := hacc
  have hv : Vals (ws.map V.str) acc'.toList := by
    refine vals_of (by rw [Array.length_toList, l1, hlen, hw]) fun j u hu => ?_
    obtain ⟨k, x, hkx, his⟩ := l2 j u (by rw [← Array.getElem?_toList]; exact hu)
    have := kv_at rv hkx
    rw [hk, List.getElem?_map] at this
    obtain ⟨z, hz1, rfl⟩ := Option.map_eq_some_iff.mp this
    rcases keyIs_shape (show keyIs (Sum.inr z) u = true from his) with ⟨i, t, e1, _⟩ | ⟨x', t, e1, e2⟩
    · cases e1
    · cases e1
      exact ⟨z, t, hz1, e2⟩
  refine ⟨.ref s.heap.objs.size, _, I.laid (t' := tk) kp (Nat.le_refl _) (show ObjOk X.prog X.w _ h' _ (.lst (ws.map V.str)) from ⟨by rw [List.length_map, hw]; exact hz, acc'.toList, c', hv, by rw [Array.toArray_toList]; exact e⟩), rfl, q _ (I.hok.fresh (Nat.le_refl _))⟩
end
end L2

namespace L2
open PySem PySem.Spec PyProof.Rows
noncomputable def tTryH (i0 i j : Nat) (f : Bool → Addr) (sp : Bool → Sp) (C : Addr) (t : TA) (ts : Addr → TS) : TS := fun D σ H => ∃ b : Bool, σ[i0]? = some (some (.ref (f b))) ∧ t σ H fun vs H1 => sp b vs H1 (fun v H2 => D.nx (σ.set i (some v)) H2) fun cls _ H2 => cls = .ref C ∧ ∀ a, H2 a = none → ts a (goneD j D) (σ.set j (some (.ref a))) (upd H2 a (ExcO a C))
section
variable {X : Cx} {k : Nat} {f : Bool → Addr} {fd : Bool → FuncData} {ps : List Str} {sp : Bool → Sp} {fx x cx n : Str} {p cpos px apos np hpos pos : Pos} {e : Expr} {es : List Expr} {t : TA} {T C : Addr} {b0 : Stmt} {suite : List Stmt} {ts : Addr → TS} {i0 i j : Nat}
theorem ps_tryH (F : ∀ b, FnOk X.prog X.w X.K X.mg X.base (CXe X.prog X.w) k (f b) (fd b) ps (sp b)) (hr : Room k X.A) (hv : PE X (.Name fx p) (tVar i0)) (hk : ∀ b, PySem.W.keepIn X.K (.ref (f b)) = true) (hb : ∀ b, Binds X.K (fd b) ps []) (h0 : ∀ e s, X.xe e s → False)
    (hst : X.stack = X.env :: X.outer) (hf : X.env.frame = some X.env.locals) (ha : PA X (e :: es) t) (hN : X.N.Nodup) (hi : X.N[i]? = some x) (hx : Loc X.env.scope x)
    (hj : X.N[j]? = some n) (hln : X.env.scope.names.lookup n = some .local) (hkn : X.env.kindOf n = some .local) (M1 : Meets1 X cx T C true) (hex : X.ex = [])
    (hs : ∀ a, PSs (X.marked a) (b0 :: suite) (ts a)) (he : starEach (e :: es) X.env = (false, eval e X.env) :: starEach es X.env := by rfl) (hpl : (backTo cpos (starEach es X.env)).any (·.1) = false := by rfl)
    (hsw : swapsWith (.Call (.Name fx p) (e :: es) [] cpos) (some (.Name x px)) apos.line X.env = pure false := by rfl) (hfn : X.fn x = true ∨ X.env.scope.names.lookup x = some .local := by first | exact .inl rfl | exact .inr rfl | assumption) :
    PS X (.Try [.Assign [.Name x px] (.Call (.Name fx p) (e :: es) [] cpos) apos] [.ExceptHandler (some (.Name cx np)) (some n) (b0 :: suite) hpos] [] [] pos) (tTryH i0 i j f sp C t ts) := by
  intro pins s σ H D I h
  obtain ⟨b, hget, h⟩ := h
  refine wpAny_Try_except ?_
  refine wpAny_execs_cons ?_
  refine wpAny_Assign_Name ?_ hsw
  refine wpAny_Call_Name_kw ?_
  refine wpAny_mono (hv pins s σ H (fun v H1 => v = .ref (f b) ∧ H1 = H) I ⟨_, hget, rfl, rfl⟩) (fun u s0 z => ?_) fun e s z => (h0 e s z).elim
  obtain ⟨v0, H0, I0, r0, rfl, rfl⟩ := z
  cases r0
  refine PySem.W.callWith_K (h₀ := X.base) I0.ok.mod.kin (hk b) (wpAny_mono (ha cpos pins s0 σ _ _ I0 h) (fun us s1 z => ?_) fun e s z => (h0 e s z).elim) he hpl
  obtain ⟨vs, H1, I1, r, q⟩ := z
  refine ⟨I1.kIn, ?_⟩
  have hl : us.length = ps.length := by rw [← r.length]; exact (F b).len _ _ _ _ q
  have hl2 : (us ++ []).length = ps.length := by rw [List.append_nil]; exact hl
  have hb1 := hb b s1 us I1.kIn hl2
  rw [List.append_nil] at hb1
  refine wpAny_call (codeAny_mono ((F b).run X.A X.stack s1 H1 ⟨us, []⟩ us vs _ _ hr I1.env0 hb1 r q) fun rr s' hq => ?_)
  cases rr with
  | error ex => exact caught_at (ts := ts) I1 hst hf h0 (show CXe X.prog X.w X.stack H1 s1 (fun cls _ H2 => cls = .ref C ∧ ∀ a, H2 a = none → ts a (goneD j D) (σ.set j (some (.ref a))) (upd H2 a (ExcO a C))) ex s' from hq) hN hj hln hkn M1 hex (fun cls _ H' z => z) hs
  | ok fl =>
    cases fl with
    | ret u =>
      obtain ⟨v, H2, I2, rv, q2⟩ := I1.after hq
      refine store_ok I2 hN hi hx rv (fun s2 I3 => ?_) hfn
      exact wpAny_execs_nil (wpAny_execs_nil ⟨_, H2, I3, q2⟩)
    | next => exact False.elim hq
    | brk => exact False.elim hq
    | cont => exact False.elim hq
end
end L2

namespace L2
open PySem PySem.Spec PyProof.Rows
theorem ps_setLCPIf {X : Cx} {elt iter c : Expr} {t1 t2 : Str} {x1 : _} {p1 p2 p3 pos : Pos} {sc : Scope} {fr : List (Str × Nat)} {wi : TI} {te : TE} {tc : TT} {y : Str} {py spos : Pos} {iy : Nat} (hN : X.N.Nodup) (hi' : X.N[iy]? = some y) (hy : Loc X.env.scope y) (hc : X.calm = true) (ok : CompOkG X [t1, t2] sc fr ∧ sc.names.lookup t1 = some .local ∧ sc.names.lookup t2 = some .local)
    (hi : PI X (.Tuple [.Name t1 p1, .Name t2 p2] x1 p3) iter wi) (ht : ∀ cl C s3 H3 fp, PT (X.blk ([t1, t2] ++ fr.map (·.1)) sc cl C s3 H3 fp) c tc) (he : ∀ cl C s3 H3 fp, PE (X.blk ([t1, t2] ++ fr.map (·.1)) sc cl C s3 H3 fp) elt te) (hs : ∀ x, foldedSetIterable iter X.env x = pure x := by intro _; rfl)
    (hsw : swapsWith (.ListComp elt [⟨.Tuple [.Name t1 p1, .Name t2 p2] x1 p3, iter, [c], 0⟩] sc pos) (some (.Name y py)) spos.line X.env = pure true := by rfl) (hfn : X.fn y = true ∨ X.env.scope.names.lookup y = some .local := by first | exact .inl rfl | exact .inr rfl | assumption) :
    PS X (.Assign [.Name y py] (.ListComp elt [⟨.Tuple [.Name t1 p1, .Name t2 p2] x1 p3, iter, [c], 0⟩] sc pos) spos) (tAsg (tLCG 2 fr wi (gTup X.K 2 (gCons (gName 0) (gCons (gName 1) gNil))) tc te) (gName iy)) :=
  ps_setLCG (tgs := [t1, t2]) hN hi' hy hc ok.1 hi (fun _ _ _ _ _ => pg_tup hc (pgs_cons (pg_name ok.1.nd rfl (.inl (lookup_relabel_local ok.2.1)) (.inr (lookup_relabel_local ok.2.1))) (pgs_cons (pg_name ok.1.nd rfl (.inl (lookup_relabel_local ok.2.2)) (.inr (lookup_relabel_local ok.2.2))) pgs_nil))) (fun _ _ _ _ _ => pif_one (ht _ _ _ _ _)) he hs hsw hfn
noncomputable def rEqLT (K : PySem.W.Frag) : R2 := fun x y H Q => ∃ (p q : Addr) (xs ys : List V), x = .ref p ∧ y = .ref q ∧ SqL K H p xs ∧ SqT K H q ys ∧ Q (.bl false) H
theorem op_eqLT {X : Cx} (hu : X.A.units < cLine) : OpR X (compareOp .Eq) (rEqLT X.K) := by
  intro pins s σ H x y v u Q I rx ry h
  obtain ⟨p, q, xs, ys, rfl, rfl, hp, hq, k⟩ := h
  cases rx
  cases ry
  obtain ⟨its, r1, p1, _⟩ := I.list hp
  obtain ⟨its2, r2, p2, _⟩ := I.tuple hq
  exact (SeqAt.RcAt.list_tuple (A := X.A) (s := s) p1.isList p2 hu) _ _ _ _ ⟨.bl false, H, I, rfl, k⟩
section
variable {B : Bk} {τ : TSt} {Φ : TK} {K : PySem.W.Frag}
theorem ro_eqLT (hK : K = B.K) {x y : Kd} {ts us : List Tr} (r1 : Rk τ x (.lst ts)) (r2 : Rk τ y (.tup us)) (q : Φ (.fz (.bl false)) τ) : RO B (rEqLT K) x y τ Φ := fun σ F H v w Q r a b c => by
  subst hK
  obtain ⟨p, vs, rfl, s, _⟩ := r1.list r a
  obtain ⟨p2, ws, rfl, s2, _⟩ := r2.tuple r b
  exact ⟨p, p2, vs, ws, rfl, rfl, s, s2, c.pl r .bl q⟩
end
end L2

namespace L2
open PySem PySem.Spec PyProof.Rows
noncomputable def valT (kvs : List (Key × Tr)) (k : Key) : Option Tr := (kvs.find? fun kv => decide (kv.1 = k)).map (·.2)
noncomputable def putT (kvs : List (Key × Tr)) (k : Key) (t : Tr) : List (Key × Tr) := if (kvs.any fun kv => decide (kv.1 = k)) = true then kvs.map (fun kv => if kv.1 = k then (kv.1, t) else kv) else kvs ++ [(k, t)]
theorem valT_pos {p : Key × Tr} {r : List (Key × Tr)} {k : Key} (e : p.1 = k) : valT (p :: r) k = some p.2 := by simp [valT, List.find?_cons, e]
theorem valT_neg {p : Key × Tr} {r : List (Key × Tr)} {k : Key} (e : ¬ p.1 = k) : valT (p :: r) k = valT r k := by simp [valT, List.find?_cons, e]
theorem valT_map {ts : List (Key × Tr)} {k k' : Key} {t : Tr} (h : (ts.any fun kv => decide (kv.1 = k)) = true) : valT (ts.map fun kv => if kv.1 = k then (kv.1, t) else kv) k' = if k' = k then some t else valT ts k' := by
  by_cases hk : k' = k
  · rw [if_pos hk]
    subst hk
    induction ts with
    | nil => cases h
    | cons q ts ih =>
      rw [List.map_cons]
      by_cases hq : q.1 = k'
      · rw [if_pos hq, valT_pos (p := (q.1, t)) hq]
      · rw [if_neg hq, valT_neg hq]
        refine ih ?_
        rw [List.any_cons, decide_eq_false hq, Bool.false_or] at h
        exact h
  · rw [if_neg hk]
    clear h
    induction ts with
    | nil => rfl
    | cons q ts ih =>
      rw [List.map_cons]
      by_cases hq : q.1 = k
      · have h1 : ¬ q.1 = k' := fun e => hk (e.symm.trans hq)
        rw [if_pos hq, valT_neg (p := (q.1, t)) h1, valT_neg h1, ih]
      · rw [if_neg hq]
        by_cases h1 : q.1 = k'
        · rw [valT_pos h1, valT_pos h1]
        · rw [valT_neg h1, valT_neg h1, ih]
theorem valT_put {ts : List (Key × Tr)} {k k' : Key} {t : Tr} : valT (putT ts k t) k' = if k' = k then some t else valT ts k' := by
  unfold putT
  by_cases hb : (ts.any fun kv => decide (kv.1 = k)) = true
  · rw [if_pos hb]; exact valT_map hb
  · rw [if_neg hb]
    induction ts with
    | nil =>
      by_cases hk : k' = k
      · rw [if_pos hk]; exact valT_pos (p := (k, t)) hk.symm
      · rw [if_neg hk]; exact valT_neg (p := (k, t)) fun e => hk e.symm
    | cons q ts ih =>
      rw [List.any_cons, Bool.or_eq_true, not_or] at hb
      have hq : ¬ q.1 = k := fun e => hb.1 (decide_eq_true e)
      rw [List.cons_append]
      by_cases h1 : q.1 = k'
      · rw [valT_pos h1, valT_pos h1, if_neg (by rw [← h1]; exact hq)]
      · rw [valT_neg h1, valT_neg h1]; exact ih hb.2
theorem putT_len {ts : List (Key × Tr)} {k : Key} {t : Tr} : (putT ts k t).length ≤ ts.length + 1 := by
  unfold putT
  split
  · rw [List.length_map]; exact Nat.le_succ _
  · rw [List.length_append]; exact Nat.le_refl _
section
variable {K : PySem.W.Frag} {F : Hp}
theorem val_is {kvs : List (Key × V)} {ts : List (Key × Tr)} {k : Key} {t : Tr} (e : kvs.map (·.1) = ts.map (·.1)) (g : IsL K F (kvs.map (·.2)) (ts.map (·.2))) (h : valT ts k = some t) : ∃ v, valV kvs k = some v ∧ Is K F v t := by
  induction kvs generalizing ts with
  | nil =>
    cases ts with
    | nil => cases h
    | cons => cases e
  | cons p kvs ih =>
    cases ts with
    | nil => cases e
    | cons q ts =>
      simp only [List.map_cons, List.cons.injEq] at e
      cases g with
      | cons a b =>
        by_cases hk : q.1 = k
        · rw [valT_pos hk] at h
          cases h
          exact ⟨p.2, valV_pos (e.1.trans hk), a⟩
        · rw [valT_neg hk] at h
          obtain ⟨v, hv, iv⟩ := ih e.2 b h
          exact ⟨v, by rw [valV_neg (by rw [e.1]; exact hk)]; exact hv, iv⟩
theorem map_is {kvs : List (Key × V)} {ts : List (Key × Tr)} {k : Key} {t : Tr} {v : V} (e : kvs.map (·.1) = ts.map (·.1)) (g : IsL K F (kvs.map (·.2)) (ts.map (·.2))) (iv : Is K F v t) : (kvs.map fun kv => if kv.1 = k then (kv.1, v) else kv).map (·.1) = (ts.map fun kv => if kv.1 = k then (kv.1, t) else kv).map (·.1) ∧ IsL K F ((kvs.map fun kv => if kv.1 = k then (kv.1, v) else kv).map (·.2)) ((ts.map fun kv => if kv.1 = k then (kv.1, t) else kv).map (·.2)) := by
  induction kvs generalizing ts with
  | nil =>
    cases ts with
    | nil => exact ⟨rfl, .nil⟩
    | cons => cases e
  | cons p kvs ih =>
    cases ts with
    | nil => cases e
    | cons q ts =>
      simp only [List.map_cons, List.cons.injEq] at e
      cases g with
      | cons a b =>
        have ih := ih e.2 b
        by_cases hk : q.1 = k
        · simp only [List.map_cons, if_pos hk, if_pos (e.1.trans hk)]
          exact ⟨by rw [ih.1, e.1], .cons iv ih.2⟩
        · have hp : ¬ p.1 = k := by rw [e.1]; exact hk
          simp only [List.map_cons, if_neg hk, if_neg hp]
          exact ⟨by rw [ih.1, e.1], .cons a ih.2⟩
theorem put_is {kvs : List (Key × V)} {ts : List (Key × Tr)} {k : Key} {t : Tr} {v : V} (e : kvs.map (·.1) = ts.map (·.1)) (g : IsL K F (kvs.map (·.2)) (ts.map (·.2))) (iv : Is K F v t) : (putK kvs k v).map (·.1) = (putT ts k t).map (·.1) ∧ IsL K F ((putK kvs k v).map (·.2)) ((putT ts k t).map (·.2)) := by
  have ha : (kvs.any fun kv => decide (kv.1 = k)) = (ts.any fun kv => decide (kv.1 = k)) := by
    have h := congrArg (fun l => l.any fun x => decide (x = k)) e
    simpa [List.any_map, Function.comp_def] using h
  unfold putK putT
  rw [ha]
  by_cases hb : (ts.any fun kv => decide (kv.1 = k)) = true
  · rw [if_pos hb, if_pos hb]; exact map_is e g iv
  · rw [if_neg hb, if_neg hb, List.map_append, List.map_append, List.map_append, List.map_append, e]
    exact ⟨rfl, g.snoc iv⟩
end
section
variable {B : Bk} {τ : TSt} {Φ : TK} {td ty tv : TE} {nx bk ct : TSt → Prop} {rt : Kd → Prop}
theorem e_dget (h : EV B td τ fun y τ1 => Pnd y τ1 fun y τ1 => EV B ty τ1 fun x τ2 => ∃ z ts t, x = .fz (.str z) ∧ Rk τ2 y (.dct ts) ∧ valT ts (.inr z) = some t ∧ Φ (.fz t) τ2) : EV B (tDGet td ty) τ Φ := fun σ F H Q rp c => by
  refine h σ F H _ rp fun v F1 H1 k τ1 f1 r1 ok1 n1 h1 => ?_
  obtain ⟨F2, k', f2, r2, ok2, h2, _⟩ := pnd_ok f1 r1 ok1 n1 h1
  refine h2 σ F2 H1 _ r2 fun w F3 H3 kx τ3 f3 r3 ok3 n3 ⟨z, ts, t, e, rk, hv, q⟩ => ?_
  subst e
  cases (show Is B.K F3 w (.str z) from ok3)
  obtain ⟨p, kvs, rfl, hp, ek, g⟩ := rk.dict r3 (ok2.same f3.f)
  obtain ⟨v, hvv, iv⟩ := val_is ek g hv
  exact ⟨p, v, rfl, by rw [← hvv]; exact DGet.k (k := .inr z) hp, (c.on (f2.trans f3)).pl r3 iv q⟩
theorem s_dput (h : EV B tv τ fun x τ1 => AsF x τ1 fun t τ2 => EV B td τ2 fun y τ3 => Pnd y τ3 fun y τ3 => EV B ty τ3 fun x2 τ4 => ∃ z k ts τ5, x2 = .fz (.str z) ∧ y = .sl k ∧ Gt τ4 k (.own (.dct ts)) ∧ ts.length ≤ 1000 ∧ Sto τ4 k (.own (.dct (putT ts (.inr z) t))) τ5 ∧ nx τ5) : SV B (sDPut td ty tv) τ ⟨nx, rt, bk, ct⟩ := fun σ F H D r e => by
  refine h σ F H _ r fun v F1 H1 k1 τ1 f1 r1 ok1 n1 h1 => ?_
  obtain ⟨F2, t, τ2, f2, r2, iv, h2, _⟩ := asF_ok f1 r1 ok1 n1 h1
  refine h2 σ F2 H1 _ r2 fun y F3 H3 ky τ3 f3 r3 ok3 n3 h3 => ?_
  obtain ⟨F4, k', f4, r4, ok4, h4, s4⟩ := pnd_ok f3 r3 ok3 n3 h3
  refine h4 σ F4 H3 _ r4 fun x F5 H5 kx τ5 f5 r5 ok5 n5 ⟨z, k, ts, τ6, e1, e2, g, hl, st, q⟩ => ?_
  subst e1 e2
  cases (show Is B.K F5 x (.str z) from ok5)
  obtain ⟨l, e0, hw, n, n0⟩ := r5.ow _ _ g.eq
  cases sat_unique e0 (show SAt σ k y from ok4)
  cases hw with
  | dct h1 hk hg =>
    obtain ⟨pk, pg⟩ := put_is (k := .inr z) hk hg (iv.same (f4.f.trans f5.f))
    obtain ⟨r6, f6⟩ := r5.setO g.eq e0 (.dct upd_same pk pg)
    rw [st.eq] at r6 f6
    have hlen := congrArg List.length hk
    rw [List.length_map, List.length_map] at hlen
    exact ⟨l, _, rfl, DPut.k (k := .inr z) h1 (by rw [hlen]; exact Nat.lt_of_le_of_lt hl (by decide)), e.nx σ F5 _ τ6 (((f2.f.trans f4.f).trans f5.f).trans f6.f) r6 q⟩
end
end L2

set_option Elab.async false
set_option linter.all false
set_option maxRecDepth 100000
set_option maxHeartbeats 4000000
namespace MyLaw
open PySem L2
noncomputable def top (i : Nat) : Stmt := PySem.Challenge.pw_markscale_k46_facets_and_ranks.main.body.getD i (.Pass ⟨0, 0, 0, 0⟩)
noncomputable abbrev s_column_at : Stmt := top 12
theorem sc_column_at : FnScope ["columns", "name", "at", "column"] ["columns", "name"] (defScope s_column_at) := ⟨rfl, rfl, rfl, by decide +kernel, rfl, by decide +kernel, by decide +kernel⟩
noncomputable abbrev s_words_wished : Stmt := top 15
theorem sc_words_wished : FnScope ["wish", "cells", "words", "cell"] ["wish", "cells"] (defScope s_words_wished) := ⟨rfl, rfl, rfl, by decide +kernel, rfl, by decide +kernel, by decide +kernel⟩
noncomputable abbrev s_cells_there : Stmt := top 19
theorem sc_cells_there : FnScope ["columns", "rows", "name", "at"] ["columns", "rows", "name"] (defScope s_cells_there) := ⟨rfl, rfl, rfl, by decide +kernel, rfl, by decide +kernel, by decide +kernel⟩
noncomputable abbrev s_words_of : Stmt := top 20
theorem sc_words_of : FnScope ["channel", "columns", "rows", "most", "words"] ["channel", "columns", "rows", "most"] (defScope s_words_of) := ⟨rfl, rfl, rfl, by decide +kernel, rfl, by decide +kernel, by decide +kernel⟩
noncomputable abbrev s_facets_of : Stmt := top 21
theorem sc_facets_of : FnScope ["telling", "columns", "rows"] ["telling", "columns", "rows"] (defScope s_facets_of) := ⟨rfl, rfl, rfl, by decide +kernel, rfl, by decide +kernel, by decide +kernel⟩
noncomputable abbrev s_rows_in_facets : Stmt := top 22
theorem sc_rows_in_facets : FnScope ["telling", "columns", "rows", "facets", "at"] ["telling", "columns", "rows"] (defScope s_rows_in_facets) := ⟨rfl, rfl, rfl, by decide +kernel, rfl, by decide +kernel, by decide +kernel⟩
noncomputable abbrev s_ranks_of : Stmt := top 23
theorem sc_ranks_of : FnScope ["telling", "columns", "rows", "colour"] ["telling", "columns", "rows"] (defScope s_ranks_of) := ⟨rfl, rfl, rfl, by decide +kernel, rfl, by decide +kernel, by decide +kernel⟩
noncomputable abbrev s_l_cell_at : Stmt := top 25
theorem sc_l_cell_at : FnScope ["_law_script", "_law_k"] ["_law_script", "_law_k"] (defScope s_l_cell_at) := ⟨rfl, rfl, rfl, by decide +kernel, rfl, by decide +kernel, by decide +kernel⟩
noncomputable abbrev s_l_draws : Stmt := top 26
theorem sc_l_draws : FnScope ["_law_script", "_law_k", "_law_many", "_law_cell_here", "_law_rest", "_law_mixed", "_law_found", "_law_j"] ["_law_script", "_law_k", "_law_many"] (defScope s_l_draws) := ⟨rfl, rfl, rfl, by decide +kernel, rfl, by decide +kernel, by decide +kernel⟩
noncomputable abbrev s_l_low : Stmt := top 27
theorem sc_l_low : FnScope ["_law_top", "_law_bottom", "_law_one", "_law_other"] ["_law_top", "_law_bottom"] (defScope s_l_low) := ⟨rfl, rfl, rfl, by decide +kernel, rfl, by decide +kernel, by decide +kernel⟩
noncomputable abbrev s_l_number : Stmt := top 28
theorem sc_l_number : FnScope ["_law_d", "_law_size"] ["_law_d"] (defScope s_l_number) := ⟨rfl, rfl, rfl, by decide +kernel, rfl, by decide +kernel, by decide +kernel⟩
noncomputable abbrev s_l_more : Stmt := top 29
noncomputable abbrev s_l_word : Stmt := top 30
theorem sc_l_word : FnScope ["_law_d", "_law_k", "_law_letters", "_law_spot", "_law_rest"] ["_law_d", "_law_k"] (defScope s_l_word) := ⟨rfl, rfl, rfl, by decide +kernel, rfl, by decide +kernel, by decide +kernel⟩
noncomputable abbrev s_l_wish : Stmt := top 31
theorem sc_l_wish : FnScope ["_law_d", "_law_wanted", "_law_word_here", "_law_lo", "_law_ends", "_law_k"] ["_law_d", "_law_wanted"] (defScope s_l_wish) := ⟨rfl, rfl, rfl, by decide +kernel, rfl, by decide +kernel, by decide +kernel⟩
noncomputable abbrev s_l_space : Stmt := top 32
theorem sc_l_space : FnScope ["_law_asked", "_law_one", "_law_two", "_law_three", "_law_error", "_law_found", "e", "_law_others"] ["_law_asked", "_law_one", "_law_two", "_law_three"] (defScope s_l_space) := ⟨rfl, rfl, rfl, by decide +kernel, rfl, by decide +kernel, by decide +kernel⟩
noncomputable abbrev s_l_channel_by : Stmt := top 33
theorem sc_l_channel_by : FnScope ["_law_name", "_law_d"] ["_law_name", "_law_d"] (defScope s_l_channel_by) := ⟨rfl, rfl, rfl, by decide +kernel, rfl, by decide +kernel, by decide +kernel⟩
noncomputable abbrev s_l_cell : Stmt := top 34
theorem sc_l_cell : FnScope ["_law_wish_here", "_law_d", "_law_told"] ["_law_wish_here", "_law_d"] (defScope s_l_cell) := ⟨rfl, rfl, rfl, by decide +kernel, rfl, by decide +kernel, by decide +kernel⟩
noncomputable abbrev s_l_rows : Stmt := top 35
theorem sc_l_rows : FnScope ["_law_script", "_law_facet", "_law_colour", "_law_columns", "_law_names", "_law_rows_here", "_law_k", "_law_d", "_law_cells", "_law_name", "_law_kind"] ["_law_script", "_law_facet", "_law_colour", "_law_columns", "_law_names"] (defScope s_l_rows) := ⟨rfl, rfl, rfl, by decide +kernel, rfl, by decide +kernel, by decide +kernel⟩
noncomputable abbrev s_l_first : Stmt := top 36
theorem sc_l_first : FnScope ["_law_wish_here", "_law_cells", "_law_most", "_law_found", "_law_cell_here"] ["_law_wish_here", "_law_cells", "_law_most"] (defScope s_l_first) := ⟨rfl, rfl, rfl, by decide +kernel, rfl, by decide +kernel, by decide +kernel⟩
noncomputable abbrev s_l_at : Stmt := top 37
theorem sc_l_at : FnScope ["_law_columns", "_law_rows_here", "_law_name", "_law_at_here"] ["_law_columns", "_law_rows_here", "_law_name"] (defScope s_l_at) := ⟨rfl, rfl, rfl, by decide +kernel, rfl, by decide +kernel, by decide +kernel⟩
noncomputable abbrev s_l_due : Stmt := top 38
theorem sc_l_due : FnScope ["_law_facet", "_law_colour", "_law_columns", "_law_rows_here", "_law_facets", "_law_inner", "_law_cells"] ["_law_facet", "_law_colour", "_law_columns", "_law_rows_here"] (defScope s_l_due) := ⟨rfl, rfl, rfl, by decide +kernel, rfl, by decide +kernel, by decide +kernel⟩
noncomputable abbrev s_law : Stmt := top 39
theorem sc_law : FnScope ["_law_script", "_law_d", "_law_names", "_law_facet", "_law_colour", "_law_columns", "_law_kinds", "_law_k", "_law_layers", "_law_telling", "_law_rows_here", "_law_due_here", "_law_handed", "_law_found", "_law_again"] ["_law_script"] (defScope s_law) := ⟨rfl, rfl, rfl, by decide +kernel, rfl, by decide +kernel, by decide +kernel⟩
structure Adr where
  (f_column_at : Addr) (d_column_at : FuncData)
  (f_words_wished : Addr) (d_words_wished : FuncData)
  (f_cells_there : Addr) (d_cells_there : FuncData)
  (f_words_of : Addr) (d_words_of : FuncData)
  (f_facets_of : Addr) (d_facets_of : FuncData)
  (f_rows_in_facets : Addr) (d_rows_in_facets : FuncData)
  (f_ranks_of : Addr) (d_ranks_of : FuncData)
  (f_l_cell_at : Addr) (d_l_cell_at : FuncData)
  (f_l_draws : Addr) (d_l_draws : FuncData)
  (f_l_low : Addr) (d_l_low : FuncData)
  (f_l_number : Addr) (d_l_number : FuncData)
  (f_l_more : Addr) (d_l_more : FuncData)
  (f_l_word : Addr) (d_l_word : FuncData)
  (f_l_wish : Addr) (d_l_wish : FuncData)
  (f_l_space : Addr) (d_l_space : FuncData)
  (f_l_channel_by : Addr) (d_l_channel_by : FuncData)
  (f_l_cell : Addr) (d_l_cell : FuncData)
  (f_l_rows : Addr) (d_l_rows : FuncData)
  (f_l_first : Addr) (d_l_first : FuncData)
  (f_l_at : Addr) (d_l_at : FuncData)
  (f_l_due : Addr) (d_l_due : FuncData)
  (f_law : Addr) (d_law : FuncData)
  (c_NoSpace : Addr)
  (c_MarkError : Addr)
  (c_NoDay : Addr)
  (c_NoName : Addr)
  (c_NoNumber : Addr)
  (c_NoPlan : Addr)
  (c_NoRow : Addr)
  (c_NoTelling : Addr)
  (c_NoTable : Addr)
  (c_TooMany : Addr)
  (g_MOST_WORDS : Tok)
  (g_MOST_FACETS : Tok)
  (g_NO_FACET : Tok)
structure Txt (K : PySem.W.Frag) (mg : Str → Option Value) (t : Adr) : Prop where
  F_column_at : Fun K "column_at" "column_at" s_column_at t.f_column_at t.d_column_at
  m_column_at : mg "column_at" = some (.ref t.f_column_at)
  k_column_at : PySem.W.keepIn K (.ref t.f_column_at) = true
  b_column_at : Binds K t.d_column_at ["columns", "name"] []
  F_words_wished : Fun K "words_wished" "words_wished" s_words_wished t.f_words_wished t.d_words_wished
  m_words_wished : mg "words_wished" = some (.ref t.f_words_wished)
  k_words_wished : PySem.W.keepIn K (.ref t.f_words_wished) = true
  b_words_wished : Binds K t.d_words_wished ["wish", "cells"] []
  F_cells_there : Fun K "cells_there" "cells_there" s_cells_there t.f_cells_there t.d_cells_there
  m_cells_there : mg "cells_there" = some (.ref t.f_cells_there)
  k_cells_there : PySem.W.keepIn K (.ref t.f_cells_there) = true
  b_cells_there : Binds K t.d_cells_there ["columns", "rows", "name"] []
  F_words_of : Fun K "words_of" "words_of" s_words_of t.f_words_of t.d_words_of
  m_words_of : mg "words_of" = some (.ref t.f_words_of)
  k_words_of : PySem.W.keepIn K (.ref t.f_words_of) = true
  b_words_of : Binds K t.d_words_of ["channel", "columns", "rows", "most"] []
  F_facets_of : Fun K "facets_of" "facets_of" s_facets_of t.f_facets_of t.d_facets_of
  m_facets_of : mg "facets_of" = some (.ref t.f_facets_of)
  k_facets_of : PySem.W.keepIn K (.ref t.f_facets_of) = true
  b_facets_of : Binds K t.d_facets_of ["telling", "columns", "rows"] []
  F_rows_in_facets : Fun K "rows_in_facets" "rows_in_facets" s_rows_in_facets t.f_rows_in_facets t.d_rows_in_facets
  m_rows_in_facets : mg "rows_in_facets" = some (.ref t.f_rows_in_facets)
  k_rows_in_facets : PySem.W.keepIn K (.ref t.f_rows_in_facets) = true
  b_rows_in_facets : Binds K t.d_rows_in_facets ["telling", "columns", "rows"] []
  F_ranks_of : Fun K "ranks_of" "ranks_of" s_ranks_of t.f_ranks_of t.d_ranks_of
  m_ranks_of : mg "ranks_of" = some (.ref t.f_ranks_of)
  k_ranks_of : PySem.W.keepIn K (.ref t.f_ranks_of) = true
  b_ranks_of : Binds K t.d_ranks_of ["telling", "columns", "rows"] []
  F_l_cell_at : Fun K "_law_cell_at" "_law_cell_at" s_l_cell_at t.f_l_cell_at t.d_l_cell_at
  m_l_cell_at : mg "_law_cell_at" = some (.ref t.f_l_cell_at)
  k_l_cell_at : PySem.W.keepIn K (.ref t.f_l_cell_at) = true
  b_l_cell_at : Binds K t.d_l_cell_at ["_law_script", "_law_k"] []
  F_l_draws : Fun K "_law_draws" "_law_draws" s_l_draws t.f_l_draws t.d_l_draws
  m_l_draws : mg "_law_draws" = some (.ref t.f_l_draws)
  k_l_draws : PySem.W.keepIn K (.ref t.f_l_draws) = true
  b_l_draws : Binds K t.d_l_draws ["_law_script", "_law_k", "_law_many"] []
  F_l_low : Fun K "_law_low" "_law_low" s_l_low t.f_l_low t.d_l_low
  m_l_low : mg "_law_low" = some (.ref t.f_l_low)
  k_l_low : PySem.W.keepIn K (.ref t.f_l_low) = true
  b_l_low : Binds K t.d_l_low ["_law_top", "_law_bottom"] []
  F_l_number : Fun K "_law_number" "_law_number" s_l_number t.f_l_number t.d_l_number
  m_l_number : mg "_law_number" = some (.ref t.f_l_number)
  k_l_number : PySem.W.keepIn K (.ref t.f_l_number) = true
  b_l_number : Binds K t.d_l_number ["_law_d"] []
  F_l_more : Fun K "_law_more" "_law_more" s_l_more t.f_l_more t.d_l_more
  m_l_more : mg "_law_more" = some (.ref t.f_l_more)
  k_l_more : PySem.W.keepIn K (.ref t.f_l_more) = true
  b_l_more : Binds K t.d_l_more ["_law_one", "_law_d"] []
  F_l_word : Fun K "_law_word" "_law_word" s_l_word t.f_l_word t.d_l_word
  m_l_word : mg "_law_word" = some (.ref t.f_l_word)
  k_l_word : PySem.W.keepIn K (.ref t.f_l_word) = true
  b_l_word : Binds K t.d_l_word ["_law_d", "_law_k"] []
  F_l_wish : Fun K "_law_wish" "_law_wish" s_l_wish t.f_l_wish t.d_l_wish
  m_l_wish : mg "_law_wish" = some (.ref t.f_l_wish)
  k_l_wish : PySem.W.keepIn K (.ref t.f_l_wish) = true
  b_l_wish : Binds K t.d_l_wish ["_law_d", "_law_wanted"] []
  F_l_space : Fun K "_law_space" "_law_space" s_l_space t.f_l_space t.d_l_space
  m_l_space : mg "_law_space" = some (.ref t.f_l_space)
  k_l_space : PySem.W.keepIn K (.ref t.f_l_space) = true
  b_l_space : Binds K t.d_l_space ["_law_asked", "_law_one", "_law_two", "_law_three"] []
  F_l_channel_by : Fun K "_law_channel_by" "_law_channel_by" s_l_channel_by t.f_l_channel_by t.d_l_channel_by
  m_l_channel_by : mg "_law_channel_by" = some (.ref t.f_l_channel_by)
  k_l_channel_by : PySem.W.keepIn K (.ref t.f_l_channel_by) = true
  b_l_channel_by : Binds K t.d_l_channel_by ["_law_name", "_law_d"] []
  F_l_cell : Fun K "_law_cell" "_law_cell" s_l_cell t.f_l_cell t.d_l_cell
  m_l_cell : mg "_law_cell" = some (.ref t.f_l_cell)
  k_l_cell : PySem.W.keepIn K (.ref t.f_l_cell) = true
  b_l_cell : Binds K t.d_l_cell ["_law_wish_here", "_law_d"] []
  F_l_rows : Fun K "_law_rows" "_law_rows" s_l_rows t.f_l_rows t.d_l_rows
  m_l_rows : mg "_law_rows" = some (.ref t.f_l_rows)
  k_l_rows : PySem.W.keepIn K (.ref t.f_l_rows) = true
  b_l_rows : Binds K t.d_l_rows ["_law_script", "_law_facet", "_law_colour", "_law_columns", "_law_names"] []
  F_l_first : Fun K "_law_first" "_law_first" s_l_first t.f_l_first t.d_l_first
  m_l_first : mg "_law_first" = some (.ref t.f_l_first)
  k_l_first : PySem.W.keepIn K (.ref t.f_l_first) = true
  b_l_first : Binds K t.d_l_first ["_law_wish_here", "_law_cells", "_law_most"] []
  F_l_at : Fun K "_law_at" "_law_at" s_l_at t.f_l_at t.d_l_at
  m_l_at : mg "_law_at" = some (.ref t.f_l_at)
  k_l_at : PySem.W.keepIn K (.ref t.f_l_at) = true
  b_l_at : Binds K t.d_l_at ["_law_columns", "_law_rows_here", "_law_name"] []
  F_l_due : Fun K "_law_due" "_law_due" s_l_due t.f_l_due t.d_l_due
  m_l_due : mg "_law_due" = some (.ref t.f_l_due)
  k_l_due : PySem.W.keepIn K (.ref t.f_l_due) = true
  b_l_due : Binds K t.d_l_due ["_law_facet", "_law_colour", "_law_columns", "_law_rows_here"] []
  F_law : Fun K "law" "law" s_law t.f_law t.d_law
  m_law : mg "law" = some (.ref t.f_law)
  k_law : PySem.W.keepIn K (.ref t.f_law) = true
  b_law : Binds K t.d_law ["_law_script"] []
  m_NoSpace : mg "NoSpace" = some (.ref t.c_NoSpace)
  n_NoSpace : PySem.W.nsIn K mainGlobals "NoSpace" = some (some (.ref t.c_NoSpace))
  x_NoSpace : PySem.W.excIn K t.c_NoSpace bmVE "ValueError.__new__" = true
  e_NoSpace : PySem.W.exmOne K (.ref t.c_NoSpace) (.ref t.c_NoSpace) = some true
  m_MarkError : mg "MarkError" = some (.ref t.c_MarkError)
  m_NoDay : mg "NoDay" = some (.ref t.c_NoDay)
  m_NoName : mg "NoName" = some (.ref t.c_NoName)
  m_NoNumber : mg "NoNumber" = some (.ref t.c_NoNumber)
  m_NoPlan : mg "NoPlan" = some (.ref t.c_NoPlan)
  m_NoRow : mg "NoRow" = some (.ref t.c_NoRow)
  m_NoTelling : mg "NoTelling" = some (.ref t.c_NoTelling)
  m_NoTable : mg "NoTable" = some (.ref t.c_NoTable)
  m_TooMany : mg "TooMany" = some (.ref t.c_TooMany)
  eo_NoSpace_MarkError : PySem.W.exmOne K (.ref t.c_NoSpace) (.ref t.c_MarkError) = some true
  y_NoSpace : ExcF K t.c_NoSpace
  kk_NoSpace_NoDay : PySem.W.kitOne K (.ref t.c_NoSpace) (.ref t.c_NoDay) = some false
  kk_NoSpace_NoName : PySem.W.kitOne K (.ref t.c_NoSpace) (.ref t.c_NoName) = some false
  kk_NoSpace_NoNumber : PySem.W.kitOne K (.ref t.c_NoSpace) (.ref t.c_NoNumber) = some false
  kk_NoSpace_NoPlan : PySem.W.kitOne K (.ref t.c_NoSpace) (.ref t.c_NoPlan) = some false
  kk_NoSpace_NoRow : PySem.W.kitOne K (.ref t.c_NoSpace) (.ref t.c_NoRow) = some false
  kk_NoSpace_NoTelling : PySem.W.kitOne K (.ref t.c_NoSpace) (.ref t.c_NoTelling) = some false
  kk_NoSpace_NoTable : PySem.W.kitOne K (.ref t.c_NoSpace) (.ref t.c_NoTable) = some false
  kk_NoSpace_TooMany : PySem.W.kitOne K (.ref t.c_NoSpace) (.ref t.c_TooMany) = some false
  kk_NoSpace_NoSpace : PySem.W.kitOne K (.ref t.c_NoSpace) (.ref t.c_NoSpace) = some true
  kk_NoSpace_ValueError : PySem.W.kitOne K (.ref t.c_NoSpace) (.type "ValueError") = some true
  g_MOST_WORDS : mg "MOST_WORDS" = some (.int 60 t.g_MOST_WORDS)
  g_MOST_FACETS : mg "MOST_FACETS" = some (.int 12 t.g_MOST_FACETS)
  g_NO_FACET : mg "NO_FACET" = some (.str "" t.g_NO_FACET)
  z_isinstance : mg "isinstance" = none
  z_int : mg "int" = none
  z_tuple : mg "tuple" = none
  z_list : mg "list" = none
  z_abs : mg "abs" = none
  z_len : mg "len" = none
  z_range : mg "range" = none
  z_min : mg "min" = none
  z_enumerate : mg "enumerate" = none
  z_zip : mg "zip" = none
  z_ValueError : mg "ValueError" = none
theorem midB {n : Int} (h1 : 0 ≤ n) (h2 : n < 1152921504606846976) : Mid n := (show My.Bd 60 n by unfold My.Bd; omega).mono (by decide)
noncomputable def cellAt (ns : List Int) (k : Int) : Int := ns.getD k.toNat 0

noncomputable def sp_cell (K : PySem.W.Frag) : Sp := fun vs H Q _ => ∃ (a : Addr) (ns : List Int) (k : Int), vs = [.ref a, .int k] ∧ SqL K H a (ns.map V.int) ∧ 0 ≤ k ∧ Q (.int (cellAt ns k)) H
noncomputable def sp_law (K : PySem.W.Frag) : Sp := fun vs H Q _ => ∃ (a : Addr) (ns : List Int), vs = [.ref a] ∧ SqL K H a (ns.map V.int) ∧ ns.length ≤ 63 ∧ (∀ x ∈ ns, My.Bd 1048576 x) ∧ ∀ H', Q (.bl true) H'

structure Pr (K : PySem.W.Frag) (H : Hp) (p : Addr) (a b : Int) (n : Nat) : Prop where
  s : SqT K H p [.int a, .int b]
  pos : 0 < b
  ba : My.Bd n a
  bb : My.Bd n b
theorem Pr.ne {K : PySem.W.Frag} {H : Hp} {p : Addr} {a b : Int} {n : Nat} (h : Pr K H p a b n) : b ≠ 0 := Int.ne_of_gt h.pos
theorem Pr.keep {K : PySem.W.Frag} {H H' : Hp} {p : Addr} {a b : Int} {n : Nat} (h : Pr K H p a b n) (e : Same H H') : Pr K H' p a b n := ⟨e.tup h.s, h.pos, h.ba, h.bb⟩
theorem Pr.up {K : PySem.W.Frag} {H : Hp} {p : Addr} {a b : Int} {n m : Nat} (h : Pr K H p a b n) (e : n ≤ m) : Pr K H p a b m := ⟨h.s, h.pos, h.ba.mono e, h.bb.mono e⟩
noncomputable def NewQ (K : PySem.W.Frag) (H : Hp) (Q : VK) (n : Nat) (v : Rat) : Prop := ∀ (p : Addr) (H' : Hp) (x y : Int), Same H H' → Pr K H' p x y n → Int.gcd x y = 1 → My.qv x y = v → Q (.ref p) H'
noncomputable def sp_number (K : PySem.W.Frag) : Sp := fun vs H Q _ => ∃ (t m : Int) (n : Nat), vs = [.int t, .int m] ∧ My.Bd n t ∧ My.Bd n m ∧ n ≤ 3900 ∧ m ≠ 0 ∧ NewQ K H Q n (My.qv t m)
noncomputable def sp_two (K : PySem.W.Frag) (f : Rat → Rat → Rat) (ok : Int → Prop) : Sp := fun vs H Q _ => ∃ (p r : Addr) (a b c d : Int) (n1 n2 : Nat), vs = [.ref p, .ref r] ∧ Pr K H p a b n1 ∧ Pr K H r c d n2 ∧ n1 + n2 + 1 ≤ 3900 ∧ ok c ∧ NewQ K H Q (n1 + n2 + 1) (f (My.qv a b) (My.qv c d))
noncomputable def sp_cmp (K : PySem.W.Frag) (f : Int → Int → Int → Int → V) : Sp := fun vs H Q _ => ∃ (p r : Addr) (a b c d : Int) (n1 n2 : Nat), vs = [.ref p, .ref r] ∧ Pr K H p a b n1 ∧ Pr K H r c d n2 ∧ n1 + n2 ≤ 3900 ∧ Q (f a b c d) H
section
variable {P : Program} {w : World} {K : PySem.W.Frag} {mg : Str → Option Value} {base : Heap} {t : Adr}
theorem ok_l_cell_at (T : Txt K mg t) : FnOk P w K mg base CX0 1 t.f_l_cell_at t.d_l_cell_at ["_law_script", "_law_k"] (sp_cell K) := by
  refine T.F_l_cell_at.ok sc_l_cell_at (fun vs H Q E h => ?_) (fun cdv A outer s H vs Q E hr h => ?_)
  · obtain ⟨a, ns, k, rfl, _⟩ := h
    rfl
  obtain ⟨a, ns, k, rfl, hS, h0, q⟩ := h
  refine ⟨_, (pss_cons (ps_if (pt_cmpR op_lt (pv 1) (pe_callB call_len_seq rfl T.z_len PySem.boot_len (pa_cons (pv 0) pa_nil)) (nomark _)) (pss_one (ps_ret (pe_ix ix_list (pv 0) (pv 1) (fun _ _ => rfl)))) pss_nil)
  (pss_one (ps_ret pe_int))), ?_⟩
  have hl : (ns.map V.int).length = ns.length := List.length_map _
  refine ⟨_, rfl, _, rfl, a, _, rfl, .inl hS, _, _, rfl, rfl, _, rfl, ?_⟩
  refine ite2 (fun c => ?_) (fun c => ?_)
  · have c' : k < (((ns.map V.int).length : Nat) : Int) := of_decide_eq_true c
    rw [hl] at c'
    have hk : k.toNat < ns.length := by omega
    have hv : atI (ns.map V.int) k = some (.int (cellAt ns k)) := by
      have ek : k = ((k.toNat : Nat) : Int) := by omega
      have q : atI (ns.map V.int) ((k.toNat : Nat) : Int) = some (.int (cellAt ns k)) := atI_nat (by
        rw [List.getElem?_map, List.getElem?_eq_getElem hk]
        unfold cellAt
        rw [List.getD_eq_getElem?_getD, List.getElem?_eq_getElem hk] <;> rfl)
      rw [← ek] at q
      exact q
    exact ⟨_, rfl, _, rfl, _, _, _, _, rfl, rfl, hS, hv, q⟩
  · have c' : ¬ k < (((ns.map V.int).length : Nat) : Int) := of_decide_eq_false (Bool.eq_false_iff.mpr c)
    rw [hl] at c'
    have e : cellAt ns k = 0 := by
      unfold cellAt
      rw [List.getD_eq_getElem?_getD, List.getElem?_eq_none (by omega)] <;> rfl
    rw [e] at q
    exact q
end
theorem Pr.kp {K : PySem.W.Frag} {H H' : Hp} {p : Addr} {a b : Int} {n : Nat} (e : Same H H') (h : Pr K H p a b n) : Pr K H' p a b n := h.keep e
section
variable {K : PySem.W.Frag} {H : Hp} {Q : VK} {E : XK} {p r : Addr} {a b c d t m : Int} {n1 n2 : Nat} {f : Rat → Rat → Rat} {ok : Int → Prop} {F : Int → Int → Int → Int → V}
theorem a_number (h1 : My.Bd n1 t) (h2 : My.Bd n2 m) (h3 : max n1 n2 ≤ 3900) (h4 : m ≠ 0) (q : ∀ p H' x y, Same H H' → Pr K H' p x y (max n1 n2) → Int.gcd x y = 1 → My.qv x y = My.qv t m → Q (.ref p) H') : sp_number K [.int t, .int m] H Q E :=
  ⟨t, m, max n1 n2, rfl, h1.mono (by omega), h2.mono (by omega), h3, h4, q⟩
theorem a_numberD (h1 : My.Bd n1 t) (h2 : My.Bd n2 m) (h3 : max n1 n2 ≤ 3900) (h4 : m ≠ 0) (q : ∀ p H' x y, Same H H' → Pr K H' p x y (max n1 n2) → Int.gcd x y = 1 → My.qv x y = My.qv t m → Q (.ref p) H') : sp_number K ([.int t] ++ [.int m]) H Q E := a_number h1 h2 h3 h4 q
theorem a_two (h1 : Pr K H p a b n1) (h2 : Pr K H r c d n2) (h3 : n1 + n2 + 1 ≤ 3900) (h4 : ok c) (q : ∀ p' H' x y, Same H H' → Pr K H' p' x y (n1 + n2 + 1) → Int.gcd x y = 1 → My.qv x y = f (My.qv a b) (My.qv c d) → Q (.ref p') H') : sp_two K f ok [.ref p, .ref r] H Q E :=
  ⟨p, r, a, b, c, d, n1, n2, rfl, h1, h2, h3, h4, q⟩
theorem a_cmp (h1 : Pr K H p a b n1) (h2 : Pr K H r c d n2) (h3 : n1 + n2 ≤ 3900) (q : Q (F a b c d) H) : sp_cmp K F [.ref p, .ref r] H Q E := ⟨p, r, a, b, c, d, n1, n2, rfl, h1, h2, h3, q⟩
end
theorem a_cell {K : PySem.W.Frag} {H : Hp} {Q : VK} {E : XK} {a : Addr} {ns : List Int} {k : Int} (hs : SqL K H a (ns.map V.int)) (h0 : 0 ≤ k) (q : Q (.int (cellAt ns k)) H) : sp_cell K [.ref a, .int k] H Q E := ⟨a, ns, k, rfl, hs, h0, q⟩
local macro_rules | `(tactic| walk_at "get") => `(tactic| repeat (first | exact GetTo.here | apply GetTo.next))
local macro_rules | `(tactic| walk_at "set") => `(tactic| repeat (first | exact SetTo.here | apply SetTo.next))
local macro_rules | `(tactic| walk_at "tp") => `(tactic| first | assumption | exact SqT.of (by assumption) | ((apply Same.tup); (focus assumption); (walk_at "tp")) | ((apply But.tup); (focus assumption); (focus assumption); (walk_at "tp")))
local macro_rules | `(tactic| walk_at "lq") => `(tactic| first | assumption | exact SqL.of (by assumption) | ((apply Same.seq); (focus assumption); (walk_at "lq")) | ((apply But.seq); (focus assumption); (focus assumption); (walk_at "lq")))
local macro_rules | `(tactic| walk_at "hl") => `(tactic| first | assumption | exact (show Same _ _ by assumption) _ _ (by walk_at "hl") | exact (show But _ _ _ by assumption) _ _ (by assumption) (by walk_at "hl"))
local macro_rules | `(tactic| walk_at "sm") => `(tactic| first | assumption | exact Same.refl _ | ((apply sm2); (focus assumption); (walk_at "sm")))
local macro_rules | `(tactic| walk_at "isi") => `(tactic| ((with_reducible refine z_isi0 ?_); first | (with_reducible refine z_isI_int ?_) | (with_reducible refine z_isB_int ?_) | (with_reducible refine z_isS_int ?_) | (with_reducible refine z_isN_int ?_) | (with_reducible refine z_isI_bool ?_) | (with_reducible refine z_isB_bool ?_) | (with_reducible refine z_isS_bool ?_) | (with_reducible refine z_isN_bool ?_) | (with_reducible refine z_isI_str ?_) | (with_reducible refine z_isB_str ?_) | (with_reducible refine z_isS_str ?_) | (with_reducible refine z_isN_str ?_) | (with_reducible refine z_isI_tuple ?_) | (with_reducible refine z_isB_tuple ?_) | (with_reducible refine z_isS_tuple ?_) | (with_reducible refine z_isN_tuple ?_) | (with_reducible refine z_isI_list ?_) | (with_reducible refine z_isB_list ?_) | (with_reducible refine z_isS_list ?_) | (with_reducible refine z_isN_list ?_) | ((with_reducible apply z_isT_int); (focus (walk_at "tp"))) | ((with_reducible apply z_isL_int); (focus (walk_at "lq"))) | ((with_reducible apply z_isT_bool); (focus (walk_at "tp"))) | ((with_reducible apply z_isL_bool); (focus (walk_at "lq"))) | ((with_reducible apply z_isT_str); (focus (walk_at "tp"))) | ((with_reducible apply z_isL_str); (focus (walk_at "lq"))) | ((with_reducible apply z_isT_tuple); (focus (walk_at "tp"))) | ((with_reducible apply z_isL_tuple); (focus (walk_at "lq"))) | ((with_reducible apply z_isT_list); (focus (walk_at "tp"))) | ((with_reducible apply z_isL_list); (focus (walk_at "lq")))))
local macro_rules | `(tactic| walk_at "non") => `(tactic| with_reducible (first | refine z_nonR ?_ | refine z_notR ?_ | refine z_nonN ?_ | refine z_notN ?_ | refine z_nonI ?_ | refine z_notI ?_ | refine z_nonS ?_ | refine z_notS ?_))
local macro_rules | `(tactic| walk_at "z1") => `(tactic| (first | ((with_reducible apply z_var); (focus (walk_at "get"))) | with_reducible (first | refine z_c ?_ | refine z_op ?_ | refine z_I0 ?_ | refine z_asg ?_ | refine z_seq ?_ | refine z_EqI ?_ | refine z_NeI ?_ | refine z_EqS ?_ | refine z_NeS ?_ | refine z_test ?_ | refine z_tB ?_ | refine z_ebl ?_ | refine z_ifs ?_ | refine z_ret ?_ | refine z_cons ?_ | refine z_nil ?_ | refine z_call0 ?_ | refine z_callD ?_ | refine z_un ?_ | refine z_U ?_ | refine z_and ?_ | refine z_or ?_ | refine z_not ?_ | refine z_andV ?_ | refine z_orV ?_ | refine z_notV ?_ | refine z_if ?_ | refine z_chain ?_ | refine z_next ?_ | refine z_drop ?_ | refine z_par ?_ | refine z_cb ?_ | refine z_e1 ?_ | refine z_e2 ?_ | refine z_tup ?_ | refine iteT ?_ | refine iteF ?_ | refine z_iteNb ?_ | refine z_eint ?_ | refine z_gcons ?_ | refine z_gnil ?_ | refine z_sl ?_ | refine z_noP ?_ | refine z_part ?_ | refine z_lst ?_ | refine z_bm ?_ | refine z_for ?_ | refine z_iL ?_ | refine z_iT ?_ | refine z_iR1 ?_ | refine z_iR2 ?_ | refine z_iR3 ?_ | refine z_toI ?_ | refine z_toB ?_ | refine z_whN ?_) | ((with_reducible apply z_name); (focus (walk_at "set"))) | ((with_reducible apply z_par2); (focus (walk_at "set")); (focus (walk_at "set"))) | ((with_reducible apply z_mkt); (focus (exact Nat.le_of_ble_eq_true rfl)); (intro p H' n s e))))
local macro_rules | `(tactic| walk_at "z2") => `(tactic| first | ((with_reducible apply z_I); (focus (walk_at "cd"))) | ((with_reducible apply z_ixT); (focus (walk_at "tp")); (focus rfl)) | walk_at "isi" | walk_at "non" | ((with_reducible apply z_len); (focus (first | exact .inl (by walk_at "lq") | exact .inr (by walk_at "tp")))) | ((with_reducible apply z_gtup); (focus (walk_at "tp")); (focus rfl)) | ((with_reducible apply z_iL2); (focus (walk_at "lq"))) | ((with_reducible apply z_iT2); (focus (walk_at "tp"))) | ((with_reducible apply z_r1c); (focus (first | decide | omega)); (focus (first | decide | omega))) | ((with_reducible apply z_r2c); (focus (first | decide | omega)); (focus (first | decide | omega)); (focus (first | decide | omega)); (focus (first | decide | omega))))
local macro_rules | `(tactic| walk_at "bd") => `(tactic| first | assumption | exact Pr.ba (by assumption) | exact Pr.bb (by assumption) | exact (show My.Bd 64 _ by unfold My.Bd; decide) | ((with_reducible apply bd_mul) <;> (walk_at "bd")) | ((with_reducible apply bd_add) <;> (walk_at "bd")) | ((with_reducible apply bd_sub) <;> (walk_at "bd")) | ((with_reducible apply My.Bd.neg); (walk_at "bd")) | ((with_reducible apply My.Bd.mod); (focus (first | decide | omega | assumption)); (walk_at "bd")) | ((with_reducible apply My.Bd.div); (focus (first | decide | omega | assumption)); (walk_at "bd")) | exact bd_60 (by omega) (by omega) | exact (show My.Bd 256 _ by unfold My.Bd; decide))
local macro_rules | `(tactic| walk_at "mid") => `(tactic| first | assumption | ((apply My.Bd.mono); (focus (walk_at "bd")); (first | decide | omega)))
local macro_rules | `(tactic| walk_at "cd") => `(tactic| first | assumption | exact True.intro | decide | omega | exact ⟨by first | decide | omega, by first | decide | omega⟩ | exact ⟨by decide, by decide, by decide⟩ | exact .inl ⟨by first | decide | omega, by first | decide | omega⟩ | exact .inr ⟨by first | decide | omega, by first | decide | omega⟩ | exact ⟨by walk_at "mid", by walk_at "mid"⟩ | exact ⟨by first | decide | omega | assumption, by walk_at "mid"⟩)
local macro_rules | `(tactic| walk_at "pr") => `(tactic| first | assumption | ((apply Pr.kp); (focus assumption); (walk_at "pr")))
local macro_rules | `(tactic| walk_at "sp") => `(tactic| ((with_reducible apply a_number); (focus (walk_at "bd")); (focus (walk_at "bd")); (focus (first | decide | omega)); (focus (first | decide | omega)); (intro p H' x y s R g e)))
local macro_rules | `(tactic| walk_at "sp") => `(tactic| ((with_reducible apply a_numberD); (focus (walk_at "bd")); (focus (walk_at "bd")); (focus (first | decide | omega)); (focus (first | decide | omega)); (intro p H' x y s R g e)))
local macro_rules | `(tactic| walk_at "sp") => `(tactic| ((with_reducible apply a_two); (focus (walk_at "pr")); (focus (walk_at "pr")); (focus (first | decide | omega)); (focus (first | exact True.intro | assumption)); (intro p H' x y s R g e)))
local macro_rules | `(tactic| walk_at "sp") => `(tactic| ((with_reducible apply a_cmp); (focus (walk_at "pr")); (focus (walk_at "pr")); (focus (first | decide | omega))))
local macro_rules | `(tactic| walk_at "ji") => `(tactic| ((with_reducible apply z_joinI); (focus ((intro S q); (walk_at "run"); (exact q))); (focus ((intro hb S q); (walk_at "run"); (exact q))); (focus (walk_at "get")); (focus (walk_at "set"))))
local macro_rules | `(tactic| walk_at "run") => `(tactic| repeat (first | walk_at "ji" | walk_at "z1" | walk_at "z2" | walk_at "sp"))
local macro_rules | `(tactic| walk_at "bd6") => `(tactic| first | assumption | exact bd_60 (by omega) (by omega))
local macro_rules | `(tactic| walk_at "sp") => `(tactic| ((with_reducible apply a_cell); (focus (walk_at "lq")); (focus (first | decide | omega))))
section
variable {P : Program} {w : World} {K : PySem.W.Frag} {mg : Str → Option Value} {base : Heap} {t : Adr}
theorem atI_first {α : Type} {xs : List α} {x : α} (h : xs[0]? = some x) : atI xs 0 = some x := atI_nat (j := 0) h
theorem map_at {α β : Type} {g : α → β} {xs : List α} {j : Nat} {x : α} (h : xs[j]? = some x) : (xs.map g)[j]? = some (g x) := by rw [List.getElem?_map, h]; rfl
theorem of_map_at {α β : Type} {g : α → β} {xs : List α} {j : Nat} {v : β} (h : (xs.map g)[j]? = some v) : ∃ x, xs[j]? = some x ∧ v = g x := by
  rw [List.getElem?_map] at h
  cases q : xs[j]? with
  | none => rw [q] at h; cases h
  | some x => rw [q] at h; exact ⟨x, rfl, (Option.some.inj h).symm⟩
local macro_rules | `(tactic| walk_at "sp") => `(tactic| with_reducible (first | refine z_fv ?_ | refine z_fsn ?_ | refine z_fsc ?_ | refine z_iS ?_ | refine z_iS2 ?_ | refine z_inS ?_ | refine z_tyS ?_ | refine z_starts ?_ | refine z_lcn ?_))
theorem le_size {n : Nat} (h : n ≤ 1000) : n ≤ sizeLine := Nat.le_trans h (by decide)
theorem tg_same {K : PySem.W.Frag} {H H' : Hp} {x : V} {g : Tg} (s : Same H H') (h : tgIs K H x g) : tgIs K H' x g := by
  cases x <;> cases g <;> first | exact h | (obtain ⟨xs, z⟩ := h; first | exact ⟨xs, s.tup z⟩ | exact ⟨xs, s.seq z⟩ | exact ⟨xs, s _ _ z⟩)
noncomputable def sp_parts : Sp := fun vs H Q _ => ∃ d : Int, vs = [.int d] ∧ 0 ≤ d ∧ d ≤ 3652058 ∧ ∀ (p : Addr) (H' : Hp) (y m e : Int), Same H H' → H' p = some (.tup [.int y, .int m, .int e]) → My.Valid y m e → My.dayOf y m e = d → Q (.ref p) H'
theorem a_parts {H : Hp} {Q : VK} {E : XK} {d : Int} (h0 : 0 ≤ d) (h1 : d ≤ 3652058) (q : ∀ (p : Addr) (H' : Hp) (y m e : Int), Same H H' → H' p = some (.tup [.int y, .int m, .int e]) → My.Valid y m e → My.dayOf y m e = d → Q (.ref p) H') : sp_parts [.int d] H Q E := ⟨d, rfl, h0, h1, q⟩
local macro_rules | `(tactic| walk_at "sp") => `(tactic| ((with_reducible apply a_parts); (focus (first | assumption | omega)); (focus (first | assumption | omega)); (intro p H' y m e s hp vd ed)))
local macro_rules | `(tactic| walk_at "sp") => `(tactic| with_reducible (first | refine z_ints ?_ | refine z_notB ?_ | refine z_NeB ?_ | refine z_isB ?_ | refine z_EqB ?_ | refine z_iE ?_))
local macro_rules | `(tactic| walk_at "sp") => `(tactic| ((with_reducible apply z_iE2); (focus (walk_at "lq"))))
local macro_rules | `(tactic| walk_at "sp") => `(tactic| ((with_reducible apply z_slS); (focus (exact le_size (by omega)))))
local macro_rules | `(tactic| walk_at "z1I") => `(tactic| ((fail_if_success (with_reducible apply z_ifs)); (walk_at "z1")))
local macro_rules | `(tactic| walk_at "runI") => `(tactic| repeat (first | walk_at "ji" | walk_at "z1I" | walk_at "z2" | walk_at "sp"))
local macro_rules | `(tactic| walk_at "z1F") => `(tactic| ((fail_if_success (with_reducible apply z_ifs)); (fail_if_success (with_reducible apply z_for)); (walk_at "z1")))
local macro_rules | `(tactic| walk_at "runF") => `(tactic| repeat (first | walk_at "ji" | walk_at "z1F" | walk_at "z2" | walk_at "sp"))
inductive Pa where
  | int (i : Int) | oth
inductive Pv where
  | non | int (i : Int) | str (z : Str) | tup (l : List Pa) | oth
noncomputable def RpA (K : PySem.W.Frag) (H : Hp) : V → Pa → Prop
  | v, .int i => v = .int i
  | v, .oth => ∃ g, tgIs K H v g ∧ g ≠ .int
noncomputable def RpL (K : PySem.W.Frag) (H : Hp) : List V → List Pa → Prop
  | [], [] => True
  | v :: vs, a :: as => RpA K H v a ∧ RpL K H vs as
  | _, _ => False
noncomputable def Rp (K : PySem.W.Frag) (H : Hp) : V → Pv → Prop
  | v, .non => v = .non
  | v, .int i => v = .int i
  | v, .str z => v = .str z ∧ z.length ≤ 900
  | v, .tup l => ∃ p vs, v = .ref p ∧ SqT K H p vs ∧ RpL K H vs l
  | v, .oth => ∃ g, tgIs K H v g ∧ (g = .bl ∨ g = .lst ∨ g = .dic)
theorem RpA.same {K : PySem.W.Frag} {H H' : Hp} {v : V} {a : Pa} (s : Same H H') (h : RpA K H v a) : RpA K H' v a := by
  cases a with
  | int i => exact h
  | oth => obtain ⟨g, hg, ne⟩ := h; exact ⟨g, tg_same s hg, ne⟩
theorem RpL.same {K : PySem.W.Frag} {H H' : Hp} (s : Same H H') : ∀ {vs : List V} {l : List Pa}, RpL K H vs l → RpL K H' vs l
  | [], [], _ => True.intro
  | _ :: _, _ :: _, h => ⟨h.1.same s, RpL.same s h.2⟩
theorem RpL.len {K : PySem.W.Frag} {H : Hp} : ∀ {vs : List V} {l : List Pa}, RpL K H vs l → vs.length = l.length
  | [], [], _ => rfl
  | _ :: _, _ :: _, h => by rw [List.length_cons, List.length_cons, RpL.len h.2]
theorem Rp.same {K : PySem.W.Frag} {H H' : Hp} {v : V} {x : Pv} (s : Same H H') (h : Rp K H v x) : Rp K H' v x := by
  cases x with
  | tup l => obtain ⟨p, vs, e, hs, r⟩ := h; exact ⟨p, vs, e, s.tup hs, r.same s⟩
  | oth => obtain ⟨g, hg, ne⟩ := h; exact ⟨g, tg_same s hg, ne⟩
  | non => exact h
  | int i => exact h
  | str z => exact h
noncomputable def Pv.isS : Pv → Bool
  | .str _ => true | _ => false
noncomputable def Pv.isT : Pv → Bool
  | .tup _ => true | _ => false
noncomputable def Pv.isI : Pv → Bool
  | .int _ => true | _ => false
theorem Rp.tag {K : PySem.W.Frag} {H : Hp} {v : V} {x : Pv} (h : Rp K H v x) : ∃ g, tgIs K H v g ∧ g.isStr = x.isS ∧ g.isTup = x.isT ∧ (match g with | .int => true | _ => false) = x.isI := by
  cases x with
  | non => cases h; exact ⟨.non, True.intro, rfl, rfl, rfl⟩
  | int i => cases h; exact ⟨.int, True.intro, rfl, rfl, rfl⟩
  | str z => obtain ⟨rfl, _⟩ := h; exact ⟨.str, True.intro, rfl, rfl, rfl⟩
  | tup l => obtain ⟨p, vs, rfl, hs, _⟩ := h; exact ⟨.tup, ⟨vs, hs⟩, rfl, rfl, rfl⟩
  | oth => obtain ⟨g, hg, rfl | rfl | rfl⟩ := h <;> exact ⟨_, hg, rfl, rfl, rfl⟩
theorem Rp.non {K : PySem.W.Frag} {H : Hp} {v : V} {x : Pv} (h : Rp K H v x) : v = .non ↔ x = .non := by
  cases x with
  | non => cases h; exact ⟨fun _ => rfl, fun _ => rfl⟩
  | int i => cases h; exact ⟨nofun, nofun⟩
  | str z => obtain ⟨rfl, _⟩ := h; exact ⟨nofun, nofun⟩
  | tup l => obtain ⟨p, vs, rfl, hs, _⟩ := h; exact ⟨nofun, nofun⟩
  | oth =>
    obtain ⟨g, hg, hh⟩ := h
    refine ⟨fun z => ?_, nofun⟩
    subst z
    rcases hh with rfl | rfl | rfl <;> exact (show False from hg).elim
noncomputable def Pa.isI : Pa → Bool
  | .int _ => true | .oth => false
noncomputable def letB (c : Nat) : Bool := decide (97 ≤ c ∧ c ≤ 122)
noncomputable def wordS (z : Str) : Bool := decide (1 ≤ z.length) && (decide (z.length ≤ 8) && (My.cs z).all letB)
noncomputable def ixOf (ws : List Str) (z : Str) : Option Nat := ws.findIdx? fun x => decide (x = z)
noncomputable def Cols (K : PySem.W.Frag) (H : Hp) (xs : List V) (ws : List Str) : Prop := xs.length = ws.length ∧ ∀ (i : Nat) (v : V) (z : Str), xs[i]? = some v → ws[i]? = some z → ∃ p r, v = .ref p ∧ SqT K H p (.str z :: r)
theorem Cols.same {K : PySem.W.Frag} {H H' : Hp} {xs : List V} {ws : List Str} (s : Same H H') (h : Cols K H xs ws) : Cols K H' xs ws := ⟨h.1, fun i v z h1 h2 => by
  obtain ⟨p, r, e, hs⟩ := h.2 i v z h1 h2
  exact ⟨p, r, e, s.tup hs⟩⟩
noncomputable def sp_colat (K : PySem.W.Frag) : Sp := fun vs H Q _ => ∃ (a : Addr) (z : Str) (xs : List V) (ws : List Str), vs = [.ref a, .str z] ∧ SqL K H a xs ∧ Cols K H xs ws ∧ ∀ H', Same H H' → Q (match ixOf ws z with | some i => .int (i : Nat) | none => .non) H'
theorem ixOf_some {ws : List Str} {z : Str} {i : Nat} (h : ws[i]? = some z) (hb : ∀ j x, j < i → ws[j]? = some x → x ≠ z) : ixOf ws z = some i := by
  obtain ⟨hi, e⟩ := List.getElem?_eq_some_iff.mp h
  unfold ixOf
  rw [List.findIdx?_eq_some_iff_getElem]
  refine ⟨hi, by rw [e]; simp, fun j hj => ?_⟩
  have := hb j _ hj (List.getElem?_eq_getElem (by omega))
  simpa using this
theorem ixOf_none {ws : List Str} {z : Str} (hb : ∀ j x, j < ws.length → ws[j]? = some x → x ≠ z) : ixOf ws z = none := by
  unfold ixOf
  rw [List.findIdx?_eq_none_iff]
  intro x hx
  obtain ⟨j, hj, e⟩ := List.getElem_of_mem hx
  have := hb j x hj (by rw [List.getElem?_eq_getElem hj, e])
  simpa using this
theorem at_cons0 (x : V) (r : List V) : atI (x :: r) 0 = some x := atI_first rfl
theorem ok_column_at (T : Txt K mg t) : FnOk P w K mg base CX0 1 t.f_column_at t.d_column_at ["columns", "name"] (sp_colat K) := by
  refine T.F_column_at.ok sc_column_at (fun vs H Q E h => ?_) (fun cdv A outer s H vs Q E hr h => ?_)
  · obtain ⟨a, z, xs, ws, rfl, _⟩ := h
    rfl
  obtain ⟨a, z, xs, ws, rfl, hS, hC, q⟩ := h
  refine ⟨_, (pss_cons (ps_for PassesOwn.never rfl (pi_enum rfl T.z_enumerate (pa_cons (pv 0) pa_nil)) (pg_tup rfl (pgs_cons (pg_name (i := 2) sc_column_at.nd rfl (Or.inl rfl)) (pgs_cons (pg_name (i := 3) sc_column_at.nd rfl (Or.inl rfl)) pgs_nil))) (pss_one (ps_if (pt_cmpR op_eq (pe_ix ix_tup (pv 3) pe_int (fun _ _ => rfl)) (pv 1) (nomark _)) (pss_one (ps_ret (pv 2))) pss_nil)))
  (pss_one (ps_ret pe_non))), z_go (σ := [some _, some _, none, none]) rfl ?_⟩
  walk_at "run"
  refine f_enum (K := K) (xs := xs) (fun i σ HD => (∃ u1 u2, σ = [some (.ref a), some (.str z), u1, u2]) ∧ Same H HD ∧ ∀ j x, j < i → ws[j]? = some x → x ≠ z) ⟨⟨none, none, rfl⟩, Same.refl _, fun j x hj => absurd hj (Nat.not_lt_zero _)⟩ (fun i σ HD _ ⟨_, sD, _⟩ => sD.seq hS) ?_ ?_
  · rintro i v σ HD hi ⟨⟨u1, u2, rfl⟩, sD, hb⟩ p H1 s1 hp
    have hlt : i < ws.length := by rw [← hC.1]; exact (List.getElem?_eq_some_iff.mp hi).1
    obtain ⟨x, hx⟩ : ∃ x, ws[i]? = some x := ⟨_, List.getElem?_eq_getElem hlt⟩
    obtain ⟨pc, r, rfl, hs⟩ := hC.2 i v x hi hx
    have hs1 := s1.tup (sD.tup hs)
    walk_at "run"
    refine z_ixT hs1 (at_cons0 _ _) ?_
    walk_at "run"
    refine z_iteD (fun h => ?_) (fun h => ?_)
    · subst h
      walk_at "run"
      have q := q _ (sD.trans s1)
      rw [ixOf_some hx hb] at q
      exact q
    · walk_at "run"
      refine ⟨⟨_, _, rfl⟩, sD.trans s1, fun j y hj e => ?_⟩
      rcases Nat.lt_succ_iff_lt_or_eq.mp hj with k | k
      · exact hb j y k e
      · subst k
        rw [hx] at e
        cases e
        exact h
  · rintro σ HD ⟨⟨u1, u2, rfl⟩, sD, hb⟩
    walk_at "run"
    have q := q _ sD
    rw [ixOf_none (fun j x hj e => hb j x (by rw [hC.1]; exact hj) e)] at q
    exact q
theorem p6' : (10 : Int) ^ (6 : Int).toNat = 1000000 := by decide
theorem p60' : (10 : Int) ^ (60 : Int).toNat = 1000000000000000000000000000000000000000000000000000000000000 := by decide
theorem bdP : My.Bd 200 ((10 : Int) ^ (60 : Int).toNat) := by
  rw [p60']
  unfold My.Bd
  have e2 : (2 : Int) ^ 200 = 1606938044258990275541962092341162602522202993782792835301376 := by decide
  omega
theorem bd8 {x : Int} (h : My.Bd 200 x) : My.Bd 1600 (x ^ (8 : Int).toNat) := by
  have e : x ^ (8 : Int).toNat = x * x * (x * x) * (x * x * (x * x)) := by
    show x ^ 8 = _
    simp only [Int.pow_succ, Int.pow_zero, Int.one_mul, Int.mul_assoc]
  rw [e]
  have h2 := h.mul h
  have h4 := h2.mul h2
  exact h4.mul h4
theorem z_appendS {K : PySem.W.Frag} {H : Hp} {Q : VK} {l : Addr} {xs : List V} {v : V} (h : H l = some (.lst xs)) (hl : xs.length ≤ 900) (q : ∀ H', But l H H' → H' l = some (.lst (xs ++ [v])) → Q .non H') : rAppend (.ref l) [v] H Q := z_append h (Nat.lt_of_le_of_lt hl (by decide)) q
noncomputable def sp_draw6 (K : PySem.W.Frag) : Sp := fun vs H Q _ => ∃ (a : Addr) (k m : Int) (ns : List Int), vs = [.ref a, .int k, .int m] ∧ SqL K H a (ns.map V.int) ∧ (0 ≤ k ∧ k ≤ 100) ∧ (0 ≤ m ∧ m ≤ 100) ∧ ∀ (p : Addr) (H' : Hp) (ds : List Int), Same H H' → H p = none → H' p = some (.lst (ds.map V.int)) → ds.length = m.toNat → (∀ d ∈ ds, 0 ≤ d ∧ d < 1000000) → Q (.ref p) H'
theorem ok_l_draws (T : Txt K mg t) : FnOk P w K mg base CX0 2 t.f_l_draws t.d_l_draws ["_law_script", "_law_k", "_law_many"] (sp_draw6 K) := by
  have G_l_cell_at := ok_l_cell_at (P := P) (w := w) (base := base) T
  refine T.F_l_draws.ok sc_l_draws (fun vs H Q E h => ?_) (fun cdv A outer s H vs Q E hr h => ?_)
  · obtain ⟨a, k, m, ns, rfl, _⟩ := h
    rfl
  obtain ⟨a, k, m, ns, rfl, hS, hk, hm, q⟩ := h
  refine ⟨_, (pss_cons (ps_set (i := 3) sc_l_draws.nd rfl (Or.inl rfl) (pe_op op_mod (pe_callB call_abs rfl T.z_abs bt_abs (pa_cons (pe_call G_l_cell_at (hr.mono (by decide)) rfl T.m_l_cell_at T.k_l_cell_at T.b_l_cell_at .nil pass0 (pa_cons (pv 0) (pa_cons (pv 1) pa_nil))) pa_nil)) (pe_op op_powB (pe_op op_pow pe_int pe_int) pe_int)))
  (pss_cons (ps_set (i := 4) sc_l_draws.nd rfl (Or.inl rfl) (pe_op op_mulB (pv 3) (pe_callTy call_int1 rfl T.z_int bt_int (pa_cons (pe_cmpR op_ge (pv 3) (pe_op op_pow pe_int pe_int) (nomark _)) pa_nil))))
  (pss_cons (ps_set (i := 5) sc_l_draws.nd rfl (Or.inl rfl) (pe_op op_add (pe_op op_add (pe_op op_mod (pv 3) pe_int) (pe_op op_mulB pe_int (pv 1))) pe_int))
  (pss_cons (ps_set (i := 6) sc_l_draws.nd rfl (Or.inl rfl) (pe_lst pa_nil))
  (pss_cons (ps_for PassesOwn.never rfl (pi_range1 rfl T.z_range (pa_cons (pv 2) pa_nil)) (pg_name (i := 7) sc_l_draws.nd rfl (Or.inl rfl)) (pss_one (ps_if (pt_cmpR op_gt (pv 4) pe_int (nomark _)) (pss_cons (ps_expr (pe_bm PySem.F.plainAttrs_list PySem.F.slot_list_append PySem.F.type_list_append mt_append (pv 6) (pa_cons (pe_op op_mod (pv 4) (pe_op op_pow pe_int pe_int)) pa_nil)))
  (pss_one (ps_set (i := 4) sc_l_draws.nd rfl (Or.inl rfl) (pe_op op_fdivB (pv 4) (pe_op op_pow pe_int pe_int))))) (pss_cons (ps_set (i := 5) sc_l_draws.nd rfl (Or.inl rfl) (pe_op op_mod (pe_op op_add (pe_op op_add (pe_op op_mulB (pv 5) pe_int) (pe_op op_mulB (pv 7) (pv 7))) (pv 1)) pe_int))
  (pss_one (ps_expr (pe_bm PySem.F.plainAttrs_list PySem.F.slot_list_append PySem.F.type_list_append mt_append (pv 6) (pa_cons (pe_op op_mod (pe_op op_fdivB (pe_op op_mod (pe_op op_mulB (pv 5) (pv 5)) pe_int) pe_int) (pe_op op_pow pe_int pe_int)) pa_nil))))))))
  (pss_one (ps_ret (pv 6)))))))), z_go (σ := [some _, some _, some _, none, none, none, none, none]) rfl ?_⟩
  walk_at "run"
  generalize (if cellAt ns k < 0 then -cellAt ns k else cellAt ns k) = c0
  refine z_I ⟨by decide, by decide, bdP.mono (by decide)⟩ ?_
  have M0 : (0 : Int) < ((10 : Int) ^ (60 : Int).toNat) ^ (8 : Int).toNat := Int.pow_pos (Int.pow_pos (by decide))
  have M1 := bd8 bdP
  generalize ((10 : Int) ^ (60 : Int).toNat) ^ (8 : Int).toNat = M at M0 M1
  have c1 := Int.emod_nonneg c0 (show M ≠ 0 by omega)
  have c2 := Int.emod_lt_of_pos c0 M0
  have cM : Mid (c0 % M) := (My.Bd.of_le M1 c1 (by omega)).mono (by decide)
  walk_at "run"
  generalize c0 % M = c at *
  have bM : ∀ b : Bool, Mid (if b = true then (1 : Int) else 0) := fun b => by cases b <;> exact midB (by decide) (by decide)
  have r0 : 0 ≤ c * (if decide (10 ^ Int.toNat 18 ≤ c) = true then (1 : Int) else 0) := Int.mul_nonneg c1 (by split <;> decide)
  generalize c * (if decide (10 ^ Int.toNat 18 ≤ c) = true then (1 : Int) else 0) = r at r0
  walk_at "run"
  have m1 := Int.emod_nonneg c (show (2305843009213693951 : Int) ≠ 0 by decide)
  have m2 := Int.emod_lt_of_pos c (show (0 : Int) < 2305843009213693951 by decide)
  generalize hmx : c % 2305843009213693951 + 48271 * k + 7 = mx
  have mx0 : 0 ≤ mx := by omega
  have mx1 : mx < 4611686018427387904 := by omega
  refine z_mkl (Nat.le_of_ble_eq_true rfl) (fun l H1 n1 s1 e1 => ?_)
  walk_at "run"
  refine f_range (fun i σ HD => (∃ (x y : Int) (u : Option V), σ = [some (.ref a), some (.int k), some (.int m), some (.int c), some (.int x), some (.int y), some (.ref l), u] ∧ 0 ≤ x ∧ 0 ≤ y ∧ y < 4611686018427387904) ∧ Same H HD ∧ ∃ ds : List Int, HD l = some (.lst (ds.map V.int)) ∧ ds.length = i ∧ ∀ d ∈ ds, 0 ≤ d ∧ d < 1000000) ⟨⟨_, _, _, rfl, r0, mx0, mx1⟩, s1, [], e1, rfl, fun d h => absurd h List.not_mem_nil⟩ ?_ ?_
  · rintro i σ HD hi ⟨⟨x, y, u, rfl, x0, y0, y1⟩, sD, ds, hds, hdl, hdd⟩
    have dl : (ds.map V.int).length ≤ 900 := by rw [List.length_map]; omega
    have i0 : (i : Int) < 100 := by omega
    have ym : Mid y := (show My.Bd 62 y by unfold My.Bd; omega).mono (by decide)
    have snoc : ∀ d : Int, 0 ≤ d → d < 1000000 → ∀ e ∈ ds ++ [d], 0 ≤ e ∧ e < 1000000 := fun d d0 d1 e he => by
      rcases List.mem_append.mp he with z | z
      · exact hdd e z
      · rw [List.mem_singleton.mp z]; exact ⟨d0, d1⟩
    walk_at "run"
    refine z_iteD (fun hb => ?_) (fun hb => ?_)
    · walk_at "run"
      refine ⟨.inl ⟨rfl, _, SqL.of hds⟩, ?_⟩
      walk_at "run"
      refine z_appendS (K := K) hds dl (fun H2 b2 hl2 => ?_)
      rw [p6'] at hl2
      walk_at "run"
      rw [p6']
      exact ⟨⟨_, _, _, rfl, by omega, y0, y1⟩, sD.but n1 b2, ds ++ [x % 1000000], by rw [List.map_append]; exact hl2, by simp [hdl], snoc _ (by omega) (by omega)⟩
    · walk_at "run"
      generalize hy2 : (y * 1181783497276652981 + (0 + (i : Int)) * (0 + (i : Int)) + k) % 2305843009213693951 = y2
      have y20 : 0 ≤ y2 := by rw [← hy2]; exact Int.emod_nonneg _ (by decide)
      have y21 : y2 < 2305843009213693951 := by rw [← hy2]; exact Int.emod_lt_of_pos _ (by decide)
      have y2m : Mid y2 := (show My.Bd 62 y2 by unfold My.Bd; omega).mono (by decide)
      walk_at "run"
      refine ⟨.inl ⟨rfl, _, SqL.of hds⟩, ?_⟩
      walk_at "run"
      refine z_appendS (K := K) hds dl (fun H2 b2 hl2 => ?_)
      rw [p6'] at hl2
      walk_at "run"
      exact ⟨⟨_, _, _, rfl, x0, y20, by omega⟩, sD.but n1 b2, ds ++ [_], by rw [List.map_append]; exact hl2, by simp [hdl], snoc _ (by omega) (by omega)⟩
  · rintro σ HD ⟨⟨x, y, u, rfl, _⟩, sD, ds, hds, hdl, hdd⟩
    walk_at "run"
    exact q _ _ ds sD n1 hds hdl hdd
noncomputable def sp_low47 : Sp := fun vs H Q _ => ∃ tp bt : Int, vs = [.int tp, .int bt] ∧ 0 < bt ∧ My.Bd 3000 bt ∧ ∀ (p : Addr) (H' : Hp) (x y : Int), Same H H' → H' p = some (.tup [.int x, .int y]) → 0 < y → y ≤ bt → Int.gcd x y = 1 → x.natAbs ≤ tp.natAbs → Q (.ref p) H'
theorem gcd_absl (a b : Int) : Int.gcd (if a < 0 then -a else a) b = Int.gcd a b := by
  split
  · exact Int.neg_gcd
  · rfl
theorem low_okB {tp bt : Int} (hb : 0 < bt) : 0 < bt / ((Int.gcd tp bt : Nat) : Int) ∧ Int.gcd (tp / ((Int.gcd tp bt : Nat) : Int)) (bt / ((Int.gcd tp bt : Nat) : Int)) = 1 ∧ (tp / ((Int.gcd tp bt : Nat) : Int)).natAbs ≤ tp.natAbs ∧ (bt / ((Int.gcd tp bt : Nat) : Int)).natAbs ≤ bt.natAbs := by
  have g0 := My.gcd_pos (a := tp) hb
  have M := My.made_of (t := tp) (m := bt) (by omega)
  have e : My.sg tp bt = ((Int.gcd tp bt : Nat) : Int) := if_neg (by omega)
  have e1 : tp.fdiv (My.sg tp bt) = tp / ((Int.gcd tp bt : Nat) : Int) := by rw [e]; exact Int.fdiv_eq_ediv_of_nonneg _ (by omega)
  have e2 : bt.fdiv (My.sg tp bt) = bt / ((Int.gcd tp bt : Nat) : Int) := by rw [e]; exact Int.fdiv_eq_ediv_of_nonneg _ (by omega)
  rw [e1, e2] at M
  exact ⟨M.pos, M.low, M.ba, M.bb⟩
theorem ok_l_low (T : Txt K mg t) : FnOk P w K mg base CX0 1 t.f_l_low t.d_l_low ["_law_top", "_law_bottom"] (sp_low47) := by
  refine T.F_l_low.ok sc_l_low (fun vs H Q E h => ?_) (fun cdv A outer s H vs Q E hr h => ?_)
  · obtain ⟨tp, bt, rfl, _⟩ := h
    rfl
  obtain ⟨tp, bt, rfl, hb, hB, q⟩ := h
  refine ⟨_, (pss_cons (ps_set (i := 2) sc_l_low.nd rfl (Or.inl rfl) (pe_callB call_abs rfl T.z_abs bt_abs (pa_cons (pv 0) pa_nil)))
  (pss_cons (ps_set (i := 3) sc_l_low.nd rfl (Or.inl rfl) (pv 1))
  (pss_cons (ps_while PassesOwn.never (pt_cmpR op_ne (pv 3) pe_int (nomark _)) (pss_one (ps_par (i := 2) (j := 3) rfl sc_l_low.nd rfl rfl (by decide) rfl rfl (pa_cons (pv 3) (pa_cons (pe_op op_mod (pv 2) (pv 3)) pa_nil)) rfl)))
  (pss_one (ps_ret (pe_tup (pa_cons (pe_op op_fdivB (pv 0) (pv 2)) (pa_cons (pe_op op_fdivB (pv 1) (pv 2)) pa_nil)))))))), z_go (σ := [some _, some _, none, none]) rfl ?_⟩
  walk_at "run"
  refine z_while (fun m σ H2 => ∃ x y : Int, σ = [some (.int tp), some (.int bt), some (.int x), some (.int y)] ∧ H2 = H ∧ 0 ≤ x ∧ 0 ≤ y ∧ m = y.toNat ∧ Int.gcd x y = Int.gcd tp bt) bt.toNat ⟨_, _, rfl, rfl, by split <;> omega, by omega, rfl, gcd_absl tp bt⟩ ?_
  rintro m σ H2 ⟨x, y, rfl, rfl, x0, y0, rfl, hg⟩
  walk_at "run"
  refine z_iteD (fun h => ?_) (fun h => ?_)
  · subst h
    have e : x = ((Int.gcd tp bt : Nat) : Int) := by rw [← hg, Int.gcd_zero_right]; omega
    have g0 := My.gcd_pos (a := tp) hb
    have g1 : ((Int.gcd tp bt : Nat) : Int) ≤ bt := My.gcd_le hb
    have gm : Mid ((Int.gcd tp bt : Nat) : Int) := (My.Bd.of_le hB (by omega) g1).mono (by decide)
    subst e
    obtain ⟨r1, r2, r3, r4⟩ := low_okB (tp := tp) hb
    walk_at "run"
    rename_i p H3 n3 s3 e3
    exact q _ _ _ _ s3 e3 r1 (by omega) r2 r3
  · have yp : 0 < y := by omega
    walk_at "run"
    have e0 := Int.emod_nonneg x (show y ≠ 0 by omega)
    have e1 := Int.emod_lt_of_pos x yp
    exact ⟨_, _, rfl, (x % y).toNat, by omega, _, _, rfl, rfl, y0, e0, rfl, by rw [My.gcd_step, hg]⟩

abbrev Col := Str × Str
noncomputable def colT (c : Col) : Tr := .tup [.str c.1, .str c.2]
theorem join0 : ∀ (cs : List Nat), My.cs (Str.join "" (cs.map fun c => (⟨#[c]⟩ : Str))) = cs
  | [] => rfl
  | [c] => rfl
  | c :: d :: r => by
    show My.cs ((⟨#[c]⟩ : Str) ++ "" ++ Str.join "" ((d :: r).map fun c => (⟨#[c]⟩ : Str))) = _
    rw [My.cs_app, My.cs_app, join0 (d :: r)]
    rfl
theorem join_one (cs : List Nat) : My.cs (PySem.Txt.join "" (cs.map fun c => (⟨#[c]⟩ : Str))) = cs := by
  show My.cs (Builtin.Str.glued "" _) = _
  rw [PySem.StrLaws.glued_eq_join]
  exact join0 cs
theorem one_strs : ∀ {xs : List V} {f : Nat → Bool}, (∀ (i : Nat) (v : V), xs[i]? = some v → ∃ c, f c = true ∧ v = V.str ⟨#[c]⟩) → ∃ cs : List Nat, xs = (cs.map fun c => (⟨#[c]⟩ : Str)).map V.str ∧ cs.all f = true
  | [], _, _ => ⟨[], rfl, rfl⟩
  | x :: r, f, h => by
    obtain ⟨c, hc, rfl⟩ := h 0 x rfl
    obtain ⟨cs, rfl, ha⟩ := one_strs (xs := r) (f := f) fun i v e => h (i + 1) v e
    exact ⟨c :: cs, rfl, by rw [List.all_cons, hc, ha]; rfl⟩
theorem joinOk1 (cs : List Nat) (h : cs.length ≤ 1000) : PySem.JoinOk "" (cs.map fun c => (⟨#[c]⟩ : Str)) = true := by
  unfold PySem.JoinOk
  rw [PySem.StrLaws.joinFits (B := 1) (fun x hx => by
    obtain ⟨c, _, rfl⟩ := List.mem_map.mp hx
    exact Nat.le_refl _) (by
    rw [List.length_map, show ("" : Str).length = 0 from rfl]
    omega)]
  rfl
theorem letter26 {d : Int} (h0 : 0 ≤ d) (h1 : d < 26) : ∃ c, atI ("abcdefghijklmnopqrstuvwxyz" : Str).cps.toList d = some c ∧ letB c = true := by
  have e : ("abcdefghijklmnopqrstuvwxyz" : Str).cps.toList = [97, 98, 99, 100, 101, 102, 103, 104, 105, 106, 107, 108, 109, 110, 111, 112, 113, 114, 115, 116, 117, 118, 119, 120, 121, 122] := by decide
  obtain ⟨k, rfl⟩ := Int.eq_ofNat_of_zero_le h0
  have hk : k < ("abcdefghijklmnopqrstuvwxyz" : Str).cps.toList.length := by rw [e]; simp; omega
  refine ⟨_, atI_nat (List.getElem?_eq_getElem hk), ?_⟩
  have : ∀ c ∈ ("abcdefghijklmnopqrstuvwxyz" : Str).cps.toList, letB c = true := by rw [e]; decide
  exact this _ (List.getElem_mem hk)
theorem wordS_of {z : Str} (h1 : 1 ≤ z.length) (h2 : z.length ≤ 8) (h3 : (My.cs z).all letB = true) : wordS z = true := by
  unfold wordS
  rw [decide_eq_true h1, decide_eq_true h2, h3]; rfl
local macro_rules | `(tactic| walk_at "tg") => `(tactic| repeat (first | exact Gt.here | apply Gt.next))
local macro_rules | `(tactic| walk_at "ts") => `(tactic| repeat (first | exact Sto.here | apply Sto.next))
local macro_rules | `(tactic| walk_at "rk") => `(tactic| first | exact Rk.fz | ((with_reducible apply Rk.own); (focus ((walk_at "tg"); done))) | ((with_reducible apply Rk.sfz); (focus ((walk_at "tg"); done))) | ((with_reducible apply Rk.vw); (focus ((walk_at "tg"); done))))
local macro_rules | `(tactic| walk_at "tvar") => `(tactic| first | ((with_reducible apply e_var); (focus ((walk_at "tg"); done))) | ((with_reducible apply e_varO); (focus ((walk_at "tg"); done))) | ((with_reducible apply e_varV); (focus ((walk_at "tg"); done))) | ((with_reducible apply e_varW); (focus ((walk_at "tg"); done))))
local macro_rules | `(tactic| walk_at "t1I") => `(tactic| first | walk_at "tvar" | with_reducible (first | refine p_fz ?_ | refine p_nw ?_ | refine p_sl ?_ | refine as_fz ?_ | refine as_nw ?_ | refine aa_fz ?_ | refine aa_nw ?_ | refine aa_wd ?_ | refine e_cI ?_ | refine e_cB ?_ | refine e_cN ?_ | refine e_cS ?_ | refine e_cT ?_ | refine e_cb1 ?_ | refine e_cb2 ?_ | refine e_un ?_ | refine e_andV ?_ | refine e_orV ?_ | refine e_notV ?_ | refine e_if ?_ | refine e_chain ?_ | refine t_test ?_ | refine t_B ?_ | refine t_ebl ?_ | refine t_and ?_ | refine t_or ?_ | refine t_not ?_ | refine t_eint ?_ | refine t_lst ?_ | refine t_tup ?_ | refine a_nil ?_ | refine a_cons ?_ | refine a_ints ?_ | refine w_nil ?_ | refine w_cons ?_ | refine e_tup ?_ | refine e_lst ?_ | refine e_sl ?_ | refine o_no ?_ | refine o_part ?_ | refine s_seq ?_ | refine s_next ?_ | refine s_drop ?_ | refine s_ret ?_ | refine s_asg ?_ | refine s_par ?_ | refine s_for ?_ | refine s_setlc ?_ | refine t_yes ?_ | refine i_rng1 ?_ | refine i_rng2 ?_ | refine iteT ?_ | refine iteF ?_ | refine z_iteNb ?_ | refine gs_nil ?_ | refine gs_cons ?_ | refine rt_fz ?_) | ((with_reducible apply as_own); (focus ((walk_at "tg"); done)); (focus ((walk_at "ts"); done))) | ((with_reducible apply as_sfz); (focus ((walk_at "tg"); done))) | ((with_reducible apply aa_own); (focus ((walk_at "tg"); done)); (focus ((walk_at "ts"); done))) | ((with_reducible apply aa_sfz); (focus ((walk_at "tg"); done))) | ((with_reducible apply g_fz); (focus ((walk_at "ts"); done))) | ((with_reducible apply g_nw); (focus ((walk_at "ts"); done))) | ((with_reducible apply g_sl); (focus ((walk_at "tg"); done)); (focus ((walk_at "ts"); done)); (focus ((walk_at "ts"); done))) | ((with_reducible apply sto2); (focus ((walk_at "ts"); done))) | ((with_reducible apply par2); (focus ((walk_at "ts"); done)); (focus ((walk_at "ts"); done))) | ((with_reducible apply t_len); (focus (exact Nat.le_of_ble_eq_true rfl))) | ((with_reducible apply i_list); (focus rfl)) | ((with_reducible apply i_tup); (focus rfl)) | ((with_reducible apply i_enum); (focus rfl)) | ((with_reducible apply e_bm); (focus rfl)) | ((with_reducible apply e_bm0); (focus rfl)) | ((with_reducible apply g_tup); (focus rfl); (focus rfl)) | ((with_reducible apply e_isiTL); (focus rfl)))
local macro_rules | `(tactic| walk_at "t1") => `(tactic| first | walk_at "t1I" | (with_reducible refine s_ifs ?_))
local macro_rules | `(tactic| walk_at "t2") => `(tactic| first | ((with_reducible apply e_repLit); (focus decide); (focus decide)) | (with_reducible refine e_op ?_) | ((with_reducible apply ro_I); (focus (walk_at "cd"))) | ((with_reducible apply ro_IB); (focus (walk_at "cd"))) | with_reducible (first | refine ro_I0 ?_ | refine ro_I0B ?_ | refine ru_U ?_ | refine ro_EqI ?_ | refine ro_NeI ?_ | refine ro_EqS ?_ | refine ro_NeS ?_ | refine ro_EqB ?_ | refine ro_NeB ?_ | refine ro_isB ?_ | refine ro_notB ?_ | refine ru_abs ?_ | refine ru_toI ?_ | refine ru_toB ?_ | refine ro_max2 ?_ | refine ro_min2 ?_ | refine ru_lenK ?_) | ((with_reducible apply ro_isNT); (focus rfl)) | ((with_reducible apply ro_isNF); (focus rfl)) | ((with_reducible apply ro_notNT); (focus rfl)) | ((with_reducible apply ro_notNF); (focus rfl)) | ((with_reducible apply ro_ixL); (focus rfl); (focus (walk_at "rk")); (focus rfl)) | ((with_reducible apply ro_ixT); (focus rfl); (focus (walk_at "rk")); (focus rfl)) | ((with_reducible apply ru_len); (focus rfl); (focus (walk_at "rk"))) | ((with_reducible apply ru_lenT); (focus rfl); (focus (walk_at "rk"))) | ((with_reducible apply ro_isiT); (focus rfl); (focus rfl); (focus rfl)) | ((with_reducible apply ro_isiF); (focus rfl); (focus rfl); (focus rfl)) | ((with_reducible apply t_efzT); (focus rfl); (focus rfl)) | ((with_reducible apply t_efzF); (focus rfl); (focus rfl)) | ((with_reducible apply ru_list); (focus rfl); (focus (walk_at "rk"))) | ((with_reducible apply ru_listT); (focus rfl); (focus (walk_at "rk"))) | ((with_reducible apply ru_tup); (focus rfl); (focus (walk_at "rk"))) | ((with_reducible apply rs_L); (focus rfl); (focus (walk_at "rk"))) | ((with_reducible apply ty_list); (focus (walk_at "rk"))) | (with_reducible refine ty_str ?_) | ((with_reducible apply rm_append); (focus ((walk_at "tg"); done)); (focus (walk_at "tl")); (focus ((walk_at "ts"); done))) | ((with_reducible apply rm_clear); (focus ((walk_at "tg"); done)); (focus ((walk_at "ts"); done))) | ((with_reducible apply rm_reverse); (focus ((walk_at "tg"); done)); (focus ((walk_at "ts"); done))) | ((with_reducible apply e_call); (focus rfl)) | ((with_reducible apply e_callD0); (focus rfl)))
local macro_rules | `(tactic| walk_at "tl") => `(tactic| first | (exact Nat.le_of_ble_eq_true rfl) | omega | (simp; omega))
local macro_rules | `(tactic| walk_at "trun") => `(tactic| repeat (first | walk_at "t1" | walk_at "t2" | walk_at "tsp"))
local macro_rules | `(tactic| walk_at "tsp") => `(tactic| fail)
local macro_rules | `(tactic| walk_at "trunI") => `(tactic| repeat (first | walk_at "t1I" | walk_at "t2" | walk_at "tsp"))
noncomputable def ixT : Option Nat → Tr
  | some i => .int (i : Nat)
  | none => .non
noncomputable def st_colat : SpT := fun _ as Φ _ => ∃ (cols : List Col) (z : Str), as = [.fz (.lst (cols.map colT)), .fz (.str z)] ∧ Φ (.fz (ixT (ixOf (cols.map (·.1)) z)))
theorem okT_column_at (T : Txt K mg t) : FnOk P w K mg base CX0 1 t.f_column_at t.d_column_at ["columns", "name"] (toSp K st_colat) := by
  refine (ok_column_at (P := P) (w := w) (base := base) T).imp fun vs H Q E h => ?_
  obtain ⟨B, as, Φ, Ψ, rfl, rfl, bk, la, ⟨cols, z, rfl, φ⟩, q, _⟩ := h
  obtain ⟨v, w', rfl, iv, iw⟩ := arl2 la
  cases iw
  cases iv with
  | lst hs g =>
    refine ⟨_, z, _, cols.map (·.1), rfl, bk.i.seq hs, ⟨by rw [g.length, List.length_map, List.length_map], fun j v' x hv hx => ?_⟩, fun H' sH => ?_⟩
    · obtain ⟨t, ht, it⟩ := g.get2 hv
      obtain ⟨c, hc, rfl⟩ := of_map_at ht
      obtain ⟨c', hc', rfl⟩ := of_map_at hx
      rw [hc] at hc'
      cases hc'
      cases it with
      | tup h1 g1 =>
        cases g1 with
        | cons g2 g1 =>
          cases g2
          exact ⟨_, _, rfl, bk.i.tup h1⟩
    · cases hi : ixOf (cols.map (·.1)) z with
      | none => rw [hi] at φ; exact q .non _ H' (.fz .non) (upT bk rfl rfl sH) .non φ
      | some i => rw [hi] at φ; exact q (.int (i : Nat)) _ H' (.fz (.int (i : Nat))) (upT bk rfl rfl sH) .int φ
theorem ite_t {b : Bool} {A B : Prop} (h : b = true) (a : A) : if b = true then A else B := by rw [if_pos h]; exact a
theorem ite_f {b : Bool} {A B : Prop} (h : b = false) (a : B) : if b = true then A else B := by rw [h, if_neg (by decide)]; exact a
noncomputable def wshO : Option (List Str) → Tr
  | none => .tup [.str "order"]
  | some ws => .tup [.str "order", .tup (ws.map Tr.str)]
noncomputable def addU (acc : List Str) (c : Str) : List Str := if c ∈ acc then acc else acc ++ [c]
noncomputable def uniqV (cells : List Str) : List Str := cells.foldl addU []
theorem uniq_take {cells : List Str} {i : Nat} {c : Str} (h : cells[i]? = some c) : uniqV (cells.take (i + 1)) = addU (uniqV (cells.take i)) c := by
  unfold uniqV
  rw [List.take_succ, h, List.foldl_append]
  rfl
theorem uniq_len : ∀ (cells : List Str) (acc : List Str), (cells.foldl addU acc).length ≤ acc.length + cells.length
  | [], acc => by simp
  | c :: r, acc => by
    rw [List.foldl_cons, List.length_cons]
    have := uniq_len r (addU acc c)
    have : (addU acc c).length ≤ acc.length + 1 := by
      unfold addU
      split
      · omega
      · rw [List.length_append, List.length_singleton]; omega
    omega
theorem put_keys {kvs : List (Key × V)} {ws : List Str} {z : Str} {v : V} (h : kvs.map (·.1) = ws.map Sum.inr) : (putK kvs (Sum.inr z) v).map (·.1) = (addU ws z).map Sum.inr := by
  unfold putK addU
  have e : (kvs.any fun kv => decide (kv.1 = Sum.inr z)) = decide (z ∈ ws) := by
    have : (kvs.any fun kv => decide (kv.1 = Sum.inr z)) = (kvs.map (·.1)).any fun k => decide (k = Sum.inr z) := by rw [List.any_map]; rfl
    rw [this, h, List.any_map]
    by_cases hz : z ∈ ws
    · rw [decide_eq_true hz, List.any_eq_true]
      exact ⟨z, hz, by simp⟩
    · rw [decide_eq_false hz, List.any_eq_false]
      intro x hx
      have : x ≠ z := fun q => hz (q ▸ hx)
      simp [this]
  rw [e]
  by_cases hz : z ∈ ws
  · rw [decide_eq_true hz, if_pos rfl, if_pos hz, ← h, List.map_map]
    apply List.map_congr_left
    intro kv _
    show (if kv.1 = Sum.inr z then (kv.1, v) else kv).1 = kv.1
    split <;> rfl
  · rw [decide_eq_false hz, if_neg Bool.false_ne_true, if_neg hz, List.map_append, h, List.map_append]
    rfl
noncomputable def wordsV (o : Option (List Str)) (cells : List Str) : List Str := match o with
  | some ws => ws
  | none => uniqV cells
theorem z_dnew {σ : St} {H : Hp} {Q : VK} (q : ∀ p H', H p = none → Same H H' → H' p = some (.dK []) → Q (.ref p) H') : tDNewK σ H Q := fun p hp => q p _ hp (Same.new hp _) upd_same
theorem z_dput {td ty tv : TE} {D : Ends} {σ : St} {H : Hp} (h : tv σ H fun v H1 => td σ H1 fun x H2 => ty σ H2 fun y H3 => ∃ a H4, x = .ref a ∧ DPut H3 a y v H4 ∧ D.nx σ H4) : sDPut td ty tv D σ H := h
noncomputable def sp_wwish (K : PySem.W.Frag) : Sp := fun vs H Q _ => ∃ (v u : V) (o : Option (List Str)) (cells : List Str), vs = [v, u] ∧ Is K H v (wshO o) ∧ Is K H u (.lst (cells.map Tr.str)) ∧ cells.length ≤ 100 ∧ ∀ l H', Same H H' → H l = none → H' l = some (.lst ((wordsV o cells).map V.str)) → Q (.ref l) H'
theorem ok_words_wished (T : Txt K mg t) : FnOk P w K mg base CX0 1 t.f_words_wished t.d_words_wished ["wish", "cells"] (sp_wwish K) := by
  refine T.F_words_wished.ok sc_words_wished (fun vs H Q E h => ?_) (fun cdv A outer s H vs Q E hr h => ?_)
  · obtain ⟨v, u, o, cells, rfl, _⟩ := h
    rfl
  obtain ⟨v, u, o, cells, rfl, hv, hu, hc, q⟩ := h
  refine ⟨_, (pss_cons (ps_if (pt_cmpR op_eq (pe_callB call_len_seq rfl T.z_len PySem.boot_len (pa_cons (pv 0) pa_nil)) pe_int (nomark _)) (pss_one (ps_ret (pe_callTy call_list_of rfl T.z_list bt_list (pa_cons (pe_ix ix_tup (pv 0) pe_int (fun _ _ => rfl)) pa_nil)))) pss_nil)
  (pss_cons (ps_set (i := 2) sc_words_wished.nd rfl (Or.inl rfl) pe_dnewK)
  (pss_cons (ps_for PassesOwn.never rfl (pi_list (pv 1)) (pg_name (i := 3) sc_words_wished.nd rfl (Or.inl rfl)) (pss_one (ps_dput (by have := hr.un150; exact Nat.lt_of_le_of_lt (Nat.add_le_add_left (by decide) _) this) (pv 2) (pv 3) pe_bl rfl)))
  (pss_one (ps_ret (pe_callTy (call_list_dK rfl) rfl T.z_list bt_list (pa_cons (pv 2) pa_nil))))))), z_go (σ := [some _, some _, none, none]) rfl ?_⟩
  cases hu with
  | @lst pu us _ hsu gu =>
  cases gu.strs
  cases o with
  | some ws =>
    cases hv with
    | @tup pv vs _ hsv gv =>
    cases gv with
    | @cons _ _ _ _ g0 gv =>
    cases gv with
    | @cons v1 _ _ _ g1 gv =>
    cases gv
    cases g0
    walk_at "run"
    cases g1 with
    | @tup p1 us1 _ hs1 gs1 =>
    cases gs1.strs
    refine ite_t rfl ?_
    walk_at "run"
    exact fun l hl => q l _ (Same.new hl _) hl upd_same
  | none =>
    cases hv with
    | @tup pv vs _ hsv gv =>
    cases gv with
    | @cons _ _ _ _ g0 gv =>
    cases gv
    cases g0
    walk_at "run"
    refine ite_f rfl ?_
    walk_at "run"
    refine z_dnew (fun pd H1 n1 s1 e1 => ?_)
    walk_at "run"
    refine f_list (K := K) (xs := cells.map V.str) (fun i σ HD => (∃ u, σ = [some (.ref pv), some (.ref pu), some (.ref pd), u]) ∧ Same H HD ∧ ∃ kvs : List (Key × V), HD pd = some (.dK kvs) ∧ kvs.map (·.1) = (uniqV (cells.take i)).map Sum.inr ∧ kvs.length ≤ i) ⟨⟨none, rfl⟩, s1, [], e1, rfl, Nat.le_refl _⟩ (fun i σ HD _ ⟨_, sD, _⟩ => sD.seq hsu) ?_ ?_
    · rintro i v σ HD hi ⟨⟨u, rfl⟩, sD, kvs, hd, hk, kl⟩
      rw [List.getElem?_map] at hi
      obtain ⟨z, hz, rfl⟩ := Option.map_eq_some_iff.mp hi
      have hi' := (List.getElem?_eq_some_iff.mp hz).1
      walk_at "run"
      refine z_dput ?_
      walk_at "run"
      refine ⟨pd, _, rfl, DPut.k (k := Sum.inr z) hd (Nat.lt_of_le_of_lt (show kvs.length ≤ 1000 by omega) (by decide)), ⟨_, rfl⟩, fun b o e => ?_, putK kvs (Sum.inr z) (V.bl true), upd_same, ?_, ?_⟩
      · rw [upd_ne (fun q => by rw [q, n1] at e; cases e)]
        exact sD _ _ e
      · rw [put_keys hk, uniq_take hz]
      · have := length_putK kvs (Sum.inr z) (V.bl true)
        omega
    · rintro σ HD ⟨⟨u, rfl⟩, sD, kvs, hd, hk, kl⟩
      rw [List.length_map, List.take_length] at hk
      walk_at "run"
      refine ⟨pd, kvs, uniqV cells, rfl, hd, hk, fun l hl => ?_⟩
      refine q l _ (sD.trans (Same.new hl _)) ?_ upd_same
      cases e : H l with
      | none => rfl
      | some o => rw [sD l o e] at hl; cases hl
noncomputable def bkN (K : PySem.W.Frag) (F H : Hp) (a : Addr) : Bk where
  K := K
  F0 := F
  H0 := H
  W := fun _ => False
  J := fun _ => True
  rt := a
  jl := fun _ _ _ _ _ => trivial
  jm := fun _ _ _ h => h.elim
theorem toSp_at {K : PySem.W.Frag} {S : SpT} {vs : List V} {H : Hp} {Q : VK} {E : XK} {a : Addr} {as : List Ar} {Φ : Kd → Prop} (la : ArL (bkN K H H a) H vs as) (s : S (bkN K H H a) as Φ fun _ => False) (q : ∀ v F' H' k, Same H H' → Same F' H' → Same H F' → RetOk (bkN K H H a) F' H' v k → Φ k → Q v H') : toSp K S vs H Q E :=
  ⟨bkN K H H a, as, Φ, fun _ => False, rfl, rfl, ⟨Same.refl _, fun _ h => h.elim, fun _ h => h.elim, trivial⟩, la, s, fun v F' H' k u r p => q v F' H' k (fun p o e => u.h p o (fun h => h) e) u.i u.f r p, fun _ _ _ _ h => h.elim⟩
noncomputable def oS : Option Str → Tr
  | none => .non
  | some z => .str z
noncomputable def At (i : Nat) (r : List Tr) : Prop := ∃ o : Option Str, r[i]? = some (oS o)
noncomputable def strAt (i : Nat) (r : List Tr) : Option Str := match r[i]? with
  | some (.str z) => some z
  | _ => none
theorem at_is {i : Nat} {r : List Tr} (h : At i r) : r[i]? = some (oS (strAt i r)) := by
  obtain ⟨o, e⟩ := h
  unfold strAt
  rw [e]
  cases o <;> rfl
noncomputable def cellsV (i : Nat) (rows : List (List Tr)) : List Str := rows.filterMap (strAt i)
noncomputable def st_cellsth : SpT := fun _ as Φ _ => ∃ (cols : List Col) (rows : List (List Tr)) (n : Str) (i : Nat), as = [.fz (.lst (cols.map colT)), .fz (.lst (rows.map Tr.tup)), .fz (.str n)] ∧ ixOf (cols.map (·.1)) n = some i ∧ (∀ r ∈ rows, At i r) ∧ rows.length ≤ 100 ∧ Φ (.nw (.lst ((cellsV i rows).map Tr.str)))
theorem opt_map {rows : List (List Tr)} {f : List Tr → Option Str} {os : List (Option Tr)} (hl : os.length = (rows.map Tr.tup).length) (h : ∀ (j : Nat) (o : Option Tr), os[j]? = some o → ∃ r, rows[j]? = some r ∧ o = (f r).map Tr.str) : os.filterMap id = (rows.filterMap f).map Tr.str := by
  induction rows generalizing os with
  | nil =>
    rw [List.map_nil, List.length_nil] at hl
    rw [List.eq_nil_of_length_eq_zero hl]; rfl
  | cons r rows ih =>
    cases os with
    | nil => simp at hl
    | cons o os =>
      obtain ⟨r', e, ho⟩ := h 0 o rfl
      cases e
      have ih := ih (os := os) (by simpa using hl) fun j o hj => h (j + 1) o hj
      rw [List.filterMap_cons, ho, List.filterMap_cons]
      cases f r with
      | none => exact ih
      | some z => show Tr.str z :: os.filterMap id = _; rw [ih]; rfl
theorem okT_cells_there (T : Txt K mg t) : FnOk P w K mg base CX0 2 t.f_cells_there t.d_cells_there ["columns", "rows", "name"] (toSp K st_cellsth) := by
  have G_column_at := okT_column_at (P := P) (w := w) (base := base) T
  refine T.F_cells_there.ok sc_cells_there (toSp_len (fun B as Φ Ψ h => by obtain ⟨_, _, _, _, rfl, _⟩ := h; rfl)) (fun cdv A outer s H vs Q E hr h => ?_)
  obtain ⟨B, as, Φ, Ψ, rfl, hS, hx, go⟩ := toSp_open h
  obtain ⟨cols, rows, n, i, rfl, hi, hR, hl, φ⟩ := hS
  refine ⟨_, (pss_cons (ps_set (i := 3) sc_cells_there.nd rfl (Or.inr rfl) (pe_call G_column_at (hr.mono (by decide)) rfl T.m_column_at T.k_column_at T.b_column_at .nil pass0 (pa_cons (pv 0) (pa_cons (pv 2) pa_nil))))
  (pss_one (ps_ret (pe_lcIf (tg := "row") (fr := [("at", 3)]) rfl (compOkG_of (osc := defScope s_cells_there) (N := ["columns", "rows", "name", "at"]) rfl rfl (by decide +kernel)) (pi_list (pv 1)) (fun _ _ _ _ _ => (pt_cmpR op_notN' (pe_ix (r := rIxT B.K) ix_tup (pv 0) (pv 1) (fun _ _ => rfl)) pe_non (nomark _))) (fun _ _ _ _ _ => (pe_ix (r := rIxT B.K) ix_tup (pv 0) (pv 1) (fun _ _ => rfl))))))), go _ _ (s_go (τ := [.fz _, .fz _, .fz _, .no]) rfl ?_)⟩
  walk_at "trun"
  intro _ _
  refine ⟨cols, n, rfl, ?_⟩
  rw [hi, show ixT (some i) = .int (i : Nat) from rfl]
  walk_at "trun"
  refine e_lcIf (i_list rfl ?_)
  walk_at "trun"
  refine ⟨[.fz (.int (i : Nat))], by repeat (first | exact .nil | refine .fz (by walk_at "tg") ?_), by rw [List.length_map]; omega, fun j o => ∃ r, rows[j]? = some r ∧ o = (strAt i r).map Tr.str, fun j tt ht => ?_, fun os hl2 ho => ?_⟩
  · obtain ⟨r, hr2, rfl⟩ := of_map_at ht
    have ha := at_is (hR r (List.mem_of_getElem? hr2))
    walk_at "trun"
    refine ro_ixT rfl Rk.fz (atI_nat ha) ?_
    cases hs : strAt i r with
    | none =>
      rw [show oS none = Tr.non from rfl]
      walk_at "trun"
      exact ⟨r, hr2, by rw [hs]; rfl⟩
    | some z =>
      rw [hs] at ha
      rw [show oS (some z) = Tr.str z from rfl]
      walk_at "trun"
      refine ro_ixT rfl Rk.fz (atI_nat ha) ?_
      walk_at "trun"
      exact ⟨r, hr2, by rw [hs]; rfl⟩
  · rw [opt_map hl2 ho]
    walk_at "trun"
    exact rt_nw φ
abbrev Chn := Str × Option (List Str)
noncomputable def chT (c : Chn) : Tr := .tup [.str c.1, wshO c.2]
noncomputable def sp_words (K : PySem.W.Frag) (C : Addr) : Sp := fun vs H Q E => ∃ (v u r : V) (c : Chn) (cols : List Col) (rows : List (List Tr)) (i : Nat) (m : Int), vs = [v, u, r, .int m] ∧ Is K H v (chT c) ∧ Is K H u (.lst (cols.map colT)) ∧ Is K H r (.lst (rows.map Tr.tup)) ∧ ixOf (cols.map (·.1)) c.1 = some i ∧ (∀ r ∈ rows, At i r) ∧ rows.length ≤ 100 ∧
  (1 ≤ (wordsV c.2 (cellsV i rows)).length ∧ ((wordsV c.2 (cellsV i rows)).length : Int) ≤ m → ∀ l H', Same H H' → H l = none → H' l = some (.lst ((wordsV c.2 (cellsV i rows)).map V.str)) → Q (.ref l) H') ∧
  (¬ (1 ≤ (wordsV c.2 (cellsV i rows)).length ∧ ((wordsV c.2 (cellsV i rows)).length : Int) ≤ m) → ∀ H', Same H H' → E (.ref C) none H')
theorem none_of {H H2 : Hp} {a : Addr} (s : Same H H2) (h : H2 a = none) : H a = none := by
  cases e : H a with
  | none => rfl
  | some o => rw [s a o e] at h; cases h
theorem a_cellsth {K : PySem.W.Frag} {H : Hp} {Q : VK} {E : XK} {u r : V} {n : Str} {cols : List Col} {rows : List (List Tr)} {i : Nat} (hu : Is K H u (.lst (cols.map colT))) (hr : Is K H r (.lst (rows.map Tr.tup))) (hi : ixOf (cols.map (·.1)) n = some i) (hR : ∀ r ∈ rows, At i r) (hl : rows.length ≤ 100) (q : ∀ l H', Same H H' → Is K H' (.ref l) (.lst ((cellsV i rows).map Tr.str)) → Q (.ref l) H') : toSp K st_cellsth [u, r, .str n] H Q E :=
  toSp_at (a := (0 : Nat)) (as := [.fz (.lst (cols.map colT)), .fz (.lst (rows.map Tr.tup)), .fz (.str n)]) (Φ := fun k => k = .nw (.lst ((cellsV i rows).map Tr.str))) (.cons hu (.cons hr (.cons .str .nil))) ⟨cols, rows, n, i, rfl, hi, hR, hl, rfl⟩ fun v F' H' k s f _ r e => by
    subst e
    obtain ⟨l, rfl, ow, _, hn⟩ := r
    cases ow with
    | lst h g => exact q l H' s (.lst (SqL.of h) (IsL.same f g))
theorem cells_len {i : Nat} {rows : List (List Tr)} : (cellsV i rows).length ≤ rows.length := List.length_filterMap_le _ _
theorem ok_words_of (T : Txt K mg t) : FnOk P w K mg base (CXe P w) 3 t.f_words_of t.d_words_of ["channel", "columns", "rows", "most"] (sp_words K t.c_NoSpace) := by
  have G_words_wished := ok_words_wished (P := P) (w := w) (base := base) T
  have G_cells_there := okT_cells_there (P := P) (w := w) (base := base) T
  refine T.F_words_of.toD.okE sc_words_of (fun vs H Q E h => ?_) (fun cdv A outer s H vs Q E hr h => ?_)
  · obtain ⟨v, u, r, c, cols, rows, i, m, rfl, _⟩ := h
    rfl
  obtain ⟨v, u, r, c, cols, rows, i, m, rfl, hv, hu, hrr, hi, hR, hl, qn, qe⟩ := h
  refine ⟨_, (pss_cons (ps_set (i := 4) sc_words_of.nd rfl (Or.inl rfl) (pe_call G_words_wished (hr.mono (by decide)) rfl T.m_words_wished T.k_words_wished T.b_words_wished .nil pass0 (pa_cons (pe_ix ix_tup (pv 0) pe_int (fun _ _ => rfl)) (pa_cons (pe_call G_cells_there (hr.mono (by decide)) rfl T.m_cells_there T.k_cells_there T.b_cells_there .nil pass0 (pa_cons (pv 1) (pa_cons (pv 2) (pa_cons (pe_ix ix_tup (pv 0) pe_int (fun _ _ => rfl)) pa_nil)))) pa_nil))))
  (pss_cons (ps_if (pt_not (pt_chain op_le op_le pe_int (pe_callB call_len_seq rfl T.z_len PySem.boot_len (pa_cons (pv 4) pa_nil)) (pv 3))) (pss_one (ps_raise rfl T.x_NoSpace T.n_NoSpace T.m_NoSpace rfl raisesE (pa_cons pe_str pa_nil))) pss_nil)
  (pss_one (ps_ret (pv 4))))), z_go (σ := [some _, some _, some _, some _, none]) rfl ?_⟩
  cases hv with
  | @tup pv vs _ hsv gv =>
  cases gv with
  | @cons _ _ _ _ g0 gv =>
  cases gv with
  | @cons v1 _ _ _ g1 gv =>
  cases gv
  cases g0
  walk_at "run"
  refine a_cellsth hu hrr hi hR hl (fun l1 H1 s1 i1 => ?_)
  walk_at "run"
  have cl := cells_len (i := i) (rows := rows)
  refine ⟨v1, .ref l1, c.2, cellsV i rows, rfl, g1.same s1, i1, by omega, fun l2 H2 s2 n2 e2 => ?_⟩
  have s12 := s1.trans s2
  have n0 := none_of s1 n2
  generalize wordsV c.2 (cellsV i rows) = ws at *
  have lm : (ws.map V.str).length = ws.length := List.length_map _
  walk_at "run"
  refine z_iteD (fun h1 => ?_) (fun h1 => ?_)
  · walk_at "run"
    refine z_iteD (fun h2 => ?_) (fun h2 => ?_)
    · walk_at "run"
      exact qn ⟨by omega, by omega⟩ l2 H2 s12 n0 e2
    · walk_at "run"
      exact ⟨by decide, qe (fun h => h2 (by omega)) H2 s12⟩
  · walk_at "run"
    exact ⟨by decide, qe (fun h => h1 (by omega)) H2 s12⟩
inductive Clr where
  | no
  | ord (c : Chn)
  | oth (n : Str)
noncomputable def clrT : Clr → Tr
  | .no => .non
  | .ord c => chT c
  | .oth n => .tup [.str n, .tup [.str "straight"]]
noncomputable def fctT : Option Chn → Tr
  | none => .non
  | some c => chT c
structure Tel where
  a0 : Tr
  a1 : Tr
  a2 : Tr
  a3 : Tr
  clr : Clr
  a5 : Tr
  fct : Option Chn
  a7 : Tr
noncomputable def Tel.tr (T : Tel) : Tr := .tup [T.a0, T.a1, T.a2, T.a3, clrT T.clr, T.a5, fctT T.fct, T.a7]
noncomputable def roomV (c : Chn) (i : Nat) (rows : List (List Tr)) (m : Nat) : Option (List Str) := if 1 ≤ (wordsV c.2 (cellsV i rows)).length ∧ (wordsV c.2 (cellsV i rows)).length ≤ m then some (wordsV c.2 (cellsV i rows)) else none
noncomputable def plc (cols : List Col) (n : Str) : Nat := (ixOf (cols.map (·.1)) n).getD 0
noncomputable def facV (T : Tel) (cols : List Col) (rows : List (List Tr)) : Option (List Str) := match T.fct with
  | none => some [""]
  | some c => roomV c (plc cols c.1) rows 12
noncomputable def ChOk (cols : List Col) (rows : List (List Tr)) (c : Chn) : Prop := ixOf (cols.map (·.1)) c.1 = some (plc cols c.1) ∧ ∀ r ∈ rows, At (plc cols c.1) r
structure TelOk (T : Tel) (cols : List Col) (rows : List (List Tr)) : Prop where
  f : ∀ c, T.fct = some c → ChOk cols rows c
  c : ∀ c, T.clr = .ord c → ChOk cols rows c
  n : rows.length ≤ 100
noncomputable def sp_spaceF (K : PySem.W.Frag) (C : Addr) (R : Tel → List Col → List (List Tr) → Option (List Str)) : Sp := fun vs H Q E => ∃ (v u r : V) (tl : Tel) (cols : List Col) (rows : List (List Tr)), vs = [v, u, r] ∧ Is K H v tl.tr ∧ Is K H u (.lst (cols.map colT)) ∧ Is K H r (.lst (rows.map Tr.tup)) ∧ TelOk tl cols rows ∧
  (∀ ws, R tl cols rows = some ws → ∀ l H', Same H H' → H l = none → H' l = some (.lst (ws.map V.str)) → Q (.ref l) H') ∧ (R tl cols rows = none → ∀ H', Same H H' → E (.ref C) none H')
theorem ok_facets_of (T : Txt K mg t) : FnOk P w K mg base (CXe P w) 4 t.f_facets_of t.d_facets_of ["telling", "columns", "rows"] (sp_spaceF K t.c_NoSpace facV) := by
  have G_words_of := ok_words_of (P := P) (w := w) (base := base) T
  refine T.F_facets_of.toD.okE sc_facets_of (fun vs H Q E h => ?_) (fun cdv A outer s H vs Q E hr h => ?_)
  · obtain ⟨v, u, r, tl, cols, rows, rfl, _⟩ := h
    rfl
  obtain ⟨v, u, r, tl, cols, rows, rfl, hv, hu, hrr, oT, qn, qe⟩ := h
  refine ⟨_, (pss_cons (ps_if (pt_cmpR op_isN' (pe_ix ix_tup (pv 0) pe_int (fun _ _ => rfl)) pe_non (nomark _)) (pss_one (ps_ret (pe_lst (pa_cons (pe_glob (v := .str "") rfl T.g_NO_FACET ⟨_, rfl⟩) pa_nil)))) pss_nil)
  (pss_one (ps_ret (pe_call G_words_of (hr.mono (by decide)) rfl T.m_words_of T.k_words_of T.b_words_of .nil passes_on (pa_cons (pe_ix ix_tup (pv 0) pe_int (fun _ _ => rfl)) (pa_cons (pv 1) (pa_cons (pv 2) (pa_cons (pe_glob (v := .int 12) rfl T.g_MOST_FACETS ⟨_, rfl⟩) pa_nil)))))))), z_go (σ := [some _, some _, some _]) rfl ?_⟩
  cases hv with
  | @tup pt us _ hs g =>
  cases g with
  | @cons v0 _ _ _ g0 g =>
  cases g with
  | @cons v1 _ _ _ g1 g =>
  cases g with
  | @cons v2 _ _ _ g2 g =>
  cases g with
  | @cons v3 _ _ _ g3 g =>
  cases g with
  | @cons v4 _ _ _ g4 g =>
  cases g with
  | @cons v5 _ _ _ g5 g =>
  cases g with
  | @cons v6 _ _ _ g6 g =>
  cases g with
  | @cons v7 _ _ _ g7 g =>
  cases g
  cases hf : tl.fct with
  | none =>
    rw [hf] at g6
    cases g6
    have eV : facV tl cols rows = some ([("" : Str)]) := by unfold facV; rw [hf]
    walk_at "run"
    refine z_mkl (Nat.le_of_ble_eq_true rfl) (fun l H1 n1 s1 e1 => ?_)
    exact qn _ eV l H1 s1 n1 e1
  | some c =>
    rw [hf] at g6
    have oc := oT.f c hf
    have eV : facV tl cols rows = roomV c (plc cols c.1) rows 12 := by unfold facV; rw [hf]
    cases id g6 with
    | @tup pc uc _ hsc gc =>
    walk_at "run"
    refine ⟨.ref pc, u, r, c, cols, rows, plc cols c.1, 12, rfl, g6, hu, hrr, oc.1, oc.2, oT.n, fun h => ?_, fun h => ?_⟩
    · refine qn _ (by rw [eV]; unfold roomV; exact if_pos ⟨h.1, by omega⟩)
    · refine qe (by rw [eV]; unfold roomV; exact if_neg fun k => h ⟨k.1, by omega⟩)
noncomputable def inB (ws : List Str) (i : Nat) (r : List Tr) : Bool := match strAt i r with
  | some z => decide (z ∈ ws)
  | none => false
noncomputable def rowsIn (T : Tel) (cols : List Col) (rows : List (List Tr)) (ws : List Str) : List (List Tr) := match T.fct with
  | none => rows
  | some c => rows.filter (inB ws (plc cols c.1))
theorem inV_strs {o : Option Str} {ws : List Str} : inV (match o with | none => V.non | some z => V.str z) (ws.map V.str) = match o with | some z => decide (z ∈ ws) | none => false := by
  cases o with
  | some z => exact inV_str
  | none =>
    induction ws with
    | nil => rfl
    | cons w ws ih => exact ih
theorem filt_range {α : Type} {p : α → Bool} : ∀ {xs : List α} (d : α), ((List.range xs.length).filter fun i => p (xs.getD i d)).map (fun i => xs.getD i d) = xs.filter p := by
  intro xs d
  have h : (List.range xs.length).map (fun i => xs.getD i d) = xs := by
    apply List.ext_getElem?
    intro i
    rw [List.getElem?_map]
    rcases Nat.lt_or_ge i xs.length with h | h
    · rw [List.getElem?_range h, List.getElem?_eq_getElem h]
      show some (xs.getD i d) = _
      rw [List.getD_eq_getElem?_getD, List.getElem?_eq_getElem h]; rfl
    · rw [List.getElem?_eq_none (by rw [List.length_range]; exact h), List.getElem?_eq_none h]; rfl
  have : ((List.range xs.length).filter fun i => p (xs.getD i d)).map (fun i => xs.getD i d) = ((List.range xs.length).map (fun i => xs.getD i d)).filter p := by
    rw [List.filter_map]; rfl
  rw [this, h]
theorem pick_is {K : PySem.W.Frag} {H : Hp} {us : List V} {rows : List (List Tr)} (h : IsL K H us (rows.map Tr.tup)) : ∀ {L : List Nat}, (∀ i ∈ L, i < rows.length) → IsL K H (L.map fun i => us.getD i .non) ((L.map fun i => rows.getD i []).map Tr.tup)
  | [], _ => .nil
  | i :: r, hL => by
    refine .cons ?_ (pick_is h fun j hj => hL j (.tail _ hj))
    have hi := hL i (.head _)
    have hc : rows[i]? = some rows[i] := List.getElem?_eq_getElem hi
    obtain ⟨u, hu, iu⟩ := h.get (map_at hc)
    show Is K H (us.getD i .non) (.tup (rows.getD i []))
    rw [List.getD_eq_getElem?_getD, hu, List.getD_eq_getElem?_getD, hc]
    exact iu
noncomputable def sp_rif (K : PySem.W.Frag) (C : Addr) : Sp := fun vs H Q E => ∃ (v u r : V) (tl : Tel) (cols : List Col) (rows : List (List Tr)), vs = [v, u, r] ∧ Is K H v tl.tr ∧ Is K H u (.lst (cols.map colT)) ∧ Is K H r (.lst (rows.map Tr.tup)) ∧ TelOk tl cols rows ∧
  (∀ ws, facV tl cols rows = some ws → ∀ l H', Same H H' → H l = none → Is K H' (.ref l) (.lst ((rowsIn tl cols rows ws).map Tr.tup)) → Q (.ref l) H') ∧ (facV tl cols rows = none → ∀ H', Same H H' → E (.ref C) none H')
theorem a_colat {K : PySem.W.Frag} {H : Hp} {Q : VK} {E : XK} {u : V} {n : Str} {cols : List Col} {i : Nat} (hu : Is K H u (.lst (cols.map colT))) (hi : ixOf (cols.map (·.1)) n = some i) (q : ∀ H', Same H H' → Q (.int (i : Nat)) H') : toSp K st_colat [u, .str n] H Q E :=
  toSp_at (a := (0 : Nat)) (as := [.fz (.lst (cols.map colT)), .fz (.str n)]) (Φ := fun k => k = .fz (ixT (ixOf (cols.map (·.1)) n))) (.cons hu (.cons .str .nil)) ⟨cols, n, rfl, rfl⟩ fun v F' H' k s f _ r e => by
    subst e
    rw [hi] at r
    cases r
    exact q H' s
theorem ok_rows_in_facets (T : Txt K mg t) : FnOk P w K mg base (CXe P w) 5 t.f_rows_in_facets t.d_rows_in_facets ["telling", "columns", "rows"] (sp_rif K t.c_NoSpace) := by
  have G_facets_of := ok_facets_of (P := P) (w := w) (base := base) T
  have G_column_at := okT_column_at (P := P) (w := w) (base := base) T
  refine T.F_rows_in_facets.toD.okE sc_rows_in_facets (fun vs H Q E h => ?_) (fun cdv A outer s H vs Q E hr h => ?_)
  · obtain ⟨v, u, r, tl, cols, rows, rfl, _⟩ := h
    rfl
  obtain ⟨v, u, r, tl, cols, rows, rfl, hv, hu, hrr, oT, qn, qe⟩ := h
  refine ⟨_, (pss_cons (ps_set (i := 3) sc_rows_in_facets.nd rfl (Or.inr rfl) (pe_call G_facets_of (hr.mono (by decide)) rfl T.m_facets_of T.k_facets_of T.b_facets_of .nil passes_on (pa_cons (pv 0) (pa_cons (pv 1) (pa_cons (pv 2) pa_nil)))))
  (pss_cons (ps_if (pt_cmpR op_isN' (pe_ix ix_tup (pv 0) pe_int (fun _ _ => rfl)) pe_non (nomark _)) (pss_one (ps_ret (pe_callTy call_list_of rfl T.z_list bt_list (pa_cons (pv 2) pa_nil)))) pss_nil)
  (pss_cons (ps_set (i := 4) sc_rows_in_facets.nd rfl (Or.inr rfl) (pe_call G_column_at (hr.mono (by decide)) rfl T.m_column_at T.k_column_at T.b_column_at .nil pass0 (pa_cons (pv 1) (pa_cons (pe_ix ix_tup (pe_ix ix_tup (pv 0) pe_int (fun _ _ => rfl)) pe_int (fun _ _ => rfl)) pa_nil))))
  (pss_one (ps_ret (pe_lcIf (tg := "row") (fr := [("facets", 3), ("at", 4)]) rfl (compOkG_of (osc := defScope s_rows_in_facets) (N := ["telling", "columns", "rows", "facets", "at"]) rfl rfl (by decide +kernel)) (pi_list (pv 2)) (fun _ _ _ _ _ => (pt_cmpR (r := rIn K false) op_in_seq (pe_ix (r := rIxT K) ix_tup (pv 0) (pv 2) (fun _ _ => rfl)) (pv 1) rfl)) (fun _ _ _ _ _ => (pv 0)))))))), z_go (σ := [some _, some _, some _, none, none]) rfl ?_⟩
  walk_at "run"
  refine ⟨v, u, r, tl, cols, rows, rfl, hv, hu, hrr, oT, fun ws hw l1 H1 s1 n1 e1 => ?_, qe⟩
  have hv1 := hv.same s1
  have hr1 := hrr.same s1
  have hu1 := hu.same s1
  cases hv1 with
  | @tup pt us _ hs g =>
  cases g with
  | @cons v0 _ _ _ g0 g =>
  cases g with
  | @cons v1 _ _ _ g1 g =>
  cases g with
  | @cons v2 _ _ _ g2 g =>
  cases g with
  | @cons v3 _ _ _ g3 g =>
  cases g with
  | @cons v4 _ _ _ g4 g =>
  cases g with
  | @cons v5 _ _ _ g5 g =>
  cases g with
  | @cons v6 _ _ _ g6 g =>
  cases g with
  | @cons v7 _ _ _ g7 g =>
  cases g
  cases hr1 with
  | @lst pr ur _ hsr gr =>
  cases hf : tl.fct with
  | none =>
    rw [hf] at g6
    cases g6
    have eR : rowsIn tl cols rows ws = rows := by unfold rowsIn; rw [hf]
    walk_at "run"
    intro l hl
    refine qn ws hw l _ (s1.trans (Same.new hl _)) (none_of s1 hl) ?_
    rw [eR]
    exact .lst (SqL.of upd_same) (gr.same (Same.new hl _))
  | some c =>
    rw [hf] at g6
    have oc := oT.f c hf
    have eR : rowsIn tl cols rows ws = rows.filter (inB ws (plc cols c.1)) := by unfold rowsIn; rw [hf]
    cases g6 with
    | @tup pc uc _ hsc gc =>
    cases gc with
    | @cons _ _ _ _ gn gc =>
    cases gn
    walk_at "run"
    refine z_ixT hsc (atI_nat (j := 0) rfl) ?_
    walk_at "run"
    refine a_colat hu1 oc.1 (fun H2 s2 => ?_)
    have hs2 := s2.tup hs
    walk_at "run"
    have lr := gr.length
    rw [List.length_map] at lr
    have on := oT.n
    refine z_lcg ?_
    walk_at "run"
    refine lcw_list (K := K) (fun i => ur.getD i .non) (fun i => inB ws (plc cols c.1) (rows.getD i [])) (s2.seq hsr) (le_size (by omega)) (fun i x H3 S hx s3 k => ?_) (fun i x H3 S hx hp s3 k => ?_) (fun acc H3 hacc s3 ha => ?_)
    · obtain ⟨tt, ht, it⟩ := gr.get2 hx
      obtain ⟨row, hrow, rfl⟩ := of_map_at ht
      have eg : rows.getD i [] = row := by rw [List.getD_eq_getElem?_getD, hrow]; rfl
      rw [eg] at k
      have ea := at_is (oc.2 row (List.mem_of_getElem? hrow))
      have s23 := s2.trans s3
      have e3 := s23 _ _ e1
      cases it with
      | @tup px ux _ hsx gx =>
      obtain ⟨vc, hvc, ic⟩ := gx.get ea
      walk_at "run"
      refine z_ixT (s23.tup hsx) (atI_nat hvc) ?_
      walk_at "run"
      have kk := k H3 (Same.refl _)
      unfold inB at kk
      cases ho : strAt (plc cols c.1) row with
      | none =>
        rw [ho] at ic kk
        cases ic
        refine z_in (SqL.of e3) rfl flat_str ?_
        rw [show inV V.non (ws.map V.str) = false from inV_strs (o := none)]
        walk_at "run"
        exact kk
      | some z =>
        rw [ho] at ic kk
        cases ic
        refine z_in (SqL.of e3) rfl flat_str ?_
        rw [inV_str]
        walk_at "run"
        exact kk
    · walk_at "run"
      have e : ur.getD i .non = x := by rw [List.getD_eq_getElem?_getD, hx]; rfl
      have := k H3 (Same.refl _)
      rw [e] at this
      exact this
    · have s13 := s2.trans s3
      refine qn ws hw acc H3 (s1.trans s13) (none_of (s1.trans s2) hacc) ?_
      rw [eR, ← filt_range (xs := rows) (p := inB ws (plc cols c.1)) []]
      unfold picked at ha
      rw [lr] at ha
      exact .lst (SqL.of ha) ((pick_is gr fun i hi => List.mem_range.mp (List.mem_filter.mp hi).1).same s13)
noncomputable def ranksV (T : Tel) (cols : List Col) (rows : List (List Tr)) : Option (List Str) := match T.clr with
  | .ord c => (facV T cols rows).bind fun ws => roomV c (plc cols c.1) (rowsIn T cols rows ws) 60
  | _ => some []
theorem rowsIn_sub {T : Tel} {cols : List Col} {rows : List (List Tr)} {ws : List Str} : (∀ r ∈ rowsIn T cols rows ws, r ∈ rows) ∧ (rowsIn T cols rows ws).length ≤ rows.length := by
  unfold rowsIn
  split
  · exact ⟨fun _ h => h, Nat.le_refl _⟩
  · exact ⟨fun r h => (List.mem_filter.mp h).1, List.length_filter_le _ _⟩
theorem ok_ranks_of (T : Txt K mg t) : FnOk P w K mg base (CXe P w) 6 t.f_ranks_of t.d_ranks_of ["telling", "columns", "rows"] (sp_spaceF K t.c_NoSpace ranksV) := by
  have G_words_of := ok_words_of (P := P) (w := w) (base := base) T
  have G_rows_in_facets := ok_rows_in_facets (P := P) (w := w) (base := base) T
  refine T.F_ranks_of.toD.okE sc_ranks_of (fun vs H Q E h => ?_) (fun cdv A outer s H vs Q E hr h => ?_)
  · obtain ⟨v, u, r, tl, cols, rows, rfl, _⟩ := h
    rfl
  obtain ⟨v, u, r, tl, cols, rows, rfl, hv, hu, hrr, oT, qn, qe⟩ := h
  refine ⟨_, (pss_cons (ps_set (i := 3) sc_ranks_of.nd rfl (Or.inl rfl) (pe_ix ix_tup (pv 0) pe_int (fun _ _ => rfl)))
  (pss_cons (ps_if (PW.pt (pw_or (pt_cmpR op_isN' (pv 3) pe_non (nomark _)) (pw_or1 (pt_cmpR op_ne (pe_ix ix_tup (pe_ix ix_tup (pv 3) pe_int (fun _ _ => rfl)) pe_int (fun _ _ => rfl)) pe_str (nomark _))))) (pss_one (ps_ret (pe_lst pa_nil))) pss_nil)
  (pss_one (ps_ret (pe_call G_words_of (hr.mono (by decide)) rfl T.m_words_of T.k_words_of T.b_words_of .nil passes_on (pa_cons (pv 3) (pa_cons (pv 1) (pa_cons (pe_call G_rows_in_facets (hr.mono (by decide)) rfl T.m_rows_in_facets T.k_rows_in_facets T.b_rows_in_facets .nil passes_on (pa_cons (pv 0) (pa_cons (pv 1) (pa_cons (pv 2) pa_nil)))) (pa_cons (pe_glob (v := .int 60) rfl T.g_MOST_WORDS ⟨_, rfl⟩) pa_nil))))))))), z_go (σ := [some _, some _, some _, none]) rfl ?_⟩
  cases id hv with
  | @tup pt us _ hs g =>
  cases g with
  | @cons v0 _ _ _ g0 g =>
  cases g with
  | @cons v1 _ _ _ g1 g =>
  cases g with
  | @cons v2 _ _ _ g2 g =>
  cases g with
  | @cons v3 _ _ _ g3 g =>
  cases g with
  | @cons v4 _ _ _ g4 g =>
  cases g with
  | @cons v5 _ _ _ g5 g =>
  cases g with
  | @cons v6 _ _ _ g6 g =>
  cases g with
  | @cons v7 _ _ _ g7 g =>
  cases g
  cases hc : tl.clr with
  | no =>
    rw [hc] at g4
    cases g4
    have eV : ranksV tl cols rows = some [] := by unfold ranksV; rw [hc]
    walk_at "run"
    refine z_mkl (Nat.le_of_ble_eq_true rfl) (fun l H1 n1 s1 e1 => ?_)
    exact qn _ eV l H1 s1 n1 e1
  | oth n =>
    rw [hc] at g4
    have eV : ranksV tl cols rows = some [] := by unfold ranksV; rw [hc]
    cases g4 with
    | @tup pc uc _ hsc gc =>
    cases gc with
    | @cons _ _ _ _ gn gc =>
    cases gc with
    | @cons _ _ _ _ gw gc =>
    cases gc
    cases gn
    cases gw with
    | @tup pw uw _ hsw gw =>
    cases gw with
    | @cons _ _ _ _ gw1 gw =>
    cases gw
    cases gw1
    walk_at "run"
    refine ite_f (by decide) ?_
    walk_at "run"
    refine z_mkl (Nat.le_of_ble_eq_true rfl) (fun l H1 n1 s1 e1 => ?_)
    exact qn _ eV l H1 s1 n1 e1
  | ord c =>
    rw [hc] at g4
    have oc := oT.c c hc
    have eV : ranksV tl cols rows = (facV tl cols rows).bind fun ws => roomV c (plc cols c.1) (rowsIn tl cols rows ws) 60 := by unfold ranksV; rw [hc]
    have ic := g4
    cases g4 with
    | @tup pc uc _ hsc gc =>
    cases gc with
    | @cons _ _ _ _ gn gc =>
    cases gc with
    | @cons vw _ _ _ gw gc =>
    cases gc
    cases gn
    have hd : ∃ pw uw, vw = .ref pw ∧ SqT K H pw (.str "order" :: uw) := by
      cases ho : c.2 with
      | none =>
        rw [ho] at gw
        cases gw with
        | tup h1 g1 => cases g1 with | cons g2 g1 => cases g2; exact ⟨_, _, rfl, h1⟩
      | some ws =>
        rw [ho] at gw
        cases gw with
        | tup h1 g1 => cases g1 with | cons g2 g1 => cases g2; exact ⟨_, _, rfl, h1⟩
    obtain ⟨pw, uw, rfl, hsw⟩ := hd
    walk_at "run"
    refine z_ixT hsw (atI_nat (j := 0) rfl) ?_
    walk_at "run"
    refine ite_t (by decide) ?_
    walk_at "run"
    refine ⟨.ref pt, u, r, tl, cols, rows, rfl, hv, hu, hrr, oT, fun ws hw l1 H1 s1 n1 i1 => ?_, fun h => qe (by rw [eV, h]; rfl)⟩
    obtain ⟨sub, sl⟩ := rowsIn_sub (T := tl) (cols := cols) (rows := rows) (ws := ws)
    have on := oT.n
    walk_at "run"
    refine ⟨.ref pc, u, .ref l1, c, cols, rowsIn tl cols rows ws, plc cols c.1, 60, rfl, ic.same s1, hu.same s1, i1, oc.1, fun r hr => oc.2 r (sub r hr), by omega, fun h l2 H2 s2 n2 e2 => ?_, fun h H2 s2 => ?_⟩
    · refine qn _ (by rw [eV, hw]; show roomV _ _ _ _ = _; unfold roomV; exact if_pos ⟨h.1, by omega⟩) l2 H2 (s1.trans s2) (none_of s1 n2) e2
    · refine qe (by rw [eV, hw]; show roomV _ _ _ _ = _; unfold roomV; exact if_neg fun k => h ⟨k.1, by omega⟩) H2 (s1.trans s2)
noncomputable def fdS (t : Adr) (b : Bool) : Addr := match b with | true => t.f_facets_of | false => t.f_ranks_of
noncomputable def ddS (t : Adr) (b : Bool) : FuncData := match b with | true => t.d_facets_of | false => t.d_ranks_of
noncomputable def RS (b : Bool) : Tel → List Col → List (List Tr) → Option (List Str) := match b with | true => facV | false => ranksV
theorem asked_ok (T : Txt K mg t) : ∀ b, FnOk P w K mg base (CXe P w) 6 (fdS t b) (ddS t b) ["telling", "columns", "rows"] (sp_spaceF K t.c_NoSpace (RS b))
  | true => (ok_facets_of (P := P) (w := w) (base := base) T).mono (by decide)
  | false => ok_ranks_of (P := P) (w := w) (base := base) T
noncomputable def sp_space (K : PySem.W.Frag) (t : Adr) : Sp := fun vs H Q _ => ∃ (b : Bool) (v u r : V) (tl : Tel) (cols : List Col) (rows : List (List Tr)), vs = [.ref (fdS t b), v, u, r] ∧ Is K H v tl.tr ∧ Is K H u (.lst (cols.map colT)) ∧ Is K H r (.lst (rows.map Tr.tup)) ∧ TelOk tl cols rows ∧
  (∀ ws, RS b tl cols rows = some ws → ∀ l H', Same H H' → H l = none → H' l = some (.lst (ws.map V.str)) → Q (.ref l) H') ∧ (RS b tl cols rows = none → ∀ p H', Same H H' → H' p = some (.tup [.str "no space"]) → Q (.ref p) H')
theorem z_tryH {i0 i j : Nat} {f : Bool → Addr} {sp : Bool → Sp} {C : Addr} {t : TA} {ts : Addr → TS} {D : Ends} {σ : St} {H : Hp} (b : Bool) (h0 : σ[i0]? = some (some (.ref (f b)))) (h : t σ H fun vs H1 => sp b vs H1 (fun v H2 => D.nx (σ.set i (some v)) H2) fun cls _ H2 => cls = .ref C ∧ ∀ a, H2 a = none → ts a (goneD j D) (σ.set j (some (.ref a))) (upd H2 a (ExcO a C))) : tTryH i0 i j f sp C t ts D σ H := ⟨b, h0, h⟩
theorem ok_l_space (T : Txt K mg t) : FnOk P w K mg base CX0 7 t.f_l_space t.d_l_space ["_law_asked", "_law_one", "_law_two", "_law_three"] (sp_space K t) := by
  have G_asked := asked_ok (P := P) (w := w) (base := base) T
  refine T.F_l_space.ok sc_l_space (fun vs H Q E h => ?_) (fun cdv A outer s H vs Q E hr h => ?_)
  · obtain ⟨b, v, u, r, tl, cols, rows, rfl, _⟩ := h
    rfl
  obtain ⟨b, v, u, r, tl, cols, rows, rfl, hv, hu, hrr, oT, qn, qe⟩ := h
  refine ⟨_, (pss_cons (ps_set (i := 4) sc_l_space.nd rfl (Or.inl rfl) pe_non)
  (pss_cons (ps_set (i := 5) sc_l_space.nd rfl (Or.inl rfl) pe_non)
  (pss_cons (ps_tryH (i0 := 0) (i := 5) (j := 6) (T := t.c_MarkError) (C := t.c_NoSpace) G_asked (hr.mono (by decide)) (pv 0) (fun b => match b with | true => T.k_facets_of | false => T.k_ranks_of) (fun b => match b with | true => T.b_facets_of | false => T.b_ranks_of) (fun _ _ z => z) rfl rfl (pa_cons (pv 1) (pa_cons (pv 2) (pa_cons (pv 3) pa_nil))) sc_l_space.nd rfl (Or.inl rfl) rfl rfl rfl ⟨rfl, T.m_MarkError, T.eo_NoSpace_MarkError, by decide⟩ rfl (fun a => (pss_one (ps_set (i := 4) sc_l_space.nd rfl (Or.inl rfl) (pv 6)))))
  (pss_cons (ps_if (pt_cmpR op_isN' (pv 4) pe_non (nomark _)) (pss_one (ps_ret (pv 5))) pss_nil)
  (pss_cons (ps_set (i := 7) sc_l_space.nd rfl (Or.inl rfl) (pe_lst (pa_cons (pe_callB (isiH (C := t.c_NoSpace) (c := .ref t.c_NoDay) (u := .ref t.c_NoDay) T.y_NoSpace (fun _ z => z) T.kk_NoSpace_NoDay) rfl T.z_isinstance bt_isinstance (pa_cons (pv 4) (pa_cons (pe_glob (v := .ref t.c_NoDay) rfl T.m_NoDay rfl) pa_nil))) (pa_cons (pe_callB (isiH (C := t.c_NoSpace) (c := .ref t.c_NoName) (u := .ref t.c_NoName) T.y_NoSpace (fun _ z => z) T.kk_NoSpace_NoName) rfl T.z_isinstance bt_isinstance (pa_cons (pv 4) (pa_cons (pe_glob (v := .ref t.c_NoName) rfl T.m_NoName rfl) pa_nil))) (pa_cons (pe_callB (isiH (C := t.c_NoSpace) (c := .ref t.c_NoNumber) (u := .ref t.c_NoNumber) T.y_NoSpace (fun _ z => z) T.kk_NoSpace_NoNumber) rfl T.z_isinstance bt_isinstance (pa_cons (pv 4) (pa_cons (pe_glob (v := .ref t.c_NoNumber) rfl T.m_NoNumber rfl) pa_nil))) pa_nil)))))
  (pss_cons (ps_set (i := 7) sc_l_space.nd rfl (Or.inl rfl) (pe_op op_catL (pv 7) (pe_lst (pa_cons (pe_callB (isiH (C := t.c_NoSpace) (c := .ref t.c_NoPlan) (u := .ref t.c_NoPlan) T.y_NoSpace (fun _ z => z) T.kk_NoSpace_NoPlan) rfl T.z_isinstance bt_isinstance (pa_cons (pv 4) (pa_cons (pe_glob (v := .ref t.c_NoPlan) rfl T.m_NoPlan rfl) pa_nil))) (pa_cons (pe_callB (isiH (C := t.c_NoSpace) (c := .ref t.c_NoRow) (u := .ref t.c_NoRow) T.y_NoSpace (fun _ z => z) T.kk_NoSpace_NoRow) rfl T.z_isinstance bt_isinstance (pa_cons (pv 4) (pa_cons (pe_glob (v := .ref t.c_NoRow) rfl T.m_NoRow rfl) pa_nil))) (pa_cons (pe_callB (isiH (C := t.c_NoSpace) (c := .ref t.c_NoTelling) (u := .ref t.c_NoTelling) T.y_NoSpace (fun _ z => z) T.kk_NoSpace_NoTelling) rfl T.z_isinstance bt_isinstance (pa_cons (pv 4) (pa_cons (pe_glob (v := .ref t.c_NoTelling) rfl T.m_NoTelling rfl) pa_nil))) pa_nil))))))
  (pss_cons (ps_set (i := 7) sc_l_space.nd rfl (Or.inl rfl) (pe_op op_catL (pv 7) (pe_lst (pa_cons (pe_callB (isiH (C := t.c_NoSpace) (c := .ref t.c_NoTable) (u := .ref t.c_NoTable) T.y_NoSpace (fun _ z => z) T.kk_NoSpace_NoTable) rfl T.z_isinstance bt_isinstance (pa_cons (pv 4) (pa_cons (pe_glob (v := .ref t.c_NoTable) rfl T.m_NoTable rfl) pa_nil))) (pa_cons (pe_callB (isiH (C := t.c_NoSpace) (c := .ref t.c_TooMany) (u := .ref t.c_TooMany) T.y_NoSpace (fun _ z => z) T.kk_NoSpace_TooMany) rfl T.z_isinstance bt_isinstance (pa_cons (pv 4) (pa_cons (pe_glob (v := .ref t.c_TooMany) rfl T.m_TooMany rfl) pa_nil))) pa_nil)))))
  (pss_cons (ps_if (PW.pt (pw_or (pt_cmpR op_in_seq pe_bl (pv 7) rfl) (pw_or (pt_not (pt_val (pe_callB (isiH (C := t.c_NoSpace) (c := .ref t.c_NoSpace) (u := .ref t.c_NoSpace) T.y_NoSpace (fun _ z => z) T.kk_NoSpace_NoSpace) rfl T.z_isinstance bt_isinstance (pa_cons (pv 4) (pa_cons (pe_glob (v := .ref t.c_NoSpace) rfl T.m_NoSpace rfl) pa_nil))))) (pw_or1 (pt_not (pt_val (pe_callB (isiH (C := t.c_NoSpace) (c := .ty "ValueError") (u := .type "ValueError") T.y_NoSpace (fun _ z => z) T.kk_NoSpace_ValueError) rfl T.z_isinstance bt_isinstance (pa_cons (pv 4) (pa_cons (pe_bltn (v := .ty "ValueError") rfl T.z_ValueError bt_ValueError rfl) pa_nil))))))))) (pss_one (ps_ret (pe_tup (pa_cons pe_str pa_nil)))) pss_nil)
  (pss_one (ps_ret (pe_tup (pa_cons pe_str pa_nil)))))))))))), z_go (σ := [some _, some _, some _, some _, none, none, none, none]) rfl ?_⟩
  walk_at "run"
  refine z_tryH b rfl ?_
  walk_at "run"
  refine ⟨v, u, r, tl, cols, rows, rfl, hv, hu, hrr, oT, fun ws hw l H1 s1 n1 e1 => ?_, fun h H2 s2 => ⟨rfl, fun ax hax => ?_⟩⟩
  · simp only [List.set_cons_succ, List.set_cons_zero]
    walk_at "run"
    exact qn ws hw l H1 s1 n1 e1
  · simp only [List.set_cons_succ, List.set_cons_zero]
    have s6 : Same H2 (upd H2 ax (ExcO ax t.c_NoSpace)) := Same.new hax _
    have h6 : (upd H2 ax (ExcO ax t.c_NoSpace)) ax = some (ExcO ax t.c_NoSpace) := upd_same
    generalize upd H2 ax (ExcO ax t.c_NoSpace) = H6 at *
    unfold goneD
    walk_at "run"
    refine ⟨ax, rfl, h6, ?_⟩
    walk_at "run"
    refine ⟨ax, rfl, h6, ?_⟩
    walk_at "run"
    refine ⟨ax, rfl, h6, ?_⟩
    walk_at "run"
    refine z_mkl (Nat.le_of_ble_eq_true rfl) (fun l1 H7 n7 s7 e7 => ?_)
    simp only [List.set_cons_succ, List.set_cons_zero]
    have h7 := s7 _ _ h6
    walk_at "run"
    refine ⟨ax, rfl, h7, ?_⟩
    walk_at "run"
    refine ⟨ax, rfl, h7, ?_⟩
    walk_at "run"
    refine ⟨ax, rfl, h7, ?_⟩
    walk_at "run"
    refine z_mkl (Nat.le_of_ble_eq_true rfl) (fun l2 H8 n8 s8 e8 => ?_)
    walk_at "run"
    refine z_catL (SqL.of (s8 _ _ e7)) (SqL.of e8) (Nat.le_of_ble_eq_true rfl) (fun l3 H9 n9 s9 e9 => ?_)
    have h9 := s9 _ _ (s8 _ _ h7)
    walk_at "run"
    refine ⟨ax, rfl, h9, ?_⟩
    walk_at "run"
    refine ⟨ax, rfl, h9, ?_⟩
    walk_at "run"
    refine z_mkl (Nat.le_of_ble_eq_true rfl) (fun l4 Ha na sa ea => ?_)
    walk_at "run"
    refine z_catL (SqL.of (sa _ _ e9)) (SqL.of ea) (Nat.le_of_ble_eq_true rfl) (fun l5 Hb nb sb eb => ?_)
    have hb := sb _ _ (sa _ _ h9)
    have s6b : Same H6 Hb := s7.trans (s8.trans (s9.trans (sa.trans sb)))
    walk_at "run"
    refine z_in (SqL.of eb) rfl rfl ?_
    walk_at "run"
    refine ite_f rfl ?_
    walk_at "run"
    refine ⟨ax, rfl, hb, ?_⟩
    walk_at "run"
    refine ⟨ax, rfl, hb, ?_⟩
    walk_at "run"
    rename_i p1 H'1 n'1 s'1 e'1
    exact qe h p1 H'1 (s2.trans (s6.trans (s6b.trans s'1))) e'1
theorem ret_nw {B : Bk} {H' : Hp} {p : Addr} {vs : List V} {ts : List Tr} (bk : BkOk B) (hp : B.H0 p = none) (h : H' p = some (.lst vs)) (g : IsL B.K (addT B.F0 H') vs ts) : RetOk B (addT B.F0 H') H' (.ref p) (.nw (.lst ts)) := by
  have f0 : B.F0 p = none := by
    cases e : B.F0 p with
    | none => rfl
    | some o => rw [bk.i p o e] at hp; cases hp
  refine ⟨p, rfl, .lst h g, ?_, hp⟩
  unfold addT
  rw [f0, h]
noncomputable def sp_word33 (K : PySem.W.Frag) : Sp := fun vs H Q _ => ∃ (l : Addr) (d0 d1 d2 k : Int) (ds : List Int), vs = [.ref l, .int k] ∧ SqL K H l ((d0 :: d1 :: d2 :: ds).map V.int) ∧ (0 ≤ d2 ∧ d2 < 1000000) ∧ ∀ (z : Str) (H' : Hp), Same H H' → wordS z = true → z.length ≤ 7 → Q (.str z) H'
theorem ok_l_word (T : Txt K mg t) : FnOk P w K mg base CX0 1 t.f_l_word t.d_l_word ["_law_d", "_law_k"] (sp_word33 K) := by
  refine T.F_l_word.ok sc_l_word (fun vs H Q E h => ?_) (fun cdv A outer s H vs Q E hr h => ?_)
  · obtain ⟨l, d0, d1, d2, k, ds, rfl, _⟩ := h
    rfl
  obtain ⟨l, d0, d1, d2, k, ds, rfl, hL, b2, q⟩ := h
  have a0 : atI ((d0 :: d1 :: d2 :: ds).map V.int) 0 = some (.int d0) := atI_nat (j := 0) rfl
  have a1 : atI ((d0 :: d1 :: d2 :: ds).map V.int) 1 = some (.int d1) := atI_nat (j := 1) rfl
  have a2 : atI ((d0 :: d1 :: d2 :: ds).map V.int) 2 = some (.int d2) := atI_nat (j := 2) rfl
  generalize (d0 :: d1 :: d2 :: ds).map V.int = dd at *
  refine ⟨_, (pss_cons (ps_set (i := 2) sc_l_word.nd rfl (Or.inr rfl) pe_str)
  (pss_cons (ps_set (i := 3) sc_l_word.nd rfl (Or.inl rfl) (pe_op op_mod (pe_ix ix_list (pv 0) pe_int (fun _ _ => rfl)) pe_int))
  (pss_cons (ps_set (i := 4) sc_l_word.nd rfl (Or.inl rfl) (pe_bm PySem.F.plainAttrs_str PySem.F.slot_str_join PySem.F.type_str_join mt_join pe_str (pa_cons (pe_lc rfl (compOk_of (fr := [("_law_d", 0), ("_law_letters", 2)]) (osc := defScope s_l_word) (N := ["_law_d", "_law_k", "_law_letters", "_law_spot", "_law_rest"]) rfl rfl (by decide +kernel)) (pi_range1 rfl T.z_range (pa_cons (pe_op op_mod (pe_ix ix_list (pv 0) pe_int (fun _ _ => rfl)) pe_int) pa_nil)) (fun _ _ _ _ _ => (pe_ix (r := rIxS) ix_str (pv 2) (pe_op op_mod (pe_op op_fdivB (pe_ix (r := rIxL K) ix_list (pv 1) pe_int (fun _ _ => rfl)) (pe_ix (r := rIxL K) ix_list (pe_lst (pa_ints [1, 26, 676, 17576, 3, 79] rfl)) (pv 0) (fun _ _ => rfl))) pe_int) (fun _ _ => rfl)))) pa_nil)))
  (pss_one (ps_ret (pe_op op_addS (pe_op op_addS (pe_slice sl_str (pv 4) po_none (po_some (pv 3))) (pe_ix ix_str (pv 2) (pe_op op_mod (pe_op op_add (pe_op op_fdivB (pe_ix ix_list (pv 0) pe_int (fun _ _ => rfl)) pe_int) (pv 1)) pe_int) (fun _ _ => rfl))) (pe_slice sl_str (pv 4) (po_some (pv 3)) po_none))))))), z_go (σ := [some _, some _, none, none, none]) rfl ?_⟩
  walk_at "run"
  refine z_ixL hL a0 ?_
  walk_at "run"
  refine z_ixL hL a2 ?_
  walk_at "run"
  refine z_r1N (by omega) (by omega) ?_
  refine lcn_rangeP (fun _ v => ∃ c, letB c = true ∧ v = .str ⟨#[c]⟩) (le_size (by omega)) ?_ ?_
  · intro i H2 S hi s2 kk
    have hL2 := s2.seq hL
    walk_at "run"
    refine z_ixL hL2 a1 ?_
    walk_at "run"
    refine z_mkl (Nat.le_of_ble_eq_true rfl) (fun l3 H3 n3 s3 e3 => ?_)
    walk_at "run"
    obtain ⟨m, hm, m0, m1⟩ : ∃ m : Int, atI [V.int 1, .int 26, .int 676, .int 17576, .int 3, .int 79] (0 + (i : Int)) = some (.int m) ∧ 0 < m ∧ m ≤ 17576 := by
      rcases (by omega : i = 0 ∨ i = 1 ∨ i = 2 ∨ i = 3 ∨ i = 4 ∨ i = 5) with e | e | e | e | e | e <;> subst e <;> exact ⟨_, rfl, by decide, by decide⟩
    refine z_ixL (SqL.of e3) hm ?_
    have mm : Mid m := midB (by omega) (by omega)
    walk_at "run"
    obtain ⟨c, hc, lc⟩ := letter26 (Int.emod_nonneg (d1 / m) (by decide)) (Int.emod_lt_of_pos (d1 / m) (show (0 : Int) < 26 by decide))
    refine z_ixS (by decide) hc ?_
    exact kk _ _ s3 ⟨c, lc, rfl⟩
  · intro acc xs H2 hacc hlen hxs s2 ha
    obtain ⟨cs, rfl, hall⟩ := one_strs hxs
    rw [List.length_map, List.length_map] at hlen
    have hL2 := s2.seq hL
    walk_at "run"
    refine z_join (SqL.of ha) (joinOk1 cs (by omega)) ?_
    have hj := join_one cs
    have jl : (PySem.Txt.join "" (cs.map fun c => (⟨#[c]⟩ : Str))).length ≤ 6 := by rw [← My.cs_len, hj]; omega
    have ja : (My.cs (PySem.Txt.join "" (cs.map fun c => (⟨#[c]⟩ : Str)))).all letB = true := by rw [hj]; exact hall
    generalize PySem.Txt.join "" (cs.map fun c => (⟨#[c]⟩ : Str)) = rz at jl ja
    obtain ⟨sp, hsp⟩ : ∃ n : Nat, d0 % 7 = (n : Int) := ⟨(d0 % 7).toNat, by have := Int.emod_nonneg d0 (show (7 : Int) ≠ 0 by decide); omega⟩
    rw [hsp]
    walk_at "run"
    refine z_ixL hL2 a2 ?_
    walk_at "run"
    obtain ⟨c, hc, lc⟩ := letter26 (Int.emod_nonneg (d2 / 7 + k) (by decide)) (Int.emod_lt_of_pos (d2 / 7 + k) (show (0 : Int) < 26 by decide))
    refine z_ixS (by decide) hc ?_
    walk_at "run"
    have ez : My.cs (PySem.Txt.slice rz none (some (sp : Int)) ++ (⟨#[c]⟩ : Str) ++ PySem.Txt.slice rz (some (sp : Int)) none) = (My.cs rz).take sp ++ [c] ++ (My.cs rz).drop sp := by
      rw [My.cs_app, My.cs_app, My.sl_0s, My.sl_s0]
    have lz : (PySem.Txt.slice rz none (some (sp : Int)) ++ (⟨#[c]⟩ : Str) ++ PySem.Txt.slice rz (some (sp : Int)) none).length = rz.length + 1 := by
      rw [← My.cs_len, ez, List.length_append, List.length_append, List.length_take, List.length_drop, List.length_singleton, My.cs_len]
      omega
    have l1 : (PySem.Txt.slice rz none (some (sp : Int))).length ≤ 6 := by rw [← My.cs_len, My.sl_0s, List.length_take, My.cs_len]; omega
    have l2 : (PySem.Txt.slice rz (some (sp : Int)) none).length ≤ 6 := by rw [← My.cs_len, My.sl_s0, List.length_drop, My.cs_len]; omega
    have l3 : (⟨#[c]⟩ : Str).length = 1 := rfl
    refine z_addS (le_size (by omega)) ?_
    walk_at "run"
    refine z_addS (le_size (by rw [PySem.Str.length_append]; omega)) ?_
    refine q _ _ s2 (wordS_of (by rw [lz]; omega) (by rw [lz]; omega) ?_) (by rw [lz]; omega)
    rw [ez, List.all_append, List.all_append, Bool.and_eq_true, Bool.and_eq_true]
    refine ⟨⟨?_, by rw [List.all_cons, lc]; rfl⟩, ?_⟩
    · rw [List.all_eq_true] at ja ⊢
      exact fun x hx => ja x (List.mem_of_mem_take hx)
    · rw [List.all_eq_true] at ja ⊢
      exact fun x hx => ja x (List.mem_of_mem_drop hx)

noncomputable def dg (ds : List Int) (k : Int) : Int := ds.getD k.toNat 0
theorem atD {ds : List Int} {k : Int} (h0 : 0 ≤ k) (h1 : k < (ds.length : Int)) : atI (ds.map Tr.int) k = some (.int (dg ds k)) := by
  have hk : k.toNat < ds.length := by omega
  have e : k = ((k.toNat : Nat) : Int) := by omega
  have h : (ds.map Tr.int)[k.toNat]? = some (.int (dg ds k)) := by
    rw [List.getElem?_map, List.getElem?_eq_getElem hk]
    unfold dg
    rw [List.getD_eq_getElem?_getD, List.getElem?_eq_getElem hk]
    rfl
  rw [e]
  have := atI_nat h
  rw [← e] at this ⊢
  exact this
noncomputable def Dr (n : Nat) (ds : List Int) : Prop := ds.length = n ∧ ∀ d ∈ ds, 0 ≤ d ∧ d < 1000000
theorem Dr.b {n : Nat} {ds : List Int} (h : Dr n ds) {k : Int} (h0 : 0 ≤ k) (h1 : k < (n : Int)) : 0 ≤ dg ds k ∧ dg ds k < 1000000 := by
  unfold dg
  have hk : k.toNat < ds.length := by have := h.1; omega
  rw [List.getD_eq_getElem?_getD, List.getElem?_eq_getElem hk]
  exact h.2 _ (List.getElem_mem hk)
theorem cutT_nn {xs : List Tr} {a b : Int} (a' b' : Nat) (ha : a = (a' : Int)) (hb : b = (b' : Int)) : cutT xs (some a) (some b) = (xs.drop a').take (b' - a') := by
  subst ha hb
  unfold cutT
  rw [HT.sIx_nat, HT.sIx_nat]
  rcases Nat.le_total a' xs.length with h | h
  · rw [Nat.min_eq_left h]
    rcases Nat.le_total b' xs.length with g | g
    · rw [Nat.min_eq_left g]
    · rw [Nat.min_eq_right g, List.take_of_length_le (by rw [List.length_drop]; omega), List.take_of_length_le (by rw [List.length_drop]; omega)]
  · rw [Nat.min_eq_right h, List.drop_eq_nil_of_le (Nat.le_refl _), List.drop_eq_nil_of_le h, List.take_nil, List.take_nil]
theorem Dr.cut {n : Nat} {ds : List Int} (h : Dr n ds) {a b : Int} (m : Nat) (h0 : 0 ≤ a) (h1 : b = a + m) (h2 : b ≤ n) : ∃ es, cutT (ds.map Tr.int) (some a) (some b) = es.map Tr.int ∧ Dr m es := by
  refine ⟨(ds.drop a.toNat).take (b.toNat - a.toNat), ?_, ?_, fun d hd => h.2 d (List.mem_of_mem_drop (List.mem_of_mem_take hd))⟩
  · rw [cutT_nn a.toNat b.toNat (by omega) (by omega), List.map_take, List.map_drop]
  · have := h.1
    rw [List.length_take, List.length_drop]; omega
theorem cutT_1b {xs : List Tr} {b : Int} (b' : Nat) (hb : b = (b' : Int)) : cutT xs none (some b) = xs.take b' := by
  subst hb
  unfold cutT
  rw [HT.sIx_nat, show HT.sIx xs.length 0 (none : Option Int) = 0 from rfl, List.drop_zero, Nat.sub_zero]
  rcases Nat.le_total b' xs.length with g | g
  · rw [Nat.min_eq_left g]
  · rw [Nat.min_eq_right g, List.take_of_length_le (Nat.le_refl _), List.take_of_length_le g]
noncomputable def st_draws33 : SpT := fun _ as Φ _ => ∃ (ns : List Int) (k m : Int), as = [.fz (.lst (ns.map Tr.int)), .fz (.int k), .fz (.int m)] ∧ (0 ≤ k ∧ k ≤ 100) ∧ (0 ≤ m ∧ m ≤ 100) ∧ ∀ ds, Dr m.toNat ds → Φ (.nw (.lst (ds.map Tr.int)))
theorem okT_l_draws (T : Txt K mg t) : FnOk P w K mg base CX0 2 t.f_l_draws t.d_l_draws ["_law_script", "_law_k", "_law_many"] (toSp K st_draws33) := by
  refine (ok_l_draws (P := P) (w := w) (base := base) T).imp fun vs H Q E h => ?_
  obtain ⟨B, as, Φ, Ψ, rfl, rfl, bk, la, ⟨ns, k, m, rfl, hk, hm, φ⟩, q, _⟩ := h
  cases la with
  | cons iv la =>
    obtain ⟨v1, v2, rfl, i1, i2⟩ := arl2 la
    cases i1
    cases i2
    have iv : Is B.K B.F0 _ (.lst (ns.map Tr.int)) := iv
    cases iv with
    | lst hs g =>
      rw [g.ints] at hs
      exact ⟨_, k, m, ns, rfl, bk.i.seq hs, hk, hm, fun p H' ds s n e l b => q (.ref p) _ H' _ (upT bk rfl rfl s) (ret_nw bk n e (.ofInts _)) (φ ds ⟨l, b⟩)⟩
noncomputable def st_low33 : SpT := fun _ as Φ _ => ∃ (t b : Int), as = [.fz (.int t), .fz (.int b)] ∧ 0 < b ∧ b ≤ 60 ∧ ∀ x y : Int, 0 < y → y ≤ 60 → Φ (.fz (.tup [.int x, .int y]))
theorem okT_l_low (T : Txt K mg t) : FnOk P w K mg base CX0 1 t.f_l_low t.d_l_low ["_law_top", "_law_bottom"] (toSp K st_low33) := by
  refine (ok_l_low (P := P) (w := w) (base := base) T).imp fun vs H Q E h => ?_
  obtain ⟨B, as, Φ, Ψ, rfl, rfl, bk, la, ⟨tp, b, rfl, hb, hb2, φ⟩, q, _⟩ := h
  obtain ⟨v1, v2, rfl, i1, i2⟩ := arl2 la
  cases i1
  cases i2
  refine ⟨tp, b, rfl, hb, (show My.Bd 62 b by unfold My.Bd; omega).mono (by decide), fun p H' x y s e y0 yb _ _ => ?_⟩
  refine q (.ref p) _ H' (.fz (.tup [.int x, .int y])) (upT bk rfl rfl s) ?_ (φ x y y0 (by omega))
  exact .tup (SqT.addT (bk.i.trans s) (SqT.of e)) (.cons .int (.cons .int .nil))
noncomputable def st_word33 : SpT := fun _ as Φ _ => ∃ (ds : List Int) (n : Nat) (k : Int), as = [.fz (.lst (ds.map Tr.int)), .fz (.int k)] ∧ Dr n ds ∧ 3 ≤ n ∧ ∀ z, wordS z = true → z.length ≤ 7 → Φ (.fz (.str z))
theorem okT_l_word (T : Txt K mg t) : FnOk P w K mg base CX0 1 t.f_l_word t.d_l_word ["_law_d", "_law_k"] (toSp K st_word33) := by
  refine (ok_l_word (P := P) (w := w) (base := base) T).imp fun vs H Q E h => ?_
  obtain ⟨B, as, Φ, Ψ, rfl, rfl, bk, la, ⟨ds, n, k, rfl, hD, h3, φ⟩, q, _⟩ := h
  obtain ⟨v1, v2, rfl, i1, i2⟩ := arl2 la
  cases i2
  obtain ⟨hl, hb⟩ := hD
  match ds, hl, hb, i1 with
  | d0 :: d1 :: d2 :: r, hl, hb, i1 =>
    cases i1 with
    | lst hs g =>
      rw [g.ints] at hs
      exact ⟨_, d0, d1, d2, k, r, rfl, bk.i.seq hs, hb d2 (.tail _ (.tail _ (.head _))), fun z H' s wz lz => q (.str z) _ H' (.fz (.str z)) (upT bk rfl rfl s) .str (φ z wz lz)⟩
  | [], hl, _, _ => exact absurd hl (by simp; omega)
  | [_], hl, _, _ => exact absurd hl (by simp; omega)
  | [_, _], hl, _, _ => exact absurd hl (by simp; omega)
local macro_rules | `(tactic| walk_at "tsp") => `(tactic| refine ro_ixL rfl (by walk_at "rk") (atD (by omega) (by omega)) ?_)
theorem at3 {a b c : Int} {i : Int} (h0 : 0 ≤ i) (h1 : i < 3) : ∃ x, atI [Tr.int a, .int b, .int c] i = some (.int x) := by
  rcases (by omega : i = 0 ∨ i = 1 ∨ i = 2) with e | e | e <;> subst e <;> exact ⟨_, rfl⟩
theorem at2 {a b : Int} {i : Int} (h0 : 0 ≤ i) (h1 : i < 2) : ∃ x, atI [Tr.int a, .int b] i = some (.int x) ∧ (x = a ∨ x = b) := by
  rcases (by omega : i = 0 ∨ i = 1) with e | e <;> subst e
  · exact ⟨_, rfl, .inl rfl⟩
  · exact ⟨_, rfl, .inr rfl⟩
noncomputable def st_num33 : SpT := fun _ as Φ _ => ∃ (ds : List Int) (n : Nat), as = [.fz (.lst (ds.map Tr.int))] ∧ Dr n ds ∧ 3 ≤ n ∧ ∀ x y : Int, 0 < y → y ≤ 60 → Φ (.fz (.tup [.int x, .int y]))
theorem okT_l_number (T : Txt K mg t) : FnOk P w K mg base CX0 2 t.f_l_number t.d_l_number ["_law_d"] (toSp K st_num33) := by
  have G_l_low := okT_l_low (P := P) (w := w) (base := base) T
  refine T.F_l_number.ok sc_l_number (toSp_len (fun B as Φ Ψ h => by obtain ⟨_, _, rfl, _⟩ := h; rfl)) (fun cdv A outer s H vs Q E hr h => ?_)
  obtain ⟨B, as, Φ, Ψ, rfl, hS, hx, go⟩ := toSp_open h
  obtain ⟨ds, n, rfl, hD, h3, φ⟩ := hS
  have hl := hD.1
  obtain ⟨b10, b11⟩ := hD.b (k := 1) (by decide) (by omega)
  obtain ⟨b20, b21⟩ := hD.b (k := 2) (by decide) (by omega)
  obtain ⟨b00, b01⟩ := hD.b (k := 0) (by decide) (by omega)
  refine ⟨_, (pss_cons (ps_set (i := 1) sc_l_number.nd rfl (Or.inl rfl) (pe_ix ix_list (pe_lst (pa_cons (pe_op op_sub (pe_op op_mod (pe_ix ix_list (pv 0) pe_int (fun _ _ => rfl)) pe_int) pe_int) (pa_cons (pe_op op_sub (pe_op op_mod (pe_ix ix_list (pv 0) pe_int (fun _ _ => rfl)) pe_int) pe_int) (pa_cons (pe_op op_sub (pe_op op_add (pe_op op_add (pe_op op_mulB (pe_ix ix_list (pv 0) pe_int (fun _ _ => rfl)) (pe_op op_pow pe_int pe_int)) (pe_op op_mulB (pe_ix ix_list (pv 0) pe_int (fun _ _ => rfl)) (pe_op op_pow pe_int pe_int))) (pe_ix ix_list (pv 0) pe_int (fun _ _ => rfl))) (pe_op op_mulB pe_int (pe_op op_pow pe_int pe_int))) pa_nil)))) (pe_op op_fdivB (pe_op op_mod (pe_ix ix_list (pv 0) pe_int (fun _ _ => rfl)) pe_int) pe_int) (fun _ _ => rfl)))
  (pss_one (ps_ret (pe_call G_l_low (hr.mono (by decide)) rfl T.m_l_low T.k_l_low T.b_l_low .nil pass0 (pa_cons (pv 1) (pa_cons (pe_ix ix_list (pe_lst (pa_cons pe_int (pa_cons (pe_op op_add pe_int (pe_op op_mod (pe_ix ix_list (pv 0) pe_int (fun _ _ => rfl)) pe_int)) pa_nil))) (pe_op op_mod (pe_op op_fdivB (pe_ix ix_list (pv 0) pe_int (fun _ _ => rfl)) pe_int) pe_int) (fun _ _ => rfl)) pa_nil)))))), go _ _ (s_go (τ := [.fz _, .no]) rfl ?_)⟩
  walk_at "trun"
  have q0 := Int.emod_nonneg (dg ds 1) (show (7 : Int) ≠ 0 by decide)
  have q1 := Int.emod_lt_of_pos (dg ds 1) (show (0 : Int) < 7 by decide)
  obtain ⟨tp, e1⟩ := at3 (a := dg ds 0 % 21 - 10) (b := dg ds 0 % 2001 - 1000) (c := dg ds 0 * 10 ^ Int.toNat 12 + dg ds 1 * 10 ^ Int.toNat 6 + dg ds 2 - 5 * 10 ^ Int.toNat 17) (i := dg ds 1 % 7 / 3) (by omega) (by omega)
  refine ro_ixL rfl Rk.fz e1 ?_
  walk_at "trun"
  obtain ⟨bt, e2, hb⟩ := at2 (a := 1) (b := 1 + dg ds 2 % 60) (Int.emod_nonneg (dg ds 2 / 60) (show (2 : Int) ≠ 0 by decide)) (Int.emod_lt_of_pos (dg ds 2 / 60) (show (0 : Int) < 2 by decide))
  refine ro_ixL rfl Rk.fz e2 ?_
  walk_at "trun"
  intro _ _
  refine ⟨tp, bt, rfl, by omega, by omega, fun x y h1 h2 => ?_⟩
  walk_at "trun"
  exact φ x y h1 h2
theorem slice_le {z : Str} {a b : Nat} : (PySem.Txt.slice z (some (a : Int)) (some (b : Int))).length ≤ z.length := by
  rw [← My.cs_len, My.sl_ss, List.length_take, List.length_drop, My.cs_len]
  omega
noncomputable def WOk (o : Option (List Str)) : Prop := ∀ ws, o = some ws → 1 ≤ ws.length ∧ ws.length ≤ 26
theorem strs_of : ∀ {os : List Tr}, (∀ (i : Nat) (o : Tr), os[i]? = some o → ∃ z, o = .str z) → ∃ ws : List Str, os = ws.map Tr.str
  | [], _ => ⟨[], rfl⟩
  | o :: r, h => by
    obtain ⟨z, rfl⟩ := h 0 o rfl
    obtain ⟨ws, rfl⟩ := strs_of (os := r) fun i o e => h (i + 1) o e
    exact ⟨z :: ws, rfl⟩
noncomputable def st_wish46 : SpT := fun _ as Φ _ => ∃ ds : List Int, as = [.fz (.lst (ds.map Tr.int)), .fz (.lst [.str "order"])] ∧ Dr 6 ds ∧ ∀ o, WOk o → Φ (.fz (wshO o))
theorem okT_l_wish (T : Txt K mg t) : FnOk P w K mg base CX0 3 t.f_l_wish t.d_l_wish ["_law_d", "_law_wanted"] (toSp K st_wish46) := by
  have G_l_number := okT_l_number (P := P) (w := w) (base := base) T
  have G_l_word := okT_l_word (P := P) (w := w) (base := base) T
  refine T.F_l_wish.ok sc_l_wish (toSp_len (fun B as Φ Ψ h => by obtain ⟨_, rfl, _⟩ := h; rfl)) (fun cdv A outer s H vs Q E hr h => ?_)
  obtain ⟨B, as, Φ, Ψ, rfl, hS, hx, go⟩ := toSp_open h
  obtain ⟨ds, rfl, hD, φ⟩ := hS
  have hl := hD.1
  refine ⟨_, (pss_cons (ps_set (i := 2) sc_l_wish.nd rfl (Or.inl rfl) (pe_ix ix_list (pv 1) (pe_op op_mod (pe_ix ix_list (pv 0) pe_int (fun _ _ => rfl)) (pe_callB call_len_seq rfl T.z_len PySem.boot_len (pa_cons (pv 1) pa_nil))) (fun _ _ => rfl)))
  (pss_cons (ps_set (i := 3) sc_l_wish.nd rfl (Or.inl rfl) (pe_call G_l_number (hr.mono (by decide)) rfl T.m_l_number T.k_l_number T.b_l_number .nil pass0 (pa_cons (pe_slice sl_list (pv 0) (po_some pe_int) (po_some pe_int)) pa_nil)))
  (pss_cons (ps_if (pt_cmpR op_eq (pv 2) pe_str (nomark _)) (pss_one ps_never) pss_nil)
  (pss_cons (ps_if (PW.pt (pw_and (pt_cmpR op_eq (pv 2) pe_str (nomark _)) (pw_and1 (pt_cmpR op_eq (pe_op op_mod (pe_ix ix_list (pv 0) pe_int (fun _ _ => rfl)) pe_int) pe_int (nomark _))))) (pss_one ps_never) pss_nil)
  (pss_cons (ps_if (pt_cmpR op_eq (pv 2) pe_str (nomark _)) (pss_cons ps_never
  (pss_cons ps_never
  (pss_one ps_never))) pss_nil)
  (pss_cons (ps_if (PW.pt (pw_and (pt_cmpR op_eq (pv 2) pe_str (nomark _)) (pw_and1 (pt_cmpR op_eq (pe_op op_mod (pe_ix ix_list (pv 0) pe_int (fun _ _ => rfl)) pe_int) pe_int (nomark _))))) (pss_one (ps_ret (pe_tup (pa_cons (pv 2) (pa_cons (pe_callTy call_tuple_of rfl T.z_tuple bt_tuple (pa_cons (pe_lc rfl (compOk_of (fr := [("_law_d", 0)]) (osc := defScope s_l_wish) (N := ["_law_d", "_law_wanted", "_law_word_here", "_law_lo", "_law_ends", "_law_k"]) rfl rfl (by decide +kernel)) (pi_range1 rfl T.z_range (pa_cons (pe_op op_add pe_int (pe_op op_mod (pe_ix ix_list (pv 0) pe_int (fun _ _ => rfl)) (pe_ix ix_list (pe_lst (pa_cons pe_int (pa_cons pe_int pa_nil))) (pe_op op_mod (pe_ix ix_list (pv 0) pe_int (fun _ _ => rfl)) pe_int) (fun _ _ => rfl)))) pa_nil)) (fun _ _ _ _ _ => (pe_call G_l_word (hr.mono (by decide)) rfl T.m_l_word T.k_l_word T.b_l_word .nil pass0 (pa_cons (pe_slice (r := rSlL B.K) sl_list (pv 1) (po_some pe_int) (po_some pe_int)) (pa_cons (pv 0) pa_nil))))) pa_nil)) pa_nil))))) pss_nil)
  (pss_one (ps_ret (pe_tup (pa_cons (pv 2) pa_nil)))))))))), go _ _ (s_go (τ := [.fz _, .fz _, .no, .no, .no, .no]) rfl ?_)⟩
  walk_at "trun"
  rw [show dg ds 0 % (([Tr.str "order"].length : Nat) : Int) = 0 from Int.emod_one _]
  walk_at "trun"
  obtain ⟨es, ee, he⟩ := hD.cut (a := 1) (b := 4) 3 (by decide) (by decide) (by decide)
  rw [ee]
  intro _ _
  refine ⟨es, 3, rfl, he, by decide, fun x y y0 y1 => ?_⟩
  walk_at "trun"
  refine ite_f (by decide) ?_
  walk_at "trun"
  refine ite_f (by decide) ?_
  walk_at "trun"
  refine ite_f (by decide) ?_
  walk_at "trun"
  refine ite_t (by decide) ?_
  walk_at "trun"
  refine z_iteD (fun h1 => ?_) (fun h1 => ?_)
  rotate_left
  · walk_at "trun"
    exact φ none nofun
  walk_at "trun"
  refine e_lc (i_rng1 ?_)
  walk_at "trun"
  obtain ⟨md, e1, hm⟩ := at2 (a := 5) (b := 26) (Int.emod_nonneg (dg ds 4) (show (2 : Int) ≠ 0 by decide)) (Int.emod_lt_of_pos (dg ds 4) (show (0 : Int) < 2 by decide))
  refine ro_ixL rfl Rk.fz e1 ?_
  have md0 : 0 < md := by omega
  have k0 := Int.emod_nonneg (dg ds 5) (show md ≠ 0 by omega)
  have k1 := Int.emod_lt_of_pos (dg ds 5) md0
  walk_at "trun"
  refine ⟨⟨by omega, by omega⟩, [.fz (.lst (ds.map Tr.int))], by repeat (first | exact .nil | refine .fz (by walk_at "tg") ?_), by rw [rangeT_len]; omega, fun i o => ∃ z, o = .str z, fun i tt ht => ?_, fun os hl2 ho => ?_⟩
  · obtain ⟨hin, rfl⟩ := rangeT_at ht
    walk_at "trun"
    obtain ⟨es, ee, he⟩ := hD.cut (a := 2) (b := 5) 3 (by decide) (by decide) (by decide)
    rw [ee]
    intro _ _
    refine ⟨es, 3, _, rfl, he, by decide, fun w wz wl => ?_⟩
    walk_at "trun"
    exact ⟨w, rfl⟩
  · obtain ⟨ws, rfl⟩ := strs_of ho
    rw [List.length_map, rangeT_len] at hl2
    walk_at "trun"
    exact φ (some ws) fun ws' h => by cases h; exact ⟨by omega, by omega⟩
noncomputable def st_chanby : SpT := fun _ as Φ _ => ∃ (n : Str) (ds : List Int), as = [.fz (.str n), .fz (.lst (ds.map Tr.int))] ∧ Dr 7 ds ∧ ∀ f : Option Chn, (∀ c, f = some c → c.1 = n ∧ WOk c.2) → Φ (.fz (fctT f))
theorem okT_l_channel_by (T : Txt K mg t) : FnOk P w K mg base CX0 4 t.f_l_channel_by t.d_l_channel_by ["_law_name", "_law_d"] (toSp K st_chanby) := by
  have G_l_wish := okT_l_wish (P := P) (w := w) (base := base) T
  refine T.F_l_channel_by.ok sc_l_channel_by (toSp_len (fun B as Φ Ψ h => by obtain ⟨_, _, rfl, _⟩ := h; rfl)) (fun cdv A outer s H vs Q E hr h => ?_)
  obtain ⟨B, as, Φ, Ψ, rfl, hS, hx, go⟩ := toSp_open h
  obtain ⟨n, ds, rfl, hD, φ⟩ := hS
  have hl := hD.1
  refine ⟨_, (pss_cons (ps_if (pt_cmpR op_eq (pe_op op_mod (pe_ix ix_list (pv 1) pe_int (fun _ _ => rfl)) pe_int) pe_int (nomark _)) (pss_one (ps_ret pe_non)) pss_nil)
  (pss_one (ps_ret (pe_tup (pa_cons (pv 0) (pa_cons (pe_ix ix_list (pe_lst (pa_cons (pe_tup (pa_cons pe_str pa_nil)) (pa_cons (pe_call G_l_wish (hr.mono (by decide)) rfl T.m_l_wish T.k_l_wish T.b_l_wish .nil pass0 (pa_cons (pe_slice sl_list (pv 1) (po_some pe_int) (po_some pe_int)) (pa_cons (pe_lst (pa_cons pe_str pa_nil)) pa_nil))) pa_nil))) (pe_op op_fdivB (pe_op op_mod (pe_ix ix_list (pv 1) pe_int (fun _ _ => rfl)) pe_int) pe_int) (fun _ _ => rfl)) pa_nil)))))), go _ _ (s_go (τ := [.fz _, .fz _]) rfl ?_)⟩
  walk_at "trun"
  refine z_iteD (fun h1 => ?_) (fun h1 => ?_)
  · walk_at "trun"
    exact φ none nofun
  walk_at "trun"
  obtain ⟨es, ee, he⟩ := hD.cut (a := 1) (b := 7) 6 (by decide) (by decide) (by decide)
  rw [ee]
  intro _ _
  refine ⟨es, rfl, he, fun o ho => ?_⟩
  walk_at "trun"
  have r0 := Int.emod_nonneg (dg ds 0) (show (4 : Int) ≠ 0 by decide)
  have r1 := Int.emod_lt_of_pos (dg ds 0) (show (0 : Int) < 4 by decide)
  obtain ⟨o', e1, ho'⟩ : ∃ o', atI [Tr.tup [.str "order"], wshO o] (dg ds 0 % 4 / 3) = some (wshO o') ∧ WOk o' := by
    rcases (by omega : dg ds 0 % 4 / 3 = 0 ∨ dg ds 0 % 4 / 3 = 1) with e | e <;> rw [e]
    · exact ⟨none, rfl, nofun⟩
    · exact ⟨o, rfl, ho⟩
  refine ro_ixL rfl Rk.fz e1 ?_
  walk_at "trun"
  exact φ (some (n, o')) fun c h => by cases h; exact ⟨rfl, ho'⟩
noncomputable def st_lcell : SpT := fun _ as Φ _ => ∃ (o : Option (List Str)) (ds : List Int), as = [.fz (wshO o), .fz (.lst (ds.map Tr.int))] ∧ Dr 3 ds ∧ WOk o ∧ ∀ c : Option Str, Φ (.fz (oS c))
theorem okT_l_cell (T : Txt K mg t) : FnOk P w K mg base CX0 2 t.f_l_cell t.d_l_cell ["_law_wish_here", "_law_d"] (toSp K st_lcell) := by
  have G_l_word := okT_l_word (P := P) (w := w) (base := base) T
  refine T.F_l_cell.ok sc_l_cell (toSp_len (fun B as Φ Ψ h => by obtain ⟨_, _, rfl, _⟩ := h; rfl)) (fun cdv A outer s H vs Q E hr h => ?_)
  obtain ⟨B, as, Φ, Ψ, rfl, hS, hx, go⟩ := toSp_open h
  obtain ⟨o, ds, rfl, hD, hW, φ⟩ := hS
  have hl := hD.1
  refine ⟨_, (pss_cons (ps_if (pt_cmpR op_eq (pe_op op_mod (pe_ix ix_list (pv 1) pe_int (fun _ _ => rfl)) pe_int) pe_int (nomark _)) (pss_one (ps_ret pe_non)) pss_nil)
  (pss_cons (ps_set (i := 2) sc_l_cell.nd rfl (Or.inl rfl) (pe_slice sl_list (pe_lc rfl (compOk_of (fr := []) (osc := defScope s_l_cell) (N := ["_law_wish_here", "_law_d", "_law_told"]) rfl rfl (by decide +kernel)) (pi_range1 rfl T.z_range (pa_cons pe_int pa_nil)) (fun _ _ _ _ _ => (pe_call G_l_word (hr.mono (by decide)) rfl T.m_l_word T.k_l_word T.b_l_word .nil pass0 (pa_cons (pe_lst (pa_cons pe_int (pa_cons pe_int (pa_cons pe_int pa_nil)))) (pa_cons (pv 0) pa_nil))))) po_none (po_some (pe_op op_add pe_int (pe_op op_mod (pe_ix ix_list (pv 1) pe_int (fun _ _ => rfl)) pe_int)))))
  (pss_cons (ps_if (PW.pt (pw_and (pt_cmpR op_eq (pe_callB call_len_seq rfl T.z_len PySem.boot_len (pa_cons (pv 0) pa_nil)) pe_int (nomark _)) (pw_and1 (pt_cmpR op_gt (pe_op op_mod (pe_ix ix_list (pv 1) pe_int (fun _ _ => rfl)) pe_int) pe_int (nomark _))))) (pss_one (ps_set (i := 2) sc_l_cell.nd rfl (Or.inl rfl) (pe_callTy call_list_of rfl T.z_list bt_list (pa_cons (pe_ix ix_tup (pv 0) pe_int (fun _ _ => rfl)) pa_nil)))) pss_nil)
  (pss_one (ps_ret (pe_ix ix_list (pv 2) (pe_op op_mod (pe_ix ix_list (pv 1) pe_int (fun _ _ => rfl)) (pe_callB call_len_seq rfl T.z_len PySem.boot_len (pa_cons (pv 2) pa_nil))) (fun _ _ => rfl))))))), go _ _ (s_go (τ := [.fz _, .fz _, .no]) rfl ?_)⟩
  walk_at "trun"
  refine z_iteD (fun h1 => ?_) (fun h1 => ?_)
  · walk_at "trun"
    exact φ none
  walk_at "trun"
  refine e_lc (i_rng1 ?_)
  walk_at "trun"
  refine ⟨⟨by decide, by decide⟩, [], .nil, by rw [rangeT_len]; decide, fun i o => ∃ z, o = .str z, fun i tt ht => ?_, fun os hl2 ho => ?_⟩
  · obtain ⟨hin, rfl⟩ := rangeT_at ht
    walk_at "trun"
    intro _ _
    refine ⟨[0, 0, 0], 3, _, rfl, ⟨rfl, by decide⟩, by decide, fun w wz wl => ?_⟩
    walk_at "trun"
    exact ⟨w, rfl⟩
  obtain ⟨ws, rfl⟩ := strs_of ho
  rw [List.length_map, rangeT_len] at hl2
  have hl2 : ws.length = 26 := hl2
  have r0 := Int.emod_nonneg (dg ds 1) (show (20 : Int) ≠ 0 by decide)
  have r1 := Int.emod_lt_of_pos (dg ds 1) (show (0 : Int) < 20 by decide)
  walk_at "trunI"
  rw [cutT_1b (1 + dg ds 1 % 20).toNat (by omega), ← List.map_take]
  have tl : 0 < (ws.take (1 + dg ds 1 % 20).toNat).length := by rw [List.length_take]; omega
  generalize ws.take (1 + dg ds 1 % 20).toNat = us at tl
  walk_at "trunI"
  refine s_cut (fun τ' => ∃ us : List Str, τ' = [.fz (wshO o), .fz (.lst (ds.map Tr.int)), .own (.lst (us.map Tr.str))] ∧ 0 < us.length) ?_ ?_
  · cases o with
    | none =>
      rw [show wshO none = Tr.tup [.str "order"] from rfl]
      walk_at "trun"
      refine ite_f rfl ?_
      walk_at "trun"
      exact ⟨us, rfl, tl⟩
    | some vs =>
      rw [show wshO (some vs) = Tr.tup [.str "order", .tup (vs.map Tr.str)] from rfl]
      walk_at "trun"
      refine ite_t rfl ?_
      walk_at "trun"
      refine z_iteD (fun h2 => ?_) (fun h2 => ?_)
      · walk_at "trun"
        exact ⟨vs, rfl, (hW vs rfl).1⟩
      · walk_at "trun"
        exact ⟨us, rfl, tl⟩
  rintro τ' ⟨us, rfl, tl⟩
  have um : (us.map Tr.str).length = us.length := List.length_map _
  walk_at "trun"
  obtain ⟨z, ez⟩ : ∃ z, atI (us.map Tr.str) (dg ds 2 % (((us.map Tr.str).length : Nat) : Int)) = some (.str z) := by
    have j0 := Int.emod_nonneg (dg ds 2) (show (((us.map Tr.str).length : Nat) : Int) ≠ 0 by omega)
    have j1 := Int.emod_lt_of_pos (dg ds 2) (show (0 : Int) < (((us.map Tr.str).length : Nat) : Int) by omega)
    obtain ⟨k, hk⟩ := Int.eq_ofNat_of_zero_le j0
    rw [hk] at j1 ⊢
    have hk2 : k < us.length := by omega
    exact ⟨us[k], atI_nat (by rw [List.getElem?_map, List.getElem?_eq_getElem hk2]; rfl)⟩
  refine ro_ixL rfl (by walk_at "rk") ez ?_
  walk_at "trun"
  exact φ (some z)
noncomputable def spT : Option (List Str) → Tr
  | none => .tup [.str "no space"]
  | some ws => .lst (ws.map Tr.str)
noncomputable def roomL (ws : List Str) (m : Nat) : Option (List Str) := if 1 ≤ ws.length ∧ ws.length ≤ m then some ws else none
noncomputable def st_first46 : SpT := fun _ as Φ _ => ∃ (o : Option (List Str)) (cs : List (Option Str)) (m : Nat), as = [.fz (wshO o), .fz (.lst (cs.map oS)), .fz (.int (m : Nat))] ∧ WOk o ∧ cs.length ≤ 100 ∧ Φ (.fz (spT (roomL (wordsV o (cs.filterMap id)) m)))
theorem take_fm {cs : List (Option Str)} {i : Nat} {c : Option Str} (h : cs[i]? = some c) : (cs.take (i + 1)).filterMap id = (cs.take i).filterMap id ++ c.toList := by
  rw [List.take_succ, h, List.filterMap_append]
  cases c <;> rfl
theorem uniq_app {as bs : List Str} : uniqV (as ++ bs) = bs.foldl addU (uniqV as) := by
  unfold uniqV
  rw [List.foldl_append]
theorem okT_l_first (T : Txt K mg t) : FnOk P w K mg base CX0 1 t.f_l_first t.d_l_first ["_law_wish_here", "_law_cells", "_law_most"] (toSp K st_first46) := by
  refine T.F_l_first.ok sc_l_first (toSp_len (fun B as Φ Ψ h => by obtain ⟨_, _, _, rfl, _⟩ := h; rfl)) (fun cdv A outer s H vs Q E hr h => ?_)
  obtain ⟨B, as, Φ, Ψ, rfl, hS, hx, go⟩ := toSp_open h
  obtain ⟨o, cs, m, rfl, hW, hl, φ⟩ := hS
  refine ⟨_, (pss_cons (ps_set (i := 3) sc_l_first.nd rfl (Or.inl rfl) (pe_lst pa_nil))
  (pss_cons (ps_if (pt_cmpR op_eq (pe_callB call_len_seq rfl T.z_len PySem.boot_len (pa_cons (pv 0) pa_nil)) pe_int (nomark _)) (pss_one (ps_set (i := 3) sc_l_first.nd rfl (Or.inl rfl) (pe_callTy call_list_of rfl T.z_list bt_list (pa_cons (pe_ix ix_tup (pv 0) pe_int (fun _ _ => rfl)) pa_nil)))) (pss_one (ps_for PassesOwn.never rfl (pi_list (pv 1)) (pg_name (i := 4) sc_l_first.nd rfl (Or.inl rfl)) (pss_one (ps_if (PW.pt (pw_and (pt_cmpR op_notN' (pv 4) pe_non (nomark _)) (pw_and1 (pt_cmpR op_notIn_seq (pv 4) (pv 3) rfl)))) (pss_one (ps_expr (pe_bm PySem.F.plainAttrs_list PySem.F.slot_list_append PySem.F.type_list_append mt_append (pv 3) (pa_cons (pv 4) pa_nil)))) pss_nil)))))
  (pss_cons (ps_if (PW.pt (pw_or (pt_cmpR (op_eqE hr.units0) (pv 3) (pe_lst pa_nil) (nomark _)) (pw_or1 (pt_cmpR op_gt (pe_callB call_len_seq rfl T.z_len PySem.boot_len (pa_cons (pv 3) pa_nil)) (pv 2) (nomark _))))) (pss_one (ps_ret (pe_tup (pa_cons pe_str pa_nil)))) pss_nil)
  (pss_one (ps_ret (pv 3)))))), go _ _ (s_go (τ := [.fz _, .fz _, .fz _, .no, .no]) rfl ?_)⟩
  walk_at "trunI"
  refine s_cut (fun τ' => ∃ u : Sl, τ' = [.fz (wshO o), .fz (.lst (cs.map oS)), .fz (.int (m : Nat)), .own (.lst ((wordsV o (cs.filterMap id)).map Tr.str)), u]) ?_ ?_
  · cases o with
    | some ws =>
      rw [show wshO (some ws) = Tr.tup [.str "order", .tup (ws.map Tr.str)] from rfl]
      walk_at "trun"
      refine ite_t rfl ?_
      walk_at "trun"
      exact ⟨_, rfl⟩
    | none =>
      rw [show wshO none = Tr.tup [.str "order"] from rfl]
      walk_at "trun"
      refine ite_f rfl ?_
      walk_at "trun"
      refine ⟨fun i τ => ∃ u : Sl, τ = [.fz (.tup [.str "order"]), .fz (.lst (cs.map oS)), .fz (.int (m : Nat)), .own (.lst ((uniqV ((cs.take i).filterMap id)).map Tr.str)), u], ⟨_, rfl⟩, ?_, ?_⟩
      · rintro i tt τ hi ⟨u, rfl⟩
        obtain ⟨c, hc, rfl⟩ := of_map_at hi
        have ul := uniq_len ((cs.take i).filterMap id) []
        have fl : ((cs.take i).filterMap id).length ≤ 100 := by
          refine Nat.le_trans (List.length_filterMap_le _ _) ?_
          rw [List.length_take]; omega
        have ul : (uniqV ((cs.take i).filterMap id)).length ≤ 100 := by unfold uniqV; rw [List.length_nil] at ul; omega
        have um : ((uniqV ((cs.take i).filterMap id)).map Tr.str).length = (uniqV ((cs.take i).filterMap id)).length := List.length_map _
        cases c with
        | none =>
          rw [show oS none = Tr.non from rfl]
          walk_at "trun"
          exact ⟨_, by rw [take_fm hc]; show _ = _; simp; rfl⟩
        | some z =>
          rw [show oS (some z) = Tr.str z from rfl]
          walk_at "trun"
          refine ro_notin rfl (by walk_at "rk") ?_
          walk_at "trun"
          have en : uniqV ((cs.take (i + 1)).filterMap id) = addU (uniqV ((cs.take i).filterMap id)) z := by rw [take_fm hc, uniq_app]; rfl
          refine z_iteD (fun h1 => ?_) (fun h1 => ?_)
          · walk_at "trun"
            exact ⟨_, by rw [en]; unfold addU; rw [if_pos h1]⟩
          · walk_at "trun"
            exact ⟨_, by rw [en]; unfold addU; rw [if_neg h1, List.map_append]; rfl⟩
      · rintro τ ⟨u, rfl⟩
        walk_at "trun"
        rw [List.length_map, List.take_length]
        exact ⟨_, rfl⟩
  rintro τ' ⟨u, rfl⟩
  generalize wordsV o (cs.filterMap id) = ws at *
  have wm : (ws.map Tr.str).length = ws.length := List.length_map _
  unfold roomL at φ
  walk_at "trun"
  refine ro_eqE rfl (by walk_at "rk") Rk.fz ?_
  walk_at "trun"
  cases he : (ws.map Tr.str).isEmpty with
  | true =>
    have z : ws.length = 0 := by rw [List.isEmpty_iff_length_eq_zero, wm] at he; exact he
    rw [if_neg (fun h => by have := h.1; omega)] at φ
    refine ite_t rfl ?_
    walk_at "trun"
    exact φ
  | false =>
    have z : 0 < ws.length := by
      rcases Nat.eq_zero_or_pos ws.length with z | z
      · have := List.isEmpty_iff_length_eq_zero.mpr (wm.trans z)
        rw [this] at he; cases he
      · exact z
    refine ite_f rfl ?_
    walk_at "trun"
    refine z_iteD (fun h1 => ?_) (fun h1 => ?_)
    · rw [if_neg (fun h => by have := h.2; omega)] at φ
      walk_at "trun"
      exact φ
    · rw [if_pos ⟨z, by omega⟩] at φ
      walk_at "trun"
      exact rt_sf (by walk_at "tg") φ
theorem lc_map {α : Type} {os : List Tr} {xs : List α} {f : α → Tr} (hl : os.length = xs.length) (h : ∀ (i : Nat) (o : Tr), os[i]? = some o → ∃ x, xs[i]? = some x ∧ o = f x) : os = xs.map f := by
  apply List.ext_getElem?
  intro i
  rw [List.getElem?_map]
  cases e : os[i]? with
  | none =>
    have : xs[i]? = none := by rw [List.getElem?_eq_none_iff] at e ⊢; omega
    rw [this]; rfl
  | some o =>
    obtain ⟨x, ex, rfl⟩ := h i o e
    rw [ex]; rfl
noncomputable def st_at46 : SpT := fun _ as Φ _ => ∃ (cols : List Col) (rows : List (List Tr)) (n : Str) (i : Nat), as = [.fz (.lst (cols.map colT)), .fz (.lst (rows.map Tr.tup)), .fz (.str n)] ∧ ixOf (cols.map (·.1)) n = some i ∧ (∀ r ∈ rows, At i r) ∧ rows.length ≤ 100 ∧ cols.length ≤ 100 ∧ Φ (.nw (.lst ((rows.map (strAt i)).map oS)))
theorem okT_l_at (T : Txt K mg t) : FnOk P w K mg base CX0 1 t.f_l_at t.d_l_at ["_law_columns", "_law_rows_here", "_law_name"] (toSp K st_at46) := by
  refine T.F_l_at.ok sc_l_at (toSp_len (fun B as Φ Ψ h => by obtain ⟨_, _, _, _, rfl, _⟩ := h; rfl)) (fun cdv A outer s H vs Q E hr h => ?_)
  obtain ⟨B, as, Φ, Ψ, rfl, hS, hx, go⟩ := toSp_open h
  obtain ⟨cols, rows, n, i, rfl, hi, hR, hl, hc, φ⟩ := hS
  refine ⟨_, (pss_cons (ps_set (i := 3) sc_l_at.nd rfl (Or.inr rfl) (pe_bm PySem.F.plainAttrs_list PySem.F.slot_list_index PySem.F.type_list_index mt_index (pe_lc rfl (compOk_of (fr := []) (osc := defScope s_l_at) (N := ["_law_columns", "_law_rows_here", "_law_name", "_law_at_here"]) rfl rfl (by decide +kernel)) (pi_list (pv 0)) (fun _ _ _ _ _ => (pe_ix (r := rIxT B.K) ix_tup (pv 0) pe_int (fun _ _ => rfl)))) (pa_cons (pv 2) pa_nil)))
  (pss_one (ps_ret (pe_lc rfl (compOk_of (fr := [("_law_at_here", 3)]) (osc := defScope s_l_at) (N := ["_law_columns", "_law_rows_here", "_law_name", "_law_at_here"]) rfl rfl (by decide +kernel)) (pi_list (pv 1)) (fun _ _ _ _ _ => (pe_ix (r := rIxT B.K) ix_tup (pv 0) (pv 1) (fun _ _ => rfl))))))), go _ _ (s_go (τ := [.fz _, .fz _, .fz _, .no]) rfl ?_)⟩
  walk_at "trun"
  refine e_lc (i_list rfl ?_)
  walk_at "trun"
  refine ⟨[], .nil, by rw [List.length_map]; omega, fun j o => ∃ c, cols[j]? = some c ∧ o = .str c.1, fun j tt ht => ?_, fun os hl2 ho => ?_⟩
  · obtain ⟨c, hc', rfl⟩ := of_map_at ht
    unfold colT
    walk_at "trun"
    exact ⟨c, hc', rfl⟩
  rw [lc_map (xs := cols) (f := fun c => .str c.1) (by rw [hl2, List.length_map]) ho, show (cols.map fun c => Tr.str c.1) = (cols.map (·.1)).map Tr.str by rw [List.map_map]; rfl]
  walk_at "trun"
  refine rm_index rfl Rk.fz (show ixS (cols.map (·.1)) n = some i from hi) ?_
  walk_at "trun"
  refine e_lc (i_list rfl ?_)
  walk_at "trun"
  refine ⟨[.fz (.int (i : Nat))], by repeat (first | exact .nil | refine .fz (by walk_at "tg") ?_), by rw [List.length_map]; omega, fun j o => ∃ r, rows[j]? = some r ∧ o = oS (strAt i r), fun j tt ht => ?_, fun os hl3 ho => ?_⟩
  · obtain ⟨r, hr2, rfl⟩ := of_map_at ht
    walk_at "trun"
    refine ro_ixT rfl Rk.fz (atI_nat (at_is (hR r (List.mem_of_getElem? hr2)))) ?_
    walk_at "trun"
    exact ⟨r, hr2, rfl⟩
  rw [lc_map (xs := rows) (f := fun r => oS (strAt i r)) (by rw [hl3, List.length_map]) ho, show (rows.map fun r => oS (strAt i r)) = (rows.map (strAt i)).map oS by rw [List.map_map]; rfl]
  walk_at "trun"
  exact rt_nw φ
theorem roomV_L {c : Chn} {i : Nat} {rows : List (List Tr)} {m : Nat} : roomV c i rows m = roomL (wordsV c.2 (cellsV i rows)) m := rfl
theorem cells_id {i : Nat} {rows : List (List Tr)} : (rows.map (strAt i)).filterMap id = cellsV i rows := by
  rw [List.filterMap_map]; rfl
theorem inV_non {ws : List Str} : inV .non (ws.map V.str) = false := inV_strs (o := none)
noncomputable def optIn (ws : List Str) : Option Str → Bool
  | some z => decide (z ∈ ws)
  | none => false
theorem ro_inO {K : PySem.W.Frag} {B : Bk} {τ : TSt} {Φ : TK} {y : Kd} {o : Option Str} {ws : List Str} (hK : K = B.K) (r2 : Rk τ y (.lst (ws.map Tr.str)) ∨ Rk τ y (.tup (ws.map Tr.str))) (q : Φ (.fz (.bl (optIn ws o))) τ) : RO B (rIn K false) (.fz (oS o)) y τ Φ := by
  cases o with
  | some z =>
    rcases r2 with r2 | r2
    · exact ro_in hK r2 q
    · exact ro_inT hK r2 q
  | none =>
    intro σ F H v w Q r a b c
    subst hK
    cases (show Is B.K F v .non from a)
    rcases r2 with r2 | r2
    · obtain ⟨p, vs, rfl, s, l⟩ := r2.list r b
      rw [l.strs] at s
      refine ⟨p, _, rfl, .inl s, rfl, flat_str, ?_⟩
      rw [inV_non]; exact c.pl r .bl q
    · obtain ⟨p, vs, rfl, s, l⟩ := r2.tuple r b
      rw [l.strs] at s
      refine ⟨p, _, rfl, .inr s, rfl, flat_str, ?_⟩
      rw [inV_non]; exact c.pl r .bl q
theorem rows_filt {rows : List (List Tr)} {p : List Tr → Bool} {os : List (Option Tr)} (hl : os.length = rows.length) (h : ∀ (j : Nat) (o : Option Tr), os[j]? = some o → ∃ r, rows[j]? = some r ∧ o = if p r = true then some (Tr.tup r) else none) : os.filterMap id = (rows.filter p).map Tr.tup := by
  induction rows generalizing os with
  | nil => rw [List.eq_nil_of_length_eq_zero hl]; rfl
  | cons r rows ih =>
    cases os with
    | nil => simp at hl
    | cons o os =>
      obtain ⟨r', e, ho⟩ := h 0 o rfl
      cases e
      have ih := ih (os := os) (by simpa using hl) fun j o hj => h (j + 1) o hj
      rw [List.filterMap_cons, ho, List.filter_cons]
      cases hb : p r with
      | true => rw [if_pos rfl, if_pos rfl]; show Tr.tup r :: os.filterMap id = _; rw [ih]; rfl
      | false => rw [if_neg Bool.false_ne_true, if_neg Bool.false_ne_true]; exact ih
noncomputable def facW : Option (List Str) → List Str
  | some ws => ws
  | none => ["no space"]
theorem ro_orl {B : Bk} {τ : TSt} {Φ : TK} {x y : Kd} {r1 r2 : R2} (h : RO B r1 x y τ Φ) : RO B (fun x y H Q => r1 x y H Q ∨ r2 x y H Q) x y τ Φ := fun σ F H v w Q r a b c => .inl (h σ F H v w Q r a b c)
theorem ro_orr {B : Bk} {τ : TSt} {Φ : TK} {x y : Kd} {r1 r2 : R2} (h : RO B r2 x y τ Φ) : RO B (fun x y H Q => r1 x y H Q ∨ r2 x y H Q) x y τ Φ := fun σ F H v w Q r a b c => .inr (h σ F H v w Q r a b c)
noncomputable def st_due46 : SpT := fun _ as Φ _ => ∃ (tl : Tel) (cols : List Col) (rows : List (List Tr)), as = [.fz (fctT tl.fct), .fz (clrT tl.clr), .fz (.lst (cols.map colT)), .fz (.lst (rows.map Tr.tup))] ∧ TelOk tl cols rows ∧ cols.length ≤ 100 ∧ (∀ c, tl.fct = some c → WOk c.2) ∧ (∀ c, tl.clr = .ord c → WOk c.2) ∧ Φ (.nw (.lst [spT (facV tl cols rows), spT (ranksV tl cols rows)]))
theorem okT_l_due (T : Txt K mg t) : FnOk P w K mg base CX0 2 t.f_l_due t.d_l_due ["_law_facet", "_law_colour", "_law_columns", "_law_rows_here"] (toSp K st_due46) := by
  have G_l_at := okT_l_at (P := P) (w := w) (base := base) T
  have G_l_first := okT_l_first (P := P) (w := w) (base := base) T
  refine T.F_l_due.ok sc_l_due (toSp_len (fun B as Φ Ψ h => by obtain ⟨_, _, _, rfl, _⟩ := h; rfl)) (fun cdv A outer s H vs Q E hr h => ?_)
  obtain ⟨B, as, Φ, Ψ, rfl, hS, hx, go⟩ := toSp_open h
  obtain ⟨tl, cols, rows, rfl, oT, hc, hwf, hwc, φ⟩ := hS
  have on := oT.n
  refine ⟨_, (pss_cons (ps_set (i := 4) sc_l_due.nd rfl (Or.inr rfl) (pe_lst (pa_cons pe_str pa_nil)))
  (pss_cons (ps_set (i := 5) sc_l_due.nd rfl (Or.inl rfl) (pv 3))
  (pss_cons (ps_if (pt_cmpR op_notN' (pv 0) pe_non (nomark _)) (pss_cons (ps_set (i := 6) sc_l_due.nd rfl (Or.inl rfl) (pe_call G_l_at (hr.mono (by decide)) rfl T.m_l_at T.k_l_at T.b_l_at .nil pass0 (pa_cons (pv 2) (pa_cons (pv 3) (pa_cons (pe_ix ix_tup (pv 0) pe_int (fun _ _ => rfl)) pa_nil)))))
  (pss_cons (ps_set (i := 4) sc_l_due.nd rfl (Or.inr rfl) (pe_call G_l_first (hr.mono (by decide)) rfl T.m_l_first T.k_l_first T.b_l_first .nil pass0 (pa_cons (pe_ix ix_tup (pv 0) pe_int (fun _ _ => rfl)) (pa_cons (pv 6) (pa_cons pe_int pa_nil)))))
  (pss_one (ps_setLCPIf (iy := 5) sc_l_due.nd rfl (Or.inl rfl) (fr := [("_law_facets", 4)]) rfl (compOkG2_of (osc := defScope s_l_due) (N := ["_law_facet", "_law_colour", "_law_columns", "_law_rows_here", "_law_facets", "_law_inner", "_law_cells"]) rfl rfl (by decide +kernel) (by decide +kernel) (by decide)) (pi_zip rfl T.z_zip (pa_cons (pv 3) (pa_cons (pv 6) pa_nil))) (fun _ _ _ _ _ => (pt_cmpR (r := rIn B.K false) op_in_seq (pv 1) (pv 2) rfl)) (fun _ _ _ _ _ => (pv 0)))))) pss_nil)
  (pss_cons (ps_if (PW.pt (pw_or (pt_cmpR op_isN' (pv 1) pe_non (nomark _)) (pw_or1 (pt_cmpR op_ne (pe_ix ix_tup (pe_ix ix_tup (pv 1) pe_int (fun _ _ => rfl)) pe_int (fun _ _ => rfl)) pe_str (nomark _))))) (pss_one (ps_ret (pe_lst (pa_cons (pv 4) (pa_cons (pe_lst pa_nil) pa_nil))))) pss_nil)
  (pss_cons (ps_if (pt_cmpR ((op_eqA hr.un150).or (op_eqLT hr.units0)) (pv 4) (pe_tup (pa_cons pe_str pa_nil)) (nomark _)) (pss_one (ps_ret (pe_lst (pa_cons (pv 4) (pa_cons (pv 4) pa_nil))))) pss_nil)
  (pss_one (ps_ret (pe_lst (pa_cons (pv 4) (pa_cons (pe_call G_l_first (hr.mono (by decide)) rfl T.m_l_first T.k_l_first T.b_l_first .nil pass0 (pa_cons (pe_ix ix_tup (pv 1) pe_int (fun _ _ => rfl)) (pa_cons (pe_call G_l_at (hr.mono (by decide)) rfl T.m_l_at T.k_l_at T.b_l_at .nil pass0 (pa_cons (pv 2) (pa_cons (pv 5) (pa_cons (pe_ix ix_tup (pv 1) pe_int (fun _ _ => rfl)) pa_nil)))) (pa_cons pe_int pa_nil)))) pa_nil)))))))))), go _ _ (s_go (τ := [.fz _, .fz _, .fz _, .fz _, .no, .no, .no]) rfl ?_)⟩
  walk_at "trunI"
  refine s_cut (fun τ' => ∃ (u6 : Sl), τ' = [.fz (fctT tl.fct), .fz (clrT tl.clr), .fz (.lst (cols.map colT)), .fz (.lst (rows.map Tr.tup)), .fz (spT (facV tl cols rows)), .fz (.lst ((rowsIn tl cols rows (facW (facV tl cols rows))).map Tr.tup)), u6] ∨ (∃ ws, facV tl cols rows = some ws ∧ τ' = [.fz (fctT tl.fct), .fz (clrT tl.clr), .fz (.lst (cols.map colT)), .fz (.lst (rows.map Tr.tup)), .own (spT (some ws)), .fz (.lst ((rowsIn tl cols rows (facW (facV tl cols rows))).map Tr.tup)), u6]) ∨ τ' = [.fz (fctT tl.fct), .fz (clrT tl.clr), .fz (.lst (cols.map colT)), .fz (.lst (rows.map Tr.tup)), .fz (spT (facV tl cols rows)), .own (.lst ((rowsIn tl cols rows (facW (facV tl cols rows))).map Tr.tup)), u6]) ?_ ?_
  · cases hf : tl.fct with
    | none =>
      have eV : facV tl cols rows = some ([("" : Str)]) := by unfold facV; rw [hf]
      have eR : rowsIn tl cols rows (facW (facV tl cols rows)) = rows := by unfold rowsIn; rw [hf]
      rw [eR, eV, show fctT none = Tr.non from rfl]
      walk_at "trun"
      exact ⟨_, .inr (.inl ⟨_, rfl, rfl⟩)⟩
    | some c =>
      have oc := oT.f c hf
      have eV : facV tl cols rows = roomV c (plc cols c.1) rows 12 := by unfold facV; rw [hf]
      have eR : rowsIn tl cols rows (facW (facV tl cols rows)) = rows.filter (inB (facW (facV tl cols rows)) (plc cols c.1)) := by unfold rowsIn; rw [hf]
      rw [eR, eV, show fctT (some c) = Tr.tup [.str c.1, wshO c.2] from rfl]
      walk_at "trun"
      intro _ _
      refine ⟨cols, rows, c.1, plc cols c.1, rfl, oc.1, oc.2, on, hc, ?_⟩
      walk_at "trun"
      intro _ _
      refine ⟨c.2, rows.map (strAt (plc cols c.1)), 12, rfl, hwf c hf, by rw [List.length_map]; exact on, ?_⟩
      rw [cells_id, ← roomV_L]
      generalize roomV c (plc cols c.1) rows 12 = rm
      walk_at "trun"
      refine e_lcP rfl (i_zip rfl ?_)
      walk_at "trun"
      have zl : (zip2T (rows.map Tr.tup) ((rows.map (strAt (plc cols c.1))).map oS)).length = rows.length := by rw [zip2T_len, List.length_map, List.length_map, List.length_map, Nat.min_self]
      refine ⟨_, rows.map Tr.tup, _, (rows.map (strAt (plc cols c.1))).map oS, rfl, rfl, [.fz (spT rm)], by repeat (first | exact .nil | refine .fz (by walk_at "tg") ?_), by rw [zl]; omega, fun j o => ∃ r, rows[j]? = some r ∧ o = if inB (facW rm) (plc cols c.1) r = true then some (.tup r) else none, fun j tt ht => ?_, fun os hl2 ho => ?_⟩
      · obtain ⟨x, y, ex, ey, rfl⟩ := zip2T_at _ _ j tt ht
        obtain ⟨r, hr2, rfl⟩ := of_map_at ex
        obtain ⟨o, ho2, rfl⟩ := of_map_at ey
        rw [List.getElem?_map, hr2] at ho2
        have ho2 : strAt (plc cols c.1) r = o := Option.some.inj ho2
        refine ⟨_, _, rfl, ?_⟩
        walk_at "trun"
        refine ro_inO (o := o) (ws := facW rm) rfl (by cases rm with | none => exact .inr Rk.fz | some ws => exact .inl Rk.fz) ?_
        walk_at "trun"
        have eb : optIn (facW rm) o = inB (facW rm) (plc cols c.1) r := by rw [← ho2]; rfl
        rw [eb]
        cases hb : inB (facW rm) (plc cols c.1) r with
        | true =>
          refine iteT ?_
          walk_at "trun"
          exact ⟨r, hr2, by rw [hb]; rfl⟩
        | false =>
          refine iteF ?_
          exact ⟨r, hr2, by rw [hb]; rfl⟩
      · rw [rows_filt (by rw [hl2, zl]) ho]
        walk_at "trun"
        exact ⟨_, .inr (.inr rfl)⟩
  rintro τ' ⟨u6, h⟩
  have hN : ∀ o, o = facV tl cols rows → ∀ t ∈ [Tr.str "no space"], Dp 1 t := fun _ _ t ht => by rw [List.mem_singleton.mp ht]; exact .str
  cases hc2 : tl.clr with
  | no =>
    have eV : ranksV tl cols rows = some [] := by unfold ranksV; rw [hc2]
    rw [eV] at φ
    rw [hc2, show clrT .no = Tr.non from rfl] at h
    rcases h with rfl | ⟨ws, hws, rfl⟩ | rfl
    · walk_at "trun"
      exact rt_nw φ
    · rw [hws] at φ
      walk_at "trun"
      exact rt_nw φ
    · walk_at "trun"
      exact rt_nw φ
  | oth n =>
    have eV : ranksV tl cols rows = some [] := by unfold ranksV; rw [hc2]
    rw [eV] at φ
    rw [hc2, show clrT (.oth n) = Tr.tup [.str n, .tup [.str "straight"]] from rfl] at h
    rcases h with rfl | ⟨ws, hws, rfl⟩ | rfl
    · walk_at "trun"
      refine ite_f (by decide) ?_
      walk_at "trun"
      exact rt_nw φ
    · rw [hws] at φ
      walk_at "trun"
      refine ite_f (by decide) ?_
      walk_at "trun"
      exact rt_nw φ
    · walk_at "trun"
      refine ite_f (by decide) ?_
      walk_at "trun"
      exact rt_nw φ
  | ord c =>
    have oc := oT.c c hc2
    have eV : ranksV tl cols rows = (facV tl cols rows).bind fun ws => roomV c (plc cols c.1) (rowsIn tl cols rows ws) 60 := by unfold ranksV; rw [hc2]
    rw [eV] at φ
    rw [hc2, show clrT (.ord c) = Tr.tup [.str c.1, wshO c.2] from rfl] at h
    have hw1 : ∃ r1, wshO c.2 = Tr.tup (.str "order" :: r1) := by cases c.2 <;> exact ⟨_, rfl⟩
    obtain ⟨r1, hw1⟩ := hw1
    have a0 : atI (Tr.str "order" :: r1) 0 = some (.str "order") := atI_nat (j := 0) rfl
    have hsub : ∀ ws, ∀ r ∈ rowsIn tl cols rows ws, r ∈ rows := fun ws r hr => rowsIn_sub.1 r hr
    have hlen : ∀ ws, (rowsIn tl cols rows ws).length ≤ 100 := fun ws => Nat.le_trans rowsIn_sub.2 on
    rcases h with rfl | ⟨ws, hws, rfl⟩ | rfl
    · walk_at "trun"
      rw [hw1]
      refine ro_ixT rfl Rk.fz a0 ?_
      walk_at "trun"
      refine ite_t (by decide) ?_
      rw [← hw1]
      cases hfv : facV tl cols rows with
      | none =>
        rw [hfv] at φ
        walk_at "trun"
        refine ro_orl (ro_alkT rfl (hN _ rfl) (by omega) Rk.fz Rk.fz ?_)
        walk_at "trun"
        exact rt_nw φ
      | some ws =>
        rw [hfv] at φ
        walk_at "trun"
        refine ro_orr (ro_eqLT rfl Rk.fz Rk.fz ?_)
        walk_at "trun"
        intro _ _
        refine ⟨cols, rowsIn tl cols rows ws, c.1, plc cols c.1, rfl, oc.1, fun r hr => oc.2 r (hsub ws r hr), hlen ws, hc, ?_⟩
        walk_at "trun"
        intro _ _
        refine ⟨c.2, (rowsIn tl cols rows ws).map (strAt (plc cols c.1)), 60, rfl, hwc c hc2, by rw [List.length_map]; exact hlen ws, ?_⟩
        rw [cells_id, ← roomV_L]
        walk_at "trun"
        exact rt_nw φ
    · rw [hws] at φ ⊢
      walk_at "trun"
      rw [hw1]
      refine ro_ixT rfl Rk.fz a0 ?_
      walk_at "trun"
      refine ite_t (by decide) ?_
      rw [← hw1]
      walk_at "trun"
      refine ro_orr (ro_eqLT (ts := ws.map Tr.str) rfl (by walk_at "rk") Rk.fz ?_)
      walk_at "trun"
      intro _ _
      refine ⟨cols, rowsIn tl cols rows ws, c.1, plc cols c.1, rfl, oc.1, fun r hr => oc.2 r (hsub ws r hr), hlen ws, hc, ?_⟩
      walk_at "trun"
      intro _ _
      refine ⟨c.2, (rowsIn tl cols rows ws).map (strAt (plc cols c.1)), 60, rfl, hwc c hc2, by rw [List.length_map]; exact hlen ws, ?_⟩
      rw [cells_id, ← roomV_L]
      walk_at "trun"
      exact rt_nw φ
    · walk_at "trun"
      rw [hw1]
      refine ro_ixT rfl Rk.fz a0 ?_
      walk_at "trun"
      refine ite_t (by decide) ?_
      rw [← hw1]
      cases hfv : facV tl cols rows with
      | none =>
        rw [hfv] at φ
        walk_at "trun"
        refine ro_orl (ro_alkT rfl (hN _ rfl) (by omega) Rk.fz Rk.fz ?_)
        walk_at "trun"
        exact rt_nw φ
      | some ws =>
        rw [hfv] at φ
        walk_at "trun"
        refine ro_orr (ro_eqLT rfl Rk.fz Rk.fz ?_)
        walk_at "trun"
        intro _ _
        refine ⟨cols, rowsIn tl cols rows ws, c.1, plc cols c.1, rfl, oc.1, fun r hr => oc.2 r (hsub ws r hr), hlen ws, hc, ?_⟩
        walk_at "trun"
        intro _ _
        refine ⟨c.2, (rowsIn tl cols rows ws).map (strAt (plc cols c.1)), 60, rfl, hwc c hc2, by rw [List.length_map]; exact hlen ws, ?_⟩
        rw [cells_id, ← roomV_L]
        walk_at "trun"
        exact rt_nw φ
noncomputable def Cl (t : Tr) : Prop := (∃ o : Option Str, t = oS o) ∨ ∃ i : Int, t = .tup [.int i, .int 1]
noncomputable def st_rows46 : SpT := fun _ as Φ _ => ∃ (ns : List Int) (tl : Tel) (cols : List Col) (nms : List Str), as = [.fz (.lst (ns.map Tr.int)), .fz (fctT tl.fct), .fz (clrT tl.clr), .fz (.lst (cols.map colT)), .fz (.lst (nms.map Tr.str))] ∧ ns.length ≤ 63 ∧ (∀ x ∈ ns, My.Bd 1048576 x) ∧ nms.length = 5 ∧ cols.length ≤ 10 ∧ (∀ c, tl.fct = some c → some c.1 = nms[0]? ∧ ixOf (cols.map (·.1)) c.1 = some (plc cols c.1) ∧ WOk c.2) ∧ (∀ c, tl.clr = .ord c → some c.1 = nms[1]? ∧ ixOf (cols.map (·.1)) c.1 = some (plc cols c.1) ∧ WOk c.2) ∧ ∀ rows : List (List Tr), rows.length ≤ 60 → TelOk tl cols rows → (∀ r ∈ rows, r.length = cols.length ∧ ∀ t ∈ r, Cl t) → Φ (.nw (.lst (rows.map Tr.tup)))
theorem somes_of {R : Nat → Tr → Prop} {os : List (Option Tr)} (h : ∀ (j : Nat) (o : Option Tr), os[j]? = some o → ∃ t, o = some t ∧ R j t) : (os.filterMap id).length = os.length ∧ ∀ (j : Nat) (t : Tr), (os.filterMap id)[j]? = some t → R j t := by
  induction os generalizing R with
  | nil => exact ⟨rfl, fun j t e => by simp at e⟩
  | cons o os ih =>
    obtain ⟨t, rfl, ht⟩ := h 0 o rfl
    have ih := ih (R := fun j t => R (j + 1) t) fun j o e => h (j + 1) o e
    rw [show (some t :: os).filterMap id = t :: os.filterMap id from rfl]
    refine ⟨by rw [List.length_cons, List.length_cons, ih.1], fun j t' e => ?_⟩
    cases j with
    | zero => cases e; exact ht
    | succ j => exact ih.2 j t' e
theorem ix_col {cols : List Col} {n : Str} {i : Nat} (h : ixOf (cols.map (·.1)) n = some i) : ∃ c, cols[i]? = some c ∧ c.1 = n := by
  unfold ixOf at h
  rw [List.findIdx?_eq_some_iff_getElem] at h
  obtain ⟨hi, p, _⟩ := h
  rw [List.length_map] at hi
  refine ⟨cols[i], List.getElem?_eq_getElem hi, ?_⟩
  rw [List.getElem_map] at p
  exact of_decide_eq_true p
noncomputable def Full (cols : List Col) (n : Nat) (kvs : List (Key × Tr)) : Prop := ∀ m c, m < n → cols[m]? = some c → ∃ t, valT kvs (.inr c.1) = some t ∧ Cl t
theorem Full.put {cols : List Col} {n : Nat} {kvs : List (Key × Tr)} (h : Full cols n kvs) {z : Str} {t : Tr} (ht : Cl t) : Full cols n (putT kvs (.inr z) t) := fun m c hm hc => by
  obtain ⟨t', e, h'⟩ := h m c hm hc
  rw [valT_put]
  split
  · exact ⟨t, rfl, ht⟩
  · exact ⟨t', e, h'⟩
theorem Full.next {cols : List Col} {n : Nat} {kvs : List (Key × Tr)} (h : Full cols n kvs) {c : Col} {t : Tr} (hc : cols[n]? = some c) (ht : Cl t) : Full cols (n + 1) (putT kvs (.inr c.1) t) := fun m c' hm hc' => by
  rcases Nat.lt_or_ge m n with h1 | h1
  · exact h.put ht m c' h1 hc'
  · have : m = n := by omega
    subst this
    rw [hc] at hc'
    cases hc'
    exact ⟨t, by rw [valT_put, if_pos rfl], ht⟩
noncomputable def Held (kvs : List (Key × Tr)) (n : Str) : Prop := ∃ o : Option Str, valT kvs (.inr n) = some (oS o)
theorem Held.put {kvs : List (Key × Tr)} {n z : Str} {o : Option Str} (h : Held kvs n) : Held (putT kvs (.inr z) (oS o)) n := by
  obtain ⟨o', e⟩ := h
  unfold Held
  rw [valT_put]
  split
  · exact ⟨o, rfl⟩
  · exact ⟨o', e⟩
theorem Held.new {kvs : List (Key × Tr)} {n : Str} {o : Option Str} : Held (putT kvs (.inr n) (oS o)) n := ⟨o, by rw [valT_put, if_pos rfl]⟩
theorem ch_snoc {cols : List Col} {rows : List (List Tr)} {c : Chn} {r : List Tr} {kvs : List (Key × Tr)} (h : ChOk cols rows c) (hl : r.length = cols.length) (hr : ∀ (j : Nat) (t : Tr), r[j]? = some t → ∃ c, cols[j]? = some c ∧ valT kvs (.inr c.1) = some t ∧ Cl t) (hd : Held kvs c.1) : ChOk cols (rows ++ [r]) c := by
  refine ⟨h.1, fun r' hr' => ?_⟩
  rw [List.mem_append] at hr'
  rcases hr' with hr' | hr'
  · exact h.2 r' hr'
  · rw [List.mem_singleton] at hr'
    subst hr'
    obtain ⟨c0, e0, n0⟩ := ix_col h.1
    obtain ⟨o, eo⟩ := hd
    have hi : plc cols c.1 < r'.length := by
      rw [hl]; exact (List.getElem?_eq_some_iff.mp e0).1
    refine ⟨o, ?_⟩
    rw [List.getElem?_eq_getElem hi]
    obtain ⟨c1, e1, v1, _⟩ := hr _ _ (List.getElem?_eq_getElem hi)
    rw [e0] at e1
    cases e1
    rw [n0, eo] at v1
    exact v1.symm
theorem okT_l_rows (T : Txt K mg t) : FnOk P w K mg base CX0 3 t.f_l_rows t.d_l_rows ["_law_script", "_law_facet", "_law_colour", "_law_columns", "_law_names"] (toSp K st_rows46) := by
  have G_l_draws := okT_l_draws (P := P) (w := w) (base := base) T
  have G_l_cell := okT_l_cell (P := P) (w := w) (base := base) T
  refine T.F_l_rows.ok sc_l_rows (toSp_len (fun B as Φ Ψ h => by obtain ⟨_, _, _, _, rfl, _⟩ := h; rfl)) (fun cdv A outer s H vs Q E hr h => ?_)
  obtain ⟨B, as, Φ, Ψ, rfl, hS, hx, go⟩ := toSp_open h
  obtain ⟨ns, tl, cols, nms, rfl, hn, hb, hm, hc, hf, hcl, φ⟩ := hS
  refine ⟨_, (pss_cons (ps_set (i := 5) sc_l_rows.nd rfl (Or.inl rfl) (pe_lst pa_nil))
  (pss_cons (ps_for PassesOwn.never rfl (pi_range2 rfl T.z_range (pa_cons pe_int (pa_cons (pe_callB (call_min2 rfl) rfl T.z_min bt_min (pa_cons (pe_callB call_len_seq rfl T.z_len PySem.boot_len (pa_cons (pv 0) pa_nil)) (pa_cons pe_int pa_nil))) pa_nil))) (pg_name (i := 6) sc_l_rows.nd rfl (Or.inl rfl)) (pss_cons (ps_set (i := 7) sc_l_rows.nd rfl (Or.inl rfl) (pe_call G_l_draws (hr.mono (by decide)) rfl T.m_l_draws T.k_l_draws T.b_l_draws .nil pass0 (pa_cons (pv 0) (pa_cons (pv 6) (pa_cons pe_int pa_nil)))))
  (pss_cons (ps_set (i := 8) sc_l_rows.nd rfl (Or.inr rfl) pe_dnewK)
  (pss_cons (ps_for PassesOwn.never rfl (pi_list (pv 3)) (pg_tup rfl (pgs_cons (pg_name (i := 9) sc_l_rows.nd rfl (Or.inl rfl)) (pgs_cons (pg_name (i := 10) sc_l_rows.nd rfl (Or.inl rfl)) pgs_nil))) (pss_one (ps_dput (by have := hr.un150; exact Nat.lt_of_le_of_lt (Nat.add_le_add_left (by decide) _) this) (pv 8) (pv 9) (pe_ix ix_list (pe_lst (pa_cons (pe_tup (pa_cons (pe_op op_mod (pe_ix ix_list (pv 7) pe_int (fun _ _ => rfl)) pe_int) (pa_cons pe_int pa_nil))) (pa_cons pe_str pa_nil))) (pe_callTy call_int1 rfl T.z_int bt_int (pa_cons (pe_cmpR op_eq (pv 10) pe_str (nomark _)) pa_nil)) (fun _ _ => rfl)) rfl)))
  (pss_cons (ps_if (pt_cmpR op_notN' (pv 1) pe_non (nomark _)) (pss_one (ps_dput (by have := hr.un150; exact Nat.lt_of_le_of_lt (Nat.add_le_add_left (by decide) _) this) (pv 8) (pe_ix ix_list (pv 4) pe_int (fun _ _ => rfl)) (pe_call G_l_cell (hr.mono (by decide)) rfl T.m_l_cell T.k_l_cell T.b_l_cell .nil pass0 (pa_cons (pe_ix ix_tup (pv 1) pe_int (fun _ _ => rfl)) (pa_cons (pe_slice sl_list (pv 7) (po_some pe_int) (po_some pe_int)) pa_nil))) rfl)) pss_nil)
  (pss_cons (ps_if (PW.pt (pw_and (pt_cmpR op_notN' (pv 2) pe_non (nomark _)) (pw_and1 (pt_cmpR op_eq (pe_ix ix_tup (pe_ix ix_tup (pv 2) pe_int (fun _ _ => rfl)) pe_int (fun _ _ => rfl)) pe_str (nomark _))))) (pss_one (ps_dput (by have := hr.un150; exact Nat.lt_of_le_of_lt (Nat.add_le_add_left (by decide) _) this) (pv 8) (pe_ix ix_list (pv 4) pe_int (fun _ _ => rfl)) (pe_call G_l_cell (hr.mono (by decide)) rfl T.m_l_cell T.k_l_cell T.b_l_cell .nil pass0 (pa_cons (pe_ix ix_tup (pv 2) pe_int (fun _ _ => rfl)) (pa_cons (pe_slice sl_list (pv 7) (po_some pe_int) (po_some pe_int)) pa_nil))) rfl)) pss_nil)
  (pss_one (ps_expr (pe_bm PySem.F.plainAttrs_list PySem.F.slot_list_append PySem.F.type_list_append mt_append (pv 5) (pa_cons (pe_callTy call_tuple_of rfl T.z_tuple bt_tuple (pa_cons (pe_lcP (fr := [("_law_cells", 8)]) rfl (compOkG2_of (osc := defScope s_l_rows) (N := ["_law_script", "_law_facet", "_law_colour", "_law_columns", "_law_names", "_law_rows_here", "_law_k", "_law_d", "_law_cells", "_law_name", "_law_kind"]) rfl rfl (by decide +kernel) (by decide +kernel) (by decide)) (pi_list (pv 3)) (fun _ _ _ _ _ => (pe_dget (by have := hr.un150; exact Nat.lt_of_le_of_lt (Nat.add_le_add_left (by decide) _) this) (pv 2) (pv 0) (fun _ _ => rfl)))) pa_nil)) pa_nil))))))))))
  (pss_one (ps_ret (pv 5))))), go _ _ (s_go (τ := [.fz _, .fz _, .fz _, .fz _, .fz _, .no, .no, .no, .no, .no, .no]) rfl ?_)⟩
  walk_at "trun"
  have hL : (if 61 < ((ns.map Tr.int).length : Int) then (61 : Int) else ((ns.map Tr.int).length : Int)) ≤ 61 ∧ 0 ≤ (if 61 < ((ns.map Tr.int).length : Int) then (61 : Int) else ((ns.map Tr.int).length : Int)) := by split <;> omega
  generalize (if 61 < ((ns.map Tr.int).length : Int) then (61 : Int) else ((ns.map Tr.int).length : Int)) = L at hL ⊢
  refine ⟨⟨by decide, by decide, by omega, by omega⟩, fun i τ => ∃ (rows : List (List Tr)) (u6 u7 u8 u9 u10 : Sl), τ = [.fz (.lst (ns.map Tr.int)), .fz (fctT tl.fct), .fz (clrT tl.clr), .fz (.lst (cols.map colT)), .fz (.lst (nms.map Tr.str)), .own (.lst (rows.map Tr.tup)), u6, u7, u8, u9, u10] ∧ rows.length = i ∧ TelOk tl cols rows ∧ (∀ r ∈ rows, r.length = cols.length ∧ ∀ t ∈ r, Cl t), ⟨[], _, _, _, _, _, rfl, rfl, ⟨fun c h => ⟨(hf c h).2.1, fun _ h => absurd h List.not_mem_nil⟩, fun c h => ⟨(hcl c h).2.1, fun _ h => absurd h List.not_mem_nil⟩, Nat.zero_le _⟩, fun _ h => absurd h List.not_mem_nil⟩, ?_, ?_⟩
  · rintro i tt τ2 hi ⟨rows, u6, u7, u8, u9, u10, rfl, hr1, oT, hr2⟩
    obtain ⟨hin, rfl⟩ := rangeT_at hi
    walk_at "trun"
    intro _ _
    refine ⟨ns, _, 8, rfl, ⟨by omega, by omega⟩, by decide, fun ds hD => ?_⟩
    have hl : ds.length = 8 := hD.1
    walk_at "trun"
    refine e_dnew ?_
    walk_at "trun"
    refine ⟨fun j τ => ∃ (kvs : List (Key × Tr)) (u9 u10 : Sl), τ = [.fz (.lst (ns.map Tr.int)), .fz (fctT tl.fct), .fz (clrT tl.clr), .fz (.lst (cols.map colT)), .fz (.lst (nms.map Tr.str)), .own (.lst (rows.map Tr.tup)), .fz (.int (1 + i)), .own (.lst (ds.map Tr.int)), .own (.dct kvs), u9, u10] ∧ kvs.length ≤ j ∧ Full cols j kvs, ⟨[], _, _, rfl, Nat.le_refl _, fun m c h => absurd h (Nat.not_lt_zero _)⟩, ?_, ?_⟩
    · rintro j tt τ2 hj ⟨kvs, u9, u10, rfl, hk1, hk2⟩
      obtain ⟨c, hc1, rfl⟩ := of_map_at hj
      have hjl : j < cols.length := (List.getElem?_eq_some_iff.mp hc1).1
      rw [show colT c = Tr.tup [.str c.1, .str c.2] from rfl]
      walk_at "trun"
      refine s_dput ?_
      walk_at "trun"
      obtain ⟨x, ex, hx⟩ : ∃ x, atI [Tr.tup [.int (dg ds 0 % 9), .int 1], .str "a"] (if decide (c.2 = "word") = true then 1 else 0) = some x ∧ Cl x := by
        split
        · exact ⟨_, rfl, .inl ⟨some "a", rfl⟩⟩
        · exact ⟨_, rfl, .inr ⟨_, rfl⟩⟩
      refine ro_ixL rfl Rk.fz ex ?_
      walk_at "trun"
      have pl := putT_len (ts := kvs) (k := .inr c.1) (t := x)
      exact ⟨c.1, 8, kvs, _, rfl, rfl, by walk_at "tg", by omega, by walk_at "ts", _, _, _, rfl, by omega, hk2.next hc1 hx⟩
    · rintro τ2 ⟨kvs, u9, u10, rfl, hk1, hk2⟩
      rw [List.length_map] at hk1 hk2
      walk_at "trunI"
      refine s_cut (fun τ => ∃ (kvs : List (Key × Tr)), τ = [.fz (.lst (ns.map Tr.int)), .fz (fctT tl.fct), .fz (clrT tl.clr), .fz (.lst (cols.map colT)), .fz (.lst (nms.map Tr.str)), .own (.lst (rows.map Tr.tup)), .fz (.int (1 + i)), .own (.lst (ds.map Tr.int)), .own (.dct kvs), u9, u10] ∧ kvs.length ≤ 11 ∧ Full cols cols.length kvs ∧ ∀ c, tl.fct = some c → Held kvs c.1) ?_ ?_
      · cases hft : tl.fct with
        | none =>
          rw [show fctT none = Tr.non from rfl]
          walk_at "trun"
          exact ⟨kvs, rfl, by omega, hk2, nofun⟩
        | some c =>
          rw [show fctT (some c) = Tr.tup [.str c.1, wshO c.2] from rfl]
          obtain ⟨en, _, hw⟩ := hf c hft
          walk_at "trun"
          refine s_dput ?_
          walk_at "trun"
          obtain ⟨es, ee, he⟩ := hD.cut (a := 1) (b := 4) 3 (by decide) (by decide) (by decide)
          rw [ee]
          intro _ _
          refine ⟨c.2, es, rfl, he, hw, fun o => ?_⟩
          walk_at "trun"
          refine ro_ixL rfl (by walk_at "rk") (atI_nat (j := 0) (by rw [List.getElem?_map, ← en]; rfl)) ?_
          walk_at "trun"
          have pl := putT_len (ts := kvs) (k := .inr c.1) (t := oS o)
          exact ⟨c.1, 8, kvs, _, rfl, rfl, by walk_at "tg", by omega, by walk_at "ts", _, rfl, by omega, hk2.put (.inl ⟨o, rfl⟩), fun c' h => by cases h; exact Held.new⟩
      rintro τ2 ⟨kvs, rfl, hk1, hk2, hk3⟩
      walk_at "trunI"
      refine s_cut (fun τ => ∃ (kvs : List (Key × Tr)), τ = [.fz (.lst (ns.map Tr.int)), .fz (fctT tl.fct), .fz (clrT tl.clr), .fz (.lst (cols.map colT)), .fz (.lst (nms.map Tr.str)), .own (.lst (rows.map Tr.tup)), .fz (.int (1 + i)), .own (.lst (ds.map Tr.int)), .own (.dct kvs), u9, u10] ∧ Full cols cols.length kvs ∧ (∀ c, tl.fct = some c → Held kvs c.1) ∧ ∀ c, tl.clr = .ord c → Held kvs c.1) ?_ ?_
      · cases hct : tl.clr with
        | no =>
          rw [show clrT .no = Tr.non from rfl]
          walk_at "trun"
          exact ⟨kvs, rfl, hk2, hk3, nofun⟩
        | oth n =>
          rw [show clrT (.oth n) = Tr.tup [.str n, .tup [.str "straight"]] from rfl]
          walk_at "trun"
          refine ite_f (by decide) ?_
          walk_at "trun"
          exact ⟨kvs, rfl, hk2, hk3, nofun⟩
        | ord c =>
          rw [show clrT (.ord c) = Tr.tup [.str c.1, wshO c.2] from rfl]
          obtain ⟨en, _, hw⟩ := hcl c hct
          have h0 : ∃ r, wshO c.2 = Tr.tup (.str "order" :: r) := by cases c.2 <;> exact ⟨_, rfl⟩
          obtain ⟨r0, h0⟩ := h0
          walk_at "trun"
          rw [h0]
          refine ro_ixT rfl Rk.fz (atI_nat (j := 0) rfl) ?_
          walk_at "trun"
          refine ite_t (by decide) ?_
          walk_at "trun"
          refine s_dput ?_
          walk_at "trun"
          obtain ⟨es, ee, he⟩ := hD.cut (a := 4) (b := 7) 3 (by decide) (by decide) (by decide)
          rw [ee, ← h0]
          intro _ _
          refine ⟨c.2, es, rfl, he, hw, fun o => ?_⟩
          walk_at "trun"
          refine ro_ixL rfl (by walk_at "rk") (atI_nat (j := 1) (by rw [List.getElem?_map, ← en]; rfl)) ?_
          walk_at "trun"
          exact ⟨c.1, 8, kvs, _, rfl, rfl, by walk_at "tg", by omega, by walk_at "ts", _, rfl, hk2.put (.inl ⟨o, rfl⟩), fun c' h => (hk3 c' h).put, fun c' h => by cases h; exact Held.new⟩
      rintro τ2 ⟨kvs, rfl, hk2, hk3, hk4⟩
      walk_at "trun"
      refine e_lcP rfl (i_list rfl ?_)
      walk_at "trun"
      refine ⟨_, .own (by walk_at "tg") .nil, by rw [List.length_map]; omega, fun j o => ∃ t, o = some t ∧ ∃ c : Col, cols[j]? = some c ∧ valT kvs (.inr c.1) = some t ∧ Cl t, fun j tt hj => ?_, fun os hlo hos => ?_⟩
      · obtain ⟨c, hc1, rfl⟩ := of_map_at hj
        obtain ⟨x, ex, hx⟩ := hk2 j c (List.getElem?_eq_some_iff.mp hc1).1 hc1
        refine ⟨.str c.1, .str c.2, rfl, ?_⟩
        walk_at "trun"
        refine e_dget ?_
        walk_at "trun"
        refine ⟨c.1, kvs, x, rfl, Rk.vw (by walk_at "tg"), ex, ?_⟩
        walk_at "trun"
        exact ⟨x, rfl, c, hc1, ex, hx⟩
      obtain ⟨l1, l2⟩ := somes_of hos
      rw [hlo, List.length_map] at l1
      generalize os.filterMap id = r at l1 l2
      have rl : (rows.map Tr.tup).length = rows.length := List.length_map _
      walk_at "trun"
      refine ⟨rows ++ [r], _, _, _, _, _, by rw [List.map_append]; rfl, by rw [List.length_append, hr1]; rfl, ⟨fun c h => ch_snoc (oT.f c h) l1 l2 (hk3 c h), fun c h => ch_snoc (oT.c c h) l1 l2 (hk4 c h), by rw [List.length_append, List.length_singleton]; omega⟩, fun r' hr' => ?_⟩
      rw [List.mem_append] at hr'
      rcases hr' with hr' | hr'
      · exact hr2 r' hr'
      · rw [List.mem_singleton] at hr'
        subst hr'
        refine ⟨l1, fun x hx => ?_⟩
        obtain ⟨j, hj, e⟩ := List.getElem_of_mem hx
        obtain ⟨_, _, _, h⟩ := l2 j x (by rw [List.getElem?_eq_getElem hj, e])
        exact h
  · rintro τ2 ⟨rows, u6, u7, u8, u9, u10, rfl, hr1, oT, hr2⟩
    rw [rangeT_len] at hr1
    walk_at "trun"
    exact rt_sl (by walk_at "tg") (φ rows (by omega) oT hr2)
theorem d_go {B : Bk} {D : Ends} {t : TS} {τ : TSt} {n : Nat} {ts : List Ar} (h : startT n ts = τ) (q : SVD B D t τ) : SVD B D t (startT n ts) := by rw [h]; exact q
theorem plc_in {cols : List Col} {n : Str} (h : n ∈ cols.map (·.1)) : ixOf (cols.map (·.1)) n = some (plc cols n) := by
  unfold plc
  cases e : ixOf (cols.map (·.1)) n with
  | some i => rfl
  | none =>
    unfold ixOf at e
    rw [List.findIdx?_eq_none_iff] at e
    have := e n h
    rw [decide_eq_true rfl] at this
    cases this
theorem ins_mem {α : Type} {xs : List α} {x y : α} {j : Nat} : y ∈ xs.take j ++ x :: xs.drop j ↔ y = x ∨ y ∈ xs := by
  rw [List.mem_append, List.mem_cons]
  have : y ∈ xs ↔ y ∈ xs.take j ∨ y ∈ xs.drop j := by
    conv => lhs; rw [← List.take_append_drop j xs, List.mem_append]
  rw [this]
  constructor
  · rintro (h | h | h)
    · exact .inr (.inl h)
    · exact .inl h
    · exact .inr (.inr h)
  · rintro (h | h | h)
    · exact .inr (.inl h)
    · exact .inl h
    · exact .inr (.inr h)
noncomputable def St46 (H : Hp) (x : V) : Option (List Str) → Prop
  | some ws => ∃ l, x = .ref l ∧ H l = some (.lst (ws.map V.str))
  | none => ∃ p, x = .ref p ∧ H p = some (.tup [.str "no space"])
noncomputable def New46 (H : Hp) (x : V) (o : Option (List Str)) : Prop := ∀ ws, o = some ws → ∀ l, x = .ref l → H l = none
theorem New46.sub {H H' : Hp} {x : V} {o : Option (List Str)} (s : Same H H') (h : New46 H' x o) : New46 H x o := fun ws e l e2 => none_of s (h ws e l e2)
theorem isL_strs {K : PySem.W.Frag} {H : Hp} : ∀ ws : List Str, IsL K H (ws.map V.str) (ws.map Tr.str)
  | [] => .nil
  | _ :: r => .cons .str (isL_strs r)
theorem St46.is {K : PySem.W.Frag} {H : Hp} {x : V} {o : Option (List Str)} (h : St46 H x o) : Is K H x (spT o) := by
  cases o with
  | none =>
    obtain ⟨p, rfl, e⟩ := h
    exact .tup (SqT.of e) (.cons .str .nil)
  | some ws =>
    obtain ⟨l, rfl, e⟩ := h
    exact .lst (SqL.of e) (isL_strs ws)
theorem St46.same {H H' : Hp} {x : V} {o : Option (List Str)} (s : Same H H') (h : St46 H x o) : St46 H' x o := by
  cases o with
  | none =>
    obtain ⟨p, rfl, e⟩ := h
    exact ⟨p, rfl, s _ _ e⟩
  | some ws =>
    obtain ⟨l, rfl, e⟩ := h
    exact ⟨l, rfl, s _ _ e⟩
theorem St46.but {H H' : Hp} {x : V} {o : Option (List Str)} {l : Addr} (s : But l H H') (n : x ≠ .ref l) (h : St46 H x o) : St46 H' x o := by
  cases o with
  | none =>
    obtain ⟨p, rfl, e⟩ := h
    exact ⟨p, rfl, s _ _ (fun z => n (by rw [z])) e⟩
  | some ws =>
    obtain ⟨l', rfl, e⟩ := h
    exact ⟨l', rfl, s _ _ (fun z => n (by rw [z])) e⟩
theorem sp_len {o : Option (List Str)} {ws : List Str} {m : Nat} (h : roomL ws m = o) : ∀ us, o = some us → us.length ≤ m := fun us e => by
  subst e
  unfold roomL at h
  split at h
  · rename_i hh; cases h; exact hh.2
  · cases h
theorem a_space {K : PySem.W.Frag} {t : Adr} {H : Hp} {Q : VK} {E : XK} (b : Bool) {v u r : V} {tl : Tel} {cols : List Col} {rows : List (List Tr)} (hv : Is K H v tl.tr) (hu : Is K H u (.lst (cols.map colT))) (hr : Is K H r (.lst (rows.map Tr.tup))) (oT : TelOk tl cols rows) (q : ∀ x H', Same H H' → New46 H x (RS b tl cols rows) → St46 H' x (RS b tl cols rows) → Q x H') : sp_space K t [.ref (fdS t b), v, u, r] H Q E :=
  ⟨b, v, u, r, tl, cols, rows, rfl, hv, hu, hr, oT, fun ws e l H' s n h => q _ H' s (fun _ _ l' e' => by cases e'; exact n) (by rw [e]; exact ⟨l, rfl, h⟩), fun e p H' s h => q _ H' s (fun ws e' => by rw [e] at e'; cases e') (by rw [e]; exact ⟨p, rfl, h⟩)⟩
theorem alkL {K : PySem.W.Frag} {H : Hp} {p q : Addr} {xs ys : List V} {ts : List Tr} {n : Nat} (hp : SqL K H p xs) (hq : SqL K H q ys) (ix : IsL K H xs ts) (iy : IsL K H ys ts) (hn : n ≤ 100) (d : ∀ t ∈ ts, Dp n t) : AlikeS K H p q :=
  ⟨n, xs, ys, hn, .inr ⟨hp, hq⟩, by rw [ix.length, iy.length], fun j x y hx hy => by
    obtain ⟨a, ha, ia⟩ := ix.get2 hx
    obtain ⟨b, hb, ib⟩ := iy.get2 hy
    rw [ha] at hb
    cases hb
    exact alike_of (d a (List.mem_of_getElem? ha)) (Same.refl _) (Same.refl _) ia ib⟩
theorem sp_dp (o : Option (List Str)) : Dp 5 (spT o) := by
  cases o with
  | none => exact .tup (dp_cons .str dp_nil)
  | some ws => exact .lst fun t ht => by obtain ⟨z, _, rfl⟩ := List.mem_map.mp ht; exact .str
theorem rows_dp {rows : List (List Tr)} (h : ∀ r ∈ rows, ∀ t ∈ r, Cl t) : Dp 5 (.lst (rows.map Tr.tup)) := .lst fun t ht => by
  obtain ⟨r, hr, rfl⟩ := List.mem_map.mp ht
  refine .tup fun t ht => ?_
  rcases h r hr t ht with ⟨o, rfl⟩ | ⟨i, rfl⟩
  · cases o with
    | none => exact .non
    | some z => exact .str
  · exact .tup (dp_cons .int (dp_cons .int dp_nil))
theorem cols_dp (cols : List Col) : Dp 5 (.lst (cols.map colT)) := .lst fun t ht => by
  obtain ⟨c, _, rfl⟩ := List.mem_map.mp ht
  exact .tup (dp_cons .str (dp_cons .str dp_nil))
theorem ins_map {α β : Type} {f : α → β} {xs : List α} {x : α} {j : Nat} : (xs.take j ++ x :: xs.drop j).map f = (xs.map f).take j ++ f x :: (xs.map f).drop j := by
  rw [List.map_append, List.map_take, List.map_cons, List.map_drop]
theorem fac_len {tl : Tel} {cols : List Col} {rows : List (List Tr)} {o : Option (List Str)} (h : facV tl cols rows = o) : ∀ us, o = some us → us.length ≤ 60 := fun us e => by
  unfold facV at h
  split at h
  · rw [← h] at e; cases e; decide
  · rw [roomV_L] at h
    exact Nat.le_trans (sp_len h us e) (by decide)
theorem rank_len {tl : Tel} {cols : List Col} {rows : List (List Tr)} {o : Option (List Str)} (h : ranksV tl cols rows = o) : ∀ us, o = some us → us.length ≤ 60 := fun us e => by
  unfold ranksV at h
  split at h
  · cases hf : facV tl cols rows with
    | none => rw [hf] at h; rw [← h] at e; cases e
    | some ws =>
      rw [hf] at h
      exact sp_len h us e
  · rw [← h] at e; cases e; exact Nat.zero_le _
theorem ok_law (T : Txt K mg t) : FnOk P w K mg base CX0 8 t.f_law t.d_law ["_law_script"] (sp_law K) := by
  have G_l_draws := okT_l_draws (P := P) (w := w) (base := base) T
  have G_l_word := okT_l_word (P := P) (w := w) (base := base) T
  have G_l_channel_by := okT_l_channel_by (P := P) (w := w) (base := base) T
  have G_l_rows := okT_l_rows (P := P) (w := w) (base := base) T
  have G_l_due := okT_l_due (P := P) (w := w) (base := base) T
  have G_l_space := ok_l_space (P := P) (w := w) (base := base) T
  refine T.F_law.ok sc_law (fun vs H Q E h => ?_) (fun cdv A outer s H vs Q E hr h => ?_)
  · obtain ⟨a, ns, rfl, _⟩ := h
    rfl
  obtain ⟨a, ns, rfl, hS, hn, hb, q⟩ := h
  refine ⟨_, (pss_cons (ps_set (i := 1) sc_law.nd rfl (Or.inr rfl) (pe_call G_l_draws (hr.mono (by decide)) rfl T.m_l_draws T.k_l_draws T.b_l_draws .nil pass0 (pa_cons (pv 0) (pa_cons pe_int (pa_cons pe_int pa_nil)))))
  (pss_cons (ps_setLC (iy := 2) sc_law.nd rfl (Or.inl rfl) rfl (compOk_of (fr := [("_law_d", 1)]) (osc := defScope s_law) (N := ["_law_script", "_law_d", "_law_names", "_law_facet", "_law_colour", "_law_columns", "_law_kinds", "_law_k", "_law_layers", "_law_telling", "_law_rows_here", "_law_due_here", "_law_handed", "_law_found", "_law_again"]) rfl rfl (by decide +kernel)) (pi_range1 rfl T.z_range (pa_cons pe_int pa_nil)) (fun _ _ _ _ _ => (pe_call G_l_word (hr.mono (by decide)) rfl T.m_l_word T.k_l_word T.b_l_word .nil pass0 (pa_cons (pe_slice (r := rSlL K) sl_list (pv 1) (po_some pe_int) (po_some pe_int)) (pa_cons (pv 0) pa_nil)))))
  (pss_cons (ps_set (i := 3) sc_law.nd rfl (Or.inl rfl) (pe_call G_l_channel_by (hr.mono (by decide)) rfl T.m_l_channel_by T.k_l_channel_by T.b_l_channel_by .nil pass0 (pa_cons (pe_ix ix_list (pv 2) pe_int (fun _ _ => rfl)) (pa_cons (pe_slice sl_list (pv 1) (po_some pe_int) (po_some pe_int)) pa_nil))))
  (pss_cons (ps_set (i := 4) sc_law.nd rfl (Or.inl rfl) (pe_call G_l_channel_by (hr.mono (by decide)) rfl T.m_l_channel_by T.k_l_channel_by T.b_l_channel_by .nil pass0 (pa_cons (pe_ix ix_list (pv 2) pe_int (fun _ _ => rfl)) (pa_cons (pe_slice sl_list (pv 1) (po_some pe_int) (po_some pe_int)) pa_nil))))
  (pss_cons (ps_if (pt_cmpR op_eq (pe_op op_mod (pe_ix ix_list (pv 1) pe_int (fun _ _ => rfl)) pe_int) pe_int (nomark _)) (pss_one (ps_set (i := 4) sc_law.nd rfl (Or.inl rfl) (pe_tup (pa_cons (pe_ix ix_list (pv 2) pe_int (fun _ _ => rfl)) (pa_cons (pe_tup (pa_cons pe_str pa_nil)) pa_nil))))) pss_nil)
  (pss_cons (ps_set (i := 5) sc_law.nd rfl (Or.inl rfl) (pe_lst pa_nil))
  (pss_cons (ps_set (i := 6) sc_law.nd rfl (Or.inl rfl) (pe_lst (pa_cons pe_str (pa_cons (pe_ix ix_list (pe_lst (pa_cons pe_str (pa_cons pe_str pa_nil))) (pe_callTy call_int1 rfl T.z_int bt_int (pa_cons (pe_and (pe_cmpR op_notN' (pv 4) pe_non (nomark _)) (pe_one (pe_cmpR op_eq (pe_ix ix_tup (pe_ix ix_tup (pv 4) pe_int (fun _ _ => rfl)) pe_int (fun _ _ => rfl)) pe_str (nomark _)))) pa_nil)) (fun _ _ => rfl)) (pa_cons pe_str (pa_cons pe_str pa_nil))))))
  (pss_cons (ps_for PassesOwn.never rfl (pi_range1 rfl T.z_range (pa_cons pe_int pa_nil)) (pg_name (i := 7) sc_law.nd rfl (Or.inl rfl)) (pss_one (ps_expr (pe_bm PySem.F.plainAttrs_list PySem.F.slot_list_insert PySem.F.type_list_insert mt_insert (pv 5) (pa_cons (pe_op op_mod (pe_ix ix_list (pv 1) (pe_op op_add pe_int (pv 7)) (fun _ _ => rfl)) (pe_op op_add (pe_callB call_len_seq rfl T.z_len PySem.boot_len (pa_cons (pv 5) pa_nil)) pe_int)) (pa_cons (pe_tup (pa_cons (pe_ix ix_list (pv 2) (pv 7) (fun _ _ => rfl)) (pa_cons (pe_ix ix_list (pv 6) (pv 7) (fun _ _ => rfl)) pa_nil))) pa_nil))))))
  (pss_cons (ps_set (i := 8) sc_law.nd rfl (Or.inl rfl) (pe_tup (pa_cons (pe_tup (pa_cons pe_str (pa_cons pe_str (pa_cons (pe_ix ix_list (pv 2) pe_int (fun _ _ => rfl)) (pa_cons pe_non pa_nil))))) pa_nil)))
  (pss_cons (ps_set (i := 9) sc_law.nd rfl (Or.inl rfl) (pe_tup (pa_cons (pe_lst pa_nil) (pa_cons (pe_tup (pa_cons (pe_ix ix_list (pv 2) pe_int (fun _ _ => rfl)) (pa_cons (pe_tup (pa_cons pe_str pa_nil)) pa_nil))) (pa_cons (pe_tup (pa_cons (pe_tup (pa_cons pe_str pa_nil)) (pa_cons pe_non pa_nil))) (pa_cons (pv 8) (pa_cons (pv 4) (pa_cons pe_non (pa_cons (pv 3) (pa_cons (pe_tup (pa_cons pe_int (pa_cons pe_int (pa_cons pe_bl pa_nil)))) pa_nil))))))))))
  (pss_cons (ps_set (i := 10) sc_law.nd rfl (Or.inl rfl) (pe_call G_l_rows (hr.mono (by decide)) rfl T.m_l_rows T.k_l_rows T.b_l_rows .nil pass0 (pa_cons (pv 0) (pa_cons (pv 3) (pa_cons (pv 4) (pa_cons (pv 5) (pa_cons (pv 2) pa_nil)))))))
  (pss_cons (ps_set (i := 11) sc_law.nd rfl (Or.inl rfl) (pe_call G_l_due (hr.mono (by decide)) rfl T.m_l_due T.k_l_due T.b_l_due .nil pass0 (pa_cons (pv 3) (pa_cons (pv 4) (pa_cons (pv 5) (pa_cons (pv 10) pa_nil))))))
  (pss_cons (ps_set (i := 12) sc_law.nd rfl (Or.inl rfl) (pe_lst (pa_cons (pe_callTy call_list_of rfl T.z_list bt_list (pa_cons (pv 5) pa_nil)) (pa_cons (pe_callTy call_list_of rfl T.z_list bt_list (pa_cons (pv 10) pa_nil)) pa_nil))))
  (pss_cons (ps_set (i := 13) sc_law.nd rfl (Or.inl rfl) (pe_lst (pa_cons (pe_call G_l_space (hr.mono (by decide)) rfl T.m_l_space T.k_l_space T.b_l_space .nil pass0 (pa_cons (pe_glob (v := .ref t.f_facets_of) rfl T.m_facets_of rfl) (pa_cons (pv 9) (pa_cons (pe_ix ix_list (pv 12) pe_int (fun _ _ => rfl)) (pa_cons (pe_ix ix_list (pv 12) pe_int (fun _ _ => rfl)) pa_nil))))) (pa_cons (pe_call G_l_space (hr.mono (by decide)) rfl T.m_l_space T.k_l_space T.b_l_space .nil pass0 (pa_cons (pe_glob (v := .ref t.f_ranks_of) rfl T.m_ranks_of rfl) (pa_cons (pv 9) (pa_cons (pe_ix ix_list (pv 12) pe_int (fun _ _ => rfl)) (pa_cons (pe_ix ix_list (pv 12) pe_int (fun _ _ => rfl)) pa_nil))))) pa_nil))))
  (pss_cons (ps_if (PW.pt (pw_or (pt_cmpR (op_neA hr.un150) (pv 13) (pv 11) (nomark _)) (pw_or1 (pt_cmpR (op_neA hr.un150) (pv 12) (pe_lst (pa_cons (pv 5) (pa_cons (pv 10) pa_nil))) (nomark _))))) (pss_one (ps_ret pe_bl)) pss_nil)
  (pss_cons (ps_for PassesOwn.never rfl (pi_range1 rfl T.z_range (pa_cons pe_int pa_nil)) (pg_name (i := 7) sc_law.nd rfl (Or.inl rfl)) (pss_cons (ps_if (pt_cmpR op_ne (pe_isi isi_list rfl rfl T.z_isinstance T.z_list bt_list (pe_ix ix_list (pv 13) (pv 7) (fun _ _ => rfl))) (pe_isi isi_list rfl rfl T.z_isinstance T.z_list bt_list (pe_ix ix_list (pv 11) (pv 7) (fun _ _ => rfl))) (nomark _)) (pss_one (ps_ret pe_bl)) pss_nil)
  (pss_one (ps_if (pt_val (pe_isi isi_list rfl rfl T.z_isinstance T.z_list bt_list (pe_ix ix_list (pv 13) (pv 7) (fun _ _ => rfl)))) (pss_one (ps_expr (pe_bm PySem.F.plainAttrs_list PySem.F.slot_list_append PySem.F.type_list_append mt_append (pe_ix ix_list (pv 13) (pv 7) (fun _ _ => rfl)) (pa_cons pe_str pa_nil)))) pss_nil))))
  (pss_cons (ps_set (i := 14) sc_law.nd rfl (Or.inl rfl) (pe_lst (pa_cons (pe_call G_l_space (hr.mono (by decide)) rfl T.m_l_space T.k_l_space T.b_l_space .nil pass0 (pa_cons (pe_glob (v := .ref t.f_facets_of) rfl T.m_facets_of rfl) (pa_cons (pv 9) (pa_cons (pv 5) (pa_cons (pv 10) pa_nil))))) (pa_cons (pe_call G_l_space (hr.mono (by decide)) rfl T.m_l_space T.k_l_space T.b_l_space .nil pass0 (pa_cons (pe_glob (v := .ref t.f_ranks_of) rfl T.m_ranks_of rfl) (pa_cons (pv 9) (pa_cons (pv 5) (pa_cons (pv 10) pa_nil))))) pa_nil))))
  (pss_one (ps_ret (pe_cmpR (op_eqA hr.un150) (pv 14) (pv 11) (nomark _))))))))))))))))))))), law_open hS q _ _ fun D hD => ?_⟩
  refine d_go (τ := [.fz _, .no, .no, .no, .no, .no, .no, .no, .no, .no, .no, .no, .no, .no, .no]) rfl (d_seq ?_)
  walk_at "trun"
  intro _ _
  refine ⟨ns, 0, 40, rfl, by decide, by decide, fun ds hD2 => ?_⟩
  have hl : ds.length = 40 := hD2.1
  walk_at "trun"
  refine d_seq ?_
  walk_at "trun"
  refine e_lc (i_rng1 ?_)
  walk_at "trun"
  refine ⟨⟨by decide, by decide⟩, _, .own (by walk_at "tg") .nil, by rw [rangeT_len]; decide, fun i o => ∃ z, o = .str z, fun i tt ht => ?_, fun os hl2 ho => ?_⟩
  · obtain ⟨hin, rfl⟩ := rangeT_at ht
    walk_at "trun"
    obtain ⟨es, ee, he⟩ := hD2.cut (a := 1) (b := 4) 3 (by decide) (by decide) (by decide)
    rw [ee]
    intro _ _
    refine ⟨es, 3, _, rfl, he, by decide, fun w wz wl => ?_⟩
    walk_at "trun"
    exact ⟨w, rfl⟩
  obtain ⟨nms, rfl⟩ := strs_of ho
  rw [List.length_map, rangeT_len] at hl2
  have hl2 : nms.length = 5 := hl2
  match nms, hl2 with
  | [n0, n1, n2, n3, n4], _ =>
  walk_at "trun"
  refine d_seq ?_
  walk_at "trun"
  obtain ⟨es, ee, he⟩ := hD2.cut (a := 4) (b := 11) 7 (by decide) (by decide) (by decide)
  rw [ee]
  intro _ _
  refine ⟨n0, es, rfl, he, fun fc hfc => ?_⟩
  clear ee he es
  walk_at "trun"
  refine d_seq ?_
  walk_at "trun"
  obtain ⟨es, ee, he⟩ := hD2.cut (a := 11) (b := 18) 7 (by decide) (by decide) (by decide)
  rw [ee]
  intro _ _
  refine ⟨n1, es, rfl, he, fun f2 hf2 => ?_⟩
  clear ee he es
  walk_at "trun"
  refine d_seq ?_
  refine s_cut (fun τ => ∃ cl : Clr, τ = [.fz (.lst (ns.map Tr.int)), .own (.lst (ds.map Tr.int)), .own (.lst ([n0, n1, n2, n3, n4].map Tr.str)), .fz (fctT fc), .fz (clrT cl), .no, .no, .no, .no, .no, .no, .no, .no, .no, .no] ∧ ∀ c, cl = .ord c → c.1 = n1 ∧ WOk c.2) ?_ ?_
  · walk_at "trun"
    refine z_iteD (fun h1 => ?_) (fun h1 => ?_)
    · walk_at "trun"
      exact ⟨.oth n1, rfl, nofun⟩
    · walk_at "trun"
      cases f2 with
      | none => exact ⟨.no, rfl, nofun⟩
      | some c => exact ⟨.ord c, rfl, fun c' h => by cases h; exact hf2 c rfl⟩
  rintro τ ⟨cl, rfl, hcl⟩
  clear hf2
  refine d_seq ?_
  walk_at "trun"
  refine d_seq ?_
  refine s_cut (fun τ => ∃ k1 : Str, τ = [.fz (.lst (ns.map Tr.int)), .own (.lst (ds.map Tr.int)), .own (.lst ([n0, n1, n2, n3, n4].map Tr.str)), .fz (fctT fc), .fz (clrT cl), .own (.lst []), .own (.lst [.str "word", .str k1, .str "number", .str "word"]), .no, .no, .no, .no, .no, .no, .no, .no]) ?_ ?_
  · cases cl with
    | no =>
      rw [show clrT .no = Tr.non from rfl]
      walk_at "trun"
      exact ⟨_, rfl⟩
    | oth n =>
      rw [show clrT (.oth n) = Tr.tup [.str n, .tup [.str "straight"]] from rfl]
      walk_at "trun"
      exact ⟨_, rfl⟩
    | ord c =>
      have h0 : ∃ r, wshO c.2 = Tr.tup (.str "order" :: r) := by cases c.2 <;> exact ⟨_, rfl⟩
      obtain ⟨r0, h0⟩ := h0
      rw [show clrT (.ord c) = Tr.tup [.str c.1, wshO c.2] from rfl]
      walk_at "trun"
      rw [h0]
      refine ro_ixT rfl Rk.fz (atI_nat (j := 0) rfl) ?_
      walk_at "trun"
      exact ⟨_, rfl⟩
  rintro τ ⟨k1, rfl⟩
  refine d_seq ?_
  walk_at "trun"
  refine ⟨⟨by decide, by decide⟩, fun i τ => ∃ (cols : List Col) (u : Sl), τ = [.fz (.lst (ns.map Tr.int)), .own (.lst (ds.map Tr.int)), .own (.lst ([n0, n1, n2, n3, n4].map Tr.str)), .fz (fctT fc), .fz (clrT cl), .own (.lst (cols.map colT)), .own (.lst [.str "word", .str k1, .str "number", .str "word"]), u, .no, .no, .no, .no, .no, .no, .no] ∧ cols.length = i ∧ ∀ m z, m < i → [n0, n1, n2, n3, n4][m]? = some z → z ∈ cols.map (·.1), ⟨[], _, rfl, rfl, fun m z h => absurd h (Nat.not_lt_zero _)⟩, ?_, ?_⟩
  · rintro i tt τ hi ⟨cols, u, rfl, hc1, hc2⟩
    obtain ⟨hin, rfl⟩ := rangeT_at hi
    have hin : i < 4 := hin
    have cm : (cols.map colT).length = cols.length := List.length_map _
    walk_at "trun"
    obtain ⟨z, ez⟩ : ∃ z, [n0, n1, n2, n3, n4][i]? = some z := ⟨_, List.getElem?_eq_getElem (show i < 5 by omega)⟩
    obtain ⟨kd, ek⟩ : ∃ kd, (["word", k1, "number", "word"] : List Str)[i]? = some kd := ⟨_, List.getElem?_eq_getElem (show i < 4 by omega)⟩
    rw [Int.zero_add]
    refine ro_ixL rfl (by walk_at "rk") (atI_nat (map_at ez)) ?_
    walk_at "trun"
    refine ro_ixL rfl (by walk_at "rk") (atI_nat (map_at (g := Tr.str) ek)) ?_
    walk_at "trun"
    have j0 := Int.emod_nonneg (dg ds (19 + (i : Nat))) (show (((cols.map colT).length : Nat) : Int) + 1 ≠ 0 by omega)
    have j1 := Int.emod_lt_of_pos (dg ds (19 + (i : Nat))) (show (0 : Int) < (((cols.map colT).length : Nat) : Int) + 1 by omega)
    refine rm_insert (by walk_at "tg") j0 (by omega) (by omega) (by walk_at "ts") ?_
    walk_at "trun"
    generalize (dg ds (19 + (i : Nat)) % ((((cols.map colT).length : Nat) : Int) + 1)).toNat = j
    refine ⟨cols.take j ++ (z, kd) :: cols.drop j, _, by rw [ins_map]; rfl, ?_, fun m z' hm hz => ?_⟩
    · rw [List.length_append, List.length_cons, List.length_take, List.length_drop]; omega
    · rw [ins_map]
      refine ins_mem.mpr ?_
      rcases Nat.lt_or_ge m i with h | h
      · exact .inr (hc2 m z' h hz)
      · have : m = i := by omega
        subst this
        rw [ez] at hz
        cases hz
        exact .inl rfl
  rintro τ ⟨cols, u, rfl, hc1, hc2⟩
  rw [rangeT_len] at hc1 hc2
  have hc1 : cols.length = 4 := hc1
  have m0 : n0 ∈ cols.map (·.1) := hc2 0 n0 (by decide) rfl
  have m1 : n1 ∈ cols.map (·.1) := hc2 1 n1 (by decide) rfl
  refine d_seq ?_
  walk_at "trun"
  refine d_seq ?_
  walk_at "trun"
  refine d_seq ?_
  walk_at "trun"
  intro _ _
  generalize htl : Tel.mk (.lst []) (.tup [.str n2, .tup [.str "straight"]]) (.tup [.tup [.str "straight"], .non]) (.tup [.tup [.str "dots", .str "left", .str n2, .non]]) cl .non fc (.tup [.int 300, .int 300, .bl false]) = tl
  have e4 : clrT cl = clrT tl.clr := by rw [← htl]
  have e6 : fctT fc = fctT tl.fct := by rw [← htl]
  have w4 : ∀ c, tl.clr = .ord c → c.1 = n1 ∧ WOk c.2 := by rw [← htl]; exact hcl
  have w6 : ∀ c, tl.fct = some c → c.1 = n0 ∧ WOk c.2 := by rw [← htl]; exact hfc
  have i5a : ixOf (cols.map (·.1)) n0 = some (plc cols n0) := plc_in m0
  have i5b : ixOf (cols.map (·.1)) n1 = some (plc cols n1) := plc_in m1
  refine ⟨ns, tl, cols, [n0, n1, n2, n3, n4], by rw [e4, e6], hn, hb, rfl, by omega, fun c h => ?_, fun c h => ?_, fun rows hr1 oT hr2 => ?_⟩
  · obtain ⟨e, ow⟩ := w6 c h
    rw [e]
    exact ⟨rfl, i5a, ow⟩
  · obtain ⟨e, ow⟩ := w4 c h
    rw [e]
    exact ⟨rfl, i5b, ow⟩
  walk_at "trun"
  refine d_seq ?_
  walk_at "trun"
  intro _ _
  refine ⟨tl, cols, rows, by rw [e4, e6], oT, by omega, fun c h => (w6 c h).2, fun c h => (w4 c h).2, ?_⟩
  walk_at "trun"
  refine fun σ F H1 r => ?_
  obtain ⟨v5, e5, i5⟩ := r.fz 5 _ rfl
  obtain ⟨v9, e9, i9⟩ := r.fz 9 _ rfl
  obtain ⟨v10, e10, i10⟩ := r.fz 10 _ rfl
  obtain ⟨l11, e11, o11, _, _⟩ := r.ow 11 _ rfl
  have sF : Same F H1 := r.up.i
  have i9 : Is K H1 v9 tl.tr := by rw [← htl]; exact i9.same sF
  have i5 : Is K H1 v5 (.lst (cols.map colT)) := i5.same sF
  have i10 : Is K H1 v10 (.lst (rows.map Tr.tup)) := i10.same sF
  have hlen : σ.length = 15 := r.len
  obtain ⟨x11, h11, d11⟩ : ∃ xs, H1 l11 = some (.lst xs) ∧ IsL K H1 xs [spT (facV tl cols rows), spT (ranksV tl cols rows)] := by
    cases o11 with
    | lst h g => exact ⟨_, h, g.same sF⟩
  clear o11 r i5a i5b w4 w6 e4 e6 hc2 m0 m1 hcl hfc htl hD2 sF ho hS hb
  match σ, hlen with
  | [w0, w1, w2, w3, w4, w5, w6, w7, w8, w9, w10, w11, w12, w13, w14], _ =>
  cases (show w5 = some v5 from Option.some.inj e5)
  cases (show w9 = some v9 from Option.some.inj e9)
  cases (show w10 = some v10 from Option.some.inj e10)
  cases (show w11 = some (.ref l11) from Option.some.inj e11)
  clear e5 e9 e10 e11 hlen
  cases i5 with
  | @lst p5 x5 _ q5 g5 =>
  cases i10 with
  | @lst p10 x10 _ q10 g10 =>
  walk_at "run"
  intro la ha
  have sa : Same H1 (upd H1 la (.lst x5)) := Same.new ha _
  have ea : (upd H1 la (.lst x5)) la = some (.lst x5) := upd_same
  generalize upd H1 la (.lst x5) = H2 at *
  have q10 := Same.seq sa q10
  show tCons _ _ _ _ _
  walk_at "run"
  intro lb hb'
  have sb : Same H2 (upd H2 lb (.lst x10)) := Same.new hb' _
  have eb : (upd H2 lb (.lst x10)) lb = some (.lst x10) := upd_same
  generalize upd H2 lb (.lst x10) = H3 at *
  walk_at "run"
  refine z_mkl (Nat.le_of_ble_eq_true rfl) (fun lh H4 n4 s4 e4 => ?_)
  have s14 := Same.trans sa (Same.trans sb s4)
  have ea := s4 _ _ (sb _ _ ea)
  have eb := s4 _ _ eb
  have i9 := i9.same s14
  have g5 := g5.same s14
  have g10 := g10.same s14
  have q5 := s14.seq q5
  have q10 := (Same.trans sb s4).seq q10
  have h11 := s14 _ _ h11
  have d11 := d11.same s14
  clear sa sb s4 ha hb' n4 s14
  walk_at "run"
  refine z_ixL (SqL.of e4) (atI_nat (j := 0) rfl) ?_
  walk_at "run"
  refine z_ixL (SqL.of e4) (atI_nat (j := 1) rfl) ?_
  walk_at "run"
  refine a_space true i9 (.lst (SqL.of ea) g5) (.lst (SqL.of eb) g10) oT (fun x1 H5 s5 n1 r1 => ?_)
  walk_at "run"
  refine z_ixL (SqL.of (s5 _ _ e4)) (atI_nat (j := 0) rfl) ?_
  walk_at "run"
  refine z_ixL (SqL.of (s5 _ _ e4)) (atI_nat (j := 1) rfl) ?_
  walk_at "run"
  refine a_space false (i9.same s5) (.lst (SqL.of (s5 _ _ ea)) (g5.same s5)) (.lst (SqL.of (s5 _ _ eb)) (g10.same s5)) oT (fun x2 H6 s6 n2 r2 => ?_)
  walk_at "run"
  refine z_mkl (Nat.le_of_ble_eq_true rfl) (fun lf H7 n7 s7 e7 => ?_)
  have s47 := s5.trans (s6.trans s7)
  have f1 : ∀ ws, facV tl cols rows = some ws → ∀ l, x1 = .ref l → l ≠ lf ∧ x2 ≠ .ref l := fun ws e l el => by
    subst el
    rw [show RS true tl cols rows = facV tl cols rows from rfl, e] at r1
    obtain ⟨l', el, hl'⟩ := r1
    cases el
    refine ⟨fun z => ?_, fun z => ?_⟩
    · subst z
      rw [s6 _ _ hl'] at n7
      cases n7
    · subst z
      cases hr : RS false tl cols rows with
      | some us =>
        have := n2 us hr l rfl
        rw [hl'] at this
        cases this
      | none =>
        rw [hr] at r2
        obtain ⟨p, e', hp⟩ := r2
        cases e'
        rw [s6 _ _ hl'] at hp
        cases hp
  have f2 : ∀ ws, ranksV tl cols rows = some ws → ∀ l, x2 = .ref l → l ≠ lf := fun ws e l el z => by
    subst el z
    rw [show RS false tl cols rows = ranksV tl cols rows from rfl, e] at r2
    obtain ⟨l', el, hl'⟩ := r2
    cases el
    rw [hl'] at n7
    cases n7
  have n2 := n2.sub s5
  have r1 := r1.same (s6.trans s7)
  have r2 := r2.same s7
  rw [show RS true tl cols rows = facV tl cols rows from rfl] at r1 n1
  rw [show RS false tl cols rows = ranksV tl cols rows from rfl] at r2 n2
  have dp1 := sp_dp (facV tl cols rows)
  have dp2 := sp_dp (ranksV tl cols rows)
  have dpr := rows_dp fun r h => (hr2 r h).2
  generalize ho1 : facV tl cols rows = o1 at *
  generalize ho2 : ranksV tl cols rows = o2 at *
  walk_at "run"
  refine z_alk (alkL (n := 5) (SqL.of e7) (SqL.of (s47 _ _ h11)) (.cons r1.is (.cons r2.is .nil)) (d11.same s47) (by decide) (dp_cons dp1 (dp_cons dp2 dp_nil))) ?_
  walk_at "run"
  refine z_mkl (Nat.le_of_ble_eq_true rfl) (fun lq H8 n8 s8 e8 => ?_)
  have s48 := s47.trans s8
  walk_at "run"
  refine z_alk (alkL (n := 5) (SqL.of (s48 _ _ e4)) (SqL.of e8) (.cons (.lst (SqL.of (s48 _ _ ea)) (g5.same s48)) (.cons (.lst (SqL.of (s48 _ _ eb)) (g10.same s48)) .nil)) (.cons (.lst (s48.seq q5) (g5.same s48)) (.cons (.lst (s48.seq q10) (g10.same s48)) .nil)) (by decide) (dp_cons (cols_dp cols) (dp_cons dpr dp_nil))) ?_
  walk_at "run"
  have len1 : ∀ us, o1 = some us → us.length ≤ 60 := fac_len ho1
  have len2 : ∀ us, o2 = some us → us.length ≤ 60 := rank_len ho2
  cases d11 with
  | @cons y1 _ x11 _ dy1 d11 =>
  cases d11 with
  | @cons y2 _ x11 _ dy2 d11 =>
  cases d11
  have r1 := r1.same s8
  have r2 := r2.same s8
  have e7 := s8 _ _ e7
  refine f_range (fun i σ H2 => ∃ u, σ = [w0, w1, w2, w3, w4, some (.ref p5), w6, u, w8, some v9, some (.ref p10), some (.ref l11), some (.ref lh), some (.ref lf), w14] ∧ Same H4 H2 ∧ H2 lf = some (.lst [x1, x2]) ∧ (i ≤ 0 → St46 H2 x1 o1) ∧ (i ≤ 1 → St46 H2 x2 o2)) ⟨_, rfl, s48, e7, fun _ => r1, fun _ => r2⟩ ?_ ?_
  · rintro i σ H9 hi ⟨u, rfl, s9, e9, t1, t2⟩
    have hi : i < 2 := hi
    obtain ⟨x, y, o, ex, ey, sx, dy, nx, kp, ln⟩ : ∃ x y o, [x1, x2][i]? = some x ∧ [y1, y2][i]? = some y ∧ St46 H9 x o ∧ Is K H9 y (spT o) ∧ New46 H4 x o ∧ (∀ ws, o = some ws → ∀ l, x = .ref l → l ≠ lf ∧ (i = 0 → x2 ≠ .ref l)) ∧ ∀ ws, o = some ws → ws.length ≤ 60 := by
      match i, hi with
      | 0, _ => exact ⟨x1, y1, o1, rfl, rfl, t1 (Nat.le_refl _), dy1.same s9, n1, fun ws e l el => ⟨(f1 ws e l el).1, fun _ => (f1 ws e l el).2⟩, len1⟩
      | 1, _ => exact ⟨x2, y2, o2, rfl, rfl, t2 (Nat.le_refl _), dy2.same s9, n2, fun ws e l el => ⟨f2 ws e l el, fun z => absurd z (by decide)⟩, len2⟩
    have h11 := s9 _ _ h11
    rw [Int.zero_add]
    walk_at "run"
    refine z_ixL (SqL.of e9) (atI_nat ex) ?_
    cases o with
    | none =>
      obtain ⟨p, rfl, hp⟩ := sx
      cases dy with
      | @tup py yy _ hy gy =>
      walk_at "run"
      refine z_ixL (SqL.of h11) (atI_nat ey) ?_
      walk_at "run"
      refine ite_t rfl ?_
      walk_at "run"
      refine z_ixL (SqL.of e9) (atI_nat ex) ?_
      walk_at "run"
      exact ⟨_, rfl, s9, e9, fun h => absurd h (by omega), fun h => t2 (by omega)⟩
    | some ws =>
      obtain ⟨l, rfl, hp⟩ := sx
      obtain ⟨nf, n02⟩ := kp ws rfl l rfl
      have wl := ln ws rfl
      have nl := nx ws rfl l rfl
      cases dy with
      | @lst py yy _ hy gy =>
      walk_at "run"
      refine z_ixL (SqL.of h11) (atI_nat ey) ?_
      walk_at "run"
      refine ite_t rfl ?_
      walk_at "run"
      refine z_ixL (SqL.of e9) (atI_nat ex) ?_
      walk_at "run"
      refine z_ixL (SqL.of e9) (atI_nat ex) ?_
      walk_at "run"
      refine z_tyL (SqL.of hp) ?_
      walk_at "run"
      refine z_append hp (Nat.lt_of_le_of_lt (by rw [List.length_map]; exact wl) (by decide)) (fun Ha ba ea' => ?_)
      walk_at "run"
      exact ⟨_, rfl, s9.but nl ba, ba _ _ (fun z => nf z.symm) e9, fun h => absurd h (by omega), fun h => (t2 (by omega)).but ba (n02 (by omega))⟩
  · rintro σ H9 ⟨u, rfl, s9, e9, _, _⟩
    walk_at "run"
    refine a_space true (i9.same s9) (.lst (s9.seq q5) (g5.same s9)) (.lst (s9.seq q10) (g10.same s9)) oT (fun z1 Ha sa _ ra => ?_)
    have s9a := s9.trans sa
    walk_at "run"
    refine a_space false (i9.same s9a) (.lst (s9a.seq q5) (g5.same s9a)) (.lst (s9a.seq q10) (g10.same s9a)) oT (fun z2 Hb sb _ rb => ?_)
    walk_at "run"
    refine z_mkl (Nat.le_of_ble_eq_true rfl) (fun lg Hc nc sc ec => ?_)
    have s9c := s9a.trans (sb.trans sc)
    rw [show RS true tl cols rows = facV tl cols rows from rfl, ho1] at ra
    rw [show RS false tl cols rows = ranksV tl cols rows from rfl, ho2] at rb
    walk_at "run"
    refine z_alk (alkL (n := 5) (SqL.of ec) (SqL.of (s9c _ _ h11)) (.cons (ra.same (sb.trans sc)).is (.cons (rb.same sc).is .nil)) (.cons (dy1.same s9c) (.cons (dy2.same s9c) .nil)) (by decide) (dp_cons dp1 (dp_cons dp2 dp_nil))) ?_
    walk_at "run"
    exact hD _
end
theorem all_mk {l : PySem.W.OpenLaw} {w : World} {K : PySem.W.Frag} {h : Heap} {mg : Str → Option Value} {fa f0 f1 f2 f3 f4 f5 f6 f7 f8 f9 f10 f11 f12 f13 f14 f15 f16 f17 f18 f19 f20 f21 C_NoSpace C_MarkError C_NoDay C_NoName C_NoNumber C_NoPlan C_NoRow C_NoTelling C_NoTable C_TooMany : Addr} (X : K.In h) (G : h.Ns mainGlobals mg) (hfa : mg "law" = some (.ref fa))
    {od0 an0 od1 an1 od2 an2 od3 an3 od4 an4 od5 an5 od6 an6 od7 an7 od8 an8 od9 an9 od10 an10 od11 an11 od12 an12 od13 an13 od14 an14 od15 an15 od16 an16 od17 an17 od18 an18 od19 an19 od20 an20 od21 an21 : Option Addr} {sl0 sl1 sl2 sl3 sl4 sl5 sl6 sl7 sl8 sl9 sl10 sl11 sl12 sl13 sl14 sl15 sl16 sl17 sl18 sl19 sl20 sl21 : Array (Option Value)} {oc0 kV0 dc0 pm0 cd0 ct0 oc1 kV1 dc1 pm1 cd1 ct1 oc2 kV2 dc2 pm2 cd2 ct2 oc3 kV3 dc3 pm3 cd3 ct3 oc4 kV4 dc4 pm4 cd4 ct4 oc5 kV5 dc5 pm5 cd5 ct5 oc6 kV6 dc6 pm6 cd6 ct6 oc7 kV7 dc7 pm7 cd7 ct7 oc8 kV8 dc8 pm8 cd8 ct8 oc9 kV9 dc9 pm9 cd9 ct9 oc10 kV10 dc10 pm10 cd10 ct10 oc11 kV11 dc11 pm11 cd11 ct11 oc12 kV12 dc12 pm12 cd12 ct12 oc13 kV13 dc13 pm13 cd13 ct13 oc14 kV14 dc14 pm14 cd14 ct14 oc15 kV15 dc15 pm15 cd15 ct15 oc16 kV16 dc16 pm16 cd16 ct16 oc17 kV17 dc17 pm17 cd17 ct17 oc18 kV18 dc18 pm18 cd18 ct18 oc19 kV19 dc19 pm19 cd19 ct19 oc20 kV20 dc20 pm20 cd20 ct20 oc21 kV21 dc21 pm21 cd21 ct21 : Value}
    {g_MOST_WORDS : Tok}
    {g_MOST_FACETS : Tok}
    {g_NO_FACET : Tok}
    (a0 : PySem.W.nsIn K mainGlobals "column_at" = some (some (.ref f0))) (l0 : K.lookup f0 = some ⟨oc0, od0, .func (PySem.W.fnOf "column_at" "column_at" (defArgs s_column_at) (defBody s_column_at) (defScope s_column_at) .none kV0 dc0 pm0 an0 cd0 ct0), sl0⟩) (c0 : PySem.W.codeIn K cd0 "column_at" = true) (k0 : PySem.W.keepIn K (.ref f0) = true)
    (a1 : PySem.W.nsIn K mainGlobals "words_wished" = some (some (.ref f1))) (l1 : K.lookup f1 = some ⟨oc1, od1, .func (PySem.W.fnOf "words_wished" "words_wished" (defArgs s_words_wished) (defBody s_words_wished) (defScope s_words_wished) .none kV1 dc1 pm1 an1 cd1 ct1), sl1⟩) (c1 : PySem.W.codeIn K cd1 "words_wished" = true) (k1 : PySem.W.keepIn K (.ref f1) = true)
    (a2 : PySem.W.nsIn K mainGlobals "cells_there" = some (some (.ref f2))) (l2 : K.lookup f2 = some ⟨oc2, od2, .func (PySem.W.fnOf "cells_there" "cells_there" (defArgs s_cells_there) (defBody s_cells_there) (defScope s_cells_there) .none kV2 dc2 pm2 an2 cd2 ct2), sl2⟩) (c2 : PySem.W.codeIn K cd2 "cells_there" = true) (k2 : PySem.W.keepIn K (.ref f2) = true)
    (a3 : PySem.W.nsIn K mainGlobals "words_of" = some (some (.ref f3))) (l3 : K.lookup f3 = some ⟨oc3, od3, .func (PySem.W.fnOf "words_of" "words_of" (defArgs s_words_of) (defBody s_words_of) (defScope s_words_of) .none kV3 dc3 pm3 an3 cd3 ct3), sl3⟩) (c3 : PySem.W.codeIn K cd3 "words_of" = true) (k3 : PySem.W.keepIn K (.ref f3) = true)
    (a4 : PySem.W.nsIn K mainGlobals "facets_of" = some (some (.ref f4))) (l4 : K.lookup f4 = some ⟨oc4, od4, .func (PySem.W.fnOf "facets_of" "facets_of" (defArgs s_facets_of) (defBody s_facets_of) (defScope s_facets_of) .none kV4 dc4 pm4 an4 cd4 ct4), sl4⟩) (c4 : PySem.W.codeIn K cd4 "facets_of" = true) (k4 : PySem.W.keepIn K (.ref f4) = true)
    (a5 : PySem.W.nsIn K mainGlobals "rows_in_facets" = some (some (.ref f5))) (l5 : K.lookup f5 = some ⟨oc5, od5, .func (PySem.W.fnOf "rows_in_facets" "rows_in_facets" (defArgs s_rows_in_facets) (defBody s_rows_in_facets) (defScope s_rows_in_facets) .none kV5 dc5 pm5 an5 cd5 ct5), sl5⟩) (c5 : PySem.W.codeIn K cd5 "rows_in_facets" = true) (k5 : PySem.W.keepIn K (.ref f5) = true)
    (a6 : PySem.W.nsIn K mainGlobals "ranks_of" = some (some (.ref f6))) (l6 : K.lookup f6 = some ⟨oc6, od6, .func (PySem.W.fnOf "ranks_of" "ranks_of" (defArgs s_ranks_of) (defBody s_ranks_of) (defScope s_ranks_of) .none kV6 dc6 pm6 an6 cd6 ct6), sl6⟩) (c6 : PySem.W.codeIn K cd6 "ranks_of" = true) (k6 : PySem.W.keepIn K (.ref f6) = true)
    (a7 : PySem.W.nsIn K mainGlobals "_law_cell_at" = some (some (.ref f7))) (l7 : K.lookup f7 = some ⟨oc7, od7, .func (PySem.W.fnOf "_law_cell_at" "_law_cell_at" (defArgs s_l_cell_at) (defBody s_l_cell_at) (defScope s_l_cell_at) .none kV7 dc7 pm7 an7 cd7 ct7), sl7⟩) (c7 : PySem.W.codeIn K cd7 "_law_cell_at" = true) (k7 : PySem.W.keepIn K (.ref f7) = true)
    (a8 : PySem.W.nsIn K mainGlobals "_law_draws" = some (some (.ref f8))) (l8 : K.lookup f8 = some ⟨oc8, od8, .func (PySem.W.fnOf "_law_draws" "_law_draws" (defArgs s_l_draws) (defBody s_l_draws) (defScope s_l_draws) .none kV8 dc8 pm8 an8 cd8 ct8), sl8⟩) (c8 : PySem.W.codeIn K cd8 "_law_draws" = true) (k8 : PySem.W.keepIn K (.ref f8) = true)
    (a9 : PySem.W.nsIn K mainGlobals "_law_low" = some (some (.ref f9))) (l9 : K.lookup f9 = some ⟨oc9, od9, .func (PySem.W.fnOf "_law_low" "_law_low" (defArgs s_l_low) (defBody s_l_low) (defScope s_l_low) .none kV9 dc9 pm9 an9 cd9 ct9), sl9⟩) (c9 : PySem.W.codeIn K cd9 "_law_low" = true) (k9 : PySem.W.keepIn K (.ref f9) = true)
    (a10 : PySem.W.nsIn K mainGlobals "_law_number" = some (some (.ref f10))) (l10 : K.lookup f10 = some ⟨oc10, od10, .func (PySem.W.fnOf "_law_number" "_law_number" (defArgs s_l_number) (defBody s_l_number) (defScope s_l_number) .none kV10 dc10 pm10 an10 cd10 ct10), sl10⟩) (c10 : PySem.W.codeIn K cd10 "_law_number" = true) (k10 : PySem.W.keepIn K (.ref f10) = true)
    (a11 : PySem.W.nsIn K mainGlobals "_law_more" = some (some (.ref f11))) (l11 : K.lookup f11 = some ⟨oc11, od11, .func (PySem.W.fnOf "_law_more" "_law_more" (defArgs s_l_more) (defBody s_l_more) (defScope s_l_more) .none kV11 dc11 pm11 an11 cd11 ct11), sl11⟩) (c11 : PySem.W.codeIn K cd11 "_law_more" = true) (k11 : PySem.W.keepIn K (.ref f11) = true)
    (a12 : PySem.W.nsIn K mainGlobals "_law_word" = some (some (.ref f12))) (l12 : K.lookup f12 = some ⟨oc12, od12, .func (PySem.W.fnOf "_law_word" "_law_word" (defArgs s_l_word) (defBody s_l_word) (defScope s_l_word) .none kV12 dc12 pm12 an12 cd12 ct12), sl12⟩) (c12 : PySem.W.codeIn K cd12 "_law_word" = true) (k12 : PySem.W.keepIn K (.ref f12) = true)
    (a13 : PySem.W.nsIn K mainGlobals "_law_wish" = some (some (.ref f13))) (l13 : K.lookup f13 = some ⟨oc13, od13, .func (PySem.W.fnOf "_law_wish" "_law_wish" (defArgs s_l_wish) (defBody s_l_wish) (defScope s_l_wish) .none kV13 dc13 pm13 an13 cd13 ct13), sl13⟩) (c13 : PySem.W.codeIn K cd13 "_law_wish" = true) (k13 : PySem.W.keepIn K (.ref f13) = true)
    (a14 : PySem.W.nsIn K mainGlobals "_law_space" = some (some (.ref f14))) (l14 : K.lookup f14 = some ⟨oc14, od14, .func (PySem.W.fnOf "_law_space" "_law_space" (defArgs s_l_space) (defBody s_l_space) (defScope s_l_space) .none kV14 dc14 pm14 an14 cd14 ct14), sl14⟩) (c14 : PySem.W.codeIn K cd14 "_law_space" = true) (k14 : PySem.W.keepIn K (.ref f14) = true)
    (a15 : PySem.W.nsIn K mainGlobals "_law_channel_by" = some (some (.ref f15))) (l15 : K.lookup f15 = some ⟨oc15, od15, .func (PySem.W.fnOf "_law_channel_by" "_law_channel_by" (defArgs s_l_channel_by) (defBody s_l_channel_by) (defScope s_l_channel_by) .none kV15 dc15 pm15 an15 cd15 ct15), sl15⟩) (c15 : PySem.W.codeIn K cd15 "_law_channel_by" = true) (k15 : PySem.W.keepIn K (.ref f15) = true)
    (a16 : PySem.W.nsIn K mainGlobals "_law_cell" = some (some (.ref f16))) (l16 : K.lookup f16 = some ⟨oc16, od16, .func (PySem.W.fnOf "_law_cell" "_law_cell" (defArgs s_l_cell) (defBody s_l_cell) (defScope s_l_cell) .none kV16 dc16 pm16 an16 cd16 ct16), sl16⟩) (c16 : PySem.W.codeIn K cd16 "_law_cell" = true) (k16 : PySem.W.keepIn K (.ref f16) = true)
    (a17 : PySem.W.nsIn K mainGlobals "_law_rows" = some (some (.ref f17))) (l17 : K.lookup f17 = some ⟨oc17, od17, .func (PySem.W.fnOf "_law_rows" "_law_rows" (defArgs s_l_rows) (defBody s_l_rows) (defScope s_l_rows) .none kV17 dc17 pm17 an17 cd17 ct17), sl17⟩) (c17 : PySem.W.codeIn K cd17 "_law_rows" = true) (k17 : PySem.W.keepIn K (.ref f17) = true)
    (a18 : PySem.W.nsIn K mainGlobals "_law_first" = some (some (.ref f18))) (l18 : K.lookup f18 = some ⟨oc18, od18, .func (PySem.W.fnOf "_law_first" "_law_first" (defArgs s_l_first) (defBody s_l_first) (defScope s_l_first) .none kV18 dc18 pm18 an18 cd18 ct18), sl18⟩) (c18 : PySem.W.codeIn K cd18 "_law_first" = true) (k18 : PySem.W.keepIn K (.ref f18) = true)
    (a19 : PySem.W.nsIn K mainGlobals "_law_at" = some (some (.ref f19))) (l19 : K.lookup f19 = some ⟨oc19, od19, .func (PySem.W.fnOf "_law_at" "_law_at" (defArgs s_l_at) (defBody s_l_at) (defScope s_l_at) .none kV19 dc19 pm19 an19 cd19 ct19), sl19⟩) (c19 : PySem.W.codeIn K cd19 "_law_at" = true) (k19 : PySem.W.keepIn K (.ref f19) = true)
    (a20 : PySem.W.nsIn K mainGlobals "_law_due" = some (some (.ref f20))) (l20 : K.lookup f20 = some ⟨oc20, od20, .func (PySem.W.fnOf "_law_due" "_law_due" (defArgs s_l_due) (defBody s_l_due) (defScope s_l_due) .none kV20 dc20 pm20 an20 cd20 ct20), sl20⟩) (c20 : PySem.W.codeIn K cd20 "_law_due" = true) (k20 : PySem.W.keepIn K (.ref f20) = true)
    (a21 : PySem.W.nsIn K mainGlobals "law" = some (some (.ref f21))) (l21 : K.lookup f21 = some ⟨oc21, od21, .func (PySem.W.fnOf "law" "law" (defArgs s_law) (defBody s_law) (defScope s_law) .none kV21 dc21 pm21 an21 cd21 ct21), sl21⟩) (c21 : PySem.W.codeIn K cd21 "law" = true) (k21 : PySem.W.keepIn K (.ref f21) = true)
    (w_MOST_WORDS : PySem.W.nsIn K mainGlobals "MOST_WORDS" = some (some (.int 60 g_MOST_WORDS)))
    (w_MOST_FACETS : PySem.W.nsIn K mainGlobals "MOST_FACETS" = some (some (.int 12 g_MOST_FACETS)))
    (w_NO_FACET : PySem.W.nsIn K mainGlobals "NO_FACET" = some (some (.str "" g_NO_FACET)))
    (n_NoSpace : PySem.W.nsIn K mainGlobals "NoSpace" = some (some (.ref C_NoSpace))) (x_NoSpace : PySem.W.excIn K C_NoSpace bmVE "ValueError.__new__" = true) (e_NoSpace : PySem.W.exmOne K (.ref C_NoSpace) (.ref C_NoSpace) = some true)
    (n_MarkError : PySem.W.nsIn K mainGlobals "MarkError" = some (some (.ref C_MarkError)))
    (n_NoDay : PySem.W.nsIn K mainGlobals "NoDay" = some (some (.ref C_NoDay)))
    (n_NoName : PySem.W.nsIn K mainGlobals "NoName" = some (some (.ref C_NoName)))
    (n_NoNumber : PySem.W.nsIn K mainGlobals "NoNumber" = some (some (.ref C_NoNumber)))
    (n_NoPlan : PySem.W.nsIn K mainGlobals "NoPlan" = some (some (.ref C_NoPlan)))
    (n_NoRow : PySem.W.nsIn K mainGlobals "NoRow" = some (some (.ref C_NoRow)))
    (n_NoTelling : PySem.W.nsIn K mainGlobals "NoTelling" = some (some (.ref C_NoTelling)))
    (n_NoTable : PySem.W.nsIn K mainGlobals "NoTable" = some (some (.ref C_NoTable)))
    (n_TooMany : PySem.W.nsIn K mainGlobals "TooMany" = some (some (.ref C_TooMany)))
    (eo_NoSpace_MarkError : PySem.W.exmOne K (.ref C_NoSpace) (.ref C_MarkError) = some true)
    (y_NoSpace : ExcF K C_NoSpace)
    (kk_NoSpace_NoDay : PySem.W.kitOne K (.ref C_NoSpace) (.ref C_NoDay) = some false)
    (kk_NoSpace_NoName : PySem.W.kitOne K (.ref C_NoSpace) (.ref C_NoName) = some false)
    (kk_NoSpace_NoNumber : PySem.W.kitOne K (.ref C_NoSpace) (.ref C_NoNumber) = some false)
    (kk_NoSpace_NoPlan : PySem.W.kitOne K (.ref C_NoSpace) (.ref C_NoPlan) = some false)
    (kk_NoSpace_NoRow : PySem.W.kitOne K (.ref C_NoSpace) (.ref C_NoRow) = some false)
    (kk_NoSpace_NoTelling : PySem.W.kitOne K (.ref C_NoSpace) (.ref C_NoTelling) = some false)
    (kk_NoSpace_NoTable : PySem.W.kitOne K (.ref C_NoSpace) (.ref C_NoTable) = some false)
    (kk_NoSpace_TooMany : PySem.W.kitOne K (.ref C_NoSpace) (.ref C_TooMany) = some false)
    (kk_NoSpace_NoSpace : PySem.W.kitOne K (.ref C_NoSpace) (.ref C_NoSpace) = some true)
    (kk_NoSpace_ValueError : PySem.W.kitOne K (.ref C_NoSpace) (.type "ValueError") = some true)
    (z_isinstance : PySem.W.nsIn K mainGlobals "isinstance" = some none)
    (z_int : PySem.W.nsIn K mainGlobals "int" = some none)
    (z_tuple : PySem.W.nsIn K mainGlobals "tuple" = some none)
    (z_list : PySem.W.nsIn K mainGlobals "list" = some none)
    (z_abs : PySem.W.nsIn K mainGlobals "abs" = some none)
    (z_len : PySem.W.nsIn K mainGlobals "len" = some none)
    (z_range : PySem.W.nsIn K mainGlobals "range" = some none)
    (z_min : PySem.W.nsIn K mainGlobals "min" = some none)
    (z_enumerate : PySem.W.nsIn K mainGlobals "enumerate" = some none)
    (z_zip : PySem.W.nsIn K mainGlobals "zip" = some none)
    (z_ValueError : PySem.W.nsIn K mainGlobals "ValueError" = some none)
    : ∃ fd : FuncData, (∀ (s : Shared) (v : Value), BindsTo s fd ⟨[v], []⟩ [("_law_script", v)]) ∧ ∀ base : Heap, K.In base → base.Ns mainGlobals mg → FnOk l.prog w K mg base CX0 8 fa fd ["_law_script"] (sp_law K) := by
  have e := hfa.symm.trans (PySem.W.mg_of X G a21)
  cases e
  have F0 := fun_mk (st := s_column_at) l0 c0 k0
  have b0 := F0.binds (ps := ["columns", "name"]) fun _ _ _ _ _ _ us hl => match us, hl with | [_, _], _ => rfl
  have F1 := fun_mk (st := s_words_wished) l1 c1 k1
  have b1 := F1.binds (ps := ["wish", "cells"]) fun _ _ _ _ _ _ us hl => match us, hl with | [_, _], _ => rfl
  have F2 := fun_mk (st := s_cells_there) l2 c2 k2
  have b2 := F2.binds (ps := ["columns", "rows", "name"]) fun _ _ _ _ _ _ us hl => match us, hl with | [_, _, _], _ => rfl
  have F3 := fun_mk (st := s_words_of) l3 c3 k3
  have b3 := F3.binds (ps := ["channel", "columns", "rows", "most"]) fun _ _ _ _ _ _ us hl => match us, hl with | [_, _, _, _], _ => rfl
  have F4 := fun_mk (st := s_facets_of) l4 c4 k4
  have b4 := F4.binds (ps := ["telling", "columns", "rows"]) fun _ _ _ _ _ _ us hl => match us, hl with | [_, _, _], _ => rfl
  have F5 := fun_mk (st := s_rows_in_facets) l5 c5 k5
  have b5 := F5.binds (ps := ["telling", "columns", "rows"]) fun _ _ _ _ _ _ us hl => match us, hl with | [_, _, _], _ => rfl
  have F6 := fun_mk (st := s_ranks_of) l6 c6 k6
  have b6 := F6.binds (ps := ["telling", "columns", "rows"]) fun _ _ _ _ _ _ us hl => match us, hl with | [_, _, _], _ => rfl
  have F7 := fun_mk (st := s_l_cell_at) l7 c7 k7
  have b7 := F7.binds (ps := ["_law_script", "_law_k"]) fun _ _ _ _ _ _ us hl => match us, hl with | [_, _], _ => rfl
  have F8 := fun_mk (st := s_l_draws) l8 c8 k8
  have b8 := F8.binds (ps := ["_law_script", "_law_k", "_law_many"]) fun _ _ _ _ _ _ us hl => match us, hl with | [_, _, _], _ => rfl
  have F9 := fun_mk (st := s_l_low) l9 c9 k9
  have b9 := F9.binds (ps := ["_law_top", "_law_bottom"]) fun _ _ _ _ _ _ us hl => match us, hl with | [_, _], _ => rfl
  have F10 := fun_mk (st := s_l_number) l10 c10 k10
  have b10 := F10.binds (ps := ["_law_d"]) fun _ _ _ _ _ _ us hl => match us, hl with | [_], _ => rfl
  have F11 := fun_mk (st := s_l_more) l11 c11 k11
  have b11 := F11.binds (ps := ["_law_one", "_law_d"]) fun _ _ _ _ _ _ us hl => match us, hl with | [_, _], _ => rfl
  have F12 := fun_mk (st := s_l_word) l12 c12 k12
  have b12 := F12.binds (ps := ["_law_d", "_law_k"]) fun _ _ _ _ _ _ us hl => match us, hl with | [_, _], _ => rfl
  have F13 := fun_mk (st := s_l_wish) l13 c13 k13
  have b13 := F13.binds (ps := ["_law_d", "_law_wanted"]) fun _ _ _ _ _ _ us hl => match us, hl with | [_, _], _ => rfl
  have F14 := fun_mk (st := s_l_space) l14 c14 k14
  have b14 := F14.binds (ps := ["_law_asked", "_law_one", "_law_two", "_law_three"]) fun _ _ _ _ _ _ us hl => match us, hl with | [_, _, _, _], _ => rfl
  have F15 := fun_mk (st := s_l_channel_by) l15 c15 k15
  have b15 := F15.binds (ps := ["_law_name", "_law_d"]) fun _ _ _ _ _ _ us hl => match us, hl with | [_, _], _ => rfl
  have F16 := fun_mk (st := s_l_cell) l16 c16 k16
  have b16 := F16.binds (ps := ["_law_wish_here", "_law_d"]) fun _ _ _ _ _ _ us hl => match us, hl with | [_, _], _ => rfl
  have F17 := fun_mk (st := s_l_rows) l17 c17 k17
  have b17 := F17.binds (ps := ["_law_script", "_law_facet", "_law_colour", "_law_columns", "_law_names"]) fun _ _ _ _ _ _ us hl => match us, hl with | [_, _, _, _, _], _ => rfl
  have F18 := fun_mk (st := s_l_first) l18 c18 k18
  have b18 := F18.binds (ps := ["_law_wish_here", "_law_cells", "_law_most"]) fun _ _ _ _ _ _ us hl => match us, hl with | [_, _, _], _ => rfl
  have F19 := fun_mk (st := s_l_at) l19 c19 k19
  have b19 := F19.binds (ps := ["_law_columns", "_law_rows_here", "_law_name"]) fun _ _ _ _ _ _ us hl => match us, hl with | [_, _, _], _ => rfl
  have F20 := fun_mk (st := s_l_due) l20 c20 k20
  have b20 := F20.binds (ps := ["_law_facet", "_law_colour", "_law_columns", "_law_rows_here"]) fun _ _ _ _ _ _ us hl => match us, hl with | [_, _, _, _], _ => rfl
  have F21 := fun_mk (st := s_law) l21 c21 k21
  have b21 := F21.binds (ps := ["_law_script"]) fun _ _ _ _ _ _ us hl => match us, hl with | [_], _ => rfl
  have T : Txt K mg ⟨_, _, _, _, _, _, _, _, _, _, _, _, _, _, _, _, _, _, _, _, _, _, _, _, _, _, _, _, _, _, _, _, _, _, _, _, _, _, _, _, _, _, _, _, C_NoSpace, C_MarkError, C_NoDay, C_NoName, C_NoNumber, C_NoPlan, C_NoRow, C_NoTelling, C_NoTable, C_TooMany, g_MOST_WORDS, g_MOST_FACETS, g_NO_FACET⟩ := ⟨F0, PySem.W.mg_of X G a0, k0, b0, F1, PySem.W.mg_of X G a1, k1, b1, F2, PySem.W.mg_of X G a2, k2, b2, F3, PySem.W.mg_of X G a3, k3, b3, F4, PySem.W.mg_of X G a4, k4, b4, F5, PySem.W.mg_of X G a5, k5, b5, F6, PySem.W.mg_of X G a6, k6, b6, F7, PySem.W.mg_of X G a7, k7, b7, F8, PySem.W.mg_of X G a8, k8, b8, F9, PySem.W.mg_of X G a9, k9, b9, F10, PySem.W.mg_of X G a10, k10, b10, F11, PySem.W.mg_of X G a11, k11, b11, F12, PySem.W.mg_of X G a12, k12, b12, F13, PySem.W.mg_of X G a13, k13, b13, F14, PySem.W.mg_of X G a14, k14, b14, F15, PySem.W.mg_of X G a15, k15, b15, F16, PySem.W.mg_of X G a16, k16, b16, F17, PySem.W.mg_of X G a17, k17, b17, F18, PySem.W.mg_of X G a18, k18, b18, F19, PySem.W.mg_of X G a19, k19, b19, F20, PySem.W.mg_of X G a20, k20, b20, F21, PySem.W.mg_of X G a21, k21, b21, PySem.W.mg_of X G n_NoSpace, n_NoSpace, x_NoSpace, e_NoSpace, PySem.W.mg_of X G n_MarkError, PySem.W.mg_of X G n_NoDay, PySem.W.mg_of X G n_NoName, PySem.W.mg_of X G n_NoNumber, PySem.W.mg_of X G n_NoPlan, PySem.W.mg_of X G n_NoRow, PySem.W.mg_of X G n_NoTelling, PySem.W.mg_of X G n_NoTable, PySem.W.mg_of X G n_TooMany, eo_NoSpace_MarkError, y_NoSpace, kk_NoSpace_NoDay, kk_NoSpace_NoName, kk_NoSpace_NoNumber, kk_NoSpace_NoPlan, kk_NoSpace_NoRow, kk_NoSpace_NoTelling, kk_NoSpace_NoTable, kk_NoSpace_TooMany, kk_NoSpace_NoSpace, kk_NoSpace_ValueError, PySem.W.mg_of X G w_MOST_WORDS, PySem.W.mg_of X G w_MOST_FACETS, PySem.W.mg_of X G w_NO_FACET, PySem.W.mg_none_of X G z_isinstance, PySem.W.mg_none_of X G z_int, PySem.W.mg_none_of X G z_tuple, PySem.W.mg_none_of X G z_list, PySem.W.mg_none_of X G z_abs, PySem.W.mg_none_of X G z_len, PySem.W.mg_none_of X G z_range, PySem.W.mg_none_of X G z_min, PySem.W.mg_none_of X G z_enumerate, PySem.W.mg_none_of X G z_zip, PySem.W.mg_none_of X G z_ValueError⟩
  exact ⟨PySem.W.fnOf "law" "law" (defArgs s_law) (defBody s_law) (defScope s_law) .none kV21 dc21 pm21 an21 cd21 ct21, fun s v => .of_eq rfl, fun base _ _ => ok_law T⟩
theorem walk {l : PySem.W.OpenLaw} {q : Program} {loose : List Str} {XP : (Str → Option Value) → Heap → Prop} {YP : World → Heap → Prop} {d : DefRec} {K : Params → PySem.W.Frag} (hn : l.most = some 63) (hdf : d.params.defaults = [])
    (hY : ∀ (w : World) (h : Heap), YP w h → (K w.params).In h)
    (F : ∀ (w : World) (mg : Str → Option Value) (fa : Addr) (h : Heap), (K w.params).In h → h.Ns mainGlobals mg → mg d.name = some (.ref fa) →
      ∃ fd : FuncData, (∀ (s : Shared) (u : Value), BindsTo s fd ⟨[u], []⟩ [("_law_script", u)]) ∧ ∀ base : Heap, (K w.params).In base → base.Ns mainGlobals mg → FnOk l.prog w (K w.params) mg base CX0 8 fa fd ["_law_script"] (sp_law (K w.params))) :
    PySem.W.WalkO q loose XP YP l.row.toRowW d [] (fun f vs => PySem.call f vs) :=
  L2.walk_ofB (n := 63) (k := 8) (x := "_law_script") (CX := fun _ => CX0) (sp := fun w => sp_law (K w.params)) hn (by decide) hdf ⟨rfl, by decide, by decide⟩ hY F (fun _ _ a ns hl hbt _ hS => ⟨a, ns, rfl, hS, hl, hbt, fun _ => rfl⟩) fun _ _ _ _ _ z => z
end MyLaw
open PySem PySem.W PyProof.Rows
set_option maxRecDepth 100000 in
set_option maxHeartbeats 0 in
theorem PySem.Challenge.cw_markscale_k46_facets_and_ranks_holds : PySem.Challenge.rw_markscale_k46_facets_and_ranks.Holds := by
  w_on; o_law
  refine holds_open (q := MyLaw.hdV) (loose := []) (Xt := MyLaw.hdX MyLaw.hdV) (XP := XL MyLaw.hdV [])
    (Yf := Hook.obs (kHook MyLaw.hdKs.heap_1 MyLaw.hdKs MyLaw.hdKe)) (Ya := Hook.val (kHook MyLaw.hdKs.heap_1 MyLaw.hdKs MyLaw.hdKe)) (YP := Hook.says (kHook MyLaw.hdKs.heap_1 MyLaw.hdKs MyLaw.hdKe)) (N := 5970)
    MyLaw.hdL (Hook.of _) (Hook.keeps _) (fun s z => xl_of s (Bool.and_eq_true_iff.mp z).1) XL.keeps (by rfl)
    (by rfl) (by rfl) (fun s z => recFacts_of (Bool.and_eq_true_iff.mp z).2) (by rfl)
    (by first | assumption | decide +kernel) (by decide +kernel)
    ⟨rfl, rfl, rfl, rfl, rfl, by decide +kernel⟩ ?hw ?hc
  (case hw => w_witness2)
  k_fill
  refine MyLaw.walk (l := PySem.Challenge.rw_markscale_k46_facets_and_ranks) rfl rfl (fun w h Y => PySem.W.kIn_of Y) ?F
  case F =>
    intro w mg fa h KX G hmg
    refine' MyLaw.all_mk KX G hmg ?a0 ?l0 ?c0 ?k0 ?a1 ?l1 ?c1 ?k1 ?a2 ?l2 ?c2 ?k2 ?a3 ?l3 ?c3 ?k3 ?a4 ?l4 ?c4 ?k4 ?a5 ?l5 ?c5 ?k5 ?a6 ?l6 ?c6 ?k6 ?a7 ?l7 ?c7 ?k7 ?a8 ?l8 ?c8 ?k8 ?a9 ?l9 ?c9 ?k9 ?a10 ?l10 ?c10 ?k10 ?a11 ?l11 ?c11 ?k11 ?a12 ?l12 ?c12 ?k12 ?a13 ?l13 ?c13 ?k13 ?a14 ?l14 ?c14 ?k14 ?a15 ?l15 ?c15 ?k15 ?a16 ?l16 ?c16 ?k16 ?a17 ?l17 ?c17 ?k17 ?a18 ?l18 ?c18 ?k18 ?a19 ?l19 ?c19 ?k19 ?a20 ?l20 ?c20 ?k20 ?a21 ?l21 ?c21 ?k21 ?w_MOST_WORDS ?w_MOST_FACETS ?w_NO_FACET ?n_NoSpace ?x_NoSpace ?e_NoSpace ?n_MarkError ?n_NoDay ?n_NoName ?n_NoNumber ?n_NoPlan ?n_NoRow ?n_NoTelling ?n_NoTable ?n_TooMany ?eo_NoSpace_MarkError ?y_NoSpace ?kk_NoSpace_NoDay ?kk_NoSpace_NoName ?kk_NoSpace_NoNumber ?kk_NoSpace_NoPlan ?kk_NoSpace_NoRow ?kk_NoSpace_NoTelling ?kk_NoSpace_NoTable ?kk_NoSpace_TooMany ?kk_NoSpace_NoSpace ?kk_NoSpace_ValueError ?z_isinstance ?z_int ?z_tuple ?z_list ?z_abs ?z_len ?z_range ?z_min ?z_enumerate ?z_zip ?z_ValueError
    all_goals try k_is
    (case x_NoSpace => k_exc)
    (case e_NoSpace => kts_exm)
    (case eo_NoSpace_MarkError => kts_exm)
    (case y_NoSpace => (refine' ⟨?_, ?_, ?_, ?_, ?_, ?_, ?_⟩ <;> k_is))
    (case kk_NoSpace_NoDay => kit_is)
    (case kk_NoSpace_NoName => kit_is)
    (case kk_NoSpace_NoNumber => kit_is)
    (case kk_NoSpace_NoPlan => kit_is)
    (case kk_NoSpace_NoRow => kit_is)
    (case kk_NoSpace_NoTelling => kit_is)
    (case kk_NoSpace_NoTable => kit_is)
    (case kk_NoSpace_TooMany => kit_is)
    (case kk_NoSpace_NoSpace => kit_is)
    (case kk_NoSpace_ValueError => kit_is)
