import PyProof.Rows.All
import Wide.All
import OpenK.AllK
import Wide.FinOn
import Lean
import PyProof.EqAt
import PyProof.EqKinds
import PyProof.TupleCall
import PyProof.NeKinds
import PyProof.SumWalkG
import PySem.Challenge.RW_markscale_k10_cells_as_texts
set_option compiler.extract_closed false
set_option Elab.async false
set_option linter.all false
set_option maxRecDepth 100000
section
set_option maxRecDepth 100000
set_option maxHeartbeats 0
namespace MyLaw
open PySem PySem.W
noncomputable def hdF (s : String) : Str := ⟨⟨(PySem.W.S.toListS s).map Char.toNat⟩⟩
theorem hdFe : @Str.ofString = hdF := by
  rw [Str.ofString_eq_byList]; funext s
  show (⟨⟨(String.toList s).map Char.toNat⟩⟩ : Str) = _
  rw [PySem.W.S.toListS_eq]; rfl
abbrev hdP : Program := PySem.Challenge.pw_markscale_k10_cells_as_texts
abbrev hdR : OpenRow := OpenLaw.row PySem.Challenge.rw_markscale_k10_cells_as_texts
noncomputable def hdG : PSigma fun G : (String → Str) → Program => PySem.Challenge.pw_markscale_k10_cells_as_texts = G Str.ofString := by
  apply PSigma.mk
  case snd =>
    delta PySem.Challenge.pw_markscale_k10_cells_as_texts
    generalize Str.ofString = f
    exact rfl
noncomputable def hdK : List Nat := [1, 2, 3, 4, 6, 7, 8, 11, 12, 13, 14, 15, 16, 17, 18, 20, 21, 22, 23, 24, 25, 26, 27, 28, 29, 30, 31, 32, 33, 34, 35, 37, 38, 39, 40, 42, 43, 44, 45, 47, 48, 49, 50, 51, 52, 53, 54, 55, 56, 57, 58, 59, 60, 61, 62]
noncomputable def hdV : Program := PySem.W.view hdP hdK
end MyLaw
noncomputable def PySem.W.Fast.tw11191394436042753453 : PySem.Program := MyLaw.hdG.1 MyLaw.hdF
theorem PySem.W.Fast.te11191394436042753453 : PySem.Challenge.pw_markscale_k10_cells_as_texts = PySem.W.Fast.tw11191394436042753453 := MyLaw.hdG.2.trans (congrArg MyLaw.hdG.1 MyLaw.hdFe)
namespace MyLaw
open PySem PySem.W
noncomputable abbrev hdQ : Program := PySem.W.Fast.tw11191394436042753453
noncomputable def hdT : Program := PySem.W.view hdQ hdK
theorem hdE : hdV = hdT := congrArg (fun p => PySem.W.view p hdK) PySem.W.Fast.te11191394436042753453
noncomputable abbrev hdX (q : Program) (s : Shared) : Bool := xlAt q [] s && recOk (OpenRow.toRowW hdR).records s
def HdHyp (K : Params → Frag) (as : List Addr) : Prop := ∀ (K' : Params → Frag) (as' : List Addr), (∀ P, as' = (K' P).map (·.1)) → K' = K → as' = as → hdR.Holds
def hdPick (K : Params → Frag) (as : List Addr) (_ : HdHyp K as → hdR.Holds) (e : ∀ P, as = (K P).map (·.1)) : List Addr := let _ := e; as
local macro_rules
  | `(tactic| o_head (kHook $K $as $e)) => `(tactic| exact (show MyLaw.HdHyp _ _ from by assumption) $K $as $e rfl rfl)
noncomputable def hdKs : List Addr := by
  apply hdPick
  case x => intro hyp; k_head
  case e => intro P; kernel_rfl
noncomputable abbrev hdKf : Params → Frag := MyLaw.hdKs.heap_1
theorem hdKe : ∀ P, hdKs = (MyLaw.hdKs.heap_1 P).map (·.1) := by intro P; kernel_rfl
noncomputable def hdKG : PSigma fun G : (String → Str) → Params → Frag => MyLaw.hdKs.heap_1 = G Str.ofString := by
  apply PSigma.mk
  case snd =>
    delta MyLaw.hdKs.heap_1
    generalize Str.ofString = f
    exact rfl
noncomputable def hdTp (tb : String → Option Builtin) (p : Program) (w : World) (n₀ : Nat) (ann : Option Value) : Nat → SharedT → Thread → Option SharedT
  | 0, _, _ => none
  | n + 1, s, t => match through t with
    | true => some s
    | false => match stepOk n₀ ann t with
      | false => none
      | true => match stepT (denote tb) p w s t with
        | some (s', t') => hdTp tb p w n₀ ann n s' t'
        | none => none
theorem hdTp_of {tb : String → Option Builtin} {p : Program} {w : World} {n₀ : Nat} {ann : Option Value} : ∀ {n : Nat} {s r : SharedT} {t : Thread}, hdTp tb p w n₀ ann n s t = some r → topRun tb p w n₀ ann n s.abs t = some r.abs
  | 0, _, _, _, h => by cases h
  | n + 1, s, r, t, h => by
    unfold hdTp at h
    unfold topRun
    cases he : through t with
    | true => rw [he] at h; cases h; rfl
    | false =>
      rw [he] at h
      cases hk : stepOk n₀ ann t with
      | false => rw [hk] at h; cases h
      | true =>
        rw [hk] at h
        cases hs : stepT (denote tb) p w s t with
        | none => rw [hs] at h; cases h
        | some q => obtain ⟨s₂, t₂⟩ := q; rw [hs] at h; rw [stepT_spec hs]; exact hdTp_of h
noncomputable def hdFill : List Obj → Nat → BT → BT
  | [], _, t => t
  | o :: r, i, t => hdFill r (i + 1) (t.ins i o)
noncomputable def hdTo (s : Shared) : SharedT := ⟨hdFill s.heap.objs.toList 0 .nil, s.heap.objs.size, s.heap.life, s.gens, s.drawn, s.toks, s.os⟩
noncomputable abbrev hdTb := PySem.W.Fast.tw14364793385576792824
noncomputable abbrev hdAft (s₀ s₁ : Shared) : Option Shared := match staticsOk (importedModules hdQ.main.body) s₀.heap s₁.heap && namesBound hdQ s₁.heap && gensDone s₁ && laidKept s₀.heap s₁.heap with
  | true => some s₁
  | false => none
noncomputable def hdFrom (w : World) (s₀ : Shared) : Option Shared := match s₀.heap.isNs mainGlobals && s₀.gens.size == 0 with
  | true => (hdTp hdTb hdQ w s₀.heap.objs.size (s₀.heap.nsMap mainGlobals "__annotations__") 4626 (hdTo s₀) (topStub hdQ)).bind fun r => hdAft s₀ r.abs
  | false => none
noncomputable def hdRun (w : World) : Option Shared := (fencedOpening hdTb hdQ w 4626).bind (hdFrom w)
theorem hdO : ∀ w : World, (fencedOpening hdTb hdQ w 4626).map (fun s => (hdTo s).abs) = fencedOpening hdTb hdQ w 4626 := by intro w; kernel_rfl
theorem hdRun_of {w : World} {s : Shared} (h : hdRun w = some s) : openEnds hdTb hdQ w 4626 = some s := by
  unfold hdRun at h
  unfold openEnds
  have o := hdO w
  generalize fencedOpening hdTb hdQ w 4626 = x at h o ⊢
  cases x with
  | none => cases h
  | some s₀ =>
    have o : (hdTo s₀).abs = s₀ := Option.some.inj o
    have h : hdFrom w s₀ = some s := h
    show topFrom hdTb hdQ w 4626 s₀ = some s
    unfold hdFrom at h
    unfold topFrom
    cases hb : (s₀.heap.isNs mainGlobals && s₀.gens.size == 0) with
    | false => rw [hb] at h; cases h
    | true =>
      rw [hb] at h
      dsimp only at h ⊢
      obtain ⟨r, h1, h2⟩ := Option.bind_eq_some_iff.mp h
      have h3 := hdTp_of h1
      rw [o] at h3
      rw [h3]
      exact h2
noncomputable abbrev hdSee (s : Shared) := PySem.W.Fast.tw4187177175401517315 hdT [hdF "number"] (PySem.W.Fast.tw5923862056798008813 hdQ.main.body) (hdX hdT) true s
noncomputable abbrev hdGood := openGood hdT [hdF "number"]
theorem hdA : ∀ w : World, Option.map (fun s => (hdSee s).1) (hdRun w) = some hdGood.1 := by intro w; kernel_rfl
theorem hdB : ∀ w : World, Option.map (fun s => ((hdSee s).2.1, (hdSee s).2.2.1, (hdSee s).2.2.2.1)) (hdRun w) = some (hdGood.2.1, hdGood.2.2.1, hdGood.2.2.2.1) := by intro w; kernel_rfl
theorem hdC : ∀ w : World, Option.map (fun s => (hdSee s).2.2.2.2) (hdRun w) = some hdGood.2.2.2.2 := by intro w; kernel_rfl
theorem hdD : ∀ w : World, Option.map (fun s => hdKs.map s.heap.get?) (hdRun w) = some ((hdKG.1 hdF w.params).map fun p => some p.2) := by intro w; kernel_rfl
theorem hdL : LeftO hdR.prog hdV [Str.ofString "number"] (hdX hdV) (kHook hdKf hdKs hdKe).obs (kHook hdKf hdKs hdKe).val 4626 := by
  intro w
  show Option.map (fun s => (openSeen hdV [Str.ofString "number"] (importedModules (PySem.Challenge.pw_markscale_k10_cells_as_texts).main.body) (hdX hdV) true s, hdKs.map s.heap.get?)) (openEnds treeTable PySem.Challenge.pw_markscale_k10_cells_as_texts w 4626) = some (openGood hdV [Str.ofString "number"], (hdKf w.params).map fun p => some p.2)
  have eK : hdKf = hdKG.1 hdF := hdKG.2.trans (congrArg hdKG.1 hdFe)
  rw [hdE, hdFe, PySem.W.Fast.te11191394436042753453, PySem.W.Fast.te4187177175401517315, PySem.W.Fast.te5923862056798008813, PySem.W.Fast.te14364793385576792824, eK]
  have a := hdA w
  have b := hdB w
  have c := hdC w
  have d := hdD w
  cases hx : hdRun w with
  | none => rw [hx] at a; cases a
  | some s =>
    rw [hx] at a b c d
    rw [show openEnds PySem.W.Fast.tw14364793385576792824 PySem.W.Fast.tw11191394436042753453 w 4626 = some s from hdRun_of hx]
    have a : (hdSee s).1 = hdGood.1 := Option.some.inj a
    have b := Option.some.inj b
    have c : (hdSee s).2.2.2.2 = hdGood.2.2.2.2 := Option.some.inj c
    have d : hdKs.map s.heap.get? = (hdKG.1 hdF w.params).map fun p => some p.2 := Option.some.inj d
    obtain ⟨b1, b2⟩ := Prod.mk.inj b
    obtain ⟨b2, b3⟩ := Prod.mk.inj b2
    show some (hdSee s, hdKs.map s.heap.get?) = some (hdGood, _)
    rw [d]
    generalize hdSee s = y at a b1 b2 b3 c ⊢
    obtain ⟨y1, y2, y3, y4, y5⟩ := y
    subst a b1 b2 b3 c
    rfl
end MyLaw
end
namespace L2
open PySem PySem.Spec PyProof.Rows

abbrev Key := Sum Int Str
noncomputable def keyIs : Key → Value → Bool
  | .inl k, v => Value.isInt k v
  | .inr x, v => Value.isStrOf x v
noncomputable def keyH (w : World) : Key → Int
  | .inl k => hashInt k
  | .inr x => hashStr w x
theorem keyIs_shape : ∀ {k : Key} {v : Value}, keyIs k v = true → (∃ i t, k = Sum.inl i ∧ v = Value.int i t) ∨ (∃ x t, k = Sum.inr x ∧ v = Value.str x t)
  | .inl i, v, h => by
    obtain ⟨t, e⟩ := Value.isInt_shape (k := i) (v := v) h
    exact .inl ⟨i, t, rfl, e⟩
  | .inr x, v, h => by
    obtain ⟨t, e⟩ := Value.isStrOf_shape (x := x) (v := v) h
    exact .inr ⟨x, t, rfl, e⟩
theorem key_ll (a b : Int) : decide ((Sum.inl a : Key) = Sum.inl b) = (a == b) := by
  by_cases e : a = b
  · subst e; simp
  · have h : ¬ (Sum.inl a : Key) = Sum.inl b := fun q => e (Sum.inl.inj q)
    rw [decide_eq_false h]
    exact (beq_eq_false_iff_ne.mpr e).symm
theorem key_rr (a b : Str) : decide ((Sum.inr a : Key) = Sum.inr b) = decide (a = b) := by
  by_cases e : a = b
  · subst e; simp
  · have h : ¬ (Sum.inr a : Key) = Sum.inr b := fun q => e (Sum.inr.inj q)
    rw [decide_eq_false h, decide_eq_false e]
theorem key_lr (a : Int) (b : Str) : decide ((Sum.inl a : Key) = Sum.inr b) = false := decide_eq_false (fun q => nomatch q)
theorem key_rl (a : Str) (b : Int) : decide ((Sum.inr a : Key) = Sum.inl b) = false := decide_eq_false (fun q => nomatch q)

noncomputable def mixKind (prog : Program) (w : World) : PySem.KeyKind prog w Key where
  is := keyIs
  hash := keyH w
  inj := fun v a b ha hb => by
    rcases keyIs_shape ha with ⟨i, t, rfl, rfl⟩ | ⟨x, t, rfl, rfl⟩
    · rcases keyIs_shape hb with ⟨j, u, rfl, e⟩ | ⟨y, u, rfl, e⟩
      · injection e with e1 _; rw [e1]
      · exact nomatch e
    · rcases keyIs_shape hb with ⟨j, u, rfl, e⟩ | ⟨y, u, rfl, e⟩
      · exact nomatch e
      · injection e with e1 _; rw [e1]
  byValue := fun k v h => by
    rcases keyIs_shape h with ⟨i, t, rfl, rfl⟩ | ⟨x, t, rfl, rfl⟩ <;> rfl
  pyHash := fun hv h => by
    rcases keyIs_shape hv with ⟨i, t, rfl, rfl⟩ | ⟨x, t, rfl, rfl⟩
    · exact wpAny_pyHash_int h
    · exact wpAny_pyHash_str h
  eqBool := fun hu hv h => by
    rcases keyIs_shape hu with ⟨i, t, rfl, rfl⟩ | ⟨x, t, rfl, rfl⟩
    · rcases keyIs_shape hv with ⟨j, u, rfl, rfl⟩ | ⟨y, u, rfl, rfl⟩
      · rw [key_ll] at h; exact wpAny_eqBool_int h
      · rw [key_lr] at h; exact SeqAt.EqAt.int_str i t y u _ _ _ _ h
    · rcases keyIs_shape hv with ⟨j, u, rfl, rfl⟩ | ⟨y, u, rfl, rfl⟩
      · rw [key_rl] at h; exact SeqAt.EqAt.str_int x t j u _ _ _ _ h
      · rw [key_rr] at h; exact wpAny_eqBool_str h
  «strs» := fun k x t v h => by
    rcases keyIs_shape h with ⟨i, u, rfl, e⟩ | ⟨y, u, rfl, e⟩
    · exact nomatch e
    · injection e with e1 _
      subst e1
      cases v <;> rfl

end L2

namespace L2
open PySem PySem.Spec PyProof.Rows

inductive V where
  | non | bl (b : Bool) | int (i : Int) | str (x : Str) | byt (b : Array UInt8) | flt (b : UInt64) | ref (a : Addr) | ty (n : String)
  deriving DecidableEq

noncomputable def RelV : V → Value → Prop
  | .non, u => u = Value.none
  | .bl b, u => u = Value.bool b
  | .int i, u => ∃ t, u = Value.int i t
  | .str x, u => ∃ t, u = Value.str x t
  | .byt b, u => ∃ t, u = Value.bytes b t
  | .flt b, u => ∃ t, u = Value.float b t
  | .ref a, u => u = Value.ref a
  | .ty n, u => u = Value.type n

abbrev Vals : List V → List Value → Prop := Paired RelV
theorem Vals.length {xs : List V} {us : List Value} (r : Vals xs us) : xs.length = us.length := Paired.length r
theorem Vals.get : ∀ {xs : List V} {us : List Value} {i : Nat} {x : V}, Vals xs us → xs[i]? = some x → ∃ u, us[i]? = some u ∧ RelV x u
  | _, _, _, _, .nil, e => by simp at e
  | _, _, 0, _, .cons r _, e => by simp at e; subst e; exact ⟨_, rfl, r⟩
  | _, _, i + 1, x, .cons _ t, e => by
    obtain ⟨u, h1, h2⟩ := Vals.get (i := i) (x := x) t (by simpa using e)
    exact ⟨u, by simpa using h1, h2⟩
theorem Vals.set {x : V} {u : Value} (r : RelV x u) : ∀ {xs : List V} {us : List Value} (i : Nat), Vals xs us → Vals (xs.set i x) (us.set i u)
  | _, _, _, .nil => .nil
  | _, _, 0, .cons _ t => .cons r t
  | _, _, i + 1, .cons q t => .cons q (Vals.set r i t)
theorem Vals.append : ∀ {xs ys : List V} {us ws : List Value}, Vals xs us → Vals ys ws → Vals (xs ++ ys) (us ++ ws)
  | _, _, _, _, .nil, s => s
  | _, _, _, _, .cons r t, s => .cons r (Vals.append t s)
theorem Vals.take : ∀ {xs : List V} {us : List Value} (n : Nat), Vals xs us → Vals (xs.take n) (us.take n)
  | _, _, 0, _ => .nil
  | _, _, _ + 1, .nil => .nil
  | _, _, n + 1, .cons r t => .cons r (Vals.take n t)
theorem Vals.drop : ∀ {xs : List V} {us : List Value} (n : Nat), Vals xs us → Vals (xs.drop n) (us.drop n)
  | _, _, 0, r => r
  | _, _, _ + 1, .nil => .nil
  | _, _, n + 1, .cons _ t => Vals.drop n t
noncomputable def RelO : Option V → Option Value → Prop
  | some v, some u => RelV v u
  | none, none => True
  | _, _ => False
noncomputable def KV {κ : Type} : List (κ × V) → List (κ × Value) → Prop := Paired fun (p : κ × V) (q : κ × Value) => p.1 = q.1 ∧ RelV p.2 q.2

noncomputable def kV : Key → V
  | .inl i => .int i
  | .inr x => .str x

inductive HO where
  /-- a list -/
  | lst (xs : List V)
  /-- a tuple (never changes) -/
  | tup (xs : List V)
  /-- a dict whose keys are ints and texts; one whose keys are tuples of ints and texts (the empty one is both) -/
  | dK (kvs : List (Key × V)) | dT (kvs : List (List Key × V))
  /-- a set of ints: its members, its size -/
  | set (S : Int → Bool) (n : Nat)
  /-- an instance of the class at C, its dict at dx, its attributes -/
  | ins (C dx : Addr) (fs : List (Str × V))
  /-- the dict of the instance at x -/
  | own (x : Addr)
  /-- the dict of an exception -/
  | xd (fs : List (Str × V))
  /-- a bound method, f of x -/
  | met (f x : Addr)
  /-- a range object lo, lo + 1, .. below hi -/
  | rng (lo hi : Int)
  /-- a thing that is known to the object (the script; a dict while a loop walks it): read, never written while it is so -/
  | frz (o : Obj) (u : HO)
  /-- a code object's table -/
  | tbl (ps : Array Value)
  /-- any other thing, by what is true of its one object (a def of one's own: SetO a S n := HO.ext fun h => ..) -/
  | ext (φ : Heap → Prop)

abbrev Hp := Addr → Option HO
noncomputable def upd (H : Hp) (a : Addr) (o : HO) : Hp := fun b => if b = a then some o else H b
theorem upd_same {H : Hp} {a : Addr} {o : HO} : upd H a o a = some o := by unfold upd; rw [if_pos rfl]
theorem upd_ne {H : Hp} {a b : Addr} {o : HO} (h : b ≠ a) : upd H a o b = H b := by unfold upd; rw [if_neg h]
theorem ne_of_none {H : Hp} {a b : Addr} {o : HO} (h : H a = some o) (h' : H b = none) : a ≠ b := by
  intro e; subst e; rw [h] at h'; cases h'

section
variable (P : Program) (w : World)
noncomputable def ObjOk (H : Hp) (h : Heap) (a : Addr) : HO → Prop
  | .lst xs => xs.length ≤ sizeLine ∧ ∃ (its : List Value) (n : Nat), Vals xs its ∧ h.get? a = some { cls := .type "list", data := .seq its.toArray n }
  | .tup xs => xs.length ≤ sizeLine ∧ ∃ its : List Value, Vals xs its ∧ IsTup h a its.toArray
  | .dK kvs => kvs.length ≤ sizeLine ∧ (a == sysModules) = false ∧ ∃ vs, KV kvs vs ∧ h.DictOf (mixKind P w) a vs
  | .dT kvs => kvs.length ≤ sizeLine ∧ (a == sysModules) = false ∧ ∃ xs : List (List Key × Addr × Value),
      Paired (fun (p : List Key × V) (q : List Key × Addr × Value) => p.1 = q.1 ∧ H q.2.1 = some (.tup (p.1.map kV)) ∧ RelV p.2 q.2.2) kvs xs ∧
      ∃ o es ep, h.get? a = some o ∧ o.ExactDict ∧ o.data = .dict es ep ∧ es.toList = xs.map (entryOfKey (tupleKind (mixKind P w))) ∧ (xs.map (·.1)).Nodup
  | .set S n => h.SetOf (intKind P w) a S n
  | .ins C dx fs => H dx = some (.own a) ∧ fs.length ≤ 1000 ∧ dx ≠ a ∧ h.get? a = some (PySem.W.instObj C dx) ∧
      ∃ mA, h.Ns1 dx mA ∧ (∀ f, RelO (fs.lookup f) (mA f)) ∧ PySem.Within mA (fs.map (·.1))
  | .own _ => ∃ o, h.get? a = some o
  | .xd fs => ∃ mA, h.Ns1 a mA ∧ ∀ f, RelO (fs.lookup f) (mA f)
  | .rng lo hi => ∃ t u v, h.get? a = some { cls := .type "range", data := .fields #[.int lo t, .int hi u, .int 1 v] }
  | .frz o u => h.get? a = some o ∧ ObjOk H h a u
  | .tbl ps => h.get? a = some { cls := .none, data := .fields ps }
  | .met f x => h.get? a = some (PySem.W.methodObj (.ref f) (.ref x))
  | .ext φ => φ h ∧ (∃ o, h.get? a = some o) ∧ ∀ h1 h2 : Heap, φ h1 → (∀ o, h1.get? a = some o → h2.get? a = some o) → φ h2
noncomputable def HOk (H : Hp) (h : Heap) : Prop := ∀ a o, H a = some o → ObjOk P w H h a o
end

section
variable {P : Program} {w : World} {H H' : Hp} {h h' : Heap} {a : Addr} {o : HO}
theorem ObjOk.lt (x : ObjOk P w H h a o) : a < h.objs.size := by
  cases o with
  | lst xs => obtain ⟨_, _, _, _, e⟩ := x; exact Heap.lt_size e
  | tup xs => obtain ⟨_, _, _, p⟩ := x; exact p.lt
  | dK kvs => obtain ⟨_, _, _, _, o, _, _, e, _⟩ := x; exact Heap.lt_size e
  | dT kvs => obtain ⟨_, _, _, _, o, _, _, e, _⟩ := x; exact Heap.lt_size e
  | set S n => obtain ⟨o, _, _, _, e, _⟩ := x; exact Heap.lt_size e
  | ins C dx fs => obtain ⟨_, _, _, e, _⟩ := x; exact Heap.lt_size e
  | own y => obtain ⟨_, e⟩ := x; exact Heap.lt_size e
  | xd fs => obtain ⟨_, ⟨_, _, _, e, _⟩, _⟩ := x; exact Heap.lt_size e
  | rng lo hi => obtain ⟨_, _, _, e⟩ := x; exact Heap.lt_size e
  | frz ob u => obtain ⟨e, _⟩ := x; exact Heap.lt_size e
  | tbl ps => exact Heap.lt_size (show h.get? a = some _ from x)
  | met f y => exact Heap.lt_size (show h.get? a = some _ from x)
  | ext φ => obtain ⟨_, ⟨_, e⟩, _⟩ := x; exact Heap.lt_size e
theorem Paired.mapP {α β : Type} {F G : α → β → Prop} : ∀ {l₁ : List α} {l₂ : List β}, Paired F l₁ l₂ → (∀ a b, F a b → G a b) → Paired G l₁ l₂
  | _, _, .nil, _ => .nil
  | _, _, .cons r t, f => .cons (f _ _ r) (Paired.mapP t f)
theorem ObjOk.stay (x : ObjOk P w H h a o) (k : ∀ b u, (b = a ∨ H b = some (.own a)) → h.get? b = some u → h'.get? b = some u)
    (ho : ∀ b, H b = some (.own a) → H' b = some (.own a)) (ht : ∀ b xs, H b = some (.tup xs) → H' b = some (.tup xs)) : ObjOk P w H' h' a o := by
  induction o with
  | lst xs => obtain ⟨z, its, n, r, e⟩ := x; exact ⟨z, its, n, r, k _ _ (.inl rfl) e⟩
  | tup xs => obtain ⟨z, its, r, ob, e, c⟩ := x; exact ⟨z, its, r, ob, k _ _ (.inl rfl) e, c⟩
  | dK kvs => obtain ⟨z, y, vs, r, ob, es, ep, e, c⟩ := x; exact ⟨z, y, vs, r, ob, es, ep, k _ _ (.inl rfl) e, c⟩
  | dT kvs =>
    obtain ⟨z, y, xs, r, ob, es, ep, e, c⟩ := x
    exact ⟨z, y, xs, Paired.mapP r fun p q z => ⟨z.1, ht _ _ z.2.1, z.2.2⟩, ob, es, ep, k _ _ (.inl rfl) e, c⟩
  | set S n => obtain ⟨ob, es, ep, t, e, c⟩ := x; exact ⟨ob, es, ep, t, k _ _ (.inl rfl) e, c⟩
  | ins C dx fs =>
    obtain ⟨d, z, ne, e, mA, ⟨od, es, ep, e2, c⟩, r⟩ := x
    exact ⟨ho _ d, z, ne, k _ _ (.inl rfl) e, mA, ⟨od, es, ep, k _ _ (.inr d) e2, c⟩, r⟩
  | own y => obtain ⟨ob, e⟩ := x; exact ⟨ob, k _ _ (.inl rfl) e⟩
  | xd fs => obtain ⟨mA, ⟨od, es, ep, e, c⟩, r⟩ := x; exact ⟨mA, ⟨od, es, ep, k _ _ (.inl rfl) e, c⟩, r⟩
  | rng lo hi => obtain ⟨t, u, v, e⟩ := x; exact ⟨t, u, v, k _ _ (.inl rfl) e⟩
  | frz ob u ih => obtain ⟨e, q⟩ := x; exact ⟨k _ _ (.inl rfl) e, ih q⟩
  | tbl ps =>
    have e : h.get? a = some { cls := .none, data := .fields ps } := x
    show h'.get? a = some { cls := .none, data := .fields ps }
    exact k a _ (.inl rfl) e
  | met f y =>
    have e : h.get? a = some (PySem.W.methodObj (.ref f) (.ref y)) := x
    show h'.get? a = some (PySem.W.methodObj (.ref f) (.ref y))
    exact k a _ (.inl rfl) e
  | ext φ => obtain ⟨p, ⟨o, e⟩, st⟩ := x; exact ⟨st _ _ p fun o q => k _ _ (.inl rfl) q, ⟨o, k _ _ (.inl rfl) e⟩, st⟩
theorem HOk.lt (x : HOk P w H h) (e : H a = some o) : a < h.objs.size := (x a o e).lt
theorem HOk.fresh (x : HOk P w H h) (e : h.objs.size ≤ a) : H a = none := by
  cases q : H a with
  | none => rfl
  | some u => exact absurd (Nat.lt_of_lt_of_le (x.lt q) e) (Nat.lt_irrefl _)
theorem HOk.kept (x : HOk P w H h) (k : ∀ b u, h.get? b = some u → h'.get? b = some u) : HOk P w H h' := fun a o e =>
  (x a o e).stay (fun b u _ q => k b u q) (fun _ q => q) fun _ _ q => q
theorem HOk.laid (x : HOk P w H h) (k : ∀ b u, h.get? b = some u → h'.get? b = some u) (hp : h.objs.size ≤ a) (new : ObjOk P w (upd H a o) h' a o) : HOk P w (upd H a o) h' := fun b u e => by
  have hn := x.fresh hp
  by_cases hb : b = a
  · subst hb; rw [upd_same] at e; cases e; exact new
  · rw [upd_ne hb] at e
    exact (x b u e).stay (fun c v _ q => k c v q) (fun c q => by rw [upd_ne (ne_of_none q hn)]; exact q) fun c xs q => by rw [upd_ne (ne_of_none q hn)]; exact q
end

noncomputable def Rd (H : Hp) (a : Addr) (u : HO) : Prop := H a = some u ∨ ∃ o, H a = some (.frz o u)
theorem Rd.of {H : Hp} {a : Addr} {u : HO} (h : H a = some u) : Rd H a u := .inl h
theorem Rd.ok {P : Program} {w : World} {H : Hp} {h : Heap} {a : Addr} {u : HO} (r : Rd H a u) (x : HOk P w H h) : ObjOk P w H h a u := by
  rcases r with r | ⟨o, r⟩
  · exact x a u r
  · obtain ⟨_, q⟩ := x a _ r
    exact q
noncomputable def Mut : Option HO → Prop
  | some (.lst _) => True
  | some (.dK _) => True
  | some (.dT _) => True
  | some (.set _ _) => True
  | some (.ins _ _ _) => True
  | some (.ext _) => True
  | _ => False
section
variable {P : Program} {w : World} {H : Hp} {h h' : Heap} {x e : Addr} {o' : HO}
theorem HOk.write (ok : HOk P w H h) (mu : Mut (H x)) (he : e = x ∨ H e = some (.own x)) (k : ∀ b u, b ≠ e → h.get? b = some u → h'.get? b = some u) (heo : ∃ u, h'.get? e = some u)
    (new : ObjOk P w (upd H x o') h' x o') : HOk P w (upd H x o') h' := fun b u q => by
  have nown : ∀ c y, H c = some (.own y) → c ≠ x := fun c y r z => by subst z; rw [r] at mu; exact mu
  have ntup : ∀ c xs, H c = some (.tup xs) → c ≠ x := fun c xs r z => by subst z; rw [r] at mu; exact mu
  by_cases hb : b = x
  · subst hb; rw [upd_same] at q; cases q; exact new
  · rw [upd_ne hb] at q
    by_cases hbe : b = e
    · have q' : H b = some (.own x) := by
        rcases he with z | z
        · exact absurd (hbe.trans z) hb
        · rw [hbe]; exact z
      rw [q] at q'; cases q'
      obtain ⟨v, hv⟩ := heo
      exact ⟨v, by rw [hbe]; exact hv⟩
    · refine (ok b u q).stay (fun c v hc r => k c v ?_ r) (fun c r => by rw [upd_ne (nown c b r)]; exact r) fun c xs r => by rw [upd_ne (ntup c xs r)]; exact r
      rcases hc with rfl | hc
      · exact hbe
      · rintro rfl
        rcases he with z | z
        · exact nown c b hc z
        · rw [hc] at z; cases z; exact hb rfl
end

structure Un (fs ex : List Addr) (H H' : Hp) (h h' : Heap) : Prop where
  keep : ∀ b o, h.get? b = some o → H b = none → b ∉ fs → b ∉ ex → h'.get? b = some o
  slot : ∀ b o, h.get? b = some o → H b = none → b ∈ fs → b ∉ ex → ∃ sl, h'.get? b = some { o with slots := sl }
  free : ∀ b o, h.get? b = some o → H b = none → b ∉ ex → H' b = none
  there : ∀ b o, h.get? b = some o → b ∉ ex → ∃ o', h'.get? b = some o'
  tups : ∀ b xs, H b = some (.tup xs) → H' b = some (.tup xs)
  frzs : ∀ b o u, H b = some (.frz o u) → H' b = some (.frz o u)
  tbls : ∀ b ps, H b = some (.tbl ps) → ∃ more, H' b = some (.tbl (ps ++ more))
section
variable {fs fs' ex ex' : List Addr} {H H1 H2 : Hp} {h h1 h2 h' : Heap} {a x e : Addr} {o : HO}
theorem Un.any (u : Un fs ex H H1 h h1) {b : Addr} {ob : Obj} (q : h.get? b = some ob) (n : H b = none) (hx : b ∉ ex) : ∃ sl, h1.get? b = some { ob with slots := sl } := by
  by_cases hb : b ∈ fs
  · exact u.slot b ob q n hb hx
  · exact ⟨ob.slots, u.keep b ob q n hb hx⟩
theorem Un.trans (a : Un fs ex H H1 h h1) (b : Un fs ex H1 H2 h1 h2) : Un fs ex H H2 h h2 where
  keep := fun c ob q n hc hx => b.keep c ob (a.keep c ob q n hc hx) (a.free c ob q n hx) hc hx
  slot := fun c ob q n hc hx => by
    obtain ⟨sl, e1⟩ := a.slot c ob q n hc hx
    obtain ⟨sl', e2⟩ := b.slot c _ e1 (a.free c ob q n hx) hc hx
    exact ⟨sl', e2⟩
  free := fun c ob q n hx => by
    obtain ⟨o', e1⟩ := a.there c ob q hx
    exact b.free c o' e1 (a.free c ob q n hx) hx
  there := fun c ob q hx => by
    obtain ⟨o', e1⟩ := a.there c ob q hx
    exact b.there c o' e1 hx
  tups := fun c xs q => b.tups c xs (a.tups c xs q)
  frzs := fun c ob xs q => b.frzs c ob xs (a.frzs c ob xs q)
  tbls := fun c ps q => by
    obtain ⟨m1, e1⟩ := a.tbls c ps q
    obtain ⟨m2, e2⟩ := b.tbls c _ e1
    exact ⟨m1 ++ m2, by rw [e2, Array.append_assoc]⟩
theorem Un.kept (k : ∀ b u, h.get? b = some u → h'.get? b = some u) : Un fs ex H H h h' :=
  ⟨fun b ob q _ _ _ => k b ob q, fun b ob q _ _ _ => ⟨ob.slots, k b ob q⟩, fun _ _ _ n _ => n, fun b ob q _ => ⟨ob, k b ob q⟩, fun _ _ q => q, fun _ _ _ q => q, fun _ ps q => ⟨#[], by rw [q]; simp⟩⟩
theorem Un.refl : Un fs ex H H h h := Un.kept fun _ _ q => q
theorem Un.laid (k : ∀ b u, h.get? b = some u → h'.get? b = some u) (hp : h.objs.size ≤ a) (hn : H a = none) : Un fs ex H (upd H a o) h h' where
  keep := fun b u q _ _ _ => k b u q
  slot := fun b u q _ _ _ => ⟨u.slots, k b u q⟩
  free := fun b u q n _ => by rw [upd_ne (Nat.ne_of_lt (Nat.lt_of_lt_of_le (Heap.lt_size q) hp))]; exact n
  there := fun b u q _ => ⟨u, k b u q⟩
  tups := fun b xs q => by rw [upd_ne (ne_of_none q hn)]; exact q
  frzs := fun b u xs q => by rw [upd_ne (ne_of_none q hn)]; exact q
  tbls := fun b ps q => ⟨#[], by rw [upd_ne (ne_of_none q hn), q]; simp⟩
theorem Un.write (mu : Mut (H x)) (he : e = x ∨ H e = some (.own x)) (k : ∀ b u, b ≠ e → h.get? b = some u → h'.get? b = some u) (heo : ∃ u, h'.get? e = some u) : Un fs ex H (upd H x o) h h' := by
  have hx : ∀ b, H b = none → b ≠ x := fun b n z => by subst z; rw [n] at mu; exact mu
  have hb : ∀ b, H b = none → b ≠ e := fun b n z => by
    subst z
    rcases he with r | r
    · exact hx b n r
    · rw [n] at r; cases r
  have hm : ∀ b u, H b = some u → ¬ Mut (some u) → b ≠ x := fun b u q nm z => by subst z; rw [q] at mu; exact nm mu
  refine ⟨fun b u q n _ _ => k b u (hb b n) q, fun b u q n _ _ => ⟨u.slots, k b u (hb b n) q⟩, fun b u q n _ => by rw [upd_ne (hx b n)]; exact n, fun b u q _ => ?_,
    fun b xs q => by rw [upd_ne (hm b _ q fun z => z)]; exact q, fun b u xs q => by rw [upd_ne (hm b _ q fun z => z)]; exact q, fun b ps q => ⟨#[], by rw [upd_ne (hm b _ q fun z => z), q]; simp⟩⟩
  by_cases hbe : b = e
  · subst hbe; exact heo
  · exact ⟨u, k b u hbe q⟩
theorem Un.mono (u : Un fs ex H H1 h h1) (hs : ∀ b ∈ fs, b ∈ fs') (hx : ∀ b ∈ ex, b ∈ ex') : Un fs' ex' H H1 h h1 :=
  ⟨fun b ob q n hb he => u.keep b ob q n (fun z => hb (hs b z)) fun z => he (hx b z), fun _ _ q n _ he => u.any q n fun z => he (hx _ z), fun b ob q n he => u.free b ob q n fun z => he (hx b z), fun b ob q he => u.there b ob q fun z => he (hx b z), u.tups, u.frzs, u.tbls⟩
end

noncomputable def trk (h : Heap) (H : Hp) : List Addr := (List.range h.objs.size).filter fun a => (H a).isSome
noncomputable def hidT (h : Heap) (H : Hp) : Heap := PySem.W.hideAll h (trk h H)
theorem hidT_size (h : Heap) (H : Hp) : (hidT h H).objs.size = h.objs.size := PySem.W.hideAll_size _ _
theorem hidT_get {h : Heap} {H : Hp} {b : Addr} {o : Obj} (e : h.get? b = some o) (n : H b = none) : (hidT h H).get? b = some o :=
  PySem.W.hideAll_get _ e fun hm => by
    have q : (H b).isSome = true := (List.mem_filter.mp hm).2
    rw [n] at q; simp at q
theorem of_hidT {h : Heap} {H : Hp} {b : Addr} {o : Obj} (e : (hidT h H).get? b = some o) : h.get? b = some o ∧ H b = none := by
  have e' : h.get? b = some o := PySem.W.of_hideAll (trk h H) e
  refine ⟨e', ?_⟩
  cases q : H b with
  | none => rfl
  | some x =>
    have hm : b ∈ trk h H := List.mem_filter.mpr ⟨List.mem_range.mpr (Heap.lt_size e'), by simp [q]⟩
    have z : (hidT h H).get? b = none := PySem.W.hideAll_none (trk h H) hm
    rw [z] at e; cases e

noncomputable def allNews (g h : Heap) (L : Addr) : List (Addr × Obj) := (List.range h.objs.size).filterMap fun a => if a = L ∨ (g.get? a).isSome = true then none else (h.get? a).map fun o => (a, o)
noncomputable def rest (g h : Heap) (L d : Addr) : List (Addr × Obj) := (allNews g h L).filter fun p => decide (p.1 ≠ d)
end L2

namespace L2
open PySem PySem.Spec PyProof.Rows

structure Mod (K : PySem.W.Frag) (mg : Str → Option Value) (base : Heap) : Prop where
  kin : K.In base
  glob : base.Ns mainGlobals mg
  blt : ∃ mb, base.Ns builtinsNs mb ∧ ∀ x : Str, x ≠ "__name__" → mb x = bootBuiltins x
  nolimit : base.NoLimit

structure Cx where
  prog : Program
  w : World
  K : PySem.W.Frag
  mg : Str → Option Value
  base : Heap
  A : Around
  N : List Str
  s₀ : Shared
  H₀ : Hp
  env : Env
  outer : List Env
  stack : List Env
  ex : List Addr
  fn : Str → Bool
  calm : Bool
  pn : List (Addr × Obj)
  xe : Value → Shared → Prop
noncomputable def frs (l : List Env) : List Addr := l.filterMap (·.frame)
noncomputable abbrev Cx.fs (X : Cx) : List Addr := frs X.outer

noncomputable def Vis (sc : Scope) (x : Str) : Prop := sc.names.lookup x = some .local ∨ sc.names.lookup x = some .cell ∨ sc.names.lookup x = some .free
noncomputable def Loc (sc : Scope) (x : Str) : Prop := sc.names.lookup x = some .local ∨ sc.names.lookup x = some .cell
noncomputable def Look (env : Env) (h : Heap) (m : Str → Option Value) (x : Str) (u : Value) : Prop :=
  (env.kindOf x = some .local ∧ m x = some u) ∨ ((env.kindOf x = some .cell ∨ env.kindOf x = some .free) ∧ ∃ c, env.cells.lookup x = some c ∧ h.IsCell c (some u))

structure Cx.Ok (X : Cx) : Prop where
  mod : Mod X.K X.mg X.base
  kind : X.env.scope.kind = .function
  glob : X.env.globals = mainGlobals
  blt : X.env.builtins = builtinsNs
  above : X.s₀.heap.objs.size ≤ X.env.locals
  inj : ∀ x y c, X.env.cells.lookup x = some c → X.env.cells.lookup y = some c → x = y
  has : ∀ x, (X.env.kindOf x = some .cell ∨ X.env.kindOf x = some .free) → ∃ c, X.env.cells.lookup x = some c
  cab : ∀ x c, X.fn x = true → X.env.cells.lookup x = some c → X.s₀.heap.objs.size ≤ c
  hd : X.calm = true → X.A.handled = none
  frames : X.A.frames = some X.stack
  stk : X.stack = X.outer ∨ (X.stack = X.env :: X.outer ∧ X.env.frame = some X.env.locals)
  exf : ∀ b ∈ X.ex, b ≠ X.env.locals ∧ ∀ x c, X.env.cells.lookup x = some c → c ≠ b
  bs : ∀ b o, X.base.get? b = some o → X.s₀.heap.get? b = some o ∧ X.H₀ b = none
  bsz : X.base.objs.size ≤ X.s₀.heap.objs.size
  noex : ∀ b o, X.base.get? b = some o → b ∉ X.ex
  exfs : ∀ b ∈ X.ex, b ∉ X.fs
  funs : X.s₀.heap.FunFrames X.base X.outer
  frf : ∀ b ∈ X.fs, X.H₀ b = none

structure Inv (X : Cx) (pins : List (Addr × Obj)) (σ : List (Option V)) (H : Hp) (s : Shared) : Prop where
  ok : X.Ok
  os : s.os = X.s₀.os
  bare : AllBare s.gens
  base : Un X.fs X.ex X.H₀ H X.s₀.heap s.heap
  loc : ∃ m, s.heap.Ns X.env.locals m ∧ ∀ (i : Nat) (x : Str) (v : V), X.N[i]? = some x → σ[i]? = some (some v) → Vis X.env.scope x → ∃ u, RelV v u ∧ Look X.env s.heap m x u
  cell : ∀ x c, X.env.cells.lookup x = some c → ∃ v, s.heap.IsCell c v
  free : H X.env.locals = none
  freeC : ∀ x c, X.env.cells.lookup x = some c → H c = none
  pin : ∀ p ∈ X.pn ++ pins, s.heap.get? p.1 = some p.2 ∧ H p.1 = none ∧ p.1 ≠ X.env.locals ∧ p.1 ∉ X.fs ∧ ∀ v, p.2.data ≠ .cell v
  hok : HOk X.prog X.w H s.heap
  len : σ.length = X.N.length

section
variable {X : Cx} {pins : List (Addr × Obj)} {σ : List (Option V)} {H H' : Hp} {s : Shared} {h' : Heap}

theorem Cx.Ok.nofr (ok : X.Ok) {b : Addr} {o : Obj} (e : X.base.get? b = some o) : b ∉ X.fs := fun hb => by
  have := (ok.funs.mem hb).1
  rw [e] at this; cases this
theorem Inv.bs (I : Inv X pins σ H s) : ∀ b o, X.base.get? b = some o → s.heap.get? b = some o ∧ H b = none := fun b o e =>
  ⟨I.base.keep b o (I.ok.bs b o e).1 (I.ok.bs b o e).2 (I.ok.nofr e) (I.ok.noex b o e), I.base.free b o (I.ok.bs b o e).1 (I.ok.bs b o e).2 (I.ok.noex b o e)⟩
theorem Inv.bk (I : Inv X pins σ H s) : ∀ b o, X.base.get? b = some o → s.heap.get? b = some o := fun b o e => (I.bs b o e).1
theorem Inv.mod (I : Inv X pins σ H s) : Mod X.K X.mg X.base := I.ok.mod
theorem Inv.kIn (I : Inv X pins σ H s) : X.K.In s.heap := I.ok.mod.kin.keeps I.bk
theorem Inv.nolimit (I : Inv X pins σ H s) : s.heap.NoLimit := I.ok.mod.nolimit.keeps I.bk
theorem Inv.fr (I : Inv X pins σ H s) : ∃ m, Fr X.base X.env.locals s.heap m :=
  let ⟨m, hn, _⟩ := I.loc
  ⟨m, hn, I.bk, Nat.le_trans I.ok.bsz I.ok.above⟩
theorem Inv.lt (I : Inv X pins σ H s) : X.env.locals < s.heap.objs.size := let ⟨_, hn, _⟩ := I.loc; hn.lt
theorem Inv.sz (I : Inv X pins σ H s) : X.s₀.heap.objs.size ≤ s.heap.objs.size := Nat.le_trans I.ok.above (Nat.le_of_lt I.lt)
theorem Inv.nofs (I : Inv X pins σ H s) {a : Addr} (h : s.heap.objs.size ≤ a) : a ∉ X.fs := fun hb => by
  obtain ⟨_, o, ho, _⟩ := I.ok.funs.mem hb
  exact absurd (Nat.lt_of_lt_of_le (Heap.lt_size ho) (Nat.le_trans I.sz h)) (Nat.lt_irrefl _)
theorem Inv.cne (I : Inv X pins σ H s) : ∀ x c, X.env.cells.lookup x = some c → c ≠ X.env.locals := fun x c e z => by
  obtain ⟨v, o, ho, hd⟩ := I.cell x c e
  obtain ⟨m, ⟨o', es, ep, ho', hd', _⟩, _⟩ := I.loc
  rw [z, ho'] at ho; cases ho; rw [hd'] at hd; cases hd
theorem Inv.funs (I : Inv X pins σ H s) : s.heap.FunFrames X.base X.outer := by
  have all : ∀ (l : List Env), (∀ b ∈ frs l, b ∈ X.fs) → X.s₀.heap.FunFrames X.base l → s.heap.FunFrames X.base l := by
    intro l
    induction l with
    | nil => intro _ _; trivial
    | cons env r ih =>
      intro hs hl
      obtain ⟨hk, ⟨L, o, hf, hn, ho, hd⟩, hr⟩ := hl
      have hL : L ∈ X.fs := hs L (by unfold frs; rw [List.filterMap_cons, hf]; exact List.mem_cons_self)
      obtain ⟨sl, e⟩ := I.base.slot L o ho (I.ok.frf L hL) hL fun z => I.ok.exfs L z hL
      exact ⟨hk, ⟨L, _, hf, hn, e, hd⟩, ih (fun b hb => hs b (by unfold frs; rw [List.filterMap_cons, hf]; exact List.mem_cons_of_mem _ hb)) hr⟩
  exact all X.outer (fun _ hb => hb) I.ok.funs

theorem Inv.stack (I : Inv X pins σ H s) : s.heap.FunFrames X.base X.stack := by
  rcases I.ok.stk with e | ⟨e, hf⟩
  · rw [e]; exact I.funs
  · rw [e]
    obtain ⟨m, hn, _⟩ := I.loc
    refine .cons (by rw [I.ok.kind]; decide) hf hn ?_ I.funs
    exact Heap.get?_none_of_le (Nat.le_trans I.ok.bsz I.ok.above)
theorem Inv.stkSub (I : Inv X pins σ H s) : ∀ b ∈ frs X.stack, b ∈ X.env.locals :: X.fs := fun b hb => by
  rcases I.ok.stk with e | ⟨e, hf⟩
  · rw [e] at hb; exact List.mem_cons_of_mem _ hb
  · rw [e] at hb
    unfold frs at hb
    rw [List.filterMap_cons, hf] at hb
    exact hb
theorem Inv.stkFree (I : Inv X pins σ H s) : ∀ b ∈ frs X.stack, H b = none := fun b hb => by
  rcases List.mem_cons.mp (I.stkSub b hb) with e | hb
  · rw [e]; exact I.free
  · obtain ⟨_, o, ho, _⟩ := I.ok.funs.mem hb
    exact I.base.free b o ho (I.ok.frf b hb) fun z => I.ok.exfs b z hb

theorem Inv.step {g' : Array GenState} {t' : Nat} {d' : Drawn} {ch : List Addr} (I : Inv X pins σ H s)
    (hch : ∀ b ∈ ch, (b ∈ X.ex ∨ X.s₀.heap.objs.size ≤ b) ∧ b ≠ X.env.locals ∧ (∀ x c, X.env.cells.lookup x = some c → c ≠ b) ∧ ∀ p ∈ X.pn ++ pins, p.1 ≠ b)
    (keep : ∀ b o, b ≠ X.env.locals → b ∉ X.fs → b ∉ ch → s.heap.get? b = some o → H b = none → h'.get? b = some o)
    (slot : ∀ b o, b ≠ X.env.locals → b ∈ X.fs → b ∉ ch → s.heap.get? b = some o → H b = none → ∃ sl, h'.get? b = some { o with slots := sl }) (free : ∀ b o, b ∉ ch → s.heap.get? b = some o → H b = none → H' b = none)
    (there : ∀ b o, b ∉ ch → s.heap.get? b = some o → ∃ o', h'.get? b = some o')
    (tups : ∀ b xs, H b = some (.tup xs) → H' b = some (.tup xs)) (frzs : ∀ b o u, H b = some (.frz o u) → H' b = some (.frz o u)) (tbls : ∀ b ps, H b = some (.tbl ps) → ∃ more, H' b = some (.tbl (ps ++ more)))
    (ns : ∀ m, s.heap.Ns X.env.locals m → h'.Ns X.env.locals m) (hok : HOk X.prog X.w H' h') (hg : AllBare g') :
    Inv X pins σ H' { s with heap := h', gens := g', drawn := d', toks := t' } := by
  have neL : ∀ b o, X.s₀.heap.get? b = some o → b ≠ X.env.locals := fun b o e => Nat.ne_of_lt (Nat.lt_of_lt_of_le (Heap.lt_size e) I.ok.above)
  have neC : ∀ b o, X.s₀.heap.get? b = some o → b ∉ X.ex → b ∉ ch := fun b o e hx hb => by
    rcases (hch b hb).1 with z | z
    · exact hx z
    · exact absurd (Nat.lt_of_lt_of_le (Heap.lt_size e) z) (Nat.lt_irrefl _)
  have cellK : ∀ x c, X.env.cells.lookup x = some c → ∀ v, s.heap.IsCell c v → h'.IsCell c v := fun x c e v ⟨o, ho, hd⟩ => by
    have nch : c ∉ ch := fun z => (hch c z).2.2.1 x c e rfl
    by_cases hc : c ∈ X.fs
    · obtain ⟨sl, q⟩ := slot c o (I.cne x c e) hc nch ho (I.freeC x c e)
      exact ⟨_, q, hd⟩
    · exact ⟨o, keep c o (I.cne x c e) hc nch ho (I.freeC x c e), hd⟩
  refine ⟨I.ok, I.os, hg, ⟨fun b o e n hb hx => ?_, fun b o e n hb hx => ?_, fun b o e n hx => ?_, fun b o e hx => ?_, fun b xs e => tups b xs (I.base.tups b xs e), fun b o xs e => frzs b o xs (I.base.frzs b o xs e), fun b ps e => ?_⟩, ?_, fun x c e => ?_, ?_, fun x c e => ?_, fun p hp => ?_, hok, I.len⟩
  · exact keep b o (neL b o e) hb (neC b o e hx) (I.base.keep b o e n hb hx) (I.base.free b o e n hx)
  · obtain ⟨sl, e1⟩ := I.base.slot b o e n hb hx
    obtain ⟨sl', e2⟩ := slot b _ (neL b o e) hb (neC b o e hx) e1 (I.base.free b o e n hx)
    exact ⟨sl', e2⟩
  · obtain ⟨o', e1⟩ := I.base.there b o e hx
    exact free b o' (neC b o e hx) e1 (I.base.free b o e n hx)
  · obtain ⟨o', e1⟩ := I.base.there b o e hx
    exact there b o' (neC b o e hx) e1
  · obtain ⟨m1, e1⟩ := I.base.tbls b ps e
    obtain ⟨m2, e2⟩ := tbls b _ e1
    exact ⟨m1 ++ m2, by rw [e2, Array.append_assoc]⟩
  · obtain ⟨m, hn, hl⟩ := I.loc
    refine ⟨m, ns m hn, fun i x v e1 e2 e3 => ?_⟩
    obtain ⟨u, r, l⟩ := hl i x v e1 e2 e3
    refine ⟨u, r, ?_⟩
    rcases l with l | ⟨k, c, e, z⟩
    · exact .inl l
    · exact .inr ⟨k, c, e, cellK x c e _ z⟩
  · obtain ⟨v, z⟩ := I.cell x c e
    exact ⟨v, cellK x c e v z⟩
  · obtain ⟨m, ⟨o, _, _, ho, _⟩, _⟩ := I.loc
    exact free _ o (fun z => (hch _ z).2.1 rfl) ho I.free
  · obtain ⟨v, o, ho, hd⟩ := I.cell x c e
    exact free c o (fun z => (hch c z).2.2.1 x c e rfl) ho (I.freeC x c e)
  · obtain ⟨e, n, ne, nf, d⟩ := I.pin p hp
    have nch : p.1 ∉ ch := fun z => (hch p.1 z).2.2.2 p hp rfl
    exact ⟨keep p.1 p.2 ne nf nch e n, free p.1 p.2 nch e n, ne, nf, d⟩
theorem Inv.un {t' : Nat} (I : Inv X pins σ H s) (u : Un X.fs [] H H' s.heap h') (hok : HOk X.prog X.w H' h') : Inv X pins σ H' { s with heap := h', toks := t' } := by
  obtain ⟨m, ⟨o, es, ep, ho, r⟩, _⟩ := id I.loc
  obtain ⟨sl, hL⟩ := u.any ho I.free (by simp)
  exact I.step (g' := s.gens) (d' := s.drawn) (ch := []) (fun _ z => nomatch z) (fun b o _ hb _ e n => u.keep b o e n hb (by simp)) (fun b o _ hb _ e n => u.slot b o e n hb (by simp)) (fun b o _ e n => u.free b o e n (by simp)) (fun b o _ e => u.there b o e (by simp)) u.tups u.frzs u.tbls (fun m' hm => by
    obtain ⟨o', es', ep', ho', r'⟩ := hm
    rw [ho] at ho'; cases ho'
    exact ⟨_, es', ep', hL, r'⟩) hok I.bare
theorem Inv.call {g' : Array GenState} {t' : Nat} {d' : Drawn} {ch : List Addr} (I : Inv X pins σ H s) (u : Un (frs X.stack) ch H H' s.heap h') (hok : HOk X.prog X.w H' h') (hg : AllBare g')
    (hch : ∀ b ∈ ch, (b ∈ X.ex ∨ X.s₀.heap.objs.size ≤ b) ∧ b ≠ X.env.locals ∧ (∀ x c, X.env.cells.lookup x = some c → c ≠ b) ∧ ∀ p ∈ X.pn ++ pins, p.1 ≠ b) :
    Inv X pins σ H' { s with heap := h', gens := g', drawn := d', toks := t' } := by
  obtain ⟨m, ⟨o, es, ep, ho, r⟩, _⟩ := id I.loc
  obtain ⟨sl, hL⟩ := u.any ho I.free fun z => (hch _ z).2.1 rfl
  exact I.step (ch := ch) hch (fun b o hL hb hc e n => u.keep b o e n (fun z => (List.mem_cons.mp (I.stkSub b z)).elim hL hb) hc) (fun b o _ _ hc e n => u.any e n hc) (fun b o hc e n => u.free b o e n hc) (fun b o hc e => u.there b o e hc) u.tups u.frzs u.tbls (fun m' hm => by
    obtain ⟨o', es', ep', ho', r'⟩ := hm
    rw [ho] at ho'; cases ho'
    exact ⟨_, es', ep', hL, r'⟩) hok hg
theorem Inv.turned {t' : Nat} {it : Addr} (I : Inv X pins σ H s) (k : ∀ b o, b ≠ it → s.heap.get? b = some o → h'.get? b = some o) (hn : H it = none) (hL : it ≠ X.env.locals)
    (h1 : it ∈ X.ex ∨ X.s₀.heap.objs.size ≤ it) (h2 : ∀ x c, X.env.cells.lookup x = some c → c ≠ it) (h3 : ∀ p ∈ X.pn ++ pins, p.1 ≠ it) : Inv X pins σ H { s with heap := h', toks := t' } := by
  have nit : ∀ b u, H b = some u → b ≠ it := fun b u e z => by rw [z, hn] at e; cases e
  refine I.step (g' := s.gens) (d' := s.drawn) (ch := [it]) (fun b hb => ?_) (fun b o _ _ hc e _ => k b o (fun z => hc (by simp [z])) e) (fun b o _ _ hc e _ => ⟨o.slots, k b o (fun z => hc (by simp [z])) e⟩) (fun _ _ _ _ n => n)
    (fun b o hc e => ⟨o, k b o (fun z => hc (by simp [z])) e⟩) (fun _ _ e => e) (fun _ _ _ e => e) (fun b ps e => ⟨#[], by rw [e]; simp⟩) (fun m hm => ?_) (fun b u e => ?_) I.bare
  · have e : b = it := by simpa using hb
    subst e
    exact ⟨h1, hL, h2, h3⟩
  · obtain ⟨o, es, ep, ho, r⟩ := hm
    exact ⟨o, es, ep, k _ o (Ne.symm hL) ho, r⟩
  · refine (I.hok b u e).stay (fun c v hc q => k c v ?_ q) (fun _ q => q) fun _ _ q => q
    rcases hc with z | z
    · rw [z]; exact nit b u e
    · exact nit c _ z
theorem Inv.tok (I : Inv X pins σ H s) (t : Nat) : Inv X pins σ H { s with toks := t } := I.un (h' := s.heap) (t' := t) Un.refl I.hok
theorem Inv.kept {t' : Nat} (I : Inv X pins σ H s) (k : ∀ b u, s.heap.get? b = some u → h'.get? b = some u) : Inv X pins σ H { s with heap := h', toks := t' } := I.un (Un.kept k) (I.hok.kept k)
theorem Inv.laid {a : Addr} {o : HO} {t' : Nat} (I : Inv X pins σ H s) (k : ∀ b u, s.heap.get? b = some u → h'.get? b = some u) (hp : s.heap.objs.size ≤ a) (new : ObjOk X.prog X.w (upd H a o) h' a o) :
    Inv X pins σ (upd H a o) { s with heap := h', toks := t' } := I.un (Un.laid k hp (I.hok.fresh hp)) (I.hok.laid k hp new)
theorem Inv.write {x e : Addr} {o : HO} {t' : Nat} (I : Inv X pins σ H s) (mu : Mut (H x)) (he : e = x ∨ H e = some (.own x)) (k : ∀ b u, b ≠ e → s.heap.get? b = some u → h'.get? b = some u) (heo : ∃ u, h'.get? e = some u)
    (new : ObjOk X.prog X.w (upd H x o) h' x o) : Inv X pins σ (upd H x o) { s with heap := h', toks := t' } := I.un (Un.write mu he k heo) (I.hok.write mu he k heo new)
theorem Inv.pins_of {pins' : List (Addr × Obj)} (I : Inv X pins σ H s) (h : ∀ p ∈ pins', s.heap.get? p.1 = some p.2 ∧ H p.1 = none ∧ p.1 ≠ X.env.locals ∧ p.1 ∉ X.fs ∧ ∀ v, p.2.data ≠ .cell v) : Inv X pins' σ H s :=
  ⟨I.ok, I.os, I.bare, I.base, I.loc, I.cell, I.free, I.freeC, fun p hp => (List.mem_append.mp hp).elim (fun z => I.pin p (List.mem_append_left _ z)) (h p), I.hok, I.len⟩

theorem nodup_ix {N : List Str} (hN : N.Nodup) {i j : Nat} {x : Str} (a : N[i]? = some x) (b : N[j]? = some x) : i = j := by
  obtain ⟨h1, e1⟩ := List.getElem?_eq_some_iff.mp a
  obtain ⟨h2, e2⟩ := List.getElem?_eq_some_iff.mp b
  exact (List.getElem_inj hN).mp (e1.trans e2.symm)

theorem store_ok2 {M : Model} {A : Around} {E : Value → Shared → Prop} {i : Nat} {x : Str} {v : V} {u : Value} {Q : Unit → Shared → Prop} (I : Inv X pins σ H s) (hN : X.N.Nodup) (hi : X.N[i]? = some x) (hx : Loc X.env.scope x) (r : RelV v u)
    (h : ∀ s', Inv X pins (σ.set i (some v)) H s' → (∃ a, Heap.SameBut a s.heap s'.heap ∧ (a = X.env.locals ∨ X.env.cells.lookup x = some a)) → Q () s') (hf : X.fn x = true ∨ X.env.scope.names.lookup x = some .local := by first | exact .inl rfl | exact .inr rfl | assumption) : wpAny M A (storeName X.env x u) Q E s := by
  obtain ⟨m, hn, hl⟩ := id I.loc
  have hcls : (X.env.scope.kind == .class || (X.env.scope.kind == .module && X.env.locals != X.env.globals)) = false := by rw [I.ok.kind]; rfl
  have hiσ : i < σ.length := by rw [I.len]; exact (List.getElem?_eq_some_iff.mp hi).1
  have cne := I.cne
  have tracked : ∀ {a : Addr} {h' : Heap}, (∃ o, s.heap.get? a = some o ∧ H a = none) → Heap.SameBut a s.heap h' → HOk X.prog X.w H h' := fun {a h'} ha hs b ob e => by
    obtain ⟨_, _, hfree⟩ := ha
    refine (I.hok b ob e).stay (fun c w' hc q => (hs.2 c ?_).trans q) (fun _ q => q) fun _ _ q => q
    rintro rfl
    rcases hc with rfl | hc
    · rw [hfree] at e; cases e
    · rw [hfree] at hc; cases hc
  rcases hx with hk | hk
  · refine wpAny_storeName_local hk hn (fun h' hn' hs => ?_) hcls
    obtain ⟨oL, _, _, hoL, _⟩ := id hn
    refine h _ ⟨I.ok, I.os, I.bare, ⟨fun b o e n hb hx => ?_, fun b o e n hb hx => ?_, I.base.free, fun b o e hx => ?_, I.base.tups, I.base.frzs, I.base.tbls⟩, ⟨_, hn', fun j y v' e1 e2 e3 => ?_⟩, fun y c e => ?_, I.free, I.freeC, fun p hp => ?_, tracked ⟨oL, hoL, I.free⟩ hs, by simpa using I.len⟩ ⟨_, hs, .inl rfl⟩
    · exact (hs.2 b (Nat.ne_of_lt (Nat.lt_of_lt_of_le (Heap.lt_size e) I.ok.above))).trans (I.base.keep b o e n hb hx)
    · obtain ⟨sl, e1⟩ := I.base.slot b o e n hb hx
      exact ⟨sl, (hs.2 b (Nat.ne_of_lt (Nat.lt_of_lt_of_le (Heap.lt_size e) I.ok.above))).trans e1⟩
    · obtain ⟨o', e1⟩ := I.base.there b o e hx
      exact ⟨o', (hs.2 b (Nat.ne_of_lt (Nat.lt_of_lt_of_le (Heap.lt_size e) I.ok.above))).trans e1⟩
    · by_cases hj : j = i
      · subst hj
        rw [hi] at e1; cases e1
        rw [List.getElem?_set_self hiσ] at e2
        cases e2
        exact ⟨u, r, .inl ⟨hk, by simp⟩⟩
      · rw [List.getElem?_set_ne (Ne.symm hj)] at e2
        obtain ⟨u', r', q⟩ := hl j y v' e1 e2 e3
        refine ⟨u', r', ?_⟩
        rcases q with ⟨k, e⟩ | ⟨k, c, e, z⟩
        · refine .inl ⟨k, ?_⟩
          have : y ≠ x := fun e => hj (nodup_ix hN e1 (e ▸ hi))
          simp [this, e]
        · exact .inr ⟨k, c, e, z.sameBut hs (cne y c e)⟩
    · obtain ⟨w', z⟩ := I.cell y c e
      exact ⟨w', z.sameBut hs (cne y c e)⟩
    · obtain ⟨e, n, ne, nf, d⟩ := I.pin p hp
      exact ⟨(hs.2 p.1 ne).trans e, n, ne, nf, d⟩
  · have hfn : X.fn x = true := by
      rcases hf with z | z
      · exact z
      · rw [z] at hk; cases hk
    obtain ⟨c, hc⟩ := I.ok.has x (.inl hk)
    obtain ⟨w', z⟩ := I.cell x c hc
    refine wpAny_storeName_cell I.ok.kind hk hc z (fun h' hc' hs => ?_)
    obtain ⟨oc, hoc, hocd⟩ := id z
    refine h { s with heap := h' } ⟨I.ok, I.os, I.bare, ⟨fun b o e n hb hx => ?_, fun b o e n hb hx => ?_, I.base.free, fun b o e hx => ?_, I.base.tups, I.base.frzs, I.base.tbls⟩, ⟨m, hn.sameBut hs (Ne.symm (cne x c hc)), fun j y v' e1 e2 e3 => ?_⟩, fun y c' e => ?_, I.free, I.freeC, fun p hp => ?_, tracked ⟨oc, hoc, I.freeC x c hc⟩ hs, by simpa using I.len⟩ ⟨c, hs, .inr hc⟩
    · exact (hs.2 b (Nat.ne_of_lt (Nat.lt_of_lt_of_le (Heap.lt_size e) (I.ok.cab x c hfn hc)))).trans (I.base.keep b o e n hb hx)
    · obtain ⟨sl, e1⟩ := I.base.slot b o e n hb hx
      exact ⟨sl, (hs.2 b (Nat.ne_of_lt (Nat.lt_of_lt_of_le (Heap.lt_size e) (I.ok.cab x c hfn hc)))).trans e1⟩
    · obtain ⟨o', e1⟩ := I.base.there b o e hx
      exact ⟨o', (hs.2 b (Nat.ne_of_lt (Nat.lt_of_lt_of_le (Heap.lt_size e) (I.ok.cab x c hfn hc)))).trans e1⟩
    · by_cases hj : j = i
      · subst hj
        rw [hi] at e1; cases e1
        rw [List.getElem?_set_self hiσ] at e2
        cases e2
        exact ⟨u, r, .inr ⟨.inl hk, c, hc, hc'⟩⟩
      · rw [List.getElem?_set_ne (Ne.symm hj)] at e2
        obtain ⟨u', r', q⟩ := hl j y v' e1 e2 e3
        refine ⟨u', r', ?_⟩
        rcases q with q | ⟨k, c', e, z'⟩
        · exact .inl q
        · refine .inr ⟨k, c', e, z'.sameBut hs ?_⟩
          rintro rfl
          exact hj (nodup_ix hN e1 (I.ok.inj _ _ _ e hc ▸ hi))
    · by_cases hcc : c' = c
      · subst hcc; exact ⟨_, hc'⟩
      · obtain ⟨w2, z2⟩ := I.cell y c' e
        exact ⟨w2, z2.sameBut hs hcc⟩
    · obtain ⟨e, n, ne, nf, d⟩ := I.pin p hp
      refine ⟨(hs.2 p.1 ?_).trans e, n, ne, nf, d⟩
      intro q
      rw [q, hoc] at e
      have q' : oc = p.2 := Option.some.inj e
      exact d w' (by rw [← q']; exact hocd)
theorem store_ok {M : Model} {A : Around} {E : Value → Shared → Prop} {i : Nat} {x : Str} {v : V} {u : Value} {Q : Unit → Shared → Prop} (I : Inv X pins σ H s) (hN : X.N.Nodup) (hi : X.N[i]? = some x) (hx : Loc X.env.scope x) (r : RelV v u)
    (h : ∀ s', Inv X pins (σ.set i (some v)) H s' → Q () s') (hf : X.fn x = true ∨ X.env.scope.names.lookup x = some .local := by first | exact .inl rfl | exact .inr rfl | assumption) : wpAny M A (storeName X.env x u) Q E s :=
  store_ok2 I hN hi hx r (fun s' I' _ => h s' I') hf
end

abbrev XK := Value → Option Addr → Hp → Prop
abbrev St := List (Option V)
abbrev VK := V → Hp → Prop
abbrev TE := St → Hp → VK → Prop
abbrev TT := St → Hp → (Bool → Hp → Prop) → Prop
abbrev TA := St → Hp → (List V → Hp → Prop) → Prop
structure Ends where
  nx : St → Hp → Prop
  rt : VK
  bk : St → Hp → Prop := fun _ _ => False
  ct : St → Hp → Prop := fun _ _ => False
abbrev TS := Ends → St → Hp → Prop

noncomputable def EP (X : Cx) (pins : List (Addr × Obj)) (σ : St) (Q : VK) (u : Value) (s' : Shared) : Prop := ∃ v H', Inv X pins σ H' s' ∧ RelV v u ∧ Q v H'
noncomputable def TP (X : Cx) (pins : List (Addr × Obj)) (σ : St) (Q : Bool → Hp → Prop) (b : Bool) (s' : Shared) : Prop := ∃ H', Inv X pins σ H' s' ∧ Q b H'
noncomputable def AP (X : Cx) (pins : List (Addr × Obj)) (σ : St) (Q : List V → Hp → Prop) (us : List Value) (s' : Shared) : Prop := ∃ vs H', Inv X pins σ H' s' ∧ Vals vs us ∧ Q vs H'
noncomputable def SP (X : Cx) (pins : List (Addr × Obj)) (D : Ends) (f : Flow) (s' : Shared) : Prop :=
  match f with
  | .next => ∃ σ' H', Inv X pins σ' H' s' ∧ D.nx σ' H'
  | .brk => ∃ σ' H', Inv X pins σ' H' s' ∧ D.bk σ' H'
  | .cont => ∃ σ' H', Inv X pins σ' H' s' ∧ D.ct σ' H'
  | .ret u => ∃ v σ' H', Inv X pins σ' H' s' ∧ RelV v u ∧ D.rt v H'

noncomputable def PE (X : Cx) (e : Expr) (t : TE) : Prop :=
  ∀ (pins : List (Addr × Obj)) (s : Shared) (σ : St) (H : Hp) (Q : VK), Inv X pins σ H s → t σ H Q → wpAny (model X.prog X.w) X.A (eval e X.env) (EP X pins σ Q) X.xe s
noncomputable def PT (X : Cx) (e : Expr) (t : TT) : Prop :=
  ∀ (pins : List (Addr × Obj)) (s : Shared) (σ : St) (H : Hp) (Q : Bool → Hp → Prop), Inv X pins σ H s → t σ H Q → wpAny (model X.prog X.w) X.A (isTrue e X.env (eval e X.env)) (TP X pins σ Q) X.xe s
noncomputable def PW (X : Cx) (e : Expr) (t : TT) : Prop :=
  ∀ (whole : Sem Value) (pins : List (Addr × Obj)) (s : Shared) (σ : St) (H : Hp) (Q : Bool → Hp → Prop), Inv X pins σ H s → t σ H Q → wpAny (model X.prog X.w) X.A (isTrue e X.env whole) (TP X pins σ Q) X.xe s
theorem PW.pt {X : Cx} {e : Expr} {t : TT} (h : PW X e t) : PT X e t := h _
noncomputable def PA (X : Cx) (es : List Expr) (t : TA) : Prop :=
  ∀ (pos : Pos) (pins : List (Addr × Obj)) (s : Shared) (σ : St) (H : Hp) (Q : List V → Hp → Prop), Inv X pins σ H s → t σ H Q → wpAny (model X.prog X.w) X.A (spliced (backTo pos (starEach es X.env))) (AP X pins σ Q) X.xe s
noncomputable def PS (X : Cx) (st : Stmt) (t : TS) : Prop :=
  ∀ (pins : List (Addr × Obj)) (s : Shared) (σ : St) (H : Hp) (D : Ends), Inv X pins σ H s → t D σ H → wpAny (model X.prog X.w) X.A (exec st X.env) (SP X pins D) X.xe s
noncomputable def PSs (X : Cx) (st : List Stmt) (t : TS) : Prop :=
  ∀ (pins : List (Addr × Obj)) (s : Shared) (σ : St) (H : Hp) (D : Ends), Inv X pins σ H s → t D σ H → wpAny (model X.prog X.w) X.A (execs st X.env) (SP X pins D) X.xe s
theorem thn {α : Type} {t : Sem α} {Q Q' : α → Shared → Prop} {M : Model} {A : Around} {E : Value → Shared → Prop} {s : Shared} (h : wpAny M A t Q E s) (hQ : ∀ a s, Q a s → Q' a s) : wpAny M A t Q' E s := wpAny_mono h hQ fun _ _ x => x
end L2

namespace L2
open PySem PySem.Spec PyProof.Rows
section
variable {X : Cx}

noncomputable def tVar (i : Nat) : TE := fun σ H Q => ∃ v, σ[i]? = some (some v) ∧ Q v H
noncomputable def tC (v : V) : TE := fun _ H Q => Q v H
theorem pe_var {i : Nat} {x : Str} {pos : Pos} (hN : X.N[i]? = some x) (hv : Vis X.env.scope x) (hd : (x == ("__debug__" : Str)) = false := by decide) (hcd : (x == ("__classdict__" : Str)) = false := by decide) : PE X (.Name x pos) (tVar i) := by
  intro pins s σ H Q I h
  obtain ⟨v, e, h⟩ := h
  obtain ⟨m, hn, hl⟩ := I.loc
  obtain ⟨u, r, l⟩ := hl i x v hN e hv
  have fin : EP X pins σ Q u s := ⟨v, H, I, r, h⟩
  rcases l with ⟨hk, hm⟩ | ⟨hk, c, hc, hcell⟩
  · exact wpAny_Name (wpAny_loadName_local I.ok.kind hk hn hm fin) hd
  · rcases hk with hk | hk
    · exact wpAny_Name (wpAny_loadName_cell I.ok.kind hk hc hcell fin) hd
    · exact wpAny_Name (wpAny_loadName_free I.ok.kind hk hc hcell fin hcd) hd
theorem pe_int {i j pos} : PE X (.Constant (.int i) j pos) (tC (.int i)) := fun _ _ _ H _ I h => wpAny_Constant_int ⟨.int i, H, I.tok _, ⟨_, rfl⟩, h⟩
theorem pe_bl {b j pos} : PE X (.Constant (.bool b) j pos) (tC (.bl b)) := fun _ _ _ H _ I h => Constant_bool ⟨.bl b, H, I, rfl, h⟩
theorem pe_non {j pos} : PE X (.Constant .none j pos) (tC .non) := fun _ _ _ H _ I h => Constant_none ⟨.non, H, I, rfl, h⟩
theorem pe_str {x j pos} : PE X (.Constant (.str x) j pos) (tC (.str x)) := fun _ _ _ H _ I h => Calls.Constant_str ⟨.str x, H, I.tok _, ⟨_, rfl⟩, h⟩

noncomputable def Gl (X : Cx) (x : Str) : Prop := X.env.kindOf x = some .globalImplicit
theorem ld_glob {E : Value → Shared → Prop} {pins : List (Addr × Obj)} {s : Shared} {σ : St} {H : Hp} {x : Str} {u : Value} {pos : Pos} {Q : Value → Shared → Prop} (I : Inv X pins σ H s) (hg : Gl X x) (hm : X.mg x = some u) (h : Q u s)
    (hd : (x == ("__debug__" : Str)) = false := by decide) : wpAny (model X.prog X.w) X.A (eval (.Name x pos) X.env) Q E s :=
  Calls.Name_function_global I.ok.kind hg (Calls.loadGlobal_global (by rw [I.ok.glob]; exact I.mod.glob.keeps I.bk) hm h) hd
theorem ld_blt {E : Value → Shared → Prop} {pins : List (Addr × Obj)} {s : Shared} {σ : St} {H : Hp} {x : Str} {u : Value} {pos : Pos} {Q : Value → Shared → Prop} (I : Inv X pins σ H s) (hg : Gl X x) (hm : X.mg x = none) (hv : bootBuiltins x = some u) (h : Q u s)
    (hn : x ≠ "__name__" := by decide) (hd : (x == ("__debug__" : Str)) = false := by decide) : wpAny (model X.prog X.w) X.A (eval (.Name x pos) X.env) Q E s := by
  obtain ⟨mb, h1, h2⟩ := I.mod.blt
  exact Calls.Name_function_global I.ok.kind hg (Calls.loadGlobal_builtin (by rw [I.ok.glob]; exact I.mod.glob.keeps I.bk) hm (by rw [I.ok.blt]; exact h1.keeps I.bk) ((h2 x hn).trans hv) h) hd
theorem pe_glob {x : Str} {v : V} {u : Value} {pos : Pos} (hg : Gl X x) (hm : X.mg x = some u) (r : RelV v u) (hd : (x == ("__debug__" : Str)) = false := by decide) : PE X (.Name x pos) (tC v) :=
  fun _ _ _ H _ I h => ld_glob I hg hm ⟨v, H, I, r, h⟩ hd
theorem pe_bltn {x : Str} {v : V} {u : Value} {pos : Pos} (hg : Gl X x) (hm : X.mg x = none) (hv : bootBuiltins x = some u) (r : RelV v u) (hn : x ≠ "__name__" := by decide) (hd : (x == ("__debug__" : Str)) = false := by decide) : PE X (.Name x pos) (tC v) :=
  fun _ _ _ H _ I h => ld_blt I hg hm hv ⟨v, H, I, r, h⟩ hn hd

variable {a b : Expr} {ta tb : TE} {pos : Pos}
noncomputable def tB (t : TE) : TT := fun σ H Q => t σ H fun x H1 => ∃ c, x = .bl c ∧ Q c H1
theorem pt_val {e : Expr} {t : TE} (h : PE X e t) (he : ∀ whole, isTrue e X.env whole = (do let v ← whole; standAt e.pos; holding [v] (truthy v)) := by intro _; rfl) : PT X e (tB t) := by
  intro pins s σ H Q I hw
  refine isTrue_plain (thn (h pins s σ H _ I hw) fun v s1 ⟨x, H1, I1, r1, q1⟩ => ?_) (he _)
  obtain ⟨d, rfl, q⟩ := q1
  cases r1
  exact wpAny_truthy_bool ⟨H1, I1, q⟩

variable {tA tB' : TT} {rest : List Expr}
noncomputable def tAnd (t u : TT) : TT := fun σ H Q => t σ H fun c H1 => if c = true then u σ H1 Q else Q false H1
noncomputable def tOr (t u : TT) : TT := fun σ H Q => t σ H fun c H1 => if c = true then Q true H1 else u σ H1 Q
noncomputable def tNot (t : TT) : TT := fun σ H Q => t σ H fun c H1 => Q (!c) H1
theorem pw_and1 (ha : PT X a tA) : PW X (.BoolOp .And [a] pos) tA := by
  intro wh pins s σ H Q I h
  refine isTrue_and (thn (ha pins s σ H Q I h) fun c s1 e => ?_)
  cases c with
  | true => exact isTrue_and_nil e
  | false => exact e
theorem pw_or1 (ha : PT X a tA) : PW X (.BoolOp .Or [a] pos) tA := by
  intro wh pins s σ H Q I h
  refine isTrue_or (thn (ha pins s σ H Q I h) fun c s1 e => ?_)
  cases c with
  | false => exact isTrue_or_nil e
  | true => exact e
theorem pw_and (ha : PT X a tA) (hb : PW X (.BoolOp .And (b :: rest) pos) tB') : PW X (.BoolOp .And (a :: b :: rest) pos) (tAnd tA tB') := by
  intro wh pins s σ H Q I h
  refine isTrue_and (thn (ha pins s σ H _ I h) fun c s1 ⟨H1, I1, q1⟩ => ?_)
  cases c with
  | true => exact hb wh pins s1 σ H1 Q I1 q1
  | false => exact ⟨H1, I1, q1⟩
theorem pw_or (ha : PT X a tA) (hb : PW X (.BoolOp .Or (b :: rest) pos) tB') : PW X (.BoolOp .Or (a :: b :: rest) pos) (tOr tA tB') := by
  intro wh pins s σ H Q I h
  refine isTrue_or (thn (ha pins s σ H _ I h) fun c s1 ⟨H1, I1, q1⟩ => ?_)
  cases c with
  | true => exact ⟨H1, I1, q1⟩
  | false => exact hb wh pins s1 σ H1 Q I1 q1
theorem pt_not (ha : PT X a tA) : PT X (.UnaryOp .Not a pos) (tNot tA) := by
  intro pins s σ H Q I h
  exact isTrue_not (ha pins s σ H (fun c H1 => Q (!c) H1) I h)
noncomputable def tAndV (ta tb : TE) : TE := fun σ H Q => ta σ H fun x H1 => ∃ c, x = .bl c ∧ if c = true then tb σ H1 Q else Q (.bl false) H1
noncomputable def tOrV (ta tb : TE) : TE := fun σ H Q => ta σ H fun x H1 => ∃ c, x = .bl c ∧ if c = true then Q (.bl true) H1 else tb σ H1 Q
noncomputable def tNotV (ta : TE) : TE := fun σ H Q => ta σ H fun x H1 => ∃ c, x = .bl c ∧ Q (.bl (!c)) H1
theorem pe_one {op} {t : TE} (h : PE X a t) : PE X (.BoolOp op [a] pos) t := fun pins s σ H Q I hw => BoolOp_one (h pins s σ H Q I hw)
theorem pe_and (ha : PE X a ta) (hb : PE X (.BoolOp .And (b :: rest) pos) tb) : PE X (.BoolOp .And (a :: b :: rest) pos) (tAndV ta tb) := by
  intro pins s σ H Q I h
  refine BoolOp_and (thn (ha pins s σ H _ I h) fun v s1 ⟨x, H1, I1, r1, q1⟩ => ?_)
  obtain ⟨c, rfl, q1⟩ := q1
  cases r1
  refine wpAny_truthy_bool ?_
  cases c with
  | true => exact hb pins s1 σ H1 Q I1 q1
  | false => exact ⟨.bl false, H1, I1, rfl, q1⟩
theorem pe_or (ha : PE X a ta) (hb : PE X (.BoolOp .Or (b :: rest) pos) tb) : PE X (.BoolOp .Or (a :: b :: rest) pos) (tOrV ta tb) := by
  intro pins s σ H Q I h
  refine BoolOp_or (thn (ha pins s σ H _ I h) fun v s1 ⟨x, H1, I1, r1, q1⟩ => ?_)
  obtain ⟨c, rfl, q1⟩ := q1
  cases r1
  refine wpAny_truthy_bool ?_
  cases c with
  | false => exact hb pins s1 σ H1 Q I1 q1
  | true => exact ⟨.bl true, H1, I1, rfl, q1⟩
theorem pe_not (ha : PE X a ta) : PE X (.UnaryOp .Not a pos) (tNotV ta) := by
  intro pins s σ H Q I h
  refine UnaryOp_ (thn (ha pins s σ H _ I h) fun v s1 ⟨x, H1, I1, r1, q1⟩ => ?_)
  obtain ⟨c, rfl, q1⟩ := q1
  cases r1
  exact not_of (wpAny_truthy_bool ⟨.bl (!c), H1, I1, rfl, q1⟩)
noncomputable def tIf (t : TT) (ta tb : TE) : TE := fun σ H Q => t σ H fun c H1 => if c = true then ta σ H1 Q else tb σ H1 Q
theorem pe_ifExp {c : Expr} (hc : PT X c tA) (ha : PE X a ta) (hb : PE X b tb) : PE X (.IfExp c a b pos) (tIf tA ta tb) := by
  intro pins s σ H Q I h
  refine wpAny_IfExp (thn (hc pins s σ H _ I h) fun d s1 ⟨H1, I1, q1⟩ => ?_)
  cases d with
  | true => exact ha pins s1 σ H1 Q I1 q1
  | false => exact hb pins s1 σ H1 Q I1 q1
end
end L2

namespace L2
open PySem PySem.Spec PyProof.Rows

noncomputable def SqL (K : PySem.W.Frag) (H : Hp) (a : Addr) (xs : List V) : Prop :=
  Rd H a (.lst xs) ∨
    ∃ (o : Obj) (its : Array Value) (n : Nat), K.lookup a = some o ∧ o.cls = .type "list" ∧ o.dict = none ∧ o.data = .seq its n ∧ its.size ≤ sizeLine ∧ Vals xs its.toList
noncomputable def SqT (K : PySem.W.Frag) (H : Hp) (a : Addr) (xs : List V) : Prop :=
  Rd H a (.tup xs) ∨
    ∃ (o : Obj) (its : Array Value) (n : Nat), K.lookup a = some o ∧ o.cls = .type "tuple" ∧ o.data = .seq its n ∧ its.size ≤ sizeLine ∧ Vals xs its.toList
noncomputable def absV : Value → Option V
  | .none => some .non
  | .bool b => some (.bl b)
  | .int i _ => some (.int i)
  | .str x _ => some (.str x)
  | .bytes b _ => some (.byt b)
  | .float b _ => some (.flt b)
  | .ref a => some (.ref a)
  | .type n => some (.ty n)
  | _ => none
theorem RelV.abs {x : V} {u : Value} (r : RelV x u) : absV u = some x := by
  cases x with
  | non => cases r; rfl
  | bl _ => cases r; rfl
  | int _ => obtain ⟨t, rfl⟩ := r; rfl
  | str _ => obtain ⟨t, rfl⟩ := r; rfl
  | byt _ => obtain ⟨t, rfl⟩ := r; rfl
  | flt _ => obtain ⟨t, rfl⟩ := r; rfl
  | ref _ => cases r; rfl
  | ty _ => cases r; rfl
theorem RelV.inj {x y : V} {u : Value} (r : RelV x u) (q : RelV y u) : x = y := Option.some.inj (r.abs.symm.trans q.abs)
theorem Vals.inj : ∀ {xs ys : List V} {us : List Value}, Vals xs us → Vals ys us → xs = ys
  | _, _, _, .nil, .nil => rfl
  | _, _, _, .cons r t, .cons r' t' => by rw [r.inj r', Vals.inj t t']
section
variable {X : Cx} {pins : List (Addr × Obj)} {σ : St} {H : Hp} {s : Shared} {a : Addr} {xs ys : List V}
theorem SqL.of {K : PySem.W.Frag} (h : H a = some (.lst xs)) : SqL K H a xs := .inl (.inl h)
theorem SqT.of {K : PySem.W.Frag} (h : H a = some (.tup xs)) : SqT K H a xs := .inl (.inl h)
theorem Inv.list (I : Inv X pins σ H s) (h : SqL X.K H a xs) : ∃ its : List Value, Vals xs its ∧ PlainL s.heap a its.toArray ∧ xs.length ≤ sizeLine := by
  rcases h with h | ⟨o, its, n, hk, hc, hd, hs, hz, r⟩
  · obtain ⟨z, its, n, r, e⟩ := h.ok I.hok
    exact ⟨its, r, ⟨_, n, e, rfl, rfl, rfl⟩, z⟩
  · refine ⟨its.toList, r, ⟨o, n, I.kIn a o hk, hc, hd, by simpa using hs⟩, ?_⟩
    have e := r.length
    simp only [Array.length_toList] at e
    omega
theorem Inv.tuple (I : Inv X pins σ H s) (h : SqT X.K H a xs) : ∃ its : List Value, Vals xs its ∧ IsTup s.heap a its.toArray ∧ xs.length ≤ sizeLine := by
  rcases h with h | ⟨o, its, n, hk, hc, hs, hz, r⟩
  · obtain ⟨z, its, r, p⟩ := h.ok I.hok
    exact ⟨its, r, p, z⟩
  · refine ⟨its.toList, r, ⟨o, I.kIn a o hk, hc, n, by simpa using hs⟩, ?_⟩
    have e := r.length
    simp only [Array.length_toList] at e
    omega
theorem Inv.list_inj (I : Inv X pins σ H s) (h : SqL X.K H a xs) (h' : SqL X.K H a ys) : xs = ys := by
  obtain ⟨its, r, ⟨o, n, e, _, _, d⟩, _⟩ := I.list h
  obtain ⟨its', r', ⟨o', n', e', _, _, d'⟩, _⟩ := I.list h'
  rw [e] at e'; cases e'
  rw [d] at d'
  injection d' with d1 _
  have : its = its' := by simpa using congrArg Array.toList d1
  subst this
  exact r.inj r'
end

noncomputable abbrev Cx.wish (X : Cx) (E : Value → Shared → Prop) : Cx := { X with xe := E }
noncomputable abbrev Cx.nox (X : Cx) : Cx := X.wish fun _ _ => False
theorem Cx.Ok.wish {X : Cx} (ok : X.Ok) (E : Value → Shared → Prop) : (X.wish E).Ok :=
  ⟨ok.mod, ok.kind, ok.glob, ok.blt, ok.above, ok.inj, ok.has, ok.cab, ok.hd, ok.frames, ok.stk, ok.exf, ok.bs, ok.bsz, ok.noex, ok.exfs, ok.funs, ok.frf⟩
theorem Cx.Ok.unwish {X : Cx} {E : Value → Shared → Prop} (ok : (X.wish E).Ok) : X.Ok :=
  ⟨ok.mod, ok.kind, ok.glob, ok.blt, ok.above, ok.inj, ok.has, ok.cab, ok.hd, ok.frames, ok.stk, ok.exf, ok.bs, ok.bsz, ok.noex, ok.exfs, ok.funs, ok.frf⟩
section
variable {X : Cx} {pins : List (Addr × Obj)} {σ : St} {H : Hp} {s : Shared} {E : Value → Shared → Prop}
theorem Inv.wish (I : Inv X pins σ H s) (E : Value → Shared → Prop) : Inv (X.wish E) pins σ H s := ⟨I.ok.wish E, I.os, I.bare, I.base, I.loc, I.cell, I.free, I.freeC, I.pin, I.hok, I.len⟩
theorem Inv.unwish (I : Inv (X.wish E) pins σ H s) : Inv X pins σ H s := ⟨I.ok.unwish, I.os, I.bare, I.base, I.loc, I.cell, I.free, I.freeC, I.pin, I.hok, I.len⟩
theorem SP.unwish {D : Ends} {f : Flow} {s' : Shared} (h : SP (X.wish E) pins D f s') : SP X pins D f s' := by
  cases f with
  | next => obtain ⟨σ', H', I, q⟩ := h; exact ⟨σ', H', I.unwish, q⟩
  | brk => obtain ⟨σ', H', I, q⟩ := h; exact ⟨σ', H', I.unwish, q⟩
  | cont => obtain ⟨σ', H', I, q⟩ := h; exact ⟨σ', H', I.unwish, q⟩
  | ret u => obtain ⟨v, σ', H', I, r, q⟩ := h; exact ⟨v, σ', H', I.unwish, r, q⟩
theorem PE.nox {e : Expr} {t : TE} (h : PE X.nox e t) : PE X e t := fun pins s σ H Q I hw =>
  wpAny_mono (h pins s σ H Q (I.wish _) hw) (fun _ _ ⟨v, H', I', r, q⟩ => ⟨v, H', I'.unwish, r, q⟩) fun _ _ z => False.elim z
theorem PT.nox {e : Expr} {t : TT} (h : PT X.nox e t) : PT X e t := fun pins s σ H Q I hw =>
  wpAny_mono (h pins s σ H Q (I.wish _) hw) (fun _ _ ⟨H', I', q⟩ => ⟨H', I'.unwish, q⟩) fun _ _ z => False.elim z
theorem PSs.nox {st : List Stmt} {t : TS} (h : PSs X.nox st t) : PSs X st t := fun pins s σ H D I hw =>
  wpAny_mono (h pins s σ H D (I.wish _) hw) (fun _ _ q => q.unwish) fun _ _ z => False.elim z
end

section
variable {X : Cx} {st : Stmt} {rest : List Stmt} {t u : TS} {e : Expr} {te : TE} {pos : Pos}
noncomputable def tNext : TS := fun D σ H => D.nx σ H
noncomputable def tSeq (t u : TS) : TS := fun D σ H => t { D with nx := u D } σ H
theorem pss_nil : PSs X [] tNext := fun _ _ σ H _ I h => wpAny_execs_nil ⟨σ, H, I, h⟩
theorem pss_cons (h1 : PS X st t) (h2 : PSs X rest u) : PSs X (st :: rest) (tSeq t u) := by
  intro pins s σ H D I h
  refine wpAny_execs_cons (thn (h1 pins s σ H { D with nx := u D } I h) fun f s1 q => ?_)
  cases f with
  | next =>
    obtain ⟨σ', H', I', q⟩ := q
    exact h2 pins s1 σ' H' D I' q
  | ret v => exact q
  | brk => exact q
  | cont => exact q
theorem pss_one (h1 : PS X st t) : PSs X [st] t := by
  intro pins s σ H D I h
  refine wpAny_execs_cons (thn (h1 pins s σ H D I h) fun f s1 q => ?_)
  cases f with
  | next => exact wpAny_execs_nil q
  | ret v => exact q
  | brk => exact q
  | cont => exact q
theorem Inv.quiet {pins : List (Addr × Obj)} {σ : St} {H : Hp} {s : Shared} (I : Inv X pins σ H s) : interactive X.env = false := by simp [interactive, I.ok.kind]
noncomputable def tDrop (te : TE) : TS := fun D σ H => te σ H fun _ H1 => D.nx σ H1
theorem ps_expr (he : PE X e te) (hs : swapsWith e none pos.line X.env = pure false := by rfl) : PS X (.Expr e pos) (tDrop te) := by
  intro pins s σ H D I h
  exact wpAny_Expr_any (thn (he pins s σ H _ I h) fun v s1 ⟨x, H1, I1, r1, q1⟩ => ⟨σ, H1, I1, q1⟩) I.quiet hs
noncomputable def tRet (te : TE) : TS := fun D σ H => te σ H D.rt
theorem ps_ret (he : PE X e te) : PS X (.Return (some e) pos) (tRet te) := by
  intro pins s σ H D I h
  exact wpAny_Return_some (thn (he pins s σ H _ I h) fun v s1 ⟨x, H1, I1, r1, q1⟩ => ⟨x, σ, H1, I1, r1, q1⟩)
noncomputable def tIfS (c : TT) (t u : TS) : TS := fun D σ H => c σ H fun b H1 => if b = true then t D σ H1 else u D σ H1
theorem ps_if {c : Expr} {a b : List Stmt} {tc : TT} (hc : PT X c tc) (ha : PSs X a t) (hb : PSs X b u) : PS X (.If c a b pos) (tIfS tc t u) := by
  intro pins s σ H D I h
  refine wpAny_If (thn (hc pins s σ H _ I h) fun d s1 ⟨H1, I1, q1⟩ => ?_)
  cases d with
  | true => exact ha pins s1 σ H1 D I1 q1
  | false => exact hb pins s1 σ H1 D I1 q1
end

abbrev TG := V → St → Hp → (St → Hp → Prop) → Prop
abbrev TGs := List V → St → Hp → (St → Hp → Prop) → Prop
noncomputable def PG (X : Cx) (target : Expr) (t : TG) : Prop :=
  ∀ (pins : List (Addr × Obj)) (s : Shared) (σ : St) (H : Hp) (v : V) (u : Value) (Q : St → Hp → Prop), Inv X pins σ H s → RelV v u → t v σ H Q →
    wpAny (model X.prog X.w) X.A (assign target X.env u) (fun _ s' => ∃ σ' H', Inv X pins σ' H' s' ∧ Q σ' H') X.xe s
noncomputable def PGs (X : Cx) (ts : List Expr) (t : TGs) : Prop :=
  ∀ (pins : List (Addr × Obj)) (s : Shared) (σ : St) (H : Hp) (vs : List V) (us : List Value) (Q : St → Hp → Prop), Inv X pins σ H s → Vals vs us → t vs σ H Q →
    wpAny (model X.prog X.w) X.A (assignInOrder ((assignEach ts X.env).map (·.2)) us) (fun _ s' => ∃ σ' H', Inv X pins σ' H' s' ∧ Q σ' H') X.xe s
abbrev TIp := V → V → Hp → VK → Prop
noncomputable def PIp (X : Cx) (op : Operator) (t : TIp) : Prop :=
  ∀ (pins : List (Addr × Obj)) (s : Shared) (σ : St) (H : Hp) (x y : V) (v u : Value) (Q : VK), Inv X pins σ H s → RelV x v → RelV y u → t x y H Q →
    wpAny (model X.prog X.w) X.A (inplaceOp op v u) (EP X pins σ Q) X.xe s
section
variable {X : Cx} {pos : Pos}
noncomputable def gName (i : Nat) : TG := fun v σ H Q => Q (σ.set i (some v)) H
theorem pg_name {i : Nat} {x : Str} (hN : X.N.Nodup) (hi : X.N[i]? = some x) (hx : Loc X.env.scope x) (hf : X.fn x = true ∨ X.env.scope.names.lookup x = some .local := by first | exact .inl rfl | exact .inr rfl | assumption) : PG X (.Name x pos) (gName i) := by
  intro pins s σ H v u Q I r h
  exact wpAny_assign_Name (store_ok I hN hi hx r (fun s' I' => ⟨_, H, I', h⟩) hf)
noncomputable def gNil : TGs := fun vs σ H Q => vs = [] ∧ Q σ H
noncomputable def gCons (t : TG) (u : TGs) : TGs := fun vs σ H Q => ∃ v r, vs = v :: r ∧ t v σ H fun σ' H' => u r σ' H' Q
theorem pgs_nil : PGs X [] gNil := by
  intro pins s σ H vs us Q I r h
  obtain ⟨e, h⟩ := h
  subst e
  cases r
  exact assignInOrder_nil ⟨σ, H, I, h⟩
theorem pgs_cons {e : Expr} {es : List Expr} {t : TG} {u : TGs} (h1 : PG X e t) (h2 : PGs X es u)
    (hs : (assignEach (e :: es) X.env).map (·.2) = assign e X.env :: (assignEach es X.env).map (·.2) := by rfl) : PGs X (e :: es) (gCons t u) := by
  intro pins s σ H vs us Q I r h
  obtain ⟨v, vr, e1, h⟩ := h
  subst e1
  cases r with
  | cons r rr =>
    rw [hs]
    refine assignInOrder_cons (thn (h1 pins s σ H _ _ _ I r h) fun _ s1 ⟨σ1, H1, I1, q1⟩ => ?_)
    exact h2 pins s1 σ1 H1 _ _ Q I1 rr q1
noncomputable def gTup (K : PySem.W.Frag) (n : Nat) (t : TGs) : TG := fun v σ H Q => ∃ a xs, v = .ref a ∧ SqT K H a xs ∧ xs.length = n ∧ t xs σ H Q
theorem pg_tup {es : List Expr} {k : Nat} {t : TGs} {n : Nat} (hc : X.calm = true) (h : PGs X es t)
    (hn : (assignEach es X.env).length = n := by rfl) (hst : (assignEach es X.env).findIdx? (·.1) = none := by rfl) : PG X (.Tuple es k pos) (gTup X.K n t) := by
  intro pins s σ H v u Q I r hw
  obtain ⟨a, xs, e1, hq, hl, hw⟩ := hw
  subst e1
  cases r
  obtain ⟨its, rv, ht, hz⟩ := I.tuple hq
  refine assign_Tuple_tuple (I.ok.hd hc) ht (by simp [hn, ← hl, rv.length]) hst fun h' hx => ?_
  have I1 : Inv X pins σ H { s with heap := h' } := I.kept (t' := s.toks) fun b o e => hx b o (Nat.ne_of_lt (Heap.lt_size e)) e
  exact h pins _ σ H xs _ Q I1 (by simpa using rv) hw
noncomputable def tAsg (te : TE) (g : TG) : TS := fun D σ H => te σ H fun x H1 => g x σ H1 D.nx
theorem ps_asg {tg e : Expr} {te : TE} {g : TG} (he : PE X e te) (hg : PG X tg g) (hs : swapsWithSole [tg] e pos.line X.env = pure false := by rfl) (hw : swappedStores [tg] e X.env = pure none := by rfl)
    (h1 : (assignEach [tg] X.env).map (·.2) = [assign tg X.env] := by rfl) : PS X (.Assign [tg] e pos) (tAsg te g) := by
  intro pins s σ H D I h
  refine wpAny_Assign_stores (thn (he pins s σ H _ I h) fun v s1 ⟨x, H1, I1, r1, q1⟩ => ?_) hs hw
  rw [h1]
  exact thn (hg pins s1 σ H1 x v _ I1 r1 q1) fun _ s2 q => q
theorem ps_set {i : Nat} {x : Str} {e : Expr} {te : TE} {pos' : Pos} (hN : X.N.Nodup) (hi : X.N[i]? = some x) (hx : Loc X.env.scope x) (he : PE X e te) (hs : swapsWith e (some (.Name x pos')) pos.line X.env = pure false := by rfl) (hf : X.fn x = true ∨ X.env.scope.names.lookup x = some .local := by first | exact .inl rfl | exact .inr rfl | assumption) :
    PS X (.Assign [.Name x pos'] e pos) (tAsg te (gName i)) := by
  intro pins s σ H D I h
  refine wpAny_Assign_Name (thn (he pins s σ H _ I h) fun v s1 ⟨y, H1, I1, r1, q1⟩ => ?_) hs
  exact store_ok I1 hN hi hx r1 (fun s2 I2 => ⟨_, H1, I2, q1⟩) hf
noncomputable def tPar (i j : Nat) (ta : TA) : TS := fun D σ H => ta σ H fun vs H1 => ∃ v w, vs = [v, w] ∧ D.nx ((σ.set i (some v)).set j (some w)) H1
theorem ps_par {i j : Nat} {x y : Str} {a b : Expr} {ta : TA} {px py pt : Pos} {kt k2 pt2} (hc : X.calm = true) (hN : X.N.Nodup) (hi : X.N[i]? = some x) (hj : X.N[j]? = some y) (hij : i ≠ j)
    (hx : X.env.scope.names.lookup x = some .local) (hy : X.env.scope.names.lookup y = some .local) (ha : PA X [a, b] ta)
    (hw : swappedStores [.Tuple [.Name x px, .Name y py] kt pt] (.Tuple [a, b] k2 pt2) X.env = pure (some [x, y]))
    (hs : swapsWithSole [.Tuple [.Name x px, .Name y py] kt pt] (.Tuple [a, b] k2 pt2) pos.line X.env = pure false := by rfl) :
    PS X (.Assign [.Tuple [.Name x px, .Name y py] kt pt] (.Tuple [a, b] k2 pt2) pos) (tPar i j ta) := by
  intro pins s σ H D I h
  rw [exec_Assign_arm]
  refine wpAny_bind (wpAny_standAt ?_)
  rw [hs]
  refine wpAny_bind (wpAny_pure ?_)
  rw [if_neg (by decide)]
  refine wpAny_bind (Tuple_ (thn (ha _ pins s σ H _ I h) fun us s1 ⟨vs, H1, I1, r1, q1⟩ => ?_))
  obtain ⟨v, w, e1, q1⟩ := q1
  subst e1
  obtain ⟨u1, u2, rfl, rv, rw'⟩ : ∃ u1 u2, us = [u1, u2] ∧ RelV v u1 ∧ RelV w u2 := by
    cases r1 with
    | cons p q =>
      cases q with
      | cons p' q' =>
        cases q'
        exact ⟨_, _, rfl, p, p'⟩
  refine wpAny_newObj_type ?_ (by show 2 ≤ sizeLine; decide)
  have I2 : Inv X pins σ H1 { s1 with heap := s1.heap.push { cls := .type "tuple", data := .seq [u1, u2].toArray } } := I1.kept (t' := s1.toks) fun b o e => Heap.get?_push_of_some _ e
  rw [hw]
  refine wpAny_bind (wpAny_pure ?_)
  show wpAny (model X.prog X.w) X.A (do rule "assign.swapped-stores"; let items ← unpackItems (.ref s1.heap.objs.size) 2 none; assignInOrder [fun v => bindName X.env y v, fun v => bindName X.env x v] items.reverse; pure Flow.next) _ _ _
  refine wpAny_bind (wpAny_rule (wpAny_bind (unpackItems_tuple (items := #[u1, u2]) (I.ok.hd hc) (IsTup.new s1.heap _) fun h' hx' => ?_)))
  have I3 := I2.kept (h' := h') (t' := s1.toks) fun b o e => hx' b o (Nat.ne_of_lt (Heap.lt_size e)) e
  show wpAny _ _ (assignInOrder [fun v => bindName X.env y v, fun v => bindName X.env x v] [u2, u1] >>= fun _ => pure Flow.next) _ _ _
  refine wpAny_bind (assignInOrder_cons (wpAny_bindName (store_ok I3 hN hj (.inl hy) rw' (fun s2 I4 => ?_) (.inr hy))))
  refine assignInOrder_cons (wpAny_bindName (store_ok I4 hN hi (.inl hx) rv (fun s3 I5 => assignInOrder_nil (wpAny_pure ?_)) (.inr hx)))
  rw [List.set_comm _ _ (Ne.symm hij)] at I5
  exact ⟨_, H1, I5, q1⟩
noncomputable def tAug (i : Nat) (te : TE) (ti : TIp) : TS := fun D σ H => ∃ x, σ[i]? = some (some x) ∧ te σ H fun y H1 => ti x y H1 fun z H2 => D.nx (σ.set i (some z)) H2
theorem ps_aug {i : Nat} {x : Str} {e : Expr} {te : TE} {op : Operator} {ti : TIp} {pos' : Pos} (hN : X.N.Nodup) (hi : X.N[i]? = some x) (hx : Loc X.env.scope x) (he : PE X e te) (ho : PIp X op ti) (hf : X.fn x = true ∨ X.env.scope.names.lookup x = some .local := by first | exact .inl rfl | exact .inr rfl | assumption) :
    PS X (.AugAssign (.Name x pos') op e pos) (tAug i te ti) := by
  intro pins s σ H D I h
  obtain ⟨v, e1, h⟩ := h
  obtain ⟨m, hn, hl⟩ := I.loc
  have vis : Vis X.env.scope x := by rcases hx with k | k; exact .inl k; exact .inr (.inl k)
  obtain ⟨u, r, l⟩ := hl i x v hi e1 vis
  refine wpAny_AugAssign_Name ?_
  have go : wpAny (model X.prog X.w) X.A (eval e X.env) (fun w s₂ => wpAny (model X.prog X.w) X.A (inplaceOp op u w) (fun r s₃ => wpAny (model X.prog X.w) X.A (storeName X.env x r) (fun _ => SP X pins D .next) X.xe s₃) X.xe s₂) X.xe s := by
    refine thn (he pins s σ H _ I h) fun w s1 ⟨y, H1, I1, r1, q1⟩ => ?_
    refine thn (ho pins s1 σ H1 v y u w _ I1 r r1 q1) fun z s2 ⟨zv, H2, I2, r2, q2⟩ => ?_
    exact store_ok I2 hN hi hx r2 (fun s3 I3 => ⟨_, H2, I3, q2⟩) hf
  rcases l with ⟨hk, hm⟩ | ⟨hk, c, hc, hcell⟩
  · exact wpAny_loadName_local I.ok.kind hk hn hm go
  · rcases hk with hk | hk
    · exact wpAny_loadName_cell I.ok.kind hk hc hcell go
    · rcases hx with k | k
      · have : X.env.scope.names.lookup x = some .free := hk
        rw [k] at this; cases this
      · have : X.env.scope.names.lookup x = some .free := hk
        rw [k] at this; cases this
noncomputable def ipI (f : Int → Int → Int) : TIp := fun x y H Q => ∃ i j, x = .int i ∧ y = .int j ∧ Q (.int (f i j)) H
theorem ip_add : PIp X .Add (ipI fun i j => i + j) := by
  intro pins s σ H x y v u Q I r1 r2 h
  obtain ⟨i, j, e1, e2, q⟩ := h
  subst e1; subst e2
  obtain ⟨t, rfl⟩ := r1
  obtain ⟨t', rfl⟩ := r2
  exact iadd_int ⟨.int _, H, I.tok _, ⟨_, rfl⟩, q⟩
theorem ip_sub : PIp X .Sub (ipI fun i j => i - j) := by
  intro pins s σ H x y v u Q I r1 r2 h
  obtain ⟨i, j, e1, e2, q⟩ := h
  subst e1; subst e2
  obtain ⟨t, rfl⟩ := r1
  obtain ⟨t', rfl⟩ := r2
  exact isub_int ⟨.int _, H, I.tok _, ⟨_, rfl⟩, q⟩
end

section
variable {X : Cx} {pos : Pos}
noncomputable def tWhile (c : TT) (tb : TS) : TS := fun D σ H => ∃ W : Nat → St → Hp → Prop, (∃ m, W m σ H) ∧ ∀ m σ H, W m σ H →
  c σ H fun b H1 => if b = true then ∃ N : St → Hp → Prop, (∀ σ' H', N σ' H' → ∃ m', m' < m ∧ W m' σ' H') ∧ tb { D with nx := N, ct := N, bk := D.nx } σ H1 else D.nx σ H1
theorem ps_while {c : Expr} {body : List Stmt} {tc : TT} {tb : TS} (hp : PassesOwn (model X.prog X.w) X.A X.env X.xe) (hc : PT X c tc) (hb : PSs X body tb) : PS X (.While c body [] pos) (tWhile tc tb) := by
  intro pins s σ H D I h
  obtain ⟨W, ⟨m0, w0⟩, turn⟩ := h
  refine wpAny_While (codeAny_whileLoop (fun n s' => ∃ σ' H', Inv X pins σ' H' s' ∧ W n σ' H') ?_ m0 ⟨σ, H, I, w0⟩)
  rintro n s1 ⟨σ1, H1, I1, w1⟩
  refine wpAny_passesOwn hp (thn (hc pins s1 σ1 H1 _ I1 (turn n σ1 H1 w1)) fun b s2 ⟨H2, I2, q2⟩ => ?_)
  cases b with
  | true =>
    obtain ⟨N, hN, q2⟩ := q2
    rw [if_pos rfl]
    refine wpAny_passesOwn hp (thn (hb pins s2 σ1 H2 _ I2 q2) fun f s3 q3 => ?_)
    cases f with
    | next =>
      obtain ⟨σ3, H3, I3, n3⟩ := q3
      obtain ⟨m', hm, w3⟩ := hN σ3 H3 n3
      exact ⟨m', hm, σ3, H3, I3, w3⟩
    | cont =>
      obtain ⟨σ3, H3, I3, n3⟩ := q3
      obtain ⟨m', hm, w3⟩ := hN σ3 H3 n3
      exact ⟨m', hm, σ3, H3, I3, w3⟩
    | brk => exact q3
    | ret v => exact q3
  | false =>
    rw [if_neg Bool.false_ne_true]
    exact wpAny_execs_nil ⟨σ1, H2, I2, q2⟩
end

structure It where
  go : Nat → Hp → Prop
  yld : Nat → Hp → V → Hp → Prop
  stop : Nat → Hp → Prop
noncomputable def FpOk (X : Cx) (pins : List (Addr × Obj)) (H : Hp) (b : Addr) : Prop :=
  H b = none ∧ b ≠ X.env.locals ∧ b ∉ X.fs ∧ (b ∈ X.ex ∨ X.s₀.heap.objs.size ≤ b) ∧ (∀ x c, X.env.cells.lookup x = some c → c ≠ b) ∧ ∀ p ∈ X.pn ++ pins, p.1 ≠ b
theorem Inv.fpOk {X : Cx} {pins : List (Addr × Obj)} {σ : St} {H H' : Hp} {s : Shared} {b : Addr} (I : Inv X pins σ H s) (hb : s.heap.objs.size ≤ b) (hn : H' b = none) : FpOk X pins H' b := by
  refine ⟨hn, Nat.ne_of_gt (Nat.lt_of_lt_of_le I.lt hb), I.nofs hb, .inr (Nat.le_trans I.sz hb), fun x c e z => ?_, fun p hp z => ?_⟩
  · obtain ⟨v, q⟩ := I.cell x c e
    exact absurd (Nat.lt_of_lt_of_le q.lt (by rw [z]; exact hb)) (Nat.lt_irrefl _)
  · exact absurd (Nat.lt_of_lt_of_le (Heap.lt_size (I.pin p hp).1) (by rw [z]; exact hb)) (Nat.lt_irrefl _)
structure Turn (P : Program) (w : World) (K : PySem.W.Frag) (tg : Expr) (J : It) (fp : List Addr) (it : Addr) (tn : Nat → Heap → Prop) : Prop where
  mem : it ∈ fp
  obj : ∀ i h, tn i h → ∀ b ∈ fp, ∃ o, h.get? b = some o ∧ ∀ v, o.data ≠ .cell v
  keep : ∀ i h h', tn i h → (∀ b ∈ fp, ∀ o, h.get? b = some o → h'.get? b = some o) → tn i h'
  item : ∀ (X : Cx), X.prog = P → X.w = w → X.K = K → X.calm = true → ∀ (i : Nat) (pins : List (Addr × Obj)) (s : Shared) (σ : St) (H : Hp) (E : Value → Shared → Prop), Inv X pins σ H s → (∀ b ∈ fp, FpOk X pins H b) → tn i s.heap → J.go i H →
    wpAny (model P w) X.A (pyNext (.ref it)) (fun r s1 => ∃ u, r = some u ∧
      wpAny (model P w) X.A (letOwnedTupleGo tg (.ref it) u) (fun _ s2 => ∃ x H', Inv X pins σ H' s2 ∧ RelV x u ∧ J.yld i H x H' ∧ tn (i + 1) s2.heap ∧ ∀ b ∈ fp, H' b = none) E s1) E s
  done : ∀ (X : Cx), X.prog = P → X.w = w → X.K = K → X.calm = true → ∀ (i : Nat) (pins : List (Addr × Obj)) (s : Shared) (σ : St) (H : Hp) (E : Value → Shared → Prop), Inv X pins σ H s → (∀ b ∈ fp, FpOk X pins H b) → tn i s.heap → J.stop i H →
    wpAny (model P w) X.A (pyNext (.ref it)) (fun r s1 => r = none ∧ Inv X pins σ H s1) E s
  self : ∀ (A : Around) (i : Nat) (s : Shared) (Q : Value → Shared → Prop) (E : Value → Shared → Prop), tn i s.heap → Q (.ref it) s → wpAny (model P w) A (pyIter (.ref it)) Q E s
abbrev TI := St → Hp → (It → Hp → Prop) → Prop
noncomputable def PIE (X : Cx) (pins : List (Addr × Obj)) (σ : St) (tg : Expr) (R : It → Hp → Prop) (itv : Value) (s2 : Shared) : Prop :=
  ∃ (it : Addr) (fp : List Addr) (tn : Nat → Heap → Prop) (J : It) (H' : Hp), itv = .ref it ∧ Inv X pins σ H' s2 ∧ Turn X.prog X.w X.K tg J fp it tn ∧ tn 0 s2.heap ∧ (∀ b ∈ fp, FpOk X pins H' b) ∧ R J H'
noncomputable def PI (X : Cx) (tg iter : Expr) (wi : TI) : Prop :=
  ∀ (pins : List (Addr × Obj)) (s : Shared) (σ : St) (H : Hp) (R : It → Hp → Prop), Inv X pins σ H s → wi σ H R →
    wpAny (model X.prog X.w) X.A (eval iter X.env) (fun v s1 => wpAny (model X.prog X.w) X.A (pyIter v) (PIE X pins σ tg R) X.xe s1) X.xe s

theorem go_of {M : Model} {A : Around} {E : Value → Shared → Prop} {s : Shared} {tg : Expr} {it : Addr} {u : Value} {o : Obj} {n : String} {vs : Array Value} {Q : Unit → Shared → Prop} (ho : s.heap.get? it = some o) (hc : o.cls = .type n) (hd : o.data = .fields vs)
    (hn : ["enumerate", "zip", "dict_itemiterator", "dict_reverseitemiterator", "odict_iterator", "itertools.zip_longest", "itertools.pairwise"].contains n = false) (hQ : Q () s) : wpAny M A (letOwnedTupleGo tg (.ref it) u) Q E s := by
  unfold letOwnedTupleGo
  cases tg <;> first
    | exact wpAny_pure hQ
    | (cases u <;> first
        | exact wpAny_pure hQ
        | (refine wpAny_bind (wpAny_load ho ?_)
           rw [hc, hd]
           show wpAny M A (if (["enumerate", "zip", "dict_itemiterator", "dict_reverseitemiterator", "odict_iterator", "itertools.zip_longest", "itertools.pairwise"].contains n && vs[0]? == some (rawInt _)) = true then _ else _) Q E s
           rw [if_neg (by intro h; rw [hn, Bool.false_and] at h; cases h)]
           exact wpAny_pure hQ))

noncomputable def Itl (K : PySem.W.Frag) (a : Addr) : It :=
  ⟨fun i H => ∃ xs x, SqL K H a xs ∧ xs[i]? = some x, fun i H x H' => H' = H ∧ ∀ xs, SqL K H a xs → xs[i]? = some x, fun i H => ∃ xs, SqL K H a xs ∧ xs.length ≤ i⟩
noncomputable def Itr (lo : Int) (n : Nat) : It := ⟨fun i _ => i < n, fun i H x H' => H' = H ∧ x = .int (lo + i), fun i _ => n ≤ i⟩
theorem turn_list {P : Program} {w : World} {K : PySem.W.Frag} {tg : Expr} (a it : Addr) : Turn P w K tg (Itl K a) [it] it (fun i h => h.IsListIter it a i) where
  mem := by simp
  obj := fun i h st b hb => by
    have e : b = it := by simpa using hb
    subst e
    obtain ⟨o, e, c, d⟩ := st
    exact ⟨o, e, fun v z => by rw [d] at z; cases z⟩
  keep := fun i h h' st k => st.at fun o e => k it (by simp) o e
  item := by
    intro X hP hw hK hc i pins s σ H E I hf st hg
    subst hP hw hK
    obtain ⟨xs, x, hq, hx⟩ := hg
    obtain ⟨its, rv, p, hz⟩ := I.list hq
    obtain ⟨u, hu, ru⟩ := rv.get hx
    obtain ⟨f0, f1, f2, f3, f4, f5⟩ := hf it (by simp)
    refine wpAny_pyNext_list_item st p.isList (x := u) (by simpa using hu) fun h' st' sb => ?_
    have I1 : Inv X pins σ H { s with heap := h' } := I.turned (t' := s.toks) (fun b o hb e => (sb.2 b hb).trans e) f0 f1 f3 f4 f5
    obtain ⟨o, e, c, d⟩ := id st'
    exact ⟨u, rfl, go_of (s := { s with heap := h' }) e c d (by decide) ⟨x, H, I1, ru, ⟨rfl, fun ys hy => by rw [I.list_inj hy hq]; exact hx⟩, st', fun b hb => (hf b hb).1⟩⟩
  done := by
    intro X hP hw hK hc i pins s σ H E I hf st hg
    subst hP hw hK
    obtain ⟨xs, hq, hx⟩ := hg
    obtain ⟨its, rv, p, hz⟩ := I.list hq
    obtain ⟨f0, f1, f2, f3, f4, f5⟩ := hf it (by simp)
    have hl := rv.length
    exact wpAny_pyNext_list_end (I.ok.hd hc) st p.isList (by simp; omega) fun h' eb => ⟨rfl, I.turned (t' := s.toks) (fun b o hb e => eb b o hb e) f0 f1 f3 f4 f5⟩
  self := fun _ _ _ _ _ st h => wpAny_pyIter_listiter st h
theorem turn_range {P : Program} {w : World} {K : PySem.W.Frag} {tg : Expr} (it : Addr) (lo : Int) (n : Nat) : Turn P w K tg (Itr lo n) [it] it (fun i h => IsRangeIter h it (lo + (i : Nat) * 1) ((n : Int) - (i : Nat)) 1) where
  mem := by simp
  obj := fun i h st b hb => by
    have e : b = it := by simpa using hb
    subst e
    exact ⟨_, st, fun v z => by
      have z' : Data.fields _ = Data.cell v := z
      cases z'⟩
  keep := fun i h h' st k => k it (by simp) _ st
  item := by
    intro X hP hw hK hc i pins s σ H E I hf st hg
    subst hP hw hK
    obtain ⟨f0, f1, f2, f3, f4, f5⟩ := hf it (by simp)
    have W := Walks.range (prog := X.prog) (w := X.w) (I.ok.hd hc) it lo 1 n
    refine W.item i s _ _ hg st fun v h' tk hv st' kk => ?_
    obtain ⟨t, rfl⟩ := hv
    have I1 : Inv X pins σ H { s with heap := h', toks := tk } := I.turned (fun b o hb e => kk b o (by simpa using hb) e) f0 f1 f3 f4 f5
    refine ⟨_, rfl, go_of (s := { s with heap := h', toks := tk }) (n := "range_iterator") st' rfl rfl (by decide) ⟨.int (lo + i), H, I1, ⟨t, ?_⟩, ⟨rfl, rfl⟩, st', fun b hb => (hf b hb).1⟩⟩
    rw [Int.mul_one]
  done := by
    intro X hP hw hK hc i pins s σ H E I hf st hg
    subst hP hw hK
    obtain ⟨f0, f1, f2, f3, f4, f5⟩ := hf it (by simp)
    exact wpAny_pyNext_range_end (I.ok.hd hc) st (by have : n ≤ i := hg; omega) fun h' eb => ⟨rfl, I.turned (t' := s.toks) (fun b o hb e => eb b o hb e) f0 f1 f3 f4 f5⟩
  self := fun _ _ _ _ _ st h => wpAny_pyIter_rangeiter st h
end L2

namespace L2
open PySem PySem.Spec PyProof.Rows
section
variable {X : Cx} {tg : Expr}
noncomputable def iList (K : PySem.W.Frag) (tl : TE) : TI := fun σ H R => tl σ H fun x H1 => ∃ a, x = .ref a ∧ (∃ xs, SqL K H1 a xs) ∧ R (Itl K a) H1
theorem pi_list {l : Expr} {tl : TE} (hl : PE X l tl) : PI X tg l (iList X.K tl) := by
  intro pins s σ H R I h
  refine thn (hl pins s σ H _ I h) fun v s1 ⟨x, H1, I1, r1, q1⟩ => ?_
  obtain ⟨a, e, ⟨xs, hq⟩, q⟩ := q1
  subst e
  cases r1
  obtain ⟨its, rv, p, hz⟩ := I1.list hq
  refine wpAny_pyIter_list p.isList ?_
  refine ⟨s1.heap.objs.size, [s1.heap.objs.size], _, _, H1, rfl, I1.kept (t' := s1.toks) fun b o e => Heap.get?_push_of_some _ e, turn_list a _, ⟨_, Heap.get?_push_size _ rfl, rfl, rfl⟩, fun b hb => ?_, q⟩
  have e : b = s1.heap.objs.size := by simpa using hb
  subst e
  exact I1.fpOk (Nat.le_refl _) (I1.hok.fresh (Nat.le_refl _))
theorem range_it {pins : List (Addr × Obj)} {σ : St} {H : Hp} {s : Shared} {R : It → Hp → Prop} {E : Value → Shared → Prop} {lo hi : Int} {t u v : Tok} {tk : Nat} (I : Inv X pins σ H s) (h1 : -(2 ^ 62) ≤ lo) (h2 : lo < 2 ^ 62) (h3 : -(2 ^ 62) ≤ hi) (h4 : hi < 2 ^ 62)
    (q : R (Itr lo (hi - lo).toNat) H) : wpAny (model X.prog X.w) X.A (pyIter (.ref s.heap.objs.size)) (PIE X pins σ tg R) E { s with heap := s.heap.push { cls := .type "range", data := .fields #[.int lo t, .int hi u, .int 1 v] }, toks := tk } := by
  refine wpAny_pyIter_range (IsRange.new ..) (small_one h1 h2 h3 h4) ?_
  have I1 : Inv X pins σ H { s with heap := s.heap.push { cls := .type "range", data := .fields #[.int lo t, .int hi u, .int 1 v] }, toks := tk } := I.kept fun b o e => Heap.get?_push_of_some _ e
  refine ⟨(s.heap.push { cls := .type "range", data := .fields #[.int lo t, .int hi u, .int 1 v] }).objs.size, [(s.heap.push { cls := .type "range", data := .fields #[.int lo t, .int hi u, .int 1 v] }).objs.size], _, _, H, rfl,
    I1.kept (t' := tk) fun b o e => Heap.get?_push_of_some _ e, turn_range _ lo (hi - lo).toNat, ?_, fun b hb => ?_, q⟩
  · have e1 : lo + ((0 : Nat) : Int) * 1 = lo := by simp
    have e2 : (((hi - lo).toNat : Nat) : Int) - ((0 : Nat) : Int) = Builtin.Range.rangeSize lo hi 1 := by rw [rangeSize_one]; split <;> omega
    show IsRangeIter _ _ (lo + ((0 : Nat) : Int) * 1) ((((hi - lo).toNat : Nat) : Int) - ((0 : Nat) : Int)) 1
    rw [e1, e2]
    exact Heap.get?_push_size _ rfl
  · have e : b = (s.heap.push { cls := .type "range", data := .fields #[.int lo t, .int hi u, .int 1 v] }).objs.size := by simpa using hb
    subst e
    exact I1.fpOk (Nat.le_refl _) (I1.hok.fresh (Nat.le_refl _))
noncomputable def iRng1 (ta : TA) : TI := fun σ H R => ta σ H fun vs H1 => ∃ j : Int, vs = [.int j] ∧ -(2 ^ 62) ≤ j ∧ j < 2 ^ 62 ∧ R (Itr 0 j.toNat) H1
noncomputable def iRng2 (ta : TA) : TI := fun σ H R => ta σ H fun vs H1 => ∃ i j : Int, vs = [.int i, .int j] ∧ (-(2 ^ 62) ≤ i ∧ i < 2 ^ 62 ∧ -(2 ^ 62) ≤ j ∧ j < 2 ^ 62) ∧ R (Itr i (j - i).toNat) H1
theorem pi_range1 {a : Expr} {ta : TA} {p pos : Pos} (hg : Gl X "range") (hm : X.mg "range" = none) (ha : PA X [a] ta) (hs : starEach [a] X.env = [(false, eval a X.env)] := by rfl) : PI X tg (.Call (.Name "range" p) [a] [] pos) (iRng1 ta) := by
  intro pins s σ H R I h
  refine Call_ (ld_blt I hg hm boot_range (PyProof.Rows.callWith_type1 (thn (ha pos pins s σ H _ I h) fun us s1 ⟨vs, H1, I1, r1, q1⟩ => ?_) hs rfl))
  obtain ⟨j, e, q1, q2, q⟩ := q1
  subst e
  cases r1 with
  | cons r rr =>
    cases rr
    obtain ⟨t, rfl⟩ := r
    exact call_range_1 (range_it I1 (by omega) (by omega) q1 q2 (by simpa using q))
theorem pi_range2 {a b : Expr} {ta : TA} {p pos : Pos} (hg : Gl X "range") (hm : X.mg "range" = none) (ha : PA X [a, b] ta) (hs : starEach [a, b] X.env = [(false, eval a X.env), (false, eval b X.env)] := by rfl) (hs2 : starEach [b] X.env = [(false, eval b X.env)] := by rfl) :
    PI X tg (.Call (.Name "range" p) [a, b] [] pos) (iRng2 ta) := by
  intro pins s σ H R I h
  refine Call_ (ld_blt I hg hm boot_range (PyProof.Rows.callWith_type1 (thn (ha pos pins s σ H _ I h) fun us s1 ⟨vs, H1, I1, r1, q1⟩ => ?_) (by rw [hs, hs2]) (by rw [hs2]; rfl)))
  obtain ⟨i, j, e, ⟨q1, q2, q3, q4⟩, q⟩ := q1
  subst e
  cases r1 with
  | cons r rr =>
    cases rr with
    | cons r' rr =>
      cases rr
      obtain ⟨t, rfl⟩ := r
      obtain ⟨t', rfl⟩ := r'
      exact call_range_2 (range_it I1 q1 q2 q3 q4 q)

noncomputable def tFor (wi : TI) (g : TG) (tb : TS) : TS := fun D σ H => wi σ H fun J H1 => ∃ W : Nat → Nat → St → Hp → Prop, (∃ m, W 0 m σ H1) ∧ ∀ i m σ H, W i m σ H →
  (J.stop i H ∧ D.nx σ H) ∨ (J.go i H ∧ ∃ N : St → Hp → Prop, (∀ σ' H', N σ' H' → ∃ m', m' < m ∧ W (i + 1) m' σ' H') ∧ ∀ x H', J.yld i H x H' → g x σ H' fun σ2 H2 => tb { D with nx := N, ct := N, bk := D.nx } σ2 H2)
noncomputable def pinsAt (fp : List Addr) (h : Heap) : List (Addr × Obj) := fp.filterMap fun b => (h.get? b).map fun o => (b, o)
theorem mem_pinsAt {fp : List Addr} {h : Heap} {b : Addr} {o : Obj} (hb : b ∈ fp) (e : h.get? b = some o) : (b, o) ∈ pinsAt fp h := List.mem_filterMap.mpr ⟨b, hb, by rw [e]; rfl⟩
theorem of_pinsAt {fp : List Addr} {h : Heap} {p : Addr × Obj} (hp : p ∈ pinsAt fp h) : p.1 ∈ fp ∧ h.get? p.1 = some p.2 := by
  obtain ⟨b, hb, e⟩ := List.mem_filterMap.mp hp
  cases q : h.get? b with
  | none => rw [q] at e; cases e
  | some o =>
    rw [q] at e
    have e' : (b, o) = p := Option.some.inj e
    subst e'
    exact ⟨hb, q⟩
theorem Inv.pinned {pins : List (Addr × Obj)} {σ : St} {H : Hp} {s : Shared} {fp : List Addr} (I : Inv X pins σ H s) (hf : ∀ b ∈ fp, FpOk X pins H b) (ho : ∀ b ∈ fp, ∃ o, s.heap.get? b = some o ∧ ∀ v, o.data ≠ .cell v) : Inv X (pins ++ pinsAt fp s.heap) σ H s :=
  I.pins_of fun p hp => (List.mem_append.mp hp).elim (fun z => I.pin p (List.mem_append_right _ z)) fun z => by
    obtain ⟨hb, e⟩ := of_pinsAt z
    obtain ⟨f0, f1, f2, _⟩ := hf p.1 hb
    obtain ⟨o, e', d⟩ := ho p.1 hb
    rw [e] at e'; cases e'
    exact ⟨e, f0, f1, f2, d⟩
theorem Inv.unpinned {pins pl : List (Addr × Obj)} {σ : St} {H : Hp} {s : Shared} (I : Inv X (pins ++ pl) σ H s) : Inv X pins σ H s := I.pins_of fun p hp => I.pin p (List.mem_append_right _ (List.mem_append_left _ hp))
theorem ps_for {iter : Expr} {body : List Stmt} {wi : TI} {g : TG} {tb : TS} {pos : Pos} (hp : PassesOwn (model X.prog X.w) X.A X.env X.xe) (hc : X.calm = true) (hi : PI X tg iter wi) (hg : PG X tg g) (hb : PSs X body tb)
    (hs : ∀ x, foldedSetIterable iter X.env x = pure x := by intro _; rfl) : PS X (.For tg iter body [] pos) (tFor wi g tb) := by
  intro pins s σ H D I h
  refine wpAny_For (thn (hi pins s σ H _ I h) fun v s1 h1 => thn h1 fun itv s2 h2 => ?_) hs
  obtain ⟨it, fp, tn, J, H2, e, I2, T, st2, f2, W, ⟨m0, w0⟩, turn⟩ := h2
  subst e
  -- what stays true of the iterator's objects through the loop
  have stat : ∀ {H' : Hp}, (∀ b ∈ fp, H' b = none) → ∀ b ∈ fp, FpOk X pins H' b := fun hn b hb => ⟨hn b hb, (f2 b hb).2⟩
  refine codeAny_forLoop_any (fun n s' => ∃ i σ' H', Inv X pins σ' H' s' ∧ tn i s'.heap ∧ (∀ b ∈ fp, H' b = none) ∧ W i n σ' H') ?_ m0 ⟨0, σ, H2, I2, st2, fun b hb => (f2 b hb).1, w0⟩
  rintro n s3 ⟨i, σ3, H3, I3, st3, fr3, w3⟩
  rcases turn i n σ3 H3 w3 with ⟨stop, qn⟩ | ⟨go, N, hN, step⟩
  · refine wpAny_passesOwn hp (thn (T.done X rfl rfl rfl hc i pins s3 σ3 H3 X.xe I3 (stat fr3) st3 stop) fun r s4 ⟨hr, I4⟩ => ?_)
    subst hr
    exact wpAny_execs_nil ⟨σ3, H3, I4, qn⟩
  · refine wpAny_passesOwn hp (thn (T.item X rfl rfl rfl hc i pins s3 σ3 H3 X.xe I3 (stat fr3) st3 go) fun r s4 ⟨u, hr, h4⟩ => ?_)
    subst hr
    refine wpAny_passesOwn hp (thn h4 fun _ s5 ⟨x, H5, I5, r5, y5, st5, fr5⟩ => ?_)
    have I5' := I5.pinned (stat fr5) (T.obj _ _ st5)
    refine wpAny_passesOwn hp (thn (hg _ s5 σ3 H5 x u _ I5' r5 (step x H5 y5)) fun _ s6 ⟨σ6, H6, I6, q6⟩ => ?_)
    refine wpAny_passesOwn hp (thn (hb _ s6 σ6 H6 _ I6 q6) fun f s7 q7 => ?_)
    have again : ∀ {σ7 : St} {H7 : Hp}, Inv X (pins ++ pinsAt fp s5.heap) σ7 H7 s7 → N σ7 H7 → ∃ m, m < n ∧ ∃ i σ' H', Inv X pins σ' H' s7 ∧ tn i s7.heap ∧ (∀ b ∈ fp, H' b = none) ∧ W i m σ' H' := fun {σ7 H7} I7 n7 => by
      obtain ⟨m', hm, w7⟩ := hN σ7 H7 n7
      refine ⟨m', hm, i + 1, σ7, H7, I7.unpinned, T.keep _ _ _ st5 fun b hb o e => (I7.pin (b, o) (List.mem_append_right _ (List.mem_append_right _ (mem_pinsAt hb e)))).1, fun b hb => ?_, w7⟩
      obtain ⟨o, e, d⟩ := T.obj _ _ st5 b hb
      exact (I7.pin (b, o) (List.mem_append_right _ (List.mem_append_right _ (mem_pinsAt hb e)))).2.1
    cases f with
    | next => obtain ⟨σ7, H7, I7, n7⟩ := q7; exact again I7 n7
    | cont => obtain ⟨σ7, H7, I7, n7⟩ := q7; exact again I7 n7
    | brk => obtain ⟨σ7, H7, I7, q7⟩ := q7; exact ⟨σ7, H7, I7.unpinned, q7⟩
    | ret v => obtain ⟨x7, σ7, H7, I7, r7, q7⟩ := q7; exact ⟨x7, σ7, H7, I7.unpinned, r7, q7⟩
end

theorem for_list {K : PySem.W.Frag} {a : Addr} {xs : List V} {g : TG} {tb : TS} {D : Ends} {σ : St} {H : Hp} (Pv : Nat → St → Hp → Prop) (h0 : Pv 0 σ H) (hl : ∀ i σ H, i ≤ xs.length → Pv i σ H → SqL K H a xs)
    (hs : ∀ i x σ H, xs[i]? = some x → Pv i σ H → g x σ H fun σ2 H2 => tb { D with nx := Pv (i + 1), ct := Pv (i + 1), bk := D.nx } σ2 H2) (hd : ∀ σ H, Pv xs.length σ H → D.nx σ H) :
    ∃ W : Nat → Nat → St → Hp → Prop, (∃ m, W 0 m σ H) ∧ ∀ i m σ H, W i m σ H →
      ((Itl K a).stop i H ∧ D.nx σ H) ∨ ((Itl K a).go i H ∧ ∃ N : St → Hp → Prop, (∀ σ' H', N σ' H' → ∃ m', m' < m ∧ W (i + 1) m' σ' H') ∧ ∀ x H', (Itl K a).yld i H x H' → g x σ H' fun σ2 H2 => tb { D with nx := N, ct := N, bk := D.nx } σ2 H2) := by
  refine ⟨fun i m σ H => m = xs.length - i ∧ i ≤ xs.length ∧ Pv i σ H, ⟨xs.length, by simp, Nat.zero_le _, h0⟩, ?_⟩
  rintro i m σ H ⟨rfl, hi, p⟩
  have q := hl i σ H hi p
  by_cases hlt : i < xs.length
  · refine .inr ⟨⟨xs, xs[i], q, by simp [hlt]⟩, Pv (i + 1), fun σ' H' p' => ⟨xs.length - (i + 1), by omega, rfl, hlt, p'⟩, fun x H' y => ?_⟩
    obtain ⟨e, y⟩ := y
    subst e
    exact hs i x σ _ (y xs q) p
  · have e : i = xs.length := by omega
    subst e
    exact .inl ⟨⟨xs, q, Nat.le_refl _⟩, hd σ H p⟩
theorem for_range {lo : Int} {n : Nat} {g : TG} {tb : TS} {D : Ends} {σ : St} {H : Hp} (Pv : Nat → St → Hp → Prop) (h0 : Pv 0 σ H)
    (hs : ∀ i σ H, i < n → Pv i σ H → g (.int (lo + i)) σ H fun σ2 H2 => tb { D with nx := Pv (i + 1), ct := Pv (i + 1), bk := D.nx } σ2 H2) (hd : ∀ σ H, Pv n σ H → D.nx σ H) :
    ∃ W : Nat → Nat → St → Hp → Prop, (∃ m, W 0 m σ H) ∧ ∀ i m σ H, W i m σ H →
      ((Itr lo n).stop i H ∧ D.nx σ H) ∨ ((Itr lo n).go i H ∧ ∃ N : St → Hp → Prop, (∀ σ' H', N σ' H' → ∃ m', m' < m ∧ W (i + 1) m' σ' H') ∧ ∀ x H', (Itr lo n).yld i H x H' → g x σ H' fun σ2 H2 => tb { D with nx := N, ct := N, bk := D.nx } σ2 H2) := by
  refine ⟨fun i m σ H => m = n - i ∧ i ≤ n ∧ Pv i σ H, ⟨n, by simp, Nat.zero_le _, h0⟩, ?_⟩
  rintro i m σ H ⟨rfl, hi, p⟩
  by_cases hlt : i < n
  · refine .inr ⟨hlt, Pv (i + 1), fun σ' H' p' => ⟨n - (i + 1), by omega, rfl, hlt, p'⟩, fun x H' y => ?_⟩
    obtain ⟨e, y⟩ := y
    subst e y
    exact hs i σ _ hlt p
  · have e : i = n := by omega
    subst e
    exact .inl ⟨Nat.le_refl _, hd σ H p⟩
theorem while_by {c : TT} {tb : TS} {D : Ends} {σ : St} {H : Hp} (Pv : St → Hp → Prop) (μ : St → Hp → Nat) (h0 : Pv σ H)
    (hs : ∀ σ H, Pv σ H → c σ H fun b H1 => if b = true then tb { D with nx := fun σ' H' => Pv σ' H' ∧ μ σ' H' < μ σ H, ct := fun σ' H' => Pv σ' H' ∧ μ σ' H' < μ σ H, bk := D.nx } σ H1 else D.nx σ H1)
    (mono : ∀ σ H Q Q', (∀ b H1, Q b H1 → Q' b H1) → c σ H Q → c σ H Q') : tWhile c tb D σ H := by
  refine ⟨fun m σ H => m = μ σ H ∧ Pv σ H, ⟨_, rfl, h0⟩, ?_⟩
  rintro m σ H ⟨rfl, p⟩
  refine mono σ H _ _ (fun b H1 q => ?_) (hs σ H p)
  cases b with
  | true => exact ⟨_, fun σ' H' ⟨p', l⟩ => ⟨_, l, rfl, p'⟩, q⟩
  | false => exact q
end L2

namespace L2
open PySem PySem.Spec PyProof.Rows

abbrev R2 := V → V → Hp → VK → Prop
noncomputable def OpR (X : Cx) (f : Value → Value → Sem Value) (r : R2) : Prop :=
  ∀ (pins : List (Addr × Obj)) (s : Shared) (σ : St) (H : Hp) (x y : V) (v u : Value) (Q : VK), Inv X pins σ H s → RelV x v → RelV y u → r x y H Q →
    wpAny (model X.prog X.w) X.A (f v u) (EP X pins σ Q) X.xe s
noncomputable def UnR (X : Cx) (f : Value → Sem Value) (r : V → Hp → VK → Prop) : Prop :=
  ∀ (pins : List (Addr × Obj)) (s : Shared) (σ : St) (H : Hp) (x : V) (v : Value) (Q : VK), Inv X pins σ H s → RelV x v → r x H Q →
    wpAny (model X.prog X.w) X.A (f v) (EP X pins σ Q) X.xe s
noncomputable def CallR (X : Cx) (f : Value) (r : List V → Hp → VK → Prop) : Prop :=
  ∀ (pins : List (Addr × Obj)) (s : Shared) (σ : St) (H : Hp) (xs : List V) (us : List Value) (Q : VK), Inv X pins σ H s → Vals xs us → r xs H Q →
    wpAny (model X.prog X.w) X.A (call f us) (EP X pins σ Q) X.xe s
noncomputable def TruR (X : Cx) (r : V → Hp → (Bool → Hp → Prop) → Prop) : Prop :=
  ∀ (pins : List (Addr × Obj)) (s : Shared) (σ : St) (H : Hp) (x : V) (v : Value) (Q : Bool → Hp → Prop), Inv X pins σ H s → RelV x v → r x H Q →
    wpAny (model X.prog X.w) X.A (truthy v) (TP X pins σ Q) X.xe s

noncomputable def tOp (r : R2) (ta tb : TE) : TE := fun σ H Q => ta σ H fun x H1 => tb σ H1 fun y H2 => r x y H2 Q
noncomputable def tUn (r : V → Hp → VK → Prop) (ta : TE) : TE := fun σ H Q => ta σ H fun x H1 => r x H1 Q
noncomputable def rI (C : Int → Int → Prop) (g : Int → Int → V) : R2 := fun x y H Q => ∃ i j, x = .int i ∧ y = .int j ∧ C i j ∧ Q (g i j) H
noncomputable def rI0 (g : Int → Int → V) : R2 := fun x y H Q => ∃ i j, x = .int i ∧ y = .int j ∧ Q (g i j) H
noncomputable def rU (g : Int → V) : V → Hp → VK → Prop := fun x H Q => ∃ i, x = .int i ∧ Q (g i) H

section
variable {X : Cx} {a b c : Expr} {ta tb tc : TE} {pos : Pos}

theorem binT (ha : PE X a ta) (hb : PE X b tb) {pins : List (Addr × Obj)} {s : Shared} {σ : St} {H : Hp} {R : V → V → Hp → Prop} (I : Inv X pins σ H s)
    (h : ta σ H fun x H1 => tb σ H1 fun y H2 => R x y H2) {Q : Value → Shared → Prop} {f : Value → Value → Sem Value}
    (hf : ∀ v u s2 x y H2, Inv X pins σ H2 s2 → RelV x v → RelV y u → R x y H2 → wpAny (model X.prog X.w) X.A (f v u) Q X.xe s2) :
    wpAny (model X.prog X.w) X.A (eval a X.env) (fun v s₁ => wpAny (model X.prog X.w) X.A (eval b X.env) (fun u s₂ => wpAny (model X.prog X.w) X.A (f v u) Q X.xe s₂) X.xe s₁) X.xe s := by
  refine thn (ha pins s σ H _ I h) fun v s1 ⟨x, H1, I1, r1, q1⟩ => ?_
  refine thn (hb pins s1 σ H1 _ I1 q1) fun u s2 ⟨y, H2, I2, r2, q2⟩ => ?_
  exact hf v u s2 x y H2 I2 r1 r2 q2

theorem pe_op {op : Operator} {r : R2} (ho : OpR X (binaryOp op) r) (ha : PE X a ta) (hb : PE X b tb) : PE X (.BinOp a op b pos) (tOp r ta tb) := by
  intro pins s σ H Q I h
  exact wpAny_BinOp (binT ha hb I h fun v u s2 x y H2 I2 rx ry q => ho pins s2 σ H2 x y v u Q I2 rx ry q)
theorem pe_un {op : UnaryOp} {r : V → Hp → VK → Prop} (ho : UnR X (unaryOp op) r) (ha : PE X a ta) : PE X (.UnaryOp op a pos) (tUn r ta) := by
  intro pins s σ H Q I h
  exact UnaryOp_ (thn (ha pins s σ H _ I h) fun v s1 ⟨x, H1, I1, r1, q1⟩ => ho pins s1 σ H1 x v Q I1 r1 q1)
theorem opI {f : Value → Value → Sem Value} {C : Int → Int → Prop} {g : Int → Int → Int}
    (rule : ∀ (i j : Int) (t u : Tok) (s : Shared) (Q : Value → Shared → Prop) (E : Value → Shared → Prop), C i j → Q (.int (g i j) s.toks) { s with toks := s.toks + 1 } → wpAny (model X.prog X.w) X.A (f (.int i t) (.int j u)) Q E s) :
    OpR X f (rI C fun i j => .int (g i j)) := by
  intro pins s σ H x y v u Q I rx ry h
  obtain ⟨i, j, rfl, rfl, hc, q⟩ := h
  obtain ⟨t, rfl⟩ := rx
  obtain ⟨t', rfl⟩ := ry
  exact rule i j t t' s _ _ hc ⟨.int (g i j), H, I.tok _, ⟨_, rfl⟩, q⟩
theorem opI0 {f : Value → Value → Sem Value} {g : Int → Int → Int}
    (rule : ∀ (i j : Int) (t u : Tok) (s : Shared) (Q : Value → Shared → Prop) (E : Value → Shared → Prop), Q (.int (g i j) s.toks) { s with toks := s.toks + 1 } → wpAny (model X.prog X.w) X.A (f (.int i t) (.int j u)) Q E s) :
    OpR X f (rI0 fun i j => .int (g i j)) := by
  intro pins s σ H x y v u Q I rx ry h
  obtain ⟨i, j, rfl, rfl, q⟩ := h
  obtain ⟨t, rfl⟩ := rx
  obtain ⟨t', rfl⟩ := ry
  exact rule i j t t' s _ _ ⟨.int (g i j), H, I.tok _, ⟨_, rfl⟩, q⟩
theorem opB0 {f : Value → Value → Sem Value} {g : Int → Int → Bool}
    (rule : ∀ (i j : Int) (t u : Tok) (s : Shared) (Q : Value → Shared → Prop) (E : Value → Shared → Prop), Q (.bool (g i j)) s → wpAny (model X.prog X.w) X.A (f (.int i t) (.int j u)) Q E s) :
    OpR X f (rI0 fun i j => .bl (g i j)) := by
  intro pins s σ H x y v u Q I rx ry h
  obtain ⟨i, j, rfl, rfl, q⟩ := h
  obtain ⟨t, rfl⟩ := rx
  obtain ⟨t', rfl⟩ := ry
  exact rule i j t t' s _ _ ⟨.bl (g i j), H, I, rfl, q⟩

noncomputable def CPow (i j : Int) : Prop := 0 ≤ j ∧ j ≤ 1000000 ∧ i.natAbs < 2 ^ 64
noncomputable def CMul (i j : Int) : Prop := (-(2 ^ 64) < i ∧ i < 2 ^ 64) ∨ (-(2 ^ 64) < j ∧ j < 2 ^ 64)
theorem CMul.ok {i j : Int} (h : CMul i j) : IntMulOk i j := by
  rcases h with ⟨h1, h2⟩ | ⟨h1, h2⟩
  · exact .of_left (intBits_le_64 h1 h2)
  · exact .of_right (intBits_le_64 h1 h2)
theorem op_add : OpR X (binaryOp .Add) (rI0 fun i j => .int (i + j)) := opI0 fun _ _ _ _ _ _ _ q => add_int q
theorem op_sub : OpR X (binaryOp .Sub) (rI0 fun i j => .int (i - j)) := opI0 fun _ _ _ _ _ _ _ q => sub_int q
theorem op_mul : OpR X (binaryOp .Mult) (rI CMul fun i j => .int (i * j)) := opI fun _ _ _ _ _ _ _ hc q => mul_int q hc.ok
theorem op_mod : OpR X (binaryOp .Mod) (rI (fun _ j => 0 < j) fun i j => .int (i % j)) := opI fun i j _ _ _ _ _ hc q => by
  have h1 : (0 : Int) < j := hc
  exact mod_int' (by omega) (by rw [Int.fmod_eq_emod_of_nonneg i (by omega)]; exact q)
theorem op_pow : OpR X (binaryOp .Pow) (rI CPow fun i j => .int (i ^ j.toNat)) := opI fun _ _ _ _ _ _ _ hc q => pow_int_small hc.1 hc.2.1 hc.2.2 q
theorem unI {f : Value → Sem Value} {g : Int → Int}
    (rule : ∀ (i : Int) (t : Tok) (s : Shared) (Q : Value → Shared → Prop) (E : Value → Shared → Prop), Q (.int (g i) s.toks) { s with toks := s.toks + 1 } → wpAny (model X.prog X.w) X.A (f (.int i t)) Q E s) :
    UnR X f (rU fun i => .int (g i)) := by
  intro pins s σ H x v Q I rx h
  obtain ⟨i, rfl, q⟩ := h
  obtain ⟨t, rfl⟩ := rx
  exact rule i t s _ _ ⟨.int (g i), H, I.tok _, ⟨_, rfl⟩, q⟩
theorem un_neg : UnR X (unaryOp .USub) (rU fun i => .int (-i)) := unI fun _ _ _ _ _ q => neg_int q
end

noncomputable def scal : V → V → Bool
  | .non, .non => true | .non, .int _ => true | .int _, .non => true | .non, .bl _ => true | .bl _, .non => true | .non, .str _ => true | .str _, .non => true
  | .int _, .int _ => true | .bl _, .bl _ => true | .str _, .str _ => true | .byt _, .byt _ => true
  | .int _, .str _ => true | .str _, .int _ => true | .bl _, .str _ => true | .str _, .bl _ => true
  | _, _ => false
noncomputable def rEq : R2 := fun x y H Q => scal x y = true ∧ Q (.bl (decide (x = y))) H
noncomputable def rNe : R2 := fun x y H Q => scal x y = true ∧ Q (.bl (!decide (x = y))) H

theorem dec_int {i j : Int} : decide (V.int i = V.int j) = (i == j) := by
  rw [Bool.eq_iff_iff]
  simp
theorem dec_bl {i j : Bool} : decide (V.bl i = V.bl j) = (i == j) := by
  rw [Bool.eq_iff_iff]
  simp
theorem dec_str {i j : Str} : decide (V.str i = V.str j) = (i == j) := by
  rw [Bool.eq_iff_iff]
  simp
theorem dec_byt {i j : Array UInt8} : decide (V.byt i = V.byt j) = (i.toList == j.toList) := by
  rw [Bool.eq_iff_iff]
  cases i
  cases j
  simp

section
variable {X : Cx} {a b c : Expr} {ta tb tc : TE} {pos : Pos}
theorem fin_bl {pins : List (Addr × Obj)} {σ : St} {H : Hp} {s : Shared} {Q : VK} {k k' : Bool} (I : Inv X pins σ H s) (q : Q (.bl k) H) (e : k = k') : EP X pins σ Q (.bool k') s := by
  subst e
  exact ⟨.bl k, H, I, rfl, q⟩
theorem op_eq : OpR X (compareOp .Eq) rEq := by
  intro pins s σ H x y v u Q I rx ry h
  obtain ⟨hs, q⟩ := h
  cases x with
  | non =>
    cases rx
    cases y with
    | non => cases ry; exact PySem.EqNone.eq_none_none (fin_bl I q (by simp))
    | bl j => cases ry; exact PySem.EqNone.eq_none_bool (fin_bl I q (by simp))
    | int j => obtain ⟨t', rfl⟩ := ry; exact PySem.EqNone.eq_none_int (fin_bl I q (by simp))
    | str j => obtain ⟨t', rfl⟩ := ry; exact PySem.EqNone.eq_none_str (fin_bl I q (by simp))
    | _ => exact absurd (show false = true from hs) Bool.false_ne_true
  | bl i =>
    cases rx
    cases y with
    | non => cases ry; exact PySem.EqNone.eq_bool_none (fin_bl I q (by simp))
    | bl j => cases ry; exact eq_bool (fin_bl I q dec_bl)
    | str j => obtain ⟨t', rfl⟩ := ry; exact PySem.EqMixed.eq_bool_str (fin_bl I q (by simp))
    | _ => exact absurd (show false = true from hs) Bool.false_ne_true
  | int i =>
    obtain ⟨t, rfl⟩ := rx
    cases y with
    | non => cases ry; exact PySem.EqNone.eq_int_none (fin_bl I q (by simp))
    | int j => obtain ⟨t', rfl⟩ := ry; exact eq_int (fin_bl I q dec_int)
    | str j => obtain ⟨t', rfl⟩ := ry; exact PySem.EqMixed.eq_int_str (fin_bl I q (by simp))
    | _ => exact absurd (show false = true from hs) Bool.false_ne_true
  | str i =>
    obtain ⟨t, rfl⟩ := rx
    cases y with
    | non => cases ry; exact PySem.EqNone.eq_str_none (fin_bl I q (by simp))
    | bl j => cases ry; exact PySem.EqMixed.eq_str_bool (fin_bl I q (by simp))
    | int j => obtain ⟨t', rfl⟩ := ry; exact PySem.EqMixed.eq_str_int (fin_bl I q (by simp))
    | str j => obtain ⟨t', rfl⟩ := ry; exact eq_str (fin_bl I q dec_str)
    | _ => exact absurd (show false = true from hs) Bool.false_ne_true
  | byt i =>
    obtain ⟨t, rfl⟩ := rx
    cases y with
    | byt j => obtain ⟨t', rfl⟩ := ry; exact PySem.W.eq_bytes (fin_bl I q dec_byt)
    | _ => exact absurd (show false = true from hs) Bool.false_ne_true
  | _ => cases y <;> exact absurd (show false = true from hs) Bool.false_ne_true
theorem op_ne : OpR X (compareOp .NotEq) rNe := by
  intro pins s σ H x y v u Q I rx ry h
  obtain ⟨hs, q⟩ := h
  cases x with
  | non =>
    cases rx
    cases y with
    | non => cases ry; exact PySem.EqNone.ne_none_none (fin_bl I q (by simp))
    | bl j => cases ry; exact PySem.EqNone.ne_none_bool (fin_bl I q (by simp))
    | int j => obtain ⟨t', rfl⟩ := ry; exact PySem.EqNone.ne_none_int (fin_bl I q (by simp))
    | str j => obtain ⟨t', rfl⟩ := ry; exact PySem.EqNone.ne_none_str (fin_bl I q (by simp))
    | _ => exact absurd (show false = true from hs) Bool.false_ne_true
  | bl i =>
    cases rx
    cases y with
    | non => cases ry; exact PySem.EqNone.ne_bool_none (fin_bl I q (by simp))
    | bl j => cases ry; exact ne_bool (fin_bl I q (congrArg not dec_bl))
    | str j => obtain ⟨t', rfl⟩ := ry; exact PySem.EqMixed.ne_bool_str (fin_bl I q (by simp))
    | _ => exact absurd (show false = true from hs) Bool.false_ne_true
  | int i =>
    obtain ⟨t, rfl⟩ := rx
    cases y with
    | non => cases ry; exact PySem.EqNone.ne_int_none (fin_bl I q (by simp))
    | int j => obtain ⟨t', rfl⟩ := ry; exact ne_int (fin_bl I q (congrArg not dec_int))
    | str j => obtain ⟨t', rfl⟩ := ry; exact PySem.EqMixed.ne_int_str (fin_bl I q (by simp))
    | _ => exact absurd (show false = true from hs) Bool.false_ne_true
  | str i =>
    obtain ⟨t, rfl⟩ := rx
    cases y with
    | non => cases ry; exact PySem.EqNone.ne_str_none (fin_bl I q (by simp))
    | bl j => cases ry; exact PySem.EqMixed.ne_str_bool (fin_bl I q (by simp))
    | int j => obtain ⟨t', rfl⟩ := ry; exact PySem.EqMixed.ne_str_int (fin_bl I q (by simp))
    | str j => obtain ⟨t', rfl⟩ := ry; exact ne_str (fin_bl I q (congrArg not dec_str))
    | _ => exact absurd (show false = true from hs) Bool.false_ne_true
  | byt i =>
    obtain ⟨t, rfl⟩ := rx
    cases y with
    | byt j => obtain ⟨t', rfl⟩ := ry; exact PySem.W.ne_bytes (fin_bl I q (congrArg not dec_byt))
    | _ => exact absurd (show false = true from hs) Bool.false_ne_true
  | _ => cases y <;> exact absurd (show false = true from hs) Bool.false_ne_true

theorem op_lt : OpR X (compareOp .Lt) (rI0 fun i j => .bl (decide (i < j))) := opB0 fun _ _ _ _ _ _ _ q => lt_int q
theorem op_le : OpR X (compareOp .LtE) (rI0 fun i j => .bl (decide (i ≤ j))) := opB0 fun _ _ _ _ _ _ _ q => le_int q
theorem op_gt : OpR X (compareOp .Gt) (rI0 fun i j => .bl (decide (j < i))) := opB0 fun _ _ _ _ _ _ _ q => gt_int q
theorem op_ge : OpR X (compareOp .GtE) (rI0 fun i j => .bl (decide (j ≤ i))) := opB0 fun _ _ _ _ _ _ _ q => ge_int q
theorem op_in_str : OpR X (compareOp .In) (fun x y H Q => ∃ i j, x = .str i ∧ y = .str j ∧ Q (.bl (!(Builtin.Str.occurrences j i 0 j.length 1).isEmpty)) H) := by
  intro pins s σ H x y v u Q I rx ry h
  obtain ⟨i, j, rfl, rfl, q⟩ := h
  obtain ⟨t, rfl⟩ := rx
  obtain ⟨t', rfl⟩ := ry
  exact in_str (fin_bl I q rfl)

theorem op_isN : OpR X (compareOp .Is) (fun x y H Q => y = .non ∧ Q (.bl (decide (x = .non))) H) := by
  intro pins s σ H x y v u Q I rx ry h
  obtain ⟨rfl, q⟩ := h
  cases ry
  refine is_none_gen (fin_bl I q ?_)
  cases x <;> first
    | (cases rx; rfl)
    | (obtain ⟨t, rfl⟩ := rx; rfl)
theorem op_notN : OpR X (compareOp .IsNot) (fun x y H Q => y = .non ∧ Q (.bl (!decide (x = .non))) H) := by
  intro pins s σ H x y v u Q I rx ry h
  obtain ⟨rfl, q⟩ := h
  cases ry
  refine isnot_none_gen (fin_bl I q ?_)
  cases x <;> first
    | (cases rx; rfl)
    | (obtain ⟨t, rfl⟩ := rx; rfl)

theorem OpR.or {f : Value → Value → Sem Value} {r r' : R2} (h : OpR X f r) (h' : OpR X f r') : OpR X f (fun x y H Q => r x y H Q ∨ r' x y H Q) := by
  intro pins s σ H x y v u Q I rx ry q
  rcases q with q | q
  · exact h pins s σ H x y v u Q I rx ry q
  · exact h' pins s σ H x y v u Q I rx ry q

theorem nomark (b : Expr) {op : CmpOp} (h : op ≠ .In := by decide) (h2 : op ≠ .NotIn := by decide) : behindInMarks op b = false := by
  have e1 : (op == CmpOp.In) = false := by cases op <;> first | rfl | exact absurd rfl h
  have e2 : (op == CmpOp.NotIn) = false := by cases op <;> first | rfl | exact absurd rfl h2
  cases b <;> simp [behindInMarks, e1, e2]
theorem pe_cmpR {op : CmpOp} {r : R2} (ho : OpR X (compareOp op) r) (ha : PE X a ta) (hb : PE X b tb) (hm : behindInMarks op b = false) : PE X (.Compare a [op] [b] pos) (tOp r ta tb) := by
  intro pins s σ H Q I h
  exact wpAny_Compare1 (binT ha hb I h fun v u s2 x y H2 I2 rx ry q => ho pins s2 σ H2 x y v u Q I2 rx ry q) hm
noncomputable def tTest (t : TE) : TT := fun σ H Q => t σ H fun x H' => ∃ k, x = .bl k ∧ Q k H'
theorem pt_cmpR {op : CmpOp} {r : R2} (ho : OpR X (compareOp op) r) (ha : PE X a ta) (hb : PE X b tb) (hm : behindInMarks op b = false) : PT X (.Compare a [op] [b] pos) (tTest (tOp r ta tb)) := by
  intro pins s σ H Q I h
  refine wpAny_isTrue_Compare1 (thn (ha pins s σ H _ I h) fun v s1 ⟨x, H1, I1, r1, q1⟩ => thn (hb pins s1 σ H1 _ I1 q1) fun u s2 ⟨y, H2, I2, r2, q2⟩ =>
    thn (ho pins s2 σ H2 x y v u _ I2 r1 r2 q2) fun c s3 ⟨z, H3, I3, r3, k, e, q3⟩ => ?_) hm
  subst e
  cases r3
  exact wpAny_truthy_bool ⟨H3, I3, q3⟩
noncomputable def tChain (r r' : R2) (ta tb tc : TE) : TE := fun σ H Q => ta σ H fun x H1 => tb σ H1 fun y H2 => r x y H2 fun z H3 => ∃ k, z = .bl k ∧
  (if k = true then tc σ H3 fun w' H4 => r' y w' H4 Q else Q (.bl false) H3)
theorem pe_chain {op op' : CmpOp} {r r' : R2} (ho : OpR X (compareOp op) r) (ho' : OpR X (compareOp op') r') (ha : PE X a ta) (hb : PE X b tb) (hc : PE X c tc)
    (hm : lastMarks [op, op'] [b, c] = false := by with_unfolding_all rfl) : PE X (.Compare a [op, op'] [b, c] pos) (tChain r r' ta tb tc) := by
  intro pins s σ H Q I h
  refine Compare_chain (thn (ha pins s σ H _ I h) fun v s1 ⟨x, H1, I1, r1, q1⟩ => chain_link (thn (hb pins s1 σ H1 _ I1 q1) fun u s2 ⟨y, H2, I2, r2, q2⟩ =>
    thn (ho pins s2 σ H2 x y v u _ I2 r1 r2 q2) fun d s3 ⟨z, H3, I3, r3, k, e, q3⟩ => ?_)) hm
  subst e
  cases r3
  refine wpAny_truthy_bool ?_
  cases k with
  | false => exact ite_ff ⟨.bl false, H3, I3, rfl, q3⟩
  | true => exact ite_tt (chain_last (thn (hc pins s3 σ H3 _ I3 q3) fun w' s4 ⟨z', H4, I4, r4, q4⟩ => ho' pins s4 σ H4 y z' u w' Q I4 r2 r4 q4))
theorem pt_chain {op op' : CmpOp} {r r' : R2} (ho : OpR X (compareOp op) r) (ho' : OpR X (compareOp op') r') (ha : PE X a ta) (hb : PE X b tb) (hc : PE X c tc)
    (hm : lastMarks [op, op'] [b, c] = false := by with_unfolding_all rfl) : PT X (.Compare a [op, op'] [b, c] pos) (tTest (tChain r r' ta tb tc)) := by
  intro pins s σ H Q I h
  refine isTrue_chain (thn (ha pins s σ H _ I h) fun v s1 ⟨x, H1, I1, r1, q1⟩ => test_link (thn (hb pins s1 σ H1 _ I1 q1) fun u s2 ⟨y, H2, I2, r2, q2⟩ =>
    thn (ho pins s2 σ H2 x y v u _ I2 r1 r2 q2) fun d s3 ⟨z, H3, I3, r3, k, e, q3⟩ => ?_)) hm
  subst e
  cases r3
  refine wpAny_truthy_bool ?_
  cases k with
  | false =>
    obtain ⟨k', e', q'⟩ := q3
    cases e'
    exact ite_ff ⟨H3, I3, q'⟩
  | true =>
    refine ite_tt (test_last (thn (hc pins s3 σ H3 _ I3 q3) fun w' s4 ⟨z', H4, I4, r4, q4⟩ => thn (ho' pins s4 σ H4 y z' u w' _ I4 r2 r4 q4) fun d' s5 ⟨z2, H5, I5, r5, k2, e2, q5⟩ => ?_))
    subst e2
    cases r5
    exact wpAny_truthy_bool ⟨H5, I5, q5⟩

noncomputable def TruV (K : PySem.W.Frag) (x : V) (H : Hp) (k : Bool) : Prop :=
  match x with
  | .non => k = false
  | .bl b => k = b
  | .int i => k = (i != 0)
  | .str y => y.length ≤ sizeLine ∧ k = ((y.length : Int) != 0)
  | .byt y => y.size ≤ sizeLine ∧ k = ((y.size : Int) != 0)
  | .ref p => (∃ xs, SqL K H p xs ∧ k = !xs.isEmpty) ∨ (∃ xs, SqT K H p xs ∧ k = !xs.isEmpty) ∨ ∃ kvs, H p = some (.dK kvs) ∧ k = !kvs.isEmpty
  | _ => False
theorem isEmpty_kv {κ : Type} {kvs : List (κ × V)} {vs : List (κ × Value)} (r : KV kvs vs) : (!vs.isEmpty) = !kvs.isEmpty := by
  cases r <;> rfl
theorem isEmpty_of {xs : List V} {its : List Value} (r : Vals xs its) : (!its.toArray.isEmpty) = !xs.isEmpty := by
  cases r <;> simp
theorem line63 : (sizeLine : Nat) < 2 ^ 63 := by rw [sizeLine_eq]; decide
theorem tru_ok : TruR X (fun x H Q => ∃ k, TruV X.K x H k ∧ Q k H) := by
  intro pins s σ H x v Q I rx h
  obtain ⟨k, e, q⟩ := h
  have hl := line63
  have hs : sizeLine = 16777216 := sizeLine_eq
  cases x with
  | non =>
    cases rx
    have e' : k = false := e
    subst e'
    exact truthy_none ⟨H, I, q⟩
  | bl b =>
    cases rx
    have e' : k = b := e
    subst e'
    exact wpAny_truthy_bool ⟨H, I, q⟩
  | int i =>
    obtain ⟨t, rfl⟩ := rx
    have e' : k = (i != 0) := e
    subst e'
    exact PySem.P.truthy_int ⟨H, I, q⟩
  | str y =>
    obtain ⟨t, rfl⟩ := rx
    obtain ⟨hy, e'⟩ : y.length ≤ sizeLine ∧ k = ((y.length : Int) != 0) := e
    subst e'
    exact PySem.P.truthy_str (by omega) ⟨H, I.tok _, q⟩
  | byt y =>
    obtain ⟨t, rfl⟩ := rx
    obtain ⟨hy, e'⟩ : y.size ≤ sizeLine ∧ k = ((y.size : Int) != 0) := e
    subst e'
    exact PySem.W.truthy_bytes (by omega) ⟨H, I.tok _, q⟩
  | ref p =>
    cases rx
    have e' : (∃ xs, SqL X.K H p xs ∧ k = !xs.isEmpty) ∨ (∃ xs, SqT X.K H p xs ∧ k = !xs.isEmpty) ∨ ∃ kvs, H p = some (.dK kvs) ∧ k = !kvs.isEmpty := e
    rcases e' with ⟨xs, hx, e'⟩ | ⟨xs, hx, e'⟩ | ⟨kvs, hx, e'⟩
    · subst e'
      obtain ⟨its, r, pl, hz⟩ := I.list hx
      have hlen := r.length
      exact wpAny_truthy_list pl.isList (by simp only [List.size_toArray]; omega) ⟨H, I.tok _, by rw [isEmpty_of r]; exact q⟩
    · subst e'
      obtain ⟨its, r, pl, hz⟩ := I.tuple hx
      have hlen := r.length
      exact truthy_tuple pl (by simp only [List.size_toArray]; omega) ⟨H, I.tok _, by rw [isEmpty_of r]; exact q⟩
    · subst e'
      obtain ⟨hz, hS, vs, r, m⟩ : kvs.length ≤ sizeLine ∧ (p == sysModules) = false ∧ ∃ vs, KV kvs vs ∧ s.heap.DictOf (mixKind X.prog X.w) p vs := I.hok p _ hx
      have hlen : kvs.length = vs.length := Paired.length r
      exact wpAny_truthy_dict hS m (by omega) ⟨H, I.tok _, by rw [isEmpty_kv r]; exact q⟩
  | _ => exact (show False from e).elim
theorem pt_truth (ha : PE X a ta) (he : ∀ whole, isTrue a X.env whole = (do let v ← whole; standAt a.pos; holding [v] (truthy v))) :
    PT X a (fun σ H Q => ta σ H fun x H' => ∃ k, TruV X.K x H' k ∧ Q k H') := by
  intro pins s σ H Q I h
  exact isTrue_plain (thn (ha pins s σ H _ I h) fun v s1 ⟨x, H1, I1, r1, q1⟩ => tru_ok pins s1 σ H1 x v Q I1 r1 q1) (he _)

theorem op_add_str : OpR X (binaryOp .Add) (fun x y H Q => ∃ i j, x = .str i ∧ y = .str j ∧ i.length + j.length ≤ sizeLine ∧ Q (.str (i ++ j)) H) := by
  intro pins s σ H x y v u Q I rx ry h
  obtain ⟨i, j, rfl, rfl, hz, q⟩ := h
  obtain ⟨t, rfl⟩ := rx
  obtain ⟨t', rfl⟩ := ry
  exact add_str (fun t' tk => ⟨.str (i ++ j), H, I.tok _, ⟨_, rfl⟩, q⟩) hz
theorem vals1 {x : V} {us : List Value} (r : Vals [x] us) : ∃ u, us = [u] ∧ RelV x u := by
  cases r with
  | cons r1 r2 => cases r2; exact ⟨_, rfl, r1⟩
theorem vals2 {x y : V} {us : List Value} (r : Vals [x, y] us) : ∃ u w', us = [u, w'] ∧ RelV x u ∧ RelV y w' := by
  cases r with
  | cons r1 r2 =>
    cases r2 with
    | cons r3 r4 => cases r4; exact ⟨_, _, rfl, r1, r3⟩
theorem call_abs : CallR X (.builtin "abs") (fun xs H Q => ∃ i, xs = [.int i] ∧ Q (.int (if i < 0 then -i else i)) H) := by
  intro pins s σ H xs us Q I r h
  obtain ⟨i, rfl, q⟩ := h
  obtain ⟨u, rfl, t, rfl⟩ := vals1 r
  exact call_abs_int fun u tk => ⟨.int (if i < 0 then -i else i), H, I.tok _, ⟨_, rfl⟩, q⟩
theorem call_int1 : CallR X (.type "int") (fun xs H Q => (∃ i, xs = [.int i] ∧ Q (.int i) H) ∨ ∃ k, xs = [.bl k] ∧ Q (.int (if k then 1 else 0)) H) := by
  intro pins s σ H xs us Q I r h
  rcases h with ⟨i, rfl, q⟩ | ⟨k, rfl, q⟩
  · obtain ⟨u, rfl, t, rfl⟩ := vals1 r
    exact call_int_int ⟨.int i, H, I, ⟨_, rfl⟩, q⟩
  · obtain ⟨u, rfl, r1⟩ := vals1 r
    cases r1
    exact call_int_bool ⟨.int (if k then 1 else 0), H, I.tok _, ⟨_, rfl⟩, q⟩
theorem call_str_int : CallR X (.type "str") (fun xs H Q => ∃ i, xs = [.int i] ∧ i.natAbs.log2 < 1920 ∧ Q (.str (toString i)) H) := by
  intro pins s σ H xs us Q I r h
  obtain ⟨i, rfl, hz, q⟩ := h
  obtain ⟨u, rfl, t, rfl⟩ := vals1 r
  exact PySem.P.str_of_int hz ⟨.str _, H, I.tok _, ⟨_, rfl⟩, q⟩
end
end L2

namespace L2
open PySem PySem.Spec PyProof.Rows

theorem lookIn_ns {h : Heap} {dx : Addr} {mA : Str → Option Value} (n : h.Ns1 dx mA) : ∃ od, h.get? dx = some od ∧ ∀ name, PySem.W.lookIn name od = some (mA name) := by
  obtain ⟨o, es, ep, ho, hd, hk, _, hm⟩ := n
  refine ⟨o, ho, fun name => ?_⟩
  have e := hm name
  unfold nsFind findBy at e
  rw [← Array.find?_toList] at e
  unfold PySem.W.lookIn
  rw [hd]
  dsimp only
  split
  · rename_i y q
    rw [q] at e
    exact congrArg some e
  · rename_i q
    rw [q] at e
    have a : es.toList.any (·.refKey) = false := by
      rw [List.any_eq_false]
      intro y hy
      obtain ⟨z, t, hkey⟩ := hk y (Array.mem_toList_iff.mp hy)
      simp [DictEntry.refKey, hkey]
    have a' : ¬ es.toList.any (·.refKey) = true := by rw [a]; exact Bool.false_ne_true
    rw [if_neg a']
    exact congrArg some e

section
variable {prog : Program} {w : World} {A : Around} {E : Value → Shared → Prop} {s : Shared} {K : PySem.W.Frag} {x dx C f : Addr} {mA : Str → Option Value} {name : Str} {v : Value}

end

theorem RelO.some_of {v : V} {o : Option Value} (r : RelO (some v) o) : ∃ u, o = some u ∧ RelV v u := by
  cases o with
  | none => exact (show False from r).elim
  | some u => exact ⟨u, rfl, r⟩
theorem handed_of {v : V} {u : Value} (r : RelV v u) : PySem.W.handedIn u = true := by
  cases v with
  | non => cases (show u = Value.none from r); rfl
  | bl b => cases (show u = Value.bool b from r); rfl
  | int i => obtain ⟨t, e⟩ := (show ∃ t, u = Value.int i t from r); cases e; rfl
  | str x => obtain ⟨t, e⟩ := (show ∃ t, u = Value.str x t from r); cases e; rfl
  | byt b => obtain ⟨t, e⟩ := (show ∃ t, u = Value.bytes b t from r); cases e; rfl
  | flt b => obtain ⟨t, e⟩ := (show ∃ t, u = Value.float b t from r); cases e; rfl
  | ref a => cases (show u = Value.ref a from r); rfl
  | ty n => cases (show u = Value.type n from r); rfl

section
variable {P : Program} {w : World} {H H' : Hp} {h h' : Heap} {a C dx : Addr} {fs fs' : List (Str × V)}
end

structure Cls (K : PySem.W.Frag) (C : Addr) : Prop where
  pg : PySem.W.plainGet K C Str.empty = true
  hd : PySem.W.hasDictIn K C = true
  po : PySem.W.plainOver K C = true
  sa : PySem.W.findIn K (.ref C) "__setattr__" = some (some (.builtin "object.__setattr__"))
theorem Cls.get {K : PySem.W.Frag} {C : Addr} (c : Cls K C) (f : Str) : PySem.W.plainGet K C f = true := c.pg
noncomputable def NoAttr (K : PySem.W.Frag) (C : Addr) (f : Str) : Prop := PySem.W.findIn K (.ref C) f = some none
section
variable {X : Cx} {pins : List (Addr × Obj)} {σ : St} {H : Hp} {s : Shared} {a C dx : Addr} {fs : List (Str × V)} {f : Str} {v : V} {A : Around} {E : Value → Shared → Prop}

theorem attr_of {prog : Program} {w : World} {env : Env} {e : Expr} {f : Str} {pos : Pos} {s : Shared} {Q : Value → Shared → Prop} (hb : attributeBase e f env (eval e env) = eval e env)
    (h : wpAny (model prog w) A (eval e env) (fun o s₁ => wpAny (model prog w) A (getAttr o f true) Q E s₁) E s) : wpAny (model prog w) A (eval (.Attribute e f pos) env) Q E s :=
  Attribute_any_ h (by rw [arm_eval_Attribute, hb])
end

section
variable {X : Cx} {o e value : Expr} {f : Str} {pos pos' tpos : Pos} {ta tv : TE}
end

section
variable {X : Cx} {pins : List (Addr × Obj)} {σ : St} {H : Hp} {s : Shared} {A : Around} {E : Value → Shared → Prop} {Q : Value → Shared → Prop} {c : Value} {b : Bool}
end
end L2

namespace L2
open PySem PySem.Spec PyProof.Rows

structure Room (k : Nat) (A : Around) : Prop where
  hd : A.handled = none
  dp : A.depth + 3 * k + 5 < recursionLimit
  un : A.units + 16 * k + 200 < cLine
theorem Room.mono {j k : Nat} {A : Around} (r : Room k A) (h : j ≤ k) : Room j A := ⟨r.hd, by have := r.dp; omega, by have := r.un; omega⟩
theorem Room.deeper {k : Nat} {A : Around} (r : Room (k + 1) A) (env : Env) : Room k (A.deeper env) :=
  ⟨r.hd, by have := r.dp; show A.depth + 1 + 3 * k + 5 < _; omega, by have := r.un; show A.units + 3 + 16 * k + 200 < _; omega⟩
theorem Room.in1 {k : Nat} {A : Around} (r : Room (k + 1) A) : Room k A.in1 :=
  ⟨r.hd, by have := r.dp; show A.depth + 3 * k + 5 < _; omega, by have := r.un; show A.units + 1 + 16 * k + 200 < _; omega⟩
theorem make_depth {A : Around} {C : Addr} {us : List Value} {kw : List (Str × Value)} : (A.under (.builtin "type.__call__" ⟨.ref C :: us, kw⟩)).depth = A.depth + 1 := by
  first | rfl | simp [Around.under, Code.weight, Code.isCreation, Code.isGuard, Code.isCaller, Code.frames, Code.isFrame, guardIds]
theorem make_units {A : Around} {C : Addr} {us : List Value} {kw : List (Str × Value)} : (A.under (.builtin "type.__call__" ⟨.ref C :: us, kw⟩)).units = A.units + 1 := by
  first | rfl | simp [Around.under, Code.cUnits, Code.frames, Code.isFrame]
theorem Room.make {k : Nat} {A : Around} (r : Room (k + 1) A) (C : Addr) (us : List Value) (kw : List (Str × Value)) : Room k (A.under (.builtin "type.__call__" ⟨.ref C :: us, kw⟩)) :=
  ⟨r.hd, by have := r.dp; rw [make_depth]; omega, by have := r.un; rw [make_units]; omega⟩
theorem Room.depth {k : Nat} {A : Around} (r : Room k A) : A.depth < recursionLimit := by have := r.dp; omega
theorem Room.units {k : Nat} {A : Around} (r : Room k A) : A.units + 64 < cLine := by have := r.un; omega
theorem Room.units0 {k : Nat} {A : Around} (r : Room k A) : A.units < cLine := by have := r.un; omega

noncomputable def tNil : TA := fun _ H Q => Q [] H
noncomputable def tCons (ta : TE) (tr : TA) : TA := fun σ H Q => ta σ H fun x H1 => tr σ H1 fun xs H2 => Q (x :: xs) H2
section
variable {X : Cx} {e : Expr} {es : List Expr} {te : TE} {t : TA} {pos : Pos}
theorem pa_nil : PA X [] tNil := fun _ _ _ _ H Q I h => Calls.spliced_nil ⟨[], H, I, .nil, h⟩
theorem pa_cons (ha : PE X e te) (hr : PA X es t) (hs : starEach (e :: es) X.env = (false, eval e X.env) :: starEach es X.env := by rfl) : PA X (e :: es) (tCons te t) := by
  intro pos pins s σ H Q I h
  rw [hs]
  show wpAny _ _ (spliced ((false, eval e X.env) :: backTo pos (starEach es X.env))) _ _ s
  refine Calls.spliced_cons (thn (ha pins s σ H _ I h) fun u s1 ⟨x, H1, I1, r1, q1⟩ => ?_)
  exact thn (hr pos pins s1 σ H1 _ I1 q1) fun us s2 ⟨xs, H2, I2, r2, q2⟩ => ⟨x :: xs, H2, I2, .cons r1 r2, q2⟩

noncomputable def tTup (t : TA) : TE := fun σ H Q => t σ H fun xs H1 => xs.length ≤ sizeLine ∧ ∀ p, H1 p = none → Q (.ref p) (upd H1 p (.tup xs))
noncomputable def tLst (t : TA) : TE := fun σ H Q => t σ H fun xs H1 => xs.length ≤ sizeLine ∧ ∀ p, H1 p = none → Q (.ref p) (upd H1 p (.lst xs))
theorem pe_tup {x1} (h : PA X es t) : PE X (.Tuple es x1 pos) (tTup t) := by
  intro pins s σ H Q I hq
  refine wpAny_Tuple_spliced (thn (h pos pins s σ H _ I hq) fun us s1 ⟨xs, H1, I1, r, z, q⟩ => ⟨by rw [← r.length]; exact z, ?_⟩)
  have hf : H1 s1.heap.objs.size = none := I1.hok.fresh (Nat.le_refl _)
  refine ⟨.ref s1.heap.objs.size, upd H1 s1.heap.objs.size (.tup xs), I1.laid (t' := s1.toks) (fun b u e => Heap.get?_push_of_some _ e) (Nat.le_refl _) ?_, rfl, q _ hf⟩
  exact ⟨z, us, r, ⟨_, Heap.get?_push_size _ rfl, rfl, _, rfl⟩⟩
theorem pe_lst (h : PA X es t) : PE X (.List es pos) (tLst t) := by
  intro pins s σ H Q I hq
  refine wpAny_List_spliced (thn (h pos pins s σ H _ I hq) fun us s1 ⟨xs, H1, I1, r, z, q⟩ => ⟨by rw [← r.length]; exact z, ?_⟩)
  have hf : H1 s1.heap.objs.size = none := I1.hok.fresh (Nat.le_refl _)
  refine ⟨.ref s1.heap.objs.size, upd H1 s1.heap.objs.size (.lst xs), I1.laid (t' := s1.toks) (fun b u e => Heap.get?_push_of_some _ e) (Nat.le_refl _) ?_, rfl, q _ hf⟩
  exact ⟨z, us, 0, r, Heap.get?_push_size _ rfl⟩
end

abbrev Sp := List V → Hp → VK → XK → Prop
abbrev CXT := List Env → Hp → Shared → XK → Value → Shared → Prop

structure Env0 (P : Program) (w : World) (K : PySem.W.Frag) (mg : Str → Option Value) (base : Heap) (A : Around) (outer : List Env) (s : Shared) (H : Hp) : Prop where
  frames : A.frames = some outer
  mod : Mod K mg base
  bs : ∀ b o, base.get? b = some o → s.heap.get? b = some o ∧ H b = none
  bsz : base.objs.size ≤ s.heap.objs.size
  funs : s.heap.FunFrames base outer
  frf : ∀ b ∈ frs outer, H b = none
  hok : HOk P w H s.heap
  bare : AllBare s.gens
noncomputable def CE (outer : List Env) (P : Program) (w : World) (H : Hp) (s : Shared) (Q : VK) (u : Value) (s' : Shared) : Prop :=
  ∃ v H', s'.os = s.os ∧ AllBare s'.gens ∧ Un (frs outer) [] H H' s.heap s'.heap ∧ HOk P w H' s'.heap ∧ RelV v u ∧ Q v H'
noncomputable def CR (CX : CXT) (outer : List Env) (P : Program) (w : World) (H : Hp) (s : Shared) (Q : VK) (E : XK) (r : Result) (s' : Shared) : Prop :=
  match r with
  | .ok (.ret u) => CE outer P w H s Q u s'
  | .ok _ => False
  | .error e => CX outer H s E e s'
structure FnOk (P : Program) (w : World) (K : PySem.W.Frag) (mg : Str → Option Value) (base : Heap) (CX : CXT) (k : Nat) (f : Addr) (fd : FuncData) (ps : List Str) (sp : Sp) : Prop where
  len : ∀ vs H Q E, sp vs H Q E → vs.length = ps.length
  run : ∀ (A : Around) (outer : List Env) (s : Shared) (H : Hp) (args : Args) (us : List Value) (vs : List V) (Q : VK) (E : XK), Room k A → Env0 P w K mg base A outer s H → BindsTo s fd args (ps.zip us) → Vals vs us → sp vs H Q E →
    codeAny (model P w) A (.call (.ref f) args) (CR CX outer P w H s Q E) s
theorem FnOk.mono {P : Program} {w : World} {K : PySem.W.Frag} {mg : Str → Option Value} {base : Heap} {CX : CXT} {j k : Nat} {f : Addr} {fd : FuncData} {ps : List Str} {sp : Sp} (F : FnOk P w K mg base CX j f fd ps sp) (h : j ≤ k) :
    FnOk P w K mg base CX k f fd ps sp := ⟨F.len, fun A outer s H args us vs Q E hr => F.run A outer s H args us vs Q E (hr.mono h)⟩
theorem FnOk.imp {P : Program} {w : World} {K : PySem.W.Frag} {mg : Str → Option Value} {base : Heap} {CX : CXT} {k : Nat} {f : Addr} {fd : FuncData} {ps : List Str} {sp sp' : Sp} (F : FnOk P w K mg base CX k f fd ps sp)
    (h : ∀ vs H Q E, sp' vs H Q E → sp vs H Q E) : FnOk P w K mg base CX k f fd ps sp' :=
  ⟨fun vs H Q E q => F.len vs H Q E (h _ _ _ _ q), fun A outer s H args us vs Q E hr he hb hv hs => F.run A outer s H args us vs Q E hr he hb hv (h _ _ _ _ hs)⟩

theorem Env0.make {P : Program} {w : World} {K : PySem.W.Frag} {mg : Str → Option Value} {base : Heap} {A : Around} {outer : List Env} {s : Shared} {H : Hp} (e : Env0 P w K mg base A outer s H) (C : Addr) (us : List Value) (kw : List (Str × Value)) :
    Env0 P w K mg base (A.under (.builtin "type.__call__" ⟨.ref C :: us, kw⟩)) outer s H := ⟨by first | exact e.frames | (simpa [Around.under, Code.envs, Code.isFrame, pushEnvs] using e.frames), e.mod, e.bs, e.bsz, e.funs, e.frf, e.hok, e.bare⟩
theorem Env0.in1 {P : Program} {w : World} {K : PySem.W.Frag} {mg : Str → Option Value} {base : Heap} {A : Around} {outer : List Env} {s : Shared} {H : Hp} (e : Env0 P w K mg base A outer s H) :
    Env0 P w K mg base A.in1 outer s H := ⟨e.frames, e.mod, e.bs, e.bsz, e.funs, e.frf, e.hok, e.bare⟩

section
variable {X : Cx} {pins : List (Addr × Obj)} {σ : St} {H : Hp} {s s' : Shared}
theorem Inv.env0 (I : Inv X pins σ H s) : Env0 X.prog X.w X.K X.mg X.base X.A X.stack s H :=
  ⟨I.ok.frames, I.ok.mod, I.bs, Nat.le_trans I.ok.bsz I.sz, I.stack, I.stkFree, I.hok, I.bare⟩
theorem Inv.after {Q : VK} {u : Value} (I : Inv X pins σ H s) (h : CE X.stack X.prog X.w H s Q u s') : EP X pins σ Q u s' := by
  obtain ⟨v, H', os, bare, un, hok, r, q⟩ := h
  obtain ⟨hh, g, d, t, os'⟩ := s'
  obtain rfl : os' = s.os := os
  exact ⟨v, H', I.call (h' := hh) (g' := g) (d' := d) (t' := t) (ch := []) un hok bare (fun b z => absurd z (by simp)), r, q⟩
end

noncomputable def tCall (sp : Sp) (dvs : List V) (E : XK) (t : TA) : TE := fun σ H Q => t σ H fun vs H1 => sp (vs ++ dvs) H1 Q E
noncomputable def Binds (K : PySem.W.Frag) (fd : FuncData) (ps : List Str) (ds : List Value) : Prop :=
  ∀ (s : Shared) (us : List Value), K.In s.heap → (us ++ ds).length = ps.length → BindsTo s fd ⟨us, []⟩ (ps.zip (us ++ ds))
theorem Binds.all {K : PySem.W.Frag} {fd : FuncData} {ps : List Str} (h : ∀ us : List Value, us.length = ps.length → bindArgs fd ⟨us, []⟩ = pure (ps.zip us)) : Binds K fd ps [] := fun s us _ hl => by
  rw [List.append_nil] at hl ⊢
  exact .of_eq (h us hl)

noncomputable def Passes (CX : CXT) (X : Cx) (E : XK) : Prop := ∀ (pins : List (Addr × Obj)) (σ : St) (H : Hp) (s : Shared) (e : Value) (s' : Shared), Inv X pins σ H s → CX X.stack H s E e s' → X.xe e s'

section
variable {X : Cx} {CX : CXT} {k : Nat} {f C : Addr} {fd : FuncData} {ps : List Str} {sp : Sp} {dvs : List V} {ds : List Value} {E : XK} {x m : Str} {p pos apos : Pos} {e o : Expr} {es : List Expr} {ta : TE} {t : TA}

theorem run_fn {pins : List (Addr × Obj)} {σ : St} {H : Hp} {s : Shared} {Q : VK} {us : List Value} {vs : List V} (F : FnOk X.prog X.w X.K X.mg X.base CX k f fd ps sp) (hr : Room k X.A) (hb : Binds X.K fd ps ds) (hd : Vals dvs ds) (hx : Passes CX X E)
    (I : Inv X pins σ H s) (r : Vals vs us) (h : sp (vs ++ dvs) H Q E) : wpAny (model X.prog X.w) X.A (call (.ref f) us) (EP X pins σ Q) X.xe s := by
  have r2 : Vals (vs ++ dvs) (us ++ ds) := r.append hd
  have hl : (us ++ ds).length = ps.length := by rw [← r2.length]; exact F.len _ _ _ _ h
  refine wpAny_call (codeAny_mono (F.run X.A X.stack s H ⟨us, []⟩ (us ++ ds) (vs ++ dvs) Q E hr I.env0 (hb s us I.kIn hl) r2 h) fun r s' hq => ?_)
  cases r with
  | error e => exact hx pins σ H s e s' I hq
  | ok fl =>
    cases fl with
    | ret u => exact I.after hq
    | next => exact False.elim hq
    | brk => exact False.elim hq
    | cont => exact False.elim hq

theorem pe_call (F : FnOk X.prog X.w X.K X.mg X.base CX k f fd ps sp) (hr : Room k X.A) (hg : Gl X x) (hm : X.mg x = some (.ref f)) (hk : PySem.W.keepIn X.K (.ref f) = true) (hb : Binds X.K fd ps ds) (hd : Vals dvs ds) (hx : Passes CX X E)
    (ha : PA X (e :: es) t) (hdb : (x == ("__debug__" : Str)) = false := by decide) (he : starEach (e :: es) X.env = (false, eval e X.env) :: starEach es X.env := by rfl) (hpl : (backTo pos (starEach es X.env)).any (·.1) = false := by rfl) :
    PE X (.Call (.Name x p) (e :: es) [] pos) (tCall sp dvs E t) := by
  intro pins s σ H Q I h
  refine wpAny_Call_Name_kw (ld_glob I hg hm ?_ hdb)
  refine PySem.W.callWith_K (h₀ := X.base) I.ok.mod.kin hk (thn (ha pos pins s σ H _ I h) fun us s1 ⟨vs, H1, I1, r, q⟩ => ⟨I1.kIn, ?_⟩) he hpl
  exact run_fn F hr hb hd hx I1 r q
end

section
variable {X : Cx} {CX : CXT} {k : Nat} {f C : Addr} {fd : FuncData} {ps ks : List Str} {sp : Sp} {E : XK} {x m : Str} {p pos apos kpos : Pos} {e o : Expr} {es : List Expr} {kws : List Keyword} {te ta : TE} {t tk : TA} {nm : Option Str}
variable {g : List Value → List Value → List Value} {gV : List V → List V → List V}
end

structure FnScope (N P : List Str) (sc : Scope) : Prop where
  kind : sc.kind = .function
  co : sc.isCoroutine = false
  gen : sc.isGenerator = false
  nd : N.Nodup
  pre : N.take P.length = P
  par : ∀ x ∈ P, sc.names.lookup x = some .local ∨ sc.names.lookup x = some .cell
  nofree : ∀ y ∈ sc.names, y.2 ≠ .free

theorem bindL_out {kindOf : Str → Option NameKind} {x : Str} : ∀ {binds : List (Str × Value)} {m : Str → Option Value}, (∀ v, (x, v) ∉ binds) → bindL kindOf binds m x = m x
  | [], _, _ => rfl
  | (n, v) :: r, m, h => by
    unfold bindL
    rw [bindL_out fun w hw => h w (List.mem_cons_of_mem _ hw)]
    split
    · have : x ≠ n := by rintro rfl; exact h v List.mem_cons_self
      simp [this]
    · rfl
theorem bindC_out {kindOf : Str → Option NameKind} {x : Str} : ∀ {binds : List (Str × Value)} {m : Str → Option Value}, (∀ v, (x, v) ∉ binds) → bindC kindOf binds m x = m x
  | [], _, _ => rfl
  | (n, v) :: r, m, h => by
    unfold bindC
    rw [bindC_out fun w hw => h w (List.mem_cons_of_mem _ hw)]
    split
    · rfl
    · have : x ≠ n := by rintro rfl; exact h v List.mem_cons_self
      simp [this]
theorem bindL_get {kindOf : Str → Option NameKind} {x : Str} {v : Value} : ∀ {P : List Str} {vs : List Value} {i : Nat} {m : Str → Option Value}, P.Nodup → P[i]? = some x → vs[i]? = some v → kindOf x = some .local →
    bindL kindOf (P.zip vs) m x = some v
  | [], _, _, _, _, h, _, _ => by simp at h
  | _ :: _, [], _, _, _, _, h, _ => by simp at h
  | p :: P, w :: vs, 0, m, nd, h1, h2, hk => by
    simp at h1 h2; subst h1; subst h2
    show bindL kindOf ((p, w) :: P.zip vs) m p = _
    unfold bindL
    rw [bindL_out fun v hv => (List.nodup_cons.mp nd).1 (List.of_mem_zip hv).1, if_pos hk]
    simp
  | p :: P, w :: vs, i + 1, m, nd, h1, h2, hk => by
    show bindL kindOf ((p, w) :: P.zip vs) m x = _
    unfold bindL
    exact bindL_get (i := i) (List.nodup_cons.mp nd).2 (by simpa using h1) (by simpa using h2) hk
theorem bindC_get {kindOf : Str → Option NameKind} {x : Str} {v : Value} : ∀ {P : List Str} {vs : List Value} {i : Nat} {m : Str → Option Value}, P.Nodup → P[i]? = some x → vs[i]? = some v → kindOf x ≠ some .local →
    bindC kindOf (P.zip vs) m x = some v
  | [], _, _, _, _, h, _, _ => by simp at h
  | _ :: _, [], _, _, _, _, h, _ => by simp at h
  | p :: P, w :: vs, 0, m, nd, h1, h2, hk => by
    simp at h1 h2; subst h1; subst h2
    show bindC kindOf ((p, w) :: P.zip vs) m p = _
    unfold bindC
    rw [bindC_out fun v hv => (List.nodup_cons.mp nd).1 (List.of_mem_zip hv).1, if_neg hk]
    simp
  | p :: P, w :: vs, i + 1, m, nd, h1, h2, hk => by
    show bindC kindOf ((p, w) :: P.zip vs) m x = _
    unfold bindC
    exact bindC_get (i := i) (List.nodup_cons.mp nd).2 (by simpa using h1) (by simpa using h2) hk

noncomputable def start (N : List Str) (vs : List V) : St := vs.map some ++ List.replicate (N.length - vs.length) none

noncomputable def cxOf (CX : CXT) (P : Program) (w : World) (K : PySem.W.Frag) (mg : Str → Option Value) (base : Heap) (N : List Str) (qual : Str) (scope : Scope) (f : Addr) (cd : Value) (A : Around) (outer : List Env) (s : Shared) (H : Hp) (E : XK) : Cx where
  prog := P
  w := w
  K := K
  mg := mg
  base := base
  A := A.deeper (envOfC qual scope s.heap.objs.size f cd)
  N := N
  s₀ := s
  H₀ := H
  env := envOfC qual scope s.heap.objs.size f cd
  outer := outer
  stack := envOfC qual scope s.heap.objs.size f cd :: outer
  ex := []
  calm := true
  fn := fun _ => true
  pn := []
  xe := fun e s' => wpAny (model P w) (A.deeper (envOfC qual scope s.heap.objs.size f cd)) (leaving (envOfC qual scope s.heap.objs.size f cd) e) (fun _ s'' => CX outer H s E e s'') (fun e' s'' => CX outer H s E e' s'') s'

theorem cell_has {sc : Scope} {n : Nat} {x : Str} (h : sc.names.lookup x = some .cell) : ∃ c, (cellsFrom n sc.names []).lookup x = some c := by
  have q := PySem.W.cellsFrom_some sc.names n [] (.inl h)
  exact Option.isSome_iff_exists.mp q

theorem inv_start {CX : CXT} {P : Program} {w : World} {K : PySem.W.Frag} {mg : Str → Option Value} {base : Heap} {N ps : List Str} {qual : Str} {scope : Scope} {f : Addr} {cd : Value} {A : Around} {outer : List Env} {s s1 : Shared} {H : Hp} {E : XK} {us : List Value} {vs : List V}
    (S : FnScope N ps scope) (hd : A.handled = none) (e0 : Env0 P w K mg base A outer s H) (hl : vs.length = ps.length) (r : Vals vs us)
    (x : InCallC s s.heap.objs.size (bindL (envOfC qual scope s.heap.objs.size f cd).kindOf (ps.zip us) fun _ => none) (cellsFrom (s.heap.objs.size + 1) scope.names []) (bindC (envOfC qual scope s.heap.objs.size f cd).kindOf (ps.zip us) fun _ => none) s1) :
    Inv (cxOf CX P w K mg base N qual scope f cd A outer s H E) [] (start N vs) H s1 := by
  have hpl : ps.length ≤ N.length := by have := congrArg List.length S.pre; rw [List.length_take] at this; omega
  obtain ⟨h1, tk, rfl, hk⟩ := x.done
  have noA : ∀ b : Addr, b ∉ (cxOf CX P w K mg base N qual scope f cd A outer s H E).ex := fun b z => absurd (show b ∈ ([] : List Addr) from z) (by simp)
  refine ⟨⟨e0.mod, S.kind, rfl, rfl, Nat.le_refl _, fun y z c h1 h2 => ?_, fun y hy => ?_, fun y c _ h => ?_, fun _ => hd, Around.frames_deeper e0.frames, .inr ⟨rfl, rfl⟩, fun b z => absurd z (noA b), e0.bs, e0.bsz, fun b _ _ => noA b, fun b z => absurd z (noA b), e0.funs, e0.frf⟩,
    rfl, e0.bare, Un.kept hk, ⟨_, x.toInCall.ns, fun i y v h1 h2 h3 => ?_⟩, fun y c h => ⟨_, x.cell y c h⟩, e0.hok.fresh (Nat.le_refl _), fun y c h => ?_, fun p hp => absurd (show p ∈ ([] : List (Addr × Obj)) from hp) (by simp), e0.hok.kept hk, ?_⟩
  · exact name_of_addr x.apart (PySem.mem_of_lookup h1) (PySem.mem_of_lookup h2)
  · have hy : scope.names.lookup y = some .cell ∨ scope.names.lookup y = some .free := hy
    rcases hy with hy | hy
    · exact cell_has hy
    · exact absurd rfl (S.nofree _ (PySem.mem_of_lookup hy))
  · exact Nat.le_of_lt (x.above y c (PySem.mem_of_lookup h))
  · have hi : i < vs.length := by
      unfold start at h2
      by_cases hi : i < vs.length
      · exact hi
      · rw [List.getElem?_append_right (by simpa using hi)] at h2
        rw [List.getElem?_replicate] at h2
        split at h2 <;> cases h2
    have ha : vs[i]? = some v := by
      unfold start at h2
      rw [List.getElem?_append_left (by simpa using hi), List.getElem?_map] at h2
      cases e : vs[i]? with
      | none => rw [e] at h2; cases h2
      | some a => rw [e] at h2; cases h2; rfl
    obtain ⟨u, hu, rv⟩ := r.get ha
    have hp : ps[i]? = some y := by
      rw [← S.pre, List.getElem?_take_of_lt (by omega)]; exact h1
    have ndP : ps.Nodup := by rw [← S.pre]; exact S.nd.sublist (List.take_sublist _ _)
    refine ⟨u, rv, ?_⟩
    rcases S.par y (List.mem_of_getElem? hp) with k | k
    · exact .inl ⟨k, bindL_get ndP hp hu k⟩
    · obtain ⟨c, e⟩ := cell_has (n := s.heap.objs.size + 1) k
      refine .inr ⟨.inl k, c, e, ?_⟩
      have q := x.cell y c e
      rw [bindC_get ndP hp hu (by show scope.names.lookup y ≠ _; rw [k]; decide)] at q
      exact q
  · exact e0.hok.fresh (Nat.le_of_lt (x.above y c (PySem.mem_of_lookup h)))
  · unfold start
    show _ = N.length
    rw [List.length_append, List.length_map, List.length_replicate]
    omega

theorem fn_of {CX : CXT} {P : Program} {w : World} {K : PySem.W.Frag} {mg : Str → Option Value} {base : Heap} {k : Nat} {f : Addr} {name qual : Str} {params : Arguments} {body : List Stmt} {scope : Scope} {dV kV doc pm cdv ct oc : Value} {an od : Option Addr}
    {osl : Array (Option Value)} {N ps : List Str} {sp : Sp} (lk : K.lookup f = some ⟨oc, od, .func (PySem.W.fnOf name qual params body scope dV kV doc pm an cdv ct), osl⟩) (hcd : PySem.W.codeIn K cdv qual = true) (S : FnScope N ps scope)
    (len : ∀ vs H Q E, sp vs H Q E → vs.length = ps.length)
    (hbody : ∀ (A : Around) (outer : List Env) (s : Shared) (H : Hp) (vs : List V) (Q : VK) (E : XK), Room k (A.deeper (envOfC qual scope s.heap.objs.size f cdv)) → sp vs H Q E →
      ∃ t, PSs (cxOf CX P w K mg base N qual scope f cdv A outer s H E) body t ∧ t { nx := fun _ H' => Q .non H', rt := Q } (start N vs) H) :
    FnOk P w K mg base CX (k + 1) f (PySem.W.fnOf name qual params body scope dV kV doc pm an cdv ct) ps sp := by
  refine ⟨len, fun A outer s H args us vs Q E hr e0 hb r hsp => ?_⟩
  have hl := len _ _ _ _ hsp
  have KX : K.In s.heap := e0.mod.kin.keeps fun b o e => (e0.bs b o e).1
  have lim : s.heap.NoLimit := e0.mod.nolimit.keeps fun b o e => (e0.bs b o e).1
  have hkind : ∀ y ∈ ps.zip us, scope.names.lookup y.1 = some .local ∨ (scope.names.lookup y.1 = some .cell ∧ ((cellsFrom (s.heap.objs.size + 1) scope.names []).lookup y.1).isSome = true) := fun ⟨n, v⟩ hy => by
    rcases S.par n (List.of_mem_zip hy).1 with q | q
    · exact .inl q
    · exact .inr ⟨q, PySem.W.cellsFrom_some _ _ _ (.inl q)⟩
  refine codeAny_call_function hr.depth (KX _ _ lk) rfl S.co S.gen rfl (PySem.W.codeRec_of KX hcd) (hb _ _ _ _ ?_)
  refine wpAny_newFunctionEnv_cells S.kind hkind fun env he s1 x => ?_
  subst he
  refine ⟨lim.keeps x.toInCall.keep, codeAny_func ?_⟩
  obtain ⟨t, ht, hq⟩ := hbody A outer s H vs Q E (hr.deeper _) hsp
  have I : Inv (cxOf CX P w K mg base N qual scope f cdv A outer s H E) [] (start N vs) H s1 := inv_start S hr.hd e0 hl r x
  refine wpAny_mono (ht [] s1 (start N vs) H _ I hq) (fun fl s' hs => ?_) fun e s' hs => hs
  have fin : ∀ {σ' : St} {H' : Hp} {v : V} {u : Value}, Inv (cxOf CX P w K mg base N qual scope f cdv A outer s H E) [] σ' H' s' → RelV v u → Q v H' → CE outer P w H s Q u s' :=
    fun {σ' H' v u} J rv q => ⟨v, H', J.os, J.bare, J.base, J.hok, rv, q⟩
  cases fl with
  | ret u =>
    obtain ⟨v, σ', H', J, rv, q⟩ := hs
    exact fin J rv q
  | next =>
    obtain ⟨σ', H', J, q⟩ := hs
    exact fin (v := V.non) (u := Value.none) J rfl q
  | brk =>
    obtain ⟨_, _, _, q⟩ := hs
    exact False.elim q
  | cont =>
    obtain ⟨_, _, _, q⟩ := hs
    exact False.elim q
end L2

namespace L2
open PySem PySem.Spec PyProof.Rows
section
variable {X : Cx} {x : Str} {p pos : Pos} {e : Expr} {es : List Expr} {t : TA} {id T : String} {r : List V → Hp → VK → Prop}

noncomputable def tCB (r : List V → Hp → VK → Prop) (t : TA) : TE := fun σ H Q => t σ H fun vs H1 => r vs H1 Q
theorem pe_callB (hc : CallR X (.builtin id) r) (hg : Gl X x) (hm : X.mg x = none) (hv : bootBuiltins x = some (.builtin id)) (ha : PA X (e :: es) t) (hn : x ≠ "__name__" := by decide) (hdb : (x == ("__debug__" : Str)) = false := by decide)
    (he : starEach (e :: es) X.env = (false, eval e X.env) :: starEach es X.env := by rfl) (hpl : (backTo pos (starEach es X.env)).any (·.1) = false := by rfl) : PE X (.Call (.Name x p) (e :: es) [] pos) (tCB r t) := by
  intro pins s σ H Q I h
  refine wpAny_Call_Name_kw (ld_blt I hg hm hv ?_ hn hdb)
  exact PyProof.Rows.callWith_builtin1 (thn (ha pos pins s σ H _ I h) fun us s1 ⟨vs, H1, I1, r1, q1⟩ => hc pins s1 σ H1 vs us Q I1 r1 q1) he hpl
theorem pe_callTy (hc : CallR X (.type T) r) (hg : Gl X x) (hm : X.mg x = none) (hv : bootBuiltins x = some (.type T)) (ha : PA X (e :: es) t) (hn : x ≠ "__name__" := by decide) (hdb : (x == ("__debug__" : Str)) = false := by decide)
    (he : starEach (e :: es) X.env = (false, eval e X.env) :: starEach es X.env := by rfl) (hpl : (backTo pos (starEach es X.env)).any (·.1) = false := by rfl) : PE X (.Call (.Name x p) (e :: es) [] pos) (tCB r t) := by
  intro pins s σ H Q I h
  refine wpAny_Call_Name_kw (ld_blt I hg hm hv ?_ hn hdb)
  exact PyProof.Rows.callWith_type1 (thn (ha pos pins s σ H _ I h) fun us s1 ⟨vs, H1, I1, r1, q1⟩ => hc pins s1 σ H1 vs us Q I1 r1 q1) he hpl
end
end L2

namespace HT
open PySem PyProof.Rows

section
open PySem.SeqAt
open PySem.AutoSeq1 (wpAny_loadPart')
open PySem.MeetsSeq PySem.MeetsSeq2 PySem.MeetsSeq3

end

section
variable {prog : Program} {w : World} {A : Around} {E : Value → Shared → Prop} {s : Shared}

noncomputable def sIx (n d : Nat) : Option Int → Nat
  | none => d
  | some v => if v < 0 then (v + (n : Int)).toNat else min v.toNat n
theorem sIx_none (n d : Nat) : sIx n d none = d := rfl
theorem sIx_nat (n d k : Nat) : sIx n d (some (k : Int)) = min k n := by
  show (if (k : Int) < 0 then ((k : Int) + (n : Int)).toNat else min (k : Int).toNat n) = min k n
  rw [if_neg (by omega), Int.toNat_natCast]
end
end HT

namespace L2
open PySem PySem.Spec PyProof.Rows

abbrev TO := St → Hp → (Option Int → Hp → Prop) → Prop
noncomputable def PO (X : Cx) (e : Option Expr) (t : TO) : Prop :=
  ∀ (pins : List (Addr × Obj)) (s : Shared) (σ : St) (H : Hp) (Q : Option Int → Hp → Prop), Inv X pins σ H s → t σ H Q →
    wpAny (model X.prog X.w) X.A (evalPart e X.env) (fun u s' => ∃ o H', Inv X pins σ H' s' ∧ IsPart u o ∧ Q o H') X.xe s
noncomputable def tNoPart : TO := fun _ H Q => Q none H
noncomputable def tPart (t : TE) : TO := fun σ H Q => t σ H fun x H1 => ∃ i, x = .int i ∧ Q (some i) H1

theorem intsAre_of {ns : List Int} : ∀ {us : List Value}, Vals (ns.map V.int) us → IntsAre us ns := by
  induction ns with
  | nil => intro us r; rw [List.map_nil] at r; cases r; exact .nil
  | cons n ns ih =>
    intro us r
    rw [List.map_cons] at r
    cases r with
    | cons r1 r2 =>
      obtain ⟨t, e⟩ := r1
      subst e
      exact .cons n t (ih r2)

section
variable {X : Cx} {e : Expr} {te : TE} {lo hi : Option Expr} {tl th : TO} {pos p2 : Pos}

theorem po_none : PO X none tNoPart := by
  intro pins s σ H Q I h
  rw [evalPart_none]
  exact wpAny_pure ⟨none, H, I, .none, h⟩
theorem po_some (h : PE X e te) : PO X (some e) (tPart te) := by
  intro pins s σ H Q I hw
  rw [evalPart_some]
  refine thn (h pins s σ H _ I hw) fun u s1 ⟨x, H1, I1, r1, q1⟩ => ?_
  obtain ⟨i, rfl, q⟩ := q1
  obtain ⟨t, rfl⟩ := r1
  exact ⟨some i, H1, I1, .int i t, q⟩

noncomputable def SlR (X : Cx) (r : V → Option Int → Option Int → Hp → VK → Prop) : Prop :=
  ∀ (pins : List (Addr × Obj)) (s : Shared) (σ : St) (H : Hp) (x : V) (v vl vu : Value) (lo hi : Option Int) (sl : Addr) (Q : VK), Inv X pins σ H s → RelV x v → s.heap.IsSliceOf sl vl vu .none → IsPart vl lo → IsPart vu hi → r x lo hi H Q →
    ∃ T id, typeLookup (.type T) "__getitem__" = pure (some (.builtin id)) ∧ s.TypeIs v T ∧ wpAny (model X.prog X.w) X.A (getItem v (.ref sl)) (EP X pins σ Q) X.xe s
theorem SlR.or {r r' : V → Option Int → Option Int → Hp → VK → Prop} (h : SlR X r) (h' : SlR X r') : SlR X (fun x lo hi H Q => r x lo hi H Q ∨ r' x lo hi H Q) := by
  intro pins s σ H x v vl vu lo hi sl Q I rx hs pl pu q
  rcases q with q | q
  · exact h pins s σ H x v vl vu lo hi sl Q I rx hs pl pu q
  · exact h' pins s σ H x v vl vu lo hi sl Q I rx hs pl pu q
noncomputable def tSl (r : V → Option Int → Option Int → Hp → VK → Prop) (te : TE) (tl th : TO) : TE := fun σ H Q => te σ H fun x H1 => tl σ H1 fun l H2 => th σ H2 fun u H3 => r x l u H3 Q
theorem pe_slice {r : V → Option Int → Option Int → Hp → VK → Prop} (hr : SlR X r) (he : PE X e te) (hl : PO X lo tl) (hu : PO X hi th) : PE X (.Subscript e (.Slice lo hi none p2) pos) (tSl r te tl th) := by
  intro pins s σ H Q I h
  refine Subscript_ (thn (he pins s σ H _ I h) fun v s1 ⟨x, H1, I1, r1, q1⟩ => ?_)
  refine wpAny_Slice (thn (hl pins s1 σ H1 _ I1 q1) fun vl s2 ⟨l, H2, I2, pl, q2⟩ => thn (hu pins s2 σ H2 _ I2 q2) fun vu s3 ⟨u, H3, I3, pu, q3⟩ => ?_)
  rw [evalPart_none]
  refine wpAny_pure ?_
  have I4 : Inv X pins σ H3 { s3 with heap := s3.heap.push { cls := .type "slice", data := .fields #[vl, vu, .none] } } := I3.kept (t' := s3.toks) fun b ob q => Heap.get?_push_of_some _ q
  obtain ⟨T, id, hT, ht, hg⟩ := hr pins { s3 with heap := s3.heap.push { cls := .type "slice", data := .fields #[vl, vu, .none] } } σ H3 x v vl vu l u s3.heap.objs.size Q I4 r1 (Heap.IsSliceOf.new ..) pl pu q3
  show wpAny (model X.prog X.w) X.A (subscriptTail e (.Slice lo hi none p2) v (.ref s3.heap.objs.size)) (EP X pins σ Q) X.xe { s3 with heap := s3.heap.push { cls := .type "slice", data := .fields #[vl, vu, .none] } }
  exact tail_any (ops := [.ref s3.heap.objs.size, v]) ht hT hg (by with_unfolding_all rfl)

noncomputable def cutV (xs : List V) (lo hi : Option Int) : List V := (xs.drop (HT.sIx xs.length 0 lo)).take (HT.sIx xs.length xs.length hi - HT.sIx xs.length 0 lo)
theorem cutV_length (xs : List V) (lo hi : Option Int) : (cutV xs lo hi).length ≤ xs.length := by
  unfold cutV
  rw [List.length_take, List.length_drop]
  omega
end
end L2

namespace L2
open PySem PySem.Spec PyProof.Rows

noncomputable def ixN (n : Nat) (i : Int) : Option Nat := if 0 ≤ i then (if i < n then some i.toNat else none) else if -(n : Int) ≤ i then some (i + n).toNat else none
noncomputable def atI {α : Type} (xs : List α) (i : Int) : Option α := (ixN xs.length i).bind fun j => xs[j]?
theorem ixN_seq {n : Nat} {i : Int} {j : Nat} (h : ixN n i = some j) : seqIndex? i n = some j ∧ j < n ∧ -(n : Int) ≤ i ∧ i < n := by
  unfold ixN at h
  by_cases h0 : 0 ≤ i
  · rw [if_pos h0] at h
    by_cases h1 : i < n
    · rw [if_pos h1] at h
      have e : i.toNat = j := Option.some.inj h
      exact ⟨by rw [seqIndex_of h0 h1, e], by omega, by omega, h1⟩
    · rw [if_neg h1] at h; cases h
  · rw [if_neg h0] at h
    by_cases h1 : -(n : Int) ≤ i
    · rw [if_pos h1] at h
      have e : (i + n).toNat = j := Option.some.inj h
      exact ⟨by rw [seqIndex_neg (by omega) h1, e], by omega, h1, by omega⟩
    · rw [if_neg h1] at h; cases h
theorem atI_get {α : Type} {xs : List α} {i : Int} {v : α} (h : atI xs i = some v) : ∃ j, seqIndex? i xs.length = some j ∧ xs[j]? = some v ∧ j < xs.length ∧ -(xs.length : Int) ≤ i ∧ i < xs.length := by
  unfold atI at h
  cases e : ixN xs.length i with
  | none => rw [e] at h; cases h
  | some j =>
    rw [e] at h
    obtain ⟨h1, h2, h3, h4⟩ := ixN_seq e
    exact ⟨j, h1, h, h2, h3, h4⟩
theorem atI_nat {α : Type} {xs : List α} {j : Nat} {v : α} (h : xs[j]? = some v) : atI xs (j : Int) = some v := by
  have hj : j < xs.length := (List.getElem?_eq_some_iff.mp h).1
  have e : ixN xs.length (j : Int) = some j := by
    unfold ixN
    rw [if_pos (by omega), if_pos (by omega)]; simp
  unfold atI; rw [e]; exact h
noncomputable def PlainIx (b : Expr) : Prop := ∀ o i, subscripted b false o i = operate [o, i] (getItem o i)
noncomputable def IxR (X : Cx) (r : R2) : Prop :=
  ∀ (value slice : Expr) (pins : List (Addr × Obj)) (s : Shared) (σ : St) (H : Hp) (x y : V) (v u : Value) (Q : VK), Inv X pins σ H s → RelV x v → RelV y u → r x y H Q →
    subscripted slice false v u = operate [v, u] (getItem v u) → wpAny (model X.prog X.w) X.A (subscriptTail value slice v u) (EP X pins σ Q) X.xe s
noncomputable def MtR (X : Cx) (id : String) (r : V → List V → Hp → VK → Prop) : Prop :=
  ∀ (pins : List (Addr × Obj)) (s : Shared) (σ : St) (H : Hp) (x : V) (xs : List V) (v : Value) (us : List Value) (Q : VK), Inv X pins σ H s → RelV x v → Vals xs us → r x xs H Q →
    wpAny (model X.prog X.w) X.A (call (.builtin id) (v :: us)) (EP X pins σ Q) X.xe s
section
variable {X : Cx} {a b : Expr} {ta tb : TE} {pos : Pos}
theorem IxR.or {r r' : R2} (h : IxR X r) (h' : IxR X r') : IxR X (fun x y H Q => r x y H Q ∨ r' x y H Q) := by
  intro value slice pins s σ H x y v u Q I rx ry q hs
  rcases q with q | q
  · exact h value slice pins s σ H x y v u Q I rx ry q hs
  · exact h' value slice pins s σ H x y v u Q I rx ry q hs
theorem MtR.or {id : String} {r r' : V → List V → Hp → VK → Prop} (h : MtR X id r) (h' : MtR X id r') : MtR X id (fun x xs H Q => r x xs H Q ∨ r' x xs H Q) := by
  intro pins s σ H x xs v us Q I rx rs q
  rcases q with q | q
  · exact h pins s σ H x xs v us Q I rx rs q
  · exact h' pins s σ H x xs v us Q I rx rs q
theorem pe_ix {r : R2} (hr : IxR X r) (ha : PE X a ta) (hb : PE X b tb) (hs : PlainIx b) : PE X (.Subscript a b pos) (tOp r ta tb) := by
  intro pins s σ H Q I h
  exact Subscript_ (binT ha hb I h fun v u s2 x y H2 I2 rx ry q => hr a b pins s2 σ H2 x y v u Q I2 rx ry q (hs _ _))

noncomputable def rIxL (K : PySem.W.Frag) : R2 := fun x y H Q => ∃ p xs i v, x = .ref p ∧ y = .int i ∧ SqL K H p xs ∧ atI xs i = some v ∧ Q v H
noncomputable def rIxT (K : PySem.W.Frag) : R2 := fun x y H Q => ∃ p xs i v, x = .ref p ∧ y = .int i ∧ SqT K H p xs ∧ atI xs i = some v ∧ Q v H
noncomputable def rIxS : R2 := fun x y H Q => ∃ z i c, x = .str z ∧ y = .int i ∧ z.length ≤ sizeLine ∧ atI z.cps.toList i = some c ∧ Q (.str ⟨#[c]⟩) H
theorem ix_list : IxR X (rIxL X.K) := by
  intro value slice pins s σ H x y v u Q I rx ry h hs
  obtain ⟨p, xs, i, z, rfl, rfl, hq, he, q⟩ := h
  cases rx
  obtain ⟨t, rfl⟩ := ry
  obtain ⟨its, r, pl, hz⟩ := I.list hq
  obtain ⟨j, h1, h2, h3, h4, h5⟩ := atI_get he
  obtain ⟨w, ew, rw'⟩ := r.get h2
  have hl := r.length
  have hn := line63
  have fin : EP X pins σ Q w s := ⟨z, H, I, rw', q⟩
  by_cases h0 : 0 ≤ i
  · have hj : i.toNat = j := by
      rw [seqIndex_of h0 h5] at h1
      exact Option.some.inj h1
    exact item_listR pl.isList h0 (by omega) (by rw [hj]; simpa using ew) fin hs
  · have hj : (i + (its.toArray.size : Int)).toNat = j := by
      rw [seqIndex_neg (by omega) h4] at h1
      rw [List.size_toArray, ← hl]
      exact Option.some.inj h1
    exact subscriptTail_builtinR (x := w) pl.isList.typeIs slot_list_getitem.lookup
      (wpAny_getItem_list_neg (Q := fun r s' => r = w ∧ EP X pins σ Q r s') pl.isList (by omega) (by rw [List.size_toArray] <;> omega) (by omega) (by rw [hj]; simpa using ew) ⟨rfl, fin⟩) hs
theorem ix_tup : IxR X (rIxT X.K) := by
  intro value slice pins s σ H x y v u Q I rx ry h hs
  obtain ⟨p, xs, i, z, rfl, rfl, hq, he, q⟩ := h
  cases rx
  obtain ⟨t, rfl⟩ := ry
  obtain ⟨its, r, pl, hz⟩ := I.tuple hq
  obtain ⟨j, h1, h2, h3, h4, h5⟩ := atI_get he
  obtain ⟨w, ew, rw'⟩ := r.get h2
  have hl := r.length
  have hn := line63
  have fin : EP X pins σ Q w s := ⟨z, H, I, rw', q⟩
  exact subscriptTail_builtinR (x := w) pl.typeIs slot_tuple_getitem.lookup
    (getItem_tuple (j := j) (Q := fun r s' => r = w ∧ EP X pins σ Q r s') pl (by omega) (by omega) (by rw [List.size_toArray, ← hl]; exact h1) (by simpa using ew) ⟨rfl, fin⟩) hs
theorem ix_str : IxR X rIxS := by
  intro value slice pins s σ H x y v u Q I rx ry h hs
  obtain ⟨z, i, c, rfl, rfl, hz, he, q⟩ := h
  obtain ⟨t, rfl⟩ := rx
  obtain ⟨t', rfl⟩ := ry
  obtain ⟨j, h1, h2, h3, h4, h5⟩ := atI_get he
  have hl : z.cps.toList.length = z.length := by simp [Str.length]
  rw [hl] at h1 h4 h5
  have hn := line63
  exact tail_any (typeIs_str s z t) slot_str_getitem.lookup (getItem_str (c := c) (by
    have e1 : decide (i < -(2 ^ 63 : Int)) = false := decide_eq_false (by omega)
    have e2 : decide (i ≥ 2 ^ 63) = false := decide_eq_false (by omega)
    rw [e1, e2, Bool.or_false]) (by rw [h1]; simpa using h2) ⟨.str ⟨#[c]⟩, H, I.tok _, ⟨_, rfl⟩, q⟩) hs
theorem Inv.lst {pins : List (Addr × Obj)} {σ : St} {H : Hp} {s : Shared} {p : Addr} {xs : List V} (I : Inv X pins σ H s) (h : H p = some (.lst xs)) :
    ∃ (its : List Value) (n : Nat), Vals xs its ∧ s.heap.get? p = some { cls := .type "list", data := .seq its.toArray n } ∧ xs.length ≤ sizeLine := by
  obtain ⟨z, its, n, r, e⟩ := I.hok p _ h
  exact ⟨its, n, r, e, z⟩
theorem slice_bounds (lo hi : Option Int) (n : Nat) : (sliceBounds lo hi none n).1 = ((HT.sIx n 0 lo : Nat) : Int) ∧ (sliceBounds lo hi none n).2.1 = ((HT.sIx n n hi : Nat) : Int) ∧ (sliceBounds lo hi none n).2.2 = 1 := by
  refine ⟨?_, ?_, rfl⟩
  · cases lo with
    | none => simp [sliceBounds, HT.sIx]
    | some i =>
      simp only [sliceBounds, HT.sIx, Option.getD_none, show (1 : Int) > 0 by decide, if_true]
      by_cases h : i < 0
      · simp only [h, if_true] <;> omega
      · simp only [h, if_false] <;> omega
  · cases hi with
    | none => simp [sliceBounds, HT.sIx]
    | some i =>
      simp only [sliceBounds, HT.sIx, Option.getD_none, show (1 : Int) > 0 by decide, if_true]
      by_cases h : i < 0
      · simp only [h, if_true] <;> omega
      · simp only [h, if_false] <;> omega
theorem slicePick_cut (its : List Value) (lo hi : Option Int) : slicePick its.toArray lo hi none = ((its.drop (HT.sIx its.length 0 lo)).take (HT.sIx its.length its.length hi - HT.sIx its.length 0 lo)).toArray := by
  obtain ⟨h1, h2, h3⟩ := slice_bounds lo hi its.toArray.size
  unfold slicePick
  rw [h1, h2, h3]
  simp only [sliceRange_one, pick_run, List.size_toArray] <;> rfl
noncomputable def rSlL (K : PySem.W.Frag) : V → Option Int → Option Int → Hp → VK → Prop := fun x lo hi H Q => ∃ a xs, x = .ref a ∧ SqL K H a xs ∧ ∀ p, H p = none → Q (.ref p) (upd H p (.lst (cutV xs lo hi)))
theorem sl_list : SlR X (rSlL X.K) := by
  intro pins s σ H x v vl vu lo hi sl Q I rx hs pl pu h
  obtain ⟨a, xs, rfl, hx, q⟩ := h
  cases rx
  obtain ⟨its, r, ht, hz⟩ := I.list hx
  have hlen := r.length
  refine ⟨"list", _, slot_list_getitem.lookup, ht.isList.typeIs, ?_⟩
  refine wpAny_getItem_list_slice ht.isList hs pl pu .none (by simp) ?_ (by rw [List.size_toArray] <;> omega)
  rw [slicePick_cut, ← hlen]
  refine ⟨.ref s.heap.objs.size, _, I.laid (t' := s.toks) (o := .lst (cutV xs lo hi)) (fun b ob q => Heap.get?_push_of_some _ q) (Nat.le_refl _) ?_, rfl, q _ (I.hok.fresh (Nat.le_refl _))⟩
  exact ⟨Nat.le_trans (cutV_length xs lo hi) hz, _, 0, (r.drop (HT.sIx xs.length 0 lo)).take (HT.sIx xs.length xs.length hi - HT.sIx xs.length 0 lo), Heap.get?_push_size _ rfl⟩

theorem op_notIn_str : OpR X (compareOp .NotIn) (fun x y H Q => ∃ i j, x = .str i ∧ y = .str j ∧ Q (.bl (!(!(Builtin.Str.occurrences j i 0 j.length 1).isEmpty))) H) := by
  intro pins s σ H x y v u Q I rx ry h
  obtain ⟨i, j, rfl, rfl, q⟩ := h
  obtain ⟨t, rfl⟩ := rx
  obtain ⟨t', rfl⟩ := ry
  exact notIn_str ⟨.bl _, H, I, rfl, q⟩

theorem call_len_seq : CallR X (.builtin "len") (fun xs H Q => ∃ p ys, xs = [.ref p] ∧ (SqL X.K H p ys ∨ SqT X.K H p ys) ∧ Q (.int ys.length) H) := by
  intro pins s σ H xs us Q I r h
  obtain ⟨p, ys, rfl, hq, q⟩ := h
  obtain ⟨u, rfl, rx⟩ := vals1 r
  cases rx
  have hn := line63
  rcases hq with hq | hq
  · obtain ⟨its, r', pl, hz⟩ := I.list hq
    have hlen := r'.length
    exact Calls.call_len_list pl.isList (by simp only [List.size_toArray] <;> omega) ⟨.int ys.length, H, I.tok _, ⟨s.toks + 1, by rw [List.size_toArray, hlen]⟩, q⟩
  · obtain ⟨its, r', pl, hz⟩ := I.tuple hq
    have hlen := r'.length
    exact len_tuple pl (by simp only [List.size_toArray] <;> omega) ⟨.int ys.length, H, I.tok _, ⟨s.toks + 1, by rw [List.size_toArray, hlen]⟩, q⟩
theorem call_len_str : CallR X (.builtin "len") (fun xs H Q => ∃ z, xs = [.str z] ∧ z.length ≤ sizeLine ∧ Q (.int z.length) H) := by
  intro pins s σ H xs us Q I r h
  obtain ⟨z, rfl, hz, q⟩ := h
  obtain ⟨u, rfl, t, rfl⟩ := vals1 r
  have hn := line63
  exact len_str (by omega) ⟨.int z.length, H, I.tok _, ⟨_, rfl⟩, q⟩
theorem CallR.or {f : Value} {r r' : List V → Hp → VK → Prop} (h : CallR X f r) (h' : CallR X f r') : CallR X f (fun xs H Q => r xs H Q ∨ r' xs H Q) := by
  intro pins s σ H xs us Q I rs q
  rcases q with q | q
  · exact h pins s σ H xs us Q I rs q
  · exact h' pins s σ H xs us Q I rs q
noncomputable def tyV (K : PySem.W.Frag) (T : String) (x : V) (H : Hp) : Prop := match x with
  | .str _ => T = "str"
  | .int _ => T = "int"
  | .ref p => (T = "list" ∧ ∃ xs, SqL K H p xs) ∨ (T = "tuple" ∧ ∃ o, K.lookup p = some o ∧ o.cls = .type "tuple" ∧ o.dict = none) ∨
      (T = "dict" ∧ ((∃ kvs, H p = some (.dK kvs)) ∨ ∃ kvs, H p = some (.dT kvs))) ∨ (T = "set" ∧ ∃ S n, H p = some (.set S n))
  | _ => False
theorem tyV_is {pins : List (Addr × Obj)} {σ : St} {H : Hp} {s : Shared} {T : String} {x : V} {v : Value} (I : Inv X pins σ H s) (r : RelV x v) (ty : tyV X.K T x H) :
    s.TypeIs v T ∧ ∀ a, v = .ref a → ∃ ob, s.heap.get? a = some ob ∧ ob.dict = none := by
  cases x with
  | str z =>
    obtain ⟨t, rfl⟩ := r
    cases (show T = "str" from ty)
    exact ⟨typeIs_str s z t, fun _ e => nomatch e⟩
  | int i =>
    obtain ⟨t, rfl⟩ := r
    cases (show T = "int" from ty)
    exact ⟨typeIs_int s i t, fun _ e => nomatch e⟩
  | ref p =>
    cases r
    rcases ty with ⟨rfl, xs, hq⟩ | ⟨rfl, o, hk, hc, hd⟩ | ⟨rfl, hk⟩ | ⟨rfl, S, n, hk⟩
    · obtain ⟨its, _, pl, _⟩ := I.list hq
      refine ⟨pl.isList.typeIs, fun a e => ?_⟩
      cases e
      obtain ⟨o, n, e, c, hd, _⟩ := pl
      exact ⟨o, e, hd⟩
    · refine ⟨⟨o, I.kIn p o hk, hc⟩, fun a e => ?_⟩
      cases e
      exact ⟨o, I.kIn _ o hk, hd⟩
    · have z : ∃ o, s.heap.get? p = some o ∧ o.ExactDict := by
        rcases hk with ⟨kvs, hk⟩ | ⟨kvs, hk⟩
        · obtain ⟨_, _, _, _, o, _, _, e, ex, _⟩ := I.hok p _ hk
          exact ⟨o, e, ex⟩
        · obtain ⟨_, _, _, _, o, _, _, e, ex, _⟩ := I.hok p _ hk
          exact ⟨o, e, ex⟩
      obtain ⟨o, e, ex⟩ := z
      refine ⟨⟨o, e, ex.1⟩, fun a e2 => ?_⟩
      cases e2
      exact ⟨o, e, ex.2.1⟩
    · obtain ⟨o, _, _, _, e, ex, _⟩ := I.hok p _ hk
      refine ⟨⟨o, e, ex.1⟩, fun a e2 => ?_⟩
      cases e2
      exact ⟨o, e, ex.2.1⟩
  | _ => exact False.elim ty
noncomputable def tBM (K : PySem.W.Frag) (T : String) (r : V → List V → Hp → VK → Prop) (to : TE) (t : TA) : TE := fun σ H Q => to σ H fun x H1 => tyV K T x H1 ∧ t σ H1 fun xs H2 => r x xs H2 Q
variable {o e : Expr} {es : List Expr} {to : TE} {t : TA} {name : Str} {apos cpos : Pos} {T id : String} {r : V → List V → Hp → VK → Prop}
theorem pe_bm (pa : PlainAttrs T) (slot : Slot T name id) (hty : typeOf (.builtin id) = pure (.type "method_descriptor")) (hm : MtR X id r) (ho : PE X o to) (ha : PA X (e :: es) t)
    (hbase : attributeBase o name X.env (eval o X.env) = eval o X.env := by rfl)
    (hfew : ((backTo cpos (starEach (e :: es) X.env)).all (fun x => !x.1) && (backToKw cpos (keywordEach [] X.env)).all (fun x => x.1.isSome)
      && decide ((e :: es).length + ([] : List Keyword).length + (if ([] : List Keyword).isEmpty then 0 else 1) < 30)) = true := by rfl)
    (hline : (apos.endLine == cpos.line) = true := by rfl) (hs : starEach (e :: es) X.env = (false, eval e X.env) :: starEach es X.env := by rfl) (hplain : (backTo cpos (starEach es X.env)).any (·.1) = false := by rfl) :
    PE X (.Call (.Attribute o name apos) (e :: es) [] cpos) (tBM X.K T r to t) := by
  intro pins s σ H Q I h
  refine wpAny_Call_method_late hbase hfew hline rfl (thn (ho pins s σ H _ I h) fun v s1 ⟨x, H1, I1, r1, ty, q1⟩ => ?_)
  obtain ⟨h1, h2⟩ := tyV_is I1 r1 ty
  refine ⟨T, id, pa, slot, hty, h1, h2, ?_⟩
  have hA := ha cpos pins s1 σ H1 _ I1 q1
  rw [hs] at hA ⊢
  refine Calls.callWith_builtin (by show (false || (backTo cpos (starEach es X.env)).any (·.1)) = false; rw [hplain] <;> rfl) (Calls.evalArgs_plain ?_)
  exact thn hA fun us s2 ⟨vs, H2, I2, r2, q2⟩ => hm pins s2 σ H2 x vs v us Q I2 r1 r2 q2
/- xs.append(e), list.index on a module's tuple .. are MtR facts of 06m -/
end
end L2

namespace L2
open PySem PySem.Spec PyProof.Rows

noncomputable def MtM (X : Cx) (id : String) (r : V → List V → Hp → VK → Prop) : Prop :=
  ∀ (pins : List (Addr × Obj)) (s : Shared) (σ : St) (H : Hp) (x : V) (xs : List V) (v : Value) (us : List Value) (Q : VK), Inv X pins σ H s → RelV x v → Vals xs us → r x xs H Q →
    wpAny (model X.prog X.w) X.A (call (.builtin id) (v :: us)) (EP X pins σ Q) X.xe s

theorem Vals.one : ∀ {x : V} {us : List Value}, Vals [x] us → ∃ u, us = [u] ∧ RelV x u
  | _, _, .cons r .nil => ⟨_, rfl, r⟩
theorem Vals.two : ∀ {x y : V} {us : List Value}, Vals [x, y] us → ∃ u v, us = [u, v] ∧ RelV x u ∧ RelV y v
  | _, _, _, .cons r (.cons q .nil) => ⟨_, _, rfl, r, q⟩
theorem Vals.zero : ∀ {us : List Value}, Vals [] us → us = []
  | _, .nil => rfl
theorem Vals.dropLast {xs : List V} {us : List Value} (h : Vals xs us) : Vals xs.dropLast us.dropLast := by
  induction h with
  | nil => exact .nil
  | cons r t ih =>
    cases t with
    | nil => exact .nil
    | cons q t' => exact .cons r ih
theorem Vals.reverse {xs : List V} {us : List Value} (h : Vals xs us) : Vals xs.reverse us.reverse := by
  induction h with
  | nil => exact .nil
  | cons r t ih => rw [List.reverse_cons, List.reverse_cons]; exact Vals.append ih (.cons r .nil)
theorem Vals.rep {xs : List V} {us : List Value} (h : Vals xs us) : ∀ k : Nat, Vals (List.replicate k xs).flatten (List.replicate k us).flatten
  | 0 => .nil
  | k + 1 => by
    rw [List.replicate_succ, List.replicate_succ, List.flatten_cons, List.flatten_cons]
    exact Vals.append h (Vals.rep h k)
theorem foldl_rep (its : List Value) : ∀ (k : Nat) (acc : List Value),
    List.foldl (fun x1 x2 => x1 ++ x2) acc.toArray (List.replicate k its.toArray) = (acc ++ (List.replicate k its).flatten).toArray
  | 0, acc => by simp
  | k + 1, acc => by
    have e : acc.toArray ++ its.toArray = (acc ++ its).toArray := by simp
    have e2 : (acc ++ its) ++ (List.replicate k its).flatten = acc ++ (List.replicate (k + 1) its).flatten := by
      rw [List.replicate_succ, List.flatten_cons, List.append_assoc]
    rw [← e2, ← foldl_rep its k (acc ++ its), ← e, List.replicate_succ, List.foldl_cons]

section
variable {X : Cx} {pins : List (Addr × Obj)} {σ : St} {H : Hp} {s : Shared} {l b : Addr} {xs ys zs : List V}

theorem Inv.lset {its its' : List Value} {n : Nat} {f : Array Value → Array Value} {t' : Nat} (I : Inv X pins σ H s) (hH : H l = some (.lst xs))
    (e : s.heap.get? l = some { cls := .type "list", data := .seq its.toArray n }) (hf : f its.toArray = its'.toArray) (hv : Vals ys its') (hz : ys.length ≤ sizeLine) :
    Inv X pins σ (upd H l (.lst ys)) { s with heap := s.heap.update l (Obj.mapSeq f), toks := t' } := by
  have q := PySem.IsL.update e f
  rw [hf] at q
  refine I.write (x := l) (e := l) (by rw [hH]; exact trivial) (.inl rfl) (fun b' u hb hu => (Heap.get?_update_other s.heap (Obj.mapSeq f) (Ne.symm hb)).trans hu) ⟨_, q⟩ ?_
  exact ⟨hz, its', _, hv, q⟩
theorem Inv.lnew {its : List Value} {t' : Nat} (I : Inv X pins σ H s) (hv : Vals ys its) (hz : ys.length ≤ sizeLine) :
    Inv X pins σ (upd H s.heap.objs.size (.lst ys)) { s with heap := s.heap.push { cls := .type "list", data := .seq its.toArray }, toks := t' } :=
  I.laid (fun _ _ q => Heap.get?_push_of_some _ q) (Nat.le_refl _) ⟨hz, its, 0, hv, Heap.get?_push_size _ rfl⟩
theorem Inv.fresh (I : Inv X pins σ H s) : H s.heap.objs.size = none := I.hok.fresh (Nat.le_refl _)
theorem Inv.lstM (I : Inv X pins σ H s) (hH : H l = some (.lst xs)) : xs.length ≤ sizeLine ∧ ∃ (its : List Value) (n : Nat), Vals xs its ∧ xs.length = its.length ∧ s.heap.get? l = some { cls := .type "list", data := .seq its.toArray n } := by
  obtain ⟨z, its, n, r, e⟩ := I.hok l _ hH
  exact ⟨z, its, n, r, r.length, e⟩

theorem notLongL {n : Nat} (h : n ≤ sizeLine) : Builtin.List.listTooLong n = false := by
  unfold Builtin.List.listTooLong
  exact decide_eq_false (by omega)
end

section
variable {X : Cx}

noncomputable def rAppend : V → List V → Hp → VK → Prop := fun x vs H Q => ∃ l xs y, x = .ref l ∧ vs = [y] ∧ H l = some (.lst xs) ∧ xs.length < sizeLine ∧ Q .non (upd H l (.lst (xs ++ [y])))
theorem mt_append : MtM X "list.append" rAppend := by
  intro pins s σ H x vs v us Q I rx rv h
  obtain ⟨l, xs, y, rfl, rfl, hH, hz, q⟩ := h
  cases rx
  obtain ⟨u, rfl, ru⟩ := rv.one
  obtain ⟨z, its, n, r, hl, e⟩ := I.lstM hH
  refine call_meets F.slot_list_append ⟨_, e, rfl⟩ F.entry_list_append (F.args_list_append_2 _ _) (PySem.list_append l its.toArray n u (by rw [List.size_toArray]; omega)) ⟨e, ?_⟩
  refine ⟨.non, _, I.lset (its' := its ++ [u]) hH e (by simp) (r.append (.cons ru .nil)) ?_, rfl, q⟩
  rw [List.length_append, List.length_singleton]
  omega

noncomputable def rCat : R2 := fun x y H Q => ∃ l b xs zs, x = .ref l ∧ y = .ref b ∧ H l = some (.lst xs) ∧ H b = some (.lst zs) ∧ xs.length + zs.length ≤ sizeLine ∧ ∀ p, H p = none → Q (.ref p) (upd H p (.lst (xs ++ zs)))
theorem op_cat : OpR X (binaryOp .Add) rCat := by
  intro pins s σ H x y v u Q I rx ry h
  obtain ⟨l, b, xs, zs, rfl, rfl, hH, hB, hz, q⟩ := h
  cases rx
  cases ry
  obtain ⟨z, its, n, r, hl, e⟩ := I.lstM hH
  obtain ⟨z2, its2, n2, r2, hl2, e2⟩ := I.lstM hB
  refine PySem.P.add_list e e2 ?_ (by rw [List.size_toArray, List.size_toArray]; omega)
  have ea : its.toArray ++ its2.toArray = (its ++ its2).toArray := by simp
  rw [ea]
  exact ⟨.ref _, _, I.lnew (t' := s.toks) (r.append r2) (by rw [List.length_append]; omega), rfl, q _ I.fresh⟩
noncomputable def rRep : R2 := fun x y H Q => ∃ l k xs, x = .ref l ∧ y = .int k ∧ H l = some (.lst xs) ∧ -(2 ^ 63) ≤ k ∧ k < 2 ^ 63 ∧ xs.length * k.toNat ≤ sizeLine ∧
  ∀ p, H p = none → Q (.ref p) (upd H p (.lst (List.replicate k.toNat xs).flatten))
theorem len_rep {α : Type} (xs : List α) (k : Nat) : (List.replicate k xs).flatten.length = k * xs.length := by
  induction k with
  | zero => simp
  | succ k ih => rw [List.replicate_succ, List.flatten_cons, List.length_append, ih, Nat.succ_mul, Nat.add_comm]
theorem op_rep : OpR X (binaryOp .Mult) rRep := by
  intro pins s σ H x y v u Q I rx ry h
  obtain ⟨l, k, xs, rfl, rfl, hH, h1, h2, hz, q⟩ := h
  cases rx
  obtain ⟨t, rfl⟩ := ry
  obtain ⟨z, its, n, r, hl, e⟩ := I.lstM hH
  have hlen : its.toArray.size * k.toNat ≤ sizeLine := by rw [List.size_toArray, ← hl]; exact hz
  have hcap : ¬ its.toArray.size * k.toNat > (2 ^ 63 - 1) / 8 := by
    have : (sizeLine : Nat) ≤ (2 ^ 63 - 1) / 8 := by decide
    omega
  have hfit : ¬ (!Builtin.List.listFitsIndex k) = true := by
    rw [fitsIndex_both h1 h2]
    exact Bool.false_ne_true
  have hlong : ¬ Builtin.List.listTooLong (its.toArray.size * k.toNat) = true := by
    rw [notLongL hlen]
    exact Bool.false_ne_true
  have hnew : List.foldl (fun x1 x2 => x1 ++ x2) #[] (List.replicate (if its.toArray.isEmpty = true then 0 else k.toNat) its.toArray) = (List.replicate k.toNat its).flatten.toArray := by
    have f0 : ∀ m : Nat, List.foldl (fun x1 x2 => x1 ++ x2) #[] (List.replicate m its.toArray) = (List.replicate m its).flatten.toArray := fun m => by
      have := foldl_rep its m []
      rw [List.nil_append] at this
      exact this
    rw [f0]
    cases its with
    | nil => simp
    | cons a r' => rw [if_neg (by simp)]
  refine wpAny_binaryOp_repeat_ref (T := "list") (U := "int") (by decide) ⟨_, e, rfl⟩ (fun s' => typeIs_int s' k t) noFill_list_mul F.fills_int_mul F.slot_int_rmul repeat_list F.slot_int_index.lookup
    (call_meets F.slot_int_rmul (typeIs_int s k t) F.entry_int_rmul (F.args_int_rmul_2 _ _) (int___rmul___int_list k t l its.toArray n)
      ⟨e, rfl, ⟨_, e, rfl⟩, call_meets F.slot_list_mul ⟨_, e, rfl⟩ F.entry_list_mul (F.args_list_mul_2 _ _) (AutoListH.list___mul___list_int_3 l its.toArray n k t hfit hcap hlong) ⟨e, ?_⟩⟩)
  rw [hnew]
  exact ⟨.ref _, _, I.lnew (t' := s.toks) (r.rep k.toNat) (by rw [len_rep, Nat.mul_comm]; exact hz), rfl, q _ I.fresh⟩

end

section
variable {prog : Program} {w : World} {A : Around} {E : Value → Shared → Prop} {s : Shared}
set_option maxRecDepth 100000 in
end

section
variable {X : Cx}
end
end L2

namespace Att
open PySem PySem.W PySem.Calls PyProof.Rows

theorem ints_of_wellAll {P : Params} {h : Heap} : ∀ (ns : List Int) (vs : List Value), WellAll P h vs (ns.map WData.int) → IntsAre vs ns := by
  intro ns
  induction ns with
  | nil =>
    intro vs w
    rw [List.map_nil] at w
    cases w
    exact .nil
  | cons n ns ih =>
    intro vs w
    rw [List.map_cons] at w
    cases w with
    | cons a b =>
      cases a
      exact .cons _ _ (ih _ b)

theorem script_of {l : OpenLaw} {n : Nat} (hn : l.most = some n) {P : Params} {h : Heap} {args : List WData} {vals : List Value}
    (hpre : l.row.toRowW.claim.pre args = true) (hwl : WellAll P h vals args) :
    ∃ a vs ns, vals = [Value.ref a] ∧ args = [WData.list (ns.map WData.int)] ∧ h.get? a = some { cls := .type "list", data := .seq vs.toArray } ∧ IntsAre vs ns ∧ ns.length ≤ n := by
  have hsh : WShape.hasAll [] args [.list .int] = true := (pre_splitW hpre).1
  have hc : l.pre.holds [] { args := args } = true := (pre_splitW hpre).2
  obtain ⟨d, r, rfl, h1, h2⟩ := hasAllW_cons hsh
  obtain rfl := hasAllW_nil h2
  obtain ⟨xs, rfl, h3⟩ := hasW_list h1
  obtain ⟨ns, rfl⟩ := items_int h3
  have hlen : ns.length ≤ n := by
    unfold OpenLaw.pre at hc
    have h4 : (WTm.not (.lt (.lit (.int (n : Int))) (.len (.arg 0)))).holds [] { args := [.list (ns.map .int)] } = true := by
      have h4 := (holds_andW hc).1
      rw [hn] at h4
      exact h4
    have h5 := condW_of h4 (w_not (w_lt w_lit (w_len_list (w_arg rfl))))
    rw [List.length_map] at h5
    refine Nat.le_of_not_lt fun q => ?_
    have q' : (n : Int) < ((ns.length : Nat) : Int) := by omega
    first
      | (rw [decide_eq_true q'] at h5; exact absurd h5 (by decide))
      | (simp at h5; omega)
  cases hwl with
  | cons w1 w2 =>
    cases w2
    cases w1 with
    | list ho hall => exact ⟨_, _, ns, rfl, rfl, ho, ints_of_wellAll ns _ hall, hlen⟩

theorem post_true (l : OpenLaw) (args : List WData) : l.row.toRowW.claim.post args (.bool true) args = true :=
  postW_of (r := l.row.toRowW) (X := (true == true))
    (show WShape.has [] (.bool true) .bool = true by first | rfl | decide | simp [WShape.has, WShape.arms, WShape.armsAll])
    (show (WTm.eq .res (.lit (.bool true))).value [] { args := args, res := some (.bool true), after := args } = some (.bool (true == true)) from w_eq_bool (w_res rfl) w_lit) rfl

theorem attach_call {l : OpenLaw} {n : Nat} {q : Program} {loose : List Str} {XP : (Str → Option Value) → Heap → Prop} {YP : World → Heap → Prop} {d : DefRec}
    (hn : l.most = some n) (hdf : d.params.defaults = [])
    (call : ∀ (w : World) (s₀ s₁ : Shared) (mg mb : Str → Option Value) (fa : Addr) (o : Obj) (pm cd doc : Value) (a : Addr) (vs : List Value) (ns : List Int),
      Ground q loose [] XP w s₀ mg mb s₁.heap → YP w s₁.heap →
      s₁.heap.get? fa = some o → o.data = .func (docDef d.name d.params d.body d.scope pm cd doc) → s₁.heap.CodeRec cd d.name → mg d.name = some (.ref fa) →
      s₁.heap.get? a = some { cls := .type "list", data := .seq vs.toArray } → IntsAre vs ns → ns.length ≤ n → s₁.gens = #[] →
      codeAny (model l.prog w) callerA (.call (.ref fa) ⟨[.ref a], []⟩) (fun r s' => r = .ok (.ret (.bool true)) ∧ OldK s₁.heap s'.heap ∧ s'.os = s₁.os ∧ AllBare s'.gens) s₁) :
    WalkO q loose XP YP l.row.toRowW d [] (fun f vs => PySem.call f vs) := by
  intro w s₀ s₁ mg mb G Y fa o pm cd doc dV kV ho hd hcd hD hmg hg args vals as hpre hlay hrd hwl hlo
  obtain rfl : dV = .none := Dflts.none hD hdf
  obtain rfl : kV = .none := Dflts.noKw hD
  obtain ⟨a, vs, ns, rfl, rfl, hobj, hints, hlen⟩ := script_of hn hpre hwl
  refine enter_call (codeAny_mono (call w s₀ s₁ mg mb fa o pm cd doc a vs ns G Y ho (fd_plain hd) hcd hmg hobj hints hlen hg) fun r s' hq => ?_)
  obtain ⟨rfl, h2, h3, h4⟩ := hq
  exact ⟨.inl ⟨.bool true, .bool true, [], rfl, fun _ => rfl, .bool true, post_true l _, fun _ => ⟨List.Pairwise.nil, fun _ hm => (nomatch hm)⟩⟩, h2, h3, h4⟩

section
variable {prog : Program} {w : World} {A : Around} {E : Value → Shared → Prop} {s : Shared} {K : Frag}

end
end Att

namespace L2
open PySem PySem.Spec PyProof.Rows

theorem vals_ints : ∀ {vs : List Value} {ns : List Int}, IntsAre vs ns → Vals (ns.map V.int) vs
  | _, _, .nil => .nil
  | _, _, .cons n t h => .cons ⟨t, rfl⟩ (vals_ints h)

noncomputable def Only (H : Hp) : Prop := ∀ b, H b = none ∨ ∃ o xs, H b = some (.frz o (.lst xs))

theorem law_call {P : Program} {w : World} {K : PySem.W.Frag} {mg mb : Str → Option Value} {CX : CXT} {k : Nat} {fa a : Addr} {fd : FuncData} {x : Str} {sp : Sp} {s₁ : Shared} {vs : List Value} {ns : List Int}
    (KX : K.In s₁.heap) (hns : s₁.heap.Ns mainGlobals mg) (hb : s₁.heap.Ns builtinsNs mb) (hbb : ∀ x : Str, x ≠ "__name__" → mb x = bootBuiltins x) (hlim : s₁.heap.NoLimit) (hg : s₁.gens = #[])
    (ha : s₁.heap.get? a = some { cls := .type "list", data := .seq vs.toArray }) (hi : IntsAre vs ns) (hl : ns.length ≤ sizeLine) (hr : Room k callerA)
    (F : ∀ base : Heap, K.In base → base.Ns mainGlobals mg → FnOk P w K mg base CX k fa fd [x] sp) (hbind : ∀ (s : Shared) (u : Value), BindsTo s fd ⟨[u], []⟩ [(x, u)])
    (hsp : ∀ H : Hp, Only H → SqL K H a (ns.map V.int) → sp [.ref a] H (fun v _ => v = .bl true) fun _ _ _ => False)
    (hCX : ∀ H e s', CX [] H s₁ (fun _ _ _ => False) e s' → False) :
    codeAny (model P w) callerA (.call (.ref fa) ⟨[.ref a], []⟩) (fun r s' => r = .ok (.ret (.bool true)) ∧ OldK s₁.heap s'.heap ∧ s'.os = s₁.os ∧ AllBare s'.gens) s₁ := by
  have rv := vals_ints hi
  have lenV := hi.length
  -- from an abstract heap in which nothing but the script may be tracked
  have core : ∀ H : Hp, Only H → SqL K H a (ns.map V.int) → HOk P w H s₁.heap → (∀ b, H b ≠ none → b = a) → (H a ≠ none → K.lookup a = none) →
      codeAny (model P w) callerA (.call (.ref fa) ⟨[.ref a], []⟩) (fun r s' => r = .ok (.ret (.bool true)) ∧ OldK s₁.heap s'.heap ∧ s'.os = s₁.os ∧ AllBare s'.gens) s₁ := by
    intro H hO hS hok hA hK
    have base_of : ∀ {b : Addr} {o : Obj}, s₁.heap.get? b = some o → H b = none → (hidT s₁.heap H).get? b = some o := fun e n => hidT_get e n
    have noA : ∀ {b : Addr} {o : Obj} {es : Array DictEntry} {ep : Nat}, s₁.heap.get? b = some o → o.data = .dict es ep → H b = none := fun {b o es ep} e d => by
      cases q : H b with
      | none => rfl
      | some u =>
        have e' : b = a := hA b (by rw [q]; simp)
        subst e'
        rw [ha] at e; cases e
        have d' : Data.seq vs.toArray _ = Data.dict es ep := d
        cases d'
    have nsK : ∀ {b : Addr} {m : Str → Option Value}, s₁.heap.Ns b m → (hidT s₁.heap H).Ns b m := fun {b m} ⟨o, es, ep, e, d, r⟩ => ⟨o, es, ep, base_of e (noA e d), d, r⟩
    have hKb : K.In (hidT s₁.heap H) := fun b o e => base_of (KX b o e) (by
      cases q : H b with
      | none => rfl
      | some u =>
        have e' : b = a := hA b (by rw [q]; simp)
        subst e'
        rw [hK (by rw [q]; simp)] at e; cases e)
    have hM : Mod K mg (hidT s₁.heap H) := ⟨hKb, nsK hns, ⟨mb, nsK hb, hbb⟩, let ⟨mc, h1, h2⟩ := hlim; ⟨mc, nsK h1, h2⟩⟩
    have e0 : Env0 P w K mg (hidT s₁.heap H) callerA [] s₁ H := ⟨rfl, hM, fun b o e => of_hidT e, Nat.le_of_eq (hidT_size _ _), trivial, fun b hb => absurd (show b ∈ ([] : List Addr) from hb) (by simp), hok, .of_eq hg⟩
    refine codeAny_mono ((F _ hKb (nsK hns)).run callerA [] s₁ H ⟨[.ref a], []⟩ [.ref a] [.ref a] _ _ hr e0 (hbind s₁ (.ref a)) (.cons rfl .nil) (hsp H hO hS)) fun r s' h => ?_
    cases r with
    | error e => exact (hCX H e s' h).elim
    | ok fl =>
      cases fl with
      | next => exact False.elim h
      | brk => exact False.elim h
      | cont => exact False.elim h
      | ret u =>
        obtain ⟨v, H', os, bare, un, hok', r', q⟩ := h
        have q' : v = .bl true := q
        subst q'
        obtain rfl : u = Value.bool true := r'
        refine ⟨rfl, OldK.of_keep fun b o e => ?_, os, bare⟩
        cases q : H b with
        | none => exact un.keep b o e q (by intro z; exact absurd (show b ∈ ([] : List Addr) from z) (by simp)) (by simp)
        | some u =>
          rcases hO b with z | ⟨ob, xs, z⟩
          · rw [q] at z; cases z
          · have z2 := un.frzs b ob _ z
            obtain ⟨e1, _⟩ := hok b _ z
            obtain ⟨e2, _⟩ := hok' b _ z2
            rw [e] at e1; cases e1
            exact e2
  cases hk : K.lookup a with
  | some o =>
    -- the script is one of the module's own objects
    have e := KX a o hk
    rw [ha] at e
    cases e
    refine core (fun _ => none) (fun _ => .inl rfl) (.inr ⟨_, vs.toArray, _, hk, rfl, rfl, rfl, by rw [List.size_toArray, lenV]; exact hl, by simpa using rv⟩) (fun b u z => by have z' : (none : Option HO) = some u := z; cases z') (fun b z => absurd rfl z) fun z => absurd rfl z
  | none =>
    refine core (fun b => if b = a then some (.frz { cls := .type "list", data := .seq vs.toArray } (.lst (ns.map V.int))) else none) (fun b => ?_) (.inl (.inr ⟨{ cls := .type "list", data := .seq vs.toArray }, if_pos rfl⟩)) (fun b u z => ?_) (fun b z => ?_) fun _ => hk
    · by_cases hb : b = a
      · exact .inr ⟨_, _, if_pos hb⟩
      · exact .inl (if_neg hb)
    · by_cases hb : b = a
      · have z' := (if_pos hb).symm.trans z
        cases z'
        subst hb
        exact ⟨ha, by rw [List.length_map]; exact hl, vs, _, rv, ha⟩
      · have z' := (if_neg hb).symm.trans z
        cases z'
    · by_cases hb : b = a
      · exact hb
      · exact absurd (if_neg hb) z
end L2

namespace L2
open PySem PySem.Spec PyProof.Rows

abbrev KOf {K : PySem.W.Frag} {h : Heap} (_ : K.In h) : PySem.W.Frag := K

theorem walk_of {l : PySem.W.OpenLaw} {n k : Nat} {q : Program} {loose : List Str} {XP : (Str → Option Value) → Heap → Prop} {YP : World → Heap → Prop} {d : DefRec} {K : Params → PySem.W.Frag} {CX : World → CXT} {sp : World → Sp} {x : Str}
    (hn : l.most = some n) (hn2 : n ≤ sizeLine) (hdf : d.params.defaults = []) (hr : Room k callerA)
    (hY : ∀ (w : World) (h : Heap), YP w h → (K w.params).In h)
    (F : ∀ (w : World) (mg : Str → Option Value) (fa : Addr) (h : Heap), (K w.params).In h → h.Ns mainGlobals mg → mg d.name = some (.ref fa) →
      ∃ fd : FuncData, (∀ (s : Shared) (u : Value), BindsTo s fd ⟨[u], []⟩ [(x, u)]) ∧
        ∀ base : Heap, (K w.params).In base → base.Ns mainGlobals mg → FnOk l.prog w (K w.params) mg base (CX w) k fa fd [x] (sp w))
    (hsp : ∀ (w : World) (H : Hp) (a : Addr) (ns : List Int), ns.length ≤ n → Only H → SqL (K w.params) H a (ns.map V.int) → sp w [.ref a] H (fun v _ => v = .bl true) fun _ _ _ => False)
    (hCX : ∀ (w : World) (H : Hp) (s : Shared) (e : Value) (s' : Shared), CX w [] H s (fun _ _ _ => False) e s' → False) :
    PySem.W.WalkO q loose XP YP l.row.toRowW d [] (fun f vs => PySem.call f vs) := by
  refine Att.attach_call hn hdf fun w s₀ s₁ mg mb fa o pm cd doc a vs ns G Y ho hd hcd hmg hobj hints hlen hg => ?_
  have KX := hY w _ Y
  obtain ⟨fd, hb, hF⟩ := F w mg fa _ KX G.T.g hmg
  exact law_call KX G.T.g G.T.b G.T.builtins G.T.nolimit hg hobj hints (Nat.le_trans hlen hn2) hr hF hb (fun H hO hS => hsp w H a ns hlen hO hS) fun H e s' => hCX w H s₁ e s'
end L2

/- THE LAST THEOREM (shape; LID, My.* are yours):
   My.Adr: a structure of the addresses that your layer names (classes, functions); My.Txt K t: a structure (Prop) of the equations over K;
   My.txt_mk : {K} {implicit addresses ..} (e1 : nsIn K mainGlobals "law" = some (some (.ref f))) (e2 : K.lookup f = some ⟨oc, od, .func (fnOf "law" "law" params body scope dV kV doc pm an cdv ct), sl⟩) (e3 : codeIn K cdv "law" = true) .. : ∃ t, My.Txt K t

set_option maxRecDepth 100000 in
set_option maxHeartbeats 0 in
theorem PySem.Challenge.cw_LID_holds : PySem.Challenge.rw_LID.Holds := by
  w_on; o_law; k_head; (case hw => w_witness2)
  k_fill
  refine L2.walk_of (l := PySem.Challenge.rw_LID) (n := 63) (k := 40) (x := "script") (CX := fun w => ..) (sp := fun _ => My.sp_law) rfl (by decide) rfl ⟨rfl, by decide, by decide⟩ (fun w h Y => PySem.W.kIn_of Y) ?F ?S ?C
  case F =>
    intro w mg fa h KX G hmg
    have T : ∃ t, My.Txt (L2.KOf KX) t := by
      dsimp only [L2.KOf]                          -- K must stand as «<heap const> w.params» for k_is
      refine' My.txt_mk ?e1 ?e2 ?e3 ..
      (case e1 => PySem.W.k_is)                    -- in the order: a name -> its address -> its object -> its parts
      (case e2 => PySem.W.k_is)
      ..
    obtain ⟨t, T⟩ := T
    have e0 := hmg.symm.trans (PySem.W.mg_of KX G T.law)
    cases e0                                       -- fa is the law's own address
    exact ⟨_, fun s u => .of_eq rfl, fun base kb nb => My.law_fn T kb nb⟩     -- if «.of_eq rfl» comes too early: refine' ⟨_, ?b, fun base kb nb => My.law_fn T kb nb⟩; exact fun s u => .of_eq rfl
  case S => exact fun w H a ns hl hO hS => ..
  case C => exact ..
(the tactic k_is has no namespace: write k_is) -/

namespace L2
open PySem PySem.Spec PyProof.Rows

noncomputable def defArgs (s : Stmt) : Arguments := match s with
  | .FunctionDef _ a _ _ _ _ _ _ _ _ => a
  | _ => { posonlyargs := [], args := [], vararg := none, kwonlyargs := [], kw_defaults := [], kwarg := none, defaults := [] }
noncomputable def defBody (s : Stmt) : List Stmt := match s with
  | .FunctionDef _ _ b _ _ _ _ _ _ _ => b
  | _ => []
noncomputable def defScope (s : Stmt) : Scope := match s with
  | .FunctionDef _ _ _ _ _ _ sc _ _ _ => sc
  | _ => { kind := .function, names := [], isGenerator := false, isCoroutine := false }

abbrev CX0 : CXT := fun _ _ _ _ _ _ => False
abbrev E0 : XK := fun _ _ _ => False
theorem pass0 {X : Cx} : Passes CX0 X E0 := fun _ _ _ _ _ _ _ h => h.elim

structure Fun (K : PySem.W.Frag) (x qual : Str) (st : Stmt) (f : Addr) (fd : FuncData) : Prop where
  ex : ∃ (oc : Value) (od : Option Addr) (kV doc pm : Value) (an : Option Addr) (cdv ct : Value) (osl : Array (Option Value)),
    fd = PySem.W.fnOf x qual (defArgs st) (defBody st) (defScope st) .none kV doc pm an cdv ct ∧ K.lookup f = some ⟨oc, od, .func fd, osl⟩ ∧ PySem.W.codeIn K cdv qual = true
  kp : PySem.W.keepIn K (.ref f) = true
section
variable {P : Program} {w : World} {K : PySem.W.Frag} {mg : Str → Option Value} {base : Heap}
theorem Fun.ok {x qual : Str} {st : Stmt} {f : Addr} {fd : FuncData} {N ps : List Str} {k : Nat} {sp : Sp} (F : Fun K x qual st f fd) (S : FnScope N ps (defScope st)) (len : ∀ vs H Q E, sp vs H Q E → vs.length = ps.length)
    (hbody : ∀ (cdv : Value) (A : Around) (outer : List Env) (s : Shared) (H : Hp) (vs : List V) (Q : VK) (E : XK), Room k (A.deeper (envOfC qual (defScope st) s.heap.objs.size f cdv)) → sp vs H Q E →
      ∃ t, PSs (cxOf CX0 P w K mg base N qual (defScope st) f cdv A outer s H E).nox (defBody st) t ∧ t { nx := fun _ H' => Q .non H', rt := Q } (start N vs) H) : FnOk P w K mg base CX0 (k + 1) f fd ps sp := by
  obtain ⟨oc, od, kV, doc, pm, an, cdv, ct, osl, rfl, lk, hcd⟩ := F.ex
  refine fn_of lk hcd S len fun A outer s H vs Q E hr hsp => ?_
  obtain ⟨t, h, q⟩ := hbody cdv A outer s H vs Q E hr hsp
  exact ⟨t, h.nox, q⟩
theorem Fun.binds {x qual : Str} {st : Stmt} {f : Addr} {fd : FuncData} {ps : List Str} (F : Fun K x qual st f fd)
    (h : ∀ (kV doc pm : Value) (an : Option Addr) (cdv ct : Value) (us : List Value), us.length = ps.length → bindArgs (PySem.W.fnOf x qual (defArgs st) (defBody st) (defScope st) .none kV doc pm an cdv ct) ⟨us, []⟩ = pure (ps.zip us)) : Binds K fd ps [] := by
  obtain ⟨oc, od, kV, doc, pm, an, cdv, ct, osl, rfl, lk, hcd⟩ := F.ex
  exact .all (h kV doc pm an cdv ct)
theorem fun_mk {x qual : Str} {st : Stmt} {f : Addr} {oc : Value} {od an : Option Addr} {osl : Array (Option Value)} {kV doc pm cdv ct : Value} (l : K.lookup f = some ⟨oc, od, .func (PySem.W.fnOf x qual (defArgs st) (defBody st) (defScope st) .none kV doc pm an cdv ct), osl⟩)
    (c : PySem.W.codeIn K cdv qual = true) (k : PySem.W.keepIn K (.ref f) = true) : Fun K x qual st f (PySem.W.fnOf x qual (defArgs st) (defBody st) (defScope st) .none kV doc pm an cdv ct) := ⟨⟨oc, od, kV, doc, pm, an, cdv, ct, osl, rfl, l, c⟩, k⟩
end
theorem small1000 {n : Nat} (h : n ≤ 1000) : n < sizeLine := Nat.lt_of_le_of_lt h (by decide)

section
variable {X : Cx}
theorem pv (i : Nat) {x : Str} {pos : Pos} (hN : X.N[i]? = some x := by rfl) (hv : Vis X.env.scope x := by first | exact Or.inl rfl | exact Or.inr (Or.inl rfl) | exact Or.inr (Or.inr rfl)) (hd : (x == ("__debug__" : Str)) = false := by decide)
    (hcd : (x == ("__classdict__" : Str)) = false := by decide) : PE X (.Name x pos) (tVar i) := pe_var hN hv hd hcd
end

theorem iteF {A B : Prop} (h : B) : if false = true then A else B := by
  rw [if_neg Bool.false_ne_true]
  exact h
theorem iteT {A B : Prop} (h : A) : if true = true then A else B := by
  rw [if_pos rfl]
  exact h
theorem iteNS {c A B : Prop} [Decidable c] (hc : c) (h : B) : if (!decide c) = true then A else B := by
  rw [decide_eq_true hc]
  exact iteF h

noncomputable def Same (H H' : Hp) : Prop := ∀ b o, H b = some o → H' b = some o
theorem Same.refl (H : Hp) : Same H H := fun _ _ h => h
theorem Same.trans {H H1 H2 : Hp} (a : Same H H1) (b : Same H1 H2) : Same H H2 := fun c o h => b c o (a c o h)
theorem Same.free {H H' : Hp} (e : Same H H') {l : Addr} (h : H' l = Option.none) : H l = Option.none := by
  cases q : H l with
  | none => rfl
  | some o =>
    rw [e l o q] at h
    cases h
theorem Same.seq {K : PySem.W.Frag} {H H' : Hp} {a : Addr} {xs : List V} (e : Same H H') (h : SqL K H a xs) : SqL K H' a xs := by
  rcases h with (h | ⟨o, h⟩) | h
  · exact .inl (.inl (e _ _ h))
  · exact .inl (.inr ⟨o, e _ _ h⟩)
  · exact .inr h

end L2

set_option maxHeartbeats 4000000
namespace My
noncomputable def Bd (n : Nat) (x : Int) : Prop := x.natAbs < 2 ^ n
theorem Bd.mono {m n : Nat} {x : Int} (h : Bd m x) (hn : m ≤ n) : Bd n x := Nat.lt_of_lt_of_le h (Nat.pow_le_pow_right (by decide) hn)
theorem Bd.neg {n : Nat} {x : Int} (h : Bd n x) : Bd n (-x) := by unfold Bd at *; rw [Int.natAbs_neg]; exact h
theorem Bd.mul {m n : Nat} {x y : Int} (h : Bd m x) (g : Bd n y) : Bd (m + n) (x * y) := by
  unfold Bd at *
  rw [Int.natAbs_mul, Nat.pow_add]
  exact Nat.mul_lt_mul'' h g
theorem Bd.add {n : Nat} {x y : Int} (h : Bd n x) (g : Bd n y) : Bd (n + 1) (x + y) := by
  unfold Bd at *
  rw [Nat.pow_succ]
  have := Int.natAbs_add_le x y
  omega
theorem Bd.sub {n : Nat} {x y : Int} (h : Bd n x) (g : Bd n y) : Bd (n + 1) (x - y) := by
  rw [Int.sub_eq_add_neg]; exact h.add g.neg
theorem Bd.mod {n : Nat} {x y : Int} (hy : 0 < y) (g : Bd n y) : Bd n (x % y) := by
  unfold Bd at *
  have h1 := Int.emod_nonneg x (Int.ne_of_gt hy)
  have h2 := Int.emod_lt_of_pos x hy
  omega
theorem Bd.of_le {n : Nat} {x y : Int} (g : Bd n y) (h0 : 0 ≤ x) (h : x ≤ y) : Bd n x := by
  unfold Bd at *
  omega
theorem gcd_step (a b : Int) : Int.gcd b (a % b) = Int.gcd a b := by
  apply Nat.dvd_antisymm
  · apply Int.dvd_gcd
    · have h1 : ((Int.gcd b (a % b) : Nat) : Int) ∣ b := Int.gcd_dvd_left ..
      have h2 : ((Int.gcd b (a % b) : Nat) : Int) ∣ a % b := Int.gcd_dvd_right ..
      have h3 := Int.mul_ediv_add_emod a b
      have h4 := Int.dvd_add (Int.dvd_trans h1 (Int.dvd_mul_right b (a / b))) h2
      rw [h3] at h4
      exact h4
    · exact Int.gcd_dvd_left ..
  · apply Int.dvd_gcd
    · exact Int.gcd_dvd_right ..
    · have h1 : ((Int.gcd a b : Nat) : Int) ∣ a := Int.gcd_dvd_left ..
      have h2 : ((Int.gcd a b : Nat) : Int) ∣ b := Int.gcd_dvd_right ..
      have h3 := Int.mul_ediv_add_emod a b
      have h4 : a % b = a - b * (a / b) := by omega
      rw [h4]
      exact Int.dvd_sub h1 (Int.dvd_trans h2 (Int.dvd_mul_right b (a / b)))
theorem gcd_pos {a b : Int} (hb : 0 < b) : 0 < ((Int.gcd a b : Nat) : Int) := by
  have : 0 < Int.gcd a b := Int.gcd_pos_of_ne_zero_right a (Int.ne_of_gt hb)
  omega
theorem gcd_le {a b : Int} (hb : 0 < b) : ((Int.gcd a b : Nat) : Int) ≤ b :=
  Int.le_of_dvd hb (Int.gcd_dvd_right ..)
end My

namespace My
noncomputable def sg (t m : Int) : Int := if m < 0 then -((Int.gcd t m : Nat) : Int) else ((Int.gcd t m : Nat) : Int)
theorem sg_ne {t m : Int} (hm : m ≠ 0) : sg t m ≠ 0 := by
  have h : 0 < Int.gcd t m := Int.gcd_pos_of_ne_zero_right t hm
  unfold sg
  split <;> omega
theorem sg_dvd_left (t m : Int) : sg t m ∣ t := by
  unfold sg
  split
  · exact Int.neg_dvd.mpr (Int.gcd_dvd_left ..)
  · exact Int.gcd_dvd_left ..
theorem sg_dvd_right (t m : Int) : sg t m ∣ m := by
  unfold sg
  split
  · exact Int.neg_dvd.mpr (Int.gcd_dvd_right ..)
  · exact Int.gcd_dvd_right ..
theorem fdiv_mul {a b : Int} (hb : b ≠ 0) (h : b ∣ a) : a.fdiv b * b = a := Int.fdiv_mul_cancel h
theorem natAbs_sg (t m : Int) : (sg t m).natAbs = Int.gcd t m := by
  unfold sg
  split
  · rw [Int.natAbs_neg, Int.natAbs_natCast]
  · rw [Int.natAbs_natCast]
structure Made (t m a b : Int) : Prop where
  pos : 0 < b
  low : Int.gcd a b = 1
  same : a * m = t * b
  ba : a.natAbs ≤ t.natAbs
  bb : b.natAbs ≤ m.natAbs
theorem made_of {t m : Int} (hm : m ≠ 0) : Made t m (t.fdiv (sg t m)) (m.fdiv (sg t m)) := by
  have hs := sg_ne (t := t) hm
  have e1 := fdiv_mul hs (sg_dvd_left t m)
  have e2 := fdiv_mul hs (sg_dvd_right t m)
  have hg : 0 < Int.gcd t m := Int.gcd_pos_of_ne_zero_right t hm
  generalize ha : t.fdiv (sg t m) = a at *
  generalize hb : m.fdiv (sg t m) = b at *
  have n1 : a.natAbs * Int.gcd t m = t.natAbs := by rw [← natAbs_sg, ← Int.natAbs_mul, e1]
  have n2 : b.natAbs * Int.gcd t m = m.natAbs := by rw [← natAbs_sg, ← Int.natAbs_mul, e2]
  refine ⟨?_, ?_, ?_, ?_, ?_⟩
  · -- sign
    unfold sg at e2
    by_cases h : m < 0
    · rw [if_pos h, Int.mul_neg] at e2
      rcases Int.lt_or_le 0 b with q | q
      · exact q
      · have := Int.mul_nonpos_of_nonpos_of_nonneg q (show (0 : Int) ≤ ((Int.gcd t m : Nat) : Int) by omega)
        omega
    · rw [if_neg h] at e2
      rcases Int.lt_or_le 0 b with q | q
      · exact q
      · have := Int.mul_nonpos_of_nonpos_of_nonneg q (show (0 : Int) ≤ ((Int.gcd t m : Nat) : Int) by omega)
        omega
  · have q : Int.gcd a b * Int.gcd t m = Int.gcd t m := by
      have h := Nat.gcd_mul_right a.natAbs (Int.gcd t m) b.natAbs
      rw [n1, n2] at h
      exact h.symm
    exact Nat.eq_of_mul_eq_mul_right hg (by rw [q, Nat.one_mul])
  · have q : a * m = a * (b * sg t m) := by rw [e2]
    have q2 : t * b = a * sg t m * b := by rw [e1]
    rw [q, q2, Int.mul_assoc, Int.mul_comm b]
  · rw [← n1]; exact Nat.le_mul_of_pos_right _ hg
  · rw [← n2]; exact Nat.le_mul_of_pos_right _ hg
theorem Bd.of_natAbs {n : Nat} {x y : Int} (h : x.natAbs ≤ y.natAbs) (g : Bd n y) : Bd n x := Nat.lt_of_le_of_lt h g
theorem natAbs_abs (i : Int) : (if i < 0 then -i else i) = ((i.natAbs : Nat) : Int) := by split <;> omega
end My

namespace L2
open PySem PySem.Spec PyProof.Rows


abbrev Mid (x : Int) : Prop := My.Bd 4000 x
section
variable {X : Cx}
theorem op_mulB : OpR X (binaryOp .Mult) (rI (fun i j => Mid i ∧ Mid j) fun i j => .int (i * j)) := opI fun _ _ _ _ _ _ _ hc q =>
  mul_int q (IntMulOk.of_le (PySem.intBits_le_iff.mpr hc.1) (PySem.intBits_le_iff.mpr hc.2) (by decide))
theorem log2_of_Mid {j : Int} (h : Mid j) : j.natAbs.log2 < 9000 := by
  by_cases h0 : j.natAbs = 0
  · rw [h0]; decide +kernel
  · have h1 : j.natAbs.log2 < 4000 := (Nat.log2_lt h0).mpr h
    omega
theorem op_fdivB : OpR X (binaryOp .FloorDiv) (rI (fun _ j => 0 < j ∧ Mid j) fun i j => .int (i / j)) := opI fun i j _ _ _ _ _ hc q => by
  have h1 : (0 : Int) < j := hc.1
  exact floordiv_int (by omega) (by rw [Int.fdiv_eq_ediv_of_nonneg i (by omega)]; exact q) (.inl (PyProof.noPylong_of_log2 (log2_of_Mid hc.2)))
end

theorem bt_int : bootBuiltins "int" = some (.type "int") := by decide +kernel
theorem bt_bool : bootBuiltins "bool" = some (.type "bool") := by decide +kernel
theorem bt_str : bootBuiltins "str" = some (.type "str") := by decide +kernel
theorem bt_tuple : bootBuiltins "tuple" = some (.type "tuple") := by decide +kernel
theorem bt_abs : bootBuiltins "abs" = some (.builtin "abs") := by decide +kernel
theorem bt_isinstance : bootBuiltins "isinstance" = some (.builtin "isinstance") := by decide +kernel
inductive Tg where
  | non | bl | int | str | tup | lst | dic
noncomputable def tgIs (K : PySem.W.Frag) (H : Hp) : V → Tg → Prop
  | .non, .non => True
  | .bl _, .bl => True
  | .int _, .int => True
  | .str _, .str => True
  | .ref a, .tup => ∃ xs, SqT K H a xs
  | .ref a, .lst => ∃ xs, SqL K H a xs
  | .ref a, .dic => ∃ kvs, H a = some (.dK kvs)
  | _, _ => False
noncomputable def Tg.isInt : Tg → Bool
  | .int => true | .bl => true | _ => false
noncomputable def Tg.isBool : Tg → Bool
  | .bl => true | _ => false
noncomputable def Tg.isStr : Tg → Bool
  | .str => true | _ => false
noncomputable def Tg.isTup : Tg → Bool
  | .tup => true | _ => false
noncomputable def rIsi (K : PySem.W.Frag) (n : String) (f : Tg → Bool) : List V → Hp → VK → Prop := fun xs H Q => ∃ x g, xs = [x, .ty n] ∧ tgIs K H x g ∧ Q (.bl (f g)) H
section
variable {X : Cx}
theorem isi_of {n : String} {f : Tg → Bool}
    (h1 : ∀ {A : Around} {E : Value → Shared → Prop} {s : Shared} {Q : Value → Shared → Prop}, (∀ t, Q (.bool (f .non)) { s with toks := t }) → wpAny (model X.prog X.w) A (call (.builtin "isinstance") [.none, .type n]) Q E s)
    (h2 : ∀ {A : Around} {E : Value → Shared → Prop} {s : Shared} {Q : Value → Shared → Prop} {b : Bool}, (∀ t, Q (.bool (f .bl)) { s with toks := t }) → wpAny (model X.prog X.w) A (call (.builtin "isinstance") [.bool b, .type n]) Q E s)
    (h3 : ∀ {A : Around} {E : Value → Shared → Prop} {s : Shared} {Q : Value → Shared → Prop} {b : Int} {u : Tok}, (∀ t, Q (.bool (f .int)) { s with toks := t }) → wpAny (model X.prog X.w) A (call (.builtin "isinstance") [.int b u, .type n]) Q E s)
    (h4 : ∀ {A : Around} {E : Value → Shared → Prop} {s : Shared} {Q : Value → Shared → Prop} {b : Str} {u : Tok}, (∀ t, Q (.bool (f .str)) { s with toks := t }) → wpAny (model X.prog X.w) A (call (.builtin "isinstance") [.str b u, .type n]) Q E s)
    (h5 : ∀ {A : Around} {E : Value → Shared → Prop} {s : Shared} {Q : Value → Shared → Prop} {a : Addr} {o : Obj}, s.heap.get? a = some o → o.cls = .type "tuple" → (∀ t, Q (.bool (f .tup)) { s with toks := t }) → wpAny (model X.prog X.w) A (call (.builtin "isinstance") [.ref a, .type n]) Q E s)
    (h6 : ∀ {A : Around} {E : Value → Shared → Prop} {s : Shared} {Q : Value → Shared → Prop} {a : Addr} {o : Obj}, s.heap.get? a = some o → o.cls = .type "list" → (∀ t, Q (.bool (f .lst)) { s with toks := t }) → wpAny (model X.prog X.w) A (call (.builtin "isinstance") [.ref a, .type n]) Q E s)
    (h7 : ∀ {A : Around} {E : Value → Shared → Prop} {s : Shared} {Q : Value → Shared → Prop} {a : Addr} {o : Obj}, s.heap.get? a = some o → o.cls = .type "dict" → (∀ t, Q (.bool (f .dic)) { s with toks := t }) → wpAny (model X.prog X.w) A (call (.builtin "isinstance") [.ref a, .type n]) Q E s) :
    CallR X (.builtin "isinstance") (rIsi X.K n f) := by
  intro pins s σ H xs us Q I r h
  obtain ⟨x, g, rfl, e, q⟩ := h
  obtain ⟨u, w, rfl, rx, rw'⟩ := vals2 r
  cases rw'
  have fin : ∀ k : Bool, Q (.bl k) H → ∀ t, EP X pins σ Q (.bool k) { s with toks := t } := fun k q t => ⟨.bl k, H, I.tok t, rfl, q⟩
  cases x with
  | non => cases g <;> first | exact (show False from e).elim | (cases rx; exact h1 (fin _ q))
  | bl b => cases g <;> first | exact (show False from e).elim | (cases rx; exact h2 (fin _ q))
  | int i => cases g <;> first | exact (show False from e).elim | (obtain ⟨t, rfl⟩ := rx; exact h3 (fin _ q))
  | str y => cases g <;> first | exact (show False from e).elim | (obtain ⟨t, rfl⟩ := rx; exact h4 (fin _ q))
  | ref a =>
    cases rx
    cases g with
    | tup =>
      obtain ⟨xs, hx⟩ := (show ∃ xs, SqT X.K H a xs from e)
      obtain ⟨its, _, ⟨o, ho, hc, _⟩, _⟩ := I.tuple hx
      exact h5 ho hc (fin _ q)
    | lst =>
      obtain ⟨xs, hx⟩ := (show ∃ xs, SqL X.K H a xs from e)
      obtain ⟨its, _, ⟨o, n, ho, hc, _⟩, _⟩ := I.list hx
      exact h6 ho hc (fin _ q)
    | dic =>
      obtain ⟨kvs, hx⟩ := (show ∃ kvs, H a = some (.dK kvs) from e)
      obtain ⟨_, _, vs, _, o, es, ep, ho, hc, _⟩ := (show ObjOk X.prog X.w H s.heap a (.dK kvs) from I.hok a _ hx)
      exact h7 ho hc.1 (fin _ q)
    | non => exact (show False from e).elim
    | bl => exact (show False from e).elim
    | int => exact (show False from e).elim
    | str => exact (show False from e).elim
  | _ => exact (show False from e).elim
theorem isi_int : CallR X (.builtin "isinstance") (rIsi X.K "int" Tg.isInt) := isi_of (fun q => IsiPair.NoneType_int (q _)) (fun q => IsiPair.bool_int (q _)) (fun q => IsiPair.int_int (q _)) (fun q => IsiPair.str_int (q _))
  (fun ho hc q => call_isinstance (isinstance_false_tuple (by decide) PySem.F.isi_meta_int PySem.F.sub_tuple_int) ⟨⟨_, ho, hc⟩, q _⟩) (fun ho hc q => call_isinstance (isinstance_false_list (by decide) PySem.F.isi_meta_int PySem.F.sub_list_int) ⟨⟨_, ho, hc⟩, q _⟩) (fun ho hc q => call_isinstance (isinstance_false_dict (by decide) PySem.F.isi_meta_int PySem.F.sub_dict_int) ⟨⟨_, ho, hc⟩, q _⟩)
theorem isi_bool : CallR X (.builtin "isinstance") (rIsi X.K "bool" Tg.isBool) := isi_of (fun q => IsiPair.NoneType_bool (q _)) (fun q => IsiPair.bool_bool (q _)) (fun q => IsiPair.int_bool (q _)) (fun q => IsiPair.str_bool (q _))
  (fun ho hc q => call_isinstance (isinstance_false_tuple (by decide) PySem.F.isi_meta_bool PySem.F.sub_tuple_bool) ⟨⟨_, ho, hc⟩, q _⟩) (fun ho hc q => call_isinstance (isinstance_false_list (by decide) PySem.F.isi_meta_bool PySem.F.sub_list_bool) ⟨⟨_, ho, hc⟩, q _⟩) (fun ho hc q => call_isinstance (isinstance_false_dict (by decide) PySem.F.isi_meta_bool PySem.F.sub_dict_bool) ⟨⟨_, ho, hc⟩, q _⟩)
theorem isi_str : CallR X (.builtin "isinstance") (rIsi X.K "str" Tg.isStr) := isi_of (fun q => IsiPair.NoneType_str (q _)) (fun q => IsiPair.bool_str (q _)) (fun q => IsiPair.int_str (q _)) (fun q => IsiPair.str_str (q _))
  (fun ho hc q => call_isinstance (isinstance_false_tuple (by decide) PySem.F.isi_meta_str PySem.F.sub_tuple_str) ⟨⟨_, ho, hc⟩, q _⟩) (fun ho hc q => call_isinstance (isinstance_false_list (by decide) PySem.F.isi_meta_str PySem.F.sub_list_str) ⟨⟨_, ho, hc⟩, q _⟩) (fun ho hc q => call_isinstance (isinstance_false_dict (by decide) PySem.F.isi_meta_str PySem.F.sub_dict_str) ⟨⟨_, ho, hc⟩, q _⟩)
theorem isi_tuple : CallR X (.builtin "isinstance") (rIsi X.K "tuple" Tg.isTup) := isi_of (fun q => IsiPair.NoneType_tuple (q _)) (fun q => IsiPair.bool_tuple (q _)) (fun q => IsiPair.int_tuple (q _)) (fun q => IsiPair.str_tuple (q _))
  (fun ho hc q => call_isinstance (isinstance_true (Tx := "tuple") PySem.F.isi_meta_tuple PySem.F.sub_tuple_tuple) ⟨⟨_, ho, hc⟩, q _⟩) (fun ho hc q => call_isinstance (isinstance_false_list (by decide) PySem.F.isi_meta_tuple PySem.F.sub_list_tuple) ⟨⟨_, ho, hc⟩, q _⟩) (fun ho hc q => call_isinstance (isinstance_false_dict (by decide) PySem.F.isi_meta_tuple PySem.F.sub_dict_tuple) ⟨⟨_, ho, hc⟩, q _⟩)
theorem pe_isi {e : Expr} {te : TE} {n : Str} {T : String} {f : Tg → Bool} {p p2 pos : Pos} (hc : CallR X (.builtin "isinstance") (rIsi X.K T f)) (hg : Gl X "isinstance") (hg2 : Gl X n) (hm : X.mg "isinstance" = none) (hm2 : X.mg n = none) (hb : bootBuiltins n = some (.type T)) (he : PE X e te)
    (hn : n ≠ "__name__" := by decide) (hd : (n == ("__debug__" : Str)) = false := by decide)
    (hs1 : starEach [e, .Name n p2] X.env = (false, eval e X.env) :: starEach [.Name n p2] X.env := by rfl) (hs2 : starEach [.Name n p2] X.env = (false, eval (.Name n p2) X.env) :: starEach [] X.env := by rfl)
    (hpl : (backTo pos (starEach [.Name n p2] X.env)).any (·.1) = false := by rfl) :
    PE X (.Call (.Name "isinstance" p) [e, .Name n p2] [] pos) (tCB (rIsi X.K T f) (tCons te (tCons (tC (.ty T)) tNil))) :=
  pe_callB hc hg hm bt_isinstance (pa_cons he (pa_cons (pe_bltn (v := .ty T) hg2 hm2 hb rfl hn hd) pa_nil hs2) hs1) (by decide) (by decide) hs1 hpl
end

section
variable {X : Cx} {tg : Expr}
end
theorem Same.new {H : Hp} {p : Addr} (h : H p = none) (o : HO) : Same H (upd H p o) := fun b u q => by rw [upd_ne (ne_of_none q h)]; exact q
theorem Same.tup {K : PySem.W.Frag} {H H' : Hp} {a : Addr} {xs : List V} (e : Same H H') (h : SqT K H a xs) : SqT K H' a xs := by
  rcases h with (h | ⟨o, h⟩) | h
  · exact .inl (.inl (e _ _ h))
  · exact .inl (.inr ⟨o, e _ _ h⟩)
  · exact .inr h
structure FunD (K : PySem.W.Frag) (x qual : Str) (st : Stmt) (f : Addr) (fd : FuncData) : Prop where
  ex : ∃ (oc : Value) (od : Option Addr) (dV kV doc pm : Value) (an : Option Addr) (cdv ct : Value) (osl : Array (Option Value)),
    fd = PySem.W.fnOf x qual (defArgs st) (defBody st) (defScope st) dV kV doc pm an cdv ct ∧ K.lookup f = some ⟨oc, od, .func fd, osl⟩ ∧ PySem.W.codeIn K cdv qual = true
  kp : PySem.W.keepIn K (.ref f) = true
theorem fun_mkD {K : PySem.W.Frag} {x qual : Str} {st : Stmt} {f : Addr} {oc : Value} {od an : Option Addr} {osl : Array (Option Value)} {dV kV doc pm cdv ct : Value} (l : K.lookup f = some ⟨oc, od, .func (PySem.W.fnOf x qual (defArgs st) (defBody st) (defScope st) dV kV doc pm an cdv ct), osl⟩)
    (c : PySem.W.codeIn K cdv qual = true) (k : PySem.W.keepIn K (.ref f) = true) : FunD K x qual st f (PySem.W.fnOf x qual (defArgs st) (defBody st) (defScope st) dV kV doc pm an cdv ct) := ⟨⟨oc, od, dV, kV, doc, pm, an, cdv, ct, osl, rfl, l, c⟩, k⟩
theorem Fun.toD {K : PySem.W.Frag} {x qual : Str} {st : Stmt} {f : Addr} {fd : FuncData} (F : Fun K x qual st f fd) : FunD K x qual st f fd := by
  obtain ⟨oc, od, kV, doc, pm, an, cdv, ct, osl, e, l, c⟩ := F.ex
  exact ⟨⟨oc, od, .none, kV, doc, pm, an, cdv, ct, osl, e, l, c⟩, F.kp⟩
section
variable {X : Cx}
theorem op_fdivNB : OpR X (binaryOp .FloorDiv) (rI (fun _ j => j ≠ 0 ∧ Mid j) fun i j => .int (i.fdiv j)) := opI fun _ _ _ _ _ _ _ hc q => floordiv_int hc.1 q (.inl (PyProof.noPylong_of_log2 (log2_of_Mid hc.2)))
end
end L2

namespace PySem
theorem Obj.dict_mapFields (o : Obj) (f : Array Value → Array Value) : (Obj.mapFields f o).dict = o.dict := by
  obtain ⟨c, d, dt, sl⟩ := o
  cases dt <;> rfl
noncomputable def Heap.TrX (h base : Heap) (e : Addr) (cls : Value) (dx : Option Addr) (fl : Value) : Prop :=
  ∃ (x : Obj) (vs : Array Value) (T : Addr) (y : Obj) (ts : Array Value), h.get? e = some x ∧ (x.cls = cls ∧ x.dict = dx ∧ (dx = none → vs[2]? = some .none)) ∧ x.data = .fields vs ∧ vs[1]? = some (.ref T) ∧ base.get? T = none ∧ T ≠ e ∧
    h.get? T = some y ∧ y.data = .fields ts ∧ ts[3]? = some fl
noncomputable def Heap.OnX (base : Heap) (l : List Env) (e : Addr) (cls : Value) (dx : Option Addr) (fl : Value) (h : Heap) : Prop := base.StaysIn h ∧ base.get? e = none ∧ h.FunFrames base l ∧ h.TrX base e cls dx fl
abbrev Heap.FlyX (base : Heap) (l : List Env) (e : Addr) (cls : Value) (dx : Option Addr) (h : Heap) : Prop := Heap.OnX base l e cls dx .none h
section
variable {M : Model} {A : Around} {E : Value → Shared → Prop} {s : Shared} {base : Heap} {env : Env} {outer l : List Env} {L e : Addr} {cls : Value} {dx : Option Addr} {Q : Unit → Shared → Prop}
theorem Heap.OnX.there {h : Heap} {fl : Value} (z : Heap.OnX base l e cls dx fl h) : ∃ ob, h.get? e = some ob ∧ ob.cls = cls := by
  obtain ⟨_, _, _, x, _, _, _, _, he, hc, _⟩ := z
  exact ⟨x, he, hc.1⟩
theorem noteX {x : Obj} {vs : Array Value} {head : Value} {more : Bool} (hA : A.frames = some (env :: outer)) (hF : s.heap.FunFrames base (env :: outer)) (hL : env.frame = some L)
    (hx : s.heap.get? e = some x) (hB : base.StaysIn s.heap) (hn : base.get? e = none) (hv : x.data = .fields vs) (h2 : 1 < vs.size) (hc2 : x.dict = none → vs[2]? = some .none)
    (k : ∀ h', Heap.OnX base (env :: outer) e x.cls x.dict (rawInt L) h' → s.heap.UpToSlots h' → Q () { s with heap := h' }) :
    wpAny M A (do let a ← frameOf env; let pl ← entryPlaceOf L more; let b ← EntryCells.newEntry head a .none (rawInt L) .none pl; setField (.ref e) 1 b) Q E s := by
  have out : e ∉ (env :: outer).filterMap (·.frame) := fun z => by
    obtain ⟨_, o, ho, hnf⟩ := hF.mem z
    rw [hx] at ho; cases ho; exact hnf vs hv
  refine wpAny_bind (wpAny_frameOf_fun hA hF hL fun g sg => ?_)
  refine wpAny_bind (wpAny_entryPlaceOf fun pl hpl => ?_)
  unfold EntryCells.newEntry newFields
  refine wpAny_bind (wpAny_newObj_type ?_ (hpl.sizeOk5 _ _ _ _ _))
  have x1 : g.get? e = some x := (sg.2.1 e out).trans hx
  have B1 : base.StaysIn g := fun b o q => (sg.2.1 b fun z => by rw [(hF.mem z).1] at q; cases q).trans (hB b o q)
  have x2 := Heap.get?_push_of_some (h := g) { cls := .type "traceback", dict := none, data := .fields ([head, .ref L, .none, rawInt L, .none] ++ (if pl.isEmpty then List.replicate 6 Value.none else pl)).toArray } x1
  refine wpAny_setField x2 hv h2 (k _ ?_ ?_)
  all_goals have neT : g.objs.size ≠ e := Nat.ne_of_gt (Heap.lt_size x1)
  all_goals have kp : ∀ b o, b ≠ e → g.get? b = some o → ((g.push { cls := .type "traceback", dict := none, data := .fields ([head, .ref L, .none, rawInt L, .none] ++ (if pl.isEmpty then List.replicate 6 Value.none else pl)).toArray }).update e (Obj.mapFields (·.setIfInBounds 1 (Value.ref g.objs.size)))).get? b = some o := fun b o hb q => (Heap.get?_update_other _ _ (Ne.symm hb)).trans (Heap.get?_push_of_some _ q)
  all_goals have nr : ∀ b o, s.heap.get? b = some o → (∀ vs, o.data ≠ .fields vs) → b ≠ e := fun b o q hnf z => by rw [z, hx] at q; cases q; exact hnf vs hv
  · have hv3 := Obj.data_mapFields hv (·.setIfInBounds 1 (Value.ref g.objs.size))
    refine ⟨fun b o q => kp b o (fun z => by rw [z, hn] at q; cases q) (B1 b o q), hn, hF.of_keeps fun b o q hnf => ?_, ?_⟩
    · obtain ⟨sl, q2⟩ := sg.2.2 b o q
      exact ⟨_, kp b _ (nr b o q hnf) q2, rfl⟩
    · exact ⟨_, _, g.objs.size, _, _, Heap.get?_update_self _ x2 (Obj.isFreed_of_fields hv3), ⟨Obj.cls_mapFields _ _, Obj.dict_mapFields _ _, fun z => by rw [Array.getElem?_setIfInBounds_ne (by decide)]; exact hc2 z⟩, hv3, by simp [h2], B1.fresh, neT, (Heap.get?_update_other _ _ (Ne.symm neT)).trans (Heap.get?_push_size g rfl), rfl, by
        first | (simp; done) | (rcases hpl with rfl | ⟨_, _, _, _, _, _, _, rfl⟩ <;> simp)⟩
  · intro b o q hnf
    obtain ⟨sl, q2⟩ := sg.2.2 b o q
    exact ⟨sl, kp b _ (nr b o q hnf) q2⟩
theorem looksX (hA : A.frames = some (env :: outer)) (hL : env.frame = some L) (z : Heap.FlyX base (env :: outer) e cls dx s.heap)
    (k : ∀ h', Heap.OnX base (env :: outer) e cls dx (rawInt L) h' → s.heap.UpToSlots h' → Q () { s with heap := h' }) : wpAny M A (noteFrame (.ref e) env) Q E s := by
  obtain ⟨hB, hn, hF, x, vs, T, y, ts, hx, ⟨hc, hd, hc2⟩, hv, h1, nT, Te, hT, hy, h3⟩ := z
  subst hc hd
  unfold noteFrame
  simp only [hL]
  refine wpAny_bind (wpAny_field hx hv h1 ?_)
  rw [if_pos (show (Value.ref T != Value.none) = true from by simp)]
  refine wpAny_bind (wpAny_field hT hy h3 ?_)
  rw [if_neg (show ¬ ((Value.none == rawInt L) = true) from by simp [rawInt])]
  refine wpAny_bind (wpAny_setField hT hy (Array.getElem?_eq_some_iff.mp h3).1 ?_)
  have ot : ∀ b, b ≠ T → (s.heap.update T (Obj.mapFields (·.setIfInBounds 3 Value.none))).get? b = s.heap.get? b := fun b hb => Heap.get?_update_other _ _ (Ne.symm hb)
  have nr : ∀ b o, s.heap.get? b = some o → (∀ vs, o.data ≠ .fields vs) → b ≠ T := fun b o q hnf z => by rw [z, hT] at q; cases q; exact hnf ts hy
  exact noteX (s := { s with heap := s.heap.update T (Obj.mapFields (·.setIfInBounds 3 Value.none)) }) hA (hF.of_keeps fun b o q hnf => ⟨o, (ot b (nr b o q hnf)).trans q, rfl⟩) hL ((ot e (Ne.symm Te)).trans hx)
    (fun b o q => (ot b fun z => by rw [z, nT] at q; cases q).trans (hB b o q)) hn hv (Array.getElem?_eq_some_iff.mp h1).1 hc2 fun h' z us => k h' z fun b o q hnf => us b o ((ot b (nr b o q hnf)).trans q) hnf
theorem landsX {fl : Value} (z : Heap.OnX base l e cls dx fl s.heap) (k : ∀ h', Heap.FlyX base l e cls dx h' → s.heap.UpToSlots h' → Q () { s with heap := h' }) : wpAny M A (setFlight (.ref e) none) Q E s := by
  obtain ⟨hB, hn, hF, x, vs, T, y, ts, hx, hc, hv, h1, nT, Te, hT, hy, h3⟩ := z
  have ot : ∀ b, b ≠ T → (s.heap.update T (Obj.mapFields (·.setIfInBounds 3 ((none : Option Addr).elim Value.none fun f => rawInt f)))).get? b = s.heap.get? b := fun b hb => Heap.get?_update_other _ _ (Ne.symm hb)
  have nr : ∀ b o, s.heap.get? b = some o → (∀ vs, o.data ≠ .fields vs) → b ≠ T := fun b o q hnf z => by rw [z, hT] at q; cases q; exact hnf ts hy
  have sz := (Array.getElem?_eq_some_iff.mp h3).1
  unfold setFlight
  refine wpAny_bind (wpAny_field hx hv h1 ?_)
  rw [if_pos (show (Value.ref T != Value.none) = true from by simp)]
  refine wpAny_setField hT hy sz (k _ ⟨fun b o q => (ot b fun z => by rw [z, nT] at q; cases q).trans (hB b o q), hn, hF.of_keeps fun b o q hnf => ⟨o, (ot b (nr b o q hnf)).trans q, rfl⟩,
    x, vs, T, _, _, (ot e (Ne.symm Te)).trans hx, hc, hv, h1, nT, Te, Heap.get?_update_self _ hT (Obj.isFreed_of_fields (Obj.data_mapFields hy _)), Obj.data_mapFields hy _, by simp [sz]⟩
    fun b o q hnf => ⟨o.slots, (ot b (nr b o q hnf)).trans q⟩)
theorem leavesX (hA : A.frames = some (env :: outer)) (hL : env.frame = some L) (z : Heap.FlyX base (env :: outer) e cls dx s.heap)
    (k : ∀ h', Heap.FlyX base outer e cls dx h' → s.heap.UpToSlots h' → Q () { s with heap := h' }) : wpAny M A (leaving env (.ref e)) Q E s := by
  unfold leaving
  refine wpAny_bind (looksX hA hL z fun h1 z1 u1 => ?_)
  refine landsX (s := { s with heap := h1 }) z1 fun h2 z2 u2 => ?_
  obtain ⟨k1, k2, ⟨_, _, k3⟩, k4⟩ := z2
  exact k h2 ⟨k1, k2, k3, k4⟩ (u1.trans u2)
theorem leavesNewX {x : Obj} {vs : Array Value} (hA : A.frames = some (env :: outer)) (hL : env.frame = some L) (hB : base.StaysIn s.heap) (hF : s.heap.FunFrames base (env :: outer)) (hx : s.heap.get? e = some x) (hn : base.get? e = none) (hv : x.data = .fields vs) (h1 : vs[1]? = some .none) (hc2 : x.dict = none → vs[2]? = some .none)
    (k : ∀ h', Heap.FlyX base outer e x.cls x.dict h' → s.heap.UpToSlots h' → Q () { s with heap := h' }) : wpAny M A (leaving env (.ref e)) Q E s := by
  unfold leaving noteFrame
  simp only [hL]
  refine wpAny_bind (wpAny_bind (wpAny_field hx hv h1 ?_))
  rw [if_neg (by decide)]
  refine noteX hA hF hL hx hB hn hv (Array.getElem?_eq_some_iff.mp h1).1 hc2 fun g1 z1 u1 => ?_
  refine landsX (s := { s with heap := g1 }) z1 fun g2 z2 u2 => ?_
  obtain ⟨k1, k2, ⟨_, _, k3⟩, k4⟩ := z2
  exact k g2 ⟨k1, k2, k3, k4⟩ (u1.trans u2)
end
end PySem
namespace L2
open PySem PySem.Spec PyProof.Rows

noncomputable def CXe (P : Program) (w : World) : CXT := fun outer H s E e s' => ∃ (a C : Addr) (dx : Option Addr) (H' : Hp) (B : Heap),
  e = .ref a ∧ s'.os = s.os ∧ AllBare s'.gens ∧ Un (frs outer) [] H H' s.heap s'.heap ∧ HOk P w H' B ∧ Heap.FlyX B outer a (.ref C) dx s'.heap ∧
  (∀ b o, s.heap.get? b = some o → H b = none → b ∉ frs outer → B.get? b = some o) ∧ (∀ b o, s.heap.get? b = some o → b ∉ frs outer → ∃ o', B.get? b = some o') ∧ E (.ref C) dx H'

theorem passE0 {P : Program} {w : World} {X : Cx} : Passes (CXe P w) X E0 := fun _ _ _ _ _ _ _ h => by
  obtain ⟨_, _, _, _, _, _, _, _, _, _, _, _, _, q⟩ := h
  exact q.elim

section
variable {P : Program} {w : World} {K : PySem.W.Frag} {mg : Str → Option Value} {base : Heap} {N : List Str} {qual : Str} {scope : Scope} {f : Addr} {cd : Value} {A : Around} {outer : List Env} {s : Shared} {H : Hp} {E : XK}
  {pins : List (Addr × Obj)} {σ : St} {H1 : Hp} {s1 : Shared}
theorem frs_own {CX : CXT} {b : Addr} : b ∈ frs (cxOf CX P w K mg base N qual scope f cd A outer s H E).stack ↔ b = s.heap.objs.size ∨ b ∈ frs outer := by
  show b ∈ (envOfC qual scope s.heap.objs.size f cd :: outer).filterMap (·.frame) ↔ _
  rw [List.filterMap_cons]
  exact List.mem_cons
theorem raises_cx {h' : Heap} {e C : Addr} {vs : List Value} (I : Inv (cxOf (CXe P w) P w K mg base N qual scope f cd A outer s H E) pins σ H1 s1) (hx : Heap.MadeExcOf s1.heap h' e (.ref C) vs) (q : E (.ref C) none H1) :
    (cxOf (CXe P w) P w K mg base N qual scope f cd A outer s H E).xe (.ref e) { s1 with heap := h' } := by
  have hin : ∀ env ∈ (cxOf (CXe P w) P w K mg base N qual scope f cd A outer s H E).stack, ∀ b, env.frame = some b → b ∈ frs (cxOf (CXe P w) P w K mg base N qual scope f cd A outer s H E).stack := fun env he b hb => List.mem_filterMap.mpr ⟨env, he, hb⟩
  have toB : ∀ b o, s1.heap.get? b = some o → b ∉ frs (cxOf (CXe P w) P w K mg base N qual scope f cd A outer s H E).stack → (PySem.W.hideAll s1.heap (frs (cxOf (CXe P w) P w K mg base N qual scope f cd A outer s H E).stack)).get? b = some o := fun b o e n => PySem.W.hideAll_get _ e n
  have hl := PySem.W.funFrames_hide (as := frs (cxOf (CXe P w) P w K mg base N qual scope f cd A outer s H E).stack) I.stack hin
  have nstk : ∀ b o, s.heap.get? b = some o → b ∉ frs outer → b ∉ frs (cxOf (CXe P w) P w K mg base N qual scope f cd A outer s H E).stack := fun b o e n z => by
    rcases frs_own.mp z with z | z
    · rw [z] at e
      exact absurd (Heap.lt_size e) (Nat.lt_irrefl _)
    · exact n z
  have hB : HOk P w H1 (PySem.W.hideAll s1.heap (frs (cxOf (CXe P w) P w K mg base N qual scope f cd A outer s H E).stack)) := fun b u eu => (I.hok b u eu).stay (fun c v hc q => toB c v q fun z => by
    have n := I.stkFree c z
    rcases hc with hc | hc
    · rw [hc, eu] at n; cases n
    · rw [hc] at n; cases n) (fun _ q => q) fun _ _ q => q
  obtain ⟨tt, hmade, _, _⟩ := hx.there
  have fresh : (PySem.W.hideAll s1.heap (frs (cxOf (CXe P w) P w K mg base N qual scope f cd A outer s H E).stack)).get? e = none := by
    cases z : (PySem.W.hideAll s1.heap (frs (cxOf (CXe P w) P w K mg base N qual scope f cd A outer s H E).stack)).get? e with
    | none => rfl
    | some o => have := PySem.W.of_hideAll _ z; rw [hx.new] at this; cases this
  refine leavesNewX (base := PySem.W.hideAll s1.heap (frs (cxOf (CXe P w) P w K mg base N qual scope f cd A outer s H E).stack)) (s := { s1 with heap := h' }) I.ok.frames rfl (fun b o q => hx.keeps b o (PySem.W.of_hideAll _ q)) (hl.of_keeps fun b o q _ => ⟨o, hx.keeps b o q, rfl⟩) hmade fresh rfl rfl (fun _ => rfl) fun h2 fl us => ?_
  refine ⟨e, C, none, H1, _, rfl, I.os, I.bare, ?_, hB, fl, ?_, ?_, q⟩
  · have cs : ∀ b ∈ frs outer, ∀ o, s1.heap.get? b = some o → ∃ sl, h2.get? b = some { o with slots := sl } := fun b hb o e => by
      obtain ⟨_, o', e', hd⟩ := I.funs.mem hb
      rw [e] at e'; cases e'
      exact us b o (hx.keeps b o e) hd
    exact {
      keep := fun b o e n hb _ => fl.1 b o (toB b o (I.base.keep b o e n hb (by exact fun z => nomatch z)) (nstk b o e hb))
      slot := fun b o e n hb _ => by
        obtain ⟨sl, e1⟩ := I.base.slot b o e n hb (by exact fun z => nomatch z)
        obtain ⟨sl', e2⟩ := cs b hb _ e1
        exact ⟨sl', e2⟩
      free := fun b o e n _ => I.base.free b o e n (by exact fun z => nomatch z)
      there := fun b o e _ => by
        obtain ⟨o', e1⟩ := I.base.there b o e (by exact fun z => nomatch z)
        by_cases hb : b ∈ frs outer
        · obtain ⟨sl, e2⟩ := cs b hb _ e1
          exact ⟨_, e2⟩
        · exact ⟨o', fl.1 b o' (toB b o' e1 (nstk b o e hb))⟩
      tups := I.base.tups
      frzs := I.base.frzs
      tbls := I.base.tbls }
  · exact fun b o e n hb => toB b o (I.base.keep b o e n hb (by exact fun z => nomatch z)) (nstk b o e hb)
  · intro b o e hb
    obtain ⟨o', e1⟩ := I.base.there b o e (by exact fun z => nomatch z)
    exact ⟨o', toB b o' e1 (nstk b o e hb)⟩
theorem passes_on : Passes (CXe P w) (cxOf (CXe P w) P w K mg base N qual scope f cd A outer s H E) E := by
  intro pins σ H1 s1 e s' I cx
  obtain ⟨a, C, dx, H', B, rfl, os, bare, un, hB, fl, kU, kT, q⟩ := cx
  have nstk : ∀ b o, s.heap.get? b = some o → b ∉ frs outer → b ∉ frs (cxOf (CXe P w) P w K mg base N qual scope f cd A outer s H E).stack := fun b o e n z => by
    rcases frs_own.mp z with z | z
    · rw [z] at e
      exact absurd (Heap.lt_size e) (Nat.lt_irrefl _)
    · exact n z
  have sub : ∀ b ∈ frs outer, b ∈ frs (cxOf (CXe P w) P w K mg base N qual scope f cd A outer s H E).stack := fun b hb => frs_own.mpr (.inr hb)
  have ff : s'.heap.FunFrames B (cxOf (CXe P w) P w K mg base N qual scope f cd A outer s H E).stack := fl.2.2.1
  refine leavesX (s := s') I.ok.frames rfl fl fun h2 fl2 us => ?_
  have cs : ∀ b ∈ frs outer, ∀ o, s'.heap.get? b = some o → ∃ sl, h2.get? b = some { o with slots := sl } := fun b hb o e => by
    obtain ⟨_, o', e', hd⟩ := ff.mem (sub b hb)
    rw [e] at e'; cases e'
    exact us b o e hd
  have no : ∀ b : Addr, b ∉ ([] : List Addr) := fun b z => nomatch z
  refine ⟨a, C, dx, H', B, rfl, os.trans I.os, bare, ?_, hB, fl2, ?_, ?_, q⟩
  · exact {
      keep := fun b o e n hb _ => fl2.1 b o (kU b o (I.base.keep b o e n hb (no b)) (I.base.free b o e n (no b)) (nstk b o e hb))
      slot := fun b o e n hb _ => by
        obtain ⟨sl, e1⟩ := I.base.slot b o e n hb (no b)
        obtain ⟨sl', e2⟩ := un.slot b _ e1 (I.base.free b o e n (no b)) (sub b hb) (no b)
        obtain ⟨sl'', e3⟩ := cs b hb _ e2
        exact ⟨sl'', e3⟩
      free := fun b o e n _ => by
        obtain ⟨o', e1⟩ := I.base.there b o e (no b)
        exact un.free b o' e1 (I.base.free b o e n (no b)) (no b)
      there := fun b o e _ => by
        obtain ⟨o1, e1⟩ := I.base.there b o e (no b)
        by_cases hb : b ∈ frs outer
        · obtain ⟨o2, e2⟩ := un.there b o1 e1 (no b)
          obtain ⟨sl, e3⟩ := cs b hb _ e2
          exact ⟨_, e3⟩
        · obtain ⟨o2, e2⟩ := kT b o1 e1 (nstk b o e hb)
          exact ⟨o2, fl2.1 b o2 e2⟩
      tups := fun b xs z => un.tups b xs (I.base.tups b xs z)
      frzs := fun b o u z => un.frzs b o u (I.base.frzs b o u z)
      tbls := fun b ps z => by
        obtain ⟨m1, e1⟩ := I.base.tbls b ps z
        obtain ⟨m2, e2⟩ := un.tbls b _ e1
        exact ⟨m1 ++ m2, by rw [e2, Array.append_assoc]⟩ }
  · exact fun b o e n hb => kU b o (I.base.keep b o e n hb (no b)) (I.base.free b o e n (no b)) (nstk b o e hb)
  · intro b o e hb
    obtain ⟨o1, e1⟩ := I.base.there b o e (no b)
    exact kT b o1 e1 (nstk b o e hb)
theorem FunD.okE {x qual : Str} {st : Stmt} {f : Addr} {fd : FuncData} {N ps : List Str} {k : Nat} {sp : Sp} (F : FunD K x qual st f fd) (S : FnScope N ps (defScope st)) (len : ∀ vs H Q E, sp vs H Q E → vs.length = ps.length)
    (hbody : ∀ (cdv : Value) (A : Around) (outer : List Env) (s : Shared) (H : Hp) (vs : List V) (Q : VK) (E : XK), Room k (A.deeper (envOfC qual (defScope st) s.heap.objs.size f cdv)) → sp vs H Q E →
      ∃ t, PSs (cxOf (CXe P w) P w K mg base N qual (defScope st) f cdv A outer s H E) (defBody st) t ∧ t { nx := fun _ H' => Q .non H', rt := Q } (start N vs) H) : FnOk P w K mg base (CXe P w) (k + 1) f fd ps sp := by
  obtain ⟨oc, od, dV, kV, doc, pm, an, cdv, ct, osl, rfl, lk, hcd⟩ := F.ex
  exact fn_of lk hcd S len fun A outer s H vs Q E hr hsp => hbody cdv A outer s H vs Q E hr hsp
end

abbrev bmVE : List Value := [.type "ValueError", .type "Exception", .type "BaseException", .type "object"]
theorem topRead_any {p : Program} {mg mb : Str → Option Value} {h : Heap} (g : h.Ns mainGlobals mg) (b : h.Ns builtinsNs mb) (nl : h.NoLimit) (bl : ∀ x : Str, x ≠ "__name__" → mb x = bootBuiltins x) :
    ∃ loose, PySem.W.TopRead p loose mg mb h := by
  obtain ⟨o, es, ep, ho, hd, hk, hm⟩ := id g
  refine ⟨es.toList.filterMap (fun (e : DictEntry) => match e.key with | .str n _ => some n | _ => none), ⟨g, b, nl, bl, fun x _ hx _ _ _ => ?_⟩⟩
  rw [← hm x]
  unfold nsFind findBy
  rw [Option.map_eq_none_iff, Array.find?_eq_none]
  intro e he hs
  obtain ⟨n, t, hn⟩ := hk e he
  apply hx
  refine List.mem_filterMap.mpr ⟨e, Array.mem_toList_iff.mpr he, ?_⟩
  rw [hn] at hs ⊢
  have e2 : n = x := by simpa [Value.isStr] using hs
  rw [e2]
noncomputable def tRaise (C : Addr) (E : XK) (t : TA) : TS := fun _ σ H => t σ H fun vs H1 => vs.length ≤ sizeLine ∧ E (.ref C) none H1
noncomputable def Raises (X : Cx) (C : Addr) (E : XK) : Prop := ∀ (pins : List (Addr × Obj)) (σ : St) (H : Hp) (s : Shared) (h' : Heap) (e : Addr) (vs : List Value), Inv X pins σ H s → Heap.MadeExcOf s.heap h' e (.ref C) vs → E (.ref C) none H → X.xe (.ref e) { s with heap := h' }
theorem raisesE {P : Program} {w : World} {K : PySem.W.Frag} {mg : Str → Option Value} {base : Heap} {N : List Str} {qual : Str} {scope : Scope} {f C : Addr} {cd : Value} {A : Around} {outer : List Env} {s : Shared} {H : Hp} {E : XK} :
    Raises (cxOf (CXe P w) P w K mg base N qual scope f cd A outer s H E) C E := fun _ _ _ _ _ _ _ I me q => raises_cx I me q
section
variable {X : Cx} {E : XK} {x : Str} {np cpos pos : Pos} {e0 : Expr} {es : List Expr} {t : TA} {C : Addr}
theorem ps_raise (hc : X.calm = true) (O : PySem.W.excIn X.K C bmVE "ValueError.__new__" = true) (hn : PySem.W.nsIn X.K mainGlobals x = some (some (.ref C))) (hm : X.mg x = some (.ref C)) (hg : Gl X x) (hx : Raises X C E) (ha : PA X (e0 :: es) t)
    (hd : (x == ("__debug__" : Str)) = false := by decide) (he : starEach (e0 :: es) X.env = (false, eval e0 X.env) :: starEach es X.env := by rfl) (hpl : (backTo cpos (starEach es X.env)).any (·.1) = false := by rfl) :
    PS X (.Raise (some (.Call (.Name x np) (e0 :: es) [] cpos)) none pos) (tRaise C E t) := by
  intro pins s σ H D I h
  obtain ⟨mb, b1, b2⟩ := I.mod.blt
  obtain ⟨loose, TR⟩ := topRead_any (p := X.prog) I.mod.glob b1 I.mod.nolimit b2
  have OC := PySem.W.own_of_in I.mod.kin TR hn O
  obtain ⟨tl, Nn, nm, qq, bs, hdct, sn, sub, ab, col, dd, k0, k1, k2, k3, k5, mN, oC, oN, oi, oT⟩ := OC.obj
  have hp2 : (backTo cpos (starEach (e0 :: es) X.env)).any (·.1) = false := by
    rw [he]
    show (false || (backTo cpos (starEach es X.env)).any (·.1)) = false
    rw [hpl]
    rfl
  refine wpAny_Raise_call_subU (C := C) (nm := nm) (q := qq) (N := Nn) (bs := bs) (bm := tl) (hdct := hdct) (sn := sn) (sub := sub) (ab := ab) (col := col) (dd := dd) (k0 := k0) (k1 := k1) (k2 := k2) (k3 := k3) (k5 := k5)
    PySem.F.excBase_ValueError (by decide) PySem.F.excBase_ValueError (mN := mN) (oT.hasType PySem.F.excBase_ValueError.hasBase) (I.ok.hd hc) hp2 oi (ld_glob I hg hm ⟨rfl, ?_⟩ hd)
  have hA := ha cpos pins s σ H _ I h
  rw [he] at hA ⊢
  refine Calls.evalArgs_plain (thn hA fun us s2 ⟨vs, H2, I2, r2, hl, q⟩ => ⟨rfl, by rw [← r2.length]; exact hl, I2.bk _ _ oC, oN.keeps I2.bk, oT.keeps I2.bk, fun h' e me => hx pins σ H2 s2 h' e us I2 me q⟩)
end

noncomputable abbrev Cx.marked (X : Cx) (a : Addr) : Cx := { X with A := X.A.mark (some (.ref a)), calm := false }
section
variable {X : Cx} {pins : List (Addr × Obj)} {σ : St} {H H' : Hp} {s s' : Shared}
theorem Cx.Ok.marked (ok : X.Ok) (a : Addr) : (X.marked a).Ok :=
  ⟨ok.mod, ok.kind, ok.glob, ok.blt, ok.above, ok.inj, ok.has, ok.cab, (fun z => nomatch z), ok.frames, ok.stk, ok.exf, ok.bs, ok.bsz, ok.noex, ok.exfs, ok.funs, ok.frf⟩
theorem Inv.marked (I : Inv X pins σ H s) (a : Addr) : Inv (X.marked a) pins σ H s := ⟨I.ok.marked a, I.os, I.bare, I.base, I.loc, I.cell, I.free, I.freeC, I.pin, I.hok, I.len⟩
theorem Inv.unmarked {a : Addr} (I : Inv (X.marked a) pins σ H s) (ok : X.Ok) : Inv X pins σ H s := ⟨ok, I.os, I.bare, I.base, I.loc, I.cell, I.free, I.freeC, I.pin, I.hok, I.len⟩
theorem SP.unmarked {a : Addr} {D : Ends} {f : Flow} (h : SP (X.marked a) pins D f s') (ok : X.Ok) : SP X pins D f s' := by
  cases f with
  | next => obtain ⟨σ', H', I, q⟩ := h; exact ⟨σ', H', I.unmarked ok, q⟩
  | brk => obtain ⟨σ', H', I, q⟩ := h; exact ⟨σ', H', I.unmarked ok, q⟩
  | cont => obtain ⟨σ', H', I, q⟩ := h; exact ⟨σ', H', I.unmarked ok, q⟩
  | ret u => obtain ⟨v, σ', H', I, r, q⟩ := h; exact ⟨v, σ', H', I.unmarked ok, r, q⟩
theorem Inv.flown {B h2 : Heap} (I : Inv X pins σ H s) (os : s'.os = s.os) (bare : AllBare s'.gens) (un : Un (frs X.stack) [] H H' s.heap s'.heap) (hB : HOk X.prog X.w H' B) (ff : s'.heap.FunFrames B X.stack)
    (kU : ∀ b o, s.heap.get? b = some o → H b = none → b ∉ frs X.stack → B.get? b = some o) (kT : ∀ b o, s.heap.get? b = some o → b ∉ frs X.stack → ∃ o', B.get? b = some o') (st : B.StaysIn h2) (us : s'.heap.UpToSlots h2) :
    Inv X pins σ H' { s' with heap := h2 } := by
  have cs : ∀ b ∈ frs X.stack, ∀ o, s'.heap.get? b = some o → ∃ sl, h2.get? b = some { o with slots := sl } := fun b hb o e => by
    obtain ⟨_, o', e', hd⟩ := ff.mem hb
    rw [e] at e'; cases e'
    exact us b o e hd
  have u2 : Un (frs X.stack) [] H H' s.heap h2 := {
    keep := fun b o e n hb _ => st b o (kU b o e n hb)
    slot := fun b o e n hb hx => by
      obtain ⟨sl, e1⟩ := un.slot b o e n hb hx
      obtain ⟨sl', e2⟩ := cs b hb _ e1
      exact ⟨sl', e2⟩
    free := un.free
    there := fun b o e hx => by
      by_cases hb : b ∈ frs X.stack
      · obtain ⟨o2, e2⟩ := un.there b o e hx
        obtain ⟨sl, e3⟩ := cs b hb _ e2
        exact ⟨_, e3⟩
      · obtain ⟨o2, e2⟩ := kT b o e hb
        exact ⟨o2, st b o2 e2⟩
    tups := un.tups
    frzs := un.frzs
    tbls := un.tbls }
  obtain ⟨hh, g, d, t, os'⟩ := s'
  obtain rfl : os' = s.os := os
  show Inv X pins σ H' { s with heap := h2, gens := g, drawn := d, toks := t }
  exact I.call (h' := h2) (g' := g) (d' := d) (t' := t) (ch := []) u2 (hB.kept st) bare (fun b z => absurd z (by simp))
end
structure Meets1 (X : Cx) (x : Str) (T : Addr) (C : Addr) (b : Bool) : Prop where
  gl : Gl X x
  m : X.mg x = some (.ref T)
  ex : PySem.W.exmOne X.K (.ref C) (.ref T) = some b
  db : (x == ("__debug__" : Str)) = false
section
variable {X : Cx} {pins : List (Addr × Obj)} {σ : St} {H : Hp} {s s' : Shared} {E : XK} {ex : Value} {x : Str} {T : Addr} {np hpos : Pos} {b0 : Stmt} {suite : List Stmt} {ts : TS} {D : Ends} {Q0 : Hp → Prop}
end
section
variable {X : Cx} {k : Nat} {f : Addr} {fd : FuncData} {ps : List Str} {sp : Sp} {dvs : List V} {ds : List Value} {fx x cx : Str} {p cpos px apos np hpos pos : Pos} {e : Expr} {es : List Expr} {t : TA} {T : Addr} {b0 : Stmt} {suite : List Stmt} {ts : TS} {i : Nat}
end
end L2

namespace L2
open PySem PySem.Spec PyProof.Rows

section
variable {prog : Program} {w : World} {A : Around} {R : Result → Shared → Prop} {s : Shared}
abbrev NB (prog : Program) (w : World) (A : Around) (env : Env) (R : Result → Shared → Prop) : Value → Shared → Prop := notedBy (model prog w) A env fun e s' => R (.error e) s'
theorem comp_loop {elt tg iter : Expr} {scope : Scope} {pos : Pos} {itv acc : Value} {env : Env} (J : Nat → Shared → Prop)
    (turn : ∀ n s, J n s → wpAny (model prog w) A (pyNext itv) (fun r s1 => match r with
      | none => R (.ok .next) s1
      | some v => wpAny (model prog w) A (letOwnedTupleGo tg itv v) (fun _ s2 => wpAny (model prog w) A (assign tg env v) (fun _ s3 => wpAny (model prog w) A (eval elt env) (fun x s4 =>
          wpAny (model prog w) A (call (.builtin "list.append") [acc, x]) (fun _ s5 => ∃ m, m < n ∧ J m s5) (NB prog w A env R) s4) (NB prog w A env R) s3) (NB prog w A env R) s2) (NB prog w A env R) s1) (NB prog w A env R) s)
    (n : Nat) (h : J n s) : codeAny (model prog w) A (.compLoop (.ListComp elt [⟨tg, iter, [], 0⟩] scope pos) 0 itv acc env) R s := by
  refine codeAny_loop rfl J (fun n s hJ => ?_) n h
  show wpAny _ _ ((compTurn (.ListComp elt [⟨tg, iter, [], 0⟩] scope pos) 0 itv acc env).onRaise (fun x => do noteFrame x env; theTreesLotGoes x)) _ _ s
  refine wpAny_noted ?_
  rw [compTurn_list1]
  refine wpAny_bind (wpAny_standAt (wpAny_bind (wpAny_mono (turn n s hJ) (fun r s1 z => ?_) fun _ _ q => q)))
  match r, z with
  | none, z => exact wpAny_pure z
  | some v, z =>
    exact wpAny_bind (wpAny_mono z (fun _ s2 z => wpAny_bind (wpAny_mono z (fun _ s3 z => wpAny_bind (wpAny_bind (wpAny_mono z (fun x s4 z =>
      wpAny_bind (wpAny_mono z (fun _ s5 z => wpAny_pure (wpAny_pure ⟨rfl, z⟩)) fun _ _ q => q)) fun _ _ q => q))) fun _ _ q => q)) fun _ _ q => q)
end

theorem closure_from {env : Env} : ∀ (names : List (Str × NameKind)) (acc : List (Str × Addr)), (∀ y ∈ names, y.2 = .free → ∃ c, env.cells.lookup y.1 = some c) → (∀ x c, acc.lookup x = some c → env.cells.lookup x = some c) →
    ∃ cl, (forIn names acc (fun (x : Str × NameKind) cs => if (x.2 == NameKind.free) = true then (do let __do_lift ← cellOf env x.1; pure (ForInStep.yield ((x.1, __do_lift) :: cs))) else pure (ForInStep.yield cs)) : Sem (List (Str × Addr))) = pure cl ∧
      (∀ x c, cl.lookup x = some c → env.cells.lookup x = some c) ∧ (∀ x, (∃ c, acc.lookup x = some c) → ∃ c, cl.lookup x = some c) ∧ ∀ y ∈ names, y.2 = .free → ∃ c, cl.lookup y.1 = some c
  | [], acc, _, ha => ⟨acc, rfl, ha, fun _ h => h, fun _ h => nomatch h⟩
  | y :: r, acc, hn, ha => by
    by_cases hf : y.2 = .free
    · obtain ⟨c, hc⟩ := hn y List.mem_cons_self hf
      obtain ⟨cl, e, h1, h2, h3⟩ := closure_from r ((y.1, c) :: acc) (fun z hz => hn z (List.mem_cons_of_mem _ hz)) (fun x d e => by
        rw [List.lookup_cons] at e
        cases q : x == y.1 with
        | true => rw [q] at e; cases e; rw [eq_of_beq q]; exact hc
        | false => rw [q] at e; exact ha x d e)
      refine ⟨cl, ?_, h1, fun x ⟨d, hd⟩ => h2 x ?_, fun z hz zf => ?_⟩
      · rw [List.forIn_cons, if_pos (by rw [hf]; rfl)]
        have ec : cellOf env y.1 = pure c := by unfold cellOf; rw [hc]
        rw [ec]
        exact e
      · rw [List.lookup_cons]
        cases q : x == y.1 with
        | true => exact ⟨c, rfl⟩
        | false => exact ⟨d, hd⟩
      · rcases List.mem_cons.mp hz with z1 | z1
        · subst z1
          exact h2 z.1 ⟨c, by rw [List.lookup_cons, beq_self_eq_true]⟩
        · exact h3 z z1 zf
    · obtain ⟨cl, e, h1, h2, h3⟩ := closure_from r acc (fun z hz => hn z (List.mem_cons_of_mem _ hz)) ha
      refine ⟨cl, ?_, h1, h2, fun z hz zf => ?_⟩
      · rw [List.forIn_cons, if_neg (by simpa using hf)]
        exact e
      · rcases List.mem_cons.mp hz with z1 | z1
        · subst z1; exact absurd zf hf
        · exact h3 z z1 zf
theorem closure_of {env : Env} {sc : Scope} (h : ∀ y ∈ sc.names, y.2 = .free → ∃ c, env.cells.lookup y.1 = some c) :
    ∃ cl, closureFor sc env = pure cl ∧ (∀ x c, cl.lookup x = some c → env.cells.lookup x = some c) ∧ ∀ y ∈ sc.names, y.2 = .free → ∃ c, cl.lookup y.1 = some c := by
  obtain ⟨cl, e, h1, _, h3⟩ := closure_from sc.names [] h (fun x c e => by simp at e)
  refine ⟨cl, ?_, h1, h3⟩
  unfold closureFor
  simp only [e]
  rfl

structure CompOk (X : Cx) (tg : Str) (sc : Scope) (fr : List (Str × Nat)) : Prop where
  kind : sc.kind = .function
  nocell : ∀ y ∈ sc.names, y.2 ≠ .cell
  locs : ∀ y ∈ sc.names, y.2 = .local → sc.names.lookup y.1 = some .local
  tgl : sc.names.lookup tg = some .local
  fre : ∀ y ∈ sc.names, y.2 = .free → X.env.scope.names.lookup y.1 = some .cell ∨ X.env.scope.names.lookup y.1 = some .free
  nd : (tg :: fr.map (·.1)).Nodup
  vis : ∀ p ∈ fr, X.N[p.2]? = some p.1 ∧ (X.env.scope.names.lookup p.1 = some .cell ∨ X.env.scope.names.lookup p.1 = some .free) ∧ sc.names.lookup p.1 = some .free
noncomputable abbrev Cx.blk (X : Cx) (Nc : List Str) (sc : Scope) (cl : List (Str × Addr)) (C : Addr) (s3 : Shared) (H3 : Hp) (fp : List Addr) : Cx :=
  { X with N := Nc, s₀ := s3, H₀ := H3, env := compEnvC sc cl C X.env, outer := X.stack, ex := fp, fn := fun _ => false, pn := [], xe := fun _ _ => False }
theorem relabel_free {env : Env} : ∀ {names : List (Str × NameKind)} {x : Str} {k : NameKind}, (∀ y ∈ names, y.2 ≠ .cell) → (k = .cell ∨ k = .free) →
    (names.map fun (n, k) => if (k == NameKind.free && env.scope.kind == .function && env.kindOf n == some .cell) then (n, NameKind.cell) else (n, k)).lookup x = some k → ∃ y ∈ names, y.1 = x ∧ y.2 = .free
  | [], _, _, _, _, e => by simp at e
  | (n, k') :: r, x, k, hn, hk, e => by
    have ih := @relabel_free env r x k (fun y hy => hn y (List.mem_cons_of_mem _ hy)) hk
    rw [List.map_cons] at e
    by_cases hc : (k' == NameKind.free && env.scope.kind == .function && env.kindOf n == some .cell) = true
    · simp only [hc, if_true, List.lookup_cons] at e
      cases q : x == n with
      | true =>
        have hf : k' = .free := by
          simp only [Bool.and_eq_true, beq_iff_eq] at hc
          exact hc.1.1
        exact ⟨(n, k'), List.mem_cons_self, (eq_of_beq q).symm, hf⟩
      | false =>
        rw [q] at e
        obtain ⟨y, h1, h2⟩ := ih e
        exact ⟨y, List.mem_cons_of_mem _ h1, h2⟩
    · simp only [hc, Bool.false_eq_true, if_false, List.lookup_cons] at e
      cases q : x == n with
      | true =>
        rw [q] at e
        have ek : k' = k := Option.some.inj e
        rcases hk with z | z
        · exact absurd (ek.trans z) (hn (n, k') List.mem_cons_self)
        · exact ⟨(n, k'), List.mem_cons_self, (eq_of_beq q).symm, ek.trans z⟩
      | false =>
        rw [q] at e
        obtain ⟨y, h1, h2⟩ := ih e
        exact ⟨y, List.mem_cons_of_mem _ h1, h2⟩
theorem relabel_seen {env : Env} : ∀ {names : List (Str × NameKind)} {x : Str}, names.lookup x = some .free →
    (names.map fun (n, k) => if (k == NameKind.free && env.scope.kind == .function && env.kindOf n == some .cell) then (n, NameKind.cell) else (n, k)).lookup x = some .cell ∨
    (names.map fun (n, k) => if (k == NameKind.free && env.scope.kind == .function && env.kindOf n == some .cell) then (n, NameKind.cell) else (n, k)).lookup x = some .free
  | [], _, e => by simp at e
  | (n, k') :: r, x, e => by
    have ih := @relabel_seen env r x
    rw [List.map_cons]
    rw [List.lookup_cons] at e
    by_cases hc : (k' == NameKind.free && env.scope.kind == .function && env.kindOf n == some .cell) = true
    · simp only [hc, if_true, List.lookup_cons]
      cases q : x == n with
      | true => exact .inl rfl
      | false => rw [q] at e; exact ih e
    · simp only [hc, Bool.false_eq_true, if_false, List.lookup_cons]
      cases q : x == n with
      | true => rw [q] at e; exact .inr e
      | false => rw [q] at e; exact ih e
section
variable {X : Cx} {pins : List (Addr × Obj)} {σ : St} {H : Hp} {s3 s4 : Shared} {tg : Str} {sc : Scope} {fr : List (Str × Nat)} {fp : List Addr} {cl : List (Str × Addr)}
noncomputable def inSt (σ : St) (fr : List (Str × Nat)) : St := fr.map fun p => (σ[p.2]?).join
theorem blk_start (ok : CompOk X tg sc fr) (I : Inv X pins σ H s3) (hf : ∀ b ∈ fp, FpOk X pins H b) (hfo : ∀ b ∈ fp, ∃ o, s3.heap.get? b = some o) (hk : ∀ x c, cl.lookup x = some c → X.env.cells.lookup x = some c) (hc : ∀ y ∈ sc.names, y.2 = .free → ∃ c, cl.lookup y.1 = some c)
    {h4 : Heap} {t4 : Nat} (hns : ∃ m, h4.Ns s3.heap.objs.size m) (hkeep : ∀ b o, s3.heap.get? b = some o → h4.get? b = some o) :
    Inv (X.blk (tg :: fr.map (·.1)) sc cl s3.heap.objs.size s3 H fp) [] (none :: inSt σ fr) H { s3 with heap := h4, toks := t4 } := by
  have hasc : ∀ x, ((relabel sc X.env).names.lookup x = some .cell ∨ (relabel sc X.env).names.lookup x = some .free) → ∃ c, cl.lookup x = some c := fun x hx => by
    obtain ⟨y, h1, h2, h3⟩ : ∃ y ∈ sc.names, y.1 = x ∧ y.2 = .free := by
      rcases hx with z | z
      · exact relabel_free ok.nocell (.inl rfl) z
      · exact relabel_free ok.nocell (.inr rfl) z
    subst h2
    exact hc y h1 h3
  have cell4 : ∀ x c, cl.lookup x = some c → ∀ v, s3.heap.IsCell c v → h4.IsCell c v := fun x c _ v ⟨o, ho, hd⟩ => ⟨o, hkeep c o ho, hd⟩
  have fresh : H s3.heap.objs.size = none := I.hok.fresh (Nat.le_refl _)
  refine ⟨⟨I.mod, ok.kind, I.ok.glob, I.ok.blt, Nat.le_refl _, fun x y c e1 e2 => I.ok.inj x y c (hk x c e1) (hk y c e2), hasc, (fun x c e => nomatch e), I.ok.hd, I.ok.frames, .inl rfl, fun b hb => ?_, I.bs, Nat.le_trans I.ok.bsz I.sz, fun b o e hb => ?_, fun b hb z => ?_, I.stack, I.stkFree⟩,
    rfl, I.bare, Un.kept hkeep, ?_, fun x c e => ?_, fresh, fun x c e => I.freeC x c (hk x c e), (fun p hp => nomatch hp), I.hok.kept hkeep, ?_⟩
  · obtain ⟨f0, f1, f2, f3, f4, f5⟩ := hf b hb
    refine ⟨fun z => ?_, fun x c e => f4 x c (hk x c e)⟩
    obtain ⟨o, eo⟩ := hfo b hb
    have z' : b = s3.heap.objs.size := z
    rw [z'] at eo
    exact absurd (Heap.lt_size eo) (Nat.lt_irrefl _)
  · obtain ⟨f0, f1, f2, f3, f4, f5⟩ := hf b hb
    rcases f3 with z | z
    · exact I.ok.noex b o e z
    · exact absurd (Nat.lt_of_lt_of_le (Nat.lt_of_lt_of_le (Heap.lt_size e) I.ok.bsz) z) (Nat.lt_irrefl _)
  · obtain ⟨f0, f1, f2, f3, f4, f5⟩ := hf b hb
    rcases List.mem_cons.mp (I.stkSub b z) with q | q
    · exact f1 q
    · exact f2 q
  · obtain ⟨m, hn⟩ := hns
    obtain ⟨m0, _, hl0⟩ := I.loc
    refine ⟨m, hn, fun i x v e1 e2 _ => ?_⟩
    cases i with
    | zero => cases e2
    | succ i =>
      have e2' : ((fr.map fun p => (σ[p.2]?).join))[i]? = some (some v) := e2
      have e1' : (fr.map (·.1))[i]? = some x := e1
      rw [List.getElem?_map] at e1' e2'
      cases q : fr[i]? with
      | none => rw [q] at e1'; cases e1'
      | some p =>
        rw [q] at e1' e2'
        have ex : p.1 = x := Option.some.inj e1'
        have ev : (σ[p.2]?).join = some v := Option.some.inj e2'
        obtain ⟨g1, g2, g3⟩ := ok.vis p (List.mem_of_getElem? q)
        have ev' : σ[p.2]? = some (some v) := by
          cases z : σ[p.2]? with
          | none => rw [z] at ev; cases ev
          | some w => rw [z] at ev; exact congrArg some ev
        have gv : Vis X.env.scope p.1 := g2.elim (fun z => .inr (.inl z)) fun z => .inr (.inr z)
        obtain ⟨u, ru, lk⟩ := hl0 p.2 p.1 v g1 ev' gv
        subst ex
        refine ⟨u, ru, .inr ⟨relabel_seen g3, ?_⟩⟩
        rcases lk with ⟨k1, _⟩ | ⟨_, c, ec, hcell⟩
        · rcases g2 with z | z
          · have k2 : X.env.scope.names.lookup p.1 = some .local := k1
            rw [z] at k2; cases k2
          · have k2 : X.env.scope.names.lookup p.1 = some .local := k1
            rw [z] at k2; cases k2
        · obtain ⟨c', ec'⟩ := hasc p.1 (relabel_seen g3)
          have e3 := hk _ _ ec'
          rw [ec] at e3
          cases e3
          exact ⟨c, ec', cell4 _ c ec' _ hcell⟩
  · obtain ⟨v, z⟩ := I.cell x c (hk x c e)
    exact ⟨v, cell4 x c e v z⟩
  · show (none :: inSt σ fr).length = (tg :: fr.map (·.1)).length
    simp [inSt]
end

noncomputable def tLC (fr : List (Str × Nat)) (wi : TI) (te : TE) : TE := fun σ H Q => wi σ H fun J H1 => ∀ acc, H1 acc = none → ∃ W : Nat → Nat → Hp → Prop, (∃ m, W 0 m (upd H1 acc (.lst []))) ∧ ∀ i m H2, W i m H2 →
  (J.stop i H2 ∧ Q (.ref acc) H2) ∨ (J.go i H2 ∧ ∀ x H3, J.yld i H2 x H3 → te (some x :: inSt σ fr) H3 fun v H4 => ∃ xs m', H4 acc = some (.lst xs) ∧ xs.length < sizeLine ∧ m' < m ∧ W (i + 1) m' (upd H4 acc (.lst (xs ++ [v]))))
section
variable {X : Cx} {elt iter : Expr} {x : Str} {px pos : Pos} {sc : Scope} {fr : List (Str × Nat)} {wi : TI} {te : TE}
theorem pe_lc (hc : X.calm = true) (ok : CompOk X x sc fr) (hi : PI X (.Name x px) iter wi) (he : ∀ cl C s3 H3 fp, PE (X.blk (x :: fr.map (·.1)) sc cl C s3 H3 fp) elt te) (hs : ∀ x, foldedSetIterable iter X.env x = pure x := by intro _; rfl) :
    PE X (.ListComp elt [⟨.Name x px, iter, [], 0⟩] sc pos) (tLC fr wi te) := by
  intro pins s σ H Q I h
  obtain ⟨cl, ecl, hk, hcx⟩ := closure_of (env := X.env) (sc := sc) (fun y hy yf => I.ok.has y.1 (ok.fre y hy yf))
  rw [eval_ListComp]
  refine wpAny_comprehension_free (use := none) rfl hs ecl ok.kind ok.locs (thn (hi pins s σ H _ I h) fun v s1 h1 => thn h1 fun itv s2 h2 => ?_)
  obtain ⟨it, fp, tn, J, H2, e, I2, T, st2, f2, q⟩ := h2
  subst e
  have hacc : H2 s2.heap.objs.size = none := I2.hok.fresh (Nat.le_refl _)
  obtain ⟨W, ⟨m0, w0⟩, turn⟩ := q s2.heap.objs.size hacc
  refine wpAny_newObj_type ?_
  have I3 := I2.laid (a := s2.heap.objs.size) (o := .lst []) (h' := s2.heap.push { cls := .type "list", data := .seq ([] : List Value).toArray }) (t' := s2.toks) (fun b u e => Heap.get?_push_of_some _ e) (Nat.le_refl _) ⟨Nat.zero_le _, [], 0, .nil, Heap.get?_push_size _ rfl⟩
  refine wpAny_newFunctionEnv ok.nocell (by intro y hy; simp at hy) (fun h4 hns4 hsb4 => ?_) ok.kind
  generalize hs3 : ({ s2 with heap := s2.heap.push { cls := .type "list", data := .seq ([] : List Value).toArray } } : Shared) = s3 at *
  have keep4 : ∀ b o, s3.heap.get? b = some o → h4.get? b = some o := fun b o e => hsb4.extBut b o (Nat.ne_of_lt (Heap.lt_size e)) (Heap.get?_push_of_some _ e)
  have keep3 : ∀ b o, s2.heap.get? b = some o → s3.heap.get? b = some o := fun b o e => by rw [← hs3]; exact Heap.get?_push_of_some _ e
  have hfo : ∀ b ∈ fp, ∃ o, s3.heap.get? b = some o := fun b hb => by
    obtain ⟨o, eo, _⟩ := T.obj 0 _ st2 b hb
    exact ⟨o, keep3 b o eo⟩
  have f3 : ∀ b ∈ fp, FpOk X pins (upd H2 s2.heap.objs.size (.lst [])) b := fun b hb => by
    obtain ⟨o, eo, _⟩ := T.obj 0 _ st2 b hb
    exact ⟨by rw [upd_ne (Nat.ne_of_lt (Heap.lt_size eo))]; exact (f2 b hb).1, (f2 b hb).2⟩
  have I4 := blk_start (t4 := s3.toks + ([] : List (Str × Value)).length) ok I3 f3 hfo hk hcx ⟨_, hns4⟩ keep4
  have st4 : tn 0 h4 := T.keep 0 s2.heap h4 st2 fun b hb o e => keep4 b o (keep3 b o e)
  have stat : ∀ {H' : Hp}, (∀ b ∈ fp, H' b = none) → ∀ b ∈ fp, FpOk (X.blk (x :: fr.map (·.1)) sc cl s3.heap.objs.size s3 (upd H2 s2.heap.objs.size (.lst [])) fp) [] H' b := fun hn b hb =>
    ⟨hn b hb, (I4.ok.exf b hb).1, I4.ok.exfs b hb, .inl hb, (I4.ok.exf b hb).2, fun p hp => nomatch hp⟩
  have lk : (relabel sc X.env).names.lookup x = some .local := lookup_relabel_local ok.tgl
  have loop : codeAny (model X.prog X.w) X.A (.compLoop (.ListComp elt [⟨.Name x px, iter, [], 0⟩] sc pos) 0 (.ref it) (.ref s2.heap.objs.size) (compEnvC sc cl s3.heap.objs.size X.env))
      (compPost (model X.prog X.w) X.A X.xe none (EP X pins σ Q) (.ref s2.heap.objs.size) s3.heap.objs.size) { s3 with heap := h4, toks := s3.toks + ([] : List (Str × Value)).length } := by
    refine comp_loop (fun n s' => ∃ i x0 H', Inv (X.blk (x :: fr.map (·.1)) sc cl s3.heap.objs.size s3 (upd H2 s2.heap.objs.size (.lst [])) fp) [] (x0 :: inSt σ fr) H' s' ∧ tn i s'.heap ∧ (∀ b ∈ fp, H' b = none) ∧ W i n H') ?_ m0
      ⟨0, none, _, I4, st4, fun b hb => (f3 b hb).1, w0⟩
    rintro n s5 ⟨i, x0, H5, I5, st5, fr5, w5⟩
    rcases turn i n H5 w5 with ⟨stop, qq⟩ | ⟨go, step⟩
    · refine thn (T.done (X.blk (x :: fr.map (·.1)) sc cl s3.heap.objs.size s3 (upd H2 s2.heap.objs.size (.lst [])) fp) rfl rfl rfl hc i [] s5 _ H5 _ I5 (stat fr5) st5 stop) fun r s6 ⟨hr, I6⟩ => ?_
      subst hr
      obtain ⟨m6, hn6, _⟩ := I6.loc
      refine ⟨m6, hn6, fun h7 hsb7 => ?_⟩
      have ne : ∀ b o, s3.heap.get? b = some o → b ≠ s3.heap.objs.size := fun b o e => Nat.ne_of_lt (Heap.lt_size e)
      have u6 : Un (frs X.stack) fp (upd H2 s2.heap.objs.size (.lst [])) H5 s3.heap s6.heap := I6.base
      have u7 : Un (frs X.stack) fp (upd H2 s2.heap.objs.size (.lst [])) H5 s3.heap h7 := {
        keep := fun b o e n hb hx => hsb7.extBut b o (ne b o e) (u6.keep b o e n hb hx)
        slot := fun b o e n hb hx => by
          obtain ⟨sl, e1⟩ := u6.slot b o e n hb hx
          exact ⟨sl, hsb7.extBut b _ (ne b o e) e1⟩
        free := u6.free
        there := fun b o e hx => by
          obtain ⟨o', e1⟩ := u6.there b o e hx
          exact ⟨o', hsb7.extBut b _ (ne b o e) e1⟩
        tups := u6.tups
        frzs := u6.frzs
        tbls := u6.tbls }
      have hok7 : HOk X.prog X.w H5 h7 := fun b u eu => (I6.hok b u eu).stay (fun c v hcx q => hsb7.extBut c v (fun z => by
        have nf := I6.free
        have z' : H5 s3.heap.objs.size = none := nf
        rw [← z] at z'
        rcases hcx with y | y
        · rw [y, eu] at z'; cases z'
        · rw [y] at z'; cases z') q) (fun _ q => q) fun _ _ q => q
      have os6 : s6.os = s3.os := I6.os
      have bare6 := I6.bare
      obtain ⟨hh, g, d, t, os'⟩ := s6
      obtain rfl : os' = s3.os := os6
      refine ⟨.ref s2.heap.objs.size, H5, ?_, rfl, qq⟩
      show Inv X pins σ H5 { s3 with heap := h7, gens := g, drawn := d, toks := t }
      exact I3.call (h' := h7) (g' := g) (d' := d) (t' := t) (ch := fp) u7 hok7 bare6 fun b hb => ⟨(f3 b hb).2.2.2.1, (f3 b hb).2.1, (f3 b hb).2.2.2.2.1, (f3 b hb).2.2.2.2.2⟩
    · refine thn (T.item (X.blk (x :: fr.map (·.1)) sc cl s3.heap.objs.size s3 (upd H2 s2.heap.objs.size (.lst [])) fp) rfl rfl rfl hc i [] s5 _ H5 _ I5 (stat fr5) st5 go) fun r s6 ⟨u, hr, h6⟩ => ?_
      subst hr
      refine thn h6 fun _ s7 ⟨y, H7, I7, r7, y7, st7, fr7⟩ => ?_
      have I7' := I7.pinned (stat fr7) (T.obj _ _ st7)
      refine wpAny_mono (pg_name (X := X.blk (x :: fr.map (·.1)) sc cl s3.heap.objs.size s3 (upd H2 s2.heap.objs.size (.lst [])) fp) (i := 0) (pos := px) ok.nd rfl (Or.inl lk) (.inr lk) _ s7 _ H7 y u (fun σ' H' => σ' = some y :: inSt σ fr ∧ H' = H7) I7' r7 ⟨rfl, rfl⟩) (fun _ s8 z => ?_) (fun e s z => (show False from z).elim)
      obtain ⟨σ8, H8, I8, e8, e8'⟩ := z
      subst e8 e8'
      refine wpAny_mono (he cl s3.heap.objs.size s3 (upd H2 s2.heap.objs.size (.lst [])) fp _ s8 _ H8 _ I8 (step y H8 y7)) (fun v s9 z => ?_) (fun e s z => (show False from z).elim)
      obtain ⟨z, H9, I9, r9, xs, m', ha, hl, hm, w9⟩ := z
      refine wpAny_mono (mt_append (X := X.blk (x :: fr.map (·.1)) sc cl s3.heap.objs.size s3 (upd H2 s2.heap.objs.size (.lst [])) fp) _ s9 _ H9 (.ref s2.heap.objs.size) [z] (.ref s2.heap.objs.size) [v] (fun _ H' => H' = upd H9 s2.heap.objs.size (.lst (xs ++ [z]))) I9 rfl (.cons r9 .nil) ⟨_, xs, z, rfl, rfl, ha, hl, rfl⟩) (fun _ s10 z => ?_) (fun e s z => (show False from z).elim)
      obtain ⟨_, H10, I10, _, e10⟩ := z
      subst e10
      refine ⟨m', hm, i + 1, some y, _, I10.unpinned, T.keep _ _ _ st7 fun b hb o e => (I10.pin (b, o) (List.mem_append_right _ (List.mem_append_right _ (mem_pinsAt hb e)))).1, fun b hb => ?_, w9⟩
      obtain ⟨o, e, d⟩ := T.obj _ _ st7 b hb
      exact (I10.pin (b, o) (List.mem_append_right _ (List.mem_append_right _ (mem_pinsAt hb e)))).2.1
  exact codeAny_compStart_list loop (T.self X.A 0 _ _ _ st4 loop)
end
end L2

namespace L2
open PySem PySem.Spec PyProof.Rows
section
variable {X : Cx}
theorem ints_at {vs : List Value} {ns : List Int} (h : IntsAre vs ns) : ∀ {j : Nat} {v : Value}, vs[j]? = some v → ∃ n t, ns[j]? = some n ∧ v = .int n t := by
  induction h with
  | nil => intro j v e; simp at e
  | cons n t h ih =>
    intro j v e
    cases j with
    | zero => exact ⟨n, t, rfl, (Option.some.inj e).symm⟩
    | succ j => exact ih e
theorem call_sum (hc : X.calm = true) : CallR X (.builtin "sum") (fun xs H Q => ∃ (p : Addr) (ns : List Int), xs = [.ref p] ∧ SqL X.K H p (ns.map V.int) ∧ Q (.int ns.sum) H) := by
  intro pins s σ H xs us Q I r h
  obtain ⟨p, ns, rfl, hq, q⟩ := h
  obtain ⟨u, rfl, rx⟩ := vals1 r
  cases rx
  obtain ⟨its, r', pl, hz⟩ := I.list hq
  have ia : IntsAre its ns := intsAre_of r'
  have hlen : its.length = ns.length := by rw [← r'.length, List.length_map]
  have hp : p < s.heap.objs.size := by
    obtain ⟨o, ho, _⟩ := pl.isList
    exact Heap.lt_size ho
  refine call_sum_walkG (wpAny_pyIter_list pl.isList ⟨s.heap.objs.size, [s.heap.objs.size, p], [s.heap.objs.size], its.toArray.size, _, _, fun i => ns.getD i 0, rfl, Walks.list (A := X.A.in1) (show X.A.in1.handled = none from I.ok.hd hc) s.heap.objs.size p (Nat.ne_of_lt hp) its.toArray, ⟨⟨_, Heap.get?_push_size _ rfl, rfl, rfl⟩, pl.isList.at fun o e => Heap.get?_push_of_some _ e⟩, fun b hb => ?_, fun i v hv => ?_, fun h' tk t' hk => ?_⟩)
  · have hsz : ∀ o, (s.heap.push o).objs.size = s.heap.objs.size + 1 := fun o => Heap.size_push _ _
    show b < (s.heap.push _).objs.size
    rw [hsz]
    rcases List.mem_cons.mp hb with e | e
    · rw [e]; exact Nat.lt_succ_self _
    · rw [List.mem_singleton.mp e]; exact Nat.lt_succ_of_lt hp
  · have hv' : its[i]? = some v := by simpa using hv
    obtain ⟨n, t, en, ev⟩ := ints_at ia hv'
    refine ⟨t, ?_⟩
    show v = Value.int (ns.getD i 0) t
    rw [ev, List.getD_eq_getElem?_getD, en]
    rfl
  · have e : preSum (fun i => ns.getD i 0) its.toArray.size = ns.sum := by
      rw [preSum_getD, List.size_toArray, hlen, List.take_of_length_le (Nat.le_refl _)]
    rw [e]
    refine ⟨.int ns.sum, H, ?_, ⟨_, rfl⟩, q⟩
    exact I.kept (t' := tk) fun b o eb => hk b o (by
      intro z
      have z' := List.mem_singleton.mp z
      rw [z'] at eb
      exact absurd (Heap.lt_size eb) (Nat.lt_irrefl _)) (Heap.get?_push_of_some _ eb)
theorem tup_all {ns ms : List Int} {e : Nat → Bool} (he : ∀ j, j < ns.length → j < ms.length → e j = decide (ns[j]? = ms[j]?)) : ((List.range (min ns.length ms.length)).all e && ns.length == ms.length) = decide (ns = ms) := by
  by_cases h : ns = ms
  · subst h
    rw [decide_eq_true rfl, Nat.min_self, beq_self_eq_true, Bool.and_true, List.all_eq_true]
    intro j hj
    have := List.mem_range.mp hj
    rw [he j this this, decide_eq_true rfl]
  · rw [decide_eq_false h]
    by_cases hl : ns.length = ms.length
    · rw [hl, Nat.min_self, beq_self_eq_true, Bool.and_true, Bool.eq_false_iff]
      intro z
      rw [List.all_eq_true] at z
      apply h
      apply List.ext_getElem? 
      intro j
      by_cases hj : j < ms.length
      · have q := z j (List.mem_range.mpr hj)
        rw [he j (by omega) hj] at q
        exact of_decide_eq_true q
      · rw [List.getElem?_eq_none (by omega), List.getElem?_eq_none (by omega)]
    · have : (ns.length == ms.length) = false := by simpa using hl
      rw [this, Bool.and_false]
noncomputable def rEqT (K : PySem.W.Frag) (f : Bool → Bool) : R2 := fun x y H Q => ∃ (a b : Addr) (ns ms : List Int), x = .ref a ∧ y = .ref b ∧ SqT K H a (ns.map V.int) ∧ SqT K H b (ms.map V.int) ∧ Q (.bl (f (decide (ns = ms)))) H
end
noncomputable def tSetLC (iy : Nat) (fr : List (Str × Nat)) (wi : TI) (te : TE) : TS := fun D σ H => tLC fr wi te σ H fun v H' => D.nx (σ.set iy (some v)) H'
section
variable {X : Cx} {elt iter : Expr} {x : Str} {px pos : Pos} {sc : Scope} {fr : List (Str × Nat)} {wi : TI} {te : TE}
theorem ps_setLC {y : Str} {py spos : Pos} {iy : Nat} (hN : X.N.Nodup) (hi' : X.N[iy]? = some y) (hy : Loc X.env.scope y) (hc : X.calm = true) (ok : CompOk X x sc fr) (hi : PI X (.Name x px) iter wi) (he : ∀ cl C s3 H3 fp, PE (X.blk (x :: fr.map (·.1)) sc cl C s3 H3 fp) elt te) (hs : ∀ x, foldedSetIterable iter X.env x = pure x := by intro _; rfl)
    (hsw : swapsWith (.ListComp elt [⟨.Name x px, iter, [], 0⟩] sc pos) (some (.Name y py)) spos.line X.env = pure true := by rfl) (hfn : X.fn y = true ∨ X.env.scope.names.lookup y = some .local := by first | exact .inl rfl | exact .inr rfl | assumption) :
    PS X (.Assign [.Name y py] (.ListComp elt [⟨.Name x px, iter, [], 0⟩] sc pos) spos) (tSetLC iy fr wi te) := by
  intro pins s σ H D I h
  obtain ⟨cl, ecl, hk, hcx⟩ := closure_of (env := X.env) (sc := sc) (fun y hy yf => I.ok.has y.1 (ok.fre y hy yf))
  rw [exec_Assign_Name_used _ _ _ _ hsw]
  refine wpAny_bind (wpAny_standAt (wpAny_bind ?_))
  show wpAny _ X.A (do let _ ← comprehension (.ListComp elt [⟨.Name x px, iter, [], 0⟩] sc pos) sc X.env _ (newList []) false (eval iter X.env) (some (assign (.Name y py) X.env))) _ _ s
  refine wpAny_bind (wpAny_mono (wpAny_comprehension_free (use := some (assign (.Name y py) X.env)) (Q := fun _ s' => SP X pins D .next s') rfl hs ecl ok.kind ok.locs ?_) (fun _ s' z => wpAny_pure (wpAny_pure z)) fun _ _ z => z)
  refine (thn (hi pins s σ H _ I h) fun v s1 h1 => thn h1 fun itv s2 h2 => ?_)
  obtain ⟨it, fp, tn, J, H2, e, I2, T, st2, f2, q⟩ := h2
  subst e
  have hacc : H2 s2.heap.objs.size = none := I2.hok.fresh (Nat.le_refl _)
  obtain ⟨W, ⟨m0, w0⟩, turn⟩ := q s2.heap.objs.size hacc
  refine wpAny_newObj_type ?_
  have I3 := I2.laid (a := s2.heap.objs.size) (o := .lst []) (h' := s2.heap.push { cls := .type "list", data := .seq ([] : List Value).toArray }) (t' := s2.toks) (fun b u e => Heap.get?_push_of_some _ e) (Nat.le_refl _) ⟨Nat.zero_le _, [], 0, .nil, Heap.get?_push_size _ rfl⟩
  refine wpAny_newFunctionEnv ok.nocell (by intro y hy; simp at hy) (fun h4 hns4 hsb4 => ?_) ok.kind
  generalize hs3 : ({ s2 with heap := s2.heap.push { cls := .type "list", data := .seq ([] : List Value).toArray } } : Shared) = s3 at *
  have keep4 : ∀ b o, s3.heap.get? b = some o → h4.get? b = some o := fun b o e => hsb4.extBut b o (Nat.ne_of_lt (Heap.lt_size e)) (Heap.get?_push_of_some _ e)
  have keep3 : ∀ b o, s2.heap.get? b = some o → s3.heap.get? b = some o := fun b o e => by rw [← hs3]; exact Heap.get?_push_of_some _ e
  have hfo : ∀ b ∈ fp, ∃ o, s3.heap.get? b = some o := fun b hb => by
    obtain ⟨o, eo, _⟩ := T.obj 0 _ st2 b hb
    exact ⟨o, keep3 b o eo⟩
  have f3 : ∀ b ∈ fp, FpOk X pins (upd H2 s2.heap.objs.size (.lst [])) b := fun b hb => by
    obtain ⟨o, eo, _⟩ := T.obj 0 _ st2 b hb
    exact ⟨by rw [upd_ne (Nat.ne_of_lt (Heap.lt_size eo))]; exact (f2 b hb).1, (f2 b hb).2⟩
  have I4 := blk_start (t4 := s3.toks + ([] : List (Str × Value)).length) ok I3 f3 hfo hk hcx ⟨_, hns4⟩ keep4
  have st4 : tn 0 h4 := T.keep 0 s2.heap h4 st2 fun b hb o e => keep4 b o (keep3 b o e)
  have stat : ∀ {H' : Hp}, (∀ b ∈ fp, H' b = none) → ∀ b ∈ fp, FpOk (X.blk (x :: fr.map (·.1)) sc cl s3.heap.objs.size s3 (upd H2 s2.heap.objs.size (.lst [])) fp) [] H' b := fun hn b hb =>
    ⟨hn b hb, (I4.ok.exf b hb).1, I4.ok.exfs b hb, .inl hb, (I4.ok.exf b hb).2, fun p hp => nomatch hp⟩
  have lk : (relabel sc X.env).names.lookup x = some .local := lookup_relabel_local ok.tgl
  have loop : codeAny (model X.prog X.w) X.A (.compLoop (.ListComp elt [⟨.Name x px, iter, [], 0⟩] sc pos) 0 (.ref it) (.ref s2.heap.objs.size) (compEnvC sc cl s3.heap.objs.size X.env))
      (compPost (model X.prog X.w) X.A X.xe (some (assign (.Name y py) X.env)) (fun _ s' => SP X pins D .next s') (.ref s2.heap.objs.size) s3.heap.objs.size) { s3 with heap := h4, toks := s3.toks + ([] : List (Str × Value)).length } := by
    refine comp_loop (fun n s' => ∃ i x0 H', Inv (X.blk (x :: fr.map (·.1)) sc cl s3.heap.objs.size s3 (upd H2 s2.heap.objs.size (.lst [])) fp) [] (x0 :: inSt σ fr) H' s' ∧ tn i s'.heap ∧ (∀ b ∈ fp, H' b = none) ∧ W i n H') ?_ m0
      ⟨0, none, _, I4, st4, fun b hb => (f3 b hb).1, w0⟩
    rintro n s5 ⟨i, x0, H5, I5, st5, fr5, w5⟩
    rcases turn i n H5 w5 with ⟨stop, qq⟩ | ⟨go, step⟩
    · refine thn (T.done (X.blk (x :: fr.map (·.1)) sc cl s3.heap.objs.size s3 (upd H2 s2.heap.objs.size (.lst [])) fp) rfl rfl rfl hc i [] s5 _ H5 _ I5 (stat fr5) st5 stop) fun r s6 ⟨hr, I6⟩ => ?_
      subst hr
      obtain ⟨m6, hn6, _⟩ := I6.loc
      have u6 : Un (frs X.stack) fp (upd H2 s2.heap.objs.size (.lst [])) H5 s3.heap s6.heap := I6.base
      have hok6 : HOk X.prog X.w H5 s6.heap := I6.hok
      have os6 : s6.os = s3.os := I6.os
      have bare6 := I6.bare
      have free6 : H5 s3.heap.objs.size = none := I6.free
      have IX : Inv X pins σ H5 s6 := by
        obtain ⟨hh, g, d, t, os'⟩ := s6
        obtain rfl : os' = s3.os := os6
        show Inv X pins σ H5 { s3 with heap := hh, gens := g, drawn := d, toks := t }
        exact I3.call (h' := hh) (g' := g) (d' := d) (t' := t) (ch := fp) u6 hok6 bare6 fun b hb => ⟨(f3 b hb).2.2.2.1, (f3 b hb).2.1, (f3 b hb).2.2.2.2.1, (f3 b hb).2.2.2.2.2⟩
      obtain ⟨oC, es, ep, hoC, hdC, rC⟩ := hn6
      have hfC : FpOk X pins H5 s3.heap.objs.size := I3.fpOk (Nat.le_refl _) free6
      have IX' : Inv X (pins ++ [(s3.heap.objs.size, oC)]) σ H5 s6 := IX.pins_of fun p hp => by
        rcases List.mem_append.mp hp with z | z
        · exact IX.pin p (List.mem_append_right _ z)
        · have z' := List.mem_singleton.mp z
          subst z'
          exact ⟨hoC, free6, hfC.2.1, hfC.2.2.1, fun v z => by
            have z2 : oC.data = .cell v := z
            rw [hdC] at z2; cases z2⟩
      refine thn (pg_name (X := X) (i := iy) (pos := py) hN hi' hy hfn _ s6 σ H5 (.ref s2.heap.objs.size) (.ref s2.heap.objs.size) (fun σ' H' => σ' = σ.set iy (some (.ref s2.heap.objs.size)) ∧ H' = H5) IX' rfl ⟨rfl, rfl⟩) fun _ s7 z => ?_
      obtain ⟨σ7, H7, I7, e7, e7'⟩ := z
      subst e7 e7'
      have pC := I7.pin (s3.heap.objs.size, oC) (List.mem_append_right _ (List.mem_append_right _ (List.mem_singleton.mpr rfl)))
      refine ⟨m6, ⟨oC, es, ep, pC.1, hdC, rC⟩, fun h8 hsb8 => ?_⟩
      have I7u : Inv X pins (σ.set iy (some (.ref s2.heap.objs.size))) H7 s7 := I7.unpinned
      refine ⟨_, H7, ?_, qq⟩
      exact I7u.turned (it := s3.heap.objs.size) (t' := s7.toks) (fun b o hb e => hsb8.extBut b o hb e) free6 hfC.2.1 hfC.2.2.2.1 hfC.2.2.2.2.1 hfC.2.2.2.2.2
    · refine thn (T.item (X.blk (x :: fr.map (·.1)) sc cl s3.heap.objs.size s3 (upd H2 s2.heap.objs.size (.lst [])) fp) rfl rfl rfl hc i [] s5 _ H5 _ I5 (stat fr5) st5 go) fun r s6 ⟨u, hr, h6⟩ => ?_
      subst hr
      refine thn h6 fun _ s7 ⟨y, H7, I7, r7, y7, st7, fr7⟩ => ?_
      have I7' := I7.pinned (stat fr7) (T.obj _ _ st7)
      refine wpAny_mono (pg_name (X := X.blk (x :: fr.map (·.1)) sc cl s3.heap.objs.size s3 (upd H2 s2.heap.objs.size (.lst [])) fp) (i := 0) (pos := px) ok.nd rfl (Or.inl lk) (.inr lk) _ s7 _ H7 y u (fun σ' H' => σ' = some y :: inSt σ fr ∧ H' = H7) I7' r7 ⟨rfl, rfl⟩) (fun _ s8 z => ?_) (fun e s z => (show False from z).elim)
      obtain ⟨σ8, H8, I8, e8, e8'⟩ := z
      subst e8 e8'
      refine wpAny_mono (he cl s3.heap.objs.size s3 (upd H2 s2.heap.objs.size (.lst [])) fp _ s8 _ H8 _ I8 (step y H8 y7)) (fun v s9 z => ?_) (fun e s z => (show False from z).elim)
      obtain ⟨z, H9, I9, r9, xs, m', ha, hl, hm, w9⟩ := z
      refine wpAny_mono (mt_append (X := X.blk (x :: fr.map (·.1)) sc cl s3.heap.objs.size s3 (upd H2 s2.heap.objs.size (.lst [])) fp) _ s9 _ H9 (.ref s2.heap.objs.size) [z] (.ref s2.heap.objs.size) [v] (fun _ H' => H' = upd H9 s2.heap.objs.size (.lst (xs ++ [z]))) I9 rfl (.cons r9 .nil) ⟨_, xs, z, rfl, rfl, ha, hl, rfl⟩) (fun _ s10 z => ?_) (fun e s z => (show False from z).elim)
      obtain ⟨_, H10, I10, _, e10⟩ := z
      subst e10
      refine ⟨m', hm, i + 1, some y, _, I10.unpinned, T.keep _ _ _ st7 fun b hb o e => (I10.pin (b, o) (List.mem_append_right _ (List.mem_append_right _ (mem_pinsAt hb e)))).1, fun b hb => ?_, w9⟩
      obtain ⟨o, e, d⟩ := T.obj _ _ st7 b hb
      exact (I10.pin (b, o) (List.mem_append_right _ (List.mem_append_right _ (mem_pinsAt hb e)))).2.1
  exact codeAny_compStart_list loop (T.self X.A 0 _ _ _ st4 loop)
end
theorem lc_range {lo : Int} {n : Nat} {te : TE} {st : St} {H1 : Hp} {acc : Addr} {Q : VK} (f : Nat → V) (hn : n ≤ sizeLine) (hacc : H1 acc = none)
    (step : ∀ (i : Nat) (H2 : Hp) (Q' : VK), i < n → Same H1 H2 → (∀ H4, Same H2 H4 → Q' (f i) H4) → te (some (.int (lo + i)) :: st) H2 Q') (fin : ∀ H2, Same H1 H2 → H2 acc = some (.lst ((List.range n).map f)) → Q (.ref acc) H2) :
    ∃ W : Nat → Nat → Hp → Prop, (∃ m, W 0 m (upd H1 acc (.lst []))) ∧ ∀ i m H2, W i m H2 → ((Itr lo n).stop i H2 ∧ Q (.ref acc) H2) ∨
      ((Itr lo n).go i H2 ∧ ∀ x H3, (Itr lo n).yld i H2 x H3 → te (some x :: st) H3 fun v H4 => ∃ xs m', H4 acc = some (.lst xs) ∧ xs.length < sizeLine ∧ m' < m ∧ W (i + 1) m' (upd H4 acc (.lst (xs ++ [v])))) := by
  refine ⟨fun i m H2 => m = n - i ∧ i ≤ n ∧ Same H1 H2 ∧ H2 acc = some (.lst ((List.range i).map f)), ⟨n, by simp, Nat.zero_le _, Same.new hacc _, upd_same⟩, ?_⟩
  rintro i m H2 ⟨rfl, hi, sm, ha⟩
  by_cases hlt : i < n
  · refine .inr ⟨hlt, fun x H3 y => ?_⟩
    obtain ⟨e, y⟩ := y
    subst e y
    refine step i _ _ hlt sm fun H4 s4 => ⟨_, n - (i + 1), s4 _ _ ha, ?_, by omega, rfl, hlt, fun b o e => ?_, ?_⟩
    · rw [List.length_map, List.length_range]; omega
    · rw [upd_ne (ne_of_none e hacc)]; exact s4 _ _ (sm _ _ e)
    · rw [upd_same, List.range_succ, List.map_append]; rfl
  · have e : i = n := by omega
    subst e
    exact .inl ⟨Nat.le_refl _, fin H2 sm ha⟩
end L2

namespace L2
open PySem PySem.Spec PyProof.Rows
noncomputable def compOkB (osc : Scope) (N : List Str) (tg : Str) (sc : Scope) (fr : List (Str × Nat)) : Bool :=
  decide (sc.kind = .function) && (sc.names.all fun y => decide (y.2 ≠ .cell)) && (sc.names.all fun y => decide (y.2 ≠ .local) || decide (sc.names.lookup y.1 = some .local)) && decide (sc.names.lookup tg = some .local) &&
  (sc.names.all fun y => decide (y.2 ≠ .free) || decide (osc.names.lookup y.1 = some .cell) || decide (osc.names.lookup y.1 = some .free)) && decide ((tg :: fr.map (·.1)).Nodup) &&
  (fr.all fun p => decide (N[p.2]? = some p.1) && (decide (osc.names.lookup p.1 = some .cell) || decide (osc.names.lookup p.1 = some .free)) && decide (sc.names.lookup p.1 = some .free))
theorem compOk_of {X : Cx} {tg : Str} {sc : Scope} {fr : List (Str × Nat)} {osc : Scope} {N : List Str} (ho : X.env.scope = osc) (hN : X.N = N) (h : compOkB osc N tg sc fr = true) : CompOk X tg sc fr := by
  subst ho hN
  unfold compOkB at h
  simp only [Bool.and_eq_true, decide_eq_true_eq, List.all_eq_true, Bool.or_eq_true] at h
  obtain ⟨⟨⟨⟨⟨⟨h1, h2⟩, h3⟩, h4⟩, h5⟩, h6⟩, h7⟩ := h
  refine ⟨h1, h2, fun y hy e => ?_, h4, fun y hy e => ?_, h6, fun p hp => ?_⟩
  · rcases h3 y hy with z | z
    · exact absurd e z
    · exact z
  · rcases h5 y hy with (z | z) | z
    · exact absurd e z
    · exact .inl z
    · exact .inr z
  · obtain ⟨⟨a, b⟩, c⟩ := h7 p hp
    exact ⟨a, b, c⟩
theorem bt_sum : bootBuiltins "sum" = some (.builtin "sum") := by decide +kernel
end L2

namespace L2
open PySem
theorem lc_range2 {lo : Int} {n : Nat} {te : TE} {st : St} {H1 : Hp} {acc : Addr} {R : Hp → Prop} (f : Nat → V) (hn : n ≤ sizeLine) (hacc : H1 acc = none)
    (step : ∀ (i : Nat) (H2 : Hp) (Q' : VK), i < n → Same H1 H2 → (∀ H4, Same H2 H4 → Q' (f i) H4) → te (some (.int (lo + i)) :: st) H2 Q') (fin : ∀ H2, Same H1 H2 → H2 acc = some (.lst ((List.range n).map f)) → R H2) :
    ∃ W : Nat → Nat → Hp → Prop, (∃ m, W 0 m (upd H1 acc (.lst []))) ∧ ∀ i m H2, W i m H2 → ((Itr lo n).stop i H2 ∧ R H2) ∨
      ((Itr lo n).go i H2 ∧ ∀ x H3, (Itr lo n).yld i H2 x H3 → te (some x :: st) H3 fun v H4 => ∃ xs m', H4 acc = some (.lst xs) ∧ xs.length < sizeLine ∧ m' < m ∧ W (i + 1) m' (upd H4 acc (.lst (xs ++ [v])))) :=
  lc_range (Q := fun _ H2 => R H2) f hn hacc step fin
end L2

namespace L2
open PySem
end L2

namespace L2
open PySem
end L2

namespace L2
open PySem PySem.Spec PyProof.Rows
section
variable {prog : Program} {w : World} {A : Around} {R : Result → Shared → Prop} {s : Shared}
end
section
variable {X : Cx} {pins : List (Addr × Obj)} {σ : St} {H : Hp} {s3 s4 : Shared} {tgs : List Str} {sc : Scope} {fr : List (Str × Nat)} {fp : List Addr} {cl : List (Str × Addr)}
end


section
variable {X : Cx} {elt iter tg : Expr} {ifs : List Expr} {tgs : List Str} {pos : Pos} {sc : Scope} {fr : List (Str × Nat)} {wi : TI} {te : TE} {g : TG} {tc : TT}
end
end L2

namespace L2
open PySem PySem.Spec PyProof.Rows
section
variable {X : Cx}
theorem op_eqT (hu : X.A.units < cLine) : OpR X (compareOp .Eq) (rEqT X.K (fun b => b)) := by
  intro pins s σ H x y v u Q I rx ry h
  obtain ⟨a, b, ns, ms, rfl, rfl, ha, hb, q⟩ := h
  cases rx
  cases ry
  obtain ⟨its, r1, p1, _⟩ := I.tuple ha
  obtain ⟨its2, r2, p2, _⟩ := I.tuple hb
  have i1 : IntsAre its ns := intsAre_of r1
  have i2 : IntsAre its2 ms := intsAre_of r2
  have l1 : its.length = ns.length := i1.length
  have l2 : its2.length = ms.length := i2.length
  have key := SeqAt.RcAt.tuples (A := X.A) (s := s) (l := a) (b := b) (items := its.toArray) (items2 := its2.toArray) (e := fun j => decide (ns[j]? = ms[j]?)) p1 p2 hu (fun j h1 h2 => by
    have h1' : j < its.length := by simpa using h1
    have h2' : j < its2.length := by simpa using h2
    obtain ⟨n, t, en, ev⟩ := ints_at i1 (List.getElem?_eq_getElem h1')
    obtain ⟨m, t', em, ew⟩ := ints_at i2 (List.getElem?_eq_getElem h2')
    have g1 : its.toArray[j] = .int n t := by rw [← ev]; simp
    have g2 : its2.toArray[j] = .int m t' := by rw [← ew]; simp
    rw [g1, g2, en, em]
    have e : decide (some n = some m) = (n == m) := by
      by_cases z : n = m
      · subst z; simp
      · simp [z]
    rw [e]
    exact SeqAt.EqAt.int_int n t m t')
  have e2 : ((List.range (min its.toArray.size its2.toArray.size)).all (fun j => decide (ns[j]? = ms[j]?)) && its.toArray.size == its2.toArray.size) = decide (ns = ms) := by
    rw [List.size_toArray, List.size_toArray, l1, l2, tup_all (fun j _ _ => rfl)]
  rw [e2] at key
  exact key _ _ _ _ ⟨.bl (decide (ns = ms)), H, I, rfl, q⟩
end
end L2

namespace My
noncomputable def qv (a b : Int) : Rat := (a : Rat) / (b : Rat)
theorem cast_ne {b : Int} (h : b ≠ 0) : (b : Rat) ≠ 0 := fun z => h (Rat.intCast_inj.mp z)
theorem qv_eq {a b t m : Int} (hb : b ≠ 0) (hm : m ≠ 0) (h : a * m = t * b) : qv a b = qv t m := by
  have hb' := cast_ne hb
  have hm' := cast_ne hm
  have h' : (a : Rat) * m = t * b := by rw [← Rat.intCast_mul, ← Rat.intCast_mul, h]
  unfold qv
  grind
theorem eq_of_qv {a b t m : Int} (hb : b ≠ 0) (hm : m ≠ 0) (h : qv a b = qv t m) : a * m = t * b := by
  have hb' := cast_ne hb
  have hm' := cast_ne hm
  unfold qv at h
  refine Rat.intCast_inj.mp ?_
  rw [Rat.intCast_mul, Rat.intCast_mul]
  grind
theorem low_unique {a b c d : Int} (hb : 0 < b) (hd : 0 < d) (h1 : Int.gcd a b = 1) (h2 : Int.gcd c d = 1) (h : a * d = c * b) : a = c ∧ b = d := by
  have n : a.natAbs * d.natAbs = c.natAbs * b.natAbs := by rw [← Int.natAbs_mul, ← Int.natAbs_mul, h]
  have e1 : b.natAbs ∣ d.natAbs := by
    have q : b.natAbs ∣ a.natAbs * d.natAbs := ⟨c.natAbs, by rw [n, Nat.mul_comm]⟩
    exact Nat.Coprime.dvd_of_dvd_mul_left (Nat.Coprime.symm h1) q
  have e2 : d.natAbs ∣ b.natAbs := by
    have q : d.natAbs ∣ c.natAbs * b.natAbs := ⟨a.natAbs, by rw [← n, Nat.mul_comm]⟩
    exact Nat.Coprime.dvd_of_dvd_mul_left (Nat.Coprime.symm h2) q
  have e3 : b.natAbs = d.natAbs := Nat.dvd_antisymm e1 e2
  have e4 : b = d := by omega
  subst e4
  exact ⟨Int.eq_of_mul_eq_mul_right (by omega) h, rfl⟩
end My

namespace My
end My

namespace My
noncomputable def leap (y : Int) : Bool := if y % 4 = 0 then (if y % 100 = 0 then decide (y % 400 = 0) else true) else false
noncomputable def mls : List Int := [31, 28, 31, 30, 31, 30, 31, 31, 30, 31, 30, 31]
noncomputable def ml (L : Bool) (m : Int) : Int := if m = 2 ∧ L = true then 29 else mls.getD (m - 1).toNat 0
noncomputable def mlen (y m : Int) : Int := ml (leap y) m
noncomputable def bf (L : Bool) (m : Int) : Int := ((List.range (m - 1).toNat).map fun i : Nat => ml L (1 + i)).sum
noncomputable def ybeg (y : Int) : Int := 365 * (y - 1) + (y - 1) / 4 - (y - 1) / 100 + (y - 1) / 400
noncomputable def ylen (L : Bool) : Int := if L then 366 else 365
theorem ybeg_next (y : Int) : ybeg (y + 1) = ybeg y + ylen (leap y) := by
  unfold ybeg ylen leap
  by_cases h4 : y % 4 = 0
  · rw [if_pos h4]
    by_cases h1 : y % 100 = 0
    · rw [if_pos h1]
      by_cases h3 : y % 400 = 0
      · rw [decide_eq_true h3, if_pos rfl]; omega
      · rw [decide_eq_false h3, if_neg (by decide)]; omega
    · rw [if_neg h1, if_pos rfl]; omega
  · rw [if_neg h4, if_neg (by decide)]; omega
theorem m_cases {m : Int} (h1 : 1 ≤ m) (h2 : m ≤ 12) : m = 1 ∨ m = 2 ∨ m = 3 ∨ m = 4 ∨ m = 5 ∨ m = 6 ∨ m = 7 ∨ m = 8 ∨ m = 9 ∨ m = 10 ∨ m = 11 ∨ m = 12 := by omega
theorem bf_next {L : Bool} {m : Int} (h1 : 1 ≤ m) (h2 : m ≤ 12) : bf L (m + 1) = bf L m + ml L m := by
  cases L <;> rcases m_cases h1 h2 with h | h | h | h | h | h | h | h | h | h | h | h <;> subst h <;> decide
theorem bf_first (L : Bool) : bf L 1 = 0 := by cases L <;> decide
theorem bf_last (L : Bool) : bf L 13 = ylen L := by cases L <;> decide
theorem ml_pos {L : Bool} {m : Int} (h1 : 1 ≤ m) (h2 : m ≤ 12) : 28 ≤ ml L m ∧ ml L m ≤ 31 := by
  cases L <;> rcases m_cases h1 h2 with h | h | h | h | h | h | h | h | h | h | h | h <;> subst h <;> decide
noncomputable def dayOf (y m e : Int) : Int := ybeg y + bf (leap y) m + e - 1
structure Valid (y m e : Int) : Prop where
  y1 : 1 ≤ y
  y2 : y ≤ 9999
  m1 : 1 ≤ m
  m2 : m ≤ 12
  e1 : 1 ≤ e
  e2 : e ≤ mlen y m
theorem bf_mono {L : Bool} {m n : Int} (h1 : 1 ≤ m) (h : m < n) (h2 : n ≤ 13) : bf L m + ml L m ≤ bf L n := by
  have key : ∀ (k : Nat) (n : Int), n = m + 1 + k → n ≤ 13 → bf L m + ml L m ≤ bf L n := by
    intro k
    induction k with
    | zero =>
      intro n hn hn2
      have e : n = m + 1 := by omega
      rw [e, bf_next h1 (by omega)]
      exact Int.le_refl _
    | succ k ih =>
      intro n hn hn2
      have q := ih (n - 1) (by omega) (by omega)
      have e := bf_next (L := L) (m := n - 1) (by omega) (by omega)
      rw [Int.sub_add_cancel] at e
      have p := (ml_pos (L := L) (m := n - 1) (by omega) (by omega)).1
      omega
  exact key (n - m - 1).toNat n (by omega) h2
theorem Valid.range {y m e : Int} (v : Valid y m e) : ybeg y ≤ dayOf y m e ∧ dayOf y m e < ybeg (y + 1) := by
  have h1 : 0 ≤ bf (leap y) m := by
    by_cases h : m = 1
    · rw [h, bf_first]; exact Int.le_refl _
    · have q := bf_mono (L := leap y) (m := 1) (n := m) (by omega) (by have := v.m1; omega) (by have := v.m2; omega)
      have p := (ml_pos (L := leap y) (m := 1) (by omega) (by omega)).1
      rw [bf_first] at q
      omega
  have h2 := bf_mono (L := leap y) (m := m) (n := 13) v.m1 (by have := v.m2; omega) (by omega)
  rw [bf_last] at h2
  have h3 := ybeg_next y
  have h4 := v.e2
  have h5 := v.e1
  unfold mlen at h4
  unfold dayOf
  omega
theorem ybeg_mono {y z : Int} (h : y ≤ z) : ybeg y ≤ ybeg z := by unfold ybeg; omega
theorem Valid.inj {y m e y' m' e' : Int} (v : Valid y m e) (v' : Valid y' m' e') (h : dayOf y m e = dayOf y' m' e') : y = y' ∧ m = m' ∧ e = e' := by
  have r := v.range
  have r' := v'.range
  have hy : y = y' := by
    rcases Int.lt_trichotomy y y' with q | q | q
    · have := ybeg_mono (show y + 1 ≤ y' by omega); omega
    · exact q
    · have := ybeg_mono (show y' + 1 ≤ y by omega); omega
  subst hy
  have a := v.e2; have a' := v'.e2; have b := v.e1; have b' := v'.e1
  unfold mlen at a a'
  unfold dayOf at h
  have hm : m = m' := by
    rcases Int.lt_trichotomy m m' with q | q | q
    · have := bf_mono (L := leap y) v.m1 q (by have := v'.m2; omega); omega
    · exact q
    · have := bf_mono (L := leap y) v'.m1 q (by have := v.m2; omega); omega
  subst hm
  refine ⟨rfl, rfl, by omega⟩
noncomputable def yearOf (d : Int) : Int := if ybeg (d * 400 / 146097 + 1 + 1) ≤ d then d * 400 / 146097 + 1 + 1 else d * 400 / 146097 + 1
theorem yearOf_ok {d : Int} (h0 : 0 ≤ d) (h1 : d ≤ 3652058) : 1 ≤ yearOf d ∧ yearOf d ≤ 9999 ∧ ybeg (yearOf d) ≤ d ∧ d < ybeg (yearOf d + 1) := by
  unfold yearOf ybeg
  split <;> rename_i h <;> refine ⟨by omega, by omega, by omega, by omega⟩
end My

namespace L2
open PySem PySem.Spec PyProof.Rows
noncomputable def rIsN : R2 := fun x y H Q => y = .non ∧ Q (.bl (decide (x = .non))) H
noncomputable def rNotN : R2 := fun x y H Q => y = .non ∧ Q (.bl (!decide (x = .non))) H
theorem op_isN' {X : Cx} : OpR X (compareOp .Is) rIsN := op_isN
theorem op_notN' {X : Cx} : OpR X (compareOp .IsNot) rNotN := op_notN
noncomputable def MkT (xs : List V) (H : Hp) (Q : VK) : Prop := xs.length ≤ sizeLine ∧ ∀ p, H p = none → Q (.ref p) (upd H p (.tup xs))
noncomputable def MkL (xs : List V) (H : Hp) (Q : VK) : Prop := xs.length ≤ sizeLine ∧ ∀ p, H p = none → Q (.ref p) (upd H p (.lst xs))
inductive SetTo : St → Nat → Option V → St → Prop
  | here {x : Option V} {r : St} {v : Option V} : SetTo (x :: r) 0 v (v :: r)
  | next {x : Option V} {r : St} {v : Option V} {i : Nat} {r' : St} : SetTo r i v r' → SetTo (x :: r) (i + 1) v (x :: r')
theorem SetTo.eq {σ σ' : St} {i : Nat} {v : Option V} (h : SetTo σ i v σ') : σ.set i v = σ' := by
  induction h with
  | here => rfl
  | next _ ih => rw [List.set_cons_succ, ih]
inductive GetTo : St → Nat → V → Prop
  | here {v : V} {r : St} : GetTo (some v :: r) 0 v
  | next {x : Option V} {r : St} {v : V} {i : Nat} : GetTo r i v → GetTo (x :: r) (i + 1) v
theorem GetTo.eq {σ : St} {i : Nat} {v : V} (h : GetTo σ i v) : σ[i]? = some (some v) := by
  induction h with
  | here => rfl
  | next _ ih => rw [List.getElem?_cons_succ, ih]
section
variable {σ σ' : St} {H : Hp} {Q : VK} {i j : Int} {k : Nat} {v x y : V} {te ta tb tc : TE} {t u : TS} {nx bk ct : St → Hp → Prop} {rt : VK} {c d : TT} {R : Bool → Hp → Prop} {r r' : R2} {b : Bool}
theorem z_var (h : GetTo σ k v) (q : Q v H) : tVar k σ H Q := ⟨v, h.eq, q⟩
theorem z_c (q : Q v H) : tC v σ H Q := q
theorem z_op (h : ta σ H fun x H1 => tb σ H1 fun y H2 => r x y H2 Q) : tOp r ta tb σ H Q := h
theorem z_un {r : V → Hp → VK → Prop} (h : ta σ H fun x H1 => r x H1 Q) : tUn r ta σ H Q := h
theorem z_I {C : Int → Int → Prop} {g : Int → Int → V} (hc : C i j) (q : Q (g i j) H) : rI C g (.int i) (.int j) H Q := ⟨i, j, rfl, rfl, hc, q⟩
theorem z_I0 {g : Int → Int → V} (q : Q (g i j) H) : rI0 g (.int i) (.int j) H Q := ⟨i, j, rfl, rfl, q⟩
theorem z_U {g : Int → V} (q : Q (g i) H) : rU g (.int i) H Q := ⟨i, rfl, q⟩
theorem zdec_int : decide (V.int i = V.int j) = decide (i = j) := by
  by_cases h : i = j
  · subst h; simp
  · rw [decide_eq_false h, decide_eq_false (fun z => h (V.int.inj z))]
theorem zdec_str {a b : Str} : decide (V.str a = V.str b) = decide (a = b) := by
  by_cases h : a = b
  · subst h; simp
  · rw [decide_eq_false h, decide_eq_false (fun z => h (V.str.inj z))]
theorem z_EqI (q : Q (.bl (decide (i = j))) H) : rEq (.int i) (.int j) H Q := ⟨rfl, by rw [zdec_int]; exact q⟩
theorem z_NeI (q : Q (.bl (!decide (i = j))) H) : rNe (.int i) (.int j) H Q := ⟨rfl, by rw [zdec_int]; exact q⟩
theorem z_EqS {a b : Str} (q : Q (.bl (decide (a = b))) H) : rEq (.str a) (.str b) H Q := ⟨rfl, by rw [zdec_str]; exact q⟩
theorem z_NeS {a b : Str} (q : Q (.bl (!decide (a = b))) H) : rNe (.str a) (.str b) H Q := ⟨rfl, by rw [zdec_str]; exact q⟩
theorem z_test (h : te σ H fun x H' => ∃ k, x = .bl k ∧ R k H') : tTest te σ H R := h
theorem z_tB (h : te σ H fun x H' => ∃ k, x = .bl k ∧ R k H') : tB te σ H R := h
theorem z_ebl {S : Bool → Prop} (q : S b) : ∃ k, V.bl b = .bl k ∧ S k := ⟨b, rfl, q⟩
theorem z_and (h : c σ H fun k H1 => if k = true then d σ H1 R else R false H1) : tAnd c d σ H R := h
theorem z_or (h : c σ H fun k H1 => if k = true then R true H1 else d σ H1 R) : tOr c d σ H R := h
theorem z_not (h : c σ H fun k H1 => R (!k) H1) : tNot c σ H R := h
theorem z_andV (h : ta σ H fun x H1 => ∃ c, x = .bl c ∧ if c = true then tb σ H1 Q else Q (.bl false) H1) : tAndV ta tb σ H Q := h
theorem z_orV (h : ta σ H fun x H1 => ∃ c, x = .bl c ∧ if c = true then Q (.bl true) H1 else tb σ H1 Q) : tOrV ta tb σ H Q := h
theorem z_if (h : c σ H fun k H1 => if k = true then ta σ H1 Q else tb σ H1 Q) : tIf c ta tb σ H Q := h
theorem z_chain (h : ta σ H fun x H1 => tb σ H1 fun y H2 => r x y H2 fun z H3 => ∃ k, z = .bl k ∧ (if k = true then tc σ H3 fun w' H4 => r' y w' H4 Q else Q (.bl false) H3)) : tChain r r' ta tb tc σ H Q := h
theorem z_nil {S : List V → Hp → Prop} (q : S [] H) : tNil σ H S := q
theorem z_cons {S : List V → Hp → Prop} {tr : TA} (h : ta σ H fun x H1 => tr σ H1 fun xs H2 => S (x :: xs) H2) : tCons ta tr σ H S := h
theorem z_seq (h : t ⟨u ⟨nx, rt, bk, ct⟩, rt, bk, ct⟩ σ H) : tSeq t u ⟨nx, rt, bk, ct⟩ σ H := h
theorem z_next (h : nx σ H) : tNext ⟨nx, rt, bk, ct⟩ σ H := h
theorem z_drop (h : te σ H fun _ H1 => nx σ H1) : tDrop te ⟨nx, rt, bk, ct⟩ σ H := h
theorem z_ret (h : te σ H rt) : tRet te ⟨nx, rt, bk, ct⟩ σ H := h
theorem z_ifs (h : c σ H fun b H1 => if b = true then t ⟨nx, rt, bk, ct⟩ σ H1 else u ⟨nx, rt, bk, ct⟩ σ H1) : tIfS c t u ⟨nx, rt, bk, ct⟩ σ H := h
theorem z_asg {g : TG} (h : te σ H fun x H1 => g x σ H1 nx) : tAsg te g ⟨nx, rt, bk, ct⟩ σ H := h
theorem z_name {S : St → Hp → Prop} (h : SetTo σ k (some v) σ') (q : S σ' H) : gName k v σ H S := by
  show S (σ.set k (some v)) H
  rw [h.eq]; exact q
theorem z_iteD {c A B : Prop} [Decidable c] (h1 : c → A) (h2 : ¬ c → B) : if decide c = true then A else B := by
  by_cases h : c
  · rw [decide_eq_true h]; exact iteT (h1 h)
  · rw [decide_eq_false h]; exact iteF (h2 h)
theorem z_iteNb {b : Bool} {A B : Prop} (h : if b = true then B else A) : if (!b) = true then A else B := by
  cases b with
  | true => exact iteF h
  | false => exact iteT h
theorem z_ite2 {b : Bool} {A B : Prop} (h1 : b = true → A) (h2 : b = false → B) : if b = true then A else B := by
  cases b with
  | true => exact iteT (h1 rfl)
  | false => exact iteF (h2 rfl)
theorem z_call0 {sp : Sp} {E : XK} {tA : TA} (h : tA σ H fun vs H1 => sp vs H1 Q E) : tCall sp [] E tA σ H Q := by
  unfold tCall
  simpa using h
theorem z_callD {sp : Sp} {E : XK} {tA : TA} {w : V} (h : tA σ H fun vs H1 => sp (vs ++ [w]) H1 Q E) : tCall sp [w] E tA σ H Q := h
theorem z_cb {rr : List V → Hp → VK → Prop} {tA : TA} (h : tA σ H fun vs H1 => rr vs H1 Q) : tCB rr tA σ H Q := h
theorem z_e1 {S : Int → Prop} (q : S i) : ∃ i', [V.int i] = [.int i'] ∧ S i' := ⟨i, rfl, q⟩
theorem z_tup {tA : TA} (h : tA σ H fun xs H1 => MkT xs H1 Q) : tTup tA σ H Q := h
theorem z_mkt {xs : List V} (hl : xs.length ≤ 100) (q : ∀ p H', H p = none → Same H H' → H' p = some (.tup xs) → Q (.ref p) H') : MkT xs H Q :=
  ⟨Nat.le_trans hl (by decide), fun p hp => q p _ hp (Same.new hp _) upd_same⟩
theorem z_ixT {K : PySem.W.Frag} {p : Addr} {xs : List V} (hs : SqT K H p xs) (ha : atI xs i = some v) (q : Q v H) : rIxT K (.ref p) (.int i) H Q := ⟨p, xs, i, v, rfl, rfl, hs, ha, q⟩
theorem z_ixL {K : PySem.W.Frag} {p : Addr} {xs : List V} (hs : SqL K H p xs) (ha : atI xs i = some v) (q : Q v H) : rIxL K (.ref p) (.int i) H Q := ⟨p, xs, i, v, rfl, rfl, hs, ha, q⟩
theorem z_nonN (q : Q (.bl true) H) : rIsN .non .non H Q := ⟨rfl, q⟩
theorem z_nonI (q : Q (.bl false) H) : rIsN (.int i) .non H Q := ⟨rfl, q⟩
theorem z_nonS {a : Str} (q : Q (.bl false) H) : rIsN (.str a) .non H Q := ⟨rfl, q⟩
theorem z_nonR {p : Addr} (q : Q (.bl false) H) : rIsN (.ref p) .non H Q := ⟨rfl, q⟩
theorem z_len {K : PySem.W.Frag} {p : Addr} {ys : List V} {S : List V → Prop} (hs : SqL K H p ys ∨ SqT K H p ys) (q : S ys) : ∃ p' ys', [V.ref p] = [V.ref p'] ∧ (SqL K H p' ys' ∨ SqT K H p' ys') ∧ S ys' := ⟨p, ys, rfl, hs, q⟩
theorem z_toB {S1 : Int → Prop} {S3 : Bool → Prop} (q : S3 b) : (∃ i', [V.bl b] = [.int i'] ∧ S1 i') ∨ ∃ k, [V.bl b] = [.bl k] ∧ S3 k := .inr ⟨b, rfl, q⟩
theorem z_gtup {K : PySem.W.Frag} {p : Addr} {n : Nat} {tg : TGs} {xs : List V} {S : St → Hp → Prop} (hs : SqT K H p xs) (hl : xs.length = n) (q : tg xs σ H S) : gTup K n tg (.ref p) σ H S := ⟨p, xs, rfl, hs, hl, q⟩
theorem z_gnil {S : St → Hp → Prop} (q : S σ H) : gNil [] σ H S := ⟨rfl, q⟩
theorem z_gcons {g : TG} {tg : TGs} {v : V} {r : List V} {S : St → Hp → Prop} (q : g v σ H fun σ' H' => tg r σ' H' S) : gCons g tg (v :: r) σ H S := ⟨v, r, rfl, q⟩
theorem z_sl {r : V → Option Int → Option Int → Hp → VK → Prop} {tl th : TO} (h : te σ H fun x H1 => tl σ H1 fun l H2 => th σ H2 fun u H3 => r x l u H3 Q) : tSl r te tl th σ H Q := h
theorem z_noP {S : Option Int → Hp → Prop} (q : S none H) : tNoPart σ H S := q
theorem z_part {S : Option Int → Hp → Prop} (h : te σ H fun x H1 => ∃ i, x = .int i ∧ S (some i) H1) : tPart te σ H S := h
theorem z_eint {S : Int → Prop} (q : S i) : ∃ i', V.int i = .int i' ∧ S i' := ⟨i, rfl, q⟩
theorem z_slL {K : PySem.W.Frag} {p : Addr} {xs : List V} {lo hi : Option Int} (hs : SqL K H p xs) (q : ∀ p' H', Same H H' → H' p' = some (.lst (cutV xs lo hi)) → Q (.ref p') H') : rSlL K (.ref p) lo hi H Q := ⟨p, xs, rfl, hs, fun p' hp => q p' _ (Same.new hp _) upd_same⟩
theorem z_lst {tA : TA} (h : tA σ H fun xs H1 => MkL xs H1 Q) : tLst tA σ H Q := h
theorem z_mkl {xs : List V} (hl : xs.length ≤ 100) (q : ∀ p H', H p = none → Same H H' → H' p = some (.lst xs) → Q (.ref p) H') : MkL xs H Q :=
  ⟨Nat.le_trans hl (by decide), fun p hp => q p _ hp (Same.new hp _) upd_same⟩
theorem z_cat {l m : Addr} {xs zs : List V} (h1 : H l = some (.lst xs)) (h2 : H m = some (.lst zs)) (hl : xs.length + zs.length ≤ sizeLine) (q : ∀ p H', Same H H' → H' p = some (.lst (xs ++ zs)) → Q (.ref p) H') : rCat (.ref l) (.ref m) H Q :=
  ⟨l, m, xs, zs, rfl, rfl, h1, h2, hl, fun p hp => q p _ (Same.new hp _) upd_same⟩
theorem z_bm {K : PySem.W.Frag} {T : String} {rr : V → List V → Hp → VK → Prop} {tA : TA} (h : te σ H fun x H1 => tyV K T x H1 ∧ tA σ H1 fun xs H2 => rr x xs H2 Q) : tBM K T rr te tA σ H Q := h
end
noncomputable def But (l : Addr) (H H' : Hp) : Prop := ∀ b o, b ≠ l → H b = some o → H' b = some o
theorem But.upd {H : Hp} {l : Addr} {o : HO} : But l H (upd H l o) := fun b u hb q => by rw [upd_ne hb]; exact q
theorem But.tup {K : PySem.W.Frag} {H H' : Hp} {l a : Addr} {xs ys : List V} (e : But l H H') (hl : H l = some (.lst ys)) (h : SqT K H a xs) : SqT K H' a xs := by
  rcases h with (h | ⟨o, h⟩) | h
  · exact .inl (.inl (e _ _ (fun z => by rw [z, hl] at h; cases h) h))
  · exact .inl (.inr ⟨o, e _ _ (fun z => by rw [z, hl] at h; cases h) h⟩)
  · exact .inr h
theorem But.seq {K : PySem.W.Frag} {H H' : Hp} {l a : Addr} {xs : List V} (e : But l H H') (hne : a ≠ l) (h : SqL K H a xs) : SqL K H' a xs := by
  rcases h with (h | ⟨o, h⟩) | h
  · exact .inl (.inl (e _ _ hne h))
  · exact .inl (.inr ⟨o, e _ _ hne h⟩)
  · exact .inr h
section
variable {σ σ' : St} {H : Hp} {Q : VK}
theorem z_append {l : Addr} {xs : List V} {v : V} (h : H l = some (.lst xs)) (hl : xs.length < sizeLine) (q : ∀ H', But l H H' → H' l = some (.lst (xs ++ [v])) → Q .non H') : rAppend (.ref l) [v] H Q :=
  ⟨l, xs, v, rfl, rfl, h, hl, q _ But.upd upd_same⟩
end
section
variable {σ : St} {H : Hp} {te : TE} {tb : TS} {g : TG} {nx bk ct : St → Hp → Prop} {rt : VK} {wi : TI} {K : PySem.W.Frag} {a : Addr} {xs : List V}
noncomputable def FW (J : It) (g : TG) (tb : TS) (nx : St → Hp → Prop) (rt : VK) (σ : St) (H : Hp) : Prop := ∃ W : Nat → Nat → St → Hp → Prop, (∃ m, W 0 m σ H) ∧ ∀ i m σ H, W i m σ H →
  (J.stop i H ∧ nx σ H) ∨ (J.go i H ∧ ∃ N : St → Hp → Prop, (∀ σ' H', N σ' H' → ∃ m', m' < m ∧ W (i + 1) m' σ' H') ∧ ∀ x H', J.yld i H x H' → g x σ H' fun σ2 H2 => tb ⟨N, rt, nx, N⟩ σ2 H2)
theorem z_for (h : wi σ H fun J H1 => FW J g tb nx rt σ H1) : tFor wi g tb ⟨nx, rt, bk, ct⟩ σ H := h
theorem z_iL {R : It → Hp → Prop} (h : te σ H fun x H1 => ∃ a, x = .ref a ∧ (∃ xs, SqL K H1 a xs) ∧ R (Itl K a) H1) : iList K te σ H R := h
theorem z_iL2 {S : Addr → Prop} (hs : SqL K H a xs) (q : S a) : ∃ a', V.ref a = .ref a' ∧ (∃ xs, SqL K H a' xs) ∧ S a' := ⟨a, rfl, ⟨xs, hs⟩, q⟩
theorem z_iR1 {tA : TA} {R : It → Hp → Prop} (h : tA σ H fun vs H1 => ∃ j : Int, vs = [.int j] ∧ -(2 ^ 62) ≤ j ∧ j < 2 ^ 62 ∧ R (Itr 0 j.toNat) H1) : iRng1 tA σ H R := h
theorem z_r1c {J : It} {j : Int} (h1 : -(2 ^ 62) ≤ j) (h2 : j < 2 ^ 62) (q : FW J g tb nx rt σ H) : -(2 ^ 62) ≤ j ∧ j < 2 ^ 62 ∧ FW J g tb nx rt σ H := ⟨h1, h2, q⟩
theorem f_list (Pv : Nat → St → Hp → Prop) (h0 : Pv 0 σ H) (hl : ∀ i σ H, i ≤ xs.length → Pv i σ H → SqL K H a xs)
    (hs : ∀ i x σ H, xs[i]? = some x → Pv i σ H → g x σ H fun σ2 H2 => tb ⟨Pv (i + 1), rt, nx, Pv (i + 1)⟩ σ2 H2) (hd : ∀ σ H, Pv xs.length σ H → nx σ H) : FW (Itl K a) g tb nx rt σ H := for_list (D := ⟨nx, rt, nx, nx⟩) Pv h0 hl hs hd
theorem f_range {lo : Int} {n : Nat} (Pv : Nat → St → Hp → Prop) (h0 : Pv 0 σ H)
    (hs : ∀ i σ H, i < n → Pv i σ H → g (.int (lo + i)) σ H fun σ2 H2 => tb ⟨Pv (i + 1), rt, nx, Pv (i + 1)⟩ σ2 H2) (hd : ∀ σ H, Pv n σ H → nx σ H) : FW (Itr lo n) g tb nx rt σ H := for_range (D := ⟨nx, rt, nx, nx⟩) Pv h0 hs hd
end
noncomputable def IsiG (K : PySem.W.Frag) (n : String) (f : Tg → Bool) (xs : List V) (H : Hp) (Q : VK) : Prop := rIsi K n f xs H Q
theorem z_isi0 {K : PySem.W.Frag} {n : String} {f : Tg → Bool} {xs : List V} {H : Hp} {Q : VK} (h : IsiG K n f xs H Q) : rIsi K n f xs H Q := h
section
variable {H : Hp} {Q : VK} {K : PySem.W.Frag} {i : Int} {a : Str} {b : Bool} {p : Addr} {xs : List V}
theorem z_isN_str (q : Q (.bl false) H) : IsiG K "str" Tg.isStr [.non, .ty "str"] H Q := ⟨_, .non, rfl, True.intro, q⟩
theorem z_isI_str (q : Q (.bl false) H) : IsiG K "str" Tg.isStr [.int i, .ty "str"] H Q := ⟨_, .int, rfl, True.intro, q⟩
theorem z_isS_str (q : Q (.bl true) H) : IsiG K "str" Tg.isStr [.str a, .ty "str"] H Q := ⟨_, .str, rfl, True.intro, q⟩
theorem z_isT_str (hs : SqT K H p xs) (q : Q (.bl false) H) : IsiG K "str" Tg.isStr [.ref p, .ty "str"] H Q := ⟨_, .tup, rfl, ⟨xs, hs⟩, q⟩
theorem z_isI_tuple (q : Q (.bl false) H) : IsiG K "tuple" Tg.isTup [.int i, .ty "tuple"] H Q := ⟨_, .int, rfl, True.intro, q⟩
theorem z_isT_tuple (hs : SqT K H p xs) (q : Q (.bl true) H) : IsiG K "tuple" Tg.isTup [.ref p, .ty "tuple"] H Q := ⟨_, .tup, rfl, ⟨xs, hs⟩, q⟩
end
theorem bd_mul {m n : Nat} {x y : Int} (h : My.Bd m x) (g : My.Bd n y) : My.Bd (m + n) (x * y) := h.mul g
theorem bd_sub {m n : Nat} {x y : Int} (h : My.Bd m x) (g : My.Bd n y) : My.Bd (max m n + 1) (x - y) := (h.mono (show m ≤ max m n by omega)).sub (g.mono (show n ≤ max m n by omega))
theorem bd_60 {n : Int} (h1 : -1152921504606846976 < n) (h2 : n < 1152921504606846976) : My.Bd 60 n := by unfold My.Bd; omega
theorem Same.but {H H2 H3 : Hp} {l : Addr} (s : Same H H2) (n : H l = none) (b : But l H2 H3) : Same H H3 := fun c o e => b c o (fun z => by rw [z, n] at e; cases e) (s c o e)
theorem z_tyL {K : PySem.W.Frag} {l : Addr} {xs : List V} {H : Hp} {S : Prop} (h : SqL K H l xs) (q : S) : tyV K "list" (.ref l) H ∧ S := ⟨.inl ⟨rfl, xs, h⟩, q⟩
theorem z_go {N : List Str} {vs : List V} {σ : St} {t : TS} {D : Ends} {H : Hp} (h : start N vs = σ) (q : t D σ H) : t D (start N vs) H := by rw [h]; exact q
end L2

namespace L2
open PySem PySem.Spec PyProof.Rows
end L2

namespace L2
open PySem PySem.Spec PyProof.Rows
section
variable {X : Cx} {elt iter tg : Expr} {ifs : List Expr} {tgs : List Str} {pos : Pos} {sc : Scope} {fr : List (Str × Nat)} {wi : TI} {te : TE} {g : TG} {tc : TT}
end
end L2

namespace L2
open PySem PySem.Spec PyProof.Rows
section
variable {X : Cx} {pins : List (Addr × Obj)} {σ : St} {H : Hp} {s : Shared}
end
end L2

namespace L2
open PySem PySem.Spec PyProof.Rows PySem.W PySem.Calls
theorem bits_of_script : ∀ {ns : List Int}, WData.weightAll (ns.map WData.int) ≤ 2 ^ 20 → ∀ x ∈ ns, My.Bd 1048576 x
  | y :: r, h, x, hx => by
    have h' : WData.weight (.int y) + 1 + WData.weightAll (r.map WData.int) ≤ 2 ^ 20 := h
    rcases List.mem_cons.mp hx with e | e
    · subst e
      have w : WData.weight (.int x) = (if x == 0 then 0 else x.natAbs.log2 + 1) := by
        first | rfl | simp [WData.weight]
      unfold My.Bd
      by_cases z : x = 0
      · subst z
        exact Nat.two_pow_pos _
      · have zb : (x == 0) = false := by simpa using z
        rw [w, zb] at h'
        have h2 : x.natAbs.log2 < 1048576 := by
          have e20 : (2 : Nat) ^ 20 = 1048576 := by decide
          rw [e20] at h'
          simp only [Bool.false_eq_true, if_false] at h'
          omega
        exact (Nat.log2_lt (by omega)).mp h2
    · exact bits_of_script (by omega) x e
theorem attach_callB {l : OpenLaw} {n : Nat} {q : Program} {loose : List Str} {XP : (Str → Option Value) → Heap → Prop} {YP : World → Heap → Prop} {d : DefRec}
    (hn : l.most = some n) (hdf : d.params.defaults = [])
    (call : ∀ (w : World) (s₀ s₁ : Shared) (mg mb : Str → Option Value) (fa : Addr) (o : Obj) (pm cd doc : Value) (a : Addr) (vs : List Value) (ns : List Int),
      Ground q loose [] XP w s₀ mg mb s₁.heap → YP w s₁.heap →
      s₁.heap.get? fa = some o → o.data = .func (docDef d.name d.params d.body d.scope pm cd doc) → s₁.heap.CodeRec cd d.name → mg d.name = some (.ref fa) →
      s₁.heap.get? a = some { cls := .type "list", data := .seq vs.toArray } → IntsAre vs ns → ns.length ≤ n → (∀ x ∈ ns, My.Bd 1048576 x) → s₁.gens = #[] →
      codeAny (model l.prog w) callerA (.call (.ref fa) ⟨[.ref a], []⟩) (fun r s' => r = .ok (.ret (.bool true)) ∧ OldK s₁.heap s'.heap ∧ s'.os = s₁.os ∧ AllBare s'.gens) s₁) :
    WalkO q loose XP YP l.row.toRowW d [] (fun f vs => PySem.call f vs) := by
  intro w s₀ s₁ mg mb G Y fa o pm cd doc dV kV ho hd hcd hD hmg hg args vals as hpre hlay hrd hwl hlo
  obtain rfl : dV = .none := Dflts.none hD hdf
  obtain rfl : kV = .none := Dflts.noKw hD
  obtain ⟨a, vs, ns, rfl, rfl, hobj, hints, hlen⟩ := Att.script_of hn hpre hwl
  have hb : ∀ x ∈ ns, My.Bd 1048576 x := by
    have h1 : (WData.list (ns.map WData.int)).layable = true := by
      have h2 : ([WData.list (ns.map WData.int)].all WData.layable) = true := hlay
      simpa using h2
    obtain ⟨_, _, h3⟩ := layableW_iff.mp h1
    refine bits_of_script ?_
    have e : WData.weight (.list (ns.map WData.int)) = WData.weightAll (ns.map WData.int) := by
      first | rfl | simp [WData.weight]
    rw [e] at h3
    exact h3
  refine enter_call (codeAny_mono (call w s₀ s₁ mg mb fa o pm cd doc a vs ns G Y ho (fd_plain hd) hcd hmg hobj hints hlen hb hg) fun r s' hq => ?_)
  obtain ⟨rfl, h2, h3, h4⟩ := hq
  exact ⟨.inl ⟨.bool true, .bool true, [], rfl, fun _ => rfl, .bool true, Att.post_true l _, fun _ => ⟨List.Pairwise.nil, fun _ hm => (nomatch hm)⟩⟩, h2, h3, h4⟩
theorem walk_ofB {l : PySem.W.OpenLaw} {n k : Nat} {q : Program} {loose : List Str} {XP : (Str → Option Value) → Heap → Prop} {YP : World → Heap → Prop} {d : DefRec} {K : Params → PySem.W.Frag} {CX : World → CXT} {sp : World → Sp} {x : Str}
    (hn : l.most = some n) (hn2 : n ≤ sizeLine) (hdf : d.params.defaults = []) (hr : Room k callerA)
    (hY : ∀ (w : World) (h : Heap), YP w h → (K w.params).In h)
    (F : ∀ (w : World) (mg : Str → Option Value) (fa : Addr) (h : Heap), (K w.params).In h → h.Ns mainGlobals mg → mg d.name = some (.ref fa) →
      ∃ fd : FuncData, (∀ (s : Shared) (u : Value), BindsTo s fd ⟨[u], []⟩ [(x, u)]) ∧
        ∀ base : Heap, (K w.params).In base → base.Ns mainGlobals mg → FnOk l.prog w (K w.params) mg base (CX w) k fa fd [x] (sp w))
    (hsp : ∀ (w : World) (H : Hp) (a : Addr) (ns : List Int), ns.length ≤ n → (∀ x ∈ ns, My.Bd 1048576 x) → Only H → SqL (K w.params) H a (ns.map V.int) → sp w [.ref a] H (fun v _ => v = .bl true) fun _ _ _ => False)
    (hCX : ∀ (w : World) (H : Hp) (s : Shared) (e : Value) (s' : Shared), CX w [] H s (fun _ _ _ => False) e s' → False) :
    PySem.W.WalkO q loose XP YP l.row.toRowW d [] (fun f vs => PySem.call f vs) := by
  refine attach_callB hn hdf fun w s₀ s₁ mg mb fa o pm cd doc a vs ns G Y ho hd hcd hmg hobj hints hlen hbits hg => ?_
  have KX := hY w _ Y
  obtain ⟨fd, hb, hF⟩ := F w mg fa _ KX G.T.g hmg
  exact law_call KX G.T.g G.T.b G.T.builtins G.T.nolimit hg hobj hints (Nat.le_trans hlen hn2) hr hF hb (fun H hO hS => hsp w H a ns hlen hbits hO hS) fun H e s' => hCX w H s₁ e s'
end L2

namespace L2
open PySem PySem.Spec PyProof.Rows
noncomputable def rJoin (K : PySem.W.Frag) : V → List V → Hp → VK → Prop := fun x vs H Q => ∃ (l : Addr) (sep : Str) (ts : List Str), x = .str sep ∧ vs = [.ref l] ∧ SqL K H l (ts.map V.str) ∧ JoinOk sep ts = true ∧ Q (.str (Txt.join sep ts)) H
section
variable {X : Cx}
theorem strs_of : ∀ {ts : List Str} {us : List Value}, Vals (ts.map V.str) us → ∃ l : List (Str × Tok), strValues l = us ∧ l.map (·.1) = ts
  | [], _, .nil => ⟨[], rfl, rfl⟩
  | x :: r, _, .cons h t => by
    obtain ⟨tk, rfl⟩ := h
    obtain ⟨l, e1, e2⟩ := strs_of (ts := r) t
    exact ⟨(x, tk) :: l, by rw [← e1]; rfl, by rw [← e2]; rfl⟩
theorem mt_join : MtM X "str.join" (rJoin X.K) := by
  intro pins s σ H x vs v us Q I rx rv h
  obtain ⟨l, sep, ts, rfl, rfl, hq, hok, q⟩ := h
  obtain ⟨t, rfl⟩ := rx
  obtain ⟨u, rfl, ru⟩ := rv.one
  cases ru
  obtain ⟨its, r, pl, hsz⟩ := I.list hq
  obtain ⟨ll, e1, e2⟩ := strs_of r
  refine SC.join (l := ll) (texts := ts) (by rw [e1]; exact pl.isList) e2 hok (fun t' k => ⟨.str _, H, I.tok _, ⟨_, rfl⟩, q⟩)
noncomputable def rSlS : V → Option Int → Option Int → Hp → VK → Prop := fun x lo hi H Q => ∃ z : Str, x = .str z ∧ z.length ≤ sizeLine ∧ Q (.str (Txt.slice z lo hi)) H
theorem sl_str : SlR X rSlS := by
  intro pins s σ H x v vl vu lo hi sl Q I rx hs pl pu h
  obtain ⟨z, rfl, hz, q⟩ := h
  obtain ⟨t, rfl⟩ := rx
  have fin : ∀ (l u : Option (Int × Tok)), s.heap.IsSlice sl l u none → Q (.str (Txt.slice z (l.map (·.1)) (u.map (·.1)))) H → wpAny (model X.prog X.w) X.A (getItem (.str z t) (.ref sl)) (EP X pins σ Q) X.xe s := fun l u hs q =>
    wpAny_getItem_str_slice (l := l) (u := u) (st := none) hs rfl (post_val_or_str ⟨Nat.le_trans (Txt.slice_le z _ _) hz, fun t' k => ⟨.str _, H, I.tok _, ⟨_, rfl⟩, q⟩⟩)
  refine ⟨"str", _, PySem.F.slot_str_getitem.lookup, typeIs_str _ _ _, ?_⟩
  cases pl with
  | none =>
    cases pu with
    | none => exact fin none none hs q
    | int j tj => exact fin none (some (j, tj)) hs q
  | int i ti =>
    cases pu with
    | none => exact fin (some (i, ti)) none hs q
    | int j tj => exact fin (some (i, ti)) (some (j, tj)) hs q
noncomputable def rAddS : R2 := fun x y H Q => ∃ i j, x = .str i ∧ y = .str j ∧ i.length + j.length ≤ sizeLine ∧ Q (.str (i ++ j)) H
theorem op_addS : OpR X (binaryOp .Add) rAddS := op_add_str
end
section
variable {σ : St} {H : Hp} {Q : VK} {K : PySem.W.Frag} {p q : Addr} {xs : List V} {f : Bool → Bool}
theorem z_addS {a b : Str} (h : a.length + b.length ≤ sizeLine) (k : Q (.str (a ++ b)) H) : rAddS (.str a) (.str b) H Q := ⟨a, b, rfl, rfl, h, k⟩
theorem z_slS {z : Str} {lo hi : Option Int} (h : z.length ≤ sizeLine) (k : Q (.str (Txt.slice z lo hi)) H) : rSlS (.str z) lo hi H Q := ⟨z, rfl, h, k⟩
theorem z_ixS {z : Str} {i : Int} {c : Nat} (h : z.length ≤ sizeLine) (ha : atI z.cps.toList i = some c) (k : Q (.str ⟨#[c]⟩) H) : rIxS (.str z) (.int i) H Q := ⟨z, i, c, rfl, rfl, h, ha, k⟩
theorem z_join {sep : Str} {ts : List Str} (h : SqL K H p (ts.map V.str)) (ok : JoinOk sep ts = true) (k : Q (.str (Txt.join sep ts)) H) : rJoin K (.str sep) [.ref p] H Q := ⟨p, sep, ts, rfl, rfl, h, ok, k⟩
theorem z_tyS {z : Str} {S : Prop} (q : S) : tyV K "str" (.str z) H ∧ S := ⟨rfl, q⟩
end
end L2

namespace L2
open PySem PySem.Spec PyProof.Rows
section
variable {prog : Program} {w : World} {A : Around} {R : Result → Shared → Prop} {I : Addr} {fp wr : List Addr} {n : Nat} {P : Nat → Value → Prop} {St : Nat → Heap → Prop} {kw : List (Str × Value)}
end
section
variable {X : Cx}
end
end L2

namespace L2
open PySem PySem.Spec PyProof.Rows
section
variable {σ : St} {H : Hp} {Q : VK}
end
noncomputable def LCN (st : St) (J : It) (te : TE) (H1 : Hp) (Q : VK) : Prop := ∀ acc, H1 acc = none → ∃ W : Nat → Nat → Hp → Prop, (∃ m, W 0 m (upd H1 acc (.lst []))) ∧ ∀ i m H2, W i m H2 →
  (J.stop i H2 ∧ Q (.ref acc) H2) ∨ (J.go i H2 ∧ ∀ x H3, J.yld i H2 x H3 → te (some x :: st) H3 fun v H4 => ∃ xs m', H4 acc = some (.lst xs) ∧ xs.length < sizeLine ∧ m' < m ∧ W (i + 1) m' (upd H4 acc (.lst (xs ++ [v]))))
theorem z_lcn {fr : List (Str × Nat)} {wi : TI} {te : TE} {σ : St} {H : Hp} {Q : VK} (h : wi σ H fun J H1 => LCN (inSt σ fr) J te H1 Q) : tLC fr wi te σ H Q := h
theorem z_r1N {J : It} {j : Int} {st : St} {te : TE} {H : Hp} {Q : VK} (h1 : -(2 ^ 62) ≤ j) (h2 : j < 2 ^ 62) (q : LCN st J te H Q) : -(2 ^ 62) ≤ j ∧ j < 2 ^ 62 ∧ LCN st J te H Q := ⟨h1, h2, q⟩
theorem lcn_range {lo : Int} {n : Nat} {st : St} {te : TE} {H1 : Hp} {Q : VK} (Pv : Nat → List V → Hp → Prop) (hn : n ≤ sizeLine) (h0 : Pv 0 [] H1)
    (hup : ∀ i xs H2 acc o, H1 acc = none → Pv i xs H2 → Pv i xs (upd H2 acc o))
    (step : ∀ i xs acc H2 (S : V → Hp → Prop), i < n → H1 acc = none → Pv i xs H2 → H2 acc = some (.lst xs) → (∀ v H3, Pv (i + 1) (xs ++ [v]) H3 → H3 acc = some (.lst xs) → S v H3) → te (some (.int (lo + (i : Nat))) :: st) H2 S)
    (fin : ∀ acc xs H2, H1 acc = none → xs.length = n → Pv n xs H2 → H2 acc = some (.lst xs) → Q (.ref acc) H2) : LCN st (Itr lo n) te H1 Q := by
  intro acc hacc
  refine ⟨fun i m H2 => ∃ xs, m = n - i ∧ i ≤ n ∧ xs.length = i ∧ Pv i xs H2 ∧ H2 acc = some (.lst xs), ⟨n, [], by simp, Nat.zero_le _, rfl, hup _ _ _ _ _ hacc h0, upd_same⟩, ?_⟩
  rintro i m H2 ⟨xs, rfl, hi, hx, pv, ha⟩
  by_cases hlt : i < n
  · refine .inr ⟨hlt, fun x H3 y => ?_⟩
    obtain ⟨e, y⟩ := y
    subst e y
    refine step i xs acc _ _ hlt hacc pv ha fun v H4 pv4 e4 => ⟨xs, n - (i + 1), e4, by omega, by omega, xs ++ [v], rfl, hlt, by rw [List.length_append, hx]; rfl, hup _ _ _ _ _ hacc pv4, upd_same⟩
  · have e : i = n := by omega
    subst e
    exact .inl ⟨Nat.le_refl _, fin acc xs H2 hacc hx pv ha⟩
theorem lcn_list {K : PySem.W.Frag} {a : Addr} {xs : List V} {st : St} {te : TE} {H1 : Hp} {Q : VK} (g : V → V) (hs : SqL K H1 a xs) (hn : xs.length ≤ sizeLine)
    (step : ∀ x H2 (S : V → Hp → Prop), x ∈ xs → Same H1 H2 → (∀ H3, Same H2 H3 → S (g x) H3) → te (some x :: st) H2 S)
    (fin : ∀ acc H2, H1 acc = none → Same H1 H2 → H2 acc = some (.lst (xs.map g)) → Q (.ref acc) H2) : LCN st (Itl K a) te H1 Q := by
  intro acc hacc
  refine ⟨fun i m H2 => m = xs.length - i ∧ i ≤ xs.length ∧ Same H1 H2 ∧ H2 acc = some (.lst ((xs.take i).map g)), ⟨xs.length, by simp, Nat.zero_le _, Same.new hacc _, by rw [upd_same]; rfl⟩, ?_⟩
  rintro i m H2 ⟨rfl, hi, sH, ha⟩
  by_cases hlt : i < xs.length
  · have hx : xs[i]? = some xs[i] := List.getElem?_eq_getElem hlt
    refine .inr ⟨⟨xs, _, sH.seq hs, hx⟩, fun x H3 y => ?_⟩
    have e := y.2 xs (sH.seq hs)
    rw [hx] at e
    cases e
    rw [y.1]
    refine step _ _ _ (List.getElem_mem hlt) sH fun H4 s4 => ⟨_, xs.length - (i + 1), s4 _ _ ha, ?_, by omega, rfl, hlt, fun b o e => ?_, ?_⟩
    · rw [List.length_map, List.length_take]; omega
    · rw [upd_ne (fun z => by rw [z, hacc] at e; cases e)]
      exact s4 _ _ (sH _ _ e)
    · rw [upd_same, List.take_succ, hx, List.map_append]; rfl
  · have e : i = xs.length := by omega
    subst e
    refine .inl ⟨⟨xs, sH.seq hs, Nat.le_refl _⟩, fin acc H2 hacc sH ?_⟩
    rw [ha, List.take_length]
theorem z_EqB {H : Hp} {Q : VK} {a b : Bool} (q : Q (.bl (decide (a = b))) H) : rEq (.bl a) (.bl b) H Q := by
  refine ⟨rfl, ?_⟩
  have e : decide (V.bl a = V.bl b) = decide (a = b) := by
    by_cases h : a = b
    · subst h; simp
    · rw [decide_eq_false h, decide_eq_false (fun z => h (V.bl.inj z))]
  rw [e]; exact q
end L2

namespace L2
open PySem PySem.Spec PyProof.Rows PySem.Builtin PySem.Builtin.Str
section
variable {X : Cx}
theorem strs_vals : ∀ (l : List (Str × Tok)), Vals ((l.map (·.1)).map V.str) (strValues l)
  | [] => .nil
  | p :: r => .cons ⟨_, rfl⟩ (strs_vals r)
theorem fin_strs {pins : List (Addr × Obj)} {s : Shared} {σ : St} {H : Hp} {Q : VK} (I : Inv X pins σ H s) {ts : List Str} {l : List (Str × Tok)} (hl : l.map (·.1) = ts) (hz : ts.length ≤ sizeLine)
    (q : ∀ p, H p = none → Q (.ref p) (upd H p (.lst (ts.map V.str)))) (tk : Nat) : EP X pins σ Q (.ref s.heap.objs.size) { s with toks := tk, heap := s.heap.push { cls := .type "list", data := .seq (strValues l).toArray } } := by
  subst hl
  refine ⟨.ref s.heap.objs.size, _, I.laid (t' := tk) (fun b o e => Heap.get?_push_of_some _ e) (Nat.le_refl _) (show ObjOk X.prog X.w _ _ _ (.lst _) from ⟨?_, strValues l, _, strs_vals l, Heap.get?_push_size s.heap rfl⟩), rfl, q _ (I.hok.fresh (Nat.le_refl _))⟩
  rw [List.length_map]; exact hz
noncomputable def rSplit : V → List V → Hp → VK → Prop := fun x vs H Q => ∃ z y : Str, x = .str z ∧ vs = [.str y] ∧ (y.length == 0) = false ∧ z.length + 2 ≤ sizeLine ∧ ∀ p, H p = none → Q (.ref p) (upd H p (.lst ((Txt.split z y).map V.str)))
theorem mt_split : MtM X "str.split" rSplit := by
  intro pins s σ H x vs v us Q I rx rv h
  obtain ⟨z, y, rfl, rfl, hy, hz, q⟩ := h
  obtain ⟨t, rfl⟩ := rx
  obtain ⟨u', rfl, ru⟩ := rv.one
  obtain ⟨u, rfl⟩ := ru
  have hsz : z.length ≤ sizeLine := by omega
  have hle := split_le z y
  have hlen : (Txt.split z y).length ≤ sizeLine := by omega
  cases h1 : (decide (z.length < y.length) || decide (strKind z < strKind y))
  · cases hf : (occurrences z y 0 z.length (z.length + 1)).isEmpty
    · have e : Txt.split z y = partsBetween z (occurrences z y 0 z.length (z.length + 1)) y.length := (if_neg (ne_true_of_eq_false h1)).trans (if_neg (ne_true_of_eq_false hf))
      refine call_meets F.slot_str_split (typeIs_str _ _ _) F.entry_str_split (F.args_str_split_2 _ _) (meets_str_split_sep z y t u h1 hy hf hsz (by rw [← e]; exact hlen)) ?_
      show wants _ _ _ { s with toks := _, heap := s.heap.push { cls := .type "list", data := .seq (strsFrom s.toks (partsBetween z (occurrences z y 0 z.length (z.length + 1)) y.length)).toArray } }
      rw [strsFrom_eq]
      exact fin_strs I ((numbered_texts _ _).trans e.symm) hlen q _
    · exact call_meets F.slot_str_split (typeIs_str _ _ _) F.entry_str_split (F.args_str_split_2 _ _) (meets_str_split_not_found z y t u h1 hy hf)
        (fin_strs (l := [(z, t)]) I ((if_neg (ne_true_of_eq_false h1)).trans (if_pos hf)).symm hlen q _)
  · exact call_meets F.slot_str_split (typeIs_str _ _ _) F.entry_str_split (F.args_str_split_2 _ _) (meets_str_split_cannot_occur z y t u h1)
      (fin_strs (l := [(z, t)]) I (if_pos h1).symm hlen q _)
noncomputable def rPart : V → List V → Hp → VK → Prop := fun x vs H Q => ∃ z y : Str, x = .str z ∧ vs = [.str y] ∧ (y.length == 0) = false ∧ z.length ≤ sizeLine ∧ ∀ p, H p = none → Q (.ref p) (upd H p (.tup [.str (Txt.partition z y).1, .str (Txt.partition z y).2.1, .str (Txt.partition z y).2.2]))
theorem mt_partition : MtM X "str.partition" rPart := by
  intro pins s σ H x vs v us Q I rx rv h
  obtain ⟨z, y, rfl, rfl, hy, hz, q⟩ := h
  obtain ⟨t, rfl⟩ := rx
  obtain ⟨u', rfl, ru⟩ := rv.one
  obtain ⟨u, rfl⟩ := ru
  refine call_meets F.slot_str_partition (typeIs_str _ _ _) F.entry_str_partition (F.args_str_partition_2 _ _) (meets_str_partition z y t u hy hz) ?_
  have q' := q _ (I.hok.fresh (Nat.le_refl _))
  unfold Txt.partition at q'
  revert q'
  have fin : ∀ (a b c : Str) (ta tb tc : Tok) (tk : Nat), Q (.ref s.heap.objs.size) (upd H s.heap.objs.size (.tup [.str a, .str b, .str c])) →
      EP X pins σ Q (.ref s.heap.objs.size) { s with toks := tk, heap := s.heap.push { cls := .type "tuple", data := .seq [.str a ta, .str b tb, .str c tc].toArray } } := fun a b c ta tb tc tk q' =>
    ⟨.ref s.heap.objs.size, _, I.laid (t' := tk) (fun b o e => Heap.get?_push_of_some _ e) (Nat.le_refl _) (show ObjOk X.prog X.w _ _ _ (.tup [.str a, .str b, .str c]) from ⟨by simp only [List.length_cons, List.length_nil]; rw [sizeLine_eq]; decide, [.str a ta, .str b tb, .str c tc], .cons ⟨_, rfl⟩ (.cons ⟨_, rfl⟩ (.cons ⟨_, rfl⟩ .nil)), ⟨_, Heap.get?_push_size s.heap rfl, rfl, 0, rfl⟩⟩), rfl, q'⟩
  cases occurrences z y 0 z.length 1 with
  | nil => intro q'; exact fin _ _ _ _ _ _ _ q'
  | cons i r => intro q'; exact fin _ _ _ _ _ _ _ q'
noncomputable def rStarts : V → List V → Hp → VK → Prop := fun x vs H Q => ∃ z y : Str, x = .str z ∧ vs = [.str y] ∧ Q (.bl (Txt.startswith z y)) H
theorem mt_startswith : MtM X "str.startswith" rStarts := by
  intro pins s σ H x vs v us Q I rx rv h
  obtain ⟨z, y, rfl, rfl, q⟩ := h
  obtain ⟨t, rfl⟩ := rx
  obtain ⟨u', rfl, ru⟩ := rv.one
  obtain ⟨u, rfl⟩ := ru
  exact SC.startswith ⟨.bl _, H, I, rfl, q⟩
noncomputable def rAll (K : PySem.W.Frag) : List V → Hp → VK → Prop := fun xs H Q => ∃ (p : Addr) (bs : List Bool), xs = [.ref p] ∧ SqL K H p (bs.map V.bl) ∧ Q (.bl (bs.all fun b => b)) H
theorem bools_at : ∀ {bs : List Bool} {us : List Value}, Vals (bs.map V.bl) us → us = bs.map Value.bool
  | [], _, .nil => rfl
  | b :: r, _, .cons h t => by
    cases h
    rw [bools_at (bs := r) t]; rfl
theorem range_all (bs : List Bool) : (List.range bs.length).all (fun i => bs.getD i true) = bs.all fun b => b := by
  rw [Bool.eq_iff_iff, List.all_eq_true, List.all_eq_true]
  constructor
  · intro h x hx
    obtain ⟨i, hi, e⟩ := List.getElem_of_mem hx
    have := h i (List.mem_range.mpr hi)
    rw [List.getD_eq_getElem?_getD, List.getElem?_eq_getElem hi] at this
    rw [← e]; exact this
  · intro h i hi
    have hi := List.mem_range.mp hi
    rw [List.getD_eq_getElem?_getD, List.getElem?_eq_getElem hi]
    exact h _ (List.getElem_mem hi)
theorem call_all (hc : X.calm = true) : CallR X (.builtin "all") (rAll X.K) := by
  intro pins s σ H xs us Q I r h
  obtain ⟨p, bs, rfl, hq, q⟩ := h
  obtain ⟨u, rfl, ru⟩ := r.one
  cases ru
  obtain ⟨its, v, pl, _⟩ := I.list hq
  have ev := bools_at v
  have hl : s.heap.IsList p its.toArray := pl.isList
  have hlt : p < s.heap.objs.size := by
    obtain ⟨o, ho, _⟩ := hl
    exact Heap.lt_size ho
  refine call_all_walk (wpAny_pyIter_list hl ⟨s.heap.objs.size, [s.heap.objs.size, p], [s.heap.objs.size], its.toArray.size, (fun i v => its.toArray[i]? = some v), _, (fun i => bs.getD i true), rfl, Walks.list (prog := X.prog) (w := X.w) (A := X.A.in1) (I.ok.hd hc) _ p (Nat.ne_of_lt hlt) its.toArray, ⟨⟨_, Heap.get?_push_size _ rfl, rfl, rfl⟩, hl.at fun o e => Heap.get?_push_of_some _ e⟩, ?_, ?_⟩)
  · intro i v s' Q' E' hv hQ
    rw [ev] at hv
    have hv' : (bs.map Value.bool)[i]? = some v := by simpa using hv
    rw [List.getElem?_map] at hv'
    cases hb : bs[i]? with
    | none => rw [hb] at hv'; cases hv'
    | some b =>
      rw [hb] at hv'
      cases hv'
      have : bs.getD i true = b := by rw [List.getD_eq_getElem?_getD, hb]; rfl
      refine wpAny_truthy_bool ?_
      rw [← this]; exact hQ
  · intro h' tk hk
    have e : (List.range its.toArray.size).all (fun i => bs.getD i true) = bs.all fun b => b := by
      rw [← range_all]
      have : its.toArray.size = bs.length := by rw [ev]; simp
      rw [this]
    rw [e]
    exact ⟨.bl _, H, I.kept (t' := tk) (fun b o ho => hk b o (by simp only [List.mem_singleton]; exact Nat.ne_of_lt (Heap.lt_size ho)) (Heap.get?_push_of_some _ ho)), rfl, q⟩
noncomputable def rIntT : List V → Hp → VK → Prop := fun xs H Q => ∃ (z : Str) (n : Int), xs = [.str z] ∧ PySem.intText? z = some n ∧ z.length ≤ 640 ∧ Q (.int n) H
theorem call_intT : CallR X (.type "int") rIntT := by
  intro pins s σ H xs us Q I r h
  obtain ⟨z, n, rfl, hn, hl, q⟩ := h
  obtain ⟨u, rfl, t, rfl⟩ := vals1 r
  exact PySem.W.KIN.call_text hn hl ⟨.int n, H, I.tok _, ⟨_, rfl⟩, q⟩
theorem bt_all : bootBuiltins "all" = some (.builtin "all") := by decide +kernel
noncomputable def tFv (te : TE) : TE := fun σ H Q => te σ H fun x H1 => ∃ i : Int, x = .int i ∧ i.natAbs.log2 < 1920 ∧ Q (.str (Str.ofString (toString i))) H1
theorem pe_fv {e : Expr} {te : TE} {pos : Pos} (he : PE X e te) : PE X (.FormattedValue e (-1) none pos) (tFv te) := by
  intro pins s σ H Q I h
  refine wpAny_FormattedValue_plain (thn (he pins s σ H _ I h) fun v s1 ⟨x, H1, I1, r1, q1⟩ => ?_)
  obtain ⟨i, rfl, hz, q⟩ := q1
  obtain ⟨t, rfl⟩ := r1
  exact wpAny_formatField_int hz ⟨.str _, H1, I1.tok _, ⟨_, rfl⟩, q⟩
theorem pe_fs1 {e : Expr} {te : TE} {pos : Pos} (he : PE X e te) : PE X (.JoinedStr [e] pos) te := fun pins s σ H Q I h => wpAny_JoinedStr_one (he pins s σ H Q I h)
noncomputable def tFs : List TE → Str → TE
  | [], acc => fun _ H Q => Q (.str acc) H
  | t :: r, acc => fun σ H Q => t σ H fun x H1 => ∃ a : Str, x = .str a ∧ (acc ++ a).length ≤ sizeLine ∧ tFs r (acc ++ a) σ H1 Q
inductive PFs (X : Cx) : List Expr → List TE → Prop
  | nil : PFs X [] []
  | cons {e : Expr} {t : TE} {es : List Expr} {ts : List TE} : PE X e t → PFs X es ts → PFs X (e :: es) (t :: ts)
theorem joins_of {es : List Expr} {ts : List TE} (h : PFs X es ts) : ∀ (acc : Str) (pins : List (Addr × Obj)) (s : Shared) (σ : St) (H : Hp) (Q : VK), acc.length ≤ sizeLine → Inv X pins σ H s → tFs ts acc σ H Q →
    Joins (model X.prog X.w) X.A X.xe (evalEach es X.env) acc (fun out s1 => out.length ≤ sizeLine ∧ EP X pins σ Q (.str out s1.toks) { s1 with toks := s1.toks + 1 }) s := by
  induction h with
  | nil => intro acc pins s σ H Q hl I q; exact ⟨hl, .str _, H, I.tok _, ⟨_, rfl⟩, q⟩
  | cons he _ ih =>
    intro acc pins s σ H Q hl I q
    show wpAny _ _ (eval _ X.env) _ _ s
    refine thn (he pins s σ H _ I q) fun v s1 ⟨x, H1, I1, r1, q1⟩ => ?_
    obtain ⟨a, rfl, hz, q⟩ := q1
    obtain ⟨t, rfl⟩ := r1
    exact ⟨a, t, rfl, hz, ih _ pins s1 σ H1 Q hz I1 q⟩
theorem pe_fs {a b : Expr} {es : List Expr} {ts : List TE} {pos : Pos} (h : PFs X (a :: b :: es) ts) : PE X (.JoinedStr (a :: b :: es) pos) (tFs ts Str.empty) :=
  fun pins s σ H Q I q => wpAny_JoinedStr (joins_of h Str.empty pins s σ H Q (by decide) I q)
noncomputable def Its (z : Str) : It := ⟨fun i _ => i < z.cps.size, fun i H x H' => H' = H ∧ ∃ c, z.cps.toList[i]? = some c ∧ x = .str ⟨#[c]⟩, fun i _ => z.cps.size ≤ i⟩
theorem turn_str {P : Program} {w : World} {K : PySem.W.Frag} {tg : Expr} (ty : String) (hn : ["enumerate", "zip", "dict_itemiterator", "dict_reverseitemiterator", "odict_iterator", "itertools.zip_longest", "itertools.pairwise"].contains ty = false) (z : Str) (t : Tok) (it : Addr)
    (W : ∀ A : Around, A.handled = none → Walks P w A it [it] [it] z.cps.size (SignAt z) (fun i h => h.IsStrIter it ty z t i))
    (slf : ∀ (A : Around) (i : Nat) (s : Shared) (Q : Value → Shared → Prop) (E : Value → Shared → Prop), s.heap.IsStrIter it ty z t i → Q (.ref it) s → wpAny (model P w) A (pyIter (.ref it)) Q E s) :
    Turn P w K tg (Its z) [it] it (fun i h => h.IsStrIter it ty z t i ∧ i ≤ z.cps.size) where
  mem := by simp
  obj := fun i h st b hb => by
    have e : b = it := by simpa using hb
    subst e
    obtain ⟨o, e, c, d⟩ := st.1
    exact ⟨o, e, fun v z => by rw [d] at z; cases z⟩
  keep := fun i h h' st k => ⟨let ⟨o, ho, r⟩ := st.1; ⟨o, k it (by simp) o ho, r⟩, st.2⟩
  item := by
    intro X hP hw hK hc i pins s σ H E I hf st hg
    subst hP hw hK
    obtain ⟨f0, f1, f2, f3, f4, f5⟩ := hf it (by simp)
    refine (W X.A (I.ok.hd hc)).item i s _ _ hg st.1 fun v h' tk hv st' kk => ?_
    obtain ⟨c, u, hc', rfl⟩ := hv
    have I1 : Inv X pins σ H { s with heap := h', toks := tk } := I.turned (fun b o hb e => kk b o (by simpa using hb) e) f0 f1 f3 f4 f5
    obtain ⟨o, e, c1, d⟩ := id st'
    refine ⟨_, rfl, go_of (s := { s with heap := h', toks := tk }) e c1 d hn ⟨.str ⟨#[c]⟩, H, I1, ⟨_, rfl⟩, ⟨rfl, c, by rw [Array.getElem?_toList]; exact hc', rfl⟩, ⟨st', hg⟩, fun b hb => (hf b hb).1⟩⟩
  done := by
    intro X hP hw hK hc i pins s σ H E I hf st hg
    subst hP hw hK
    obtain ⟨f0, f1, f2, f3, f4, f5⟩ := hf it (by simp)
    have e : i = z.cps.size := Nat.le_antisymm st.2 hg
    have st1 := st.1
    rw [e] at st1
    exact (W X.A (I.ok.hd hc)).done s _ _ st1 fun h' tk kk => ⟨rfl, I.turned (t' := tk) (fun b o hb e => kk b o (by simpa using hb) e) f0 f1 f3 f4 f5⟩
  self := fun A i s Q E st h => slf A i s Q E st.1 h
noncomputable def iStr (te : TE) : TI := fun σ H R => te σ H fun x H1 => ∃ z : Str, x = .str z ∧ R (Its z) H1
theorem pi_str {tg e : Expr} {te : TE} (he : PE X e te) : PI X tg e (iStr te) := by
  intro pins s σ H R I h
  refine thn (he pins s σ H _ I h) fun v s1 ⟨x, H1, I1, r1, q1⟩ => ?_
  obtain ⟨z, rfl, q⟩ := q1
  obtain ⟨t, rfl⟩ := r1
  have fr : ∀ b ∈ [s1.heap.objs.size], FpOk X pins H1 b := fun b hb => by
    have e : b = s1.heap.objs.size := by simpa using hb
    subst e
    exact I1.fpOk (Nat.le_refl _) (I1.hok.fresh (Nat.le_refl _))
  cases ha : z.cps.all (· < 128)
  · exact wpAny_pyIter_wide ha ⟨s1.heap.objs.size, [s1.heap.objs.size], _, _, H1, rfl, I1.kept (t' := s1.toks) fun b o e => Heap.get?_push_of_some _ e, turn_str "str_iterator" (by decide) z t _ (fun A hA => Walks.strWide hA _ z t) (fun _ _ _ _ _ st h => wpAny_pyIter_striter_wide st h), ⟨⟨_, Heap.get?_push_size _ rfl, rfl, rfl⟩, Nat.zero_le _⟩, fr, q⟩
  · exact wpAny_pyIter_ascii ha ⟨s1.heap.objs.size, [s1.heap.objs.size], _, _, H1, rfl, I1.kept (t' := s1.toks) fun b o e => Heap.get?_push_of_some _ e, turn_str "str_ascii_iterator" (by decide) z t _ (fun A hA => Walks.strAscii hA _ z t) (fun _ _ _ _ _ st h => wpAny_pyIter_striter_ascii st h), ⟨⟨_, Heap.get?_push_size _ rfl, rfl, rfl⟩, Nat.zero_le _⟩, fr, q⟩
end
section
variable {σ : St} {H : Hp} {Q : VK} {te : TE}
theorem z_split {z y : Str} (hy : (y.length == 0) = false) (hz : z.length + 2 ≤ sizeLine) (q : ∀ p H', H p = none → Same H H' → H' p = some (.lst ((Txt.split z y).map V.str)) → Q (.ref p) H') : rSplit (.str z) [.str y] H Q := ⟨z, y, rfl, rfl, hy, hz, fun p hp => q p _ hp (Same.new hp _) upd_same⟩
theorem z_partn {z y : Str} (hy : (y.length == 0) = false) (hz : z.length ≤ sizeLine) (q : ∀ p H', H p = none → Same H H' → H' p = some (.tup [.str (Txt.partition z y).1, .str (Txt.partition z y).2.1, .str (Txt.partition z y).2.2]) → Q (.ref p) H') : rPart (.str z) [.str y] H Q := ⟨z, y, rfl, rfl, hy, hz, fun p hp => q p _ hp (Same.new hp _) upd_same⟩
theorem z_starts {z y : Str} (q : Q (.bl (Txt.startswith z y)) H) : rStarts (.str z) [.str y] H Q := ⟨z, y, rfl, rfl, q⟩
theorem z_all {K : PySem.W.Frag} {p : Addr} {bs : List Bool} (h : SqL K H p (bs.map V.bl)) (q : Q (.bl (bs.all fun b => b)) H) : rAll K [.ref p] H Q := ⟨p, bs, rfl, h, q⟩
theorem z_intT {z : Str} {n : Int} (h : PySem.intText? z = some n) (hl : z.length ≤ 640) (q : Q (.int n) H) : rIntT [.str z] H Q := ⟨z, n, rfl, h, hl, q⟩
theorem z_fv (h : te σ H fun x H1 => ∃ i : Int, x = .int i ∧ i.natAbs.log2 < 1920 ∧ Q (.str (Str.ofString (toString i))) H1) : tFv te σ H Q := h
theorem z_fsn {acc : Str} (q : Q (.str acc) H) : tFs [] acc σ H Q := q
theorem z_fsc {acc : Str} {r : List TE} (h : te σ H fun x H1 => ∃ a : Str, x = .str a ∧ (acc ++ a).length ≤ sizeLine ∧ tFs r (acc ++ a) σ H1 Q) : tFs (te :: r) acc σ H Q := h
theorem z_iS {R : It → Hp → Prop} (h : te σ H fun x H1 => ∃ z : Str, x = .str z ∧ R (Its z) H1) : iStr te σ H R := h
theorem z_iS2 {z : Str} {S : Str → Prop} (q : S z) : ∃ z' : Str, V.str z = .str z' ∧ S z' := ⟨z, rfl, q⟩
theorem z_inS {i j : Str} {S : Str → Str → Prop} (q : S i j) : ∃ i' j' : Str, V.str i = .str i' ∧ V.str j = .str j' ∧ S i' j' := ⟨i, j, rfl, rfl, q⟩
end
theorem f_str {z : Str} {σ : St} {H : Hp} {tb : TS} {g : TG} {nx : St → Hp → Prop} {rt : VK} (Pv : Nat → St → Hp → Prop) (h0 : Pv 0 σ H)
    (hs : ∀ i c σ H, z.cps.toList[i]? = some c → Pv i σ H → g (.str ⟨#[c]⟩) σ H fun σ2 H2 => tb ⟨Pv (i + 1), rt, nx, Pv (i + 1)⟩ σ2 H2) (hd : ∀ σ H, Pv z.cps.size σ H → nx σ H) : FW (Its z) g tb nx rt σ H := by
  refine ⟨fun i m σ H => m = z.cps.size - i ∧ i ≤ z.cps.size ∧ Pv i σ H, ⟨_, rfl, Nat.zero_le _, h0⟩, ?_⟩
  rintro i m σ H ⟨rfl, hi, pv⟩
  by_cases hlt : i < z.cps.size
  · refine .inr ⟨hlt, Pv (i + 1), fun σ' H' p => ⟨z.cps.size - (i + 1), by omega, rfl, hlt, p⟩, fun x H' y => ?_⟩
    obtain ⟨e, c, hc, ex⟩ := y
    subst e ex
    exact hs i c σ _ hc pv
  · have e : i = z.cps.size := by omega
    subst e
    exact .inl ⟨Nat.le_refl _, hd σ H pv⟩
theorem lcn_str {z : Str} {st : St} {te : TE} {H1 : Hp} {Q : VK} (g : Nat → V) (hn : z.cps.size ≤ sizeLine)
    (step : ∀ c H2 (S : V → Hp → Prop), c ∈ z.cps.toList → Same H1 H2 → (∀ H3, Same H2 H3 → S (g c) H3) → te (some (.str ⟨#[c]⟩) :: st) H2 S)
    (fin : ∀ acc H2, H1 acc = none → Same H1 H2 → H2 acc = some (.lst (z.cps.toList.map g)) → Q (.ref acc) H2) : LCN st (Its z) te H1 Q := by
  intro acc hacc
  have hsz : z.cps.toList.length = z.cps.size := by simp
  refine ⟨fun i m H2 => m = z.cps.size - i ∧ i ≤ z.cps.size ∧ Same H1 H2 ∧ H2 acc = some (.lst ((z.cps.toList.take i).map g)), ⟨z.cps.size, by simp, Nat.zero_le _, Same.new hacc _, by rw [upd_same]; rfl⟩, ?_⟩
  rintro i m H2 ⟨rfl, hi, sH, ha⟩
  by_cases hlt : i < z.cps.size
  · refine .inr ⟨hlt, fun x H3 y => ?_⟩
    obtain ⟨e, c, hc, ex⟩ := y
    subst e ex
    refine step c _ _ (List.mem_of_getElem? hc) sH fun H4 s4 => ⟨_, z.cps.size - (i + 1), s4 _ _ ha, ?_, by omega, rfl, hlt, fun b o e => ?_, ?_⟩
    · rw [List.length_map, List.length_take]; omega
    · rw [upd_ne (fun z => by rw [z, hacc] at e; cases e)]
      exact s4 _ _ (sH _ _ e)
    · rw [upd_same, List.take_succ, hc, List.map_append]; rfl
  · have e : i = z.cps.size := by omega
    subst e
    refine .inl ⟨Nat.le_refl _, fin acc H2 hacc sH ?_⟩
    rw [ha, ← hsz, List.take_length]
end L2

namespace L2
open PySem PySem.Spec PyProof.Rows PySem.Builtin PySem.Builtin.Str
section
variable {X : Cx}
noncomputable def rZfill : V → List V → Hp → VK → Prop := fun x vs H Q => ∃ (z : Str) (i : Int), x = .str z ∧ vs = [.int i] ∧ PadOk i = true ∧ Q (.str (Txt.zfill z i)) H
theorem mt_zfill : MtM X "str.zfill" rZfill := by
  intro pins s σ H x vs v us Q I rx rv h
  obtain ⟨z, i, rfl, rfl, hp, q⟩ := h
  obtain ⟨t, rfl⟩ := rx
  obtain ⟨u', rfl, ru⟩ := rv.one
  obtain ⟨u, rfl⟩ := ru
  exact SC.zfill hp (fun t' k => ⟨.str _, H, I.tok _, ⟨_, rfl⟩, q⟩)
theorem z_zfill {H : Hp} {Q : VK} {z : Str} {i : Int} (hp : PadOk i = true) (q : Q (.str (Txt.zfill z i)) H) : rZfill (.str z) [.int i] H Q := ⟨z, i, rfl, rfl, hp, q⟩
noncomputable def rNeL (K : PySem.W.Frag) : R2 := fun x y H Q => ∃ (a b : Addr) (ns ms : List Int), x = .ref a ∧ y = .ref b ∧ SqL K H a (ns.map V.int) ∧ SqL K H b (ms.map V.int) ∧ Q (.bl (!decide (ns = ms))) H
theorem op_neL (hu : X.A.units < cLine) : OpR X (compareOp .NotEq) (rNeL X.K) := by
  intro pins s σ H x y v u Q I rx ry h
  obtain ⟨a, b, ns, ms, rfl, rfl, ha, hb, q⟩ := h
  cases rx
  cases ry
  obtain ⟨its, r1, p1, _⟩ := I.list ha
  obtain ⟨its2, r2, p2, _⟩ := I.list hb
  have i1 : IntsAre its ns := intsAre_of r1
  have i2 : IntsAre its2 ms := intsAre_of r2
  have l1 : its.length = ns.length := i1.length
  have l2 : its2.length = ms.length := i2.length
  by_cases hl : ns.length = ms.length
  · have key := SeqAt.RcNeAt.lists (A := X.A) (s := s) (l := a) (b := b) (items := its.toArray) (items2 := its2.toArray) (e := fun j => decide (ns[j]? = ms[j]?)) p1.isList p2.isList (by rw [List.size_toArray, List.size_toArray, l1, l2, hl]) hu (fun j h1 h2 => by
      have h1' : j < its.length := by simpa using h1
      have h2' : j < its2.length := by simpa using h2
      obtain ⟨n, t, en, ev⟩ := ints_at i1 (List.getElem?_eq_getElem h1')
      obtain ⟨m, t', em, ew⟩ := ints_at i2 (List.getElem?_eq_getElem h2')
      have g1 : its.toArray[j] = .int n t := by rw [← ev]; simp
      have g2 : its2.toArray[j] = .int m t' := by rw [← ew]; simp
      rw [g1, g2, en, em]
      have e : decide (some n = some m) = (n == m) := by
        by_cases z : n = m
        · subst z; simp
        · simp [z]
      rw [e]
      exact SeqAt.EqAt.int_int n t m t')
    have e2 : (!((List.range its.toArray.size).all (fun j => decide (ns[j]? = ms[j]?)))) = !decide (ns = ms) := by
      have := tup_all (ns := ns) (ms := ms) (e := fun j => decide (ns[j]? = ms[j]?)) (fun j _ _ => rfl)
      rw [← hl, Nat.min_self, beq_self_eq_true, Bool.and_true] at this
      rw [List.size_toArray, l1, this]
    rw [e2] at key
    exact key _ _ _ _ ⟨.bl (!decide (ns = ms)), H, I, rfl, q⟩
  · have key := SeqAt.RcNeAt.lists_lengths (A := X.A) (s := s) (l := a) (b := b) (items := its.toArray) (items2 := its2.toArray) p1.isList p2.isList (by rw [List.size_toArray, List.size_toArray, l1, l2]; simpa using hl) hu
    have e : decide (ns = ms) = false := decide_eq_false fun z => hl (by rw [z])
    rw [e] at q
    exact key _ _ _ _ ⟨.bl true, H, I, rfl, q⟩
theorem z_neL {K : PySem.W.Frag} {H : Hp} {Q : VK} {a b : Addr} {ns ms : List Int} (h1 : SqL K H a (ns.map V.int)) (h2 : SqL K H b (ms.map V.int)) (q : Q (.bl (!decide (ns = ms))) H) : rNeL K (.ref a) (.ref b) H Q := ⟨a, b, ns, ms, rfl, rfl, h1, h2, q⟩
end
end L2

namespace My
open PySem PySem.NumText
noncomputable def dg (n : Nat) : List Nat := (Nat.toDigits 10 n).map Char.toNat
theorem dg_small {n : Nat} (h : n < 10) : dg n = [48 + n] := by
  rcases (by omega : n = 0 ∨ n = 1 ∨ n = 2 ∨ n = 3 ∨ n = 4 ∨ n = 5 ∨ n = 6 ∨ n = 7 ∨ n = 8 ∨ n = 9) with e | e | e | e | e | e | e | e | e | e <;> subst e <;> decide
theorem dg_step {n : Nat} (h : 10 ≤ n) : dg n = dg (n / 10) ++ [48 + n % 10] := by
  have hm : n % 10 < 10 := Nat.mod_lt n (by decide)
  have t : Nat.toDigits 10 (n / 10) ++ Nat.toDigits 10 (n % 10) = Nat.toDigits 10 (10 * (n / 10) + n % 10) := Nat.toDigits_append_toDigits (by decide) (by omega) hm
  rw [Nat.div_add_mod] at t
  unfold dg
  rw [← t, List.map_append]
  congr 1
  exact dg_small hm
theorem dg_dig (n : Nat) : AllDigits (dg n) := by
  intro c hc
  obtain ⟨ch, hch, e⟩ := List.mem_map.mp hc
  have r := PyProof.Rows.digit_range (Nat.isDigit_of_mem_toDigits (by decide) (by decide) hch)
  rw [← e]
  exact r
theorem dg_val (n : Nat) : digitsVal (dg n) = n := PySem.W.KIN.val_back n
theorem dg_ne (n : Nat) : dg n ≠ [] := by
  rcases Nat.lt_or_ge n 10 with h | h
  · rw [dg_small h]; exact List.cons_ne_nil _ _
  · rw [dg_step h]; simp
theorem dg_head : ∀ n : Nat, 0 < n → (dg n).head? ≠ some 48 := by
  intro n
  induction n using Nat.strongRecOn with
  | _ n ih =>
    intro h0
    rcases Nat.lt_or_ge n 10 with h | h
    · rw [dg_small h]
      intro z
      have := Option.some.inj z
      omega
    · rw [dg_step h, List.head?_append]
      have i := ih (n / 10) (by omega) (by omega)
      cases q : (dg (n / 10)).head? with
      | none => exact absurd (List.head?_eq_none_iff.mp q) (dg_ne _)
      | some c =>
        rw [q] at i
        exact i
theorem dg_len {n k : Nat} (hk : 1 ≤ k) (h : n < 10 ^ k) : (dg n).length ≤ k := by
  unfold dg
  rw [List.length_map]
  exact PyProof.Rows.digits10_le hk h
theorem canon_aux : ∀ (k : Nat) (cs : List Nat), cs.length = k → AllDigits cs → cs ≠ [] → cs.head? ≠ some 48 → dg (digitsVal cs) = cs ∧ 0 < digitsVal cs
  | 0, cs, hk, _, hn, _ => absurd (List.eq_nil_of_length_eq_zero hk) hn
  | k + 1, cs, hk, hd, hn, hh => by
    have e := (List.dropLast_concat_getLast hn).symm
    generalize hc : cs.getLast hn = c at e
    generalize hds : cs.dropLast = ds at e
    have c1 : 48 ≤ c ∧ c ≤ 57 := hd c (by rw [e]; simp)
    have dd : AllDigits ds := fun x hx => hd x (by rw [e]; exact List.mem_append_left _ hx)
    rcases ds with _ | ⟨x, r⟩
    · have e' : cs = [c] := e
      have hc48 : c ≠ 48 := fun z => hh (by rw [e', z]; rfl)
      have v : digitsVal cs = c - 48 := by rw [e']; show 0 * 10 + (c - 48) = _; omega
      rw [v]
      refine ⟨?_, by omega⟩
      rw [dg_small (by omega), e']
      congr 1
      omega
    · have hl : (x :: r).length = k := by
        have := congrArg List.length e
        rw [List.length_append, hk] at this
        simp only [List.length_cons, List.length_nil] at this ⊢
        omega
      have hh' : (x :: r).head? ≠ some 48 := fun z => hh (by rw [e]; exact z)
      obtain ⟨i1, i2⟩ := canon_aux k (x :: r) hl dd (List.cons_ne_nil _ _) hh'
      have v : digitsVal cs = digitsVal (x :: r) * 10 + (c - 48) := by rw [e, digitsVal_snoc]
      rw [v]
      refine ⟨?_, by omega⟩
      rw [dg_step (by omega), show (digitsVal (x :: r) * 10 + (c - 48)) / 10 = digitsVal (x :: r) by omega, show (digitsVal (x :: r) * 10 + (c - 48)) % 10 = c - 48 by omega, i1, show 48 + (c - 48) = c by omega]
      exact e.symm
theorem canon {cs : List Nat} (hd : AllDigits cs) (hn : cs ≠ []) (hh : cs.head? ≠ some 48) : dg (digitsVal cs) = cs ∧ 0 < digitsVal cs := canon_aux _ cs rfl hd hn hh
noncomputable def txt (n : Int) : List Nat := if n < 0 then 45 :: dg n.natAbs else dg n.natAbs
theorem txt_is (n : Int) : (Str.ofString (toString n)).cps.toList = txt n := by
  cases n with
  | ofNat m =>
    have : ¬ ((Int.ofNat m) < 0) := by simp
    unfold txt
    rw [if_neg this]
    exact PySem.W.KIN.signs_num m
  | negSucc m =>
    unfold txt
    rw [if_pos (Int.negSucc_lt_zero m), PyProof.Rows.signs_ofString]
    show (("-" ++ Nat.repr (m + 1) : String).toList.map Char.toNat) = 45 :: dg (m + 1)
    rw [String.toList_append, List.map_append, Nat.toList_repr]
    rfl
noncomputable def hd (A : List Nat) : List Nat := if A.head? = some 45 then A.tail else A
noncomputable def val (A : List Nat) : Int := if A.head? = some 45 then -((digitsVal A.tail : Nat) : Int) else ((digitsVal A : Nat) : Int)
noncomputable def plain (cs : List Nat) : Prop := cs ≠ [] ∧ cs.length ≤ 60 ∧ ¬ (cs.head? = some 48 ∧ cs ≠ [48]) ∧ AllDigits cs
noncomputable def figs (cs : List Nat) : Prop := cs ≠ [] ∧ AllDigits cs ∧ cs.length ≤ 60
noncomputable def ok0 (A : List Nat) : Prop := plain (hd A) ∧ A ≠ [45, 48]
theorem plain.figs {cs : List Nat} (h : plain cs) : figs cs := ⟨h.1, h.2.2.2, h.2.1⟩
theorem dig_not_45 {cs : List Nat} (h : AllDigits cs) : cs.head? ≠ some 45 := by
  intro z
  cases cs with
  | nil => cases z
  | cons x r =>
    have := h x List.mem_cons_self
    have e : x = 45 := Option.some.inj z
    omega
theorem dig_no47 {cs : List Nat} (h : AllDigits cs) : 47 ∉ cs := fun z => by
  have := h 47 z
  omega
theorem plain_dg {n : Nat} (h : n < 10 ^ 60) : plain (dg n) := by
  refine ⟨dg_ne n, dg_len (by decide) h, fun z => ?_, dg_dig n⟩
  rcases Nat.eq_zero_or_pos n with e | e
  · subst e; exact z.2 (by decide)
  · exact dg_head n e z.1
theorem dg_of_plain {cs : List Nat} (h : plain cs) : dg (digitsVal cs) = cs := by
  obtain ⟨h1, _, h3, h4⟩ := h
  by_cases e : cs = [48]
  · subst e; decide
  · exact (canon h4 h1 fun z => h3 ⟨z, e⟩).1
theorem plain_of_dg {cs : List Nat} (f : figs cs) (h : dg (digitsVal cs) = cs) : plain cs := by
  refine ⟨f.1, f.2.2, fun z => ?_, f.2.1⟩
  rcases Nat.eq_zero_or_pos (digitsVal cs) with e | e
  · rw [e] at h; exact z.2 (by rw [← h]; decide)
  · have := dg_head _ e
    rw [h] at this
    exact this z.1
theorem txt_canon {A : List Nat} (f : figs (hd A)) : txt (val A) = A ↔ ok0 A := by
  by_cases h : A.head? = some 45
  · obtain ⟨B, rfl⟩ : ∃ B, A = 45 :: B := by
      cases A with
      | nil => cases h
      | cons x r => exact ⟨r, by rw [Option.some.inj h]⟩
    have e1 : hd (45 :: B) = B := if_pos rfl
    have e2 : val (45 :: B) = -((digitsVal B : Nat) : Int) := if_pos rfl
    rw [e1] at f
    unfold ok0
    rw [e1, e2]
    constructor
    · intro e
      have p : 0 < digitsVal B := by
        rcases Nat.eq_zero_or_pos (digitsVal B) with z | z
        · rw [z] at e
          have e48 : [48] = 45 :: B := e
          exact absurd (List.head_eq_of_cons_eq e48) (by decide)
        · exact z
      unfold txt at e
      rw [if_pos (by omega)] at e
      have e' : dg (digitsVal B) = B := by
        have := List.tail_eq_of_cons_eq e
        simpa using this
      refine ⟨plain_of_dg f e', fun z => ?_⟩
      have : B = [48] := List.tail_eq_of_cons_eq z
      rw [this] at p
      exact absurd p (by decide)
    · rintro ⟨p, ne⟩
      have n48 : B ≠ [48] := fun z => ne (by rw [z])
      obtain ⟨c1, c2⟩ := canon p.2.2.2 p.1 fun z => p.2.2.1 ⟨z, n48⟩
      unfold txt
      rw [if_pos (by omega)]
      congr 1
      simpa using c1
  · have e1 : hd A = A := if_neg h
    have e2 : val A = ((digitsVal A : Nat) : Int) := if_neg h
    rw [e1] at f
    unfold ok0
    rw [e1, e2]
    have et : txt ((digitsVal A : Nat) : Int) = dg (digitsVal A) := by
      unfold txt
      rw [if_neg (by omega)]
      rfl
    rw [et]
    exact ⟨fun e => ⟨plain_of_dg f e, fun z => h (by rw [z]; rfl)⟩, fun z => dg_of_plain z.1⟩
theorem txt_no47 (n : Int) : 47 ∉ txt n := by
  unfold txt
  split
  · intro z
    rcases List.mem_cons.mp z with z | z
    · omega
    · exact dig_no47 (dg_dig _) z
  · exact dig_no47 (dg_dig _)
theorem hd_txt (n : Int) : hd (txt n) = dg n.natAbs := by
  unfold txt
  split
  · exact if_pos rfl
  · exact if_neg (dig_not_45 (dg_dig _))
theorem val_txt (n : Int) : val (txt n) = n := by
  unfold txt
  split
  · show (if (45 :: dg n.natAbs).head? = some 45 then -((digitsVal (dg n.natAbs) : Nat) : Int) else _) = n
    rw [if_pos (show (45 :: dg n.natAbs).head? = some 45 from rfl)]
    rw [dg_val]
    omega
  · unfold val
    rw [if_neg (dig_not_45 (dg_dig _)), dg_val]
    omega
theorem txt_nat (n : Nat) : txt (n : Int) = dg n := by
  unfold txt
  rw [if_neg (by omega)]
  rfl
theorem first47 : ∀ {A A' B B' : List Nat}, A ++ 47 :: B = A' ++ 47 :: B' → 47 ∉ A → 47 ∉ A' → A = A' ∧ B = B'
  | [], [], _, _, e, _, _ => ⟨rfl, List.tail_eq_of_cons_eq e⟩
  | [], x :: r, _, _, e, _, h => absurd (by rw [List.head_eq_of_cons_eq e]; exact List.mem_cons_self) h
  | x :: r, [], _, _, e, h, _ => absurd (by rw [← List.head_eq_of_cons_eq e]; exact List.mem_cons_self) h
  | x :: r, y :: s, B, B', e, h, h' => by
    have e1 : x = y := List.head_eq_of_cons_eq e
    have e2 : r ++ 47 :: B = s ++ 47 :: B' := List.tail_eq_of_cons_eq e
    obtain ⟨i1, i2⟩ := first47 e2 (fun z => h (List.mem_cons_of_mem _ z)) (fun z => h' (List.mem_cons_of_mem _ z))
    exact ⟨by rw [e1, i1], i2⟩
noncomputable def DueOk (cs : List Nat) (t b : Int) : Prop := (47 ∉ cs ∧ ok0 cs ∧ t = val cs ∧ b = 1) ∨
  ∃ A B, cs = A ++ 47 :: B ∧ 47 ∉ A ∧ ok0 A ∧ plain B ∧ 2 ≤ digitsVal B ∧ Int.gcd (val A) ((digitsVal B : Nat) : Int) = 1 ∧ t = val A ∧ b = ((digitsVal B : Nat) : Int)
theorem no47_app (A B : List Nat) : 47 ∈ A ++ 47 :: B := List.mem_append_right _ List.mem_cons_self
theorem DueOk.uniq {cs : List Nat} {t b t' b' : Int} (h : DueOk cs t b) (h' : DueOk cs t' b') : t = t' ∧ b = b' := by
  rcases h with ⟨h1, h2, rfl, rfl⟩ | ⟨A, B, rfl, a1, a2, a3, a4, a5, rfl, rfl⟩
  · rcases h' with ⟨_, _, rfl, rfl⟩ | ⟨A', B', rfl, _⟩
    · exact ⟨rfl, rfl⟩
    · exact absurd (no47_app _ _) h1
  · rcases h' with ⟨c1, _⟩ | ⟨A', B', e, c1, c2, c3, c4, c5, rfl, rfl⟩
    · exact absurd (no47_app _ _) c1
    · obtain ⟨rfl, rfl⟩ := first47 e a1 c1
      exact ⟨rfl, rfl⟩
noncomputable def shw (t b : Int) : List Nat := if b = 1 then txt t else txt t ++ 47 :: txt b
theorem due_one {A : List Nat} (h : 47 ∉ A) (f : figs (hd A)) : (shw (val A) 1 = A → DueOk A (val A) 1) ∧ (shw (val A) 1 ≠ A → ∀ t b, ¬ DueOk A t b) := by
  have e : shw (val A) 1 = txt (val A) := if_pos rfl
  rw [e]
  refine ⟨fun z => .inl ⟨h, (txt_canon f).mp z, rfl, rfl⟩, fun z t b d => ?_⟩
  rcases d with ⟨_, d, _⟩ | ⟨A', B', rfl, _⟩
  · exact z ((txt_canon f).mpr d)
  · exact absurd (no47_app _ _) h
theorem due_one_not {A : List Nat} (h : 47 ∉ A) (f : ¬ figs (hd A)) : ∀ t b, ¬ DueOk A t b := fun t b d => by
  rcases d with ⟨_, d, _⟩ | ⟨A', B', rfl, _⟩
  · exact f d.1.figs
  · exact absurd (no47_app _ _) h
theorem due_two_not {A B : List Nat} (h : 47 ∉ A) (f : ¬ (figs (hd A) ∧ figs B ∧ 2 ≤ digitsVal B)) : ∀ t b, ¬ DueOk (A ++ 47 :: B) t b := fun t b d => by
  rcases d with ⟨d, _⟩ | ⟨A', B', e, a1, a2, a3, a4, _⟩
  · exact absurd (no47_app _ _) d
  · obtain ⟨rfl, rfl⟩ := first47 e h a1
    exact f ⟨a2.1.figs, a3.figs, a4⟩
theorem due_two {A B : List Nat} {x y : Int} (h : 47 ∉ A) (f : figs (hd A)) (g : figs B) (d0 : digitsVal B ≠ 0) (y0 : 0 < y) (low : Int.gcd x y = 1) (q : qv x y = qv (val A) ((digitsVal B : Nat) : Int)) :
    (shw x y = A ++ 47 :: B → DueOk (A ++ 47 :: B) x y) ∧ (shw x y ≠ A ++ 47 :: B → ∀ t b, ¬ DueOk (A ++ 47 :: B) t b) := by
  constructor
  · intro e
    by_cases y1 : y = 1
    · rw [y1] at e
      have e' : txt x = A ++ 47 :: B := e
      exact absurd (by rw [e']; exact no47_app _ _) (txt_no47 x)
    · have e' : txt x ++ 47 :: txt y = A ++ 47 :: B := by
        unfold shw at e
        rw [if_neg y1] at e
        exact e
      obtain ⟨e1, e2⟩ := first47 e' (txt_no47 x) h
      obtain ⟨k, rfl⟩ : ∃ k : Nat, y = (k : Int) := ⟨y.toNat, by omega⟩
      rw [txt_nat] at e2
      have v1 : val A = x := by rw [← e1, val_txt]
      have v2 : digitsVal B = k := by rw [← e2, dg_val]
      refine .inr ⟨A, B, rfl, h, (txt_canon f).mp (by rw [v1, e1]), plain_of_dg g (by rw [v2, e2]), by omega, by rw [v1, v2]; exact low, v1.symm, by rw [v2]⟩
  · intro e t b d
    rcases d with ⟨d, _⟩ | ⟨A', B', e', a1, a2, a3, a4, a5, _⟩
    · exact absurd (no47_app _ _) d
    · obtain ⟨rfl, rfl⟩ := first47 e' h a1
      obtain ⟨q1, q2⟩ := low_unique y0 (by omega) low a5 (eq_of_qv (by omega) (by omega) q)
      subst q1 q2
      apply e
      unfold shw
      rw [if_neg (by omega), (txt_canon f).mpr a2, txt_nat, dg_of_plain a3]
theorem due_more {A D : List Nat} (h : 47 ∉ A) (m : 47 ∈ D) : (∀ t b, ¬ DueOk (A ++ 47 :: D) t b) ∧ ∀ x y, shw x y ≠ A ++ 47 :: D := by
  constructor
  · intro t b d
    rcases d with ⟨d, _⟩ | ⟨A', B', e, a1, a2, a3, _⟩
    · exact absurd (no47_app _ _) d
    · obtain ⟨rfl, rfl⟩ := first47 e h a1
      exact dig_no47 a3.2.2.2 m
  · intro x y e
    unfold shw at e
    split at e
    · exact absurd (by rw [e]; exact no47_app _ _) (txt_no47 x)
    · obtain ⟨_, e2⟩ := first47 e (txt_no47 x) h
      exact txt_no47 y (by rw [e2]; exact m)
theorem due_shw {t b : Int} (b0 : 0 < b) (low : Int.gcd t b = 1) (ht : t.natAbs < 10 ^ 60) (hb : b.natAbs < 10 ^ 60) : DueOk (shw t b) t b := by
  have f : figs (hd (txt t)) := by rw [hd_txt]; exact (plain_dg ht).figs
  have o : ok0 (txt t) := (txt_canon f).mp (by rw [val_txt])
  unfold shw
  split
  · next e => exact .inl ⟨txt_no47 t, o, (val_txt t).symm, e⟩
  · obtain ⟨k, rfl⟩ : ∃ k : Nat, b = (k : Int) := ⟨b.toNat, by omega⟩
    have hk : k < 10 ^ 60 := hb
    refine .inr ⟨txt t, txt k, rfl, txt_no47 t, o, by rw [txt_nat]; exact plain_dg hk, by rw [txt_nat, dg_val]; omega, by rw [val_txt, txt_nat, dg_val]; exact low, (val_txt t).symm, by rw [txt_nat, dg_val]⟩
end My

namespace My
open PySem PySem.NumText PySem.StrLaws
abbrev cs (z : Str) : List Nat := z.cps.toList
theorem cs_len (z : Str) : (cs z).length = z.length := by simp [Str.length]
theorem cs_ext {a b : Str} (h : cs a = cs b) : a = b := Str.ext' (Array.toList_inj.mp h)
theorem cs_app (a b : Str) : cs (a ++ b) = cs a ++ cs b := by
  show (a.cps ++ b.cps).toList = _
  rw [Array.toList_append]
theorem sl_eq : ("/" : Str) = ⟨#[47]⟩ := by decide
theorem mi_eq : ("-" : Str) = ⟨#[45]⟩ := by decide
theorem part_is (z : Str) : (47 ∉ cs z ∧ Txt.partition z "/" = (z, Str.empty, Str.empty)) ∨ ∃ a b, Txt.partition z "/" = (a, ("/" : Str), b) ∧ cs z = cs a ++ 47 :: cs b ∧ 47 ∉ cs a := by
  have hs := PySem.StrLaws.partition_sum z "/"
  rcases occ_head z "/" 1 (Nat.le_refl 1) with ⟨h0, hn⟩ | ⟨i, r, h0, hi, hn⟩
  · left
    have e : Txt.partition z "/" = (z, Str.empty, Str.empty) := by unfold Txt.partition; rw [h0]
    refine ⟨fun m => ?_, e⟩
    obtain ⟨i, hi, e⟩ := List.getElem_of_mem m
    have : (cs z)[i]? = some 47 := by rw [List.getElem?_eq_getElem hi, e]
    rw [sl_eq] at hn
    exact hn i ((subAt_one z 47 i).mpr this)
  · right
    have e : Txt.partition z "/" = (Builtin.Str.strSub z 0 i, ("/" : Str), Builtin.Str.strSub z (i + ("/" : Str).length) z.length) := by unfold Txt.partition; rw [h0]
    refine ⟨_, _, e, ?_, ?_⟩
    · rw [e] at hs
      have := congrArg cs hs
      rw [cs_app, cs_app] at this
      rw [← this, List.append_assoc]
      rfl
    · rw [sl_eq] at hi hn
      exact part_free z 47 0 i (by have := hi.1; simp only [Str.length] at this ⊢; omega) (fun k _ hk => hn k hk)
theorem join_cons (a b : Str) (r : List Str) : cs (Str.join "/" (a :: b :: r)) = cs a ++ 47 :: cs (Str.join "/" (b :: r)) := by
  show cs (a ++ "/" ++ Str.join "/" (b :: r)) = _
  rw [cs_app, cs_app, List.append_assoc]
  rfl
theorem split_is (z : Str) : (∃ a, Txt.split z "/" = [a] ∧ cs z = cs a ∧ 47 ∉ cs a) ∨ (∃ a b, Txt.split z "/" = [a, b] ∧ cs z = cs a ++ 47 :: cs b ∧ 47 ∉ cs a) ∨
    ∃ a b c r D, Txt.split z "/" = a :: b :: c :: r ∧ cs z = cs a ++ 47 :: D ∧ 47 ∈ D ∧ 47 ∉ cs a := by
  have hj := join_split z "/"
  have hf := split_free z 47
  rw [← sl_eq] at hf
  have hp := PyProof.Rows.split_pos z "/"
  generalize Txt.split z "/" = ts at *
  match ts, hj, hf, hp with
  | [a], hj, hf, _ => exact .inl ⟨a, rfl, congrArg cs hj.symm, hf a List.mem_cons_self⟩
  | [a, b], hj, hf, _ => exact .inr (.inl ⟨a, b, rfl, by rw [← hj]; exact join_cons a b [], hf a List.mem_cons_self⟩)
  | a :: b :: c :: r, hj, hf, _ => exact .inr (.inr ⟨a, b, c, r, _, rfl, by rw [← hj]; exact join_cons a b (c :: r), by rw [join_cons]; exact no47_app _ _, hf a List.mem_cons_self⟩)
theorem starts_is (z : Str) : Txt.startswith z "-" = decide ((cs z).head? = some 45) := by
  rw [Bool.eq_iff_iff, decide_eq_true_eq]
  unfold Txt.startswith
  rw [mi_eq, Bool.and_eq_true, decide_eq_true_eq, subAt_one z 45 0, List.head?_eq_getElem?]
theorem sl_from (z : Str) (h : 1 ≤ z.length) : cs (Txt.slice z (some 1) none) = (cs z).tail := by
  have hl : z.cps.toList.length = z.length := cs_len z
  have e : Txt.slice z (some 1) none = sliceText z (some 1) none := rfl
  rw [e, sliceText_from ⟨by decide, by omega⟩]
  show ((z.cps.toList.drop 1).take _).toArray.toList = _
  rw [List.toList_toArray, List.drop_one, List.take_of_length_le]
  rw [List.length_tail]
  omega
theorem sl_to (z : Str) : cs (Txt.slice z none (some 1)) = (cs z).take 1 := by
  have hl : z.cps.toList.length = z.length := cs_len z
  rcases Nat.eq_zero_or_pos z.length with h | h
  · have e0 : cs z = [] := List.eq_nil_of_length_eq_zero (by rw [cs_len]; omega)
    have := Txt.slice_le z none (some 1)
    have e1 : cs (Txt.slice z none (some 1)) = [] := List.eq_nil_of_length_eq_zero (by rw [cs_len]; omega)
    rw [e0, e1]; rfl
  · have e : Txt.slice z none (some 1) = sliceText z none (some 1) := rfl
    rw [e, sliceText_to ⟨by decide, by omega⟩]
    show ((z.cps.toList.drop 0).take 1).toArray.toList = _
    rw [List.toList_toArray, List.drop_zero]
noncomputable def digB (c : List Nat) : Bool := !c.isEmpty && c.all fun x => decide (48 ≤ x ∧ x ≤ 57)
theorem digB_iff {c : List Nat} : digB c = true ↔ c ≠ [] ∧ AllDigits c := by
  unfold digB AllDigits
  rw [Bool.and_eq_true, List.all_eq_true]
  constructor
  · rintro ⟨h1, h2⟩
    exact ⟨fun z => (by rw [z] at h1; cases h1), fun x hx => of_decide_eq_true (h2 x hx)⟩
  · rintro ⟨h1, h2⟩
    refine ⟨?_, fun x hx => decide_eq_true (h2 x hx)⟩
    cases c with
    | nil => exact absurd rfl h1
    | cons _ _ => rfl
noncomputable def figB (c : List Nat) : Bool := digB c && decide (c.length ≤ 60)
theorem figB_iff {c : List Nat} : figB c = true ↔ figs c := by
  unfold figB figs
  rw [Bool.and_eq_true, digB_iff, decide_eq_true_eq, and_assoc]
theorem in_digits (c : Nat) : (!(Builtin.Str.occurrences ("0123456789" : Str) ⟨#[c]⟩ 0 ("0123456789" : Str).length 1).isEmpty) = decide (48 ≤ c ∧ c ≤ 57) := by
  rw [found_one]
  have e : ("0123456789" : Str).cps.toList = [48, 49, 50, 51, 52, 53, 54, 55, 56, 57] := by decide
  rw [e, Bool.eq_iff_iff, decide_eq_true_eq, decide_eq_true_eq]
  simp only [List.mem_cons, List.not_mem_nil, or_false]
  omega
theorem val_lt_aux : ∀ (c : List Nat) (a : Nat), AllDigits c → c.foldl (fun acc d => acc * 10 + (d - 48)) a < (a + 1) * 10 ^ c.length
  | [], a, _ => by simp
  | d :: r, a, h => by
    have hd := h.head
    have := val_lt_aux r (a * 10 + (d - 48)) h.tail
    rw [List.foldl_cons, List.length_cons, Nat.pow_succ]
    refine Nat.lt_of_lt_of_le this ?_
    have e : (a + 1) * (10 ^ r.length * 10) = ((a + 1) * 10) * 10 ^ r.length := by rw [Nat.mul_assoc, Nat.mul_comm 10]
    rw [e]
    exact Nat.mul_le_mul_right _ (by omega)
theorem val_lt {c : List Nat} (h : figs c) : digitsVal c < 10 ^ 60 := by
  have := val_lt_aux c 0 h.2.1
  refine Nat.lt_of_lt_of_le (show digitsVal c < 1 * 10 ^ c.length from this) ?_
  rw [Nat.one_mul]
  exact Nat.pow_le_pow_right (by decide) h.2.2
theorem val_abs {A : List Nat} (h : figs (hd A)) : (val A).natAbs < 10 ^ 60 := by
  have := val_lt h
  unfold hd at this
  unfold val
  split <;> simp_all
theorem bd200 {n : Int} (h : n.natAbs < 10 ^ 60) : Bd 200 n := by
  unfold Bd
  have e : (10 : Nat) ^ 60 = 1000000000000000000000000000000000000000000000000000000000000 := by decide
  rw [e] at h
  have e2 : (2 : Int) ^ 200 = 1606938044258990275541962092341162602522202993782792835301376 := by decide
  omega
theorem log60 {n : Int} (h : n.natAbs < 10 ^ 60) : n.natAbs.log2 < 1920 := by
  by_cases z : n.natAbs = 0
  · rw [z]; decide
  · rw [Nat.log2_lt z]
    exact Nat.lt_of_lt_of_le h (by decide)
theorem int_of {z : Str} (f : figs (hd (cs z))) : intText? z = some (val (cs z)) ∧ z.length ≤ 61 := by
  have hl := cs_len z
  by_cases h : (cs z).head? = some 45
  · have e1 : hd (cs z) = (cs z).tail := if_pos h
    have e2 : val (cs z) = -((digitsVal (cs z).tail : Nat) : Int) := if_pos h
    rw [e1] at f
    have hz : cs z = 45 :: (cs z).tail := by
      cases q : cs z with
      | nil => rw [q] at h; cases h
      | cons x r =>
        rw [q] at h
        rw [Option.some.inj h]; rfl
    have hlen : z.length ≤ 61 := by
      have := f.2.2
      have e := congrArg List.length hz
      rw [List.length_cons] at e
      omega
    exact ⟨by rw [e2]; exact intText_neg hz f.2.1 f.1 (by omega), hlen⟩
  · have e1 : hd (cs z) = cs z := if_neg h
    have e2 : val (cs z) = ((digitsVal (cs z) : Nat) : Int) := if_neg h
    rw [e1] at f
    have hlen : z.length ≤ 61 := by
      have := f.2.2
      omega
    exact ⟨by rw [e2]; exact intText_digits f.2.1 f.1 (by omega), hlen⟩
theorem val_dig {c : List Nat} (h : AllDigits c) : hd c = c ∧ val c = ((digitsVal c : Nat) : Int) := ⟨if_neg (dig_not_45 h), if_neg (dig_not_45 h)⟩
theorem cs_str (n : Int) : cs (Str.ofString (toString n)) = txt n := txt_is n
theorem txt_len {n : Int} (h : n.natAbs < 10 ^ 60) : (txt n).length ≤ 61 := by
  have := dg_len (by decide) h
  unfold txt
  split
  · rw [List.length_cons]; omega
  · omega
end My

namespace My
open PySem PySem.NumText
noncomputable def pad4 (n : Nat) : List Nat := [48 + n / 1000, 48 + n / 100 % 10, 48 + n / 10 % 10, 48 + n % 10]
noncomputable def pad2 (n : Nat) : List Nat := [48 + n / 10, 48 + n % 10]
theorem fill4 {n : Nat} (h : n < 10000) : List.replicate (4 - (dg n).length) 48 ++ dg n = pad4 n := by
  unfold pad4
  rcases Nat.lt_or_ge n 10 with a | a
  · rw [dg_small a, show n / 1000 = 0 by omega, show n / 100 % 10 = 0 by omega, show n / 10 % 10 = 0 by omega, show n % 10 = n by omega]; rfl
  rcases Nat.lt_or_ge n 100 with b | b
  · rw [dg_step a, dg_small (by omega), show n / 1000 = 0 by omega, show n / 100 % 10 = 0 by omega, show n / 10 % 10 = n / 10 by omega]; rfl
  rcases Nat.lt_or_ge n 1000 with c | c
  · rw [dg_step a, dg_step (by omega), dg_small (by omega), show n / 1000 = 0 by omega, show n / 100 % 10 = n / 10 / 10 by omega]; rfl
  · rw [dg_step a, dg_step (by omega), dg_step (by omega), dg_small (by omega), show n / 1000 = n / 10 / 10 / 10 by omega, show n / 100 % 10 = n / 10 / 10 % 10 by omega]; rfl
theorem fill2 {n : Nat} (h : n < 100) : List.replicate (2 - (dg n).length) 48 ++ dg n = pad2 n := by
  unfold pad2
  rcases Nat.lt_or_ge n 10 with a | a
  · rw [dg_small a, show n / 10 = 0 by omega, show n % 10 = n by omega]; rfl
  · rw [dg_step a, dg_small (by omega)]; rfl
theorem zfill_is (n : Nat) (k : Nat) (hk : k ≤ 1000) : cs (Txt.zfill (Str.ofString (toString (n : Int))) (k : Int)) = List.replicate (k - (dg n).length) 48 ++ dg n := by
  have hc : cs (Str.ofString (toString (n : Int))) = dg n := by rw [cs_str, txt_nat]
  have hl : (Str.ofString (toString (n : Int))).length = (dg n).length := by rw [← cs_len, hc]
  generalize Str.ofString (toString (n : Int)) = x at *
  unfold Txt.zfill
  split
  · next h => rw [hc, show k - (dg n).length = 0 by omega]; rfl
  · next h =>
    have e0 : x.cps[0]? = (dg n).head? := by
      rw [← Array.getElem?_toList, show x.cps.toList = dg n from hc, List.head?_eq_getElem?]
    have hne := dg_ne n
    obtain ⟨c, r, hcr⟩ : ∃ c r, dg n = c :: r := by
      cases q : dg n with
      | nil => exact absurd q hne
      | cons c r => exact ⟨c, r, rfl⟩
    have hd := dg_dig n c (by rw [hcr]; exact List.mem_cons_self)
    have e1 : zfilled x ((k : Int).toNat - x.length) = Builtin.Str.padded x ((k : Int).toNat - x.length) 0 48 := by
      unfold zfilled
      rw [e0, hcr]
      show (match some c with | some 43 | some 45 => _ | _ => _) = _
      split
      · next z => cases z; omega
      · next z => cases z; omega
      · rfl
    rw [e1, hl]
    show (Array.replicate ((k : Int).toNat - (dg n).length) 48 ++ x.cps ++ Array.replicate 0 48).toList = _
    rw [Array.toList_append, Array.toList_append, Array.toList_replicate, Array.toList_replicate, show x.cps.toList = dg n from hc, List.replicate_zero, List.append_nil, Int.toNat_natCast]
noncomputable def dtx (y m e : Nat) : List Nat := pad4 y ++ 45 :: (pad2 m ++ 45 :: pad2 e)
end My

namespace My
open PySem PySem.NumText PySem.StrLaws PySem.Builtin PySem.Builtin.Str
theorem clip_ss (a b n : Nat) : strSliceIndices (some (a : Int)) (some (b : Int)) 1 n = strSliceIndices (some ((min a n : Nat) : Int)) (some ((min b n : Nat) : Int)) 1 n := by
  have e1 : ¬ ((a : Int) < 0) := by omega
  have e2 : ¬ ((b : Int) < 0) := by omega
  have e3 : ¬ (((min a n : Nat) : Int) < 0) := by omega
  have e4 : ¬ (((min b n : Nat) : Int) < 0) := by omega
  have h1 : max (0 : Int) (min (a : Int) (n : Int)) = max 0 (min ((min a n : Nat) : Int) n) := by omega
  have h2 : max (0 : Int) (min (b : Int) (n : Int)) = max 0 (min ((min b n : Nat) : Int) n) := by omega
  unfold strSliceIndices
  simp only [e1, e2, e3, e4, if_false, show (1 : Int) > 0 by decide, if_true]
  rw [h1, h2]
theorem sl_ss (z : Str) (a b : Nat) : cs (Txt.slice z (some (a : Int)) (some (b : Int))) = ((cs z).drop a).take (b - a) := by
  have hl := cs_len z
  have e : Txt.slice z (some (a : Int)) (some (b : Int)) = Txt.slice z (some ((min a z.length : Nat) : Int)) (some ((min b z.length : Nat) : Int)) := by
    unfold Txt.slice
    rw [clip_ss]
  rw [e]
  by_cases h : min a z.length ≤ min b z.length
  · show cs (sliceText z _ _) = _
    rw [sliceText_nat z h (Nat.min_le_right ..)]
    show ((z.cps.toList.drop _).take _).toArray.toList = _
    rw [List.toList_toArray]
    show ((cs z).drop _).take _ = _
    by_cases ha : a ≤ z.length
    · rw [Nat.min_eq_left ha]
      by_cases hb : b ≤ z.length
      · rw [Nat.min_eq_left hb]
      · rw [Nat.min_eq_right (by omega), List.take_of_length_le (by rw [List.length_drop]; omega), List.take_of_length_le (by rw [List.length_drop]; omega)]
    · rw [Nat.min_eq_right (by omega), List.drop_of_length_le (by omega), List.drop_of_length_le (by omega), List.take_nil, List.take_nil]
  · have e0 : strSliceIndices (some ((min a z.length : Nat) : Int)) (some ((min b z.length : Nat) : Int)) 1 z.length = [] := by
      apply List.eq_nil_of_length_eq_zero
      unfold strSliceIndices sliceRange
      have e3 : ¬ (((min a z.length : Nat) : Int) < 0) := by omega
      have e4 : ¬ (((min b z.length : Nat) : Int) < 0) := by omega
      simp only [e3, e4, if_false, show (1 : Int) > 0 by decide, if_true, List.length_map, List.length_range]
      rw [if_neg (by omega)]
      rfl
    have hz : (0 == z.length) = false := by
      rw [beq_eq_false_iff_ne]
      omega
    unfold Txt.slice
    rw [e0]
    simp only [List.length_nil, hz, Bool.and_false]
    show [] = _
    symm
    apply List.eq_nil_of_length_eq_zero
    rw [List.length_take, List.length_drop]
    omega
theorem sl_0s (z : Str) (b : Nat) : cs (Txt.slice z none (some (b : Int))) = (cs z).take b := by
  have e : Txt.slice z none (some (b : Int)) = Txt.slice z (some ((0 : Nat) : Int)) (some (b : Int)) := by
    unfold Txt.slice; rw [sliceIdx_none_lo]; rfl
  rw [e, sl_ss, List.drop_zero, Nat.sub_zero]
theorem sl_s0 (z : Str) (a : Nat) : cs (Txt.slice z (some (a : Int)) none) = (cs z).drop a := by
  have e : Txt.slice z (some (a : Int)) none = Txt.slice z (some (a : Int)) (some ((z.length : Nat) : Int)) := by
    unfold Txt.slice; rw [sliceIdx_none_hi]
  have hl := cs_len z
  rw [e, sl_ss, List.take_of_length_le (by rw [List.length_drop]; omega)]
theorem join_consM (a b : Str) (r : List Str) : cs (Str.join "-" (a :: b :: r)) = cs a ++ 45 :: cs (Str.join "-" (b :: r)) := by
  show cs (a ++ "-" ++ Str.join "-" (b :: r)) = _
  rw [cs_app, cs_app, List.append_assoc]
  rfl
theorem first45 : ∀ {A A' B B' : List Nat}, A ++ 45 :: B = A' ++ 45 :: B' → 45 ∉ A → 45 ∉ A' → A = A' ∧ B = B'
  | [], [], _, _, e, _, _ => ⟨rfl, List.tail_eq_of_cons_eq e⟩
  | [], x :: r, _, _, e, _, h => absurd (by rw [List.head_eq_of_cons_eq e]; exact List.mem_cons_self) h
  | x :: r, [], _, _, e, h, _ => absurd (by rw [← List.head_eq_of_cons_eq e]; exact List.mem_cons_self) h
  | x :: r, y :: s, B, B', e, h, h' => by
    have e1 : x = y := List.head_eq_of_cons_eq e
    have e2 : r ++ 45 :: B = s ++ 45 :: B' := List.tail_eq_of_cons_eq e
    obtain ⟨i1, i2⟩ := first45 e2 (fun z => h (List.mem_cons_of_mem _ z)) (fun z => h' (List.mem_cons_of_mem _ z))
    exact ⟨by rw [e1, i1], i2⟩
theorem no45_app (A B : List Nat) : 45 ∈ A ++ 45 :: B := List.mem_append_right _ List.mem_cons_self
theorem splitM_free (z : Str) : ∀ p ∈ Txt.split z "-", 45 ∉ cs p := by
  have hf := split_free z 45
  rw [← mi_eq] at hf
  exact hf
theorem split3_of {z a b c : Str} (h : Txt.split z "-" = [a, b, c]) : cs z = cs a ++ 45 :: (cs b ++ 45 :: cs c) := by
  have hj := join_split z "-"
  rw [h] at hj
  rw [← hj, join_consM, join_consM]
  rfl
theorem split3_is {z : Str} {A B C : List Nat} (h : cs z = A ++ 45 :: (B ++ 45 :: C)) (hA : 45 ∉ A) (hB : 45 ∉ B) (hC : 45 ∉ C) : ∃ a b c, Txt.split z "-" = [a, b, c] ∧ cs a = A ∧ cs b = B ∧ cs c = C := by
  have hj := join_split z "-"
  have hf := splitM_free z
  have hp := PyProof.Rows.split_pos z "-"
  generalize Txt.split z "-" = ts at *
  match ts, hj, hf, hp with
  | [a], hj, hf, _ =>
    have e : cs z = cs a := congrArg cs hj.symm
    rw [h] at e
    exact absurd (by rw [← e]; exact no45_app _ _) (hf a List.mem_cons_self)
  | [a, b], hj, hf, _ =>
    have e : cs z = cs a ++ 45 :: cs b := by rw [← hj, join_consM]; rfl
    rw [h] at e
    obtain ⟨e1, e2⟩ := first45 e hA (hf a List.mem_cons_self)
    exact absurd (by rw [← e2]; exact no45_app _ _) (hf b (List.mem_cons_of_mem _ List.mem_cons_self))
  | [a, b, c], hj, hf, _ =>
    have e : cs z = cs a ++ 45 :: (cs b ++ 45 :: cs c) := by rw [← hj, join_consM, join_consM]; rfl
    rw [h] at e
    obtain ⟨e1, e2⟩ := first45 e hA (hf a List.mem_cons_self)
    obtain ⟨e3, e4⟩ := first45 e2 hB (hf b (List.mem_cons_of_mem _ List.mem_cons_self))
    exact ⟨a, b, c, rfl, e1.symm, e3.symm, e4.symm⟩
  | a :: b :: c :: d :: r, hj, hf, _ =>
    have e : cs z = cs a ++ 45 :: (cs b ++ 45 :: (cs c ++ 45 :: cs (Str.join "-" (d :: r)))) := by rw [← hj, join_consM, join_consM, join_consM]
    rw [h] at e
    obtain ⟨e1, e2⟩ := first45 e hA (hf a List.mem_cons_self)
    obtain ⟨e3, e4⟩ := first45 e2 hB (hf b (List.mem_cons_of_mem _ List.mem_cons_self))
    exact absurd (by rw [e4]; exact no45_app _ _) hC
theorem pad4_dig (n : Nat) (h : n < 10000) : AllDigits (pad4 n) := by
  intro c hc
  unfold pad4 at hc
  simp only [List.mem_cons, List.not_mem_nil, or_false] at hc
  rcases hc with e | e | e | e <;> omega
theorem pad2_dig (n : Nat) (h : n < 100) : AllDigits (pad2 n) := by
  intro c hc
  unfold pad2 at hc
  simp only [List.mem_cons, List.not_mem_nil, or_false] at hc
  rcases hc with e | e <;> omega
theorem dig_no45 {c : List Nat} (h : AllDigits c) : 45 ∉ c := fun z => by have := h 45 z; omega
theorem pad4_val {n : Nat} (h : n < 10000) : digitsVal (pad4 n) = n := by
  show ((((0 * 10 + (48 + n / 1000 - 48)) * 10 + (48 + n / 100 % 10 - 48)) * 10 + (48 + n / 10 % 10 - 48)) * 10 + (48 + n % 10 - 48)) = n
  omega
theorem pad2_val {n : Nat} (h : n < 100) : digitsVal (pad2 n) = n := by
  show ((0 * 10 + (48 + n / 10 - 48)) * 10 + (48 + n % 10 - 48)) = n
  omega
theorem four_is {c : List Nat} (hl : c.length = 4) (h : AllDigits c) : c = pad4 (digitsVal c) ∧ digitsVal c < 10000 := by
  match c, hl with
  | [p, q, r, s], _ =>
    have h1 := h p (by simp)
    have h2 := h q (by simp)
    have h3 := h r (by simp)
    have h4 := h s (by simp)
    have e : digitsVal [p, q, r, s] = ((((0 * 10 + (p - 48)) * 10 + (q - 48)) * 10 + (r - 48)) * 10 + (s - 48)) := rfl
    rw [e]
    refine ⟨?_, by omega⟩
    unfold pad4
    rw [List.cons.injEq, List.cons.injEq, List.cons.injEq, List.cons.injEq]
    exact ⟨by omega, by omega, by omega, by omega, rfl⟩
theorem two_is {c : List Nat} (hl : c.length = 2) (h : AllDigits c) : c = pad2 (digitsVal c) ∧ digitsVal c < 100 := by
  match c, hl with
  | [p, q], _ =>
    have h1 := h p (by simp)
    have h2 := h q (by simp)
    have e : digitsVal [p, q] = ((0 * 10 + (p - 48)) * 10 + (q - 48)) := rfl
    rw [e]
    refine ⟨?_, by omega⟩
    unfold pad2
    rw [List.cons.injEq, List.cons.injEq]
    exact ⟨by omega, by omega, rfl⟩
noncomputable def DueDay (c : List Nat) (y m e : Int) : Prop := Valid y m e ∧ c = dtx y.toNat m.toNat e.toNat
theorem Valid.bd {y m e : Int} (v : Valid y m e) : y.toNat < 10000 ∧ m.toNat < 100 ∧ e.toNat < 100 := by
  have v1 := v.y2
  have v2 := v.m2
  have v3 := v.e2
  have v4 : mlen y m ≤ 31 := (ml_pos (L := leap y) v.m1 v.m2).2
  omega
theorem due_parts {c A B C : List Nat} (h : c = A ++ 45 :: (B ++ 45 :: C)) (a1 : A.length = 4) (a2 : AllDigits A) (b1 : B.length = 2) (b2 : AllDigits B) (c1 : C.length = 2) (c2 : AllDigits C) :
    (Valid (digitsVal A : Nat) (digitsVal B : Nat) (digitsVal C : Nat) → DueDay c (digitsVal A : Nat) (digitsVal B : Nat) (digitsVal C : Nat)) ∧
    (∀ y m e, DueDay c y m e → y = (digitsVal A : Nat) ∧ m = (digitsVal B : Nat) ∧ e = (digitsVal C : Nat)) := by
  obtain ⟨A1, A2⟩ := four_is a1 a2
  obtain ⟨B1, B2⟩ := two_is b1 b2
  obtain ⟨C1, C2⟩ := two_is c1 c2
  refine ⟨fun v => ⟨v, ?_⟩, fun y m e ⟨v, h'⟩ => ?_⟩
  · rw [Int.toNat_natCast, Int.toNat_natCast, Int.toNat_natCast, h]
    unfold dtx
    rw [← A1, ← B1, ← C1]
  · obtain ⟨w1, w2, w3⟩ := v.bd
    rw [h] at h'
    unfold dtx at h'
    obtain ⟨e1, e2⟩ := first45 h' (dig_no45 a2) (dig_no45 (pad4_dig _ w1))
    obtain ⟨e3, e4⟩ := first45 e2 (dig_no45 b2) (dig_no45 (pad2_dig _ w2))
    have y1 := v.y1
    have m1 := v.m1
    have z1 := v.e1
    rw [e1, e3, e4, pad4_val w1, pad2_val w2, pad2_val w3]
    omega
theorem DueDay.parts {c : List Nat} {y m e : Int} (d : DueDay c y m e) : ∃ A B C, c = A ++ 45 :: (B ++ 45 :: C) ∧ A.length = 4 ∧ AllDigits A ∧ B.length = 2 ∧ AllDigits B ∧ C.length = 2 ∧ AllDigits C ∧ y = (digitsVal A : Nat) ∧ m = (digitsVal B : Nat) ∧ e = (digitsVal C : Nat) := by
  obtain ⟨v, rfl⟩ := d
  obtain ⟨w1, w2, w3⟩ := v.bd
  have y1 := v.y1
  have m1 := v.m1
  have z1 := v.e1
  exact ⟨_, _, _, rfl, rfl, pad4_dig _ w1, rfl, pad2_dig _ w2, rfl, pad2_dig _ w3, by rw [pad4_val w1]; omega, by rw [pad2_val w2]; omega, by rw [pad2_val w3]; omega⟩
theorem DueDay.uniq {c : List Nat} {y m e y' m' e' : Int} (d : DueDay c y m e) (d' : DueDay c y' m' e') : y = y' ∧ m = m' ∧ e = e' := by
  obtain ⟨A, B, C, h, a1, a2, b1, b2, c1, c2, ey, em, ee⟩ := d.parts
  obtain ⟨e1, e2, e3⟩ := (due_parts h a1 a2 b1 b2 c1 c2).2 _ _ _ d'
  rw [ey, em, ee, e1, e2, e3]
  exact ⟨rfl, rfl, rfl⟩
theorem dtx_len (y m e : Nat) : (dtx y m e).length = 10 := rfl
theorem Valid.dbd {y m e : Int} (v : Valid y m e) : 0 ≤ dayOf y m e ∧ dayOf y m e ≤ 3652058 := by
  have r := v.range
  have a : ybeg 1 ≤ ybeg y := ybeg_mono v.y1
  have b : ybeg (y + 1) ≤ ybeg 10000 := ybeg_mono (by have := v.y2; omega)
  have c : ybeg 1 = 0 := by decide
  have d : ybeg 10000 = 3652059 := by decide
  omega
end My

namespace L2
open PySem PySem.Spec PyProof.Rows
theorem z_cut {t : TS} {σ : St} {H : Hp} {U bk ct : St → Hp → Prop} {rt : VK} (J : St → Hp → Prop) (h : ∀ U' : St → Hp → Prop, (∀ σ' H', J σ' H' → U' σ' H') → t ⟨U', rt, bk, ct⟩ σ H) (q : ∀ σ' H', J σ' H' → U σ' H') : t ⟨U, rt, bk, ct⟩ σ H := h U q
theorem lcn_rangeP {lo : Int} {n : Nat} {st : St} {te : TE} {H1 : Hp} {Q : VK} (P : Nat → V → Prop) (hn : n ≤ sizeLine)
    (step : ∀ i H2 (S : V → Hp → Prop), i < n → Same H1 H2 → (∀ v H3, Same H2 H3 → P i v → S v H3) → te (some (.int (lo + (i : Nat))) :: st) H2 S)
    (fin : ∀ acc xs H2, H1 acc = none → xs.length = n → (∀ i v, xs[i]? = some v → P i v) → Same H1 H2 → H2 acc = some (.lst xs) → Q (.ref acc) H2) : LCN st (Itr lo n) te H1 Q := by
  refine lcn_range (fun i xs H2 => xs.length = i ∧ Same H1 H2 ∧ ∀ i v, xs[i]? = some v → P i v) hn ⟨rfl, Same.refl _, fun i v h => by cases h⟩ ?_ ?_ ?_
  · rintro i xs H2 acc o hacc ⟨h1, h2, h3⟩
    exact ⟨h1, fun b u e => by rw [upd_ne (fun z => by rw [z, hacc] at e; cases e)]; exact h2 b u e, h3⟩
  · rintro i xs acc H2 S hi hacc ⟨h1, h2, h3⟩ ha k
    refine step i H2 S hi h2 fun v H3 s3 hv => k v H3 ⟨by rw [List.length_append, h1]; rfl, h2.trans s3, fun j u e => ?_⟩ (s3 _ _ ha)
    rcases Nat.lt_or_ge j xs.length with q | q
    · rw [List.getElem?_append_left q] at e
      exact h3 j u e
    · rw [List.getElem?_append_right q] at e
      have := (List.getElem?_eq_some_iff.mp e).1
      simp at this
      have ej : j = i := by omega
      subst ej
      rw [show j - xs.length = 0 by omega] at e
      cases e
      exact hv
  · rintro acc xs H2 hacc hx ⟨_, h2, h3⟩ ha
    exact fin acc xs H2 hacc hx h3 h2 ha
theorem z_rep {H : Hp} {Q : VK} {l : Addr} {k : Int} {xs : List V} (h : H l = some (.lst xs)) (h1 : 0 ≤ k) (h2 : k ≤ 1000) (h3 : xs.length ≤ 100) (q : ∀ p H', H p = none → Same H H' → H' p = some (.lst (List.replicate k.toNat xs).flatten) → Q (.ref p) H') : rRep (.ref l) (.int k) H Q :=
  ⟨l, k, xs, rfl, rfl, h, by omega, by omega, Nat.le_trans (Nat.mul_le_mul h3 (show k.toNat ≤ 1000 by omega)) (by decide), fun p hp => q p _ hp (Same.new hp _) upd_same⟩
theorem z_catn {H : Hp} {Q : VK} {l m : Addr} {xs zs : List V} (h1 : H l = some (.lst xs)) (h2 : H m = some (.lst zs)) (hl : xs.length + zs.length ≤ 1000) (q : ∀ p H', H p = none → Same H H' → H' p = some (.lst (xs ++ zs)) → Q (.ref p) H') : rCat (.ref l) (.ref m) H Q :=
  ⟨l, m, xs, zs, rfl, rfl, h1, h2, Nat.le_trans hl (by decide), fun p hp => q p _ hp (Same.new hp _) upd_same⟩
theorem z_slLm {K : PySem.W.Frag} {H : Hp} {Q : VK} {p : Addr} {xs : List V} {lo hi : Option Int} (hs : SqL K H p xs) (q : ∀ p' H', H p' = none → Same H H' → H' p' = some (.lst (cutV xs lo hi)) → Q (.ref p') H') : rSlL K (.ref p) lo hi H Q := ⟨p, xs, rfl, hs, fun p' hp => q p' _ hp (Same.new hp _) upd_same⟩
theorem cut_nn (xs : List V) (a b : Nat) : cutV xs (some (a : Int)) (some (b : Int)) = (xs.drop a).take (b - a) := by
  unfold cutV
  rw [HT.sIx_nat, HT.sIx_nat]
  by_cases h : a ≤ xs.length
  · rw [Nat.min_eq_left h]
    by_cases g : b ≤ xs.length
    · rw [Nat.min_eq_left g]
    · rw [Nat.min_eq_right (by omega), List.take_of_length_le (by rw [List.length_drop]; omega), List.take_of_length_le (by rw [List.length_drop]; omega)]
  · rw [List.drop_of_length_le (by omega), List.drop_of_length_le (by omega), List.take_nil, List.take_nil]
theorem cut_0n (xs : List V) (b : Nat) : cutV xs none (some (b : Int)) = xs.take b := by
  have := cut_nn xs 0 b
  rw [List.drop_zero, Nat.sub_zero] at this
  rw [← this]
  unfold cutV
  rw [HT.sIx_nat, HT.sIx_nat, HT.sIx_none]
  simp
end L2
namespace L2
open PySem PySem.Spec PyProof.Rows
noncomputable def rCatL (K : PySem.W.Frag) : R2 := fun x y H Q => ∃ l m xs zs, x = .ref l ∧ y = .ref m ∧ SqL K H l xs ∧ SqL K H m zs ∧ xs.length + zs.length ≤ sizeLine ∧ ∀ p, H p = none → Q (.ref p) (upd H p (.lst (xs ++ zs)))
theorem op_catL {X : Cx} : OpR X (binaryOp .Add) (rCatL X.K) := by
  intro pins s σ H x y v u Q I rx ry h
  obtain ⟨l, b, xs, zs, rfl, rfl, hH, hB, hz, q⟩ := h
  cases rx
  cases ry
  obtain ⟨its, r, p1, _⟩ := I.list hH
  obtain ⟨its2, r2, p2, _⟩ := I.list hB
  have l1 := r.length
  have l2 := r2.length
  obtain ⟨⟨cls, dd, data, sl⟩, ho, hc, n, hd⟩ := p1.isList
  obtain ⟨⟨cls2, dd2, data2, sl2⟩, ho2, hc2, n2, hd2⟩ := p2.isList
  simp only at hc hd hc2 hd2
  subst hc hd hc2 hd2
  have e : its.toArray ++ its2.toArray = (its ++ its2).toArray := by simp
  refine concat_meets ⟨_, ho, rfl⟩ ⟨_, ho2, rfl⟩ noFill_list_add seq_list_add PySem.F.slot_list_add PySem.F.entry_list_add (PySem.F.args_list_add_2 _ _) (list_addW l b its.toArray its2.toArray n n2 dd dd2 sl sl2 (by rw [List.size_toArray, List.size_toArray]; omega)) ⟨ho, ho2, ?_⟩
  rw [e]
  exact ⟨.ref _, _, I.lnew (t' := s.toks) (r.append r2) (by rw [List.length_append]; omega), rfl, q _ I.fresh⟩
theorem z_catL {K : PySem.W.Frag} {H : Hp} {Q : VK} {l m : Addr} {xs zs : List V} (h1 : SqL K H l xs) (h2 : SqL K H m zs) (hl : xs.length + zs.length ≤ 1000) (q : ∀ p H', H p = none → Same H H' → H' p = some (.lst (xs ++ zs)) → Q (.ref p) H') : rCatL K (.ref l) (.ref m) H Q :=
  ⟨l, m, xs, zs, rfl, rfl, h1, h2, Nat.le_trans hl (by decide), fun p hp => q p _ hp (Same.new hp _) upd_same⟩
end L2

namespace L2
open PySem PySem.Spec PyProof.Rows
section
variable {X : Cx} {pins : List (Addr × Obj)} {σ : St} {H : Hp} {s : Shared} {h' : Heap}
end
section
variable {X : Cx}
end
section
variable {σ : St} {H : Hp} {g : TG} {tb : TS} {nx : St → Hp → Prop} {rt : VK} {K : PySem.W.Frag} {a : Addr} {xs : List V}
end
end L2

namespace L2
open PySem PySem.Spec PyProof.Rows

section
variable {κ : Type} [DecidableEq κ]
noncomputable def valV (kvs : List (κ × V)) (k : κ) : Option V := (kvs.find? fun kv => decide (kv.1 = k)).map (·.2)
noncomputable def putK (kvs : List (κ × V)) (k : κ) (v : V) : List (κ × V) :=
  if (kvs.any fun kv => decide (kv.1 = k)) = true then kvs.map (fun kv => if kv.1 = k then (kv.1, v) else kv) else kvs ++ [(k, v)]
noncomputable def dropK (kvs : List (κ × V)) (k : κ) : List (κ × V) := kvs.filter fun kv => decide (kv.1 ≠ k)

theorem valV_pos {p : κ × V} {r : List (κ × V)} {k : κ} (e : p.1 = k) : valV (p :: r) k = some p.2 := by simp [valV, List.find?_cons, e]
theorem valV_neg {p : κ × V} {r : List (κ × V)} {k : κ} (e : ¬ p.1 = k) : valV (p :: r) k = valV r k := by simp [valV, List.find?_cons, e]
theorem RelO.getD {o : Option V} {u : Option Value} {d : V} {d' : Value} (r : RelO o u) (rd : RelV d d') : RelV (o.getD d) (u.getD d') := by
  cases o with
  | none => cases u with
    | none => exact rd
    | some _ => exact (show False from r).elim
  | some _ => cases u with
    | none => exact (show False from r).elim
    | some _ => exact r

theorem KV.val {kvs : List (κ × V)} {vs : List (κ × Value)} (r : KV kvs vs) (k : κ) : RelO (valV kvs k) (valueAt vs k) := by
  unfold KV at r
  induction r with
  | nil => exact True.intro
  | @cons p q ps qs h t ih =>
    obtain ⟨h1, h2⟩ := h
    by_cases e : p.1 = k
    · have e' : q.1 = k := h1.symm.trans e
      have b : valueAt (q :: qs) k = some q.2 := by simp [valueAt, List.find?_cons, e']
      rw [valV_pos e, b]; exact h2
    · have e' : ¬ q.1 = k := fun z => e (h1.trans z)
      have b : valueAt (q :: qs) k = valueAt qs k := by simp [valueAt, List.find?_cons, e']
      rw [valV_neg e, b]; exact ih
theorem KV.any {kvs : List (κ × V)} {vs : List (κ × Value)} (r : KV kvs vs) (k : κ) : (kvs.any fun kv => decide (kv.1 = k)) = vs.any fun kv => decide (kv.1 = k) := by
  unfold KV at r
  induction r with
  | nil => rfl
  | cons h t ih => rw [List.any_cons, List.any_cons, ih, h.1]
theorem KV.drop {kvs : List (κ × V)} {vs : List (κ × Value)} (r : KV kvs vs) (k : κ) : KV (dropK kvs k) (without vs k) := by
  unfold KV at r ⊢
  unfold dropK without
  induction r with
  | nil => exact .nil
  | @cons p q ps qs h t ih =>
    obtain ⟨h1, h2⟩ := h
    rw [List.filter_cons, List.filter_cons]
    by_cases e : p.1 = k
    · have a : ¬ decide (p.1 ≠ k) = true := by simp [e]
      have b : ¬ decide (q.1 ≠ k) = true := by simp [h1.symm.trans e]
      rw [if_neg a, if_neg b]; exact ih
    · have e' : ¬ q.1 = k := fun z => e (h1.trans z)
      have a : decide (p.1 ≠ k) = true := by simp [e]
      have b : decide (q.1 ≠ k) = true := by simp [e']
      rw [if_pos a, if_pos b]; exact .cons ⟨h1, h2⟩ ih
theorem KV.length {kvs : List (κ × V)} {vs : List (κ × Value)} (r : KV kvs vs) : kvs.length = vs.length := Paired.length r
end


abbrev KT (H : Hp) : List (List Key × V) → List (List Key × Addr × Value) → Prop := Paired fun p q => p.1 = q.1 ∧ H q.2.1 = some (.tup (p.1.map kV)) ∧ RelV p.2 q.2.2
theorem KT.val {H : Hp} {kvs : List (List Key × V)} {xs : List (List Key × Addr × Value)} (r : KT H kvs xs) (k : List Key) : RelO (valV kvs k) ((atKey xs k).map (·.2)) := by
  induction r with
  | nil => exact True.intro
  | @cons p q ps qs h t ih =>
    obtain ⟨h1, _, h2⟩ := h
    by_cases e : p.1 = k
    · have e' : q.1 = k := h1.symm.trans e
      have b : atKey (q :: qs) k = some q.2 := by simp [atKey, List.find?_cons, e']
      rw [valV_pos e, b]; exact h2
    · have e' : ¬ q.1 = k := fun z => e (h1.trans z)
      have b : atKey (q :: qs) k = atKey qs k := by simp [atKey, List.find?_cons, e']
      rw [valV_neg e, b]; exact ih
theorem KT.keeps {H H' : Hp} {kvs : List (List Key × V)} {xs : List (List Key × Addr × Value)} (r : KT H kvs xs) (ht : ∀ b ys, H b = some (.tup ys) → H' b = some (.tup ys)) : KT H' kvs xs :=
  Paired.mapP r fun _ _ z => ⟨z.1, ht _ _ z.2.1, z.2.2⟩

section
variable {P : Program} {w : World} {H : Hp} {h : Heap} {a : Addr}
end

noncomputable def DGet (H : Hp) (a : Addr) (y : V) (r : Option V) : Prop :=
  (∃ kvs k, Rd H a (.dK kvs) ∧ y = kV k ∧ r = valV kvs k) ∨ ∃ kvs k b, Rd H a (.dT kvs) ∧ y = .ref b ∧ H b = some (.tup (k.map kV)) ∧ r = valV kvs k
noncomputable def DPut (H : Hp) (a : Addr) (y v : V) (H' : Hp) : Prop :=
  (∃ kvs k, H a = some (.dK kvs) ∧ y = kV k ∧ kvs.length < sizeLine ∧ H' = upd H a (.dK (putK kvs k v))) ∨
  ∃ kvs k b, H a = some (.dT kvs) ∧ y = .ref b ∧ H b = some (.tup (k.map kV)) ∧ kvs.length < sizeLine ∧ H' = upd H a (.dT (putK kvs k v))
theorem DGet.k {H : Hp} {a : Addr} {kvs : List (Key × V)} {k : Key} (e : H a = some (.dK kvs)) : DGet H a (kV k) (valV kvs k) := .inl ⟨kvs, k, .inl e, rfl, rfl⟩
theorem DGet.t {H : Hp} {a b : Addr} {kvs : List (List Key × V)} {k : List Key} (e : H a = some (.dT kvs)) (eb : H b = some (.tup (k.map kV))) : DGet H a (.ref b) (valV kvs k) := .inr ⟨kvs, k, b, .inl e, rfl, eb, rfl⟩
theorem DPut.k {H : Hp} {a : Addr} {kvs : List (Key × V)} {k : Key} {v : V} (e : H a = some (.dK kvs)) (hl : kvs.length < sizeLine) : DPut H a (kV k) v (upd H a (.dK (putK kvs k v))) := .inl ⟨kvs, k, e, rfl, hl, rfl⟩
theorem DPut.t {H : Hp} {a b : Addr} {kvs : List (List Key × V)} {k : List Key} {v : V} (e : H a = some (.dT kvs)) (eb : H b = some (.tup (k.map kV))) (hl : kvs.length < sizeLine) :
    DPut H a (.ref b) v (upd H a (.dT (putK kvs k v))) := .inr ⟨kvs, k, b, e, rfl, eb, hl, rfl⟩


section
variable {X : Cx} {pins : List (Addr × Obj)} {σ : St} {H : Hp} {s : Shared} {a : Addr} {y v : V} {u r : Value} {o : Option V} {A : Around} {E : Value → Shared → Prop}

end

section
variable {X : Cx} {pins : List (Addr × Obj)} {σ : St} {H : Hp} {s : Shared} {a : Addr} {kvs : List (Key × V)} {k : Key} {u : Value} {A : Around} {E : Value → Shared → Prop}
end


section
variable {X : Cx} {o i e value : Expr} {pos pos' tpos : Pos} {td ty tv : TE}
end


section
variable {X : Cx} {pos : Pos}
end

structure M1 (X : Cx) (o : Expr) (m : Str) (apos : Pos) (e : Expr) (cpos : Pos) : Prop where
  base : attributeBase o m X.env (eval o X.env) = eval o X.env
  few : ((backTo cpos (starEach [e] X.env)).all (fun x => !x.1) && (backToKw cpos (keywordEach [] X.env)).all (fun x => x.1.isSome)
    && decide (([e] : List Expr).length + ([] : List Keyword).length + (if ([] : List Keyword).isEmpty then 0 else 1) < 30)) = true
  line : (apos.endLine == cpos.line) = true
  trees : backTo cpos (starEach [e] X.env) = [(false, eval e X.env)]
section
variable {X : Cx} {pins : List (Addr × Obj)} {σ : St} {H : Hp} {s : Shared} {a : Addr} {y d : V} {u r : Value} {o : Option V} {A : Around} {E : Value → Shared → Prop}
end

section
variable {X : Cx} {o e f : Expr} {apos cpos : Pos} {td ty tx : TE}
end

section
variable {X : Cx} {pins : List (Addr × Obj)} {σ : St} {H : Hp} {s : Shared} {a : Addr} {kvs : List (Key × V)} {A : Around} {E : Value → Shared → Prop}
end


section
variable {X : Cx} {pins : List (Addr × Obj)} {σ : St} {H : Hp} {s : Shared} {a : Addr} {y : V} {u : Value} {A : Around} {E : Value → Shared → Prop}
end
end L2


namespace L2
open PySem PySem.Spec PyProof.Rows
section
variable {X : Cx}
end
section
variable {κ : Type} [DecidableEq κ]
end
end L2

namespace L2
open PySem PySem.Spec PyProof.Rows PySem.Builtin
section
variable {X : Cx}
end
end L2

namespace L2
open PySem PySem.Spec PyProof.Rows
end L2

namespace L2
open PySem PySem.Spec PyProof.Rows

structure ExcF (K : PySem.W.Frag) (C : Addr) : Prop where
  ga : PySem.W.findIn K (.ref C) "__getattribute__" = some (some (.builtin "BaseException.__getattribute__"))
  nohook : PySem.W.findIn K (.ref C) "__getattr__" = some none
  cls : PySem.W.findIn K (.ref C) "__class__" = some (some (.builtin "object.__class__"))
  get : PySem.W.specialIn K (.builtin "object.__class__") "__get__" = some (some (.builtin "getset_descriptor.__get__"))
  tk : PySem.W.takesIn K (.builtin "object.__class__") = some true
  exc : PySem.W.mroIn K C (.type "BaseException") = some true
  obj : PySem.W.mroIn K C (.type "object") = some true

section
open PySem.W PySem.Calls PySem.Builtin PySem.Builtin.ObjectAttr PySem.Builtin.Getset_descriptor
variable {prog : Program} {w : World} {A : Around} {E : Value → Shared → Prop} {s : Shared} {K : Frag} {a C : Addr} {oe : Obj}
theorem exc_type {M : Model} {h : Heap} (p : h.get? a = some oe) (hc : oe.cls = .ref C) : Looks M h (typeOf (.ref a)) (.ref C) := hc ▸ (Looks.ld p).andThen .now
theorem exc_find {M : Model} {h : Heap} (Fx : ExcF K C) (X : K.In h) : Looks M h (find (.ref a) (.ref C) "__class__") (.bind (.builtin "getset_descriptor.__get__") (.builtin "object.__class__")) := by
  have L1 := looks_findIn (M := M) X Fx.cls
  have L2 : Looks M h (getOf (some (.builtin "object.__class__"))) (some (.builtin "getset_descriptor.__get__")) := looks_specialIn X Fx.get
  have L3 := looks_takesIn (M := M) X Fx.tk
  refine L1.andThen (L2.andThen ?_)
  exact (show Looks M h (dataDescriptor? (some (.builtin "object.__class__")) (some (.builtin "getset_descriptor.__get__"))) (some (.builtin "getset_descriptor.__get__", .builtin "object.__class__")) from L3.andThen .now).andThen (Looks.tag .now)
theorem exc_class_get {R : Result → Shared → Prop} {tp : Value} (Fx : ExcF K C) (X : K.In s.heap) (p : s.heap.get? a = some oe) (hc : oe.cls = .ref C)
    (h : R (.ok (.ret (.ref C))) s) : codeAny (model prog w) A (.call (.builtin "getset_descriptor.__get__") ⟨[.builtin "object.__class__", .ref a, tp], []⟩) R s := by
  obtain ⟨hh, g, dr, t, os⟩ := s
  have L0 := exc_type (M := model prog w) p hc
  have L1 := looks_mroIn (M := model prog w) X Fx.obj
  refine codeAny_call_builtin KF.slot_gs.plain KF.entry_gs (KF.slot_gs.check _ _ _ _ _ _ _ _ KF.type_class (KF.args_gs _ _ _) ?_)
  unfold Builtin.«getset_descriptor.__get__» descrGet
  rw [dga_obj]
  refine wpAny_bind (wpAny_pure ?_)
  unfold descrGetter descrCheckInstance descrNameAndClass isInstance
  simp only [KF.owner_class]
  repeat lk
  refine ⟨Code.quiet_builtin _ (by decide +kernel), codeAny_builtin KF.entry_class ?_⟩
  unfold Builtin.«object.__class__» shownTypeOf
  repeat lk
  exact h
theorem exc_check {M : Model} {nameV : Value} {Q : Unit → Shared → Prop} (Fx : ExcF K C) (X : K.In s.heap) (p : s.heap.get? a = some oe) (hc : oe.cls = .ref C) (hq : Q () s) :
    wpAny M A (checkBuiltinCall "BaseException.__getattribute__" ⟨[.ref a, nameV], []⟩) Q E s := by
  obtain ⟨hh, g, dr, t, os⟩ := s
  have hk : builtinKind "BaseException.__getattribute__" = some .slot := by decide +kernel
  have hsplit : splitId "BaseException.__getattribute__" = some ("BaseException", "__getattribute__") := by decide +kernel
  have ha := F.args_bexc_ga (.ref a) nameV
  simp only [checkBuiltinCall, hk, hsplit]
  refine wpAny_bind (wpAny_bind ?_)
  refine (exc_type p hc).at ((looks_mroIn X Fx.exc).at ?_)
  repeat (any_goals (first | assumption | wp_step))
theorem exc_class {Q : Option Value → Shared → Prop} (Fx : ExcF K C) (X : K.In s.heap) (p : s.heap.get? a = some oe) (hc : oe.cls = .ref C) (h : Q (some (.ref C)) { s with toks := s.toks + 1 }) :
    wpAny (model prog w) A (getAttr? (.ref a) "__class__") Q E s := by
  obtain ⟨hh, g, d, t, os⟩ := s
  have L0 := exc_type (M := model prog w) p hc
  have L1 := looks_findIn (M := model prog w) X Fx.ga
  have L2 := looks_findIn (M := model prog w) X Fx.nohook
  unfold getAttr? getAttrBy? getAttrBy
  refine wpAny_bind (wpAny_mkText (wpAny_bind (wpAny_attempt (wpAny_holding (wpAny_bind (L0.at (wpAny_bind (L1.at ?_))))))))
  show wpAny _ _ (if (onTheHeap (Value.ref C) && (Value.builtin "BaseException.__getattribute__" == Value.builtin "object.__getattribute__")) = true then _ else getAttrByItsOwn _ _ _ _ _ _) _ _ _
  have hne : (Value.builtin "BaseException.__getattribute__" == Value.builtin "object.__getattribute__") = false := by decide +kernel
  rw [hne, Bool.and_false, if_neg Bool.false_ne_true]
  unfold getAttrByItsOwn
  refine wpAny_bind ((show Looks (model prog w) hh (hookBefore (.ref C)) none from L2).at ?_)
  refine wpAny_bind (wpAny_attempt (wpAny_holding ?_))
  show wpAny _ _ (boundAndCalled _ _ _) _ _ _
  unfold boundAndCalled
  rw [F.excAttr_ValueError.ga.bind]
  refine wpAny_bind (wpAny_pure ?_)
  refine wpAny_call (codeAny_call_builtin F.excAttr_ValueError.ga.plain F.entry_bexc_ga (exc_check Fx X p hc ?_))
  unfold Builtin.«object.__getattribute__»
  refine wpAny_bind (wpAny_pure (a := (Value.ref a, [Value.str (Str.ofString "__class__") t])) ?_)
  refine wpAny_bind (wpAny_pure (a := Str.ofString "__class__") ?_)
  refine wpAny_bind (L0.at (wpAny_bind ((exc_find (a := a) Fx X).at ?_)))
  show wpAny _ _ (bindTo _ _ _ _) _ _ _
  show wpAny _ _ (holding [Value.builtin "object.__class__"] (call (Value.builtin "getset_descriptor.__get__") [Value.builtin "object.__class__", Value.ref a, Value.ref C]) >>= ret) _ _ _
  refine wpAny_bind (wpAny_holding (wpAny_call (exc_class_get Fx X p hc ?_)))
  show wpAny _ _ (pure _) _ _ _
  refine wpAny_pure ?_
  exact wpAny_pure (wpAny_pure h)
end
end L2

namespace L2
open PySem PySem.Spec PyProof.Rows
theorem kitx_exc {K : PySem.W.Frag} {a C : Addr} {oe : Obj} (Fx : ExcF K C) (hc : oe.cls = .ref C) : PySem.W.KitX K (.ref a) (.ref C) (fun h => h.get? a = some oe) where
  ty := fun _ _ _ p => exc_type p hc
  it := fun _ _ X _ => by
    obtain ⟨cd, hcD, _⟩ := Option.bind_eq_some_iff.mp Fx.obj
    unfold PySem.W.clsIn at hcD
    split at hcD
    · rename_i c' d' cd' sl' ho
      intro A' Q' E' s' k q
      unfold isType loadHead
      exact wpAny_bind (wpAny_loadPart (k _ _ (X _ _ ho)) (wpAny_pure q))
    · cases hcD
  ne := fun h tp dd its n sl X htp => by
    obtain ⟨cd, hcD, _⟩ := Option.bind_eq_some_iff.mp Fx.obj
    refine Bool.eq_false_iff.mpr fun q => ?_
    have e : C = tp := Value.ref.inj (beq_iff_eq.mp q)
    subst e
    unfold PySem.W.clsIn at hcD
    split at hcD
    · rename_i c' d' cd' sl' ho
      have z := (X _ _ ho).symm.trans htp
      cases z
    · cases hcD
  ca := fun X p k => exc_class Fx X p hc k

section
variable {X : Cx} {pins : List (Addr × Obj)} {σ : St} {H H' : Hp} {s s' : Shared}
theorem Inv.goes {i : Nat} {x : Str} {h' : Heap} {m : Str → Option Value} {v' : Option Value} {t' : Nat} (I : Inv X pins σ H s) (hm : s.heap.Ns X.env.locals m)
    (hl : ∀ (i : Nat) (x : Str) (v : V), X.N[i]? = some x → σ[i]? = some (some v) → Vis X.env.scope x → ∃ u, RelV v u ∧ Look X.env s.heap m x u) (hN : X.N.Nodup) (hi : X.N[i]? = some x)
    (hn' : h'.Ns X.env.locals (fun y => if y = x then v' else m y)) (hs : Heap.SameBut X.env.locals s.heap h') : Inv X pins (σ.set i none) H { s with heap := h', toks := t' } := by
  have cne := I.cne
  have hiσ : i < σ.length := by rw [I.len]; exact (List.getElem?_eq_some_iff.mp hi).1
  refine ⟨I.ok, I.os, I.bare, ⟨fun b o e n hb hx => ?_, fun b o e n hb hx => ?_, I.base.free, fun b o e hx => ?_, I.base.tups, I.base.frzs, I.base.tbls⟩, ⟨_, hn', fun j y v e1 e2 e3 => ?_⟩, fun y c e => ?_, I.free, I.freeC, fun p hp => ?_, fun b ob e => ?_, by simpa using I.len⟩
  · exact (hs.2 b (Nat.ne_of_lt (Nat.lt_of_lt_of_le (Heap.lt_size e) I.ok.above))).trans (I.base.keep b o e n hb hx)
  · obtain ⟨sl, e1⟩ := I.base.slot b o e n hb hx
    exact ⟨sl, (hs.2 b (Nat.ne_of_lt (Nat.lt_of_lt_of_le (Heap.lt_size e) I.ok.above))).trans e1⟩
  · obtain ⟨o', e1⟩ := I.base.there b o e hx
    exact ⟨o', (hs.2 b (Nat.ne_of_lt (Nat.lt_of_lt_of_le (Heap.lt_size e) I.ok.above))).trans e1⟩
  · have hj : j ≠ i := by
      rintro rfl
      rw [List.getElem?_set_self hiσ] at e2
      cases e2
    rw [List.getElem?_set_ne (Ne.symm hj)] at e2
    obtain ⟨u', r', q⟩ := hl j y v e1 e2 e3
    refine ⟨u', r', ?_⟩
    rcases q with ⟨k, e⟩ | ⟨k, c, e, z⟩
    · refine .inl ⟨k, ?_⟩
      have : y ≠ x := fun e => hj (nodup_ix hN e1 (e ▸ hi))
      simp [this, e]
    · exact .inr ⟨k, c, e, z.sameBut hs (cne y c e)⟩
  · obtain ⟨w', z⟩ := I.cell y c e
    exact ⟨w', z.sameBut hs (cne y c e)⟩
  · obtain ⟨e, n, ne, nf, d⟩ := I.pin p hp
    exact ⟨(hs.2 p.1 ne).trans e, n, ne, nf, d⟩
  · refine (I.hok b ob e).stay (fun c w' hc q => (hs.2 c ?_).trans q) (fun _ q => q) fun _ _ q => q
    rintro rfl
    rcases hc with rfl | hc
    · rw [I.free] at e; cases e
    · rw [I.free] at hc; cases hc
end
noncomputable def goneD (j : Nat) (D : Ends) : Ends := { nx := fun σ H => D.nx (σ.set j none) H, rt := D.rt, bk := fun σ H => D.bk (σ.set j none) H, ct := fun σ H => D.ct (σ.set j none) H }
section
variable {X : Cx} {pins : List (Addr × Obj)} {σ : St} {H : Hp} {s s' : Shared} {E : XK} {ex : Value} {x n : Str} {T C : Addr} {np hpos : Pos} {b0 : Stmt} {suite : List Stmt} {ts : Addr → TS} {D : Ends} {j : Nat}
theorem ObjOk.thereIs {P : Program} {w : World} {H : Hp} {h : Heap} {a : Addr} {o : HO} (x : ObjOk P w H h a o) : ∃ ob, h.get? a = some ob := by
  cases o with
  | lst xs => obtain ⟨_, _, _, _, e⟩ := x; exact ⟨_, e⟩
  | tup xs => obtain ⟨_, _, _, o, e, _⟩ := x; exact ⟨_, e⟩
  | dK kvs => obtain ⟨_, _, _, _, o, _, _, e, _⟩ := x; exact ⟨_, e⟩
  | dT kvs => obtain ⟨_, _, _, _, o, _, _, e, _⟩ := x; exact ⟨_, e⟩
  | set S n => obtain ⟨o, _, _, _, e, _⟩ := x; exact ⟨_, e⟩
  | ins C dx fs => obtain ⟨_, _, _, e, _⟩ := x; exact ⟨_, e⟩
  | own y => obtain ⟨_, e⟩ := x; exact ⟨_, e⟩
  | xd fs => obtain ⟨_, ⟨_, _, _, e, _⟩, _⟩ := x; exact ⟨_, e⟩
  | rng lo hi => obtain ⟨_, _, _, e⟩ := x; exact ⟨_, e⟩
  | frz ob u => obtain ⟨e, _⟩ := x; exact ⟨_, e⟩
  | tbl ps => exact ⟨_, show h.get? a = some _ from x⟩
  | met f y => exact ⟨_, show h.get? a = some _ from x⟩
  | ext φ => obtain ⟨_, ⟨_, e⟩, _⟩ := x; exact ⟨_, e⟩
end
section
variable {X : Cx} {k : Nat} {f : Addr} {fd : FuncData} {ps : List Str} {sp : Sp} {dvs : List V} {ds : List Value} {fx x cx n : Str} {p cpos px apos np hpos pos : Pos} {e : Expr} {es : List Expr} {t : TA} {T C : Addr} {b0 : Stmt} {suite : List Stmt} {ts : Addr → TS} {i j : Nat}
end
end L2

namespace L2
open PySem PySem.Spec PyProof.Rows
theorem bt_ValueError : bootBuiltins "ValueError" = some (.type "ValueError") := by decide +kernel
section
variable {X : Cx} {pins : List (Addr × Obj)} {σ : St} {H : Hp} {s : Shared}
end
section
variable {X : Cx} {C : Addr} {b : Bool}
end
structure FnOkH (P : Program) (w : World) (K : PySem.W.Frag) (mg : Str → Option Value) (base : Heap) (k : Nat) (f : Addr) (fd : FuncData) (ps : List Str) (sp : Sp) : Prop where
  len : ∀ vs H Q E, sp vs H Q E → vs.length = ps.length
  run : ∀ (A : Around) (a : Addr) (outer : List Env) (s : Shared) (H : Hp) (args : Args) (us : List Value) (vs : List V) (Q : VK) (E : XK), Room k A → Env0 P w K mg base A outer s H → BindsTo s fd args (ps.zip us) → Vals vs us → sp vs H Q E →
    codeAny (model P w) (A.mark (some (.ref a))) (.call (.ref f) args) (CR CX0 outer P w H s Q E) s
section
variable {P : Program} {w : World} {K : PySem.W.Frag} {mg : Str → Option Value} {base : Heap}
theorem Fun.okH {x qual : Str} {st : Stmt} {f : Addr} {fd : FuncData} {N ps : List Str} {k : Nat} {sp : Sp} (F : Fun K x qual st f fd) (S : FnScope N ps (defScope st)) (len : ∀ vs H Q E, sp vs H Q E → vs.length = ps.length)
    (hbody : ∀ (cdv : Value) (A : Around) (outer : List Env) (s : Shared) (H : Hp) (vs : List V) (Q : VK) (E : XK) (a : Addr), Room k (A.deeper (envOfC qual (defScope st) s.heap.objs.size f cdv)) → sp vs H Q E →
      ∃ t, PSs ((cxOf CX0 P w K mg base N qual (defScope st) f cdv A outer s H E).marked a).nox (defBody st) t ∧ t { nx := fun _ H' => Q .non H', rt := Q } (start N vs) H) : FnOkH P w K mg base (k + 1) f fd ps sp := by
  obtain ⟨oc, od, kV, doc, pm, an, cdv, ct, osl, rfl, lk, hcd⟩ := F.ex
  refine ⟨len, fun A a outer s H args us vs Q E hr e0 hb r hsp => ?_⟩
  have hl := len _ _ _ _ hsp
  have KX : K.In s.heap := e0.mod.kin.keeps fun b o e => (e0.bs b o e).1
  have lim : s.heap.NoLimit := e0.mod.nolimit.keeps fun b o e => (e0.bs b o e).1
  have hkind : ∀ y ∈ ps.zip us, (defScope st).names.lookup y.1 = some .local ∨ ((defScope st).names.lookup y.1 = some .cell ∧ ((cellsFrom (s.heap.objs.size + 1) (defScope st).names []).lookup y.1).isSome = true) := fun ⟨n, v⟩ hy => by
    rcases S.par n (List.of_mem_zip hy).1 with q | q
    · exact .inl q
    · exact .inr ⟨q, PySem.W.cellsFrom_some _ _ _ (.inl q)⟩
  refine codeAny_call_function (A := A.mark (some (.ref a))) hr.depth (KX _ _ lk) rfl S.co S.gen rfl (PySem.W.codeRec_of KX hcd) (hb _ _ _ _ ?_)
  refine wpAny_newFunctionEnv_cells S.kind hkind fun env he s1 x => ?_
  subst he
  refine ⟨lim.keeps x.toInCall.keep, codeAny_func ?_⟩
  obtain ⟨t, ht, hq⟩ := hbody cdv A outer s H vs Q E a (hr.deeper _) hsp
  have I : Inv (cxOf CX0 P w K mg base N qual (defScope st) f cdv A outer s H E) [] (start N vs) H s1 := inv_start S hr.hd e0 hl r x
  refine wpAny_mono (ht [] s1 (start N vs) H _ ((I.marked a).wish _) hq) (fun fl s' hs0 => ?_) fun e s' hs => False.elim hs
  have hs := hs0.unwish
  have fin : ∀ {σ' : St} {H' : Hp} {v : V} {u : Value}, Inv ((cxOf CX0 P w K mg base N qual (defScope st) f cdv A outer s H E).marked a) [] σ' H' s' → RelV v u → Q v H' → CE outer P w H s Q u s' :=
    fun {σ' H' v u} J rv q => ⟨v, H', J.os, J.bare, J.base, J.hok, rv, q⟩
  cases fl with
  | ret u =>
    obtain ⟨v, σ', H', J, rv, q⟩ := hs
    exact fin J rv q
  | next =>
    obtain ⟨σ', H', J, q⟩ := hs
    exact fin (v := V.non) (u := Value.none) J rfl q
  | brk =>
    obtain ⟨_, _, _, q⟩ := hs
    exact False.elim q
  | cont =>
    obtain ⟨_, _, _, q⟩ := hs
    exact False.elim q
end
section
variable {X : Cx} {k : Nat} {f : Addr} {fd : FuncData} {ps : List Str} {sp : Sp} {x : Str} {p pos : Pos} {e : Expr} {es : List Expr} {t : TA}
end
section
variable {X : Cx} {pins : List (Addr × Obj)} {σ : St} {H : Hp} {s s' : Shared} {E : XK} {ex : Value} {x n : Str} {T C : Addr} {np hpos : Pos} {b0 : Stmt} {suite : List Stmt} {ts : Addr → TS} {D : Ends} {j : Nat}
theorem name_goneM {M : Model} {A : Around} {a : Addr} {f : Flow} (hN : X.N.Nodup) (hi : X.N[j]? = some n) (hk : X.env.kindOf n = some .local) (ok : X.Ok) (h : SP (X.marked a) pins (goneD j D) f s) :
    wpAny M A (do bindName X.env n .none; unbindBehindTheSuite X.env n hpos) (fun _ s' => SP X pins D f s') (fun _ _ => False) s := by
  have hcls : (X.env.scope.kind == .class || (X.env.scope.kind == .module && X.env.locals != X.env.globals)) = false := by rw [ok.kind]; rfl
  have one : ∀ {σ' : St} {H' : Hp} {Q : Unit → Shared → Prop}, Inv X pins σ' H' s → (∀ s2, Inv X pins (σ'.set j none) H' s2 → Q () s2) → wpAny M A (do bindName X.env n .none; unbindBehindTheSuite X.env n hpos) Q (fun _ _ => False) s := fun {σ' H' Q} I q => by
    obtain ⟨m, hm, hl⟩ := id I.loc
    exact wpAny_nameGoes_keeps hk hm hcls fun h' v hn hs => q _ (I.goes hm hl hN hi hn hs)
  cases f with
  | next => obtain ⟨σ', H', I, q⟩ := h; exact one (I.unmarked ok) fun s2 I2 => ⟨_, H', I2, q⟩
  | brk => obtain ⟨σ', H', I, q⟩ := h; exact one (I.unmarked ok) fun s2 I2 => ⟨_, H', I2, q⟩
  | cont => obtain ⟨σ', H', I, q⟩ := h; exact one (I.unmarked ok) fun s2 I2 => ⟨_, H', I2, q⟩
  | ret u => obtain ⟨v, σ', H', I, r, q⟩ := h; exact one (I.unmarked ok) fun s2 I2 => ⟨v, _, H', I2, r, q⟩
end
section
variable {X : Cx} {k : Nat} {f : Addr} {fd : FuncData} {ps : List Str} {sp : Sp} {dvs : List V} {ds : List Value} {fx x cx n : Str} {p cpos px apos np hpos pos : Pos} {e : Expr} {es : List Expr} {t : TA} {T C : Addr} {b0 : Stmt} {suite : List Stmt} {ts : Addr → TS} {i j : Nat}
end
end L2

namespace L2
open PySem PySem.Spec PyProof.Rows
section
variable {X : Cx} {x : Str} {C : Addr}
theorem ObjOk.here {P : Program} {w : World} {H : Hp} {h : Heap} {a : Addr} {o : HO} (x : ObjOk P w H h a o) : ∃ u, h.get? a = some u := by
  cases o with
  | lst xs => obtain ⟨_, _, _, _, e⟩ := x; exact ⟨_, e⟩
  | tup xs => obtain ⟨_, _, _, p⟩ := x; obtain ⟨_, e⟩ := p; exact ⟨_, e.1⟩
  | dK kvs => obtain ⟨_, _, _, _, o, _, _, e, _⟩ := x; exact ⟨_, e⟩
  | dT kvs => obtain ⟨_, _, _, _, o, _, _, e, _⟩ := x; exact ⟨_, e⟩
  | set S n => obtain ⟨o, _, _, _, e, _⟩ := x; exact ⟨_, e⟩
  | ins C dx fs => obtain ⟨_, _, _, e, _⟩ := x; exact ⟨_, e⟩
  | own y => obtain ⟨_, e⟩ := x; exact ⟨_, e⟩
  | xd fs => obtain ⟨_, ⟨_, _, _, e, _⟩, _⟩ := x; exact ⟨_, e⟩
  | rng lo hi => obtain ⟨_, _, _, e⟩ := x; exact ⟨_, e⟩
  | frz ob u => obtain ⟨e, _⟩ := x; exact ⟨_, e⟩
  | tbl ps => exact ⟨_, (show h.get? a = some _ from x)⟩
  | met f y => exact ⟨_, (show h.get? a = some _ from x)⟩
  | ext φ => obtain ⟨_, ⟨_, e⟩, _⟩ := x; exact ⟨_, e⟩
variable {p pos : Pos} {e0 : Expr} {es : List Expr} {t : TA}
end
end L2

namespace PySem
open Sem (wp)
section
open PySem.W
variable {prog : Program} {w : World} {A : Around} {h : Heap} {g : Array GenState} {d : Drawn} {t : Nat} {os : OsState} {E : Value → Shared → Prop}
variable {nm q : Str} {C N fI : Addr} {bs bm bmB : List Value} {hdct : Bool} {sn : List Str} {sub : List Value} {ab : Bool} {col : Option Bool} {dd : Option Addr} {k0 k1 k2 k3 k5 : Option Value} {B Bn newId nid initId inN : String} {bmN : List Value}
abbrev excNew (h : Heap) (C : Addr) (rest : List Value) : Heap := (h.push { cls := .type "tuple", data := .seq rest.toArray }).push { cls := .ref C, data := .fields #[.ref h.objs.size, .none, .none, .none, .bool false, .none] }
theorem type_call_own (Fn : ExcBaseFacts Bn newId inN bmN) (hBn : bmB.contains (.type Bn) = true) (F : ExcBaseFacts B nid initId bmB) (T : OwnTail h bmB bm) {mN : Str → Option Value} {rest : List Value} {Q : Fin → Shared → Prop}
    (hC : h.get? C = some (excClassObj nm q C N bs bm hdct sn sub ab col dd k0 k1 k2 k3 k5 newId)) (hn : h.Ns N mN) (hni : mN "__init__" = some (.ref fI))
    (hb : ∀ h' : Heap, (∀ b o, h.get? b = some o → h'.get? b = some o) → ∀ self, Looks (model prog w) h' (bindSpecial (.ref fI) self) (.ref fI, [self]))
    (hq : wpAny (model prog w) A (call (.ref fI) (.ref (h.objs.size + 1) :: rest) []) (fun v s' => v = .none ∧ Q (.done (.ret (.ref (h.objs.size + 1)))) s') E ⟨excNew h C rest, g, d, t, os⟩) (hrest : rest.length ≤ sizeLine := by size_fits) :
    wpAny (model prog w) A (Builtin.«type.__call__» ⟨.ref C :: rest, []⟩) Q E ⟨h, g, d, t, os⟩ := by
  repeat (first | with_reducible refine wpAny_loadPart_at hC ?_ | with_reducible refine wpAny_madeBy_exc hC ?_ | wp_step)
  refine codeAny_call_builtin_code (Code.quiet_builtin _ Fn.quiet) (wpAny_check_new_subU Fn hBn T hC ?_)
  refine codeAny_exc_new_subU Fn hBn F T hC ?_ hrest
  show wpAny _ _ _ _ _ _
  have kp : ∀ b o, h.get? b = some o → (excNew h C rest).get? b = some o := fun b o e => Heap.get?_push_of_some _ (Heap.get?_push_of_some _ e)
  have hC₁ := kp _ _ hC
  have hn₁ : (excNew h C rest).Ns N mN := let ⟨o, es, ep, e, r⟩ := hn; ⟨o, es, ep, kp _ _ e, r⟩
  have hget : (excNew h C rest).get? (h.objs.size + 1) = some { cls := .ref C, data := .fields #[.ref h.objs.size, .none, .none, .none, .bool false, .none] } := by unfold excNew; heap_get
  have hcC : (Value.ref C :: bm).contains (.ref C) = true := by simp
  have T₁ := T.keeps kp
  unfold isInstance
  repeat (first | with_reducible refine wpAny_loadPart_at hget ?_ | (with_reducible refine wpAny_isSubtype_exc hC₁ ?_; rw [hcC]) | wp_step)
  show wpAny _ _ (typeLookup (.ref C) _) _ _ _
  refine wpAny_typeLookup_tail hC₁ hn₁ T₁ F.mroIs F.init.lookup ?_
  rw [hni]
  dsimp only
  refine wpAny_holding (wpAny_bind ((hb _ kp _).at ?_))
  dsimp only
  refine wpAny_bind (wpAny_mono hq (fun v s' z => ?_) fun _ _ x => x)
  obtain ⟨rfl, z⟩ := z
  refine wpAny_pure ?_
  dsimp only
  exact wpAny_pure z
theorem wpAny_call_exc_own (Fn : ExcBaseFacts Bn newId inN bmN) (hBn : bmB.contains (.type Bn) = true) (F : ExcBaseFacts B nid initId bmB) (T : OwnTail h bmB bm) {mN : Str → Option Value} {rest : List Value} {Q : Value → Shared → Prop}
    (hC : h.get? C = some (excClassObj nm q C N bs bm hdct sn sub ab col dd k0 k1 k2 k3 k5 newId)) (hn : h.Ns N mN) (hni : mN "__init__" = some (.ref fI))
    (hb : ∀ h' : Heap, (∀ b o, h.get? b = some o → h'.get? b = some o) → ∀ self, Looks (model prog w) h' (bindSpecial (.ref fI) self) (.ref fI, [self]))
    (hq : wpAny (model prog w) (A.under (.builtin "type.__call__" ⟨.ref C :: rest, []⟩)) (call (.ref fI) (.ref (h.objs.size + 1) :: rest) []) (fun v s' => v = .none ∧ Q (.ref (h.objs.size + 1)) s') E ⟨excNew h C rest, g, d, t, os⟩) (hrest : rest.length ≤ sizeLine := by size_fits) :
    wpAny (model prog w) A (call (.ref C) rest) Q E ⟨h, g, d, t, os⟩ := by
  have f1 := tc_lookup
  have f2 := tc_bind (.ref C)
  have hT : (⟨h, g, d, t, os⟩ : Shared).TypeIs (.ref C) "type" := ⟨_, hC, rfl⟩
  refine wpAny_call (codeAny_of_tree ?_)
  show wpAny _ _ (callAny (.ref C) _) _ _ _
  repeat (any_goals (first | assumption | with_reducible refine wpAny_loadPart_at hC ?_ | wp_step))
  refine ⟨rfl, ?_⟩
  refine codeAny_call_builtin_at (Code.quiet_builtin _ (by decide +kernel)) entry_typeCall (wpAny_check_type_call_sub hC (type_call_own (hrest := hrest) Fn hBn F T hC hn hni hb ?_))
  exact hq
end
end PySem

namespace L2
open PySem PySem.Spec PyProof.Rows
noncomputable def overVE : List Value → Bool
  | .ref _ :: r => overVE r
  | l => l == bmVE
theorem over_pass (self : Value) : ∀ {l : List Value}, overVE l = true → refuseLoop self "__setattr__" l = pure ()
  | [], e => by cases e
  | v :: r, e => by
    cases v with
    | ref c => rw [refuseLoop_ref]; exact over_pass self (l := r) (by simpa [overVE] using e)
    | type n => rw [beq_iff_eq.mp (show ((Value.type n :: r) == bmVE) = true from e)]; exact PySem.F.store_ValueError.passes self
    | _ => exact absurd (beq_iff_eq.mp (show ((_ :: r) == bmVE) = true from e)) (by intro z; cases z)
section
open PySem.W PySem.Calls PySem.Builtin PySem.Builtin.ObjectAttr
variable {prog : Program} {w : World} {A : Around} {E : Value → Shared → Prop} {s : Shared} {K : Frag} {a C : Addr} {oe : Obj}
theorem exc_get {od : Obj} {v : Value} {name : Str} {expr : Bool} {Q : Value → Shared → Prop} (Fx : ExcF K C) (X : K.In s.heap) (J : InstAt s.heap a oe C (some od)) (hf : findObj K C (some od) name = some (.value v)) (hh : handedIn v = true)
    (h : Q v { s with toks := s.toks + 1 }) : wpAny (model prog w) A (getAttr (.ref a) name expr) Q E s := by
  obtain ⟨hp, g, d, t, os⟩ := s
  have p := J.at_
  have hc := J.cls
  have L0 := exc_type (M := model prog w) p hc
  have L1 := looks_findIn (M := model prog w) X Fx.ga
  have L2 := looks_findIn (M := model prog w) X Fx.nohook
  have L3 := looks_find (M := model prog w) X J hf
  unfold getAttr getAttrBy
  refine wpAny_bind (wpAny_mkText (wpAny_holding (wpAny_bind (L0.at (wpAny_bind (L1.at ?_))))))
  show wpAny _ _ (if (onTheHeap (Value.ref C) && (Value.builtin "BaseException.__getattribute__" == Value.builtin "object.__getattribute__")) = true then _ else getAttrByItsOwn _ _ _ _ _ _) _ _ _
  have hne : (Value.builtin "BaseException.__getattribute__" == Value.builtin "object.__getattribute__") = false := by decide +kernel
  rw [hne, Bool.and_false, if_neg Bool.false_ne_true]
  unfold getAttrByItsOwn
  refine wpAny_bind ((show Looks (model prog w) hp (hookBefore (.ref C)) none from L2).at ?_)
  refine wpAny_bind (wpAny_attempt (wpAny_holding ?_))
  have hcg : callGetattribute (.ref a) (.str name t) (.builtin "BaseException.__getattribute__") expr = boundAndCalled (.builtin "BaseException.__getattribute__") (.ref a) (.str name t) := by
    cases expr <;> rfl
  rw [hcg]
  unfold boundAndCalled
  rw [F.excAttr_ValueError.ga.bind]
  refine wpAny_bind (wpAny_pure ?_)
  refine wpAny_call (codeAny_call_builtin F.excAttr_ValueError.ga.plain F.entry_bexc_ga (exc_check Fx X p hc ?_))
  unfold Builtin.«object.__getattribute__»
  refine wpAny_bind (wpAny_pure (a := (Value.ref a, [Value.str name t])) ?_)
  refine wpAny_bind (wpAny_pure (a := name) ?_)
  refine wpAny_bind (L0.at (wpAny_bind (L3.at ?_)))
  refine wpAny_pure ?_
  show wpAny _ _ (handedOut v) _ _ _
  rw [handedOut_of hh]; exact wpAny_pure h
abbrev withDict (h : Heap) (a : Addr) : Heap := (h.push { cls := .type "dict", data := .dict #[] }).update a fun o => { o with dict := some h.objs.size }
theorem exc_set {name : Str} {v : Value} {Q : Unit → Shared → Prop} (X : K.In s.heap) (J : InstAt s.heap a oe C none) (hs : findIn K (.ref C) "__setattr__" = some (some (.builtin "object.__setattr__")))
    (hp : (clsIn K C).any (fun cd => overVE cd.mro) = true) (hn : findIn K (.ref C) name = some none) (hh : (clsIn K C).any (·.hasDict) = true)
    (h : ∀ h' tk, h'.get? a = some { oe with dict := some s.heap.objs.size } → h'.Ns1 s.heap.objs.size (fun y => if y = name then some v else none) → (∀ b o, b ≠ a → s.heap.get? b = some o → h'.get? b = some o) → Q () { s with heap := h', toks := tk }) :
    wpAny (model prog w) A (setAttr (.ref a) name v) Q E s := by
  refine set_plain X J hs ?_
  have SF := PySem.F.store_object
  obtain ⟨cd, hc, ho⟩ := any_some hp
  obtain ⟨cd2, hc2, hd2⟩ := any_some hh
  rw [hc] at hc2
  cases hc2
  have ne : cd.mro.isEmpty = false := by cases q : cd.mro with | nil => rw [q] at ho; cases ho | cons _ _ => rfl
  have hob : ∀ {l : List Value}, overVE l = true → l.contains (.type "object") = true := fun {l} => by
    induction l with
    | nil => intro e; cases e
    | cons x r ih =>
      intro e
      cases x with
      | ref c => rw [List.contains_cons, ih (by simpa [overVE] using e), Bool.or_true]
      | _ => rw [beq_iff_eq.mp (show ((_ :: r) == bmVE) = true from e)]; decide
  have sub : Looks (model prog w) s.heap (isInstance (.ref a) (.type "object")) true := J.type.andThen (looks_mroIn X (by unfold mroIn; rw [hc, Option.bind_some, if_neg (by rw [ne]; decide), hob ho]))
  refine codeAny_call_builtin SF.slot.plain SF.entry (@check_slot (model prog w) _ _ { s with toks := s.toks + 1 } "object.__setattr__" "object" "__setattr__" (.ref a) [.str name s.toks, v] [] _ SF.kind SF.split sub (SF.args (.ref a) (.str name s.toks) v) ?_)
  have hm : Looks (model prog w) s.heap (mroOf (.ref C)) cd.mro := (looks_clsIn X hc).andThen .now
  obtain ⟨hp, g, d, t, os⟩ := s
  have L0 := J.type (M := model prog w)
  have L1 := looks_findIn (M := model prog w) X hn
  have L2 := looks_clsIn (M := model prog w) X hc
  have pa := J.at_
  have hcls := J.cls
  have hno := J.no
  have hdict : oe.dict = none := by
    have := J.dict
    cases q : oe.dict with
    | none => rfl
    | some _ => rw [q] at this; exact this.elim
  rw [osa_eq, refuse_eq]
  refine wpAny_bind (wpAny_bind (L0.at (wpAny_bind (hm.at ?_))))
  rw [over_pass _ ho]
  refine wpAny_pure (wpAny_bind (L0.at (wpAny_bind (L1.at (wpAny_bind (wpAny_pure ?_))))))
  show wpAny _ _ (storeInOwnDict (.ref a) (.ref C) (.str name t) name v false) _ _ _
  obtain ⟨oc, od, odt, osl⟩ := oe
  dsimp only at hcls hdict pa
  subst hcls hdict
  refine wpAny_bind (wpAny_pure (wpAny_bind (wpAny_bind (wpAny_loadPart pa (wpAny_bind (L2.at ?_))))))
  rw [hd2]
  have hx1 : (hp.push { cls := .type "dict", data := .dict #[] }).get? a = some { cls := .ref C, dict := none, data := odt, slots := osl } := Heap.get?_push_of_some _ pa
  have hne : a ≠ hp.objs.size := Nat.ne_of_lt (Heap.lt_size pa)
  have hfz : ({ cls := .ref C, dict := some hp.objs.size, data := odt, slots := osl } : Obj).isFreed = false := by
    have := (Heap.get?_some_iff.mp pa).2
    cases odt <;> first | rfl | exact this
  have hx2 : (withDict hp a).get? a = some { cls := .ref C, dict := some hp.objs.size, data := odt, slots := osl } := Heap.get?_update_self _ hx1 hfz
  have hg : (withDict hp a).get? hp.objs.size = some { cls := .type "dict", data := .dict #[] } := (Heap.get?_update_ne _ _ _ _ hne.symm).trans (Heap.get?_push_at rfl rfl)
  have hnd : (withDict hp a).Ns hp.objs.size (fun _ => none) := ⟨_, #[], _, hg, rfl, fun e he => absurd he (by simp), fun _ => rfl⟩
  have fin : wpAny (model prog w) A.in1 (storeInDict hp.objs.size (.str name t) name v) (fun fin s' => match fin with
      | .done f => (fun (r : Result) s' => match r with | .ok (.ret _) => Q () s' | .ok _ => False | .error e => E e s') (.ok f) s'
      | .again c' => c'.quiet = true ∧ codeAny (model prog w) A c' (fun (r : Result) s' => match r with | .ok (.ret _) => Q () s' | .ok _ => False | .error e => E e s') s') (fun e s' => E e s') ⟨withDict hp a, g, d, t + 1, os⟩ := by
    unfold storeInDict newKeyGuard
    refine wpAny_bind (wpAny_pure (wpAny_bind (wpAny_nsSet1 (Heap.Ns1.of_empty hnd) fun h' hn' hs' => ?_)))
    obtain ⟨oD, esD, epD, hoD, hdD, hcD⟩ := hn'.count (Within.cons name v Within.nil)
    refine wpAny_bind (wpAny_lookBehind hoD (by rw [hdD]; exact pastItsLine_dict (Nat.le_trans hcD (by rw [List.length_cons, List.length_nil, sizeLine_eq]; omega))) ?_)
    refine wpAny_pure ?_
    exact h h' _ ((hs'.2 a hne).trans hx2) hn' (fun b o hb e => (hs'.2 b (Nat.ne_of_lt (Heap.lt_size e))).trans ((Heap.get?_update_ne _ _ _ _ hb).trans (Heap.get?_push_of_some _ e)))
  cases odt with
  | cls c => exact absurd (show false = true from hno) Bool.false_ne_true
  | _ => exact wpAny_bind (wpAny_alloc' (wpAny_bind (wpAny_update' hx1 (wpAny_pure fin))))
end
end L2

namespace L2
open PySem PySem.Spec PyProof.Rows
noncomputable def excInI (K : PySem.W.Frag) (C fI : Addr) : Bool := match K.lookup C with
  | some ⟨.type "type", _, .cls cd, sl⟩ =>
    (match cd.mro, sl.toList with
      | .ref C' :: bm, [_, _, _, _, some (.builtin n), _] =>
        (C' == C && n == "ValueError.__new__") && ((!cd.hasDel && PySem.W.tailIn K bmVE bm) && (PySem.W.nsOkIn K cd.ns && PySem.W.nsIn K cd.ns "__init__" == some (some (.ref fI))))
      | _, _ => false)
  | _ => false
theorem ns_some_of {K : PySem.W.Frag} {h : Heap} {N : Addr} {m : Str → Option Value} {n : Str} {v : Value} (X : K.In h) (G : h.Ns N m) (e : PySem.W.nsIn K N n = some (some v)) : m n = some v := by
  obtain ⟨o, es, ep, ho, hd, _, hf⟩ := G
  unfold PySem.W.nsIn at e
  split at e
  · rename_i q
    have := X _ _ q
    rw [ho] at this
    cases this
    cases hd
    split at e
    · rename_i he
      rw [← hf]
      unfold nsFind findBy
      rw [← Array.find?_toList, he]
      simpa using e
    · split at e <;> cases e
  · cases e
theorem ini_of {K : PySem.W.Frag} {h : Heap} {C fI : Addr} (X : K.In h) (q : excInI K C fI = true) :
    ∃ (tl : List Value) (N : Addr) (nm qn : Str) (bs : List Value) (hdct : Bool) (sn : List Str) (sub : List Value) (ab : Bool) (col : Option Bool) (dd : Option Addr) (k0 k1 k2 k3 k5 : Option Value) (mN : Str → Option Value),
      h.get? C = some (excClassObj nm qn C N bs tl hdct sn sub ab col dd k0 k1 k2 k3 k5 "ValueError.__new__") ∧ h.Ns N mN ∧ mN "__init__" = some (.ref fI) ∧ OwnTail h bmVE tl := by
  unfold excInI at q
  split at q
  · rename_i dd cd sl ho
    split at q
    · rename_i C' bm k0 k1 k2 k3 n k5 hm hs
      simp only [Bool.and_eq_true, beq_iff_eq, Bool.not_eq_true'] at q
      obtain ⟨⟨rfl, rfl⟩, ⟨hdel, ht⟩, hok, hni⟩ := q
      obtain ⟨nm, bs, mro, ns, qn, hd, sn, sub, ab, col, del⟩ := cd
      dsimp only at hm hdel hok hni
      subst hm hdel
      have hsl : sl = #[k0, k1, k2, k3, some (.builtin "ValueError.__new__"), k5] := by
        obtain ⟨l⟩ := sl
        simp only at hs
        rw [hs]
      subst hsl
      exact ⟨bm, ns, nm, qn, bs, hd, sn, sub, ab, col, dd, k0, k1, k2, k3, k5, _, X _ _ ho, .of_isNs (PySem.W.isNs_of_in X hok), ns_some_of X (.of_isNs (PySem.W.isNs_of_in X hok)) hni, PySem.W.tail_of_in X ht⟩
    · cases q
  · cases q
abbrev excData (t : Addr) : Data := .fields #[.ref t, .none, .none, .none, .bool false, .none]
noncomputable def ExcB (a C : Addr) : HO := .ext fun h => ∃ t : Addr, h.get? a = some { cls := .ref C, data := excData t }
noncomputable def ExcN (a C dx : Addr) : HO := .ext fun h => ∃ t : Addr, h.get? a = some { cls := .ref C, dict := some dx, data := excData t }
noncomputable def ExcD (a C dx : Addr) : HO := .ext fun h => ∃ (oe : Obj) (vs : Array Value), h.get? a = some oe ∧ oe.cls = .ref C ∧ oe.dict = some dx ∧ oe.data = .fields vs
section
variable {P : Program} {w : World} {H : Hp} {h : Heap} {a C dx t : Addr} {oe : Obj} {vs : Array Value}
theorem okB (e : h.get? a = some { cls := .ref C, data := excData t }) : ObjOk P w H h a (ExcB a C) := ⟨⟨t, e⟩, ⟨_, e⟩, fun _ _ ⟨u, q⟩ k => ⟨u, k _ q⟩⟩
theorem okN (e : h.get? a = some { cls := .ref C, dict := some dx, data := excData t }) : ObjOk P w H h a (ExcN a C dx) := ⟨⟨t, e⟩, ⟨_, e⟩, fun _ _ ⟨u, q⟩ k => ⟨u, k _ q⟩⟩
theorem okD (e : h.get? a = some oe) (hc : oe.cls = .ref C) (hd : oe.dict = some dx) (hv : oe.data = .fields vs) : ObjOk P w H h a (ExcD a C dx) := ⟨⟨oe, vs, e, hc, hd, hv⟩, ⟨_, e⟩, fun _ _ ⟨o, us, q, r⟩ k => ⟨o, us, k _ q, r⟩⟩
end
structure OwnX (K : PySem.W.Frag) (C fI : Addr) (f : Str) : Prop where
  ini : excInI K C fI = true
  sa : PySem.W.findIn K (.ref C) "__setattr__" = some (some (.builtin "object.__setattr__"))
  ov : (PySem.W.clsIn K C).any (fun cd => overVE cd.mro) = true
  na : PySem.W.findIn K (.ref C) f = some none
  hd : PySem.W.hasDictIn K C = true
  fn : PySem.W.typeIn K (.ref fI) = some (.type "function")
section
variable {X : Cx} {pins : List (Addr × Obj)} {σ : St} {H : Hp} {s : Shared}
theorem setX_ok {a C fI : Addr} {f : Str} {y : V} {u : Value} {A : Around} {E : Value → Shared → Prop} {Q : Unit → Shared → Prop} (I : Inv X pins σ H s) (e : H a = some (ExcB a C)) (O : OwnX X.K C fI f) (ry : RelV y u)
    (h : ∀ dx s', dx ≠ a → H dx = none → Inv X pins σ (upd (upd H a (ExcN a C dx)) dx (.xd [(f, y)])) s' → Q () s') : wpAny (model X.prog X.w) A (setAttr (.ref a) f u) Q E s := by
  obtain ⟨⟨t, pa⟩, _⟩ := (show ObjOk X.prog X.w H s.heap a (ExcB a C) from I.hok a _ e)
  have J : PySem.W.InstAt s.heap a { cls := .ref C, data := excData t } C none := ⟨pa, rfl, rfl, True.intro⟩
  refine exc_set I.kIn J O.sa O.ov O.na O.hd fun h' tk ha hn hk => ?_
  have hlt := Heap.lt_size pa
  have hne : s.heap.objs.size ≠ a := Nat.ne_of_gt hlt
  have hfz : ({ cls := .ref C, dict := some s.heap.objs.size, data := excData t } : Obj).isFreed = false := rfl
  have g1 : (s.heap.update a fun _ => { cls := .ref C, dict := some s.heap.objs.size, data := excData t }).get? a = some { cls := .ref C, dict := some s.heap.objs.size, data := excData t } := Heap.get?_update_self _ pa hfz
  have g2 : ∀ b u, b ≠ a → s.heap.get? b = some u → (s.heap.update a fun _ => { cls := .ref C, dict := some s.heap.objs.size, data := excData t }).get? b = some u := fun b u hb q => (Heap.get?_update_ne _ _ _ _ hb).trans q
  have I1 : Inv X pins σ (upd H a (ExcN a C s.heap.objs.size)) { s with heap := s.heap.update a fun _ => { cls := .ref C, dict := some s.heap.objs.size, data := excData t }, toks := s.toks } :=
    I.write (x := a) (e := a) (by rw [e]; exact True.intro) (.inl rfl) g2 ⟨_, g1⟩ (okN g1)
  have hfree : H s.heap.objs.size = none := I.hok.fresh (Nat.le_refl _)
  have I2 := I1.laid (a := s.heap.objs.size) (o := .xd [(f, y)]) (h' := h') (t' := tk) (fun b o q => by
    by_cases hb : b = a
    · subst hb
      have q : (s.heap.update b fun _ => ({ cls := .ref C, dict := some s.heap.objs.size, data := excData t } : Obj)).get? b = some o := q
      rw [g1] at q; cases q; exact ha
    · have q : (s.heap.update a fun _ => ({ cls := .ref C, dict := some s.heap.objs.size, data := excData t } : Obj)).get? b = some o := q
      rw [Heap.get?_update_ne _ _ _ _ hb] at q
      exact hk b o hb q) (by show (s.heap.update a _).objs.size ≤ _; rw [Heap.size_update]; exact Nat.le_refl _) ⟨_, hn, fun g => by
        by_cases q : g = f
        · subst q; simp; exact ry
        · have : (g == f) = false := by simpa using q
          simp only [List.lookup_cons, this, List.lookup_nil, if_neg q]; exact True.intro⟩
  exact h _ _ hne hfree I2
end
noncomputable def sFldX (K : PySem.W.Frag) (ta tv : TE) (f : Str) : TS := fun D σ H => tv σ H fun y H1 => ta σ H1 fun x H2 => ∃ a C fI, x = .ref a ∧ H2 a = some (ExcB a C) ∧ OwnX K C fI f ∧ ∀ dx, dx ≠ a → H2 dx = none → D.nx σ (upd (upd H2 a (ExcN a C dx)) dx (.xd [(f, y)]))
theorem ps_fldX {X : Cx} {o value : Expr} {f : Str} {pos pos' : Pos} {ta tv : TE} (ha : PE X o ta) (hv : PE X value tv) (hs : swapsWith value (some (.Attribute o f pos')) pos.line X.env = pure false) : PS X (.Assign [.Attribute o f pos'] value pos) (sFldX X.K ta tv f) := by
  intro pins s σ H D I h
  refine plainObj_wpAny_Assign_Attribute (thn (hv pins s σ H _ I h) fun u s1 ⟨y, H1, I1, ry, q⟩ => thn (ha pins s1 σ H1 _ I1 q) fun ov s2 ⟨x, H2, I2, rx, a, C, fI, ex, ea, O, q2⟩ => ?_) hs
  subst ex
  obtain rfl : ov = Value.ref a := rx
  exact setX_ok I2 ea O ry fun dx s3 n1 n2 I3 => ⟨σ, _, I3, q2 dx n1 n2⟩
noncomputable def sp_init (C : Addr) (f : Str) : Sp := fun vs H Q _ => ∃ (a : Addr) (v : V), vs = [.ref a, v] ∧ H a = some (ExcB a C) ∧ ∀ dx, dx ≠ a → H dx = none → Q .non (upd (upd H a (ExcN a C dx)) dx (.xd [(f, v)]))
section
variable {X : Cx} {k : Nat} {C fI : Addr} {fd : FuncData} {f : Str}
noncomputable def tFldX (K : PySem.W.Frag) (ta : TE) (f : Str) : TE := fun σ H Q => ta σ H fun x H1 => ∃ a C dx fs v, x = .ref a ∧ (H1 a = some (ExcN a C dx) ∨ H1 a = some (ExcD a C dx)) ∧ H1 dx = some (.xd fs) ∧ (ExcF K C ∧ NoAttr K C f ∧ PySem.W.hasDictIn K C = true) ∧ fs.lookup f = some v ∧ Q v H1
theorem pe_fldX {e : Expr} {pos : Pos} {ta : TE} (he : PE X e ta) (hb : attributeBase e f X.env (eval e X.env) = eval e X.env) : PE X (.Attribute e f pos) (tFldX X.K ta f) := by
  intro pins s σ H Q I h
  refine attr_of hb (thn (he pins s σ H _ I h) fun u s1 ⟨x, H1, I1, rx, a, C, dx, fs, v, ex, ea, ed, ⟨Fx, na, hh⟩, l, q⟩ => ?_)
  subst ex
  obtain rfl : u = Value.ref a := rx
  obtain ⟨oe, vs, pa, hc, hd, hv⟩ : ∃ (oe : Obj) (vs : Array Value), s1.heap.get? a = some oe ∧ oe.cls = .ref C ∧ oe.dict = some dx ∧ oe.data = .fields vs := by
    rcases ea with ea | ea
    · obtain ⟨⟨t, pa⟩, _⟩ := (show ObjOk X.prog X.w H1 s1.heap a (ExcN a C dx) from I1.hok a _ ea)
      exact ⟨_, _, pa, rfl, rfl, rfl⟩
    · exact (show ObjOk X.prog X.w H1 s1.heap a (ExcD a C dx) from I1.hok a _ ea).1
  obtain ⟨mA, n1, r⟩ := (show ObjOk X.prog X.w H1 s1.heap dx (.xd fs) from I1.hok dx _ ed)
  obtain ⟨od, ho, hl⟩ := lookIn_ns n1
  obtain ⟨u', hu, ru⟩ := RelO.some_of (v := v) (o := mA f) (by rw [← l]; exact r f)
  obtain ⟨oc, odi, oda, osl⟩ := oe
  dsimp only at hc hd hv
  subst hc hd hv
  have J : PySem.W.InstAt s1.heap a ⟨.ref C, some dx, .fields vs, osl⟩ C (some od) := ⟨pa, rfl, rfl, ho⟩
  exact exc_get Fx I1.kIn J (PySem.W.findObj_own hh na rfl (by rw [hl, hu])) (handed_of ru) ⟨v, H1, I1.tok _, ru, q⟩
end
end L2

namespace L2
open PySem PySem.Spec PyProof.Rows
section
variable {X : Cx} {x : Str} {C fI : Addr} {r : List V → Hp → VK → Prop} {p pos : Pos} {e0 : Expr} {es : List Expr} {t : TA}
end
section
variable {X : Cx} {k : Nat} {f : Addr} {fd : FuncData} {ps : List Str} {sp : Sp} {dvs : List V} {ds : List Value} {fx cx n : Str} {p cpos epos np hpos pos : Pos} {e : Expr} {es : List Expr} {t : TA} {T C : Addr} {b0 : Stmt} {suite : List Stmt} {ts : Addr → TS} {j : Nat}
end
end L2

namespace PySem
section
variable {M : Model} {A : Around} {E : Value → Shared → Prop} {s : Shared} {env : Env}
variable {nm q : Str} {C N : Addr} {bs bm : List Value} {hdct : Bool} {sn : List Str} {sub : List Value} {ab : Bool} {col : Option Bool} {dd : Option Addr} {k0 k1 k2 k3 k5 : Option Value} {newId : String}
theorem raiseStmtX {x : Sem Value} {Q : Flow → Shared → Prop} (hb : bm.contains (.type "BaseException") = true) (hh : A.handled = none)
    (h : wpAny M A x (fun v s₁ => ∃ (e t dx : Addr), v = .ref e ∧ s₁.heap.get? C = some (excClassObj nm q C N bs bm hdct sn sub ab col dd k0 k1 k2 k3 k5 newId) ∧
      s₁.heap.get? e = some { cls := .ref C, dict := some dx, data := .fields #[.ref t, .none, .none, .none, .bool false, .none] } ∧ E (.ref e) s₁) E s) :
    wpAny M A (raiseStmt env (some x) none) Q E s := by
  have hcB : (Value.ref C :: bm).contains (.type "BaseException") = true := by rw [List.contains_cons, hb, Bool.or_true]
  unfold raiseStmt
  refine wpAny_bind (wpAny_mono h (fun v s1 z => ?_) fun _ _ x => x)
  obtain ⟨e, t, dx, rfl, hC, he, hE⟩ := z
  obtain ⟨hp, g, d, tk, os⟩ := s1
  repeat (first | with_reducible refine wpAny_loadPart_at he ?_ | with_reducible refine wpAny_loadPart_at hC ?_ | (with_reducible refine wpAny_isSubtype_exc hC ?_; rw [hcB]) | wp_step)
  exact wpAny_raiseNew_none hh hE
end
end PySem
namespace L2
open PySem PySem.Spec PyProof.Rows
section
variable {P : Program} {w : World} {K : PySem.W.Frag} {mg : Str → Option Value} {base : Heap} {N : List Str} {qual : Str} {scope : Scope} {f : Addr} {cd : Value} {A : Around} {outer : List Env} {s : Shared} {H : Hp} {E : XK}
  {pins : List (Addr × Obj)} {σ : St} {H1 : Hp} {s1 : Shared} {a C dx : Addr} {fld : Str} {v : V}
end
noncomputable def RaisesX (X : Cx) (C : Addr) (f : Str) (E : XK) : Prop := ∀ (pins : List (Addr × Obj)) (σ : St) (H : Hp) (s : Shared) (a dx : Addr) (v : V), Inv X pins σ (upd (upd H a (ExcN a C dx)) dx (.xd [(f, v)])) s → X.s₀.heap.get? a = none → dx ≠ a → H a = none → E (.ref C) (some dx) (upd H dx (.xd [(f, v)])) → X.xe (.ref a) s
noncomputable def tRaiseX (C : Addr) (f : Str) (E : XK) (t : TA) : TS := fun _ σ H => t σ H fun vs H1 => ∃ v, vs = [v] ∧ ∀ dx, H1 dx = none → E (.ref C) (some dx) (upd H1 dx (.xd [(f, v)]))
section
variable {X : Cx} {k : Nat} {C fI : Addr} {fd : FuncData} {f : Str}
theorem call_mkN (O : OwnX X.K C fI f) (F : FnOk X.prog X.w X.K X.mg X.base CX0 k fI fd ["self", f] (sp_init C f)) (hb : Binds X.K fd ["self", f] []) (hr : Room (k + 1) X.A)  {pins : List (Addr × Obj)} {s : Shared} {σ : St} {H : Hp} {v : V} {us : List Value} {Q : Value → Shared → Prop} (I : Inv X pins σ H s) (hv : Vals [v] us)
    (q : ∀ a dx s', s.heap.get? a = none → dx ≠ a → H a = none → H dx = none → Inv X pins σ (upd (upd H a (ExcN a C dx)) dx (.xd [(f, v)])) s' → Q (.ref a) s') : wpAny (model X.prog X.w) X.A (call (.ref C) us) Q X.xe s := by
  obtain ⟨tl, N, nm, qn, bs, hdct, sn, sub, ab, col, dd, k0, k1, k2, k3, k5, mN, oC, oN, oi, oT⟩ := ini_of I.kIn O.ini
  obtain ⟨u, rfl, ru⟩ : ∃ u, us = [u] ∧ RelV v u := by
    cases hv with
    | cons a b => cases b; exact ⟨_, rfl, a⟩
  have kp : ∀ b o, s.heap.get? b = some o → (excNew s.heap C [u]).get? b = some o := fun b o e => Heap.get?_push_of_some _ (Heap.get?_push_of_some _ e)
  have hget : (excNew s.heap C [u]).get? (s.heap.objs.size + 1) = some { cls := .ref C, data := excData s.heap.objs.size } := by unfold excNew; heap_get
  have hfree : H (s.heap.objs.size + 1) = none := I.hok.fresh (Nat.le_succ _)
  have I2 : Inv X pins σ (upd H (s.heap.objs.size + 1) (ExcB (s.heap.objs.size + 1) C)) { s with heap := excNew s.heap C [u], toks := s.toks } := I.laid kp (Nat.le_succ _) (okB hget)
  refine wpAny_call_exc_own (h := s.heap) (g := s.gens) (d := s.drawn) (t := s.toks) (os := s.os) PySem.F.excBase_ValueError (by decide) PySem.F.excBase_ValueError oT oC oN oi (fun h' e self => PySem.W.bind_fn (I.kIn.keeps e) self O.fn) ?_
  refine wpAny_call (codeAny_mono (F.run (X.A.under (.builtin "type.__call__" ⟨[.ref C, u], []⟩)) X.stack { s with heap := excNew s.heap C [u], toks := s.toks } _ ⟨[.ref (s.heap.objs.size + 1), u], []⟩ [.ref (s.heap.objs.size + 1), u] [.ref (s.heap.objs.size + 1), v] (fun y H' => y = .non ∧ ∃ dx, dx ≠ s.heap.objs.size + 1 ∧ H dx = none ∧ H' = upd (upd H (s.heap.objs.size + 1) (ExcN (s.heap.objs.size + 1) C dx)) dx (.xd [(f, v)])) E0 (hr.make C [u] []) (I2.env0.make C [u] [])
    (by have := hb { s with heap := excNew s.heap C [u], toks := s.toks } [.ref (s.heap.objs.size + 1), u] I2.kIn rfl; rwa [List.append_nil] at this) (.cons rfl (.cons ru .nil)) ⟨_, v, rfl, upd_same, fun dx hne hdx => ⟨rfl, ?_⟩⟩) fun rr s' hq => ?_)
  · rw [show upd (upd H (s.heap.objs.size + 1) (ExcB (s.heap.objs.size + 1) C)) (s.heap.objs.size + 1) (ExcN (s.heap.objs.size + 1) C dx) = upd H (s.heap.objs.size + 1) (ExcN (s.heap.objs.size + 1) C dx) from funext fun b => by unfold upd; split <;> rfl]
    exact ⟨dx, hne, by rw [upd_ne hne] at hdx; exact hdx, rfl⟩
  · cases rr with
    | error e => exact False.elim hq
    | ok fl =>
      cases fl with
      | ret u2 =>
        obtain ⟨y, H', I3, ry, rfl, dx, n1, n3, rfl⟩ := I2.after hq
        obtain rfl : u2 = .none := ry
        refine ⟨rfl, q _ dx _ ?_ n1 hfree n3 I3⟩
        cases z : s.heap.get? (s.heap.objs.size + 1) with
        | none => rfl
        | some o => exact absurd (Heap.lt_size z) (Nat.not_lt.mpr (Nat.le_succ _))
      | next => exact False.elim hq
      | brk => exact False.elim hq
      | cont => exact False.elim hq
variable {E : XK} {x : Str} {np cpos pos : Pos} {e0 : Expr} {es : List Expr} {t : TA}
theorem ps_raiseX (hc : X.calm = true) (hex : X.ex = []) (O : OwnX X.K C fI f) (F : FnOk X.prog X.w X.K X.mg X.base CX0 k fI fd ["self", f] (sp_init C f)) (hb : Binds X.K fd ["self", f] []) (hr : Room (k + 1) X.A) (hm : X.mg x = some (.ref C)) (hg : Gl X x) (hx : RaisesX X C f E) (ha : PA X (e0 :: es) t)
    (hd : (x == ("__debug__" : Str)) = false := by decide) (he : starEach (e0 :: es) X.env = (false, eval e0 X.env) :: starEach es X.env := by rfl) (hpl : (backTo cpos (starEach es X.env)).any (·.1) = false := by rfl) :
    PS X (.Raise (some (.Call (.Name x np) (e0 :: es) [] cpos)) none pos) (tRaiseX C f E t) := by
  intro pins s σ H D I h
  obtain ⟨tl, N, nm, qn, bs, hdct, sn, sub, ab, col, dd, k0, k1, k2, k3, k5, mN, oC, oN, oi, oT⟩ := ini_of I.ok.mod.kin O.ini
  rw [arm_exec_Raise]
  refine wpAny_bind (wpAny_standAt (raiseStmtX (C := C) (nm := nm) (q := qn) (N := N) (bs := bs) (bm := tl) (hdct := hdct) (sn := sn) (sub := sub) (ab := ab) (col := col) (dd := dd) (k0 := k0) (k1 := k1) (k2 := k2) (k3 := k3) (k5 := k5) (newId := "ValueError.__new__")
    (oT.hasType PySem.F.excBase_ValueError.hasBase) (I.ok.hd hc) (wpAny_bind (wpAny_mono (Q := fun v s' => ∃ (e t dx : Addr), v = .ref e ∧ s'.heap.get? C = some (excClassObj nm qn C N bs tl hdct sn sub ab col dd k0 k1 k2 k3 k5 "ValueError.__new__") ∧ s'.heap.get? e = some { cls := .ref C, dict := some dx, data := .fields #[.ref t, .none, .none, .none, .bool false, .none] } ∧ X.xe (.ref e) s') ?_ (fun v s' z => wpAny_bind (wpAny_standAt (wpAny_pure z))) fun _ _ z => z))))
  refine wpAny_Call_Name_kw (ld_glob I hg hm ?_ hd)
  unfold callWith
  have hA := ha cpos pins s σ H _ I h
  rw [he] at hA ⊢
  refine wpAny_bind (wpAny_holding (wpAny_mono (Calls.evalArgs_plain (Q := fun a s1 => a.kw = [] ∧ ∃ vs H1, Inv X pins σ H1 s1 ∧ Vals vs a.pos ∧ ∃ v, vs = [v] ∧ ∀ dx, H1 dx = none → E (.ref C) (some dx) (upd H1 dx (.xd [(f, v)]))) (thn hA fun us s1 ⟨vs, H1, I1, r1, q1⟩ => ⟨rfl, vs, H1, I1, r1, q1⟩)) (fun a s1 h1 => wpAny_bind (wpAny_standAt ?_)) fun _ _ z => z))
  obtain ⟨apos, akw⟩ := a
  obtain ⟨hkw, vs, H1, I1, r1, v, rfl, q1⟩ := h1
  obtain rfl : akw = [] := hkw
  have hk := I1.bk _ _ oC
  have hp3 : ((backTo cpos ((false, eval e0 X.env) :: starEach es X.env)).any fun x => x.fst) = false := by
    show (false || (backTo cpos (starEach es X.env)).any (·.1)) = false
    rw [hpl]; rfl
  have hp4 : ((backToKw cpos (keywordEach [] X.env)).any fun x => x.fst.isNone) = false := rfl
  rw [hp3, hp4]
  obtain ⟨hp', g, d, tk, os⟩ := s1
  refine wpAny_bind (wpAny_keeperOf_exc hk ?_)
  refine wpAny_bind (call_mkN O F hb hr I1 r1 fun a dx s2 nw n1 n2 n3 I2 => wpAny_bind (wpAny_holding (wpAny_point (wpAny_pure ?_))))
  have ea : (upd (upd H1 a (ExcN a C dx)) dx (.xd [(f, v)])) a = some (ExcN a C dx) := by rw [upd_ne (Ne.symm n1), upd_same]
  obtain ⟨⟨t, pa⟩, _⟩ := (show ObjOk X.prog X.w _ s2.heap a (ExcN a C dx) from I2.hok a _ ea)
  refine ⟨a, t, dx, rfl, I2.bk _ _ oC, pa, hx pins σ H1 s2 a dx v I2 ?_ n1 n2 (q1 dx n3)⟩
  cases z : X.s₀.heap.get? a with
  | none => rfl
  | some o =>
    obtain ⟨o', e1⟩ := I1.base.there a o z (by rw [hex]; exact List.not_mem_nil)
    have e1 : hp'.get? a = some o' := e1
    have nw : hp'.get? a = none := nw
    rw [nw] at e1; cases e1
end
end L2

namespace PySem
section
variable {M : Model} {A : Around} {E : Value → Shared → Prop} {s : Shared} {base : Heap} {env : Env} {outer l : List Env} {L e : Addr} {cls : Value} {dx : Option Addr} {Q : Unit → Shared → Prop}
theorem flightX {fl : Value} {fr : Option Addr} (z : Heap.OnX base l e cls dx fl s.heap) (k : ∀ h', Heap.OnX base l e cls dx (fr.elim .none fun f => rawInt f) h' → s.heap.UpToSlots h' → Q () { s with heap := h' }) : wpAny M A (setFlight (.ref e) fr) Q E s := by
  obtain ⟨hB, hn, hF, x, vs, T, y, ts, hx, hc, hv, h1, nT, Te, hT, hy, h3⟩ := z
  have ot : ∀ b, b ≠ T → (s.heap.update T (Obj.mapFields (·.setIfInBounds 3 (fr.elim Value.none fun f => rawInt f)))).get? b = s.heap.get? b := fun b hb => Heap.get?_update_other _ _ (Ne.symm hb)
  have nr : ∀ b o, s.heap.get? b = some o → (∀ vs, o.data ≠ .fields vs) → b ≠ T := fun b o q hnf z => by rw [z, hT] at q; cases q; exact hnf ts hy
  have sz := (Array.getElem?_eq_some_iff.mp h3).1
  unfold setFlight
  refine wpAny_bind (wpAny_field hx hv h1 ?_)
  rw [if_pos (show (Value.ref T != Value.none) = true from by simp)]
  refine wpAny_setField hT hy sz (k _ ⟨fun b o q => (ot b fun z => by rw [z, nT] at q; cases q).trans (hB b o q), hn, hF.of_keeps fun b o q hnf => ⟨o, (ot b (nr b o q hnf)).trans q, rfl⟩,
    x, vs, T, _, _, (ot e (Ne.symm Te)).trans hx, hc, hv, h1, nT, Te, Heap.get?_update_self _ hT (Obj.isFreed_of_fields (Obj.data_mapFields hy _)), Obj.data_mapFields hy _, by simp [sz]⟩
    fun b o q hnf => ⟨o.slots, (ot b (nr b o q hnf)).trans q⟩)
noncomputable def Heap.StX (h base : Heap) (e : Addr) (cls : Value) (dx : Option Addr) (L : Addr) : Prop :=
  (∃ (x : Obj) (vs : Array Value), h.get? e = some x ∧ (x.cls = cls ∧ x.dict = dx ∧ (dx = none → vs[2]? = some .none)) ∧ x.data = .fields vs ∧ vs[1]? = some .none) ∨ h.TrX base e cls dx .none ∨ h.TrX base e cls dx (rawInt L)
theorem noteS (hA : A.frames = some (env :: outer)) (hL : env.frame = some L) (hB : base.StaysIn s.heap) (hn : base.get? e = none) (hF : s.heap.FunFrames base (env :: outer)) (z : s.heap.StX base e cls dx L)
    (k : ∀ h', Heap.OnX base (env :: outer) e cls dx (rawInt L) h' → s.heap.UpToSlots h' → Q () { s with heap := h' }) : wpAny M A (noteFrame (.ref e) env) Q E s := by
  rcases z with ⟨x, vs, hx, ⟨hc, hd, hc2⟩, hv, h1⟩ | z | z
  · subst hc hd
    unfold noteFrame
    simp only [hL]
    refine wpAny_bind (wpAny_field hx hv h1 ?_)
    rw [if_neg (by decide)]
    exact noteX hA hF hL hx hB hn hv (Array.getElem?_eq_some_iff.mp h1).1 hc2 k
  · exact looksX hA hL ⟨hB, hn, hF, z⟩ k
  · obtain ⟨x, vs, T, y, ts, hx, hc, hv, h1, nT, Te, hT, hy, h3⟩ := id z
    unfold noteFrame
    simp only [hL]
    refine wpAny_bind (wpAny_field hx hv h1 ?_)
    rw [if_pos (show (Value.ref T != Value.none) = true from by simp)]
    refine wpAny_bind (wpAny_field hT hy h3 ?_)
    rw [if_pos (show (rawInt L == rawInt L) = true from by simp)]
    exact wpAny_pure (k s.heap ⟨hB, hn, hF, z⟩ (.refl _))
end
end PySem
namespace L2
open PySem PySem.Spec PyProof.Rows
structure Way (X : Cx) (H' : Hp) (B : Heap) (a : Addr) (s' : Shared) : Prop where
  os : s'.os = X.s₀.os
  bare : AllBare s'.gens
  hok : HOk X.prog X.w H' B
  st : B.StaysIn s'.heap
  na : B.get? a = none
  ff : s'.heap.FunFrames B X.stack
  un : Un (frs X.outer) [] X.H₀ H' X.s₀.heap s'.heap
  kU : ∀ b o, X.s₀.heap.get? b = some o → X.H₀ b = none → b ∉ frs X.outer → B.get? b = some o
  kT : ∀ b o, X.s₀.heap.get? b = some o → b ∉ frs X.outer → ∃ o', B.get? b = some o'
noncomputable def XeS (X : Cx) (E : XK) : Value → Shared → Prop := fun e s' => ∃ (a C : Addr) (dx : Option Addr) (H' : Hp) (B : Heap), e = .ref a ∧ Way X H' B a s' ∧ s'.heap.StX B a (.ref C) dx X.env.locals ∧ E (.ref C) dx H'
section
variable {X : Cx} {E : XK} {H' : Hp} {B h2 : Heap} {a : Addr} {s' : Shared} {cls : Value} {dx : Option Addr} {fl : Value}
theorem Way.move (w : Way X H' B a s') (hst : X.stack = X.env :: X.outer) (z : Heap.OnX B X.stack a cls dx fl h2) (us : s'.heap.UpToSlots h2) : Way X H' B a { s' with heap := h2 } := by
  have sub : ∀ b ∈ frs X.outer, b ∈ frs X.stack := fun b hb => by
    rw [hst]
    obtain ⟨env, hm, hf⟩ := List.mem_filterMap.mp (show b ∈ X.outer.filterMap (·.frame) from hb)
    exact List.mem_filterMap.mpr ⟨env, List.mem_cons_of_mem _ hm, hf⟩
  have cs : ∀ b ∈ frs X.outer, ∀ o, s'.heap.get? b = some o → ∃ sl, h2.get? b = some { o with slots := sl } := fun b hb o e => by
    obtain ⟨_, o', e', hd⟩ := w.ff.mem (sub b hb)
    rw [e] at e'; cases e'
    exact us b o e hd
  exact ⟨w.os, w.bare, w.hok, z.1, w.na, z.2.2.1, {
    keep := fun b o e n hb _ => z.1 b o (w.kU b o e n hb)
    slot := fun b o e n hb hx => by
      obtain ⟨sl, e1⟩ := w.un.slot b o e n hb hx
      obtain ⟨sl', e2⟩ := cs b hb _ e1
      exact ⟨sl', e2⟩
    free := w.un.free
    there := fun b o e hx => by
      by_cases hb : b ∈ frs X.outer
      · obtain ⟨o2, e2⟩ := w.un.there b o e hx
        obtain ⟨sl, e3⟩ := cs b hb _ e2
        exact ⟨_, e3⟩
      · obtain ⟨o2, e2⟩ := w.kT b o e hb
        exact ⟨o2, z.1 b o2 e2⟩
    tups := w.un.tups
    frzs := w.un.frzs
    tbls := w.un.tbls }, w.kU, w.kT⟩
theorem passAtS {M : Model} {A' A : Around} (h1 : A'.frames = some X.stack) (hst : X.stack = X.env :: X.outer) (hf : X.env.frame = some X.env.locals) : PassesOwnAt M A' A X.env (XeS X E) := by
  intro e s1 z
  obtain ⟨a, C, dx, H', B, rfl, w, st, q⟩ := z
  have ff := w.ff
  rw [hst] at h1 ff
  refine noteS h1 hf w.st w.na ff st fun h2 z2 us => ?_
  have z2' : Heap.OnX B X.stack a (.ref C) dx (rawInt X.env.locals) h2 := by rw [hst]; exact z2
  have w2 := w.move hst z2' us
  obtain ⟨hB, hn, hF, x, vs, T, y, ts, hx, hc, hv, h1, nT, Te, hT, hy, h3⟩ := id z2'
  unfold cameBackBy
  refine wpAny_bind (wpAny_field (s := { s1 with heap := h2 }) hx hv h1 ?_)
  show wpAny _ _ (if (Value.ref T == Value.none) = true then _ else setFlight (.ref a) X.env.frame) _ _ _
  rw [if_neg (show ¬ ((Value.ref T == Value.none) = true) from by simp), hf]
  refine flightX (s := { s1 with heap := h2 }) (fr := some X.env.locals) z2' fun h3 z3 us3 => ?_
  exact ⟨a, C, dx, H', B, rfl, w2.move hst z3 us3, .inr (.inr z3.2.2.2), q⟩
end
section
variable {P : Program} {w : World} {K : PySem.W.Frag} {mg : Str → Option Value} {base : Heap} {N : List Str} {qual : Str} {scope : Scope} {f : Addr} {cd : Value} {A : Around} {outer : List Env} {s : Shared} {H : Hp} {E : XK}
theorem leaveS {e : Value} {s' : Shared} (hA : (cxOf (CXe P w) P w K mg base N qual scope f cd A outer s H E).A.frames = some (cxOf (CXe P w) P w K mg base N qual scope f cd A outer s H E).stack) (z : XeS (cxOf (CXe P w) P w K mg base N qual scope f cd A outer s H E) E e s') :
    (cxOf (CXe P w) P w K mg base N qual scope f cd A outer s H E).xe e s' := by
  obtain ⟨a, C, dx, H', B, rfl, wy, st, q⟩ := z
  show wpAny _ _ (leaving _ _) _ _ _
  unfold leaving
  refine wpAny_bind (noteS hA rfl wy.st wy.na wy.ff st fun h2 z2 us => ?_)
  have w2 := wy.move rfl z2 us
  refine landsX (s := { s' with heap := h2 }) z2 fun h3 z3 us3 => ?_
  have w3 := w2.move rfl z3 us3
  obtain ⟨k1, k2, ⟨_, _, k3⟩, k4⟩ := z3
  exact ⟨a, C, dx, H', B, rfl, w3.os, w3.bare, w3.un, w3.hok, ⟨k1, k2, k3, k4⟩, w3.kU, w3.kT, q⟩
noncomputable abbrev cxS (P : Program) (w : World) (K : PySem.W.Frag) (mg : Str → Option Value) (base : Heap) (N : List Str) (qual : Str) (scope : Scope) (f : Addr) (cd : Value) (A : Around) (outer : List Env) (s : Shared) (H : Hp) (E : XK) : Cx :=
  (cxOf (CXe P w) P w K mg base N qual scope f cd A outer s H E).wish (XeS (cxOf (CXe P w) P w K mg base N qual scope f cd A outer s H E) E)
theorem FunD.okS {x qual : Str} {st : Stmt} {f : Addr} {fd : FuncData} {N ps : List Str} {k : Nat} {sp : Sp} (F : FunD K x qual st f fd) (S : FnScope N ps (defScope st)) (len : ∀ vs H Q E, sp vs H Q E → vs.length = ps.length)
    (hbody : ∀ (cdv : Value) (A : Around) (outer : List Env) (s : Shared) (H : Hp) (vs : List V) (Q : VK) (E : XK), Room k (A.deeper (envOfC qual (defScope st) s.heap.objs.size f cdv)) → sp vs H Q E →
      ∃ t, PSs (cxS P w K mg base N qual (defScope st) f cdv A outer s H E) (defBody st) t ∧ t { nx := fun _ H' => Q .non H', rt := Q } (start N vs) H) : FnOk P w K mg base (CXe P w) (k + 1) f fd ps sp :=
  F.okE S len fun cdv A outer s H vs Q E hr hsp => by
    obtain ⟨t, ht, hq⟩ := hbody cdv A outer s H vs Q E hr hsp
    refine ⟨t, fun pins s1 σ H1 D I h => ?_, hq⟩
    exact wpAny_mono (ht pins s1 σ H1 D (I.wish _) h) (fun fl s' z => z.unwish) fun e s' z => leaveS I.ok.frames z
end
section
variable {P : Program} {w : World} {K : PySem.W.Frag} {mg : Str → Option Value} {base : Heap} {N : List Str} {qual : Str} {scope : Scope} {f : Addr} {cd : Value} {A : Around} {outer : List Env} {s : Shared} {H : Hp} {E : XK}
theorem nstkS {b : Addr} {o : Obj} (e : s.heap.get? b = some o) (n : b ∉ frs outer) : b ∉ frs (cxOf (CXe P w) P w K mg base N qual scope f cd A outer s H E).stack := fun z => by
  rcases frs_own.mp z with z | z
  · rw [z] at e
    exact absurd (Heap.lt_size e) (Nat.lt_irrefl _)
  · exact n z
theorem wayS {pins : List (Addr × Obj)} {σ : St} {H1 H3 : Hp} {s1 : Shared} {h' : Heap} {a : Addr} (I : Inv (cxOf (CXe P w) P w K mg base N qual scope f cd A outer s H E) pins σ H1 s1) (kp : ∀ b o, b ≠ a → s1.heap.get? b = some o → h'.get? b = some o) (nos : s.heap.get? a = none) (na : a ∉ frs (cxOf (CXe P w) P w K mg base N qual scope f cd A outer s H E).stack) (eq : ∀ b, b ≠ a → H1 b = H3 b) (ha : H3 a = none) (ht : ∀ xs, H1 a ≠ some (.tup xs)) (hw : ∀ b, H1 a ≠ some (.own b)) (hz : ∀ o u, H1 a ≠ some (.frz o u)) (hl : ∀ ps, H1 a ≠ some (.tbl ps)) :
    Way (cxOf (CXe P w) P w K mg base N qual scope f cd A outer s H E) H3 (PySem.W.hideAll s1.heap (a :: frs (cxOf (CXe P w) P w K mg base N qual scope f cd A outer s H E).stack)) a { s1 with heap := h' } := by
  have hin : ∀ env ∈ (cxOf (CXe P w) P w K mg base N qual scope f cd A outer s H E).stack, ∀ b, env.frame = some b → b ∈ a :: frs (cxOf (CXe P w) P w K mg base N qual scope f cd A outer s H E).stack := fun env he b hb => List.mem_cons_of_mem _ (List.mem_filterMap.mpr ⟨env, he, hb⟩)
  have toB : ∀ b o, s1.heap.get? b = some o → b ≠ a → b ∉ frs (cxOf (CXe P w) P w K mg base N qual scope f cd A outer s H E).stack → (PySem.W.hideAll s1.heap (a :: frs (cxOf (CXe P w) P w K mg base N qual scope f cd A outer s H E).stack)).get? b = some o := fun b o e n1 n2 => PySem.W.hideAll_get _ e (fun z => (List.mem_cons.mp z).elim n1 n2)
  have nb : ∀ b o, s.heap.get? b = some o → b ≠ a := fun b o e z => by rw [z, nos] at e; cases e
  have st : (PySem.W.hideAll s1.heap (a :: frs (cxOf (CXe P w) P w K mg base N qual scope f cd A outer s H E).stack)).StaysIn h' := fun b o q => kp b o (fun z => by rw [z, PySem.W.hideAll_none _ (List.mem_cons_self ..)] at q; cases q) (PySem.W.of_hideAll _ q)
  have ff := PySem.W.funFrames_hide (as := a :: frs (cxOf (CXe P w) P w K mg base N qual scope f cd A outer s H E).stack) I.stack hin
  have fn : ∀ b ∈ frs (cxOf (CXe P w) P w K mg base N qual scope f cd A outer s H E).stack, b ≠ a := fun b hb z => na (z ▸ hb)
  refine ⟨I.os, I.bare, fun b u eu => ?_, st, PySem.W.hideAll_none _ (List.mem_cons_self ..), ?_, ?_, ?_, ?_⟩
  · have hba : b ≠ a := fun z => by rw [z, ha] at eu; cases eu
    have e2 : H1 b = some u := by rw [eq b hba]; exact eu
    refine (I.hok b u e2).stay (fun c o hc q => toB c o q (fun z => ?_) fun z => ?_) (fun c q => ?_) fun c xs q => ?_
    · rcases hc with hc | hc
      · exact hba (hc.symm.trans z)
      · rw [z] at hc; exact hw _ hc
    · have n := I.stkFree c z
      rcases hc with hc | hc
      · rw [hc, e2] at n; cases n
      · rw [hc] at n; cases n
    · by_cases z : c = a
      · rw [z] at q; exact absurd q (hw _)
      · rw [← eq c z]; exact q
    · by_cases z : c = a
      · rw [z] at q; exact absurd q (ht _)
      · rw [← eq c z]; exact q
  · have go : ∀ l : List Env, (∀ b ∈ frs l, b ≠ a) → s1.heap.FunFrames (PySem.W.hideAll s1.heap (a :: frs (cxOf (CXe P w) P w K mg base N qual scope f cd A outer s H E).stack)) l → h'.FunFrames (PySem.W.hideAll s1.heap (a :: frs (cxOf (CXe P w) P w K mg base N qual scope f cd A outer s H E).stack)) l := fun l => by
      induction l with
      | nil => exact fun _ _ => trivial
      | cons env r ih =>
        intro hn z
        obtain ⟨z1, ⟨L, o, z2, z3, z4, z5⟩, z6⟩ := z
        refine ⟨z1, ⟨L, o, z2, z3, kp L o (hn L ?_) z4, z5⟩, ih (fun b hb => hn b ?_) z6⟩
        · exact List.mem_filterMap.mpr ⟨env, List.mem_cons_self, z2⟩
        · obtain ⟨e2, hm, hf⟩ := List.mem_filterMap.mp (show b ∈ r.filterMap (·.frame) from hb)
          exact List.mem_filterMap.mpr ⟨e2, List.mem_cons_of_mem _ hm, hf⟩
    exact go _ fn ff
  · exact {
      keep := fun b o e n hb _ => kp b o (nb b o e) (I.base.keep b o e n hb (by exact fun z => nomatch z))
      slot := fun b o e n hb _ => by
        obtain ⟨sl, e1⟩ := I.base.slot b o e n hb (by exact fun z => nomatch z)
        exact ⟨sl, kp b _ (nb b o e) e1⟩
      free := fun b o e n _ => by rw [← eq b (nb b o e)]; exact I.base.free b o e n (by exact fun z => nomatch z)
      there := fun b o e _ => by
        obtain ⟨o', e1⟩ := I.base.there b o e (by exact fun z => nomatch z)
        exact ⟨o', kp b o' (nb b o e) e1⟩
      tups := fun b xs z => by
        have := I.base.tups b xs z
        by_cases y : b = a
        · rw [y] at this; exact absurd this (ht _)
        · rw [← eq b y]; exact this
      frzs := fun b o u z => by
        have := I.base.frzs b o u z
        by_cases y : b = a
        · rw [y] at this; exact absurd this (hz _ _)
        · rw [← eq b y]; exact this
      tbls := fun b ps z => by
        obtain ⟨m, this⟩ := I.base.tbls b ps z
        by_cases y : b = a
        · rw [y] at this; exact absurd this (hl _)
        · exact ⟨m, by rw [← eq b y]; exact this⟩ }
  · exact fun b o e n hb => toB b o (I.base.keep b o e n hb (by exact fun z => nomatch z)) (nb b o e) (nstkS e hb)
  · intro b o e hb
    obtain ⟨o', e1⟩ := I.base.there b o e (by exact fun z => nomatch z)
    exact ⟨o', toB b o' e1 (nb b o e) (nstkS e hb)⟩
theorem raisesXS {C : Addr} {fld : Str} : RaisesX (cxS P w K mg base N qual scope f cd A outer s H E) C fld E := by
  intro pins σ H1 s1 a dx v I0 nos n1 n2 q
  have I : Inv (cxOf (CXe P w) P w K mg base N qual scope f cd A outer s H E) pins σ _ s1 := I0.unwish
  have ea : (upd (upd H1 a (ExcN a C dx)) dx (.xd [(fld, v)])) a = some (ExcN a C dx) := by rw [upd_ne (Ne.symm n1), upd_same]
  obtain ⟨⟨t, pa⟩, _⟩ := (show ObjOk P w _ s1.heap a (ExcN a C dx) from I.hok a _ ea)
  have er : ∀ b, b ≠ a → (upd (upd H1 a (ExcN a C dx)) dx (.xd [(fld, v)])) b = (upd H1 dx (.xd [(fld, v)])) b := fun b hb => by
    by_cases z : b = dx
    · rw [z, upd_same, upd_same]
    · rw [upd_ne z, upd_ne z, upd_ne hb]
  have na : a ∉ frs (cxOf (CXe P w) P w K mg base N qual scope f cd A outer s H E).stack := fun z => by
    have := I.stkFree a z
    rw [ea] at this; cases this
  refine ⟨a, C, some dx, _, _, rfl, wayS (h' := s1.heap) I (fun b o _ e => e) nos na er (by rw [upd_ne (Ne.symm n1)]; exact n2) (fun xs z => by rw [ea] at z; cases z) (fun xs z => by rw [ea] at z; cases z) (fun xs u z => by rw [ea] at z; cases z) (fun xs z => by rw [ea] at z; cases z), .inl ⟨_, _, pa, ⟨rfl, rfl, fun z => by cases z⟩, rfl, rfl⟩, q⟩
end
end L2

namespace PySem
theorem entry_unchain : entryFor table "proto.unchain" = some Builtin.«proto.unchain» := entryFor_of_fast (by kernel_rfl)
section
variable {prog : Program} {w : World} {A : Around} {E : Value → Shared → Prop} {s : Shared} {env : Env}
variable {nm q : Str} {C N : Addr} {bs bm : List Value} {hdct : Bool} {sn : List Str} {sub : List Value} {ab : Bool} {col : Option Bool} {dd : Option Addr} {k0 k1 k2 k3 k5 : Option Value} {newId : String}
theorem raiseStmtF {x c : Sem Value} {Q : Flow → Shared → Prop} {h : Addr} (hb : bm.contains (.type "BaseException") = true) (hh : A.handled = some (.ref h))
    (hx : wpAny (model prog w) A x (fun v s₁ => ∃ (e t dx : Addr) (oh : Obj) (vh : Array Value), v = .ref e ∧ s₁.heap.get? C = some (excClassObj nm q C N bs bm hdct sn sub ab col dd k0 k1 k2 k3 k5 newId) ∧
      s₁.heap.get? e = some { cls := .ref C, dict := some dx, data := .fields #[.ref t, .none, .none, .none, .bool false, .none] } ∧ h ≠ e ∧ s₁.heap.get? h = some oh ∧ oh.data = .fields vh ∧ vh[2]? = some .none ∧
      wpAny (model prog w) A c (fun cv s₂ => cv = .none ∧ s₂.heap = s₁.heap ∧ ∀ h', h'.get? e = some { cls := .ref C, dict := some dx, data := .fields #[.ref t, .none, .ref h, .none, .bool true, .none] } → (∀ b o, b ≠ e → s₁.heap.get? b = some o → h'.get? b = some o) → E (.ref e) { s₂ with heap := h' }) E s₁) E s) :
    wpAny (model prog w) A (raiseStmt env (some x) (some c)) Q E s := by
  have hcB : (Value.ref C :: bm).contains (.type "BaseException") = true := by rw [List.contains_cons, hb, Bool.or_true]
  unfold raiseStmt
  refine wpAny_bind (wpAny_mono hx (fun v s1 z => ?_) fun _ _ x => x)
  obtain ⟨e, t, dx, oh, vh, rfl, hC, he, hne, ho, hov, ho2, hc⟩ := z
  refine wpAny_bind (wpAny_holding (wpAny_mono hc (fun cv s2 z => ?_) fun _ _ x => x))
  obtain ⟨rfl, hs, hE⟩ := z
  obtain ⟨hp, g, d, tk, os⟩ := s2
  obtain rfl : hp = s1.heap := hs
  refine wpAny_bind (wpAny_pure ?_)
  repeat (first | with_reducible refine wpAny_loadPart_at he ?_ | with_reducible refine wpAny_loadPart_at hC ?_ | (with_reducible refine wpAny_isSubtype_exc hC ?_; rw [hcB]) | wp_step)
  have hCe : C ≠ e := fun z => by rw [z, he] at hC; cases hC
  have u1 := Heap.get?_update_self (Obj.mapFields fun x => x.setIfInBounds 3 Value.none) he rfl
  have u2 := Heap.get?_update_self (Obj.mapFields fun x => x.setIfInBounds 4 (Value.bool true)) u1 rfl
  have o2 : ∀ b, b ≠ e → ((s1.heap.update e (Obj.mapFields fun x => x.setIfInBounds 3 Value.none)).update e (Obj.mapFields fun x => x.setIfInBounds 4 (Value.bool true))).get? b = s1.heap.get? b := fun b hb => (Heap.get?_update_other _ _ (Ne.symm hb)).trans (Heap.get?_update_other _ _ (Ne.symm hb))
  have hC2 := (o2 C hCe).trans hC
  have ho2' := (o2 h hne).trans ho
  generalize ((s1.heap.update e (Obj.mapFields fun x => x.setIfInBounds 3 Value.none)).update e (Obj.mapFields fun x => x.setIfInBounds 4 (Value.bool true))) = h2 at *
  have u2 : h2.get? e = some { cls := .ref C, dict := some dx, data := .fields #[.ref t, .none, .none, .none, .bool true, .none] } := u2
  refine wpAny_loadPart hC2 (wpAny_pure ?_)
  refine wpAny_pure ?_
  show wpAny _ _ (setFlight (.ref e) none >>= fun _ => raiseNew (.ref e)) _ _ _
  unfold setFlight
  refine wpAny_bind (wpAny_bind (wpAny_field (s := ⟨h2, g, d, tk, os⟩) u2 rfl (x := .none) rfl (wpAny_pure ?_)))
  unfold raiseNew
  refine wpAny_bind (wpAny_handled ?_)
  rw [hh]
  have hne' : (Value.ref h != Value.ref e) = true := by simpa using hne
  dsimp only
  rw [if_pos hne']
  refine wpAny_bind (wpAny_holding (wpAny_runValue (codeAny_builtin entry_unchain ?_)))
  unfold Builtin.«proto.unchain»
  dsimp only
  refine wpAny_bind (wpAny_field (s := ⟨h2, g, d, tk, os⟩) ho2' hov ho2 ?_)
  rw [if_pos (show (Value.none == Value.none) = true from rfl)]
  refine wpAny_bind (wpAny_pure (wpAny_pure ?_))
  have hset : wpAny (model prog w) A (setField (.ref e) 2 (.ref h)) (fun _ s' => wpAny (model prog w) A (throw (Value.ref e)) Q E s') E ⟨h2, g, d, tk, os⟩ := by
    refine wpAny_setField (s := ⟨h2, g, d, tk, os⟩) u2 rfl (by simp) (wpAny_throw (hE _ (Heap.get?_update_self _ u2 rfl) fun b o hb q => (Heap.get?_update_other _ _ (Ne.symm hb)).trans ((o2 b hb).trans q)))
  exact wpAny_bind hset
end
end PySem
namespace L2
open PySem PySem.Spec PyProof.Rows
section
variable {X : Cx} {k : Nat} {C fI : Addr} {fd : FuncData} {f : Str}
theorem call_mkNH (ax : Addr) (O : OwnX X.K C fI f) (F : FnOkH X.prog X.w X.K X.mg X.base k fI fd ["self", f] (sp_init C f)) (hb : Binds X.K fd ["self", f] []) (hr : Room (k + 1) X.A) (hfr : X.A.frames = some X.stack)  {pins : List (Addr × Obj)} {s : Shared} {σ : St} {H : Hp} {v : V} {us : List Value} {Q : Value → Shared → Prop} (I : Inv (X.marked ax) pins σ H s) (hv : Vals [v] us)
    (q : ∀ a dx s', s.heap.get? a = none → dx ≠ a → H a = none → H dx = none → Inv (X.marked ax) pins σ (upd (upd H a (ExcN a C dx)) dx (.xd [(f, v)])) s' → Q (.ref a) s') : wpAny (model X.prog X.w) (X.marked ax).A (call (.ref C) us) Q X.xe s := by
  obtain ⟨tl, N, nm, qn, bs, hdct, sn, sub, ab, col, dd, k0, k1, k2, k3, k5, mN, oC, oN, oi, oT⟩ := ini_of I.kIn O.ini
  obtain ⟨u, rfl, ru⟩ : ∃ u, us = [u] ∧ RelV v u := by
    cases hv with
    | cons a b => cases b; exact ⟨_, rfl, a⟩
  have kp : ∀ b o, s.heap.get? b = some o → (excNew s.heap C [u]).get? b = some o := fun b o e => Heap.get?_push_of_some _ (Heap.get?_push_of_some _ e)
  have hget : (excNew s.heap C [u]).get? (s.heap.objs.size + 1) = some { cls := .ref C, data := excData s.heap.objs.size } := by unfold excNew; heap_get
  have hfree : H (s.heap.objs.size + 1) = none := I.hok.fresh (Nat.le_succ _)
  have I2 : Inv (X.marked ax) pins σ (upd H (s.heap.objs.size + 1) (ExcB (s.heap.objs.size + 1) C)) { s with heap := excNew s.heap C [u], toks := s.toks } := I.laid kp (Nat.le_succ _) (okB hget)
  refine wpAny_call_exc_own (h := s.heap) (g := s.gens) (d := s.drawn) (t := s.toks) (os := s.os) PySem.F.excBase_ValueError (by decide) PySem.F.excBase_ValueError oT oC oN oi (fun h' e self => PySem.W.bind_fn (I.kIn.keeps e) self O.fn) ?_
  refine wpAny_call (codeAny_mono (F.run (X.A.under (.builtin "type.__call__" ⟨[.ref C, u], []⟩)) ax X.stack { s with heap := excNew s.heap C [u], toks := s.toks } _ ⟨[.ref (s.heap.objs.size + 1), u], []⟩ [.ref (s.heap.objs.size + 1), u] [.ref (s.heap.objs.size + 1), v] (fun y H' => y = .non ∧ ∃ dx, dx ≠ s.heap.objs.size + 1 ∧ H dx = none ∧ H' = upd (upd H (s.heap.objs.size + 1) (ExcN (s.heap.objs.size + 1) C dx)) dx (.xd [(f, v)])) E0 (hr.make C [u] []) (Env0.make (A := X.A) ⟨hfr, I2.env0.mod, I2.env0.bs, I2.env0.bsz, I2.env0.funs, I2.env0.frf, I2.env0.hok, I2.env0.bare⟩ C [u] [])
    (by have := hb { s with heap := excNew s.heap C [u], toks := s.toks } [.ref (s.heap.objs.size + 1), u] I2.kIn rfl; rwa [List.append_nil] at this) (.cons rfl (.cons ru .nil)) ⟨_, v, rfl, upd_same, fun dx hne hdx => ⟨rfl, ?_⟩⟩) fun rr s' hq => ?_)
  · rw [show upd (upd H (s.heap.objs.size + 1) (ExcB (s.heap.objs.size + 1) C)) (s.heap.objs.size + 1) (ExcN (s.heap.objs.size + 1) C dx) = upd H (s.heap.objs.size + 1) (ExcN (s.heap.objs.size + 1) C dx) from funext fun b => by unfold upd; split <;> rfl]
    exact ⟨dx, hne, by rw [upd_ne hne] at hdx; exact hdx, rfl⟩
  · cases rr with
    | error e => exact False.elim hq
    | ok fl =>
      cases fl with
      | ret u2 =>
        obtain ⟨y, H', I3, ry, rfl, dx, n1, n3, rfl⟩ := I2.after hq
        obtain rfl : u2 = .none := ry
        refine ⟨rfl, q _ dx _ ?_ n1 hfree n3 I3⟩
        cases z : s.heap.get? (s.heap.objs.size + 1) with
        | none => rfl
        | some o => exact absurd (Heap.lt_size z) (Nat.not_lt.mpr (Nat.le_succ _))
      | next => exact False.elim hq
      | brk => exact False.elim hq
      | cont => exact False.elim hq
end
noncomputable def tTryN (i : Nat) (sp : Sp) (dvs : List V) (Mt : Addr → Prop) (C : Addr) (f : Str) (E : XK) (t : TA) : TS := fun D σ H => t σ H fun vs H1 => sp (vs ++ dvs) H1 (fun v H2 => D.nx (σ.set i (some v)) H2) fun cls d H2 => d = none ∧ (∃ C0, cls = .ref C0 ∧ Mt C0) ∧ ∀ dx, H2 dx = none → E (.ref C) (some dx) (upd H2 dx (.xd [(f, .non)]))
noncomputable def RaisesM (X : Cx) (C : Addr) (f : Str) (E : XK) : Prop := ∀ (pins : List (Addr × Obj)) (σ : St) (H : Hp) (s : Shared) (h' : Heap) (a dx h t : Addr) (v : V), Inv X pins σ (upd (upd H a (ExcN a C dx)) dx (.xd [(f, v)])) s → X.s₀.heap.get? a = none → dx ≠ a → H a = none →
  h'.get? a = some { cls := .ref C, dict := some dx, data := .fields #[.ref t, .none, .ref h, .none, .bool true, .none] } → (∀ b o, b ≠ a → s.heap.get? b = some o → h'.get? b = some o) → E (.ref C) (some dx) (upd H dx (.xd [(f, v)])) → X.xe (.ref a) { s with heap := h' }
section
variable {P : Program} {w : World} {K : PySem.W.Frag} {mg : Str → Option Value} {base : Heap} {N : List Str} {qual : Str} {scope : Scope} {f : Addr} {cd : Value} {A : Around} {outer : List Env} {s : Shared} {H : Hp} {E : XK}
theorem raisesM {C : Addr} {fld : Str} : RaisesM (cxS P w K mg base N qual scope f cd A outer s H E) C fld E := by
  intro pins σ H1 s1 h' a dx hx t v I0 nos n1 n2 hp kp q
  have I : Inv (cxOf (CXe P w) P w K mg base N qual scope f cd A outer s H E) pins σ _ s1 := I0.unwish
  have ea : (upd (upd H1 a (ExcN a C dx)) dx (.xd [(fld, v)])) a = some (ExcN a C dx) := by rw [upd_ne (Ne.symm n1), upd_same]
  have er : ∀ b, b ≠ a → (upd (upd H1 a (ExcN a C dx)) dx (.xd [(fld, v)])) b = (upd H1 dx (.xd [(fld, v)])) b := fun b hb => by
    by_cases z : b = dx
    · rw [z, upd_same, upd_same]
    · rw [upd_ne z, upd_ne z, upd_ne hb]
  have na : a ∉ frs (cxOf (CXe P w) P w K mg base N qual scope f cd A outer s H E).stack := fun z => by
    have := I.stkFree a z
    rw [ea] at this; cases this
  refine ⟨a, C, some dx, _, _, rfl, wayS (h' := h') I kp nos na er (by rw [upd_ne (Ne.symm n1)]; exact n2) (fun xs z => by rw [ea] at z; cases z) (fun xs z => by rw [ea] at z; cases z) (fun xs u z => by rw [ea] at z; cases z) (fun xs z => by rw [ea] at z; cases z), .inl ⟨_, _, hp, ⟨rfl, rfl, fun z => by cases z⟩, rfl, rfl⟩, q⟩
end
section
variable {X : Cx} {k k2 : Nat} {f fI : Addr} {fd fd2 : FuncData} {ps : List Str} {sp : Sp} {dvs : List V} {ds : List Value} {fx x c1 c2 cx : Str} {p cpos px apos q1 q2 tpos np c2pos kpos rpos spos hpos pos : Pos} {e : Expr} {es : List Expr} {t : TA} {T1 T2 C : Addr} {i : Nat} {E : XK} {fld : Str} {tx n1 n2 : Nat}
theorem ps_tryN (F : FnOk X.prog X.w X.K X.mg X.base (CXe X.prog X.w) k f fd ps sp) (hr : Room k X.A) (hg : Gl X fx) (hm : X.mg fx = some (.ref f)) (hk : PySem.W.keepIn X.K (.ref f) = true) (hb : Binds X.K fd ps ds) (hd : Vals dvs ds)
    (hpo0 : ∀ a, (X.marked a).A.frames = some X.stack → PassesOwnAt (model X.prog X.w) (X.marked a).A X.A X.env X.xe) (hst : X.stack = X.env :: X.outer) (hf : X.env.frame = some X.env.locals) (ha : PA X.nox (e :: es) t) (hN : X.N.Nodup) (hi : X.N[i]? = some x) (hx : Loc X.env.scope x)
    (g1 : Gl X c1) (g2 : Gl X c2) (m1 : X.mg c1 = some (.ref T1)) (m2 : X.mg c2 = some (.ref T2)) (hcalm : X.calm = true) (hex : X.ex = [])
    (O : OwnX X.K C fI fld) (F2 : FnOkH X.prog X.w X.K X.mg X.base k2 fI fd2 ["self", fld] (sp_init C fld)) (hb2 : Binds X.K fd2 ["self", fld] []) (hr2 : Room (k2 + 1) X.A) (hgx : Gl X cx) (hmx : X.mg cx = some (.ref C)) (hrx : RaisesM X C fld E)
    (hd1 : (c1 == ("__debug__" : Str)) = false := by decide) (hd2 : (c2 == ("__debug__" : Str)) = false := by decide) (hdx : (cx == ("__debug__" : Str)) = false := by decide)
    (hdb : (fx == ("__debug__" : Str)) = false := by decide) (he : starEach (e :: es) X.env = (false, eval e X.env) :: starEach es X.env := by rfl) (hpl : (backTo cpos (starEach es X.env)).any (·.1) = false := by rfl)
    (hsw : swapsWith (.Call (.Name fx p) (e :: es) [] cpos) (some (.Name x px)) apos.line X.env = pure false := by rfl) (hfn : X.fn x = true ∨ X.env.scope.names.lookup x = some .local := by first | exact .inl rfl | exact .inr rfl | assumption) :
    PS X (.Try [.Assign [.Name x px] (.Call (.Name fx p) (e :: es) [] cpos) apos] [.ExceptHandler (some (.Tuple [.Name c1 q1, .Name c2 q2] tx tpos)) none [.Raise (some (.Call (.Name cx np) [.Constant .none n1 kpos] [] c2pos)) (some (.Constant .none n2 rpos)) spos] hpos] [] [] pos)
      (tTryN i sp dvs (fun C0 => PySem.W.exmAny X.K (.ref C0) [.ref T1, .ref T2] = some true) C fld E t) := by
  intro pins s σ H D I h
  have hpo := fun a => hpo0 a I.ok.frames
  refine wpAny_Try_except ?_
  refine wpAny_execs_cons ?_
  refine wpAny_Assign_Name ?_ hsw
  refine wpAny_Call_Name_kw (ld_glob I hg hm ?_ hdb)
  refine PySem.W.callWith_K (h₀ := X.base) I.ok.mod.kin hk (wpAny_mono (ha cpos pins s σ H _ (I.wish _) h) (fun us s1 z => ?_) fun e s z => False.elim z) he hpl
  obtain ⟨vs, H1, I1, r, q⟩ := z
  replace I1 : Inv X pins σ H1 s1 := I1.unwish
  refine ⟨I1.kIn, ?_⟩
  have r2 : Vals (vs ++ dvs) (us ++ ds) := r.append hd
  have hl : (us ++ ds).length = ps.length := by rw [← r2.length]; exact F.len _ _ _ _ q
  refine wpAny_call (codeAny_mono (F.run X.A X.stack s1 H1 ⟨us, []⟩ (us ++ ds) (vs ++ dvs) _ _ hr I1.env0 (hb s1 us I1.kIn hl) r2 q) fun rr s' hq => ?_)
  cases rr with
  | ok fl =>
    cases fl with
    | ret u =>
      obtain ⟨v, H2, I2, rv, q2⟩ := I1.after hq
      refine store_ok I2 hN hi hx rv (fun s2 I3 => ?_) hfn
      exact wpAny_execs_nil (wpAny_execs_nil ⟨_, H2, I3, q2⟩)
    | next => exact False.elim hq
    | brk => exact False.elim hq
    | cont => exact False.elim hq
  | error ex =>
    obtain ⟨a, C0, dx0, H', B, rfl, os, bare, un, hB, fl, kU, kT, q⟩ := hq
    obtain ⟨rfl, ⟨C1, ec, mt⟩, qE⟩ := q
    cases ec
    have ff := fl.2.2.1
    have fl' : Heap.FlyX B (X.env :: X.outer) a (.ref C0) none s'.heap := by rw [← hst]; exact fl
    have hfr : X.A.frames = some (X.env :: X.outer) := by rw [← hst]; exact I.ok.frames
    refine looksX (s := s') hfr hf fl' fun h4 z4 us4 => ?_
    refine landsX (s := { s' with heap := h4 }) z4 fun h5 fl5 us5 => ?_
    have us45 := us4.trans us5
    have I5 : Inv X pins σ H' { s' with heap := h5 } := I1.flown os bare un hB ff kU kT fl5.1 us45
    refine wpAny_handleBy_cons (codeAny_handlers_test ?_) (by intro z; cases z)
    refine wpAny_Tuple ?_
    refine wpAny_items_cons (ld_glob (X := X.marked a) (I5.marked a) g1 m1 ?_ hd1)
    refine wpAny_items_cons (ld_glob (X := X.marked a) (I5.marked a) g2 m2 ?_ hd2)
    refine wpAny_items_nil ⟨by size_fits, ?_⟩
    have kp : ∀ q o, h5.get? q = some o → (h5.push { cls := .type "tuple", data := .seq [Value.ref T1, Value.ref T2].toArray }).get? q = some o := fun _ _ z => Heap.get?_push_of_some _ z
    have LT : PySem.W.Looks (model X.prog X.w) h5 (typeOf (.ref a)) (.ref C0) := by
      obtain ⟨ob, hob, hc⟩ := fl5.there
      rw [← hc]
      exact (PySem.W.Looks.ld hob).andThen .now
    refine (PySem.W.exm_tup2 (I5.kIn.keeps kp) (LT.keeps kp) (Heap.get?_push_size h5 rfl) mt).here ?_
    refine codeAny_handlers_suite ?_
    have fl5' : Heap.FlyX B (X.env :: X.outer) a (.ref C0) none (h5.push { cls := .type "tuple", data := .seq [Value.ref T1, Value.ref T2].toArray }) := by
      obtain ⟨y1, y2, y3, x', vs', T, y, ts, hx', hc', hv', h1', nT, Te, hT, hy, h3⟩ := fl5
      exact ⟨fun b o q => kp b o (y1 b o q), y2, y3.of_keeps (fun b o q _ => ⟨o, kp b o q, rfl⟩), x', vs', T, y, ts, kp _ _ hx', hc', hv', h1', nT, Te, kp _ _ hT, hy, h3⟩
    refine landsX (s := { s' with heap := h5.push { cls := .type "tuple", data := .seq [Value.ref T1, Value.ref T2].toArray } }) fl5' fun h6 fl6 us6 => ?_
    have I6 : Inv X pins σ H' { s' with heap := h6 } := I1.flown os bare un hB ff kU kT fl6.1 (us45.trans ((Heap.UpToSlots.of_keeps kp).trans us6))
    obtain ⟨y1, y2, y3, x', vs', T, y, ts, hx', ⟨hc', hd', h2'⟩, hv', h1', nT, Te, hT, hy, h3⟩ := id fl6
    have hanone : H' a = none := by
      cases z : H' a with
      | none => rfl
      | some o =>
        obtain ⟨u, hu⟩ := ObjOk.thereIs (hB a o z)
        rw [y2] at hu; cases hu
    refine wpAny_execs_cons ?_
    obtain ⟨tl, N, nm, qn, bs, hdct, sn, sub, ab, col, dd, k0, k1, k2', k3, k5, mN, oC, oN, oi, oT⟩ := ini_of I.ok.mod.kin O.ini
    rw [arm_exec_Raise]
    refine wpAny_bind (wpAny_standAt ?_)
    have nloc : a ≠ X.env.locals := fun z => by
      obtain ⟨m, ⟨o2, es2, ep, ho, hd2, _⟩, _⟩ := I6.loc
      rw [← z] at ho
      have ho : h6.get? a = some o2 := ho
      rw [hx'] at ho; cases ho
      rw [hv'] at hd2; cases hd2
    have nfs : a ∉ X.fs := fun z => by
      have z2 : a ∈ frs (X.env :: X.outer) := by
        obtain ⟨env, hm, hf⟩ := List.mem_filterMap.mp (show a ∈ X.outer.filterMap (·.frame) from z)
        exact List.mem_filterMap.mpr ⟨env, List.mem_cons_of_mem _ hm, hf⟩
      obtain ⟨_, o2, e2, hnf⟩ := y3.mem z2
      rw [hx'] at e2; cases e2
      exact hnf _ hv'
    have Ip : Inv (X.marked a) ((a, x') :: pins) σ H' { s' with heap := h6 } := (I6.marked a).pins_of fun p hp => by
      rcases List.mem_cons.mp hp with e | hp
      · subst e
        exact ⟨hx', hanone, nloc, nfs, fun v z => by rw [hv'] at z; cases z⟩
      · exact I6.pin p (List.mem_append_right _ hp)
    refine raiseStmtF (C := C) (nm := nm) (q := qn) (N := N) (bs := bs) (bm := tl) (hdct := hdct) (sn := sn) (sub := sub) (ab := ab) (col := col) (dd := dd) (k0 := k0) (k1 := k1) (k2 := k2') (k3 := k3) (k5 := k5) (newId := "ValueError.__new__") (h := a) (oT.hasType PySem.F.excBase_ValueError.hasBase) rfl ?_
    refine wpAny_bind (wpAny_mono (E := X.xe) (Q := fun v s3 => ∃ (e dx : Addr), v = .ref e ∧ X.s₀.heap.get? e = none ∧ dx ≠ e ∧ H' e = none ∧ H' dx = none ∧ Inv (X.marked a) ((a, x') :: pins) σ (upd (upd H' e (ExcN e C dx)) dx (.xd [(fld, .non)])) s3) ?_ (fun v s3 z => wpAny_bind (wpAny_standAt (wpAny_pure ?_))) fun e s3 z => hpo a e s3 z)
    · refine wpAny_Call_Name_kw (ld_glob (X := X.marked a) Ip hgx hmx ?_ hdx)
      unfold callWith
      have hA := (pa_cons (X := (X.marked a).nox) (e := .Constant .none n1 kpos) pe_non pa_nil) c2pos ((a, x') :: pins) { s' with heap := h6 } σ H' (fun vs H1 => vs = [.non] ∧ H1 = H') (Ip.wish _) ⟨rfl, rfl⟩
      have he0 : starEach [Expr.Constant .none n1 kpos] X.env = (false, eval (.Constant .none n1 kpos) X.env) :: starEach [] X.env := rfl
      rw [show (X.marked a).nox.env = X.env from rfl, he0] at hA
      rw [show (X.marked a).env = X.env from rfl, he0]
      refine wpAny_bind (wpAny_holding (wpAny_mono (Calls.evalArgs_plain (Q := fun a2 s4 => a2.kw = [] ∧ ∃ us4, a2.pos = us4 ∧ Vals [V.non] us4 ∧ Inv (X.marked a) ((a, x') :: pins) σ H' s4) (wpAny_mono hA (fun us4 s4 z => by
        obtain ⟨vs4, H4, I4, r4, rfl, rfl⟩ := z
        exact ⟨rfl, us4, rfl, r4, I4.unwish⟩) fun _ _ z => False.elim z)) (fun a2 s4 h4 => wpAny_bind (wpAny_standAt ?_)) fun _ _ z => z))
      obtain ⟨apos2, akw⟩ := a2
      obtain ⟨hkw, us4, rfl, r4, I4⟩ := h4
      obtain rfl : akw = [] := hkw
      have hkc : s4.heap.get? C = some (excClassObj nm qn C N bs tl hdct sn sub ab col dd k0 k1 k2' k3 k5 "ValueError.__new__") := I4.bk _ _ oC
      have hp3 : ((backTo c2pos ((false, eval (.Constant .none n1 kpos) X.env) :: starEach [] X.env)).any fun x => x.fst) = false := rfl
      have hp4 : ((backToKw c2pos (keywordEach [] X.env)).any fun x => x.fst.isNone) = false := rfl
      rw [hp3, hp4]
      obtain ⟨hp', g', d', tk', os'⟩ := s4
      refine wpAny_bind (wpAny_keeperOf_exc hkc ?_)
      refine wpAny_bind (call_mkNH a O F2 hb2 hr2 I.ok.frames I4 r4 fun e4 dx4 s5 nw n1' n2' n3' I5' => wpAny_bind (wpAny_holding (wpAny_point (wpAny_pure ?_))))
      refine ⟨e4, dx4, rfl, ?_, n1', n2', n3', I5'⟩
      cases z : X.s₀.heap.get? e4 with
      | none => rfl
      | some o =>
        obtain ⟨o', e1⟩ := I4.base.there e4 o z (by show e4 ∉ X.ex; rw [hex]; exact List.not_mem_nil)
        have e1 : hp'.get? e4 = some o' := e1
        have nw : hp'.get? e4 = none := nw
        rw [nw] at e1; cases e1
    · obtain ⟨e4, dx4, rfl, nos, n1', n2', n3', I7⟩ := z
      have ea : (upd (upd H' e4 (ExcN e4 C dx4)) dx4 (.xd [(fld, .non)])) e4 = some (ExcN e4 C dx4) := by rw [upd_ne (Ne.symm n1'), upd_same]
      obtain ⟨⟨t4, pa⟩, _⟩ := (show ObjOk X.prog X.w _ s3.heap e4 (ExcN e4 C dx4) from I7.hok e4 _ ea)
      have pp := I7.pin (a, x') (List.mem_append_right _ (List.mem_cons_self ..))
      have hne : a ≠ e4 := fun z => by
        have := pp.2.1
        rw [show (a, x').1 = e4 from z, ea] at this; cases this
      refine ⟨e4, t4, dx4, x', vs', rfl, I7.bk _ _ oC, pa, hne, pp.1, hv', h2' rfl, ?_⟩
      refine wpAny_bind (Constant_none (wpAny_bind (wpAny_standAt (wpAny_pure ⟨rfl, rfl, fun h' e1 e2 => ?_⟩))))
      exact hpo a _ _ (hrx ((a, x') :: pins) σ H' s3 h' e4 dx4 a t4 .non (I7.unmarked I.ok) nos n1' n2' e1 e2 (qE dx4 n3'))
end
end L2

namespace L2
open PySem PySem.Spec PyProof.Rows
section
variable {X : Cx} {pins : List (Addr × Obj)} {σ : St} {H : Hp} {s : Shared}
theorem Inv.trackG {a : Addr} {o : HO} (I : Inv X pins σ H s) (h1 : ∀ H2, ObjOk X.prog X.w H2 s.heap a o) (h2 : H a = none) (h3 : a ≠ X.env.locals) (h4 : ∀ x c, X.env.cells.lookup x = some c → c ≠ a) (h5 : ∀ p ∈ X.pn ++ pins, p.1 ≠ a) (h6 : X.s₀.heap.get? a = none) :
    Inv X pins σ (upd H a o) s := by
  have ne : ∀ b u, H b = some u → b ≠ a := fun b u e z => by rw [z, h2] at e; cases e
  refine ⟨I.ok, I.os, I.bare, ⟨I.base.keep, I.base.slot, fun b o e n hx => ?_, I.base.there, fun b xs e => ?_, fun b o u e => ?_, fun b ps e => ?_⟩, I.loc, I.cell, ?_, fun x c e => ?_, fun p hp => ?_, fun b ob e => ?_, I.len⟩
  · rw [upd_ne (fun z => by rw [z, h6] at e; cases e)]; exact I.base.free b _ e n hx
  · have := I.base.tups b xs e; rw [upd_ne (ne _ _ this)]; exact this
  · have := I.base.frzs b _ u e; rw [upd_ne (ne _ _ this)]; exact this
  · obtain ⟨m, q⟩ := I.base.tbls b ps e; exact ⟨m, by rw [upd_ne (ne _ _ q)]; exact q⟩
  · rw [upd_ne (Ne.symm h3)]; exact I.free
  · rw [upd_ne (h4 x c e)]; exact I.freeC x c e
  · obtain ⟨q1, q2, q3, q4, q5⟩ := I.pin p hp
    exact ⟨q1, by rw [upd_ne (h5 p hp)]; exact q2, q3, q4, q5⟩
  · by_cases z : b = a
    · subst z
      rw [upd_same] at e
      cases e
      exact h1 _
    · rw [upd_ne z] at e
      exact (I.hok b ob e).stay (fun c u _ q => q) (fun c q => by rw [upd_ne (ne _ _ q)]; exact q) (fun c xs q => by rw [upd_ne (ne _ _ q)]; exact q)
end
section
variable {X : Cx} {pins : List (Addr × Obj)} {σ : St} {H : Hp} {s s' : Shared} {E : XK} {ex : Value} {x n : Str} {T C : Addr} {np hpos : Pos} {b0 : Stmt} {suite : List Stmt} {ts : Addr → TS} {D : Ends} {j : Nat}
theorem caught_D (I : Inv X pins σ H s) (hst : X.stack = X.env :: X.outer) (hf : X.env.frame = some X.env.locals) (h0 : ∀ e s, X.xe e s → False) (cx : CXe X.prog X.w X.stack H s E ex s')
    (hN : X.N.Nodup) (hi : X.N[j]? = some n) (hln : X.env.scope.names.lookup n = some .local) (hk : X.env.kindOf n = some .local) (M1 : Meets1 X x T C true) (hex : X.ex = [])
    (hE : ∀ cls d H', E cls d H' → cls = .ref C ∧ ∃ dd, d = some dd ∧ ∀ a, H' a = none → ts a (goneD j D) (σ.set j (some (.ref a))) (upd H' a (ExcD a C dd))) (hs : ∀ a, PSs (X.marked a) (b0 :: suite) (ts a)) :
    wpAny (model X.prog X.w) X.A (noteFrame ex X.env) (fun _ s2 => wpAny (model X.prog X.w) X.A (setFlight ex none) (fun _ s3 =>
      wpAny (model X.prog X.w) X.A (handleBy ex X.env [.ExceptHandler (some (.Name x np)) (some n) (b0 :: suite) hpos]) (SP X pins D) X.xe s3) X.xe s2) X.xe s' := by
  obtain ⟨a, C', dx, H', B, rfl, os, bare, un, hB, fl, kU, kT, q⟩ := cx
  obtain ⟨ec, qq⟩ := hE _ _ H' q
  cases ec
  obtain ⟨dd, rfl, qq⟩ := qq
  have ff := fl.2.2.1
  have fl' : Heap.FlyX B (X.env :: X.outer) a (.ref C) (some dd) s'.heap := by rw [← hst]; exact fl
  have hfr : X.A.frames = some (X.env :: X.outer) := by rw [← hst]; exact I.ok.frames
  refine looksX (s := s') hfr hf fl' fun h4 held4 us4 => ?_
  refine landsX (s := { s' with heap := h4 }) held4 fun h5 fl5 us5 => ?_
  have us45 := us4.trans us5
  have I5 : Inv X pins σ H' { s' with heap := h5 } := I.flown os bare un hB ff kU kT fl5.1 us45
  refine wpAny_handleBy_cons (codeAny_handlers_test ?_) (by intro z; cases z)
  refine ld_glob (X := X.marked a) (I5.marked a) M1.gl M1.m ?_ M1.db
  have LT : PySem.W.Looks (model X.prog X.w) h5 (typeOf (.ref a)) (.ref C) := by
    obtain ⟨ob, hob, hc⟩ := fl5.there
    rw [← hc]
    exact (PySem.W.Looks.ld hob).andThen .now
  refine (PySem.W.exm_one I5.kIn LT M1.ex).here ?_
  refine codeAny_handlers_suite_as ?_
  refine landsX (s := { s' with heap := h5 }) fl5 fun h6 fl6 us6 => ?_
  have I6 : Inv X pins σ H' { s' with heap := h6 } := I.flown os bare un hB ff kU kT fl6.1 (us45.trans us6)
  have fn := fl6.2.1
  obtain ⟨oe, vs, T', oT, tsn, he, ⟨hcls, hdct, _⟩, hd, _⟩ := fl6.2.2.2
  obtain ⟨oe', vs', _, _, _, he', _, hd', _⟩ := fl.2.2.2
  have hfree : H' a = none := by
    cases e : H' a with
    | none => rfl
    | some u =>
      obtain ⟨ob, eb⟩ := (hB a u e).thereIs
      rw [fn] at eb; cases eb
  have nstk : a ∉ frs X.stack := fun z2 => by
    obtain ⟨_, o2, e2, hnf⟩ := ff.mem z2
    rw [he'] at e2; cases e2
    exact hnf _ hd'
  have nloc : a ≠ X.env.locals := fun z => by
    obtain ⟨m, ⟨o2, es, ep, ho, hd2, _⟩, _⟩ := I6.loc
    rw [← z] at ho
    have ho : h6.get? a = some o2 := ho
    rw [he] at ho; cases ho
    rw [hd] at hd2; cases hd2
  have nos : s.heap.get? a = none := by
    cases e : s.heap.get? a with
    | none => rfl
    | some o =>
      obtain ⟨o', e'⟩ := kT a o e nstk
      rw [fn] at e'; cases e'
  have nos0 : X.s₀.heap.get? a = none := by
    cases e : X.s₀.heap.get? a with
    | none => rfl
    | some o =>
      obtain ⟨o', e'⟩ := I.base.there a o e (by rw [hex]; simp)
      rw [nos] at e'; cases e'
  have ncell : ∀ y c, X.env.cells.lookup y = some c → c ≠ a := fun y c e z => by
    obtain ⟨v, o2, ho, hd2⟩ := I.cell y c e
    rw [z, nos] at ho; cases ho
  have npin : ∀ p ∈ X.pn ++ pins, p.1 ≠ a := fun p hp z => by
    have := (I.pin p hp).1
    rw [z, nos] at this; cases this
  refine store_ok2 (X := X.marked a) (v := .ref a) (I6.marked a) hN hi (.inl hln) rfl (fun s7 I7 sb => ?_) (.inr hln)
  obtain ⟨ad, sb, had⟩ := sb
  have ane : a ≠ ad := fun z => by
    rcases had with had | had
    · exact nloc (z.trans had)
    · exact ncell n ad had z.symm
  have he7 : s7.heap.get? a = some oe := (sb.2 a ane).trans he
  have I8 := Inv.trackG (X := X.marked a) (o := ExcD a C dd) I7 (fun H2 => okD he7 hcls hdct hd) hfree nloc ncell npin nos0
  refine wpAny_mono (hs a pins s7 _ _ (goneD j D) I8 (qq a hfree)) (fun f s9 z => ?_) fun e s9 z => (h0 e s9 z).elim
  exact wpAny_mono (name_goneM (M := model X.prog X.w) (A := X.A) hN hi hk I.ok z) (fun _ _ z => z) fun _ _ z => z.elim
end
noncomputable def tTryF (j : Nat) (sp : Sp) (dvs : List V) (C : Addr) (t : TA) (ts : Addr → TS) : TS := fun D σ H => t σ H fun vs H1 => sp (vs ++ dvs) H1 (fun _ H2 => D.nx σ H2) fun cls d H2 => cls = .ref C ∧ ∃ dd, d = some dd ∧ ∀ a, H2 a = none → ts a (goneD j D) (σ.set j (some (.ref a))) (upd H2 a (ExcD a C dd))
section
variable {X : Cx} {k : Nat} {f : Addr} {fd : FuncData} {ps : List Str} {sp : Sp} {dvs : List V} {ds : List Value} {fx cx n : Str} {p cpos epos np hpos pos : Pos} {e : Expr} {es : List Expr} {t : TA} {T C : Addr} {b0 : Stmt} {suite : List Stmt} {ts : Addr → TS} {j : Nat}
theorem ps_tryF (F : FnOk X.prog X.w X.K X.mg X.base (CXe X.prog X.w) k f fd ps sp) (hr : Room k X.A) (hg : Gl X fx) (hm : X.mg fx = some (.ref f)) (hk : PySem.W.keepIn X.K (.ref f) = true) (hb : Binds X.K fd ps ds) (hd : Vals dvs ds) (h0 : ∀ e s, X.xe e s → False)
    (hst : X.stack = X.env :: X.outer) (hf : X.env.frame = some X.env.locals) (ha : PA X (e :: es) t) (hN : X.N.Nodup)
    (hj : X.N[j]? = some n) (hln : X.env.scope.names.lookup n = some .local) (hkn : X.env.kindOf n = some .local) (M1 : Meets1 X cx T C true) (hex : X.ex = [])
    (hs : ∀ a, PSs (X.marked a) (b0 :: suite) (ts a)) (hdb : (fx == ("__debug__" : Str)) = false := by decide) (he : starEach (e :: es) X.env = (false, eval e X.env) :: starEach es X.env := by rfl) (hpl : (backTo cpos (starEach es X.env)).any (·.1) = false := by rfl)
    (hsw : swapsWith (.Call (.Name fx p) (e :: es) [] cpos) none epos.line X.env = pure false := by rfl) :
    PS X (.Try [.Expr (.Call (.Name fx p) (e :: es) [] cpos) epos] [.ExceptHandler (some (.Name cx np)) (some n) (b0 :: suite) hpos] [] [] pos) (tTryF j sp dvs C t ts) := by
  intro pins s σ H D I h
  refine wpAny_Try_except ?_
  refine wpAny_execs_cons ?_
  refine wpAny_Expr_any ?_ I.quiet hsw
  refine wpAny_Call_Name_kw (ld_glob I hg hm ?_ hdb)
  refine PySem.W.callWith_K (h₀ := X.base) I.ok.mod.kin hk (wpAny_mono (ha cpos pins s σ H _ I h) (fun us s1 z => ?_) fun e s z => (h0 e s z).elim) he hpl
  obtain ⟨vs, H1, I1, r, q⟩ := z
  refine ⟨I1.kIn, ?_⟩
  have r2 : Vals (vs ++ dvs) (us ++ ds) := r.append hd
  have hl : (us ++ ds).length = ps.length := by rw [← r2.length]; exact F.len _ _ _ _ q
  refine wpAny_call (codeAny_mono (F.run X.A X.stack s1 H1 ⟨us, []⟩ (us ++ ds) (vs ++ dvs) _ _ hr I1.env0 (hb s1 us I1.kIn hl) r2 q) fun rr s' hq => ?_)
  cases rr with
  | error ex => exact caught_D (ts := ts) I1 hst hf h0 (show CXe X.prog X.w X.stack H1 s1 (fun cls d H2 => cls = .ref C ∧ ∃ dd, d = some dd ∧ ∀ a, H2 a = none → ts a (goneD j D) (σ.set j (some (.ref a))) (upd H2 a (ExcD a C dd))) ex s' from hq) hN hj hln hkn M1 hex (fun cls _ H' z => z) hs
  | ok fl =>
    cases fl with
    | ret u =>
      obtain ⟨v, H2, I2, rv, q2⟩ := I1.after hq
      exact wpAny_execs_nil (wpAny_execs_nil ⟨_, H2, I2, q2⟩)
    | next => exact False.elim hq
    | brk => exact False.elim hq
    | cont => exact False.elim hq
end
noncomputable def rIsD (K : PySem.W.Frag) (c : V) (u : Value) : List V → Hp → VK → Prop := fun xs H Q => ∃ a C dx b, xs = [.ref a, c] ∧ H a = some (ExcD a C dx) ∧ ExcF K C ∧ PySem.W.kitOne K (.ref C) u = some b ∧ Q (.bl b) H
theorem isiD {X : Cx} {c : V} {u : Value} (hr : ∀ u', RelV c u' → u' = u) : CallR X (.builtin "isinstance") (rIsD X.K c u) := by
  intro pins s σ H xs us Q I rv h
  obtain ⟨a, C, dx, b, rfl, ha, Fx, e, q⟩ := h
  obtain ⟨v, w, rfl, rx, rw'⟩ := vals2 rv
  cases rx
  cases hr _ rw'
  obtain ⟨⟨oe, vs, he, hc, _⟩, _⟩ := (show ObjOk X.prog X.w H s.heap a (ExcD a C dx) from I.hok a _ ha)
  exact PySem.W.kia_one (kitx_exc Fx hc) I.kIn he e (by intro z; cases z) fun tk => ⟨.bl b, H, I.tok tk, rfl, q⟩
end L2

set_option Elab.async false
set_option linter.all false
set_option maxRecDepth 100000
set_option maxHeartbeats 4000000
namespace MyLaw
open PySem L2
noncomputable def top (i : Nat) : Stmt := PySem.Challenge.pw_markscale_k10_cells_as_texts.main.body.getD i (.Pass ⟨0, 0, 0, 0⟩)
noncomputable abbrev s_is_whole : Stmt := top 6
theorem sc_is_whole : FnScope ["thing"] ["thing"] (defScope s_is_whole) := ⟨rfl, rfl, rfl, by decide +kernel, rfl, by decide +kernel, by decide +kernel⟩
noncomputable abbrev s_divisor_of : Stmt := top 7
theorem sc_divisor_of : FnScope ["one", "other", "high", "low", "rest"] ["one", "other"] (defScope s_divisor_of) := ⟨rfl, rfl, rfl, by decide +kernel, rfl, by decide +kernel, by decide +kernel⟩
noncomputable abbrev s_is_number : Stmt := top 8
theorem sc_is_number : FnScope ["thing"] ["thing"] (defScope s_is_number) := ⟨rfl, rfl, rfl, by decide +kernel, rfl, by decide +kernel, by decide +kernel⟩
noncomputable abbrev s_number : Stmt := top 9
theorem sc_number : FnScope ["top", "bottom", "divisor"] ["top", "bottom"] (defScope s_number) := ⟨rfl, rfl, rfl, by decide +kernel, rfl, by decide +kernel, by decide +kernel⟩
noncomputable abbrev s_are_digits : Stmt := top 14
theorem sc_are_digits : FnScope ["text"] ["text"] (defScope s_are_digits) := ⟨rfl, rfl, rfl, by decide +kernel, rfl, by decide +kernel, by decide +kernel⟩
noncomputable abbrev s_show_number : Stmt := top 15
theorem sc_show_number : FnScope ["one", "top", "bottom"] ["one"] (defScope s_show_number) := ⟨rfl, rfl, rfl, by decide +kernel, rfl, by decide +kernel, by decide +kernel⟩
noncomputable abbrev s_read_figures : Stmt := top 16
theorem sc_read_figures : FnScope ["text", "most", "parts", "figures", "one"] ["text", "most"] (defScope s_read_figures) := ⟨rfl, rfl, rfl, by decide +kernel, rfl, by decide +kernel, by decide +kernel⟩
noncomputable abbrev s_read_number : Stmt := top 17
theorem sc_read_number : FnScope ["text"] ["text"] (defScope s_read_number) := ⟨rfl, rfl, rfl, by decide +kernel, rfl, by decide +kernel, by decide +kernel⟩
noncomputable abbrev s_is_told : Stmt := top 18
theorem sc_is_told : FnScope ["thing"] ["thing"] (defScope s_is_told) := ⟨rfl, rfl, rfl, by decide +kernel, rfl, by decide +kernel, by decide +kernel⟩
noncomputable abbrev s_is_leap : Stmt := top 26
theorem sc_is_leap : FnScope ["year"] ["year"] (defScope s_is_leap) := ⟨rfl, rfl, rfl, by decide +kernel, rfl, by decide +kernel, by decide +kernel⟩
noncomputable abbrev s_month_length : Stmt := top 27
theorem sc_month_length : FnScope ["year", "month"] ["year", "month"] (defScope s_month_length) := ⟨rfl, rfl, rfl, by decide +kernel, rfl, by decide +kernel, by decide +kernel⟩
noncomputable abbrev s_year_begin : Stmt := top 28
theorem sc_year_begin : FnScope ["year", "ahead"] ["year"] (defScope s_year_begin) := ⟨rfl, rfl, rfl, by decide +kernel, rfl, by decide +kernel, by decide +kernel⟩
noncomputable abbrev s_is_day : Stmt := top 29
theorem sc_is_day : FnScope ["thing"] ["thing"] (defScope s_is_day) := ⟨rfl, rfl, rfl, by decide +kernel, rfl, by decide +kernel, by decide +kernel⟩
noncomputable abbrev s_is_told_day : Stmt := top 30
theorem sc_is_told_day : FnScope ["thing"] ["thing"] (defScope s_is_told_day) := ⟨rfl, rfl, rfl, by decide +kernel, rfl, by decide +kernel, by decide +kernel⟩
noncomputable abbrev s_day_of : Stmt := top 31
theorem sc_day_of : FnScope ["year", "month", "day", "ahead"] ["year", "month", "day"] (defScope s_day_of) := ⟨rfl, rfl, rfl, by decide +kernel, rfl, by decide +kernel, by decide +kernel⟩
noncomputable abbrev s_year_of : Stmt := top 32
theorem sc_year_of : FnScope ["day", "year"] ["day"] (defScope s_year_of) := ⟨rfl, rfl, rfl, by decide +kernel, rfl, by decide +kernel, by decide +kernel⟩
noncomputable abbrev s_parts_of : Stmt := top 33
theorem sc_parts_of : FnScope ["day", "year", "month", "left"] ["day"] (defScope s_parts_of) := ⟨rfl, rfl, rfl, by decide +kernel, rfl, by decide +kernel, by decide +kernel⟩
noncomputable abbrev s_show_day : Stmt := top 34
theorem sc_show_day : FnScope ["day", "parts"] ["day"] (defScope s_show_day) := ⟨rfl, rfl, rfl, by decide +kernel, rfl, by decide +kernel, by decide +kernel⟩
noncomputable abbrev s_read_day : Stmt := top 35
theorem sc_read_day : FnScope ["text", "parts"] ["text"] (defScope s_read_day) := ⟨rfl, rfl, rfl, by decide +kernel, rfl, by decide +kernel, by decide +kernel⟩
noncomputable abbrev s_is_word : Stmt := top 39
theorem sc_is_word : FnScope ["thing"] ["thing"] (defScope s_is_word) := ⟨rfl, rfl, rfl, by decide +kernel, rfl, by decide +kernel, by decide +kernel⟩
noncomputable abbrev s_is_cell : Stmt := top 40
theorem sc_is_cell : FnScope ["kind", "thing"] ["kind", "thing"] (defScope s_is_cell) := ⟨rfl, rfl, rfl, by decide +kernel, rfl, by decide +kernel, by decide +kernel⟩
noncomputable abbrev s_show_cell : Stmt := top 43
theorem sc_show_cell : FnScope ["kind", "cell"] ["kind", "cell"] (defScope s_show_cell) := ⟨rfl, rfl, rfl, by decide +kernel, rfl, by decide +kernel, by decide +kernel⟩
noncomputable abbrev s_read_thing : Stmt := top 44
theorem sc_read_thing : FnScope ["kind", "text"] ["kind", "text"] (defScope s_read_thing) := ⟨rfl, rfl, rfl, by decide +kernel, rfl, by decide +kernel, by decide +kernel⟩
noncomputable abbrev s_read_cell : Stmt := top 45
theorem sc_read_cell : FnScope ["kind", "text", "cell"] ["kind", "text"] (defScope s_read_cell) := ⟨rfl, rfl, rfl, by decide +kernel, rfl, by decide +kernel, by decide +kernel⟩
noncomputable abbrev s_l_draws : Stmt := top 47
theorem sc_l_draws : FnScope ["_law_cell", "_law_tops", "_law_found", "_law_left", "_law_mixed", "_law_k"] ["_law_cell", "_law_tops"] (defScope s_l_draws) := ⟨rfl, rfl, rfl, by decide +kernel, rfl, by decide +kernel, by decide +kernel⟩
noncomputable abbrev s_l_whole : Stmt := top 48
theorem sc_l_whole : FnScope ["_law_found"] ["_law_found"] (defScope s_l_whole) := ⟨rfl, rfl, rfl, by decide +kernel, rfl, by decide +kernel, by decide +kernel⟩
noncomputable abbrev s_l_divisor : Stmt := top 49
theorem sc_l_divisor : FnScope ["_law_one", "_law_other"] ["_law_one", "_law_other"] (defScope s_l_divisor) := ⟨rfl, rfl, rfl, by decide +kernel, rfl, by decide +kernel, by decide +kernel⟩
noncomputable abbrev s_l_lengths : Stmt := top 50
theorem sc_l_lengths : FnScope ["_law_year", "_law_leap"] ["_law_year"] (defScope s_l_lengths) := ⟨rfl, rfl, rfl, by decide +kernel, rfl, by decide +kernel, by decide +kernel⟩
noncomputable abbrev s_l_number : Stmt := top 51
theorem sc_l_number : FnScope ["_law_d", "_law_top", "_law_bottom", "_law_share"] ["_law_d"] (defScope s_l_number) := ⟨rfl, rfl, rfl, by decide +kernel, rfl, by decide +kernel, by decide +kernel⟩
noncomputable abbrev s_l_word : Stmt := top 52
theorem sc_l_word : FnScope ["_law_d", "_law_some"] ["_law_d"] (defScope s_l_word) := ⟨rfl, rfl, rfl, by decide +kernel, rfl, by decide +kernel, by decide +kernel⟩
noncomputable abbrev s_l_day : Stmt := top 53
theorem sc_l_day : FnScope ["_law_d", "_law_year", "_law_lengths_here", "_law_ahead", "_law_at", "_law_text"] ["_law_d"] (defScope s_l_day) := ⟨rfl, rfl, rfl, by decide +kernel, rfl, by decide +kernel, by decide +kernel⟩
noncomputable abbrev s_l_good : Stmt := top 54
theorem sc_l_good : FnScope ["_law_d", "_law_top", "_law_bottom"] ["_law_d"] (defScope s_l_good) := ⟨rfl, rfl, rfl, by decide +kernel, rfl, by decide +kernel, by decide +kernel⟩
noncomputable abbrev s_l_figures : Stmt := top 55
theorem sc_l_figures : FnScope ["_law_text", "_law_sign"] ["_law_text"] (defScope s_l_figures) := ⟨rfl, rfl, rfl, by decide +kernel, rfl, by decide +kernel, by decide +kernel⟩
noncomputable abbrev s_l_number_by : Stmt := top 56
theorem sc_l_number_by : FnScope ["_law_text", "_law_less", "_law_top", "_law_bottom", "_law_head", "_law_line", "_law_tail"] ["_law_text"] (defScope s_l_number_by) := ⟨rfl, rfl, rfl, by decide +kernel, rfl, by decide +kernel, by decide +kernel⟩
noncomputable abbrev s_l_day_by : Stmt := top 57
theorem sc_l_day_by : FnScope ["_law_text", "_law_year", "_law_month", "_law_day_here"] ["_law_text"] (defScope s_l_day_by) := ⟨rfl, rfl, rfl, by decide +kernel, rfl, by decide +kernel, by decide +kernel⟩
noncomputable abbrev s_l_cell_by : Stmt := top 58
theorem sc_l_cell_by : FnScope ["_law_kind", "_law_text", "_law_plain"] ["_law_kind", "_law_text"] (defScope s_l_cell_by) := ⟨rfl, rfl, rfl, by decide +kernel, rfl, by decide +kernel, by decide +kernel⟩
noncomputable abbrev s_l_made : Stmt := top 59
theorem sc_l_made : FnScope ["_law_text", "_law_d", "_law_some", "_law_sign", "_law_at", "_law_odd", "_law_choices"] ["_law_text", "_law_d"] (defScope s_l_made) := ⟨rfl, rfl, rfl, by decide +kernel, rfl, by decide +kernel, by decide +kernel⟩
noncomputable abbrev s_l_alike : Stmt := top 60
theorem sc_l_alike : FnScope ["_law_found", "_law_due"] ["_law_found", "_law_due"] (defScope s_l_alike) := ⟨rfl, rfl, rfl, by decide +kernel, rfl, by decide +kernel, by decide +kernel⟩
noncomputable abbrev s_l_refused : Stmt := top 61
theorem sc_l_refused : FnScope ["_law_kind", "_law_text", "e"] ["_law_kind", "_law_text"] (defScope s_l_refused) := ⟨rfl, rfl, rfl, by decide +kernel, rfl, by decide +kernel, by decide +kernel⟩
noncomputable abbrev s_law : Stmt := top 62
theorem sc_law : FnScope ["_law_script", "_law_cell", "_law_tops", "_law_d", "_law_kind", "_law_shown", "_law_other", "_law_word_here", "_law_made_here", "_law_due", "_law_odd", "_law_good_here", "_law_text"] ["_law_script"] (defScope s_law) := ⟨rfl, rfl, rfl, by decide +kernel, rfl, by decide +kernel, by decide +kernel⟩
noncomputable def clsBody (s : Stmt) : List Stmt := match s with
  | .ClassDef _ _ _ b _ _ _ _ _ _ _ => b
  | _ => []
noncomputable abbrev si_NoTable : Stmt := (clsBody (top 4)).getD 0 (.Pass ⟨0, 0, 0, 0⟩)
theorem sci_NoTable : FnScope ["self", "row"] ["self", "row"] (defScope si_NoTable) := ⟨rfl, rfl, rfl, by decide +kernel, rfl, by decide +kernel, by decide +kernel⟩
structure Adr where
  (f_is_whole : Addr) (d_is_whole : FuncData)
  (f_divisor_of : Addr) (d_divisor_of : FuncData)
  (f_is_number : Addr) (d_is_number : FuncData)
  (f_number : Addr) (d_number : FuncData)
  (f_are_digits : Addr) (d_are_digits : FuncData)
  (f_show_number : Addr) (d_show_number : FuncData)
  (f_read_figures : Addr) (d_read_figures : FuncData)
  (f_read_number : Addr) (d_read_number : FuncData)
  (f_is_told : Addr) (d_is_told : FuncData)
  (f_is_leap : Addr) (d_is_leap : FuncData)
  (f_month_length : Addr) (d_month_length : FuncData)
  (f_year_begin : Addr) (d_year_begin : FuncData)
  (f_is_day : Addr) (d_is_day : FuncData)
  (f_is_told_day : Addr) (d_is_told_day : FuncData)
  (f_day_of : Addr) (d_day_of : FuncData)
  (f_year_of : Addr) (d_year_of : FuncData)
  (f_parts_of : Addr) (d_parts_of : FuncData)
  (f_show_day : Addr) (d_show_day : FuncData)
  (f_read_day : Addr) (d_read_day : FuncData)
  (f_is_word : Addr) (d_is_word : FuncData)
  (f_is_cell : Addr) (d_is_cell : FuncData)
  (f_show_cell : Addr) (d_show_cell : FuncData)
  (f_read_thing : Addr) (d_read_thing : FuncData)
  (f_read_cell : Addr) (d_read_cell : FuncData)
  (f_l_draws : Addr) (d_l_draws : FuncData)
  (f_l_whole : Addr) (d_l_whole : FuncData)
  (f_l_divisor : Addr) (d_l_divisor : FuncData)
  (f_l_lengths : Addr) (d_l_lengths : FuncData)
  (f_l_number : Addr) (d_l_number : FuncData)
  (f_l_word : Addr) (d_l_word : FuncData)
  (f_l_day : Addr) (d_l_day : FuncData)
  (f_l_good : Addr) (d_l_good : FuncData)
  (f_l_figures : Addr) (d_l_figures : FuncData)
  (f_l_number_by : Addr) (d_l_number_by : FuncData)
  (f_l_day_by : Addr) (d_l_day_by : FuncData)
  (f_l_cell_by : Addr) (d_l_cell_by : FuncData)
  (f_l_made : Addr) (d_l_made : FuncData)
  (f_l_alike : Addr) (d_l_alike : FuncData)
  (f_l_refused : Addr) (d_l_refused : FuncData)
  (f_law : Addr) (d_law : FuncData)
  (c_NoNumber : Addr)
  (c_NoDay : Addr)
  (c_MarkError : Addr)
  (c_NoTable fi_NoTable : Addr) (di_NoTable : FuncData)
  (g_DIGITS : Tok)
  (g_MOST_FIGURES : Tok)
  (g_MOST_BOTTOM : Tok)
  (g_LAST_DAY : Tok)
  (g_LAST_YEAR : Tok)
  (g_FIRST_TOLD_YEAR : Tok)
  (g_LAST_TOLD_YEAR : Tok)
  (g_DAYS_OF_400_YEARS : Tok)
  (g_LONGEST_WORD : Tok)
  (g_LETTERS : Tok)
  (g_MONTH_LENGTHS : Addr)
  (g_NOTHING : Tok)
structure Txt (K : PySem.W.Frag) (mg : Str → Option Value) (t : Adr) : Prop where
  F_is_whole : Fun K "is_whole" "is_whole" s_is_whole t.f_is_whole t.d_is_whole
  m_is_whole : mg "is_whole" = some (.ref t.f_is_whole)
  k_is_whole : PySem.W.keepIn K (.ref t.f_is_whole) = true
  b_is_whole : Binds K t.d_is_whole ["thing"] []
  F_divisor_of : Fun K "divisor_of" "divisor_of" s_divisor_of t.f_divisor_of t.d_divisor_of
  m_divisor_of : mg "divisor_of" = some (.ref t.f_divisor_of)
  k_divisor_of : PySem.W.keepIn K (.ref t.f_divisor_of) = true
  b_divisor_of : Binds K t.d_divisor_of ["one", "other"] []
  F_is_number : Fun K "is_number" "is_number" s_is_number t.f_is_number t.d_is_number
  m_is_number : mg "is_number" = some (.ref t.f_is_number)
  k_is_number : PySem.W.keepIn K (.ref t.f_is_number) = true
  b_is_number : Binds K t.d_is_number ["thing"] []
  F_number : FunD K "number" "number" s_number t.f_number t.d_number
  m_number : mg "number" = some (.ref t.f_number)
  k_number : PySem.W.keepIn K (.ref t.f_number) = true
  b_number : Binds K t.d_number ["top", "bottom"] []
  b_number1 : ∃ ds, Vals [V.int 1] ds ∧ Binds K t.d_number ["top", "bottom"] ds
  F_are_digits : Fun K "are_digits" "are_digits" s_are_digits t.f_are_digits t.d_are_digits
  m_are_digits : mg "are_digits" = some (.ref t.f_are_digits)
  k_are_digits : PySem.W.keepIn K (.ref t.f_are_digits) = true
  b_are_digits : Binds K t.d_are_digits ["text"] []
  F_show_number : Fun K "show_number" "show_number" s_show_number t.f_show_number t.d_show_number
  m_show_number : mg "show_number" = some (.ref t.f_show_number)
  k_show_number : PySem.W.keepIn K (.ref t.f_show_number) = true
  b_show_number : Binds K t.d_show_number ["one"] []
  F_read_figures : Fun K "read_figures" "read_figures" s_read_figures t.f_read_figures t.d_read_figures
  m_read_figures : mg "read_figures" = some (.ref t.f_read_figures)
  k_read_figures : PySem.W.keepIn K (.ref t.f_read_figures) = true
  b_read_figures : Binds K t.d_read_figures ["text", "most"] []
  F_read_number : Fun K "read_number" "read_number" s_read_number t.f_read_number t.d_read_number
  m_read_number : mg "read_number" = some (.ref t.f_read_number)
  k_read_number : PySem.W.keepIn K (.ref t.f_read_number) = true
  b_read_number : Binds K t.d_read_number ["text"] []
  F_is_told : Fun K "is_told" "is_told" s_is_told t.f_is_told t.d_is_told
  m_is_told : mg "is_told" = some (.ref t.f_is_told)
  k_is_told : PySem.W.keepIn K (.ref t.f_is_told) = true
  b_is_told : Binds K t.d_is_told ["thing"] []
  F_is_leap : Fun K "is_leap" "is_leap" s_is_leap t.f_is_leap t.d_is_leap
  m_is_leap : mg "is_leap" = some (.ref t.f_is_leap)
  k_is_leap : PySem.W.keepIn K (.ref t.f_is_leap) = true
  b_is_leap : Binds K t.d_is_leap ["year"] []
  F_month_length : Fun K "month_length" "month_length" s_month_length t.f_month_length t.d_month_length
  m_month_length : mg "month_length" = some (.ref t.f_month_length)
  k_month_length : PySem.W.keepIn K (.ref t.f_month_length) = true
  b_month_length : Binds K t.d_month_length ["year", "month"] []
  F_year_begin : Fun K "year_begin" "year_begin" s_year_begin t.f_year_begin t.d_year_begin
  m_year_begin : mg "year_begin" = some (.ref t.f_year_begin)
  k_year_begin : PySem.W.keepIn K (.ref t.f_year_begin) = true
  b_year_begin : Binds K t.d_year_begin ["year"] []
  F_is_day : Fun K "is_day" "is_day" s_is_day t.f_is_day t.d_is_day
  m_is_day : mg "is_day" = some (.ref t.f_is_day)
  k_is_day : PySem.W.keepIn K (.ref t.f_is_day) = true
  b_is_day : Binds K t.d_is_day ["thing"] []
  F_is_told_day : Fun K "is_told_day" "is_told_day" s_is_told_day t.f_is_told_day t.d_is_told_day
  m_is_told_day : mg "is_told_day" = some (.ref t.f_is_told_day)
  k_is_told_day : PySem.W.keepIn K (.ref t.f_is_told_day) = true
  b_is_told_day : Binds K t.d_is_told_day ["thing"] []
  F_day_of : Fun K "day_of" "day_of" s_day_of t.f_day_of t.d_day_of
  m_day_of : mg "day_of" = some (.ref t.f_day_of)
  k_day_of : PySem.W.keepIn K (.ref t.f_day_of) = true
  b_day_of : Binds K t.d_day_of ["year", "month", "day"] []
  F_year_of : Fun K "year_of" "year_of" s_year_of t.f_year_of t.d_year_of
  m_year_of : mg "year_of" = some (.ref t.f_year_of)
  k_year_of : PySem.W.keepIn K (.ref t.f_year_of) = true
  b_year_of : Binds K t.d_year_of ["day"] []
  F_parts_of : Fun K "parts_of" "parts_of" s_parts_of t.f_parts_of t.d_parts_of
  m_parts_of : mg "parts_of" = some (.ref t.f_parts_of)
  k_parts_of : PySem.W.keepIn K (.ref t.f_parts_of) = true
  b_parts_of : Binds K t.d_parts_of ["day"] []
  F_show_day : Fun K "show_day" "show_day" s_show_day t.f_show_day t.d_show_day
  m_show_day : mg "show_day" = some (.ref t.f_show_day)
  k_show_day : PySem.W.keepIn K (.ref t.f_show_day) = true
  b_show_day : Binds K t.d_show_day ["day"] []
  F_read_day : Fun K "read_day" "read_day" s_read_day t.f_read_day t.d_read_day
  m_read_day : mg "read_day" = some (.ref t.f_read_day)
  k_read_day : PySem.W.keepIn K (.ref t.f_read_day) = true
  b_read_day : Binds K t.d_read_day ["text"] []
  F_is_word : Fun K "is_word" "is_word" s_is_word t.f_is_word t.d_is_word
  m_is_word : mg "is_word" = some (.ref t.f_is_word)
  k_is_word : PySem.W.keepIn K (.ref t.f_is_word) = true
  b_is_word : Binds K t.d_is_word ["thing"] []
  F_is_cell : Fun K "is_cell" "is_cell" s_is_cell t.f_is_cell t.d_is_cell
  m_is_cell : mg "is_cell" = some (.ref t.f_is_cell)
  k_is_cell : PySem.W.keepIn K (.ref t.f_is_cell) = true
  b_is_cell : Binds K t.d_is_cell ["kind", "thing"] []
  F_show_cell : Fun K "show_cell" "show_cell" s_show_cell t.f_show_cell t.d_show_cell
  m_show_cell : mg "show_cell" = some (.ref t.f_show_cell)
  k_show_cell : PySem.W.keepIn K (.ref t.f_show_cell) = true
  b_show_cell : Binds K t.d_show_cell ["kind", "cell"] []
  F_read_thing : Fun K "read_thing" "read_thing" s_read_thing t.f_read_thing t.d_read_thing
  m_read_thing : mg "read_thing" = some (.ref t.f_read_thing)
  k_read_thing : PySem.W.keepIn K (.ref t.f_read_thing) = true
  b_read_thing : Binds K t.d_read_thing ["kind", "text"] []
  F_read_cell : Fun K "read_cell" "read_cell" s_read_cell t.f_read_cell t.d_read_cell
  m_read_cell : mg "read_cell" = some (.ref t.f_read_cell)
  k_read_cell : PySem.W.keepIn K (.ref t.f_read_cell) = true
  b_read_cell : Binds K t.d_read_cell ["kind", "text"] []
  F_l_draws : Fun K "_law_draws" "_law_draws" s_l_draws t.f_l_draws t.d_l_draws
  m_l_draws : mg "_law_draws" = some (.ref t.f_l_draws)
  k_l_draws : PySem.W.keepIn K (.ref t.f_l_draws) = true
  b_l_draws : Binds K t.d_l_draws ["_law_cell", "_law_tops"] []
  F_l_whole : Fun K "_law_whole" "_law_whole" s_l_whole t.f_l_whole t.d_l_whole
  m_l_whole : mg "_law_whole" = some (.ref t.f_l_whole)
  k_l_whole : PySem.W.keepIn K (.ref t.f_l_whole) = true
  b_l_whole : Binds K t.d_l_whole ["_law_found"] []
  F_l_divisor : Fun K "_law_divisor" "_law_divisor" s_l_divisor t.f_l_divisor t.d_l_divisor
  m_l_divisor : mg "_law_divisor" = some (.ref t.f_l_divisor)
  k_l_divisor : PySem.W.keepIn K (.ref t.f_l_divisor) = true
  b_l_divisor : Binds K t.d_l_divisor ["_law_one", "_law_other"] []
  F_l_lengths : Fun K "_law_lengths" "_law_lengths" s_l_lengths t.f_l_lengths t.d_l_lengths
  m_l_lengths : mg "_law_lengths" = some (.ref t.f_l_lengths)
  k_l_lengths : PySem.W.keepIn K (.ref t.f_l_lengths) = true
  b_l_lengths : Binds K t.d_l_lengths ["_law_year"] []
  F_l_number : Fun K "_law_number" "_law_number" s_l_number t.f_l_number t.d_l_number
  m_l_number : mg "_law_number" = some (.ref t.f_l_number)
  k_l_number : PySem.W.keepIn K (.ref t.f_l_number) = true
  b_l_number : Binds K t.d_l_number ["_law_d"] []
  F_l_word : Fun K "_law_word" "_law_word" s_l_word t.f_l_word t.d_l_word
  m_l_word : mg "_law_word" = some (.ref t.f_l_word)
  k_l_word : PySem.W.keepIn K (.ref t.f_l_word) = true
  b_l_word : Binds K t.d_l_word ["_law_d"] []
  F_l_day : Fun K "_law_day" "_law_day" s_l_day t.f_l_day t.d_l_day
  m_l_day : mg "_law_day" = some (.ref t.f_l_day)
  k_l_day : PySem.W.keepIn K (.ref t.f_l_day) = true
  b_l_day : Binds K t.d_l_day ["_law_d"] []
  F_l_good : Fun K "_law_good" "_law_good" s_l_good t.f_l_good t.d_l_good
  m_l_good : mg "_law_good" = some (.ref t.f_l_good)
  k_l_good : PySem.W.keepIn K (.ref t.f_l_good) = true
  b_l_good : Binds K t.d_l_good ["_law_d"] []
  F_l_figures : Fun K "_law_figures" "_law_figures" s_l_figures t.f_l_figures t.d_l_figures
  m_l_figures : mg "_law_figures" = some (.ref t.f_l_figures)
  k_l_figures : PySem.W.keepIn K (.ref t.f_l_figures) = true
  b_l_figures : Binds K t.d_l_figures ["_law_text"] []
  F_l_number_by : Fun K "_law_number_by" "_law_number_by" s_l_number_by t.f_l_number_by t.d_l_number_by
  m_l_number_by : mg "_law_number_by" = some (.ref t.f_l_number_by)
  k_l_number_by : PySem.W.keepIn K (.ref t.f_l_number_by) = true
  b_l_number_by : Binds K t.d_l_number_by ["_law_text"] []
  F_l_day_by : Fun K "_law_day_by" "_law_day_by" s_l_day_by t.f_l_day_by t.d_l_day_by
  m_l_day_by : mg "_law_day_by" = some (.ref t.f_l_day_by)
  k_l_day_by : PySem.W.keepIn K (.ref t.f_l_day_by) = true
  b_l_day_by : Binds K t.d_l_day_by ["_law_text"] []
  F_l_cell_by : Fun K "_law_cell_by" "_law_cell_by" s_l_cell_by t.f_l_cell_by t.d_l_cell_by
  m_l_cell_by : mg "_law_cell_by" = some (.ref t.f_l_cell_by)
  k_l_cell_by : PySem.W.keepIn K (.ref t.f_l_cell_by) = true
  b_l_cell_by : Binds K t.d_l_cell_by ["_law_kind", "_law_text"] []
  F_l_made : Fun K "_law_made" "_law_made" s_l_made t.f_l_made t.d_l_made
  m_l_made : mg "_law_made" = some (.ref t.f_l_made)
  k_l_made : PySem.W.keepIn K (.ref t.f_l_made) = true
  b_l_made : Binds K t.d_l_made ["_law_text", "_law_d"] []
  F_l_alike : Fun K "_law_alike" "_law_alike" s_l_alike t.f_l_alike t.d_l_alike
  m_l_alike : mg "_law_alike" = some (.ref t.f_l_alike)
  k_l_alike : PySem.W.keepIn K (.ref t.f_l_alike) = true
  b_l_alike : Binds K t.d_l_alike ["_law_found", "_law_due"] []
  F_l_refused : Fun K "_law_refused" "_law_refused" s_l_refused t.f_l_refused t.d_l_refused
  m_l_refused : mg "_law_refused" = some (.ref t.f_l_refused)
  k_l_refused : PySem.W.keepIn K (.ref t.f_l_refused) = true
  b_l_refused : Binds K t.d_l_refused ["_law_kind", "_law_text"] []
  F_law : Fun K "law" "law" s_law t.f_law t.d_law
  m_law : mg "law" = some (.ref t.f_law)
  k_law : PySem.W.keepIn K (.ref t.f_law) = true
  b_law : Binds K t.d_law ["_law_script"] []
  m_NoNumber : mg "NoNumber" = some (.ref t.c_NoNumber)
  n_NoNumber : PySem.W.nsIn K mainGlobals "NoNumber" = some (some (.ref t.c_NoNumber))
  x_NoNumber : PySem.W.excIn K t.c_NoNumber bmVE "ValueError.__new__" = true
  e_NoNumber : PySem.W.exmOne K (.ref t.c_NoNumber) (.ref t.c_NoNumber) = some true
  m_NoDay : mg "NoDay" = some (.ref t.c_NoDay)
  n_NoDay : PySem.W.nsIn K mainGlobals "NoDay" = some (some (.ref t.c_NoDay))
  x_NoDay : PySem.W.excIn K t.c_NoDay bmVE "ValueError.__new__" = true
  e_NoDay : PySem.W.exmOne K (.ref t.c_NoDay) (.ref t.c_NoDay) = some true
  m_MarkError : mg "MarkError" = some (.ref t.c_MarkError)
  m_NoTable : mg "NoTable" = some (.ref t.c_NoTable)
  o_NoTable : OwnX K t.c_NoTable t.fi_NoTable "row"
  Fi_NoTable : Fun K "__init__" "NoTable.__init__" si_NoTable t.fi_NoTable t.di_NoTable
  bi_NoTable : Binds K t.di_NoTable ["self", "row"] []
  e_NoTable : PySem.W.exmOne K (.ref t.c_NoTable) (.ref t.c_NoTable) = some true
  ea_NoNumber : PySem.W.exmAny K (.ref t.c_NoNumber) [.ref t.c_NoNumber, .ref t.c_NoDay] = some true
  ea_NoDay : PySem.W.exmAny K (.ref t.c_NoDay) [.ref t.c_NoNumber, .ref t.c_NoDay] = some true
  y_NoTable : ExcF K t.c_NoTable
  kk_NoTable_NoNumber : PySem.W.kitOne K (.ref t.c_NoTable) (.ref t.c_NoNumber) = some false
  kk_NoTable_NoDay : PySem.W.kitOne K (.ref t.c_NoTable) (.ref t.c_NoDay) = some false
  kk_NoTable_ValueError : PySem.W.kitOne K (.ref t.c_NoTable) (.type "ValueError") = some true
  kk_NoTable_MarkError : PySem.W.kitOne K (.ref t.c_NoTable) (.ref t.c_MarkError) = some true
  g_DIGITS : mg "DIGITS" = some (.str "0123456789" t.g_DIGITS)
  g_MOST_FIGURES : mg "MOST_FIGURES" = some (.int 60 t.g_MOST_FIGURES)
  g_MOST_BOTTOM : mg "MOST_BOTTOM" = some (.int 60 t.g_MOST_BOTTOM)
  g_LAST_DAY : mg "LAST_DAY" = some (.int 3652058 t.g_LAST_DAY)
  g_LAST_YEAR : mg "LAST_YEAR" = some (.int 9999 t.g_LAST_YEAR)
  g_FIRST_TOLD_YEAR : mg "FIRST_TOLD_YEAR" = some (.int 1000 t.g_FIRST_TOLD_YEAR)
  g_LAST_TOLD_YEAR : mg "LAST_TOLD_YEAR" = some (.int 8999 t.g_LAST_TOLD_YEAR)
  g_DAYS_OF_400_YEARS : mg "DAYS_OF_400_YEARS" = some (.int 146097 t.g_DAYS_OF_400_YEARS)
  g_LONGEST_WORD : mg "LONGEST_WORD" = some (.int 8 t.g_LONGEST_WORD)
  g_LETTERS : mg "LETTERS" = some (.str "abcdefghijklmnopqrstuvwxyz" t.g_LETTERS)
  g_MONTH_LENGTHS : mg "MONTH_LENGTHS" = some (.ref t.g_MONTH_LENGTHS)
  v_MONTH_LENGTHS : ∀ H, SqT K H t.g_MONTH_LENGTHS (([31, 28, 31, 30, 31, 30, 31, 31, 30, 31, 30, 31] : List Int).map V.int)
  g_NOTHING : mg "NOTHING" = some (.str "-" t.g_NOTHING)
  z_isinstance : mg "isinstance" = none
  z_int : mg "int" = none
  z_bool : mg "bool" = none
  z_tuple : mg "tuple" = none
  z_str : mg "str" = none
  z_abs : mg "abs" = none
  z_len : mg "len" = none
  z_range : mg "range" = none
  z_sum : mg "sum" = none
  z_all : mg "all" = none
  z_ValueError : mg "ValueError" = none
theorem at1 {α : Type} (x y : α) : atI [x, y] 1 = some y := rfl
theorem iteBT {b : Bool} {A B : Prop} (hb : b = true) (h : A) : if b = true then A else B := by
  rw [if_pos hb]; exact h
theorem iteDF {c A B : Prop} [Decidable c] (hc : ¬ c) (h : B) : if decide c = true then A else B := by
  rw [decide_eq_false hc]; exact iteF h
theorem iteDT {c A B : Prop} [Decidable c] (hc : c) (h : A) : if decide c = true then A else B := by
  rw [decide_eq_true hc]; exact iteT h
theorem iteNF {c A B : Prop} [Decidable c] (hc : ¬ c) (h : A) : if (!decide c) = true then A else B := by
  rw [decide_eq_false hc]; exact iteT h
theorem midB {n : Int} (h1 : 0 ≤ n) (h2 : n < 1152921504606846976) : Mid n := (show My.Bd 60 n by unfold My.Bd; omega).mono (by decide)
noncomputable def sp_whole (K : PySem.W.Frag) : Sp := fun vs H Q _ => ∃ x g, vs = [x] ∧ tgIs K H x g ∧ Q (.bl (match g with | .int => true | _ => false)) H
noncomputable def sp_div : Sp := fun vs H Q _ => ∃ a b : Int, vs = [.int a, .int b] ∧ 0 ≤ b ∧ Q (.int ((Int.gcd a b : Nat) : Int)) H
noncomputable def sp_law (K : PySem.W.Frag) : Sp := fun vs H Q _ => ∃ (a : Addr) (ns : List Int), vs = [.ref a] ∧ SqL K H a (ns.map V.int) ∧ ns.length ≤ 63 ∧ (∀ x ∈ ns, My.Bd 1048576 x) ∧ ∀ H', Q (.bl true) H'

noncomputable def sp_gcd : Sp := fun vs H Q _ => ∃ a b : Int, vs = [.int a, .int b] ∧ Q (.int ((Int.gcd a b : Nat) : Int)) H
structure Pr (K : PySem.W.Frag) (H : Hp) (p : Addr) (a b : Int) (n : Nat) : Prop where
  s : SqT K H p [.int a, .int b]
  pos : 0 < b
  ba : My.Bd n a
  bb : My.Bd n b
theorem Pr.ne {K : PySem.W.Frag} {H : Hp} {p : Addr} {a b : Int} {n : Nat} (h : Pr K H p a b n) : b ≠ 0 := Int.ne_of_gt h.pos
theorem Pr.keep {K : PySem.W.Frag} {H H' : Hp} {p : Addr} {a b : Int} {n : Nat} (h : Pr K H p a b n) (e : Same H H') : Pr K H' p a b n := ⟨e.tup h.s, h.pos, h.ba, h.bb⟩
noncomputable def NewQ (K : PySem.W.Frag) (H : Hp) (Q : VK) (n : Nat) (v : Rat) : Prop := ∀ (p : Addr) (H' : Hp) (x y : Int), Same H H' → Pr K H' p x y n → Int.gcd x y = 1 → My.qv x y = v → Q (.ref p) H'
section
variable {P : Program} {w : World} {K : PySem.W.Frag} {mg : Str → Option Value} {base : Heap} {t : Adr}
theorem ok_is_whole (T : Txt K mg t) : FnOk P w K mg base CX0 1 t.f_is_whole t.d_is_whole ["thing"] (sp_whole K) := by
  refine T.F_is_whole.ok sc_is_whole (fun vs H Q E h => ?_) (fun cdv A outer s H vs Q E hr h => ?_)
  · obtain ⟨x, g, rfl, _⟩ := h
    rfl
  obtain ⟨x, g, rfl, hg, q⟩ := h
  refine ⟨_, (pss_one (ps_ret (pe_and (pe_isi isi_int rfl rfl T.z_isinstance T.z_int bt_int (pv 0)) (pe_one (pe_not (pe_isi isi_bool rfl rfl T.z_isinstance T.z_bool bt_bool (pv 0))))))), ?_⟩
  refine ⟨_, rfl, _, g, rfl, hg, _, rfl, ?_⟩
  cases g with
  | int => exact iteT ⟨_, rfl, _, .int, rfl, hg, _, rfl, q⟩
  | bl => exact iteT ⟨_, rfl, _, .bl, rfl, hg, _, rfl, q⟩
  | non => exact iteF q
  | str => exact iteF q
  | tup => exact iteF q
  | lst => exact iteF q
  | dic => exact iteF q
theorem ok_l_divisor (T : Txt K mg t) : FnOk P w K mg base CX0 1 t.f_l_divisor t.d_l_divisor ["_law_one", "_law_other"] sp_div := by
  refine T.F_l_divisor.ok sc_l_divisor (fun vs H Q E h => ?_) (fun cdv A outer s H vs Q E hr h => ?_)
  · obtain ⟨a, b, rfl, _⟩ := h
    rfl
  obtain ⟨a, b, rfl, hb, q⟩ := h
  refine ⟨_, (pss_cons (ps_while PassesOwn.never (pt_cmpR op_ne (pv 1) pe_int (nomark _)) (pss_one (ps_par (i := 0) (j := 1) rfl sc_l_divisor.nd rfl rfl (by decide) rfl rfl (pa_cons (pv 1) (pa_cons (pe_op op_mod (pv 0) (pv 1)) pa_nil)) rfl)))
  (pss_one (ps_ret (pe_callB call_abs rfl T.z_abs bt_abs (pa_cons (pv 0) pa_nil))))), ?_⟩
  refine while_by (fun σ H' => ∃ x y : Int, σ = [some (.int x), some (.int y)] ∧ H' = H ∧ 0 ≤ y ∧ Int.gcd x y = Int.gcd a b)
    (fun σ _ => match σ with | [_, some (.int y)] => y.toNat | _ => 0) ⟨a, b, rfl, rfl, hb, rfl⟩ ?_ ?_
  · rintro σ H' ⟨x, y, rfl, rfl, hy, hg⟩
    refine ⟨_, rfl, rfl, _, rfl, ?_⟩
    by_cases h0 : y = 0
    · subst h0
      refine iteNS rfl ?_
      have e : (if x < 0 then -x else x) = ((Int.gcd a b : Nat) : Int) := by
        rw [← hg, Int.gcd_zero_right]
        split <;> omega
      refine ⟨_, rfl, _, rfl, ?_⟩
      rw [e]
      exact q
    · rw [decide_eq_false (fun z => h0 (V.int.inj z))]
      refine iteT ?_
      have hp : 0 < y := by omega
      have h1 := Int.emod_nonneg x h0
      have h2 := Int.emod_lt_of_pos x hp
      refine ⟨_, rfl, _, rfl, _, rfl, _, _, rfl, rfl, hp, _, _, rfl, ⟨y, x % y, rfl, rfl, h1, ?_⟩, ?_⟩
      · rw [My.gcd_step, hg]
      · show (x % y).toNat < y.toNat
        omega
  · rintro σ H' Q1 Q2 hi ⟨v, e, hs, k, ek, q'⟩
    exact ⟨v, e, hs, k, ek, hi _ _ q'⟩

theorem gcd_abs (a b : Int) : Int.gcd (if a < 0 then -a else a) (if b < 0 then -b else b) = Int.gcd a b := by
  rw [My.natAbs_abs, My.natAbs_abs]
  rfl
theorem ok_divisor_of (T : Txt K mg t) : FnOk P w K mg base CX0 1 t.f_divisor_of t.d_divisor_of ["one", "other"] sp_gcd := by
  refine T.F_divisor_of.ok sc_divisor_of (fun vs H Q E h => ?_) (fun cdv A outer s H vs Q E hr h => ?_)
  · obtain ⟨a, b, rfl, _⟩ := h
    rfl
  obtain ⟨a, b, rfl, q⟩ := h
  refine ⟨_, (pss_cons (ps_set (i := 2) sc_divisor_of.nd rfl (Or.inl rfl) (pe_callB call_abs rfl T.z_abs bt_abs (pa_cons (pv 0) pa_nil)))
  (pss_cons (ps_set (i := 3) sc_divisor_of.nd rfl (Or.inl rfl) (pe_callB call_abs rfl T.z_abs bt_abs (pa_cons (pv 1) pa_nil)))
  (pss_cons (ps_while PassesOwn.never (pt_truth (pv 3) (fun _ => rfl)) (pss_cons (ps_set (i := 4) sc_divisor_of.nd rfl (Or.inl rfl) (pe_op op_mod (pv 2) (pv 3)))
  (pss_cons (ps_set (i := 2) sc_divisor_of.nd rfl (Or.inl rfl) (pv 3))
  (pss_one (ps_set (i := 3) sc_divisor_of.nd rfl (Or.inl rfl) (pv 4))))))
  (pss_one (ps_ret (pv 2)))))), ?_⟩
  refine ⟨_, rfl, _, rfl, ?_⟩
  refine ⟨_, rfl, _, rfl, ?_⟩
  dsimp only [gName, tSeq]
  refine while_by (fun σ H' => ∃ (x y : Int) (r : Option V), σ = [some (.int a), some (.int b), some (.int x), some (.int y), r] ∧ H' = H ∧ 0 ≤ x ∧ 0 ≤ y ∧ Int.gcd x y = Int.gcd a b)
    (fun σ _ => match σ with | [_, _, _, some (.int y), _] => y.toNat | _ => 0) ⟨_, _, none, rfl, rfl, by split <;> omega, by split <;> omega, gcd_abs a b⟩ ?_ ?_
  · rintro σ H' ⟨x, y, r, rfl, rfl, hx, hy, hg⟩
    refine ⟨_, rfl, _, rfl, ?_⟩
    by_cases h0 : y = 0
    · subst h0
      refine iteF ?_
      have e : x = ((Int.gcd a b : Nat) : Int) := by
        rw [← hg, Int.gcd_zero_right]
        omega
      refine ⟨_, rfl, ?_⟩
      rw [e]
      exact q
    · have hb : (y != 0) = true := by simpa using h0
      refine iteBT hb ?_
      have hp : 0 < y := by omega
      have h1 := Int.emod_nonneg x h0
      have h2 := Int.emod_lt_of_pos x hp
      refine ⟨_, rfl, _, rfl, _, _, rfl, rfl, hp, _, rfl, _, rfl, ⟨y, x % y, _, rfl, rfl, hy, h1, ?_⟩, ?_⟩
      · rw [My.gcd_step, hg]
      · show (x % y).toNat < y.toNat
        omega
  · rintro σ H' Q1 Q2 hi ⟨v, e, k, tr, q'⟩
    exact ⟨v, e, k, tr, hi _ _ q'⟩
end
theorem Pr.kp {K : PySem.W.Frag} {H H' : Hp} {p : Addr} {a b : Int} {n : Nat} (e : Same H H') (h : Pr K H p a b n) : Pr K H' p a b n := h.keep e
section
variable {K : PySem.W.Frag} {H : Hp} {Q : VK} {E : XK} {p r : Addr} {a b c d t m : Int} {n1 n2 : Nat} {f : Rat → Rat → Rat} {ok : Int → Prop} {F : Int → Int → Int → Int → V}
end
local macro_rules | `(tactic| walk_at "get") => `(tactic| repeat (first | exact GetTo.here | apply GetTo.next))
local macro_rules | `(tactic| walk_at "set") => `(tactic| repeat (first | exact SetTo.here | apply SetTo.next))
local macro_rules | `(tactic| walk_at "tp") => `(tactic| first | assumption | exact SqT.of (by assumption) | ((apply Same.tup); (focus assumption); (walk_at "tp")) | ((apply But.tup); (focus assumption); (focus assumption); (walk_at "tp")))
local macro_rules | `(tactic| walk_at "lq") => `(tactic| first | assumption | exact SqL.of (by assumption) | ((apply Same.seq); (focus assumption); (walk_at "lq")) | ((apply But.seq); (focus assumption); (focus assumption); (walk_at "lq")))
local macro_rules | `(tactic| walk_at "hl") => `(tactic| first | assumption | exact (show Same _ _ by assumption) _ _ (by walk_at "hl") | exact (show But _ _ _ by assumption) _ _ (by assumption) (by walk_at "hl"))
local macro_rules | `(tactic| walk_at "sm") => `(tactic| first | assumption | exact Same.refl _ | ((apply sm2); (focus assumption); (walk_at "sm")))
local macro_rules | `(tactic| walk_at "isi") => `(tactic| ((with_reducible refine z_isi0 ?_); first | (with_reducible refine z_isI_int ?_) | (with_reducible refine z_isB_int ?_) | (with_reducible refine z_isS_int ?_) | (with_reducible refine z_isN_int ?_) | (with_reducible refine z_isI_bool ?_) | (with_reducible refine z_isB_bool ?_) | (with_reducible refine z_isS_bool ?_) | (with_reducible refine z_isN_bool ?_) | (with_reducible refine z_isI_str ?_) | (with_reducible refine z_isB_str ?_) | (with_reducible refine z_isS_str ?_) | (with_reducible refine z_isN_str ?_) | (with_reducible refine z_isI_tuple ?_) | (with_reducible refine z_isB_tuple ?_) | (with_reducible refine z_isS_tuple ?_) | (with_reducible refine z_isN_tuple ?_) | (with_reducible refine z_isI_list ?_) | (with_reducible refine z_isB_list ?_) | (with_reducible refine z_isS_list ?_) | (with_reducible refine z_isN_list ?_) | ((with_reducible apply z_isT_int); (focus (walk_at "tp"))) | ((with_reducible apply z_isL_int); (focus (walk_at "lq"))) | ((with_reducible apply z_isT_bool); (focus (walk_at "tp"))) | ((with_reducible apply z_isL_bool); (focus (walk_at "lq"))) | ((with_reducible apply z_isT_str); (focus (walk_at "tp"))) | ((with_reducible apply z_isL_str); (focus (walk_at "lq"))) | ((with_reducible apply z_isT_tuple); (focus (walk_at "tp"))) | ((with_reducible apply z_isL_tuple); (focus (walk_at "lq"))) | ((with_reducible apply z_isT_list); (focus (walk_at "tp"))) | ((with_reducible apply z_isL_list); (focus (walk_at "lq")))))
local macro_rules | `(tactic| walk_at "non") => `(tactic| with_reducible (first | refine z_nonR ?_ | refine z_notR ?_ | refine z_nonN ?_ | refine z_notN ?_ | refine z_nonI ?_ | refine z_notI ?_ | refine z_nonS ?_ | refine z_notS ?_))
local macro_rules | `(tactic| walk_at "z1") => `(tactic| (first | ((with_reducible apply z_var); (focus (walk_at "get"))) | with_reducible (first | refine z_c ?_ | refine z_op ?_ | refine z_I0 ?_ | refine z_asg ?_ | refine z_seq ?_ | refine z_EqI ?_ | refine z_NeI ?_ | refine z_EqS ?_ | refine z_NeS ?_ | refine z_test ?_ | refine z_tB ?_ | refine z_ebl ?_ | refine z_ifs ?_ | refine z_ret ?_ | refine z_cons ?_ | refine z_nil ?_ | refine z_call0 ?_ | refine z_callD ?_ | refine z_un ?_ | refine z_U ?_ | refine z_and ?_ | refine z_or ?_ | refine z_not ?_ | refine z_andV ?_ | refine z_orV ?_ | refine z_notV ?_ | refine z_if ?_ | refine z_chain ?_ | refine z_next ?_ | refine z_drop ?_ | refine z_par ?_ | refine z_cb ?_ | refine z_e1 ?_ | refine z_e2 ?_ | refine z_tup ?_ | refine iteT ?_ | refine iteF ?_ | refine z_iteNb ?_ | refine z_eint ?_ | refine z_gcons ?_ | refine z_gnil ?_ | refine z_sl ?_ | refine z_noP ?_ | refine z_part ?_ | refine z_lst ?_ | refine z_bm ?_ | refine z_for ?_ | refine z_iL ?_ | refine z_iT ?_ | refine z_iR1 ?_ | refine z_iR2 ?_ | refine z_iR3 ?_ | refine z_toI ?_ | refine z_toB ?_ | refine z_whN ?_) | ((with_reducible apply z_name); (focus (walk_at "set"))) | ((with_reducible apply z_par2); (focus (walk_at "set")); (focus (walk_at "set"))) | ((with_reducible apply z_mkt); (focus (exact Nat.le_of_ble_eq_true rfl)); (intro p H' n s e))))
local macro_rules | `(tactic| walk_at "z2") => `(tactic| first | ((with_reducible apply z_I); (focus (walk_at "cd"))) | ((with_reducible apply z_ixT); (focus (walk_at "tp")); (focus rfl)) | walk_at "isi" | walk_at "non" | ((with_reducible apply z_len); (focus (first | exact .inl (by walk_at "lq") | exact .inr (by walk_at "tp")))) | ((with_reducible apply z_gtup); (focus (walk_at "tp")); (focus rfl)) | ((with_reducible apply z_iL2); (focus (walk_at "lq"))) | ((with_reducible apply z_iT2); (focus (walk_at "tp"))) | ((with_reducible apply z_r1c); (focus (first | decide | omega)); (focus (first | decide | omega))) | ((with_reducible apply z_r2c); (focus (first | decide | omega)); (focus (first | decide | omega)); (focus (first | decide | omega)); (focus (first | decide | omega))))
local macro_rules | `(tactic| walk_at "bd") => `(tactic| first | assumption | exact Pr.ba (by assumption) | exact Pr.bb (by assumption) | exact (show My.Bd 64 _ by unfold My.Bd; decide) | ((with_reducible apply bd_mul) <;> (walk_at "bd")) | ((with_reducible apply bd_add) <;> (walk_at "bd")) | ((with_reducible apply bd_sub) <;> (walk_at "bd")) | ((with_reducible apply My.Bd.neg); (walk_at "bd")) | ((with_reducible apply My.Bd.mod); (focus (first | decide | omega | assumption)); (walk_at "bd")) | ((with_reducible apply My.Bd.div); (focus (first | decide | omega | assumption)); (walk_at "bd")) | exact bd_60 (by omega) (by omega) | exact (show My.Bd 256 _ by unfold My.Bd; decide))
local macro_rules | `(tactic| walk_at "mid") => `(tactic| first | assumption | ((apply My.Bd.mono); (focus (walk_at "bd")); (first | decide | omega)))
local macro_rules | `(tactic| walk_at "cd") => `(tactic| first | assumption | exact True.intro | decide | omega | exact ⟨by first | decide | omega, by first | decide | omega⟩ | exact ⟨by decide, by decide, by decide⟩ | exact .inl ⟨by first | decide | omega, by first | decide | omega⟩ | exact .inr ⟨by first | decide | omega, by first | decide | omega⟩ | exact ⟨by walk_at "mid", by walk_at "mid"⟩ | exact ⟨by first | decide | omega | assumption, by walk_at "mid"⟩)
local macro_rules | `(tactic| walk_at "pr") => `(tactic| first | assumption | ((apply Pr.kp); (focus assumption); (walk_at "pr")))
local macro_rules | `(tactic| walk_at "sp") => `(tactic| ((with_reducible apply a_number); (focus (walk_at "bd")); (focus (walk_at "bd")); (focus (first | decide | omega)); (focus (first | decide | omega)); (intro p H' x y s R g e)))
local macro_rules | `(tactic| walk_at "sp") => `(tactic| ((with_reducible apply a_numberD); (focus (walk_at "bd")); (focus (walk_at "bd")); (focus (first | decide | omega)); (focus (first | decide | omega)); (intro p H' x y s R g e)))
local macro_rules | `(tactic| walk_at "sp") => `(tactic| ((with_reducible apply a_two); (focus (walk_at "pr")); (focus (walk_at "pr")); (focus (first | decide | omega)); (focus (first | exact True.intro | assumption)); (intro p H' x y s R g e)))
local macro_rules | `(tactic| walk_at "sp") => `(tactic| ((with_reducible apply a_cmp); (focus (walk_at "pr")); (focus (walk_at "pr")); (focus (first | decide | omega))))
local macro_rules | `(tactic| walk_at "ji") => `(tactic| ((with_reducible apply z_joinI); (focus ((intro S q); (walk_at "run"); (exact q))); (focus ((intro hb S q); (walk_at "run"); (exact q))); (focus (walk_at "get")); (focus (walk_at "set"))))
local macro_rules | `(tactic| walk_at "run") => `(tactic| repeat (first | walk_at "ji" | walk_at "z1" | walk_at "z2" | walk_at "sp"))
local macro_rules | `(tactic| walk_at "bd6") => `(tactic| first | assumption | exact bd_60 (by omega) (by omega))
local macro_rules | `(tactic| walk_at "sp") => `(tactic| ((with_reducible apply a_cell); (focus (walk_at "lq")); (focus (first | decide | omega))))
section
variable {P : Program} {w : World} {K : PySem.W.Frag} {mg : Str → Option Value} {base : Heap} {t : Adr}
theorem atI_first {α : Type} {xs : List α} {x : α} (h : xs[0]? = some x) : atI xs 0 = some x := atI_nat (j := 0) h
theorem map_at {α β : Type} {g : α → β} {xs : List α} {j : Nat} {x : α} (h : xs[j]? = some x) : (xs.map g)[j]? = some (g x) := by rw [List.getElem?_map, h]; rfl
theorem of_map_at {α β : Type} {g : α → β} {xs : List α} {j : Nat} {v : β} (h : (xs.map g)[j]? = some v) : ∃ x, xs[j]? = some x ∧ v = g x := by
  rw [List.getElem?_map] at h
  cases q : xs[j]? with
  | none => rw [q] at h; cases h
  | some x => rw [q] at h; exact ⟨x, rfl, (Option.some.inj h).symm⟩
local macro_rules | `(tactic| walk_at "sp") => `(tactic| with_reducible (first | refine z_fv ?_ | refine z_fsn ?_ | refine z_fsc ?_ | refine z_iS ?_ | refine z_iS2 ?_ | refine z_inS ?_ | refine z_tyS ?_ | refine z_starts ?_ | refine z_lcn ?_))
theorem le_size {n : Nat} (h : n ≤ 1000) : n ≤ sizeLine := Nat.le_trans h (by decide)
theorem ok_l_whole (T : Txt K mg t) : FnOk P w K mg base CX0 1 t.f_l_whole t.d_l_whole ["_law_found"] (sp_whole K) := by
  refine T.F_l_whole.ok sc_l_whole (fun vs H Q E h => ?_) (fun cdv A outer s H vs Q E hr h => ?_)
  · obtain ⟨x, g, rfl, _⟩ := h
    rfl
  obtain ⟨x, g, rfl, hg, q⟩ := h
  refine ⟨_, (pss_one (ps_ret (pe_and (pe_isi isi_int rfl rfl T.z_isinstance T.z_int bt_int (pv 0)) (pe_one (pe_not (pe_isi isi_bool rfl rfl T.z_isinstance T.z_bool bt_bool (pv 0))))))), ?_⟩
  refine ⟨_, rfl, _, g, rfl, hg, _, rfl, ?_⟩
  cases g with
  | int => exact iteT ⟨_, rfl, _, .int, rfl, hg, _, rfl, q⟩
  | bl => exact iteT ⟨_, rfl, _, .bl, rfl, hg, _, rfl, q⟩
  | non => exact iteF q
  | str => exact iteF q
  | tup => exact iteF q
  | lst => exact iteF q
  | dic => exact iteF q
noncomputable def sp_digits : Sp := fun vs H Q _ => ∃ z : Str, vs = [.str z] ∧ z.length ≤ 900 ∧ ∀ H', Same H H' → Q (.bl (My.digB (My.cs z))) H'
theorem empty_iff (z : Str) : z = "" ↔ My.cs z = [] := ⟨fun h => by rw [h]; rfl, fun h => My.cs_ext (by rw [h]; rfl)⟩
theorem ok_are_digits (T : Txt K mg t) : FnOk P w K mg base CX0 1 t.f_are_digits t.d_are_digits ["text"] (sp_digits) := by
  refine T.F_are_digits.ok sc_are_digits (fun vs H Q E h => ?_) (fun cdv A outer s H vs Q E hr h => ?_)
  · obtain ⟨z, rfl, _⟩ := h
    rfl
  obtain ⟨z, rfl, hz, q⟩ := h
  refine ⟨_, (pss_one (ps_ret (pe_and (pe_cmpR op_ne (pv 0) pe_str (nomark _)) (pe_one (pe_callB (call_all rfl) rfl T.z_all bt_all (pa_cons (pe_lc rfl (compOk_of (fr := []) (osc := defScope s_are_digits) (N := ["text"]) rfl rfl (by decide +kernel)) (pi_str (pv 0)) (fun _ _ _ _ _ => (pe_cmpR op_in_str (pv 0) (pe_glob (v := .str "0123456789") rfl T.g_DIGITS ⟨_, rfl⟩) rfl))) pa_nil)))))), z_go (σ := [some _]) rfl ?_⟩
  walk_at "run"
  refine z_iteD (fun h => ?_) (fun h => ?_)
  · have e : My.digB (My.cs z) = false := by rw [(empty_iff z).mp h]; rfl
    rw [← e]
    exact q _ (Same.refl _)
  · walk_at "run"
    refine lcn_str (fun c => .bl (decide (48 ≤ c ∧ c ≤ 57))) (le_size (by show z.length ≤ 1000; omega)) ?_ ?_
    · intro c H2 S hc s2 k
      walk_at "run"
      rw [My.in_digits]
      exact k _ (Same.refl _)
    · intro acc H2 hacc s2 ha
      walk_at "run"
      have e : (My.cs z).map (fun c => V.bl (decide (48 ≤ c ∧ c ≤ 57))) = ((My.cs z).map fun c => decide (48 ≤ c ∧ c ≤ 57)).map V.bl := by rw [List.map_map]; rfl
      have ha' : H2 acc = some (.lst (((My.cs z).map fun c => decide (48 ≤ c ∧ c ≤ 57)).map V.bl)) := by rw [← e]; exact ha
      refine z_all (SqL.of ha') ?_
      have e2 : (((My.cs z).map fun c => decide (48 ≤ c ∧ c ≤ 57)).all fun b => b) = My.digB (My.cs z) := by
        unfold My.digB
        have n0 : (My.cs z).isEmpty = false := by
          cases q0 : My.cs z with
          | nil => exact absurd ((empty_iff z).mpr q0) h
          | cons _ _ => rfl
        rw [n0, List.all_map]
        rfl
      rw [e2]
      exact q _ s2
theorem a_digits {H : Hp} {Q : VK} {E : XK} {z : Str} (h : z.length ≤ 900) (q : ∀ H', Same H H' → Q (.bl (My.digB (My.cs z))) H') : sp_digits [.str z] H Q E := ⟨z, rfl, h, q⟩
noncomputable def sp_numR (K : PySem.W.Frag) (C : Addr) : Sp := fun vs H Q E => ∃ (t m : Int) (n : Nat), vs = [.int t, .int m] ∧ My.Bd n t ∧ My.Bd n m ∧ n ≤ 3900 ∧ (m = 0 → E (.ref C) none H) ∧ (m ≠ 0 → NewQ K H Q n (My.qv t m))
theorem okR_number (T : Txt K mg t) : FnOk P w K mg base (CXe P w) 2 t.f_number t.d_number ["top", "bottom"] (sp_numR K t.c_NoNumber) := by
  have G_is_whole := ok_is_whole (P := P) (w := w) (base := base) T
  have G_divisor_of := ok_divisor_of (P := P) (w := w) (base := base) T
  refine T.F_number.okE sc_number (fun vs H Q E h => ?_) (fun cdv A outer s H vs Q E hr h => ?_)
  · obtain ⟨a, b, n, rfl, _⟩ := h
    rfl
  obtain ⟨tp, m, n, rfl, bt, bm, hn, hE, hQ⟩ := h
  refine ⟨_, (pss_cons (ps_if (PW.pt (pw_or (pt_not (pt_val (pe_call G_is_whole (hr.mono (by decide)) rfl T.m_is_whole T.k_is_whole T.b_is_whole .nil pass0 (pa_cons (pv 0) pa_nil)))) (pw_or1 (pt_not (pt_val (pe_call G_is_whole (hr.mono (by decide)) rfl T.m_is_whole T.k_is_whole T.b_is_whole .nil pass0 (pa_cons (pv 1) pa_nil))))))) (pss_one (ps_raise rfl T.x_NoNumber T.n_NoNumber T.m_NoNumber rfl raisesE (pa_cons pe_str pa_nil))) pss_nil)
  (pss_cons (ps_if (pt_cmpR op_eq (pv 1) pe_int (nomark _)) (pss_one (ps_raise rfl T.x_NoNumber T.n_NoNumber T.m_NoNumber rfl raisesE (pa_cons pe_str pa_nil))) pss_nil)
  (pss_cons (ps_set (i := 2) sc_number.nd rfl (Or.inl rfl) (pe_call G_divisor_of (hr.mono (by decide)) rfl T.m_divisor_of T.k_divisor_of T.b_divisor_of .nil pass0 (pa_cons (pv 0) (pa_cons (pv 1) pa_nil))))
  (pss_cons (ps_if (pt_cmpR op_lt (pv 1) pe_int (nomark _)) (pss_one (ps_set (i := 2) sc_number.nd rfl (Or.inl rfl) (pe_un un_neg (pv 2)))) pss_nil)
  (pss_one (ps_ret (pe_tup (pa_cons (pe_op op_fdivNB (pv 0) (pv 2)) (pa_cons (pe_op op_fdivNB (pv 1) (pv 2)) pa_nil))))))))), ?_⟩
  refine ⟨_, rfl, _, .int, rfl, True.intro, _, rfl, ?_⟩
  refine iteF ?_
  refine ⟨_, rfl, _, .int, rfl, True.intro, _, rfl, ?_⟩
  refine iteF ?_
  refine ⟨_, rfl, rfl, _, rfl, ?_⟩
  by_cases h0 : m = 0
  · subst h0
    refine iteDT rfl ?_
    exact ⟨(by show 1 ≤ sizeLine; decide), hE rfl⟩
  have hQ := hQ h0
  refine iteDF (fun z => h0 (V.int.inj z)) ?_
  have M := My.made_of (t := tp) h0
  refine ⟨_, rfl, _, rfl, _, _, rfl, ?_⟩
  refine ⟨_, rfl, _, _, rfl, rfl, _, rfl, ?_⟩
  have hg : 0 < Int.gcd tp m := Int.gcd_pos_of_ne_zero_right tp h0
  have hm : Mid ((Int.gcd tp m : Nat) : Int) := (My.Bd.of_natAbs (x := ((Int.gcd tp m : Nat) : Int)) (y := m) (by
    rw [Int.natAbs_natCast]
    exact Nat.le_of_dvd (by omega) (Nat.gcd_dvd_right tp.natAbs m.natAbs)) bm).mono (by omega)
  by_cases hneg : m < 0
  · refine iteDT hneg ?_
    have e : My.sg tp m = -((Int.gcd tp m : Nat) : Int) := if_pos hneg
    refine ⟨_, rfl, _, rfl, ?_⟩
    refine ⟨_, rfl, _, rfl, _, _, rfl, rfl, ⟨by omega, hm.neg⟩, _, rfl, _, rfl, _, _, rfl, rfl, ⟨by omega, hm.neg⟩, (by show 2 ≤ sizeLine; decide), fun p hp => ?_⟩
    exact hQ p _ _ _ (Same.new hp _) ⟨SqT.of (by rw [e]; exact upd_same), M.pos, My.Bd.of_natAbs M.ba bt, My.Bd.of_natAbs M.bb bm⟩ M.low (My.qv_eq (Int.ne_of_gt M.pos) h0 M.same)
  · refine iteDF hneg ?_
    have e : My.sg tp m = ((Int.gcd tp m : Nat) : Int) := if_neg hneg
    refine ⟨_, rfl, _, rfl, _, _, rfl, rfl, ⟨by omega, hm⟩, _, rfl, _, rfl, _, _, rfl, rfl, ⟨by omega, hm⟩, (by show 2 ≤ sizeLine; decide), fun p hp => ?_⟩
    exact hQ p _ _ _ (Same.new hp _) ⟨SqT.of (by rw [e]; exact upd_same), M.pos, My.Bd.of_natAbs M.ba bt, My.Bd.of_natAbs M.bb bm⟩ M.low (My.qv_eq (Int.ne_of_gt M.pos) h0 M.same)
noncomputable def sp_show (K : PySem.W.Frag) : Sp := fun vs H Q _ => ∃ (p : Addr) (x y : Int), vs = [.ref p] ∧ SqT K H p [.int x, .int y] ∧ x.natAbs < 10 ^ 60 ∧ y.natAbs < 10 ^ 60 ∧ ∀ z : Str, My.cs z = My.shw x y → Q (.str z) H
theorem ok_show_number (T : Txt K mg t) : FnOk P w K mg base CX0 1 t.f_show_number t.d_show_number ["one"] (sp_show K) := by
  refine T.F_show_number.ok sc_show_number (fun vs H Q E h => ?_) (fun cdv A outer s H vs Q E hr h => ?_)
  · obtain ⟨p, x, y, rfl, _⟩ := h
    rfl
  obtain ⟨p, x, y, rfl, hp, hx, hy, q⟩ := h
  have lx : (Str.ofString (toString x)).length ≤ 61 := by rw [← My.cs_len, My.cs_str]; exact My.txt_len hx
  have ly : (Str.ofString (toString y)).length ≤ 61 := by rw [← My.cs_len, My.cs_str]; exact My.txt_len hy
  refine ⟨_, (pss_cons (ps_set (i := 1) sc_show_number.nd rfl (Or.inl rfl) (pe_ix ix_tup (pv 0) pe_int (fun _ _ => rfl)))
  (pss_cons (ps_set (i := 2) sc_show_number.nd rfl (Or.inl rfl) (pe_ix ix_tup (pv 0) pe_int (fun _ _ => rfl)))
  (pss_cons (ps_if (pt_cmpR op_eq (pv 2) pe_int (nomark _)) (pss_one (ps_ret (pe_fs1 (pe_fv (pv 1))))) pss_nil)
  (pss_one (ps_ret (pe_fs (PFs.cons (pe_fv (pv 1)) (PFs.cons pe_str (PFs.cons (pe_fv (pv 2)) PFs.nil))))))))), z_go (σ := [some _, none, none]) rfl ?_⟩
  walk_at "run"
  refine z_iteD (fun h => ?_) (fun h => ?_)
  · walk_at "run"
    refine ⟨My.log60 hx, ?_⟩
    refine q _ ?_
    rw [My.cs_str]
    exact (if_pos h).symm
  · walk_at "run"
    refine ⟨My.log60 hx, ?_⟩
    walk_at "run"
    refine ⟨?_, ?_⟩
    · rw [Str.length_append]
      exact le_size (by show 0 + _ ≤ 1000; omega)
    walk_at "run"
    refine ⟨?_, ?_⟩
    · rw [Str.length_append, Str.length_append]
      exact le_size (by show 0 + _ + 1 ≤ 1000; omega)
    walk_at "run"
    refine ⟨My.log60 hy, ?_⟩
    walk_at "run"
    refine ⟨?_, ?_⟩
    · rw [Str.length_append, Str.length_append, Str.length_append]
      exact le_size (by show 0 + _ + 1 + _ ≤ 1000; omega)
    walk_at "run"
    refine q _ ?_
    rw [My.cs_app, My.cs_app, My.cs_app, My.cs_str, My.cs_str]
    unfold My.shw
    rw [if_neg h, List.append_assoc, List.append_assoc]
    rfl
noncomputable def sp_read (K : PySem.W.Frag) (C : Addr) (more : List V) : Sp := fun vs H Q E => ∃ z : Str, vs = .str z :: more ∧ z.length ≤ 400 ∧ (∀ t b, My.DueOk (My.cs z) t b → ∀ p H', Same H H' → SqT K H' p [.int t, .int b] → Q (.ref p) H') ∧ ((∀ t b, ¬ My.DueOk (My.cs z) t b) → ∀ H', Same H H' → E (.ref C) none H')
noncomputable def figV : V → V
  | .str z => .bl (My.figB (My.cs z))
  | _ => .non
theorem figV_map (ts : List Str) : (ts.map V.str).map figV = (ts.map fun z => My.figB (My.cs z)).map V.bl := by rw [List.map_map, List.map_map]; rfl
noncomputable def hdS (a : Str) : Str := if (My.cs a).head? = some 45 then PySem.Txt.slice a (some 1) none else a
theorem hdS_cs (a : Str) : My.cs (hdS a) = My.hd (My.cs a) := by
  unfold hdS My.hd
  split
  · next h =>
    refine My.sl_from a ?_
    rw [← My.cs_len]
    cases q : My.cs a with
    | nil => rw [q] at h; cases h
    | cons _ _ => rw [List.length_cons]; omega
  · rfl
theorem hdS_len (a : Str) : (hdS a).length ≤ a.length := by
  unfold hdS
  split
  · exact PySem.Txt.slice_le ..
  · exact Nat.le_refl _
theorem cut1 (x : V) (r : List V) : L2.cutV (x :: r) (some 1) none = r := by
  unfold L2.cutV
  have e1 : HT.sIx (x :: r).length 0 (some 1) = min 1 (x :: r).length := HT.sIx_nat _ _ 1
  have e2 : HT.sIx (x :: r).length (x :: r).length none = (x :: r).length := rfl
  have e3 : min 1 (x :: r).length = 1 := by rw [List.length_cons]; omega
  rw [e1, e2, e3, List.drop_one, List.tail_cons, List.length_cons, Nat.add_sub_cancel, List.take_length]
theorem z_ifJ {c : TT} {ta tb : TE} {σ : St} {H : Hp} {Q : VK} (b : Bool) (v : V) (hc : ∀ S : Bool → Hp → Prop, S b H → c σ H S) (h1 : b = true → ∀ S : V → Hp → Prop, S v H → ta σ H S) (h2 : b = false → ∀ S : V → Hp → Prop, S v H → tb σ H S) (q : Q v H) : tIf c ta tb σ H Q := by
  refine hc _ ?_
  cases b with
  | true => exact iteT (h1 rfl _ q)
  | false => exact iteF (h2 rfl _ q)
theorem z_slLn {K : PySem.W.Frag} {H : Hp} {Q : VK} {p : Addr} {xs : List V} {lo hi : Option Int} (hs : SqL K H p xs) (q : ∀ p' H', H p' = none → Same H H' → H' p' = some (.lst (L2.cutV xs lo hi)) → Q (.ref p') H') : rSlL K (.ref p) lo hi H Q := ⟨p, xs, rfl, hs, fun p' hp => q p' _ hp (Same.new hp _) upd_same⟩
theorem join_len (y : Str) : ∀ (ts : List Str), ∀ p ∈ ts, p.length ≤ (Str.join y ts).length
  | [x], p, h => by rw [List.mem_singleton.mp h]; exact Nat.le_refl _
  | x :: x2 :: r, p, h => by
    show p.length ≤ (x ++ y ++ Str.join y (x2 :: r)).length
    rw [Str.length_append, Str.length_append]
    rcases List.mem_cons.mp h with e | e
    · rw [e]; omega
    · have := join_len y (x2 :: r) p e
      omega
theorem len60 (z : Str) : decide ((z.length : Int) ≤ 60) = decide ((My.cs z).length ≤ 60) := by
  have e := My.cs_len z
  rw [Bool.eq_iff_iff, decide_eq_true_eq, decide_eq_true_eq]
  omega
theorem num_is {K : PySem.W.Frag} {H : Hp} {p : Addr} {a b : Int} {n : Nat} {k : Int} (h : Pr K H p a b n) (g : Int.gcd a b = 1) (e : My.qv a b = My.qv k 1) : a = k ∧ b = 1 :=
  My.low_unique h.pos (by decide) g (Int.gcd_one_right ..) (My.eq_of_qv h.ne (by decide) e)
theorem low_abs {x y n d : Int} (hy : 0 < y) (g : Int.gcd x y = 1) (d0 : 0 < d) (q : My.qv x y = My.qv n d) (hn : n.natAbs < 10 ^ 60) (hd : d.natAbs < 10 ^ 60) : x.natAbs < 10 ^ 60 ∧ y.natAbs < 10 ^ 60 := by
  have M := My.made_of (t := n) (m := d) (by omega)
  obtain ⟨e1, e2⟩ := My.low_unique hy M.pos g M.low (My.eq_of_qv (by omega) (Int.ne_of_gt M.pos) (q.trans (My.qv_eq (Int.ne_of_gt M.pos) (by omega) M.same).symm))
  rw [e1, e2]
  exact ⟨Nat.lt_of_le_of_lt M.ba hn, Nat.lt_of_le_of_lt M.bb hd⟩
theorem all_figs {a : Str} {r : List Str} : (((hdS a :: r).map fun z => My.figB (My.cs z)).all fun b => b) = true ↔ My.figs (My.hd (My.cs a)) ∧ ∀ b ∈ r, My.figs (My.cs b) := by
  rw [List.all_map, List.all_eq_true]
  constructor
  · intro h
    have h0 := h _ List.mem_cons_self
    refine ⟨?_, fun b hb => My.figB_iff.mp (h b (List.mem_cons_of_mem _ hb))⟩
    rw [← hdS_cs]
    exact My.figB_iff.mp h0
  · rintro ⟨h1, h2⟩ x hx
    rcases List.mem_cons.mp hx with e | e
    · subst e
      show My.figB (My.cs (hdS a)) = true
      rw [My.figB_iff, hdS_cs]
      exact h1
    · exact My.figB_iff.mpr (h2 x e)
theorem ok_read_figures (T : Txt K mg t) : FnOk P w K mg base (CXe P w) 3 t.f_read_figures t.d_read_figures ["text", "most"] (sp_read K t.c_NoNumber [.int 60]) := by
  have G_number := okR_number (P := P) (w := w) (base := base) T
  have G_are_digits := ok_are_digits (P := P) (w := w) (base := base) T
  have G_show_number := ok_show_number (P := P) (w := w) (base := base) T
  obtain ⟨ds_number, DV_number, BD_number⟩ := T.b_number1
  refine T.F_read_figures.toD.okE sc_read_figures (fun vs H Q E h => ?_) (fun cdv A outer s H vs Q E hr h => ?_)
  · obtain ⟨z, rfl, _⟩ := h
    rfl
  obtain ⟨z, rfl, hz, hQ, hE⟩ := h
  refine ⟨_, (pss_cons (ps_if (pt_not (pt_val (pe_isi isi_str rfl rfl T.z_isinstance T.z_str bt_str (pv 0)))) (pss_one (ps_raise rfl T.x_NoNumber T.n_NoNumber T.m_NoNumber rfl raisesE (pa_cons pe_str pa_nil))) pss_nil)
  (pss_cons (ps_set (i := 2) sc_read_figures.nd rfl (Or.inl rfl) (pe_bm PySem.F.plainAttrs_str PySem.F.slot_str_split PySem.F.type_str_split mt_split (pv 0) (pa_cons pe_str pa_nil)))
  (pss_cons (ps_set (i := 3) sc_read_figures.nd rfl (Or.inl rfl) (pe_op op_cat (pe_lst (pa_cons (pe_ifExp (pt_val (pe_bm PySem.F.plainAttrs_str PySem.F.slot_str_startswith PySem.F.type_str_startswith mt_startswith (pe_ix ix_list (pv 2) pe_int (fun _ _ => rfl)) (pa_cons pe_str pa_nil))) (pe_slice sl_str (pe_ix ix_list (pv 2) pe_int (fun _ _ => rfl)) (po_some pe_int) po_none) (pe_ix ix_list (pv 2) pe_int (fun _ _ => rfl))) pa_nil)) (pe_slice sl_list (pv 2) (po_some pe_int) po_none)))
  (pss_cons (ps_if (pt_not (pt_val (pe_callB (call_all rfl) rfl T.z_all bt_all (pa_cons (pe_lc rfl (compOk_of (fr := [("most", 1)]) (osc := defScope s_read_figures) (N := ["text", "most", "parts", "figures", "one"]) rfl rfl (by decide +kernel)) (pi_list (pv 3)) (fun _ _ _ _ _ => (pe_and (pe_call G_are_digits (hr.mono (by decide)) rfl T.m_are_digits T.k_are_digits T.b_are_digits .nil pass0 (pa_cons (pv 0) pa_nil)) (pe_one (pe_cmpR op_le (pe_callB call_len_str rfl T.z_len PySem.boot_len (pa_cons (pv 0) pa_nil)) (pv 1) (nomark _)))))) pa_nil)))) (pss_one (ps_raise rfl T.x_NoNumber T.n_NoNumber T.m_NoNumber rfl raisesE (pa_cons pe_str pa_nil))) pss_nil)
  (pss_cons (ps_set (i := 4) sc_read_figures.nd rfl (Or.inl rfl) (pe_ifExp (pt_cmpR op_eq (pe_callB call_len_seq rfl T.z_len PySem.boot_len (pa_cons (pv 2) pa_nil)) pe_int (nomark _)) (pe_call G_number (hr.mono (by decide)) rfl T.m_number T.k_number BD_number DV_number passes_on (pa_cons (pe_callTy call_intT rfl T.z_int bt_int (pa_cons (pe_ix ix_list (pv 2) pe_int (fun _ _ => rfl)) pa_nil)) pa_nil)) (pe_call G_number (hr.mono (by decide)) rfl T.m_number T.k_number T.b_number .nil passes_on (pa_cons (pe_callTy call_intT rfl T.z_int bt_int (pa_cons (pe_ix ix_list (pv 2) pe_int (fun _ _ => rfl)) pa_nil)) (pa_cons (pe_callTy call_intT rfl T.z_int bt_int (pa_cons (pe_ix ix_list (pv 2) pe_int (fun _ _ => rfl)) pa_nil)) pa_nil)))))
  (pss_cons (ps_if (pt_cmpR op_ne (pe_call G_show_number (hr.mono (by decide)) rfl T.m_show_number T.k_show_number T.b_show_number .nil pass0 (pa_cons (pv 4) pa_nil)) (pv 0) (nomark _)) (pss_one (ps_raise rfl T.x_NoNumber T.n_NoNumber T.m_NoNumber rfl raisesE (pa_cons pe_str pa_nil))) pss_nil)
  (pss_one (ps_ret (pv 4))))))))), z_go (σ := [some _, some _, none, none, none]) rfl ?_⟩
  walk_at "run"
  refine z_split rfl (le_size (by omega)) (fun p H1 hp s1 hl => ?_)
  have hj := PySem.StrLaws.join_split z "/"
  have hlen : ∀ x ∈ PySem.Txt.split z "/", x.length ≤ 400 := fun x hx => by
    have := join_len "/" _ x hx
    rw [hj] at this
    omega
  have hcount := PyProof.Rows.split_le z "/"
  have hcase := My.split_is z
  obtain ⟨a, r, ets⟩ : ∃ a r, PySem.Txt.split z "/" = a :: r := by
    rcases hcase with ⟨a, e, _⟩ | ⟨a, b, e, _⟩ | ⟨a, b, c, r, D, e, _⟩
    · exact ⟨_, _, e⟩
    · exact ⟨_, _, e⟩
    · exact ⟨_, _, e⟩
  rw [ets] at hl hlen hcase hcount
  have hL : SqL K H1 p ((a :: r).map V.str) := SqL.of hl
  have h0 : atI ((a :: r).map V.str) 0 = some (.str a) := atI_first (List.getElem?_cons_zero ..)
  have la := hlen a List.mem_cons_self
  with_reducible apply z_name
  · walk_at "set"
  refine z_seq (z_asg (z_op (z_lst (z_cons ?_))))
  refine z_ifJ (decide ((My.cs a).head? = some 45)) (.str (hdS a)) ?_ ?_ ?_ ?_
  · intro S q
    walk_at "run"
    refine z_ixL hL h0 ?_
    walk_at "run"
    rw [My.starts_is]
    exact q
  · intro hb S q
    walk_at "run"
    refine z_ixL hL h0 ?_
    walk_at "run"
    refine z_slS (le_size (by omega)) ?_
    have e : hdS a = PySem.Txt.slice a (some 1) none := if_pos (of_decide_eq_true hb)
    rw [e] at q
    exact q
  · intro hb S q
    walk_at "run"
    refine z_ixL hL h0 ?_
    have e : hdS a = a := if_neg (of_decide_eq_false hb)
    rw [e] at q
    exact q
  walk_at "run"
  refine z_mkl (Nat.le_of_ble_eq_true rfl) (fun l1 H2 hp2 s2 hl2 => ?_)
  walk_at "run"
  refine z_slLn (s2.seq hL) (fun l3 H3 hp3 s3 hl3 => ?_)
  have ecut : L2.cutV ((a :: r).map V.str) (some 1) none = r.map V.str := cut1 _ _
  rw [ecut] at hl3
  have hr3 : r.length ≤ 402 := by
    rw [List.length_cons] at hcount
    omega
  refine z_cat (s3 _ _ hl2) hl3 (le_size (by simp only [List.length_map, List.length_cons, List.length_nil]; omega)) (fun pf H4 s4 hf => ?_)
  have sf : H4 pf = some (.lst ((hdS a :: r).map V.str)) := hf
  have lf : ∀ x ∈ hdS a :: r, x.length ≤ 400 := fun x hx => by
    rcases List.mem_cons.mp hx with e | e
    · rw [e]; exact Nat.le_trans (hdS_len a) la
    · exact hlen x (List.mem_cons_of_mem _ e)
  have kf : SqL K H4 pf ((hdS a :: r).map V.str) := SqL.of sf
  walk_at "run"
  refine lcn_list figV kf (le_size (by rw [List.length_map, List.length_cons]; omega)) ?_ ?_
  · intro x H5 S hx s5 k
    obtain ⟨y, hy, rfl⟩ := List.mem_map.mp hx
    have ly := lf y hy
    walk_at "run"
    refine a_digits (by omega) (fun H6 s6 => ?_)
    walk_at "run"
    refine z_ite2 (fun hb => ?_) (fun hb => ?_)
    · walk_at "run"
      refine ⟨y, rfl, le_size (by omega), ?_⟩
      walk_at "run"
      have e : V.bl (decide ((y.length : Int) ≤ 60)) = figV (.str y) := by
        show _ = V.bl (My.digB (My.cs y) && decide ((My.cs y).length ≤ 60))
        rw [hb, len60]; rfl
      rw [e]
      exact k _ s6
    · have e : V.bl false = figV (.str y) := by
        show _ = V.bl (My.digB (My.cs y) && decide ((My.cs y).length ≤ 60))
        rw [hb]; rfl
      rw [e]
      exact k _ s6
  intro acc H5 hacc s5 ha
  rw [figV_map] at ha
  have s15 : Same H H5 := s1.trans (s2.trans (s3.trans (s4.trans s5)))
  have hL5 := s5.seq (s4.seq (s3.seq (s2.seq hL)))
  walk_at "run"
  refine z_all (SqL.of ha) ?_
  walk_at "run"
  have no : (∀ t b, ¬ My.DueOk (My.cs z) t b) → ∀ H', Same H H' → 1 ≤ sizeLine ∧ E (.ref t.c_NoNumber) none H' := fun h H' s' => ⟨by decide, hE h H' s'⟩
  refine z_ite2 (fun hb => ?_) (fun hb => ?_)
  rotate_left
  · have nf : ¬ (My.figs (My.hd (My.cs a)) ∧ ∀ b ∈ r, My.figs (My.cs b)) := fun z => by
      rw [all_figs.mpr z] at hb; cases hb
    refine no ?_ _ s15
    rcases hcase with ⟨a', e, e1, e2⟩ | ⟨a', b, e, e1, e2⟩ | ⟨a', b, c, r', D, e, e1, e2, e3⟩
    · cases e
      rw [e1]
      exact My.due_one_not e2 fun f => nf ⟨f, fun _ h => absurd h List.not_mem_nil⟩
    · cases e
      rw [e1]
      exact My.due_two_not e2 fun f => nf ⟨f.1, fun x h => by rw [List.mem_singleton.mp h]; exact f.2.1⟩
    · cases e
      rw [e1]
      exact (My.due_more e3 e2).1
  · obtain ⟨fa, fr⟩ := all_figs.mp hb
    have ia := My.int_of fa
    have va := My.val_abs fa
    walk_at "run"
    have b1 : My.Bd 200 1 := (show My.Bd 64 (1 : Int) by unfold My.Bd; decide).mono (by decide)
    refine z_iteD (fun h1 => ?_) (fun h1 => ?_)
    · have er : r = [] := by
        rw [List.length_map, List.length_cons] at h1
        exact List.eq_nil_of_length_eq_zero (by omega)
      subst er
      obtain ⟨e1, e2⟩ : My.cs z = My.cs a ∧ 47 ∉ My.cs a := by
        rcases hcase with ⟨a', e, e1, e2⟩ | ⟨a', b, e, e1, e2⟩ | ⟨a', b, c, r', D, e, e1, e2, e3⟩
        · cases e; exact ⟨e1, e2⟩
        · cases e
        · cases e
      walk_at "run"
      refine z_ixL hL5 h0 ?_
      walk_at "run"
      refine z_intT ia.1 (by omega) ?_
      walk_at "run"
      refine ⟨_, 1, 200, rfl, My.bd200 va, b1, by decide, fun e => absurd e (by decide), fun _ p1 H6 x y s6 R6 g6 q6 => ?_⟩
      obtain ⟨ex, ey⟩ := num_is R6 g6 q6
      subst ex ey
      have D1 := My.due_one e2 fa
      walk_at "run"
      refine ⟨p1, _, _, rfl, R6.s, va, by decide, fun z' hz' => ?_⟩
      walk_at "run"
      refine z_iteD (fun e => ?_) (fun e => ?_)
      · subst e
        walk_at "run"
        refine hQ _ _ ?_ _ _ (s15.trans s6) R6.s
        rw [e1]
        exact D1.1 (by rw [← hz', e1])
      · walk_at "run"
        refine no ?_ _ (s15.trans s6)
        rw [e1]
        exact D1.2 fun q => e (My.cs_ext (by rw [hz', q, e1]))
    · obtain ⟨b, r', rfl⟩ : ∃ b r', r = b :: r' := by
        cases r with
        | nil => exact absurd rfl h1
        | cons b r' => exact ⟨b, r', rfl⟩
      have fb := fr b List.mem_cons_self
      obtain ⟨vb1, vb2⟩ := My.val_dig fb.2.1
      have fb' : My.figs (My.hd (My.cs b)) := by rw [vb1]; exact fb
      have ib := My.int_of fb'
      have vb := My.val_abs fb'
      have hb1 : atI ((a :: b :: r').map V.str) 1 = some (.str b) := atI_nat (j := 1) rfl
      walk_at "run"
      refine z_ixL hL5 h0 ?_
      walk_at "run"
      refine z_intT ia.1 (by omega) ?_
      walk_at "run"
      refine z_ixL hL5 hb1 ?_
      walk_at "run"
      refine z_intT ib.1 (by omega) ?_
      walk_at "run"
      refine ⟨_, _, 200, rfl, My.bd200 va, My.bd200 vb, by decide, fun d0 => ?_, fun d0 p1 H6 x y s6 R6 g6 q6 => ?_⟩
      · refine hE ?_ _ s15
        rcases hcase with ⟨a', e, e1, e2⟩ | ⟨a', b', e, e1, e2⟩ | ⟨a', b', c, r'', D, e, e1, e2, e3⟩
        · cases e
        · cases e
          rw [e1]
          exact My.due_two_not e2 fun f => by
            rw [vb2] at d0
            have := f.2.2
            omega
        · cases e
          rw [e1]
          exact (My.due_more e3 e2).1
      · rw [vb2] at d0 vb q6
        obtain ⟨x60, y60⟩ := low_abs R6.pos g6 (by omega) q6 va vb
        have fin : (My.shw x y = My.cs z → My.DueOk (My.cs z) x y) ∧ (My.shw x y ≠ My.cs z → ∀ t b, ¬ My.DueOk (My.cs z) t b) := by
          rcases hcase with ⟨a', e, e1, e2⟩ | ⟨a', b', e, e1, e2⟩ | ⟨a', b', c, r'', D, e, e1, e2, e3⟩
          · cases e
          · cases e
            rw [e1]
            exact My.due_two e2 fa fb (by omega) R6.pos g6 q6
          · cases e
            rw [e1]
            exact ⟨fun z => absurd z ((My.due_more e3 e2).2 x y), fun _ => (My.due_more e3 e2).1⟩
        walk_at "run"
        refine ⟨p1, _, _, rfl, R6.s, x60, y60, fun z' hz' => ?_⟩
        walk_at "run"
        refine z_iteD (fun e => ?_) (fun e => ?_)
        · subst e
          walk_at "run"
          exact hQ _ _ (fin.1 hz'.symm) _ _ (s15.trans s6) R6.s
        · walk_at "run"
          exact no (fin.2 fun q => e (My.cs_ext (by rw [hz', q]))) _ (s15.trans s6)
theorem ok_read_number (T : Txt K mg t) : FnOk P w K mg base (CXe P w) 4 t.f_read_number t.d_read_number ["text"] (sp_read K t.c_NoNumber []) := by
  have G_read_figures := ok_read_figures (P := P) (w := w) (base := base) T
  refine T.F_read_number.toD.okE sc_read_number (fun vs H Q E h => ?_) (fun cdv A outer s H vs Q E hr h => ?_)
  · obtain ⟨z, rfl, _⟩ := h
    rfl
  obtain ⟨z, rfl, hz, hQ, hE⟩ := h
  refine ⟨_, (pss_one (ps_ret (pe_call G_read_figures (hr.mono (by decide)) rfl T.m_read_figures T.k_read_figures T.b_read_figures .nil passes_on (pa_cons (pv 0) (pa_cons (pe_glob (v := .int 60) rfl T.g_MOST_FIGURES ⟨_, rfl⟩) pa_nil))))), z_go (σ := [some _]) rfl ?_⟩
  walk_at "run"
  exact ⟨z, rfl, hz, hQ, hE⟩
noncomputable def plB (c : List Nat) : Bool := !(decide (c = []) || decide (60 < c.length) || (decide (c.head? = some 48) && !decide (c = [48]))) && c.all fun x => decide (48 ≤ x ∧ x ≤ 57)
theorem plB_iff {c : List Nat} : plB c = true ↔ My.plain c := by
  unfold plB My.plain PySem.NumText.AllDigits
  rw [Bool.and_eq_true, List.all_eq_true]
  simp only [Bool.not_eq_true', Bool.or_eq_false_iff, decide_eq_false_iff_not, Bool.and_eq_false_iff, Bool.not_eq_false', decide_eq_true_eq]
  constructor
  · rintro ⟨⟨⟨h1, h2⟩, h3⟩, h4⟩
    exact ⟨h1, by omega, fun z => h3.elim (fun h => h z.1) (fun h => z.2 h), h4⟩
  · rintro ⟨h1, h2, h3, h4⟩
    refine ⟨⟨⟨h1, by omega⟩, ?_⟩, h4⟩
    by_cases e : c = [48]
    · exact .inr e
    · exact .inl fun z => h3 ⟨z, e⟩
theorem one48 (c : Nat) : (⟨#[c]⟩ : Str) = "0" ↔ c = 48 := ⟨fun h => by
    have := congrArg My.cs h
    exact List.head_eq_of_cons_eq (show [c] = [48] from this), fun h => by rw [h]; rfl⟩
theorem in_dig' (c : Nat) : (Builtin.Str.occurrences ("0123456789" : Str) ⟨#[c]⟩ 0 ("0123456789" : Str).length 1).isEmpty = !decide (48 ≤ c ∧ c ≤ 57) := by rw [← My.in_digits, Bool.not_not]
theorem all_upto {p : Nat → Bool} {c : List Nat} {i : Nat} {x : Nat} (hx : c[i]? = some x) (h : ∀ j y, j < i → c[j]? = some y → p y = true) (hp : p x = true) : ∀ j y, j < i + 1 → c[j]? = some y → p y = true := fun j y hj e => by
  rcases Nat.lt_succ_iff_lt_or_eq.mp hj with k | k
  · exact h j y k e
  · subst k
    rw [hx] at e
    cases e
    exact hp
local macro_rules | `(tactic| walk_at "ji") => `(tactic| ((with_reducible apply z_joinV); (focus ((intro S q); (walk_at "run"); (exact q))); (focus ((intro hb S q); (walk_at "run"); (exact q))); (focus (walk_at "get")); (focus (walk_at "set"))))
local macro_rules | `(tactic| walk_at "sp") => `(tactic| ((with_reducible apply z_slS); (focus (exact le_size (by omega)))))
theorem m1 (a : Str) : (PySem.Txt.slice a none (some 1) = "-") ↔ (My.cs a).head? = some 45 := by
  constructor
  · intro h
    have e := congrArg My.cs h
    rw [My.sl_to] at e
    cases q : My.cs a with
    | nil => rw [q] at e; cases e
    | cons x r =>
      rw [q] at e
      have e' : [x] = [45] := e
      rw [List.head_eq_of_cons_eq e']; rfl
  · intro h
    apply My.cs_ext
    rw [My.sl_to]
    cases q : My.cs a with
    | nil => rw [q] at h; cases h
    | cons x r =>
      rw [q] at h
      rw [Option.some.inj h]; rfl
theorem m0 (a : Str) : a = "-0" ↔ My.cs a = [45, 48] := ⟨fun h => by rw [h]; rfl, fun h => My.cs_ext (by rw [h]; rfl)⟩
theorem iteBF {b : Bool} {A B : Prop} (hb : ¬ b = true) (h : B) : if b = true then A else B := by
  rw [if_neg hb]; exact h
theorem mid4 : Mid 4 := (show My.Bd 20 4 by unfold My.Bd; decide).mono (by decide)
theorem mid100 : Mid 100 := (show My.Bd 20 100 by unfold My.Bd; decide).mono (by decide)
theorem mid400 : Mid 400 := (show My.Bd 20 400 by unfold My.Bd; decide).mono (by decide)
theorem midD : Mid 146097 := (show My.Bd 20 146097 by unfold My.Bd; decide).mono (by decide)
theorem at12 {m : Int} (h1 : 1 ≤ m) (h2 : m ≤ 12) : atI (My.mls.map V.int) (m - 1) = some (.int (My.mls.getD (m - 1).toNat 0)) := by
  rcases My.m_cases h1 h2 with h | h | h | h | h | h | h | h | h | h | h | h <;> subst h <;> rfl
noncomputable def sp_leap : Sp := fun vs H Q _ => ∃ y : Int, vs = [.int y] ∧ Q (.bl (My.leap y)) H
noncomputable def sp_ml : Sp := fun vs H Q _ => ∃ y m : Int, vs = [.int y, .int m] ∧ 1 ≤ m ∧ m ≤ 12 ∧ Q (.int (My.mlen y m)) H
noncomputable def sp_yb : Sp := fun vs H Q _ => ∃ y : Int, vs = [.int y] ∧ Q (.int (My.ybeg y)) H
noncomputable def valid3 (vs : List V) : Prop := ∃ y m e : Int, vs = [.int y, .int m, .int e] ∧ My.Valid y m e
noncomputable def sp_dayof6 (K : PySem.W.Frag) (C : Addr) : Sp := fun vs H Q E => ∃ x y z gx gy gz, vs = [x, y, z] ∧ tgIs K H x gx ∧ tgIs K H y gy ∧ tgIs K H z gz ∧ (¬ valid3 [x, y, z] → E (.ref C) none H) ∧
  (∀ a m e : Int, x = .int a → y = .int m → z = .int e → My.Valid a m e → ∀ H', Same H H' → Q (.int (My.dayOf a m e)) H')
theorem tg_int {K : PySem.W.Frag} {H : Hp} {x : V} (h : tgIs K H x .int) : ∃ i : Int, x = .int i := by
  cases x with
  | int i => exact ⟨i, rfl⟩
  | _ => exact (show False from h).elim
theorem tg_not {K : PySem.W.Frag} {H : Hp} {x : V} {g : Tg} (h : tgIs K H x g) (hg : g ≠ .int) : ∀ i : Int, x ≠ .int i := fun i e => by
  subst e
  cases g <;> first | exact hg rfl | exact (show False from h).elim
theorem tg_same {K : PySem.W.Frag} {H H' : Hp} {x : V} {g : Tg} (s : Same H H') (h : tgIs K H x g) : tgIs K H' x g := by
  cases x <;> cases g <;> first | exact h | (obtain ⟨xs, z⟩ := h; first | exact ⟨xs, s.tup z⟩ | exact ⟨xs, s.seq z⟩ | exact ⟨xs, s _ _ z⟩)
theorem nv1 {x y z : V} (h : ∀ i : Int, x ≠ .int i) : ¬ valid3 [x, y, z] := by
  rintro ⟨a, m, e, h', _⟩
  exact h a (List.cons.inj h').1
theorem nv2 {x y z : V} (h : ∀ i : Int, y ≠ .int i) : ¬ valid3 [x, y, z] := by
  rintro ⟨a, m, e, h', _⟩
  exact h m (List.cons.inj (List.cons.inj h').2).1
theorem nv3 {x y z : V} (h : ∀ i : Int, z ≠ .int i) : ¬ valid3 [x, y, z] := by
  rintro ⟨a, m, e, h', _⟩
  exact h e (List.cons.inj (List.cons.inj (List.cons.inj h').2).2).1
theorem nvI {a m e : Int} (h : ¬ My.Valid a m e) : ¬ valid3 [.int a, .int m, .int e] := by
  rintro ⟨a', m', e', h', v⟩
  cases h'
  exact h v
theorem map_ints (n : Nat) (g : Nat → Int) : (List.range n).map (fun i => V.int (g i)) = ((List.range n).map g).map V.int := by
  rw [List.map_map]; rfl
theorem cut_ints (ns : List Int) (k : Nat) : cutV (ns.map V.int) none (some (k : Int)) = (ns.take k).map V.int := by
  unfold cutV
  rw [HT.sIx_nat, HT.sIx_none, List.drop_zero, Nat.sub_zero, List.length_map, List.map_take]
  rw [← List.length_map (as := ns) V.int]
  by_cases h : k ≤ (ns.map V.int).length
  · rw [Nat.min_eq_left h]
  · rw [Nat.min_eq_right (by omega), List.take_of_length_le (Nat.le_refl _), List.take_of_length_le (by omega)]


noncomputable def sp_yo : Sp := fun vs H Q _ => ∃ d : Int, vs = [.int d] ∧ Q (.int (My.yearOf d)) H
noncomputable def sp_parts : Sp := fun vs H Q _ => ∃ d : Int, vs = [.int d] ∧ 0 ≤ d ∧ d ≤ 3652058 ∧ ∀ (p : Addr) (H' : Hp) (y m e : Int), Same H H' → H' p = some (.tup [.int y, .int m, .int e]) → My.Valid y m e → My.dayOf y m e = d → Q (.ref p) H'
theorem ok_is_leap (T : Txt K mg t) : FnOk P w K mg base CX0 1 t.f_is_leap t.d_is_leap ["year"] sp_leap := by
  refine T.F_is_leap.ok sc_is_leap (fun vs H Q E h => ?_) (fun cdv A outer s H vs Q E hr h => ?_)
  · obtain ⟨y, rfl, _⟩ := h
    rfl
  obtain ⟨y, rfl, q⟩ := h
  refine ⟨_, (pss_one (ps_ret (pe_and (pe_cmpR op_eq (pe_op op_mod (pv 0) pe_int) pe_int (nomark _)) (pe_one (pe_or (pe_cmpR op_ne (pe_op op_mod (pv 0) pe_int) pe_int (nomark _)) (pe_one (pe_cmpR op_eq (pe_op op_mod (pv 0) pe_int) pe_int (nomark _)))))))), ?_⟩
  refine ⟨_, rfl, _, _, rfl, rfl, (show (0 : Int) < 4 by decide), rfl, _, rfl, ?_⟩
  unfold My.leap at q
  by_cases h4 : y % 4 = 0
  · rw [if_pos h4] at q
    refine iteDT (congrArg V.int h4) ?_
    refine ⟨_, rfl, _, _, rfl, rfl, (show (0 : Int) < 100 by decide), rfl, _, rfl, ?_⟩
    by_cases h1 : y % 100 = 0
    · rw [if_pos h1] at q
      refine iteNS (congrArg V.int h1) ?_
      refine ⟨_, rfl, _, _, rfl, rfl, (show (0 : Int) < 400 by decide), rfl, ?_⟩
      show Q (V.bl (decide (V.int (y % 400) = V.int 0))) H
      by_cases h3 : y % 400 = 0
      · rw [decide_eq_true h3] at q
        rw [decide_eq_true (congrArg V.int h3)]
        exact q
      · rw [decide_eq_false h3] at q
        rw [decide_eq_false (fun z => h3 (V.int.inj z))]
        exact q
    · rw [if_neg h1] at q
      exact iteNF (fun z => h1 (V.int.inj z)) q
  · rw [if_neg h4] at q
    exact iteDF (fun z => h4 (V.int.inj z)) q
theorem ok_month_length (T : Txt K mg t) : FnOk P w K mg base CX0 2 t.f_month_length t.d_month_length ["year", "month"] sp_ml := by
  have G_is_leap := ok_is_leap (P := P) (w := w) (base := base) T
  refine T.F_month_length.ok sc_month_length (fun vs H Q E h => ?_) (fun cdv A outer s H vs Q E hr h => ?_)
  · obtain ⟨y, m, rfl, _⟩ := h
    rfl
  obtain ⟨y, m, rfl, h1, h2, q⟩ := h
  refine ⟨_, (pss_cons (ps_if (PW.pt (pw_and (pt_cmpR op_eq (pv 1) pe_int (nomark _)) (pw_and1 (pt_val (pe_call G_is_leap (hr.mono (by decide)) rfl T.m_is_leap T.k_is_leap T.b_is_leap .nil pass0 (pa_cons (pv 0) pa_nil)))))) (pss_one (ps_ret pe_int)) pss_nil)
  (pss_one (ps_ret (pe_ix ix_tup (pe_glob (v := .ref t.g_MONTH_LENGTHS) rfl T.g_MONTH_LENGTHS rfl) (pe_op op_sub (pv 1) pe_int) (fun _ _ => rfl))))), ?_⟩
  refine ⟨_, rfl, rfl, _, rfl, ?_⟩
  unfold My.mlen My.ml at q
  by_cases hm : m = 2
  · refine iteDT (congrArg V.int hm) ?_
    refine ⟨_, rfl, _, rfl, _, rfl, ?_⟩
    by_cases hL : My.leap y = true
    · rw [if_pos ⟨hm, hL⟩] at q
      exact iteBT hL q
    · rw [if_neg (fun z => hL z.2)] at q
      refine iteBF hL ?_
      exact ⟨_, rfl, _, _, rfl, rfl, _, _, _, _, rfl, rfl, T.v_MONTH_LENGTHS H, at12 h1 h2, q⟩
  · rw [if_neg (fun z => hm z.1)] at q
    refine iteDF (fun z => hm (V.int.inj z)) ?_
    refine iteF ?_
    exact ⟨_, rfl, _, _, rfl, rfl, _, _, _, _, rfl, rfl, T.v_MONTH_LENGTHS H, at12 h1 h2, q⟩
theorem ok_year_begin (T : Txt K mg t) : FnOk P w K mg base CX0 1 t.f_year_begin t.d_year_begin ["year"] sp_yb := by
  refine T.F_year_begin.ok sc_year_begin (fun vs H Q E h => ?_) (fun cdv A outer s H vs Q E hr h => ?_)
  · obtain ⟨y, rfl, _⟩ := h
    rfl
  obtain ⟨y, rfl, q⟩ := h
  refine ⟨_, (pss_cons (ps_set (i := 1) sc_year_begin.nd rfl (Or.inl rfl) (pe_op op_sub (pv 0) pe_int))
  (pss_one (ps_ret (pe_op op_add (pe_op op_sub (pe_op op_add (pe_op op_mul pe_int (pv 1)) (pe_op op_fdivB (pv 1) pe_int)) (pe_op op_fdivB (pv 1) pe_int)) (pe_op op_fdivB (pv 1) pe_int))))), ?_⟩
  refine ⟨_, rfl, _, _, rfl, rfl, ?_⟩
  exact ⟨_, rfl, _, _, rfl, rfl, .inl ⟨by decide, by decide⟩, _, rfl, _, _, rfl, rfl, ⟨by decide, mid4⟩, _, _, rfl, rfl, _, rfl, _, _, rfl, rfl, ⟨by decide, mid100⟩, _, _, rfl, rfl, _, rfl, _, _, rfl, rfl, ⟨by decide, mid400⟩, _, _, rfl, rfl, q⟩
theorem ok_day_of (T : Txt K mg t) : FnOk P w K mg base (CXe P w) 3 t.f_day_of t.d_day_of ["year", "month", "day"] (sp_dayof6 K t.c_NoDay) := by
  have G_is_whole := ok_is_whole (P := P) (w := w) (base := base) T
  have G_month_length := ok_month_length (P := P) (w := w) (base := base) T
  have G_year_begin := ok_year_begin (P := P) (w := w) (base := base) T
  refine T.F_day_of.toD.okE sc_day_of (fun vs H Q E h => ?_) (fun cdv A outer s H vs Q E hr h => ?_)
  · obtain ⟨x, y, z, gx, gy, gz, rfl, _⟩ := h
    rfl
  obtain ⟨x, y, z, gx, gy, gz, rfl, hx, hy, hz, hE, q⟩ := h
  refine ⟨_, (pss_cons (ps_if (pt_not (PW.pt (pw_and (pt_val (pe_call G_is_whole (hr.mono (by decide)) rfl T.m_is_whole T.k_is_whole T.b_is_whole .nil pass0 (pa_cons (pv 0) pa_nil))) (pw_and (pt_val (pe_call G_is_whole (hr.mono (by decide)) rfl T.m_is_whole T.k_is_whole T.b_is_whole .nil pass0 (pa_cons (pv 1) pa_nil))) (pw_and1 (pt_val (pe_call G_is_whole (hr.mono (by decide)) rfl T.m_is_whole T.k_is_whole T.b_is_whole .nil pass0 (pa_cons (pv 2) pa_nil)))))))) (pss_one (ps_raise rfl T.x_NoDay T.n_NoDay T.m_NoDay rfl raisesE (pa_cons pe_str pa_nil))) pss_nil)
  (pss_cons (ps_if (pt_not (PW.pt (pw_and (pt_chain op_le op_le pe_int (pv 0) (pe_glob (v := .int 9999) rfl T.g_LAST_YEAR ⟨_, rfl⟩)) (pw_and (pt_chain op_le op_le pe_int (pv 1) pe_int) (pw_and1 (pt_chain op_le op_le pe_int (pv 2) (pe_call G_month_length (hr.mono (by decide)) rfl T.m_month_length T.k_month_length T.b_month_length .nil pass0 (pa_cons (pv 0) (pa_cons (pv 1) pa_nil))))))))) (pss_one (ps_raise rfl T.x_NoDay T.n_NoDay T.m_NoDay rfl raisesE (pa_cons pe_str pa_nil))) pss_nil)
  (pss_cons (ps_setLC (iy := 3) sc_day_of.nd rfl (Or.inl rfl) rfl (compOk_of (fr := [("year", 0)]) (osc := defScope s_day_of) (N := ["year", "month", "day", "ahead"]) rfl rfl (by decide +kernel)) (pi_range2 rfl T.z_range (pa_cons pe_int (pa_cons (pv 1) pa_nil))) (fun _ _ _ _ _ => (pe_call G_month_length (hr.mono (by decide)) rfl T.m_month_length T.k_month_length T.b_month_length .nil pass0 (pa_cons (pv 1) (pa_cons (pv 0) pa_nil)))))
  (pss_one (ps_ret (pe_op op_sub (pe_op op_add (pe_op op_add (pe_call G_year_begin (hr.mono (by decide)) rfl T.m_year_begin T.k_year_begin T.b_year_begin .nil pass0 (pa_cons (pv 0) pa_nil)) (pe_callB (call_sum rfl) rfl T.z_sum bt_sum (pa_cons (pv 3) pa_nil))) (pv 2)) pe_int)))))), ?_⟩
  refine ⟨_, rfl, _, gx, rfl, hx, _, rfl, ?_⟩
  by_cases ex : gx = .int
  rotate_left
  · refine iteBF (by cases gx <;> first | exact absurd rfl ex | decide) ?_
    refine iteT ?_
    exact ⟨(by show 1 ≤ sizeLine; decide), hE (nv1 (tg_not hx ex))⟩
  subst ex
  obtain ⟨a, rfl⟩ := tg_int hx
  refine iteT ⟨_, rfl, _, gy, rfl, hy, _, rfl, ?_⟩
  by_cases ey : gy = .int
  rotate_left
  · refine iteBF (by cases gy <;> first | exact absurd rfl ey | decide) ?_
    refine iteT ?_
    exact ⟨(by show 1 ≤ sizeLine; decide), hE (nv2 (tg_not hy ey))⟩
  subst ey
  obtain ⟨m, rfl⟩ := tg_int hy
  refine iteT ⟨_, rfl, _, gz, rfl, hz, _, rfl, ?_⟩
  by_cases ez : gz = .int
  rotate_left
  · refine iteBT (by cases gz <;> first | exact absurd rfl ez | rfl) ?_
    exact ⟨(by show 1 ≤ sizeLine; decide), hE (nv3 (tg_not hz ez))⟩
  subst ez
  obtain ⟨e, rfl⟩ := tg_int hz
  refine iteF ?_
  have no : ¬ My.Valid a m e → 1 ≤ sizeLine ∧ E (.ref t.c_NoDay) none H := fun z => ⟨by decide, hE (nvI z)⟩
  refine ⟨_, rfl, _, _, rfl, rfl, _, rfl, ?_⟩
  by_cases h1 : 1 ≤ a
  rotate_left
  · exact iteDF h1 ⟨_, rfl, iteF (iteT (no fun v => h1 v.y1))⟩
  refine iteDT h1 ⟨_, _, rfl, rfl, _, rfl, ?_⟩
  by_cases h2 : a ≤ 9999
  rotate_left
  · exact iteDF h2 (iteT (no fun v => h2 v.y2))
  refine iteDT h2 ⟨_, rfl, _, _, rfl, rfl, _, rfl, ?_⟩
  by_cases h3 : 1 ≤ m
  rotate_left
  · exact iteDF h3 ⟨_, rfl, iteF (iteT (no fun v => h3 v.m1))⟩
  refine iteDT h3 ⟨_, _, rfl, rfl, _, rfl, ?_⟩
  by_cases h4 : m ≤ 12
  rotate_left
  · exact iteDF h4 (iteT (no fun v => h4 v.m2))
  refine iteDT h4 ⟨_, rfl, _, _, rfl, rfl, _, rfl, ?_⟩
  by_cases h5 : 1 ≤ e
  rotate_left
  · exact iteDF h5 ⟨_, rfl, iteT (no fun v => h5 v.e1)⟩
  refine iteDT h5 ⟨_, rfl, _, rfl, _, _, rfl, h3, h4, _, _, rfl, rfl, _, rfl, ?_⟩
  by_cases h6 : e ≤ My.mlen a m
  rotate_left
  · rw [decide_eq_false h6]
    exact iteT (no fun v => h6 v.e2)
  have v : My.Valid a m e := ⟨h1, h2, h3, h4, h5, h6⟩
  refine iteNS h6 ?_
  refine ⟨_, rfl, _, _, rfl, ⟨by decide, by decide, by omega, by omega⟩, fun acc hacc => ?_⟩
  refine lc_range2 (lo := 1) (n := (m - 1).toNat) (fun i : Nat => V.int (My.ml (My.leap a) (1 + (i : Int)))) (Nat.le_of_lt (small1000 (by omega))) hacc ?_ ?_
  · intro i H2 Q' hi sm k
    exact ⟨_, rfl, _, rfl, _, _, rfl, by omega, by omega, k H2 (Same.refl _)⟩
  · intro H2 sm ha
    rw [map_ints] at ha
    exact ⟨_, rfl, _, rfl, _, rfl, _, _, rfl, SqL.of ha, _, _, rfl, rfl, _, rfl, _, _, rfl, rfl, _, _, rfl, rfl, q a m e rfl rfl rfl v H2 sm⟩
theorem ok_year_of (T : Txt K mg t) : FnOk P w K mg base CX0 2 t.f_year_of t.d_year_of ["day"] sp_yo := by
  have G_year_begin := ok_year_begin (P := P) (w := w) (base := base) T
  refine T.F_year_of.ok sc_year_of (fun vs H Q E h => ?_) (fun cdv A outer s H vs Q E hr h => ?_)
  · obtain ⟨y, rfl, _⟩ := h
    rfl
  obtain ⟨d, rfl, q⟩ := h
  refine ⟨_, (pss_cons (ps_set (i := 1) sc_year_of.nd rfl (Or.inl rfl) (pe_op op_add (pe_op op_fdivB (pe_op op_mul (pv 0) pe_int) (pe_glob (v := .int 146097) rfl T.g_DAYS_OF_400_YEARS ⟨_, rfl⟩)) pe_int))
  (pss_one (ps_ret (pe_ifExp (pt_cmpR op_le (pe_call G_year_begin (hr.mono (by decide)) rfl T.m_year_begin T.k_year_begin T.b_year_begin .nil pass0 (pa_cons (pe_op op_add (pv 1) pe_int) pa_nil)) (pv 0) (nomark _)) (pe_op op_add (pv 1) pe_int) (pv 1))))), ?_⟩
  refine ⟨_, rfl, _, _, rfl, rfl, .inr ⟨by decide, by decide⟩, _, _, rfl, rfl, ⟨by decide, midD⟩, _, _, rfl, rfl, ?_⟩
  refine ⟨_, rfl, _, _, rfl, rfl, _, rfl, _, rfl, _, _, rfl, rfl, _, rfl, ?_⟩
  unfold My.yearOf at q
  by_cases hle : My.ybeg (d * 400 / 146097 + 1 + 1) ≤ d
  · rw [if_pos hle] at q
    exact iteDT hle ⟨_, rfl, _, _, rfl, rfl, q⟩
  · rw [if_neg hle] at q
    exact iteDF hle ⟨_, rfl, q⟩
theorem ok_parts_of (T : Txt K mg t) : FnOk P w K mg base CX0 3 t.f_parts_of t.d_parts_of ["day"] sp_parts := by
  have G_year_of := ok_year_of (P := P) (w := w) (base := base) T
  have G_year_begin := ok_year_begin (P := P) (w := w) (base := base) T
  have G_month_length := ok_month_length (P := P) (w := w) (base := base) T
  refine T.F_parts_of.ok sc_parts_of (fun vs H Q E h => ?_) (fun cdv A outer s H vs Q E hr h => ?_)
  · obtain ⟨y, rfl, _⟩ := h
    rfl
  obtain ⟨d, rfl, d0, d1, q⟩ := h
  obtain ⟨y1, y2, y3, y4⟩ := My.yearOf_ok d0 d1
  have yn := My.ybeg_next (My.yearOf d)
  refine ⟨_, (pss_cons (ps_set (i := 1) sc_parts_of.nd rfl (Or.inl rfl) (pe_call G_year_of (hr.mono (by decide)) rfl T.m_year_of T.k_year_of T.b_year_of .nil pass0 (pa_cons (pv 0) pa_nil)))
  (pss_cons (ps_set (i := 2) sc_parts_of.nd rfl (Or.inl rfl) pe_int)
  (pss_cons (ps_set (i := 3) sc_parts_of.nd rfl (Or.inl rfl) (pe_op op_sub (pv 0) (pe_call G_year_begin (hr.mono (by decide)) rfl T.m_year_begin T.k_year_begin T.b_year_begin .nil pass0 (pa_cons (pv 1) pa_nil))))
  (pss_cons (ps_while PassesOwn.never (pt_cmpR op_ge (pv 3) (pe_call G_month_length (hr.mono (by decide)) rfl T.m_month_length T.k_month_length T.b_month_length .nil pass0 (pa_cons (pv 1) (pa_cons (pv 2) pa_nil))) (nomark _)) (pss_cons (ps_aug (i := 3) sc_parts_of.nd rfl (Or.inl rfl) (pe_call G_month_length (hr.mono (by decide)) rfl T.m_month_length T.k_month_length T.b_month_length .nil pass0 (pa_cons (pv 1) (pa_cons (pv 2) pa_nil))) ip_sub)
  (pss_one (ps_aug (i := 2) sc_parts_of.nd rfl (Or.inl rfl) pe_int ip_add))))
  (pss_one (ps_ret (pe_tup (pa_cons (pv 1) (pa_cons (pv 2) (pa_cons (pe_op op_add (pv 3) pe_int) pa_nil)))))))))), ?_⟩
  refine ⟨_, rfl, _, rfl, ?_⟩
  refine ⟨_, rfl, _, rfl, _, rfl, _, _, rfl, rfl, ?_⟩
  dsimp only [gName, tSeq]
  refine while_by (fun σ H' => ∃ m l : Int, σ = [some (.int d), some (.int (My.yearOf d)), some (.int m), some (.int l)] ∧ H' = H ∧ 1 ≤ m ∧ m ≤ 12 ∧ 0 ≤ l ∧ l + My.bf (My.leap (My.yearOf d)) m = d - My.ybeg (My.yearOf d))
    (fun σ _ => match σ with | [_, _, some (.int m), _] => (13 - m).toNat | _ => 0) ⟨1, _, rfl, rfl, by decide, by decide, by omega, by rw [My.bf_first]; omega⟩ ?_ ?_
  · rintro σ H' ⟨m, l, rfl, rfl, m1, m2, l0, hl⟩
    refine ⟨_, rfl, _, rfl, _, rfl, _, _, rfl, m1, m2, _, _, rfl, rfl, _, rfl, ?_⟩
    have bn := My.bf_next (L := My.leap (My.yearOf d)) m1 m2
    by_cases hle : My.mlen (My.yearOf d) m ≤ l
    · refine iteDT hle ?_
      have hle' : My.ml (My.leap (My.yearOf d)) m ≤ l := hle
      have m12 : m ≤ 11 := by
        rcases Int.lt_or_le m 12 with z | z
        · omega
        · have e : m = 12 := by omega
          subst e
          have bl := My.bf_last (My.leap (My.yearOf d))
          have bn' : My.bf (My.leap (My.yearOf d)) 13 = My.bf (My.leap (My.yearOf d)) 12 + My.ml (My.leap (My.yearOf d)) 12 := bn
          omega
      refine ⟨_, rfl, _, rfl, _, rfl, _, _, rfl, m1, m2, _, _, rfl, rfl, _, rfl, _, _, rfl, rfl, ⟨m + 1, l - My.mlen (My.yearOf d) m, rfl, rfl, by omega, by omega, by omega, ?_⟩, ?_⟩
      · rw [bn]
        show l - My.ml (My.leap (My.yearOf d)) m + (My.bf (My.leap (My.yearOf d)) m + My.ml (My.leap (My.yearOf d)) m) = _
        omega
      · show (13 - (m + 1)).toNat < (13 - m).toNat
        omega
    · refine iteDF hle ?_
      refine ⟨_, rfl, _, rfl, _, rfl, _, _, rfl, rfl, (by show 3 ≤ sizeLine; decide), fun p hp => ?_⟩
      exact q p _ _ _ _ (Same.new hp _) upd_same ⟨y1, y2, m1, m2, by omega, by omega⟩ (by unfold My.dayOf; omega)
  · rintro σ H' Q1 Q2 hi ⟨v, e, a, ea, b, eb, y', m', ev, c1, c2, i, j, e1, e2, k, ek, q'⟩
    exact ⟨v, e, a, ea, b, eb, y', m', ev, c1, c2, i, j, e1, e2, k, ek, hi _ _ q'⟩
theorem a_dayof {K : PySem.W.Frag} {H : Hp} {Q : VK} {E : XK} {C : Addr} {y m e : Int} (h1 : ¬ My.Valid y m e → E (.ref C) none H) (h2 : My.Valid y m e → ∀ H', Same H H' → Q (.int (My.dayOf y m e)) H') : sp_dayof6 K C [.int y, .int m, .int e] H Q E :=
  ⟨_, _, _, .int, .int, .int, rfl, True.intro, True.intro, True.intro, fun nv => h1 fun v => nv ⟨y, m, e, rfl, v⟩, fun a b c e1 e2 e3 v H' s => by cases e1; cases e2; cases e3; exact h2 v H' s⟩
theorem a_parts {H : Hp} {Q : VK} {E : XK} {d : Int} (h0 : 0 ≤ d) (h1 : d ≤ 3652058) (q : ∀ (p : Addr) (H' : Hp) (y m e : Int), Same H H' → H' p = some (.tup [.int y, .int m, .int e]) → My.Valid y m e → My.dayOf y m e = d → Q (.ref p) H') : sp_parts [.int d] H Q E := ⟨d, rfl, h0, h1, q⟩
local macro_rules | `(tactic| walk_at "sp") => `(tactic| ((with_reducible apply a_parts); (focus (first | assumption | omega)); (focus (first | assumption | omega)); (intro p H' y m e s hp vd ed)))
noncomputable def sp_isday (K : PySem.W.Frag) : Sp := fun vs H Q _ => ∃ x g, vs = [x] ∧ tgIs K H x g ∧ (∀ d : Int, x = .int d → Q (.bl (decide (0 ≤ d) && decide (d ≤ 3652058))) H) ∧ ((∀ d : Int, x ≠ .int d) → Q (.bl false) H)
theorem ok_is_day (T : Txt K mg t) : FnOk P w K mg base CX0 2 t.f_is_day t.d_is_day ["thing"] (sp_isday K) := by
  have G_is_whole := ok_is_whole (P := P) (w := w) (base := base) T
  refine T.F_is_day.ok sc_is_day (fun vs H Q E h => ?_) (fun cdv A outer s H vs Q E hr h => ?_)
  · obtain ⟨x, g, rfl, _⟩ := h
    rfl
  obtain ⟨x, g, rfl, hg, q1, q2⟩ := h
  refine ⟨_, (pss_one (ps_ret (pe_and (pe_call G_is_whole (hr.mono (by decide)) rfl T.m_is_whole T.k_is_whole T.b_is_whole .nil pass0 (pa_cons (pv 0) pa_nil)) (pe_one (pe_chain op_le op_le pe_int (pv 0) (pe_glob (v := .int 3652058) rfl T.g_LAST_DAY ⟨_, rfl⟩)))))), z_go (σ := [some _]) rfl ?_⟩
  walk_at "run"
  refine ⟨x, g, rfl, hg, ?_⟩
  by_cases e : g = .int
  · subst e
    obtain ⟨d, rfl⟩ := tg_int hg
    have q := q1 d rfl
    walk_at "run"
    refine z_iteD (fun h => ?_) (fun h => ?_)
    · rw [decide_eq_true h, Bool.true_and] at q
      walk_at "run"
      exact q
    · rw [decide_eq_false h, Bool.false_and] at q
      exact q
  · have q := q2 (tg_not hg e)
    cases g <;> first | exact absurd rfl e | exact ⟨_, rfl, iteF q⟩
noncomputable def sp_told (K : PySem.W.Frag) : Sp := fun vs H Q _ => ∃ x g, vs = [x] ∧ tgIs K H x g ∧ (∀ y m e : Int, My.Valid y m e → x = .int (My.dayOf y m e) → 0 ≤ My.dayOf y m e → My.dayOf y m e ≤ 3652058 → ∀ H', Same H H' → Q (.bl (decide (1000 ≤ y) && decide (y ≤ 8999))) H') ∧ ((∀ d : Int, x = .int d → ¬ (0 ≤ d ∧ d ≤ 3652058)) → ∀ H', Same H H' → Q (.bl false) H')
theorem ok_is_told_day (T : Txt K mg t) : FnOk P w K mg base CX0 4 t.f_is_told_day t.d_is_told_day ["thing"] (sp_told K) := by
  have G_is_day := ok_is_day (P := P) (w := w) (base := base) T
  have G_parts_of := ok_parts_of (P := P) (w := w) (base := base) T
  refine T.F_is_told_day.ok sc_is_told_day (fun vs H Q E h => ?_) (fun cdv A outer s H vs Q E hr h => ?_)
  · obtain ⟨x, g, rfl, _⟩ := h
    rfl
  obtain ⟨x, g, rfl, hg, q1, q2⟩ := h
  refine ⟨_, (pss_one (ps_ret (pe_and (pe_call G_is_day (hr.mono (by decide)) rfl T.m_is_day T.k_is_day T.b_is_day .nil pass0 (pa_cons (pv 0) pa_nil)) (pe_one (pe_chain op_le op_le (pe_glob (v := .int 1000) rfl T.g_FIRST_TOLD_YEAR ⟨_, rfl⟩) (pe_ix ix_tup (pe_call G_parts_of (hr.mono (by decide)) rfl T.m_parts_of T.k_parts_of T.b_parts_of .nil pass0 (pa_cons (pv 0) pa_nil)) pe_int (fun _ _ => rfl)) (pe_glob (v := .int 8999) rfl T.g_LAST_TOLD_YEAR ⟨_, rfl⟩)))))), z_go (σ := [some _]) rfl ?_⟩
  walk_at "run"
  refine ⟨x, g, rfl, hg, fun d ed => ?_, fun nd => ⟨_, rfl, iteF (q2 (fun d e => absurd e (nd d)) _ (Same.refl _))⟩⟩
  subst ed
  walk_at "run"
  by_cases hd : 0 ≤ d ∧ d ≤ 3652058
  · rw [decide_eq_true hd.1, decide_eq_true hd.2]
    obtain ⟨d0, d1⟩ := hd
    refine iteT ?_
    walk_at "run"
    rename_i p H1 y m e s1 hp v ed
    have q := q1 y m e v (by rw [ed]) (by omega) (by omega) _ s1
    walk_at "run"
    refine z_iteD (fun h => ?_) (fun h => ?_)
    · rw [decide_eq_true h, Bool.true_and] at q
      walk_at "run"
      exact q
    · rw [decide_eq_false h, Bool.false_and] at q
      exact q
  · have e : (decide (0 ≤ d) && decide (d ≤ 3652058)) = false := by
      rw [Bool.and_eq_false_iff, decide_eq_false_iff_not, decide_eq_false_iff_not]
      omega
    rw [e]
    refine iteF (q2 (fun d' e' => ?_) _ (Same.refl _))
    cases e'
    exact hd
noncomputable def sp_showday : Sp := fun vs H Q _ => ∃ d : Int, vs = [.int d] ∧ 0 ≤ d ∧ d ≤ 3652058 ∧ ∀ (z : Str) (H' : Hp) (y m e : Int), Same H H' → My.Valid y m e → My.dayOf y m e = d → My.cs z = My.dtx y.toNat m.toNat e.toNat → Q (.str z) H'
theorem log_small {n : Int} (h0 : 0 ≤ n) (h : n < 10000) : n.natAbs.log2 < 1920 := My.log60 (by
  have e : (10 : Nat) ^ 60 = 1000000000000000000000000000000000000000000000000000000000000 := by decide
  rw [e]; omega)
theorem zf4 {y : Int} (h0 : 0 ≤ y) (h : y < 10000) : My.cs (PySem.Txt.zfill (Str.ofString (toString y)) 4) = My.pad4 y.toNat := by
  obtain ⟨n, rfl⟩ := Int.eq_ofNat_of_zero_le h0
  rw [show (4 : Int) = ((4 : Nat) : Int) from rfl, My.zfill_is n 4 (by decide)]
  exact My.fill4 (by omega)
theorem zf2 {y : Int} (h0 : 0 ≤ y) (h : y < 100) : My.cs (PySem.Txt.zfill (Str.ofString (toString y)) 2) = My.pad2 y.toNat := by
  obtain ⟨n, rfl⟩ := Int.eq_ofNat_of_zero_le h0
  rw [show (2 : Int) = ((2 : Nat) : Int) from rfl, My.zfill_is n 2 (by decide)]
  exact My.fill2 (by omega)
theorem join3 (a b c : Str) : My.cs (PySem.Txt.join "-" [a, b, c]) = My.cs a ++ 45 :: (My.cs b ++ 45 :: My.cs c) := by
  show My.cs (Builtin.Str.glued "-" [a, b, c]) = _
  rw [PySem.StrLaws.glued_eq_join]
  show My.cs (a ++ "-" ++ (b ++ "-" ++ c)) = _
  rw [My.cs_app, My.cs_app, My.cs_app, My.cs_app, List.append_assoc, List.append_assoc]
  rfl
theorem ok_show_day (T : Txt K mg t) : FnOk P w K mg base CX0 4 t.f_show_day t.d_show_day ["day"] (sp_showday) := by
  have G_parts_of := ok_parts_of (P := P) (w := w) (base := base) T
  refine T.F_show_day.ok sc_show_day (fun vs H Q E h => ?_) (fun cdv A outer s H vs Q E hr h => ?_)
  · obtain ⟨d, rfl, _⟩ := h
    rfl
  obtain ⟨d, rfl, d0, d1, q⟩ := h
  refine ⟨_, (pss_cons (ps_set (i := 1) sc_show_day.nd rfl (Or.inl rfl) (pe_call G_parts_of (hr.mono (by decide)) rfl T.m_parts_of T.k_parts_of T.b_parts_of .nil pass0 (pa_cons (pv 0) pa_nil)))
  (pss_one (ps_ret (pe_bm PySem.F.plainAttrs_str PySem.F.slot_str_join PySem.F.type_str_join mt_join pe_str (pa_cons (pe_lst (pa_cons (pe_bm PySem.F.plainAttrs_str PySem.F.slot_str_zfill PySem.F.type_str_zfill mt_zfill (pe_callTy call_str_int rfl T.z_str bt_str (pa_cons (pe_ix ix_tup (pv 1) pe_int (fun _ _ => rfl)) pa_nil)) (pa_cons pe_int pa_nil)) (pa_cons (pe_bm PySem.F.plainAttrs_str PySem.F.slot_str_zfill PySem.F.type_str_zfill mt_zfill (pe_callTy call_str_int rfl T.z_str bt_str (pa_cons (pe_ix ix_tup (pv 1) pe_int (fun _ _ => rfl)) pa_nil)) (pa_cons pe_int pa_nil)) (pa_cons (pe_bm PySem.F.plainAttrs_str PySem.F.slot_str_zfill PySem.F.type_str_zfill mt_zfill (pe_callTy call_str_int rfl T.z_str bt_str (pa_cons (pe_ix ix_tup (pv 1) pe_int (fun _ _ => rfl)) pa_nil)) (pa_cons pe_int pa_nil)) pa_nil)))) pa_nil))))), z_go (σ := [some _, none]) rfl ?_⟩
  walk_at "run"
  rename_i p H1 y m e s1 hp v ed
  have v1 := v.y1
  have v2 := v.y2
  have v3 := v.m1
  have v4 := v.m2
  have v5 := v.e1
  have v6 := v.e2
  have v7 : My.mlen y m ≤ 31 := (My.ml_pos (L := My.leap y) v3 v4).2
  refine ⟨log_small (by omega) (by omega), ?_⟩
  walk_at "run"
  refine z_zfill (by decide) ?_
  walk_at "run"
  refine ⟨log_small (by omega) (by omega), ?_⟩
  walk_at "run"
  refine z_zfill (by decide) ?_
  walk_at "run"
  refine ⟨log_small (by omega) (by omega), ?_⟩
  walk_at "run"
  refine z_zfill (by decide) ?_
  walk_at "run"
  refine z_mkl (Nat.le_of_ble_eq_true rfl) (fun l H2 hp2 s2 hl => ?_)
  walk_at "run"
  have c1 := zf4 (y := y) (by omega) (by omega)
  have c2 := zf2 (y := m) (by omega) (by omega)
  have c3 := zf2 (y := e) (by omega) (by omega)
  generalize PySem.Txt.zfill (Str.ofString (toString y)) 4 = a1 at *
  generalize PySem.Txt.zfill (Str.ofString (toString m)) 2 = a2 at *
  generalize PySem.Txt.zfill (Str.ofString (toString e)) 2 = a3 at *
  refine z_join (ts := [a1, a2, a3]) (SqL.of hl) ?_ ?_
  · have n1 : a1.length = 4 := by rw [← My.cs_len, c1]; rfl
    have n2 : a2.length = 2 := by rw [← My.cs_len, c2]; rfl
    have n3 : a3.length = 2 := by rw [← My.cs_len, c3]; rfl
    unfold PySem.JoinOk
    rw [PySem.StrLaws.joinFits (B := 4) (fun x hx => by
      simp only [List.mem_cons, List.not_mem_nil, or_false] at hx
      rcases hx with rfl | rfl | rfl <;> omega) (by show 3 * 4 + 3 * 1 ≤ 16777216; decide)]
    rfl
  · exact q _ _ y m e (s1.trans s2) v ed (by rw [join3, c1, c2, c3]; rfl)
noncomputable def lenV : V → V
  | .str z => .int z.length
  | _ => .non
noncomputable def digV : V → V
  | .str z => .bl (My.digB (My.cs z))
  | _ => .non
theorem lenV_map (ts : List Str) : (ts.map V.str).map lenV = (ts.map fun z => ((z.length : Nat) : Int)).map V.int := by rw [List.map_map, List.map_map]; rfl
theorem digV_map (ts : List Str) : (ts.map V.str).map digV = (ts.map fun z => My.digB (My.cs z)).map V.bl := by rw [List.map_map, List.map_map]; rfl
theorem len422 {ts : List Str} (h : (ts.map fun z => ((z.length : Nat) : Int)) = [4, 2, 2]) : ∃ a b c, ts = [a, b, c] ∧ a.length = 4 ∧ b.length = 2 ∧ c.length = 2 := by
  match ts, h with
  | [a, b, c], h =>
    simp only [List.map_cons, List.map_nil, List.cons.injEq, and_true] at h
    exact ⟨a, b, c, rfl, by omega, by omega, by omega⟩
  | [], h => exact absurd (congrArg List.length h) (by decide)
  | [a], h => exact absurd (congrArg List.length h) (show ¬ (1 : Nat) = 3 by decide)
  | [a, b], h => exact absurd (congrArg List.length h) (show ¬ (2 : Nat) = 3 by decide)
  | a :: b :: c :: d :: r, h =>
    have := congrArg List.length h
    simp at this
noncomputable def sp_readday (K : PySem.W.Frag) (C : Addr) : Sp := fun vs H Q E => ∃ x, vs = [x] ∧ ((∃ z : Str, x = .str z ∧ z.length ≤ 400 ∧ (∀ y m e, My.DueDay (My.cs z) y m e → ∀ H', Same H H' → Q (.int (My.dayOf y m e)) H') ∧ ((∀ y m e, ¬ My.DueDay (My.cs z) y m e) → ∀ H', Same H H' → E (.ref C) none H')) ∨ ∃ g, tgIs K H x g ∧ g ≠ .str ∧ E (.ref C) none H)
theorem int_fig {z : Str} (h : NumText.AllDigits (My.cs z)) (hn : My.cs z ≠ []) (hl : z.length ≤ 60) : PySem.intText? z = some ((NumText.digitsVal (My.cs z) : Nat) : Int) := by
  have f : My.figs (My.cs z) := ⟨hn, h, by rw [My.cs_len]; exact hl⟩
  obtain ⟨v1, v2⟩ := My.val_dig h
  have i := My.int_of (z := z) (by rw [v1]; exact f)
  rw [v2] at i
  exact i.1
theorem ok_read_day (T : Txt K mg t) : FnOk P w K mg base (CXe P w) 4 t.f_read_day t.d_read_day ["text"] (sp_readday K t.c_NoDay) := by
  have G_day_of := ok_day_of (P := P) (w := w) (base := base) T
  have G_are_digits := ok_are_digits (P := P) (w := w) (base := base) T
  refine T.F_read_day.toD.okE sc_read_day (fun vs H Q E h => ?_) (fun cdv A outer s H vs Q E hr h => ?_)
  · obtain ⟨x, rfl, _⟩ := h
    rfl
  obtain ⟨x, rfl, h⟩ := h
  refine ⟨_, (pss_cons (ps_if (pt_not (pt_val (pe_isi isi_str rfl rfl T.z_isinstance T.z_str bt_str (pv 0)))) (pss_one (ps_raise rfl T.x_NoDay T.n_NoDay T.m_NoDay rfl raisesE (pa_cons pe_str pa_nil))) pss_nil)
  (pss_cons (ps_set (i := 1) sc_read_day.nd rfl (Or.inl rfl) (pe_bm PySem.F.plainAttrs_str PySem.F.slot_str_split PySem.F.type_str_split mt_split (pv 0) (pa_cons pe_str pa_nil)))
  (pss_cons (ps_if (PW.pt (pw_or (pt_cmpR (op_neL hr.units0) (pe_lc rfl (compOk_of (fr := []) (osc := defScope s_read_day) (N := ["text", "parts"]) rfl rfl (by decide +kernel)) (pi_list (pv 1)) (fun _ _ _ _ _ => (pe_callB call_len_str rfl T.z_len PySem.boot_len (pa_cons (pv 0) pa_nil)))) (pe_lst (pa_cons pe_int (pa_cons pe_int (pa_cons pe_int pa_nil)))) (nomark _)) (pw_or1 (pt_not (pt_val (pe_callB (call_all rfl) rfl T.z_all bt_all (pa_cons (pe_lc rfl (compOk_of (fr := []) (osc := defScope s_read_day) (N := ["text", "parts"]) rfl rfl (by decide +kernel)) (pi_list (pv 1)) (fun _ _ _ _ _ => (pe_call G_are_digits (hr.mono (by decide)) rfl T.m_are_digits T.k_are_digits T.b_are_digits .nil pass0 (pa_cons (pv 0) pa_nil)))) pa_nil))))))) (pss_one (ps_raise rfl T.x_NoDay T.n_NoDay T.m_NoDay rfl raisesE (pa_cons pe_str pa_nil))) pss_nil)
  (pss_one (ps_ret (pe_call G_day_of (hr.mono (by decide)) rfl T.m_day_of T.k_day_of T.b_day_of .nil passes_on (pa_cons (pe_callTy call_intT rfl T.z_int bt_int (pa_cons (pe_ix ix_list (pv 1) pe_int (fun _ _ => rfl)) pa_nil)) (pa_cons (pe_callTy call_intT rfl T.z_int bt_int (pa_cons (pe_ix ix_list (pv 1) pe_int (fun _ _ => rfl)) pa_nil)) (pa_cons (pe_callTy call_intT rfl T.z_int bt_int (pa_cons (pe_ix ix_list (pv 1) pe_int (fun _ _ => rfl)) pa_nil)) pa_nil))))))))), z_go (σ := [some _, none]) rfl ?_⟩
  walk_at "run"
  rcases h with ⟨z, rfl, hz, hQ, hE⟩ | ⟨g, hg, hns, hE⟩
  rotate_left
  · refine ⟨_, g, rfl, hg, ?_⟩
    have e : Tg.isStr g = false := by cases g <;> first | rfl | exact absurd rfl hns
    rw [e]
    walk_at "run"
    exact ⟨by decide, hE⟩
  walk_at "run"
  have no : (∀ y m e, ¬ My.DueDay (My.cs z) y m e) → ∀ H', Same H H' → 1 ≤ sizeLine ∧ E (.ref t.c_NoDay) none H' := fun h H' s' => ⟨by decide, hE h H' s'⟩
  refine z_split rfl (le_size (by omega)) (fun p H1 hp s1 hl => ?_)
  have hj := PySem.StrLaws.join_split z "-"
  have hlen : ∀ x ∈ PySem.Txt.split z "-", x.length ≤ 400 := fun x hx => by
    have := join_len "-" _ x hx
    rw [hj] at this
    omega
  have hcount := PyProof.Rows.split_le z "-"
  have h3 := fun A B C h a b c => @My.split3_is z A B C h a b c
  have h4 := fun a b c => @My.split3_of z a b c
  have hL : SqL K H1 p ((PySem.Txt.split z "-").map V.str) := SqL.of hl
  generalize PySem.Txt.split z "-" = ts at *
  walk_at "run"
  refine lcn_list lenV hL (le_size (by rw [List.length_map]; omega)) ?_ ?_
  · intro x H5 S hx s5 k
    obtain ⟨y, hy, rfl⟩ := List.mem_map.mp hx
    have ly := hlen y hy
    walk_at "run"
    refine ⟨y, rfl, le_size (by omega), ?_⟩
    exact k _ (Same.refl _)
  intro acc H2 hacc s2 ha
  rw [lenV_map] at ha
  walk_at "run"
  refine z_mkl (Nat.le_of_ble_eq_true rfl) (fun l3 H3 hp3 s3 hl3 => ?_)
  walk_at "run"
  have hl3 : SqL K H3 l3 (([4, 2, 2] : List Int).map V.int) := SqL.of hl3
  refine z_neL (s3.seq (SqL.of ha)) hl3 ?_
  walk_at "run"
  refine z_iteD (fun heq => ?_) (fun hne => ?_)
  rotate_left
  · walk_at "run"
    refine no (fun y m e d => hne ?_) _ (s1.trans (s2.trans s3))
    obtain ⟨A', B, C, h, a1, a2, b1, b2, c1, c2, _⟩ := d.parts
    obtain ⟨a, b, c, e, ea, eb, ec⟩ := h3 _ _ _ h (My.dig_no45 a2) (My.dig_no45 b2) (My.dig_no45 c2)
    rw [e]
    simp only [List.map_cons, List.map_nil]
    rw [← My.cs_len, ← My.cs_len, ← My.cs_len, ea, eb, ec, a1, b1, c1]
    rfl
  obtain ⟨a, b, c, rfl, la, lb, lc⟩ := len422 heq
  have hcs := h4 _ _ _ rfl
  have hL3 := s3.seq (s2.seq hL)
  walk_at "run"
  refine lcn_list digV hL3 (le_size (by rw [List.length_map]; simp)) ?_ ?_
  · intro x H5 S hx s5 k
    obtain ⟨y, hy, rfl⟩ := List.mem_map.mp hx
    have ly := hlen y hy
    walk_at "run"
    exact a_digits (by omega) (fun H6 s6 => k _ s6)
  intro acc2 H4 hacc2 s4 ha2
  rw [digV_map] at ha2
  have s14 : Same H H4 := s1.trans (s2.trans (s3.trans s4))
  have hL4 := s4.seq hL3
  walk_at "run"
  refine z_all (SqL.of ha2) ?_
  walk_at "run"
  have eall : (([a, b, c].map fun z => My.digB (My.cs z)).all fun b => b) = (My.digB (My.cs a) && (My.digB (My.cs b) && (My.digB (My.cs c) && true))) := rfl
  rw [eall]
  refine z_ite2 (fun hb => ?_) (fun hb => ?_)
  rotate_left
  · walk_at "run"
    refine no (fun y m e d => ?_) _ s14
    obtain ⟨A', B, C, h, a1, a2, b1, b2, c1, c2, _⟩ := d.parts
    obtain ⟨a', b', c', e, ea, eb, ec⟩ := h3 _ _ _ h (My.dig_no45 a2) (My.dig_no45 b2) (My.dig_no45 c2)
    cases e
    have n1 : A' ≠ [] := fun z => by rw [z] at a1; cases a1
    have n2 : B ≠ [] := fun z => by rw [z] at b1; cases b1
    have n3 : C ≠ [] := fun z => by rw [z] at c1; cases c1
    rw [ea, eb, ec, My.digB_iff.mpr ⟨n1, a2⟩, My.digB_iff.mpr ⟨n2, b2⟩, My.digB_iff.mpr ⟨n3, c2⟩] at hb
    cases hb
  · rw [Bool.and_eq_true, Bool.and_eq_true, Bool.and_eq_true] at hb
    obtain ⟨d1, d2, d3, _⟩ := hb
    obtain ⟨n1, d1⟩ := My.digB_iff.mp d1
    obtain ⟨n2, d2⟩ := My.digB_iff.mp d2
    obtain ⟨n3, d3⟩ := My.digB_iff.mp d3
    have D := My.due_parts hcs (by rw [My.cs_len]; exact la) d1 (by rw [My.cs_len]; exact lb) d2 (by rw [My.cs_len]; exact lc) d3
    walk_at "run"
    refine z_ixL hL4 (show atI (([a, b, c] : List Str).map V.str) 0 = some (.str a) from rfl) ?_
    walk_at "run"
    refine z_intT (int_fig d1 n1 (by omega)) (by omega) ?_
    walk_at "run"
    refine z_ixL hL4 (show atI (([a, b, c] : List Str).map V.str) 1 = some (.str b) from rfl) ?_
    walk_at "run"
    refine z_intT (int_fig d2 n2 (by omega)) (by omega) ?_
    walk_at "run"
    refine z_ixL hL4 (show atI (([a, b, c] : List Str).map V.str) 2 = some (.str c) from rfl) ?_
    walk_at "run"
    refine z_intT (int_fig d3 n3 (by omega)) (by omega) ?_
    walk_at "run"
    refine a_dayof (fun nv => ?_) (fun v H5 s5 => ?_)
    · refine hE (fun y m e d => nv ?_) _ s14
      obtain ⟨e1, e2, e3⟩ := D.2 _ _ _ d
      rw [← e1, ← e2, ← e3]
      exact d.1
    · exact hQ _ _ _ (D.1 v) _ (s14.trans s5)
local macro_rules | `(tactic| walk_at "sp") => `(tactic| with_reducible (first | refine z_ints ?_ | refine z_notB ?_ | refine z_NeB ?_ | refine z_isB ?_ | refine z_EqB ?_ | refine z_iE ?_))
local macro_rules | `(tactic| walk_at "sp") => `(tactic| ((with_reducible apply z_iE2); (focus (walk_at "lq"))))
local macro_rules | `(tactic| walk_at "sp") => `(tactic| ((with_reducible apply z_slS); (focus (exact le_size (by omega)))))
local macro_rules | `(tactic| walk_at "z1I") => `(tactic| ((fail_if_success (with_reducible apply z_ifs)); (walk_at "z1")))
local macro_rules | `(tactic| walk_at "runI") => `(tactic| repeat (first | walk_at "ji" | walk_at "z1I" | walk_at "z2" | walk_at "sp"))
local macro_rules | `(tactic| walk_at "z1F") => `(tactic| ((fail_if_success (with_reducible apply z_ifs)); (fail_if_success (with_reducible apply z_for)); (walk_at "z1")))
local macro_rules | `(tactic| walk_at "runF") => `(tactic| repeat (first | walk_at "ji" | walk_at "z1F" | walk_at "z2" | walk_at "sp"))
inductive Pa where
  | int (i : Int) | oth
inductive Pv where
  | non | int (i : Int) | str (z : Str) | tup (l : List Pa) | oth
noncomputable def RpA (K : PySem.W.Frag) (H : Hp) : V → Pa → Prop
  | v, .int i => v = .int i
  | v, .oth => ∃ g, tgIs K H v g ∧ g ≠ .int
noncomputable def RpL (K : PySem.W.Frag) (H : Hp) : List V → List Pa → Prop
  | [], [] => True
  | v :: vs, a :: as => RpA K H v a ∧ RpL K H vs as
  | _, _ => False
noncomputable def Rp (K : PySem.W.Frag) (H : Hp) : V → Pv → Prop
  | v, .non => v = .non
  | v, .int i => v = .int i
  | v, .str z => v = .str z ∧ z.length ≤ 900
  | v, .tup l => ∃ p vs, v = .ref p ∧ SqT K H p vs ∧ RpL K H vs l
  | v, .oth => ∃ g, tgIs K H v g ∧ (g = .bl ∨ g = .lst ∨ g = .dic)
theorem RpA.same {K : PySem.W.Frag} {H H' : Hp} {v : V} {a : Pa} (s : Same H H') (h : RpA K H v a) : RpA K H' v a := by
  cases a with
  | int i => exact h
  | oth => obtain ⟨g, hg, ne⟩ := h; exact ⟨g, tg_same s hg, ne⟩
theorem RpL.same {K : PySem.W.Frag} {H H' : Hp} (s : Same H H') : ∀ {vs : List V} {l : List Pa}, RpL K H vs l → RpL K H' vs l
  | [], [], _ => True.intro
  | _ :: _, _ :: _, h => ⟨h.1.same s, RpL.same s h.2⟩
theorem RpL.len {K : PySem.W.Frag} {H : Hp} : ∀ {vs : List V} {l : List Pa}, RpL K H vs l → vs.length = l.length
  | [], [], _ => rfl
  | _ :: _, _ :: _, h => by rw [List.length_cons, List.length_cons, RpL.len h.2]
theorem Rp.same {K : PySem.W.Frag} {H H' : Hp} {v : V} {x : Pv} (s : Same H H') (h : Rp K H v x) : Rp K H' v x := by
  cases x with
  | tup l => obtain ⟨p, vs, e, hs, r⟩ := h; exact ⟨p, vs, e, s.tup hs, r.same s⟩
  | oth => obtain ⟨g, hg, ne⟩ := h; exact ⟨g, tg_same s hg, ne⟩
  | non => exact h
  | int i => exact h
  | str z => exact h
noncomputable def Pv.isS : Pv → Bool
  | .str _ => true | _ => false
noncomputable def Pv.isT : Pv → Bool
  | .tup _ => true | _ => false
noncomputable def Pv.isI : Pv → Bool
  | .int _ => true | _ => false
theorem Rp.tag {K : PySem.W.Frag} {H : Hp} {v : V} {x : Pv} (h : Rp K H v x) : ∃ g, tgIs K H v g ∧ g.isStr = x.isS ∧ g.isTup = x.isT ∧ (match g with | .int => true | _ => false) = x.isI := by
  cases x with
  | non => cases h; exact ⟨.non, True.intro, rfl, rfl, rfl⟩
  | int i => cases h; exact ⟨.int, True.intro, rfl, rfl, rfl⟩
  | str z => obtain ⟨rfl, _⟩ := h; exact ⟨.str, True.intro, rfl, rfl, rfl⟩
  | tup l => obtain ⟨p, vs, rfl, hs, _⟩ := h; exact ⟨.tup, ⟨vs, hs⟩, rfl, rfl, rfl⟩
  | oth => obtain ⟨g, hg, rfl | rfl | rfl⟩ := h <;> exact ⟨_, hg, rfl, rfl, rfl⟩
theorem Rp.non {K : PySem.W.Frag} {H : Hp} {v : V} {x : Pv} (h : Rp K H v x) : v = .non ↔ x = .non := by
  cases x with
  | non => cases h; exact ⟨fun _ => rfl, fun _ => rfl⟩
  | int i => cases h; exact ⟨nofun, nofun⟩
  | str z => obtain ⟨rfl, _⟩ := h; exact ⟨nofun, nofun⟩
  | tup l => obtain ⟨p, vs, rfl, hs, _⟩ := h; exact ⟨nofun, nofun⟩
  | oth =>
    obtain ⟨g, hg, hh⟩ := h
    refine ⟨fun z => ?_, nofun⟩
    subst z
    rcases hh with rfl | rfl | rfl <;> exact (show False from hg).elim
noncomputable def Pa.isI : Pa → Bool
  | .int _ => true | .oth => false
theorem a_whole {K : PySem.W.Frag} {H : Hp} {Q : VK} {E : XK} {v : V} {a : Pa} (h : RpA K H v a) (q : Q (.bl a.isI) H) : sp_whole K [v] H Q E := by
  cases a with
  | int i => cases h; exact ⟨_, .int, rfl, True.intro, q⟩
  | oth =>
    obtain ⟨g, hg, ne⟩ := h
    refine ⟨_, g, rfl, hg, ?_⟩
    cases g <;> first | exact absurd rfl ne | exact q
noncomputable def isNum : Pv → Bool
  | .tup [.int a, .int b] => decide (1 ≤ b) && decide (Int.gcd a b = 1)
  | _ => false
noncomputable def absI (i : Int) : Int := if i < 0 then -i else i
noncomputable def toldN : Pv → Bool
  | .tup [.int a, .int b] => (decide (1 ≤ b) && decide (Int.gcd a b = 1)) && (decide (absI a < 1000000000000000000) && decide (b ≤ 60))
  | _ => false
theorem p18 : (10 : Int) ^ (18 : Int).toNat = 1000000000000000000 := by decide
noncomputable def sp_isnum (K : PySem.W.Frag) (f : Pv → Bool) : Sp := fun vs H Q _ => ∃ v x, vs = [v] ∧ Rp K H v x ∧ Q (.bl (f x)) H
theorem two_cases (l : List Pa) : (∃ a b, l = [a, b]) ∨ l.length ≠ 2 := by
  match l with
  | [] => exact .inr (by decide)
  | [_] => exact .inr (by simp)
  | [a, b] => exact .inl ⟨a, b, rfl⟩
  | _ :: _ :: _ :: _ => exact .inr (by simp)
theorem isNum_len {l : List Pa} (h : l.length ≠ 2) : isNum (.tup l) = false ∧ toldN (.tup l) = false := by
  match l with
  | [] => exact ⟨rfl, rfl⟩
  | [a] => cases a <;> exact ⟨rfl, rfl⟩
  | [a, b] => exact absurd rfl h
  | a :: b :: _ :: _ => cases a <;> cases b <;> exact ⟨rfl, rfl⟩
theorem isNum_not {x : Pv} (h : x.isT = false) : isNum x = false ∧ toldN x = false := by
  cases x with
  | tup l => cases h
  | _ => exact ⟨rfl, rfl⟩
theorem RpL.two {K : PySem.W.Frag} {H : Hp} {vs : List V} {a b : Pa} (h : RpL K H vs [a, b]) : ∃ v w, vs = [v, w] ∧ RpA K H v a ∧ RpA K H w b := by
  match vs, h with
  | [v, w], h => exact ⟨v, w, rfl, h.1, h.2.1⟩
theorem ok_is_number (T : Txt K mg t) : FnOk P w K mg base CX0 2 t.f_is_number t.d_is_number ["thing"] (sp_isnum K isNum) := by
  have G_is_whole := ok_is_whole (P := P) (w := w) (base := base) T
  have G_divisor_of := ok_divisor_of (P := P) (w := w) (base := base) T
  refine T.F_is_number.ok sc_is_number (fun vs H Q E h => ?_) (fun cdv A outer s H vs Q E hr h => ?_)
  · obtain ⟨v, x, rfl, _⟩ := h
    rfl
  obtain ⟨v, x, rfl, hx, q⟩ := h
  refine ⟨_, (pss_cons (ps_if (PW.pt (pw_or (pt_not (pt_val (pe_isi isi_tuple rfl rfl T.z_isinstance T.z_tuple bt_tuple (pv 0)))) (pw_or1 (pt_cmpR op_ne (pe_callB call_len_seq rfl T.z_len PySem.boot_len (pa_cons (pv 0) pa_nil)) pe_int (nomark _))))) (pss_one (ps_ret pe_bl)) pss_nil)
  (pss_cons (ps_if (PW.pt (pw_or (pt_not (pt_val (pe_call G_is_whole (hr.mono (by decide)) rfl T.m_is_whole T.k_is_whole T.b_is_whole .nil pass0 (pa_cons (pe_ix ix_tup (pv 0) pe_int (fun _ _ => rfl)) pa_nil)))) (pw_or1 (pt_not (pt_val (pe_call G_is_whole (hr.mono (by decide)) rfl T.m_is_whole T.k_is_whole T.b_is_whole .nil pass0 (pa_cons (pe_ix ix_tup (pv 0) pe_int (fun _ _ => rfl)) pa_nil))))))) (pss_one (ps_ret pe_bl)) pss_nil)
  (pss_one (ps_ret (pe_and (pe_cmpR op_ge (pe_ix ix_tup (pv 0) pe_int (fun _ _ => rfl)) pe_int (nomark _)) (pe_one (pe_cmpR op_eq (pe_call G_divisor_of (hr.mono (by decide)) rfl T.m_divisor_of T.k_divisor_of T.b_divisor_of .nil pass0 (pa_cons (pe_ix ix_tup (pv 0) pe_int (fun _ _ => rfl)) (pa_cons (pe_ix ix_tup (pv 0) pe_int (fun _ _ => rfl)) pa_nil))) pe_int (nomark _)))))))), z_go (σ := [some _]) rfl ?_⟩
  walk_at "run"
  obtain ⟨g, hg, _, hT, _⟩ := hx.tag
  refine ⟨_, g, rfl, hg, ?_⟩
  rw [hT]
  by_cases ht : x.isT = true
  rotate_left
  · have ht : x.isT = false := by simpa using ht
    rw [ht]
    walk_at "run"
    rw [(isNum_not ht).1] at q
    exact q
  rw [ht]
  obtain ⟨l, rfl⟩ : ∃ l, x = .tup l := by
    cases x with
    | tup l => exact ⟨l, rfl⟩
    | _ => cases ht
  obtain ⟨p, vs, rfl, hs, hl⟩ := hx
  have hlen := hl.len
  walk_at "run"
  rcases two_cases l with ⟨a, b, rfl⟩ | hne
  rotate_left
  · refine z_iteD (fun h => absurd h (by omega)) (fun _ => ?_)
    walk_at "run"
    rw [(isNum_len hne).1] at q
    exact q
  obtain ⟨v, w, rfl, ra, rb⟩ := hl.two
  refine z_iteD (fun _ => ?_) (fun h => absurd rfl h)
  walk_at "run"
  refine a_whole ra ?_
  walk_at "run"
  cases a with
  | oth =>
    refine iteF ?_
    walk_at "run"
    exact q
  | int i =>
    refine iteT ?_
    walk_at "run"
    refine a_whole rb ?_
    walk_at "run"
    cases b with
    | oth =>
      refine iteF ?_
      walk_at "run"
      exact q
    | int j =>
      cases ra
      cases rb
      refine iteT ?_
      walk_at "run"
      have q : Q (.bl (decide (1 ≤ j) && decide (Int.gcd i j = 1))) H := q
      refine z_iteD (fun h => ?_) (fun h => ?_)
      · rw [decide_eq_true h, Bool.true_and] at q
        walk_at "run"
        refine ⟨i, j, rfl, ?_⟩
        walk_at "run"
        have e : decide (((Int.gcd i j : Nat) : Int) = 1) = decide (Int.gcd i j = 1) := by
          rw [Bool.eq_iff_iff, decide_eq_true_eq, decide_eq_true_eq]; omega
        rw [e]
        exact q
      · rw [decide_eq_false h, Bool.false_and] at q
        exact q
theorem isNum_told {x : Pv} (h : isNum x = false) : toldN x = false := by
  match x, h with
  | .tup [.int a, .int b], h =>
    have h : (decide (1 ≤ b) && decide (Int.gcd a b = 1)) = false := h
    show ((decide (1 ≤ b) && decide (Int.gcd a b = 1)) && _) = false
    rw [h]; rfl
  | .tup [], _ => rfl
  | .tup [a], _ => cases a <;> rfl
  | .tup [.oth, b], _ => cases b <;> rfl
  | .tup [.int _, .oth], _ => rfl
  | .tup (a :: b :: _ :: _), _ => cases a <;> cases b <;> rfl
  | .non, _ => rfl
  | .int _, _ => rfl
  | .str _, _ => rfl
  | .oth, _ => rfl
theorem isNum_tup {x : Pv} (h : isNum x = true) : ∃ a b, x = .tup [.int a, .int b] ∧ 1 ≤ b ∧ Int.gcd a b = 1 := by
  match x, h with
  | .tup [.int a, .int b], h =>
    have h : (decide (1 ≤ b) && decide (Int.gcd a b = 1)) = true := h
    rw [Bool.and_eq_true, decide_eq_true_eq, decide_eq_true_eq] at h
    exact ⟨a, b, rfl, h.1, h.2⟩
theorem Rp.pair {K : PySem.W.Frag} {H : Hp} {v : V} {a b : Int} (h : Rp K H v (.tup [.int a, .int b])) : ∃ p, v = .ref p ∧ SqT K H p [.int a, .int b] := by
  obtain ⟨p, vs, rfl, hs, hl⟩ := h
  obtain ⟨v, w, rfl, ra, rb⟩ := hl.two
  cases ra
  cases rb
  exact ⟨p, rfl, hs⟩
theorem ok_is_told (T : Txt K mg t) : FnOk P w K mg base CX0 3 t.f_is_told t.d_is_told ["thing"] (sp_isnum K toldN) := by
  have G_is_number := ok_is_number (P := P) (w := w) (base := base) T
  refine T.F_is_told.ok sc_is_told (fun vs H Q E h => ?_) (fun cdv A outer s H vs Q E hr h => ?_)
  · obtain ⟨v, x, rfl, _⟩ := h
    rfl
  obtain ⟨v, x, rfl, hx, q⟩ := h
  refine ⟨_, (pss_one (ps_ret (pe_and (pe_call G_is_number (hr.mono (by decide)) rfl T.m_is_number T.k_is_number T.b_is_number .nil pass0 (pa_cons (pv 0) pa_nil)) (pe_and (pe_cmpR op_lt (pe_callB call_abs rfl T.z_abs bt_abs (pa_cons (pe_ix ix_tup (pv 0) pe_int (fun _ _ => rfl)) pa_nil)) (pe_op op_pow pe_int pe_int) (nomark _)) (pe_one (pe_cmpR op_le (pe_ix ix_tup (pv 0) pe_int (fun _ _ => rfl)) (pe_glob (v := .int 60) rfl T.g_MOST_BOTTOM ⟨_, rfl⟩) (nomark _))))))), z_go (σ := [some _]) rfl ?_⟩
  walk_at "run"
  refine ⟨v, x, rfl, hx, ?_⟩
  walk_at "run"
  refine z_ite2 (fun h => ?_) (fun h => ?_)
  rotate_left
  · rw [isNum_told h] at q
    exact q
  obtain ⟨a, b, rfl, hb, hg⟩ := isNum_tup h
  obtain ⟨p, rfl, hs⟩ := hx.pair
  have q : Q (.bl ((decide (1 ≤ b) && decide (Int.gcd a b = 1)) && (decide (absI a < 1000000000000000000) && decide (b ≤ 60)))) H := q
  rw [decide_eq_true hb, decide_eq_true hg, Bool.true_and, Bool.true_and] at q
  walk_at "run"
  rw [p18]
  refine z_iteD (fun h => ?_) (fun h => ?_)
  · have h : absI a < 1000000000000000000 := h
    rw [decide_eq_true h, Bool.true_and] at q
    walk_at "run"
    exact q
  · have h : ¬ absI a < 1000000000000000000 := h
    rw [decide_eq_false h, Bool.false_and] at q
    exact q
noncomputable def letB (c : Nat) : Bool := decide (97 ≤ c ∧ c ≤ 122)
theorem in_letters (c : Nat) : (!(Builtin.Str.occurrences ("abcdefghijklmnopqrstuvwxyz" : Str) ⟨#[c]⟩ 0 ("abcdefghijklmnopqrstuvwxyz" : Str).length 1).isEmpty) = letB c := by
  rw [PySem.StrLaws.found_one]
  have e : ("abcdefghijklmnopqrstuvwxyz" : Str).cps.toList = [97, 98, 99, 100, 101, 102, 103, 104, 105, 106, 107, 108, 109, 110, 111, 112, 113, 114, 115, 116, 117, 118, 119, 120, 121, 122] := by decide
  rw [e, Bool.eq_iff_iff, decide_eq_true_eq]
  unfold letB
  rw [decide_eq_true_eq]
  simp only [List.mem_cons, List.not_mem_nil, or_false]
  omega
noncomputable def wordS (z : Str) : Bool := decide (1 ≤ z.length) && (decide (z.length ≤ 8) && (My.cs z).all letB)
noncomputable def toldW : Pv → Bool
  | .str z => wordS z
  | _ => false
theorem toldW_not {x : Pv} (h : x.isS = false) : toldW x = false := by
  cases x with
  | str z => cases h
  | _ => rfl
noncomputable def sp_isword (K : PySem.W.Frag) : Sp := fun vs H Q _ => ∃ v x, vs = [v] ∧ Rp K H v x ∧ ∀ H', Same H H' → Q (.bl (toldW x)) H'
theorem all_let (z : Str) : (((My.cs z).map fun c => letB c).all fun b => b) = (My.cs z).all letB := by rw [List.all_map]; rfl
theorem ok_is_word (T : Txt K mg t) : FnOk P w K mg base CX0 1 t.f_is_word t.d_is_word ["thing"] (sp_isword K) := by
  refine T.F_is_word.ok sc_is_word (fun vs H Q E h => ?_) (fun cdv A outer s H vs Q E hr h => ?_)
  · obtain ⟨v, x, rfl, _⟩ := h
    rfl
  obtain ⟨v, x, rfl, hx, q⟩ := h
  refine ⟨_, (pss_cons (ps_if (PW.pt (pw_or (pt_not (pt_val (pe_isi isi_str rfl rfl T.z_isinstance T.z_str bt_str (pv 0)))) (pw_or1 (pt_not (pt_chain op_le op_le pe_int (pe_callB call_len_str rfl T.z_len PySem.boot_len (pa_cons (pv 0) pa_nil)) (pe_glob (v := .int 8) rfl T.g_LONGEST_WORD ⟨_, rfl⟩)))))) (pss_one (ps_ret pe_bl)) pss_nil)
  (pss_one (ps_ret (pe_callB (call_all rfl) rfl T.z_all bt_all (pa_cons (pe_lc rfl (compOk_of (fr := []) (osc := defScope s_is_word) (N := ["thing"]) rfl rfl (by decide +kernel)) (pi_str (pv 0)) (fun _ _ _ _ _ => (pe_cmpR op_in_str (pv 0) (pe_glob (v := .str "abcdefghijklmnopqrstuvwxyz") rfl T.g_LETTERS ⟨_, rfl⟩) rfl))) pa_nil))))), z_go (σ := [some _]) rfl ?_⟩
  walk_at "run"
  obtain ⟨g, hg, hS, _⟩ := hx.tag
  refine ⟨_, g, rfl, hg, ?_⟩
  rw [hS]
  by_cases ht : x.isS = true
  rotate_left
  · have ht : x.isS = false := by simpa using ht
    rw [ht]
    walk_at "run"
    rw [toldW_not ht] at q
    exact q _ (Same.refl _)
  rw [ht]
  obtain ⟨z, rfl⟩ : ∃ z, x = .str z := by
    cases x with
    | str z => exact ⟨z, rfl⟩
    | _ => cases ht
  obtain ⟨rfl, hz⟩ := hx
  have q : ∀ H', Same H H' → Q (.bl (decide (1 ≤ z.length) && (decide (z.length ≤ 8) && (My.cs z).all letB))) H' := q
  walk_at "run"
  refine ⟨z, rfl, le_size (by omega), ?_⟩
  walk_at "run"
  refine z_iteD (fun h1 => ?_) (fun h1 => ?_)
  rotate_left
  · walk_at "run"
    rw [decide_eq_false (show ¬ 1 ≤ z.length by omega), Bool.false_and] at q
    exact q _ (Same.refl _)
  rw [decide_eq_true (show 1 ≤ z.length by omega), Bool.true_and] at q
  walk_at "run"
  refine z_iteD (fun h2 => ?_) (fun h2 => ?_)
  rotate_left
  · walk_at "run"
    rw [decide_eq_false (show ¬ z.length ≤ 8 by omega), Bool.false_and] at q
    exact q _ (Same.refl _)
  rw [decide_eq_true (show z.length ≤ 8 by omega), Bool.true_and] at q
  walk_at "run"
  refine lcn_str (fun c => .bl (letB c)) (le_size (by show z.length ≤ 1000; omega)) ?_ ?_
  · intro c H2 S hc s2 k
    walk_at "run"
    rw [in_letters]
    exact k _ (Same.refl _)
  · intro acc H2 hacc s2 ha
    walk_at "run"
    have e : (My.cs z).map (fun c => V.bl (letB c)) = ((My.cs z).map fun c => letB c).map V.bl := by rw [List.map_map]; rfl
    have ha' : H2 acc = some (.lst (((My.cs z).map fun c => letB c).map V.bl)) := by rw [← e]; exact ha
    refine z_all (SqL.of ha') ?_
    rw [all_let]
    exact q _ s2
noncomputable def toldD : Pv → Bool
  | .int d => decide (364877 ≤ d) && decide (d ≤ 3286816)
  | _ => false
theorem years {y m e : Int} (v : My.Valid y m e) : (decide (1000 ≤ y) && decide (y ≤ 8999)) = (decide (364877 ≤ My.dayOf y m e) && decide (My.dayOf y m e ≤ 3286816)) := by
  have r := v.range
  have a : My.ybeg 1000 = 364877 := by decide
  have b : My.ybeg 9000 = 3286817 := by decide
  rw [Bool.eq_iff_iff, Bool.and_eq_true, Bool.and_eq_true, decide_eq_true_eq, decide_eq_true_eq, decide_eq_true_eq, decide_eq_true_eq]
  constructor
  · rintro ⟨h1, h2⟩
    have c := My.ybeg_mono h1
    have d := My.ybeg_mono (show y + 1 ≤ 9000 by omega)
    omega
  · rintro ⟨h1, h2⟩
    refine ⟨?_, ?_⟩
    · rcases Int.lt_or_le y 1000 with z | z
      · have c := My.ybeg_mono (show y + 1 ≤ 1000 by omega)
        omega
      · exact z
    · rcases Int.lt_or_le 8999 y with z | z
      · have c := My.ybeg_mono (show 9000 ≤ y by omega)
        omega
      · exact z
theorem a_toldday {K : PySem.W.Frag} {H : Hp} {Q : VK} {E : XK} {v : V} {x : Pv} (hx : Rp K H v x) (q : ∀ H', Same H H' → Q (.bl (toldD x)) H') : sp_told K [v] H Q E := by
  obtain ⟨g, hg, _, _, hI⟩ := hx.tag
  refine ⟨v, g, rfl, hg, fun y m e vd ed _ _ H' s' => ?_, fun nd H' s' => ?_⟩
  · subst ed
    have : x = .int (My.dayOf y m e) := by
      cases x with
      | int i => cases hx; rfl
      | non => cases hx
      | str z => exact absurd hx.1 (by intro z; cases z)
      | tup l => obtain ⟨p, vs, e', _⟩ := hx; cases e'
      | oth =>
        obtain ⟨g', hg', hh⟩ := hx
        rcases hh with rfl | rfl | rfl <;> exact (show False from hg').elim
    subst this
    rw [years vd]
    exact q _ s'
  · have e : toldD x = false := by
      cases x with
      | int i =>
        cases hx
        have := nd i rfl
        show (decide (364877 ≤ i) && decide (i ≤ 3286816)) = false
        rw [Bool.and_eq_false_iff, decide_eq_false_iff_not, decide_eq_false_iff_not]
        omega
      | _ => rfl
    rw [e] at q
    exact q _ s'
noncomputable def toldC (k : Str) (x : Pv) : Bool := match x with
  | .non => true
  | x => if k = "number" then toldN x else if k = "day" then toldD x else decide (k = "word") && toldW x
theorem toldC_ne {k : Str} {x : Pv} (h : x ≠ .non) : toldC k x = if k = "number" then toldN x else if k = "day" then toldD x else decide (k = "word") && toldW x := by
  cases x with
  | non => exact absurd rfl h
  | _ => rfl
noncomputable def sp_iscell (K : PySem.W.Frag) : Sp := fun vs H Q _ => ∃ k v x, vs = [.str k, v] ∧ Rp K H v x ∧ ∀ H', Same H H' → Q (.bl (toldC k x)) H'
theorem z_isNv {x : V} {H : Hp} {Q : VK} (q : Q (.bl (decide (x = .non))) H) : rIsN x .non H Q := ⟨rfl, q⟩
theorem z_notNv {x : V} {H : Hp} {Q : VK} (q : Q (.bl (!decide (x = .non))) H) : rNotN x .non H Q := ⟨rfl, q⟩
theorem ok_is_cell (T : Txt K mg t) : FnOk P w K mg base CX0 5 t.f_is_cell t.d_is_cell ["kind", "thing"] (sp_iscell K) := by
  have G_is_told := ok_is_told (P := P) (w := w) (base := base) T
  have G_is_told_day := ok_is_told_day (P := P) (w := w) (base := base) T
  have G_is_word := ok_is_word (P := P) (w := w) (base := base) T
  refine T.F_is_cell.ok sc_is_cell (fun vs H Q E h => ?_) (fun cdv A outer s H vs Q E hr h => ?_)
  · obtain ⟨k, v, x, rfl, _⟩ := h
    rfl
  obtain ⟨k, v, x, rfl, hx, q⟩ := h
  refine ⟨_, (pss_cons (ps_if (pt_cmpR op_isN' (pv 1) pe_non (nomark _)) (pss_one (ps_ret pe_bl)) pss_nil)
  (pss_cons (ps_if (pt_cmpR op_eq (pv 0) pe_str (nomark _)) (pss_one (ps_ret (pe_call G_is_told (hr.mono (by decide)) rfl T.m_is_told T.k_is_told T.b_is_told .nil pass0 (pa_cons (pv 1) pa_nil)))) pss_nil)
  (pss_cons (ps_if (pt_cmpR op_eq (pv 0) pe_str (nomark _)) (pss_one (ps_ret (pe_call G_is_told_day (hr.mono (by decide)) rfl T.m_is_told_day T.k_is_told_day T.b_is_told_day .nil pass0 (pa_cons (pv 1) pa_nil)))) pss_nil)
  (pss_one (ps_ret (pe_and (pe_cmpR op_eq (pv 0) pe_str (nomark _)) (pe_one (pe_call G_is_word (hr.mono (by decide)) rfl T.m_is_word T.k_is_word T.b_is_word .nil pass0 (pa_cons (pv 1) pa_nil))))))))), z_go (σ := [some _, some _]) rfl ?_⟩
  walk_at "run"
  refine z_isNv ?_
  walk_at "run"
  refine z_iteD (fun h => ?_) (fun h => ?_)
  · have e := hx.non.mp h
    subst e
    walk_at "run"
    exact q _ (Same.refl _)
  rw [toldC_ne (fun e => h (hx.non.mpr e))] at q
  walk_at "run"
  refine z_iteD (fun h1 => ?_) (fun h1 => ?_)
  · rw [if_pos h1] at q
    walk_at "run"
    exact ⟨v, x, rfl, hx, q _ (Same.refl _)⟩
  rw [if_neg h1] at q
  walk_at "run"
  refine z_iteD (fun h2 => ?_) (fun h2 => ?_)
  · rw [if_pos h2] at q
    walk_at "run"
    exact a_toldday hx q
  rw [if_neg h2] at q
  walk_at "run"
  refine z_iteD (fun h3 => ?_) (fun h3 => ?_)
  · rw [decide_eq_true h3, Bool.true_and] at q
    walk_at "run"
    exact ⟨v, x, rfl, hx, q⟩
  · rw [decide_eq_false h3, Bool.false_and] at q
    exact q _ (Same.refl _)
noncomputable def Cols (K : PySem.W.Frag) (H : Hp) (xs : List V) (ws : List Str) : Prop := xs.length = ws.length ∧ ∀ (i : Nat) (v : V) (z : Str), xs[i]? = some v → ws[i]? = some z → ∃ p r, v = .ref p ∧ SqT K H p (.str z :: r)
theorem Cols.same {K : PySem.W.Frag} {H H' : Hp} {xs : List V} {ws : List Str} (s : Same H H') (h : Cols K H xs ws) : Cols K H' xs ws := ⟨h.1, fun i v z h1 h2 => by
  obtain ⟨p, r, e, hs⟩ := h.2 i v z h1 h2
  exact ⟨p, r, e, s.tup hs⟩⟩
noncomputable def sp_draws : Sp := fun vs H Q _ => ∃ (c : Int) (a : Addr) (ts : List Int), vs = [.int c, .ref a] ∧ H a = some (.lst (ts.map V.int)) ∧ ts.length ≤ 60 ∧ (∀ x ∈ ts, 0 < x ∧ x ≤ 1000000000) ∧ ∀ (p : Addr) (H' : Hp) (ds : List Int), Same H H' → H p = none → H' p = some (.lst (ds.map V.int)) → ds.length = ts.length → (∀ (i : Nat) (d x : Int), ds[i]? = some d → ts[i]? = some x → 0 ≤ d ∧ d < x) → Q (.ref p) H'
theorem ats {ts : List Int} {i : Nat} (h : i < ts.length) : ∃ x, ts[i]? = some x ∧ atI (ts.map V.int) (0 + (i : Int)) = some (.int x) := by
  refine ⟨ts[i], List.getElem?_eq_getElem h, ?_⟩
  rw [Int.zero_add]
  exact atI_nat (by rw [List.getElem?_map, List.getElem?_eq_getElem h]; rfl)
theorem ok_l_draws (T : Txt K mg t) : FnOk P w K mg base CX0 1 t.f_l_draws t.d_l_draws ["_law_cell", "_law_tops"] (sp_draws) := by
  refine T.F_l_draws.ok sc_l_draws (fun vs H Q E h => ?_) (fun cdv A outer s H vs Q E hr h => ?_)
  · obtain ⟨c, a, ts, rfl, _⟩ := h
    rfl
  obtain ⟨c, a, ts, rfl, hS, hn, ht, q⟩ := h
  refine ⟨_, (pss_cons (ps_set (i := 2) sc_l_draws.nd rfl (Or.inl rfl) (pe_lst pa_nil))
  (pss_cons (ps_set (i := 3) sc_l_draws.nd rfl (Or.inl rfl) (pe_callB call_abs rfl T.z_abs bt_abs (pa_cons (pv 0) pa_nil)))
  (pss_cons (ps_set (i := 4) sc_l_draws.nd rfl (Or.inl rfl) (pe_op op_mod (pe_op op_mul (pv 0) pe_int) pe_int))
  (pss_cons (ps_for PassesOwn.never rfl (pi_range1 rfl T.z_range (pa_cons (pe_callB call_len_seq rfl T.z_len PySem.boot_len (pa_cons (pv 1) pa_nil)) pa_nil)) (pg_name (i := 5) sc_l_draws.nd rfl (Or.inl rfl)) (pss_one (ps_if (pt_cmpR op_ge (pe_callB call_abs rfl T.z_abs bt_abs (pa_cons (pv 0) pa_nil)) (pe_op op_pow pe_int pe_int) (nomark _)) (pss_cons (ps_expr (pe_bm PySem.F.plainAttrs_list PySem.F.slot_list_append PySem.F.type_list_append mt_append (pv 2) (pa_cons (pe_op op_mod (pv 3) (pe_ix ix_list (pv 1) (pv 5) (fun _ _ => rfl))) pa_nil)))
  (pss_one (ps_set (i := 3) sc_l_draws.nd rfl (Or.inl rfl) (pe_op op_fdivB (pv 3) (pe_ix ix_list (pv 1) (pv 5) (fun _ _ => rfl)))))) (pss_cons (ps_set (i := 4) sc_l_draws.nd rfl (Or.inl rfl) (pe_op op_mod (pe_op op_add (pe_op op_add (pe_op op_add (pe_op op_mul (pv 4) (pv 4)) (pe_op op_mul pe_int (pv 4))) (pe_op op_mul pe_int (pv 5))) pe_int) pe_int))
  (pss_one (ps_expr (pe_bm PySem.F.plainAttrs_list PySem.F.slot_list_append PySem.F.type_list_append mt_append (pv 2) (pa_cons (pe_op op_mod (pe_op op_mod (pe_op op_mul (pv 4) pe_int) pe_int) (pe_ix ix_list (pv 1) (pv 5) (fun _ _ => rfl))) pa_nil))))))))
  (pss_one (ps_ret (pv 2))))))), z_go (σ := [some _, some _, none, none, none, none]) rfl ?_⟩
  walk_at "run"
  refine z_mkl (Nat.le_of_ble_eq_true rfl) (fun l H1 hp1 s1 hl => ?_)
  walk_at "runF"
  generalize (if c < 0 then -c else c) = lf
  have m1 := Int.emod_nonneg (c * 48271) (show (2147483647 : Int) ≠ 0 by decide)
  have m2 := Int.emod_lt_of_pos (c * 48271) (show (0 : Int) < 2147483647 by decide)
  generalize c * 48271 % 2147483647 = mx at *
  have hlen : (ts.map V.int).length = ts.length := List.length_map _
  walk_at "run"
  refine f_range (fun i σ HD => (∃ (x y : Int) (u : Option V), σ = [some (.int c), some (.ref a), some (.ref l), some (.int x), some (.int y), u] ∧ 0 ≤ y ∧ y < 2147483647) ∧ Same H HD ∧ ∃ ds : List Int, HD l = some (.lst (ds.map V.int)) ∧ ds.length = i ∧ ∀ (j : Nat) (d x : Int), ds[j]? = some d → ts[j]? = some x → 0 ≤ d ∧ d < x) ⟨⟨_, _, _, rfl, m1, m2⟩, s1, [], hl, rfl, fun j d x h => by cases h⟩ ?_ ?_
  · rintro i σ HD hi ⟨⟨x, y, u, rfl, y0, y1⟩, sD, ds, hds, hdl, hdd⟩
    have hi' : i < ts.length := by rw [hlen] at hi; simpa using hi
    obtain ⟨tp, htp, hat⟩ := ats hi'
    have tp1 := ht tp (List.mem_of_getElem? htp)
    have hSD : SqL K HD a (ts.map V.int) := SqL.of (sD _ _ hS)
    have fin : ∀ (d : Int), 0 ≤ d → d < tp → ∀ (j : Nat) (d' x' : Int), (ds ++ [d])[j]? = some d' → ts[j]? = some x' → 0 ≤ d' ∧ d' < x' := fun d d0 d1 j d' x' hj hx => by
      rcases Nat.lt_or_ge j ds.length with k | k
      · rw [List.getElem?_append_left k] at hj
        exact hdd j d' x' hj hx
      · rw [List.getElem?_append_right k] at hj
        have : j = i := by
          have := (List.getElem?_eq_some_iff.mp hj).1
          simp at this
          omega
        subst this
        rw [htp] at hx
        cases hx
        rw [show j - ds.length = 0 by omega] at hj
        cases hj
        exact ⟨d0, d1⟩
    walk_at "run"
    have mtp : Mid tp := midB (by omega) (by omega)
    have dl : (ds.map V.int).length < sizeLine := Nat.lt_of_le_of_lt (show (ds.map V.int).length ≤ 1000 by rw [List.length_map]; omega) (by decide)
    have nl : a ≠ l := fun z => by rw [z, hp1] at hS; cases hS
    refine z_ite2 (fun hb => ?_) (fun hb => ?_)
    · walk_at "run"
      refine z_tyL (SqL.of hds) ?_
      walk_at "run"
      refine z_ixL hSD hat ?_
      walk_at "run"
      refine z_append hds dl (fun H2 b2 hl2 => ?_)
      walk_at "run"
      refine z_ixL (b2.seq nl hSD) hat ?_
      walk_at "run"
      have e0 := Int.emod_nonneg x (show tp ≠ 0 by omega)
      have e1 := Int.emod_lt_of_pos x (show 0 < tp by omega)
      exact ⟨⟨_, _, _, rfl, y0, y1⟩, sD.but hp1 b2, ds ++ [x % tp], by rw [List.map_append]; exact hl2, by rw [List.length_append, hdl]; rfl, fin _ e0 e1⟩
    · walk_at "run"
      generalize hM : (y * y + 69621 * y + 7919 * (0 + (i : Int)) + 11) % 2147483647 = M
      have M0 : 0 ≤ M := by rw [← hM]; exact Int.emod_nonneg _ (by decide)
      have M1 : M < 2147483647 := by rw [← hM]; exact Int.emod_lt_of_pos _ (by decide)
      refine z_tyL (SqL.of hds) ?_
      walk_at "run"
      refine z_ixL hSD hat ?_
      walk_at "run"
      refine z_append hds dl (fun H2 b2 hl2 => ?_)
      walk_at "run"
      have e0 := Int.emod_nonneg (M * 16807 % 2147483629) (show tp ≠ 0 by omega)
      have e1 := Int.emod_lt_of_pos (M * 16807 % 2147483629) (show 0 < tp by omega)
      exact ⟨⟨_, _, _, rfl, M0, M1⟩, sD.but hp1 b2, ds ++ [_], by rw [List.map_append]; exact hl2, by rw [List.length_append, hdl]; rfl, fin _ e0 e1⟩
  · rintro σ HD ⟨⟨x, y, u, rfl, _⟩, sD, ds, hds, hdl, hdd⟩
    walk_at "run"
    refine q _ _ ds sD hp1 hds (by rw [hdl, hlen]; simp) hdd

noncomputable def sp_gnum (K : PySem.W.Frag) : Sp := fun vs H Q _ => ∃ (l : Addr) (d0 d1 d2 d3 d4 : Int), vs = [.ref l] ∧ SqL K H l ([d0, d1, d2, d3, d4].map V.int) ∧ (0 ≤ d0 ∧ d0 < 2) ∧ (0 ≤ d1 ∧ d1 < 4) ∧ (0 ≤ d2 ∧ d2 < 1000000000) ∧ (0 ≤ d3 ∧ d3 < 1000000000) ∧ (0 ≤ d4 ∧ d4 < 90) ∧ ∀ (p : Addr) (H' : Hp) (x y : Int), Same H H' → SqT K H' p [.int x, .int y] → 1 ≤ y → y ≤ 60 → -1000000000000000000 < x → x < 1000000000000000000 → Int.gcd x y = 1 → Q (.ref p) H'
theorem p9 : (10 : Int) ^ (9 : Int).toNat = 1000000000 := by decide
theorem low_okB {tp bt : Int} (hb : 0 < bt) : 0 < bt / ((Int.gcd tp bt : Nat) : Int) ∧ Int.gcd (tp / ((Int.gcd tp bt : Nat) : Int)) (bt / ((Int.gcd tp bt : Nat) : Int)) = 1 ∧ (tp / ((Int.gcd tp bt : Nat) : Int)).natAbs ≤ tp.natAbs ∧ (bt / ((Int.gcd tp bt : Nat) : Int)).natAbs ≤ bt.natAbs := by
  have g0 := My.gcd_pos (a := tp) hb
  have M := My.made_of (t := tp) (m := bt) (by omega)
  have e : My.sg tp bt = ((Int.gcd tp bt : Nat) : Int) := if_neg (by omega)
  have e1 : tp.fdiv (My.sg tp bt) = tp / ((Int.gcd tp bt : Nat) : Int) := by rw [e]; exact Int.fdiv_eq_ediv_of_nonneg _ (by omega)
  have e2 : bt.fdiv (My.sg tp bt) = bt / ((Int.gcd tp bt : Nat) : Int) := by rw [e]; exact Int.fdiv_eq_ediv_of_nonneg _ (by omega)
  rw [e1, e2] at M
  exact ⟨M.pos, M.low, M.ba, M.bb⟩
theorem low_sg {d tp bt : Int} (hd : d = 0 ∨ d = 1) (hb : 0 < bt) (t0 : 0 ≤ tp) : 0 < bt / ((Int.gcd tp bt : Nat) : Int) ∧ bt / ((Int.gcd tp bt : Nat) : Int) ≤ bt ∧ Int.gcd ((1 - 2 * d) * tp / ((Int.gcd tp bt : Nat) : Int)) (bt / ((Int.gcd tp bt : Nat) : Int)) = 1 ∧ -tp ≤ (1 - 2 * d) * tp / ((Int.gcd tp bt : Nat) : Int) ∧ (1 - 2 * d) * tp / ((Int.gcd tp bt : Nat) : Int) ≤ tp := by
  rcases hd with rfl | rfl
  · obtain ⟨r1, r2, r3, r4⟩ := low_okB (tp := tp) hb
    rw [show (1 - 2 * 0) * tp = tp by omega]
    exact ⟨r1, by omega, r2, by omega, by omega⟩
  · obtain ⟨r1, r2, r3, r4⟩ := low_okB (tp := -tp) hb
    rw [Int.neg_gcd] at r1 r2 r3 r4
    rw [show (1 - 2 * 1) * tp = -tp by omega]
    exact ⟨r1, by omega, r2, by omega, by omega⟩
theorem ok_l_number (T : Txt K mg t) : FnOk P w K mg base CX0 2 t.f_l_number t.d_l_number ["_law_d"] (sp_gnum K) := by
  have G_l_divisor := ok_l_divisor (P := P) (w := w) (base := base) T
  refine T.F_l_number.ok sc_l_number (fun vs H Q E h => ?_) (fun cdv A outer s H vs Q E hr h => ?_)
  · obtain ⟨l, d0, d1, d2, d3, d4, rfl, _⟩ := h
    rfl
  obtain ⟨l, d0, d1, d2, d3, d4, rfl, hL, b0, b1, b2, b3, b4, q⟩ := h
  have a0 : atI ([d0, d1, d2, d3, d4].map V.int) 0 = some (.int d0) := rfl
  have a1 : atI ([d0, d1, d2, d3, d4].map V.int) 1 = some (.int d1) := rfl
  have a2 : atI ([d0, d1, d2, d3, d4].map V.int) 2 = some (.int d2) := rfl
  have a3 : atI ([d0, d1, d2, d3, d4].map V.int) 3 = some (.int d3) := rfl
  have a4 : atI ([d0, d1, d2, d3, d4].map V.int) 4 = some (.int d4) := rfl
  refine ⟨_, (pss_cons (ps_set (i := 1) sc_l_number.nd rfl (Or.inl rfl) (pe_ix ix_list (pe_lst (pa_cons (pe_op op_mod (pe_ix ix_list (pv 0) pe_int (fun _ _ => rfl)) pe_int) (pa_cons (pe_op op_mod (pe_ix ix_list (pv 0) pe_int (fun _ _ => rfl)) pe_int) (pa_cons (pe_ix ix_list (pv 0) pe_int (fun _ _ => rfl)) (pa_cons (pe_op op_add (pe_op op_mulB (pe_ix ix_list (pv 0) pe_int (fun _ _ => rfl)) (pe_op op_pow pe_int pe_int)) (pe_ix ix_list (pv 0) pe_int (fun _ _ => rfl))) pa_nil))))) (pe_ix ix_list (pv 0) pe_int (fun _ _ => rfl)) (fun _ _ => rfl)))
  (pss_cons (ps_set (i := 2) sc_l_number.nd rfl (Or.inl rfl) (pe_ix ix_list (pe_lst (pa_cons (pe_op op_add (pe_ix ix_list (pv 0) pe_int (fun _ _ => rfl)) pe_int) (pa_cons pe_int pa_nil))) (pe_callTy call_int1 rfl T.z_int bt_int (pa_cons (pe_cmpR op_ge (pe_ix ix_list (pv 0) pe_int (fun _ _ => rfl)) pe_int (nomark _)) pa_nil)) (fun _ _ => rfl)))
  (pss_cons (ps_set (i := 3) sc_l_number.nd rfl (Or.inl rfl) (pe_call G_l_divisor (hr.mono (by decide)) rfl T.m_l_divisor T.k_l_divisor T.b_l_divisor .nil pass0 (pa_cons (pv 1) (pa_cons (pv 2) pa_nil))))
  (pss_one (ps_ret (pe_tup (pa_cons (pe_op op_fdivB (pe_op op_mulB (pe_op op_sub pe_int (pe_op op_mulB pe_int (pe_ix ix_list (pv 0) pe_int (fun _ _ => rfl)))) (pv 1)) (pv 3)) (pa_cons (pe_op op_fdivB (pv 2) (pv 3)) pa_nil)))))))), z_go (σ := [some _, none, none, none]) rfl ?_⟩
  walk_at "run"
  refine z_ixL hL a2 ?_
  walk_at "run"
  refine z_ixL hL a2 ?_
  walk_at "run"
  refine z_ixL hL a2 ?_
  walk_at "run"
  refine z_ixL hL a2 ?_
  walk_at "run"
  rw [p9]
  refine z_ixL hL a3 ?_
  walk_at "run"
  refine z_mkl (Nat.le_of_ble_eq_true rfl) (fun l1 H1 hp1 s1 hl1 => ?_)
  walk_at "run"
  refine z_ixL (s1.seq hL) a1 ?_
  obtain ⟨tp, htp, t0, t1⟩ : ∃ tp : Int, atI [V.int (d2 % 10), .int (d2 % 1000), .int d2, .int (d2 * 1000000000 + d3)] d1 = some (.int tp) ∧ 0 ≤ tp ∧ tp < 1000000000000000000 := by
    rcases (by omega : d1 = 0 ∨ d1 = 1 ∨ d1 = 2 ∨ d1 = 3) with e | e | e | e <;> subst e <;> exact ⟨_, rfl, by omega, by omega⟩
  refine z_ixL (SqL.of hl1) htp ?_
  walk_at "run"
  refine z_ixL (s1.seq hL) a4 ?_
  walk_at "run"
  refine z_mkl (Nat.le_of_ble_eq_true rfl) (fun l2 H2 hp2 s2 hl2 => ?_)
  walk_at "run"
  refine z_ixL (s2.seq (s1.seq hL)) a4 ?_
  walk_at "run"
  obtain ⟨bt, hbt, c0, c1⟩ : ∃ bt : Int, atI [V.int (d4 + 1), .int 1] (if decide (60 ≤ d4) = true then 1 else 0) = some (.int bt) ∧ 1 ≤ bt ∧ bt ≤ 60 := by
    by_cases e : 60 ≤ d4
    · exact ⟨1, by rw [decide_eq_true e]; rfl, by decide, by decide⟩
    · exact ⟨d4 + 1, by rw [decide_eq_false e]; rfl, by omega, by omega⟩
  refine z_ixL (SqL.of hl2) hbt ?_
  walk_at "run"
  refine ⟨tp, bt, rfl, by omega, ?_⟩
  have g0 := My.gcd_pos (a := tp) (show 0 < bt by omega)
  have g1 : ((Int.gcd tp bt : Nat) : Int) ≤ bt := My.gcd_le (by omega)
  have gm : Mid ((Int.gcd tp bt : Nat) : Int) := midB (by omega) (by omega)
  walk_at "run"
  refine z_ixL (s2.seq (s1.seq hL)) a0 ?_
  walk_at "run"
  rename_i p3 H3 n3 s3 e3
  obtain ⟨r1, r2, r3, r4, r5⟩ := low_sg (d := d0) (tp := tp) (bt := bt) (by omega) (by omega) t0
  exact q _ _ _ _ (s1.trans (s2.trans s3)) (SqT.of e3) (by omega) (by omega) (by omega) (by omega) r3
theorem join0 : ∀ (cs : List Nat), My.cs (Str.join "" (cs.map fun c => (⟨#[c]⟩ : Str))) = cs
  | [] => rfl
  | [c] => rfl
  | c :: d :: r => by
    show My.cs ((⟨#[c]⟩ : Str) ++ "" ++ Str.join "" ((d :: r).map fun c => (⟨#[c]⟩ : Str))) = _
    rw [My.cs_app, My.cs_app, join0 (d :: r)]
    rfl
theorem join_one (cs : List Nat) : My.cs (PySem.Txt.join "" (cs.map fun c => (⟨#[c]⟩ : Str))) = cs := by
  show My.cs (Builtin.Str.glued "" _) = _
  rw [PySem.StrLaws.glued_eq_join]
  exact join0 cs
theorem joinOk1 (cs : List Nat) (h : cs.length ≤ 1000) : PySem.JoinOk "" (cs.map fun c => (⟨#[c]⟩ : Str)) = true := by
  unfold PySem.JoinOk
  rw [PySem.StrLaws.joinFits (B := 1) (fun x hx => by
    obtain ⟨c, _, rfl⟩ := List.mem_map.mp hx
    exact Nat.le_refl _) (by
    rw [List.length_map, show ("" : Str).length = 0 from rfl]
    omega)]
  rfl
theorem wordS_of {z : Str} (h1 : 1 ≤ z.length) (h2 : z.length ≤ 8) (h3 : (My.cs z).all letB = true) : wordS z = true := by
  unfold wordS
  rw [decide_eq_true h1, decide_eq_true h2, h3]; rfl
theorem wordS_is {z : Str} (h : wordS z = true) : 1 ≤ z.length ∧ z.length ≤ 8 ∧ (My.cs z).all letB = true := by
  unfold wordS at h
  rw [Bool.and_eq_true, Bool.and_eq_true, decide_eq_true_eq, decide_eq_true_eq] at h
  exact h
noncomputable def lens (y : Int) : List Int := [31, if My.leap y = true then 29 else 28, 31, 30, 31, 30, 31, 31, 30, 31, 30, 31]
noncomputable def sp_lengths : Sp := fun vs H Q _ => ∃ y : Int, vs = [.int y] ∧ ∀ (p : Addr) (H' : Hp), Same H H' → H' p = some (.lst ((lens y).map V.int)) → Q (.ref p) H'
theorem leap_is (y : Int) : My.leap y = (decide (y % 4 = 0) && (!decide (y % 100 = 0) || decide (y % 400 = 0))) := by
  unfold My.leap
  by_cases h4 : y % 4 = 0
  · rw [if_pos h4, decide_eq_true h4, Bool.true_and]
    by_cases h1 : y % 100 = 0
    · rw [if_pos h1, decide_eq_true h1]; rfl
    · rw [if_neg h1, decide_eq_false h1]; rfl
  · rw [if_neg h4, decide_eq_false h4]; rfl
theorem ok_l_lengths (T : Txt K mg t) : FnOk P w K mg base CX0 1 t.f_l_lengths t.d_l_lengths ["_law_year"] (sp_lengths) := by
  refine T.F_l_lengths.ok sc_l_lengths (fun vs H Q E h => ?_) (fun cdv A outer s H vs Q E hr h => ?_)
  · obtain ⟨y, rfl, _⟩ := h
    rfl
  obtain ⟨y, rfl, q⟩ := h
  have hL := leap_is y
  refine ⟨_, (pss_cons (ps_set (i := 1) sc_l_lengths.nd rfl (Or.inl rfl) (pe_and (pe_cmpR op_eq (pe_op op_mod (pv 0) pe_int) pe_int (nomark _)) (pe_one (pe_or (pe_cmpR op_ne (pe_op op_mod (pv 0) pe_int) pe_int (nomark _)) (pe_one (pe_cmpR op_eq (pe_op op_mod (pv 0) pe_int) pe_int (nomark _)))))))
  (pss_one (ps_ret (pe_lst (pa_cons pe_int (pa_cons (pe_op op_add pe_int (pe_callTy call_int1 rfl T.z_int bt_int (pa_cons (pv 1) pa_nil))) (pa_cons pe_int (pa_cons pe_int (pa_cons pe_int (pa_cons pe_int (pa_cons pe_int (pa_cons pe_int (pa_cons pe_int (pa_cons pe_int (pa_cons pe_int (pa_cons pe_int pa_nil)))))))))))))))), z_go (σ := [some _, none]) rfl ?_⟩
  have fin : ∀ b : Bool, My.leap y = b → (28 : Int) + (if b = true then 1 else 0) = if My.leap y = true then 29 else 28 := fun b hb => by rw [hb]; cases b <;> rfl
  walk_at "run"
  refine z_iteD (fun h4 => ?_) (fun h4 => ?_)
  · walk_at "run"
    refine z_iteD (fun h1 => ?_) (fun h1 => ?_)
    · walk_at "run"
      refine z_mkl (Nat.le_of_ble_eq_true rfl) (fun l H1 hp s1 hl => ?_)
      walk_at "run"
      refine q _ _ s1 ?_
      rw [hl, fin _ (by rw [hL, decide_eq_true h4, decide_eq_true h1]; rfl)]
      rfl
    · walk_at "run"
      refine z_mkl (Nat.le_of_ble_eq_true rfl) (fun l H1 hp s1 hl => ?_)
      walk_at "run"
      refine q _ _ s1 ?_
      rw [hl, fin true (by rw [hL, decide_eq_true h4, decide_eq_false h1]; rfl)]
      rfl
  · walk_at "run"
    refine z_mkl (Nat.le_of_ble_eq_true rfl) (fun l H1 hp s1 hl => ?_)
    walk_at "run"
    refine q _ _ s1 ?_
    rw [hl, fin false (by rw [hL, decide_eq_false h4]; rfl)]
    rfl
theorem lens_at {y d : Int} (h0 : 0 ≤ d) (h1 : d < 12) : atI ((lens y).map V.int) d = some (.int (My.mlen y (d + 1))) ∧ (((lens y).take d.toNat).sum) = My.bf (My.leap y) (d + 1) := by
  unfold lens My.mlen
  cases My.leap y <;> rcases (by omega : d = 0 ∨ d = 1 ∨ d = 2 ∨ d = 3 ∨ d = 4 ∨ d = 5 ∨ d = 6 ∨ d = 7 ∨ d = 8 ∨ d = 9 ∨ d = 10 ∨ d = 11) with e | e | e | e | e | e | e | e | e | e | e | e <;> subst e <;> exact ⟨rfl, by decide⟩
theorem sln_sl {z : Str} {n : Nat} {lo hi : Option Int} (h : z.length ≤ n) : (PySem.Txt.slice z lo hi).length ≤ n := Nat.le_trans (PySem.Txt.slice_le z lo hi) h
theorem sln_app {a b : Str} {n m : Nat} (h : a.length ≤ n) (g : b.length ≤ m) : (a ++ b).length ≤ n + m := by rw [Str.length_append]; omega
theorem sln_one (c : Nat) : (⟨#[c]⟩ : Str).length ≤ 1 := Nat.le_refl _
local macro_rules | `(tactic| walk_at "sn") => `(tactic| first | (with_reducible assumption) | (with_reducible exact sln_one _) | ((with_reducible apply sln_sl); (walk_at "sn")) | ((with_reducible apply sln_app) <;> (walk_at "sn")) | (with_reducible exact Nat.le_refl _))
theorem z_addSb {a b : Str} {n m : Nat} {H : Hp} {Q : VK} (h : a.length ≤ n) (g : b.length ≤ m) (hb : n + m ≤ 1000) (k : Q (.str (a ++ b)) H) : rAddS (.str a) (.str b) H Q := z_addS (le_size (by omega)) k
theorem z_slSb {z : Str} {lo hi : Option Int} {n : Nat} {H : Hp} {Q : VK} (h : z.length ≤ n) (hb : n ≤ 1000) (k : Q (.str (PySem.Txt.slice z lo hi)) H) : rSlS (.str z) lo hi H Q := z_slS (le_size (by omega)) k
theorem z_lenS {z : Str} {n : Nat} {S : Str → Prop} (h : z.length ≤ n) (hb : n ≤ 1000) (q : S z) : ∃ z', [V.str z] = [.str z'] ∧ z'.length ≤ sizeLine ∧ S z' := ⟨z, rfl, le_size (by omega), q⟩
theorem z_log {i : Int} {S : Prop} (h : i.natAbs.log2 < 1920) (q : S) : i.natAbs.log2 < 1920 ∧ S := ⟨h, q⟩
local macro_rules | `(tactic| walk_at "sp") => `(tactic| ((with_reducible apply z_log); (focus assumption)))
local macro_rules | `(tactic| walk_at "sp") => `(tactic| ((with_reducible apply z_addSb); (focus (walk_at "sn")); (focus (walk_at "sn")); (focus (first | decide | omega))))
local macro_rules | `(tactic| walk_at "sp") => `(tactic| ((with_reducible apply z_slSb); (focus (walk_at "sn")); (focus (first | decide | omega))))
local macro_rules | `(tactic| walk_at "sp") => `(tactic| ((with_reducible apply z_lenS); (focus (walk_at "sn")); (focus (first | decide | omega))))
local macro_rules | `(tactic| walk_at "sp") => `(tactic| ((with_reducible apply z_dnew); (intro p H' n s e)))
local macro_rules | `(tactic| walk_at "sp") => `(tactic| ((with_reducible apply z_mkl); (focus (exact Nat.le_of_ble_eq_true rfl)); (intro p H' n s e)))
local macro_rules | `(tactic| walk_at "sp") => `(tactic| ((with_reducible apply z_catn); (focus (walk_at "hl")); (focus (walk_at "hl")); (focus (exact Nat.le_of_ble_eq_true rfl)); (intro p H' n s e)))
local macro_rules | `(tactic| walk_at "sp") => `(tactic| ((with_reducible apply z_tyL); (focus (walk_at "lq"))))
theorem z_appendS {K : PySem.W.Frag} {H : Hp} {Q : VK} {l : Addr} {xs : List V} {v : V} (h : H l = some (.lst xs)) (hl : xs.length ≤ 900) (q : ∀ H', But l H H' → H' l = some (.lst (xs ++ [v])) → Q .non H') : rAppend (.ref l) [v] H Q := z_append h (Nat.lt_of_le_of_lt hl (by decide)) q
theorem all_nil {P : V → Prop} : ∀ v ∈ ([] : List V), P v := fun v h => absurd h List.not_mem_nil
theorem all_cons {P : V → Prop} {x : V} {r : List V} (h : P x) (t : ∀ v ∈ r, P v) : ∀ v ∈ x :: r, P v := List.forall_mem_cons.mpr ⟨h, t⟩
local macro_rules | `(tactic| walk_at "tpr") => `(tactic| first | (with_reducible assumption) | (with_reducible exact SqT.of (by with_reducible assumption)) | ((with_reducible apply Same.tup); (focus (with_reducible assumption)); (walk_at "tpr")))
local macro_rules | `(tactic| walk_at "lqr") => `(tactic| first | (with_reducible assumption) | (with_reducible exact SqL.of (by with_reducible assumption)) | ((with_reducible apply Same.seq); (focus (with_reducible assumption)); (walk_at "lqr")))
local macro_rules | `(tactic| walk_at "ra") => `(tactic| with_reducible (first | exact ra_int | exact ra_str | exact ra_bl | exact ra_non))
local macro_rules | `(tactic| walk_at "ras") => `(tactic| first | (with_reducible exact all_nil) | ((with_reducible apply all_cons); (focus (walk_at "ra")); (walk_at "ras")))
local macro_rules | `(tactic| walk_at "rx") => `(tactic| first | (with_reducible exact rx_int) | (with_reducible exact rx_non) | (with_reducible exact rx_bl) | ((with_reducible apply rx_str); (focus (walk_at "sn")); (first | decide | omega)) | ((with_reducible apply rx_tup); (focus (walk_at "tpr")); (walk_at "ras")) | ((with_reducible apply rx_lst); (walk_at "lqr")) | ((with_reducible apply rx_dic); (walk_at "hl")))
local macro_rules | `(tactic| walk_at "rxs") => `(tactic| first | (with_reducible exact all_nil) | ((with_reducible apply all_cons); (focus (walk_at "rx")); (walk_at "rxs")))
theorem z_ixAny {K : PySem.W.Frag} {H : Hp} {Q : VK} {p : Addr} {xs : List V} {i : Int} (P : V → Prop) (hs : SqL K H p xs) (h0 : 0 ≤ i) (h1 : i < (xs.length : Int)) (hall : ∀ v ∈ xs, P v) (q : ∀ v, P v → Q v H) : rIxL K (.ref p) (.int i) H Q := by
  obtain ⟨k, rfl⟩ := Int.eq_ofNat_of_zero_le h0
  have hk : k < xs.length := by omega
  exact z_ixL hs (atI_nat (List.getElem?_eq_getElem hk)) (q _ (hall _ (List.getElem_mem hk)))
theorem str_at {z : Str} {i : Int} (h0 : 0 ≤ i) (h1 : i < (z.length : Int)) : ∃ c, atI z.cps.toList i = some c := by
  obtain ⟨k, rfl⟩ := Int.eq_ofNat_of_zero_le h0
  have e := My.cs_len z
  exact ⟨_, atI_nat (List.getElem?_eq_getElem (show k < (My.cs z).length by omega))⟩
theorem z_ixSm {z : Str} {a : Int} {H : Hp} {Q : VK} (hz : 0 < z.length) (hl : z.length ≤ 900) (q : ∀ c, Q (.str ⟨#[c]⟩) H) : rIxS (.str z) (.int (a % (z.length : Int))) H Q := by
  obtain ⟨c, hc⟩ := str_at (z := z) (i := a % (z.length : Int)) (Int.emod_nonneg _ (by omega)) (Int.emod_lt_of_pos _ (by omega))
  exact z_ixS (le_size (by omega)) hc (q c)
theorem oi_NoTable (T : Txt K mg t) : FnOk P w K mg base CX0 1 t.fi_NoTable t.di_NoTable ["self", "row"] (sp_init t.c_NoTable "row") := by
  refine T.Fi_NoTable.ok sci_NoTable (fun vs H Q E h => ?_) (fun cdv A outer s H vs Q E hr h => ?_)
  · obtain ⟨a, v, rfl, _⟩ := h
    rfl
  obtain ⟨a, v, rfl, ha, q⟩ := h
  refine ⟨_, (pss_one (ps_fldX (pv 0) (pv 1) rfl)), z_go (σ := [some _, some _]) rfl ?_⟩
  walk_at "run"
  exact ⟨v, rfl, .ref a, rfl, a, _, _, rfl, ha, T.o_NoTable, q⟩
theorem oiH_NoTable (T : Txt K mg t) : FnOkH P w K mg base 1 t.fi_NoTable t.di_NoTable ["self", "row"] (sp_init t.c_NoTable "row") := by
  refine T.Fi_NoTable.okH sci_NoTable (fun vs H Q E h => ?_) (fun cdv A outer s H vs Q E ax hr h => ?_)
  · obtain ⟨a, v, rfl, _⟩ := h
    rfl
  obtain ⟨a, v, rfl, ha, q⟩ := h
  refine ⟨_, (pss_one (ps_fldX (pv 0) (pv 1) rfl)), z_go (σ := [some _, some _]) rfl ?_⟩
  walk_at "run"
  exact ⟨v, rfl, .ref a, rfl, a, _, _, rfl, ha, T.o_NoTable, q⟩
noncomputable def KdS (kd : Str) : Prop := kd = "number" ∨ kd = "word" ∨ kd = "day"
inductive RC : Str → Str → Pv → Prop
  | num {z : Str} {a b : Int} (d : My.DueOk (My.cs z) a b) (h1 : absI a < 1000000000000000000) (h2 : b ≤ 60) : RC "number" z (.tup [.int a, .int b])
  | day {z : Str} {y m e : Int} (d : My.DueDay (My.cs z) y m e) (h1 : 1000 ≤ y) (h2 : y ≤ 8999) : RC "day" z (.int (My.dayOf y m e))
  | word {z : Str} (h : wordS z = true) : RC "word" z (.str z)
noncomputable def RowE (C : Addr) (H : Hp) (E : XK) : Prop := ∀ dx H', Same H H' → H' dx = some (.xd [("row", .non)]) → E (.ref C) (some dx) H'
inductive GC : Str → Pv → Str → Prop
  | non {k : Str} : GC k .non "-"
  | num {a b : Int} {z : Str} (hb : 1 ≤ b) (h60 : b ≤ 60) (g : Int.gcd a b = 1) (ha : absI a < 1000000000000000000) (e : My.cs z = My.shw a b) : GC "number" (.tup [.int a, .int b]) z
  | word {z : Str} (h : wordS z = true) : GC "word" (.str z) z
  | day {y m e : Int} {z : Str} (v : My.Valid y m e) (h1 : 1000 ≤ y) (h2 : y ≤ 8999) (ez : My.cs z = My.dtx y.toNat m.toNat e.toNat) : GC "day" (.int (My.dayOf y m e)) z
noncomputable def sp_showcell (K : PySem.W.Frag) : Sp := fun vs H Q _ => ∃ k v x z, vs = [.str k, v] ∧ Rp K H v x ∧ GC k x z ∧ ∀ H', Same H H' → Q (.str z) H'
theorem ok_show_cell (T : Txt K mg t) : FnOk P w K mg base CX0 5 t.f_show_cell t.d_show_cell ["kind", "cell"] (sp_showcell K) := by
  have G_show_number := ok_show_number (P := P) (w := w) (base := base) T
  have G_show_day := ok_show_day (P := P) (w := w) (base := base) T
  refine T.F_show_cell.ok sc_show_cell (fun vs H Q E h => ?_) (fun cdv A outer s H vs Q E hr h => ?_)
  · obtain ⟨k, v, x, z, rfl, _⟩ := h
    rfl
  obtain ⟨k, v, x, z, rfl, hx, g, q⟩ := h
  refine ⟨_, (pss_cons (ps_if (pt_cmpR op_isN' (pv 1) pe_non (nomark _)) (pss_one (ps_ret (pe_glob (v := .str "-") rfl T.g_NOTHING ⟨_, rfl⟩))) pss_nil)
  (pss_cons (ps_if (pt_cmpR op_eq (pv 0) pe_str (nomark _)) (pss_one (ps_ret (pe_call G_show_number (hr.mono (by decide)) rfl T.m_show_number T.k_show_number T.b_show_number .nil pass0 (pa_cons (pv 1) pa_nil)))) pss_nil)
  (pss_cons (ps_if (pt_cmpR op_eq (pv 0) pe_str (nomark _)) (pss_one (ps_ret (pe_call G_show_day (hr.mono (by decide)) rfl T.m_show_day T.k_show_day T.b_show_day .nil pass0 (pa_cons (pv 1) pa_nil)))) pss_nil)
  (pss_one (ps_ret (pv 1)))))), z_go (σ := [some _, some _]) rfl ?_⟩
  walk_at "run"
  refine z_isNv ?_
  walk_at "run"
  refine z_iteD (fun h => ?_) (fun h => ?_)
  · have e := hx.non.mp h
    subst e
    cases g
    walk_at "run"
    exact q _ (Same.refl _)
  walk_at "run"
  cases g with
  | non => exact absurd (hx.non.mpr rfl) h
  | @num a b _ hb h60 g ha e =>
    refine z_iteD (fun _ => ?_) (fun h => absurd rfl h)
    obtain ⟨p, rfl, hs⟩ := hx.pair
    walk_at "run"
    have e60 : (10 : Nat) ^ 60 = 1000000000000000000000000000000000000000000000000000000000000 := by decide
    refine ⟨p, a, b, rfl, hs, by rw [e60]; unfold absI at ha; split at ha <;> omega, by rw [e60]; omega, fun z' ez => ?_⟩
    rw [show z' = z from My.cs_ext (ez.trans e.symm)]
    exact q _ (Same.refl _)
  | word hw =>
    refine z_iteD (fun h => absurd h (by decide)) (fun _ => ?_)
    walk_at "run"
    refine z_iteD (fun h => absurd h (by decide)) (fun _ => ?_)
    obtain ⟨rfl, _⟩ := hx
    walk_at "run"
    exact q _ (Same.refl _)
  | @day y m e _ v h1 h2 e' =>
    refine z_iteD (fun h => absurd h (by decide)) (fun _ => ?_)
    walk_at "run"
    refine z_iteD (fun _ => ?_) (fun h => absurd rfl h)
    cases hx
    walk_at "run"
    have r := v.dbd
    refine ⟨_, rfl, r.1, r.2, fun z' H' y' m' e2 s' v' ed ez => ?_⟩
    obtain ⟨r1, r2, r3⟩ := v'.inj v ed
    subst r1 r2 r3
    rw [show z' = z from My.cs_ext (ez.trans e'.symm)]
    exact q _ s'
noncomputable def sp_readthing (K : PySem.W.Frag) (Cn Cd : Addr) : Sp := fun vs H Q E => ∃ (k z : Str), vs = [.str k, .str z] ∧ KdS k ∧ z.length ≤ 400 ∧
  (k = "number" → (∀ a b, My.DueOk (My.cs z) a b → ∀ p H', Same H H' → SqT K H' p [.int a, .int b] → Q (.ref p) H') ∧ ((∀ a b, ¬ My.DueOk (My.cs z) a b) → ∀ H', Same H H' → E (.ref Cn) none H')) ∧
  (k = "day" → (∀ y m e, My.DueDay (My.cs z) y m e → ∀ H', Same H H' → Q (.int (My.dayOf y m e)) H') ∧ ((∀ y m e, ¬ My.DueDay (My.cs z) y m e) → ∀ H', Same H H' → E (.ref Cd) none H')) ∧
  (k = "word" → Q (.str z) H)
theorem ok_read_thing (T : Txt K mg t) : FnOk P w K mg base (CXe P w) 5 t.f_read_thing t.d_read_thing ["kind", "text"] (sp_readthing K t.c_NoNumber t.c_NoDay) := by
  have G_read_number := ok_read_number (P := P) (w := w) (base := base) T
  have G_read_day := ok_read_day (P := P) (w := w) (base := base) T
  refine T.F_read_thing.toD.okE sc_read_thing (fun vs H Q E h => ?_) (fun cdv A outer s H vs Q E hr h => ?_)
  · obtain ⟨k, z, rfl, _⟩ := h
    rfl
  obtain ⟨k, z, rfl, hk, hz, hn, hd, hw⟩ := h
  refine ⟨_, (pss_cons (ps_if (pt_cmpR op_eq (pv 0) pe_str (nomark _)) (pss_one (ps_ret (pe_call G_read_number (hr.mono (by decide)) rfl T.m_read_number T.k_read_number T.b_read_number .nil passes_on (pa_cons (pv 1) pa_nil)))) pss_nil)
  (pss_cons (ps_if (pt_cmpR op_eq (pv 0) pe_str (nomark _)) (pss_one (ps_ret (pe_call G_read_day (hr.mono (by decide)) rfl T.m_read_day T.k_read_day T.b_read_day .nil passes_on (pa_cons (pv 1) pa_nil)))) pss_nil)
  (pss_one (ps_ret (pv 1))))), z_go (σ := [some _, some _]) rfl ?_⟩
  walk_at "run"
  refine z_iteD (fun h1 => ?_) (fun h1 => ?_)
  · walk_at "run"
    exact ⟨z, rfl, hz, (hn h1).1, (hn h1).2⟩
  walk_at "run"
  refine z_iteD (fun h2 => ?_) (fun h2 => ?_)
  · walk_at "run"
    exact ⟨_, rfl, .inl ⟨z, rfl, hz, (hd h2).1, (hd h2).2⟩⟩
  walk_at "run"
  rcases hk with h | h | h
  · exact absurd h h1
  · exact hw h
  · exact absurd h h2
theorem due_low {c : List Nat} {a b : Int} (d : My.DueOk c a b) : 1 ≤ b ∧ Int.gcd a b = 1 := by
  rcases d with ⟨_, _, _, rfl⟩ | ⟨A, B, _, _, _, _, h2, g, rfl, rfl⟩
  · exact ⟨by decide, Int.gcd_one⟩
  · exact ⟨by omega, g⟩
theorem z_tryN {i : Nat} {sp : Sp} {dvs : List V} {Mt : Addr → Prop} {C : Addr} {f : Str} {E : XK} {tA : TA} {σ : St} {H : Hp} {D : Ends} (h : tA σ H fun vs H1 => sp (vs ++ dvs) H1 (fun v H2 => D.nx (σ.set i (some v)) H2) fun cls d H2 => d = none ∧ (∃ C0, cls = .ref C0 ∧ Mt C0) ∧ ∀ dx, H2 dx = none → E (.ref C) (some dx) (upd H2 dx (.xd [(f, .non)]))) : tTryN i sp dvs Mt C f E tA D σ H := h
theorem toldN_pair {a b : Int} (hb : 1 ≤ b) (g : Int.gcd a b = 1) : toldN (.tup [.int a, .int b]) = (decide (absI a < 1000000000000000000) && decide (b ≤ 60)) := by
  show ((decide (1 ≤ b) && decide (Int.gcd a b = 1)) && (decide (absI a < 1000000000000000000) && decide (b ≤ 60))) = _
  rw [decide_eq_true hb, decide_eq_true g]; rfl
noncomputable def sp_readcell (K : PySem.W.Frag) (C : Addr) : Sp := fun vs H Q E => ∃ (k : Str) (v : V), vs = [.str k, v] ∧ KdS k ∧
  ((∃ z : Str, v = .str z ∧ z.length ≤ 400 ∧ (z = "-" → ∀ H', Same H H' → Q .non H') ∧ (z ≠ "-" → ∀ x, RC k z x → ∀ v' H', Same H H' → Rp K H' v' x → Q v' H') ∧ (z ≠ "-" → (∀ x, ¬ RC k z x) → RowE C H E)) ∨ (∃ g, tgIs K H v g ∧ g ≠ .str ∧ RowE C H E))
theorem ok_read_cell (T : Txt K mg t) : FnOk P w K mg base (CXe P w) 6 t.f_read_cell t.d_read_cell ["kind", "text"] (sp_readcell K t.c_NoTable) := by
  have G_ini_NoTable := oi_NoTable (P := P) (w := w) (base := base) T
  have GH_ini_NoTable := oiH_NoTable (P := P) (w := w) (base := base) T
  have G_read_thing := ok_read_thing (P := P) (w := w) (base := base) T
  have G_is_cell := ok_is_cell (P := P) (w := w) (base := base) T
  refine T.F_read_cell.toD.okS sc_read_cell (fun vs H Q E h => ?_) (fun cdv A outer s H vs Q E hr h => ?_)
  · obtain ⟨k, v, rfl, _⟩ := h
    rfl
  obtain ⟨k, v, rfl, hk, h⟩ := h
  refine ⟨_, (pss_cons (ps_if (pt_not (pt_val (pe_isi isi_str rfl rfl T.z_isinstance T.z_str bt_str (pv 1)))) (pss_one (ps_raiseX rfl rfl T.o_NoTable G_ini_NoTable T.bi_NoTable (hr.mono (by decide)) T.m_NoTable rfl raisesXS (pa_cons pe_non pa_nil))) pss_nil)
  (pss_cons (ps_if (pt_cmpR op_eq (pv 1) (pe_glob (v := .str "-") rfl T.g_NOTHING ⟨_, rfl⟩) (nomark _)) (pss_one (ps_ret pe_non)) pss_nil)
  (pss_cons (ps_tryN (i := 2) (T1 := t.c_NoNumber) (T2 := t.c_NoDay) G_read_thing (hr.mono (by decide)) rfl T.m_read_thing T.k_read_thing T.b_read_thing .nil (fun _ h => passAtS h rfl rfl) rfl rfl (pa_cons (pv 0) (pa_cons (pv 1) pa_nil)) sc_read_cell.nd rfl (Or.inl rfl) rfl rfl T.m_NoNumber T.m_NoDay rfl rfl T.o_NoTable GH_ini_NoTable T.bi_NoTable (hr.mono (by decide)) rfl T.m_NoTable raisesM)
  (pss_cons (ps_if (pt_not (pt_val (pe_call G_is_cell (hr.mono (by decide)) rfl T.m_is_cell T.k_is_cell T.b_is_cell .nil pass0 (pa_cons (pv 0) (pa_cons (pv 2) pa_nil))))) (pss_one (ps_raiseX rfl rfl T.o_NoTable G_ini_NoTable T.bi_NoTable (hr.mono (by decide)) T.m_NoTable rfl raisesXS (pa_cons pe_non pa_nil))) pss_nil)
  (pss_one (ps_ret (pv 2))))))), z_go (σ := [some _, some _, none]) rfl ?_⟩
  walk_at "run"
  have raise : ∀ (H2 : Hp), Same H H2 → RowE t.c_NoTable H E → ∀ dx, H2 dx = none → E (.ref t.c_NoTable) (some dx) (upd H2 dx (.xd [("row", .non)])) := fun H2 s2 r dx hdx => r dx _ (s2.trans (Same.new hdx _)) upd_same
  rcases h with ⟨z, rfl, hz, hnon, hgo, hno⟩ | ⟨g, hg, ng, hE⟩
  rotate_left
  · refine ⟨_, g, rfl, hg, ?_⟩
    have e : g.isStr = false := by cases g <;> first | rfl | exact absurd rfl ng
    rw [e]
    walk_at "run"
    exact ⟨.non, rfl, fun dx hdx => raise H (Same.refl _) hE dx hdx⟩
  refine ⟨_, .str, rfl, True.intro, ?_⟩
  rw [show Tg.str.isStr = true from rfl]
  walk_at "run"
  refine z_iteD (fun h => ?_) (fun h => ?_)
  · walk_at "run"
    exact hnon h _ (Same.refl _)
  have hno := hno h
  have hgo := hgo h
  walk_at "run"
  refine z_tryN ?_
  walk_at "run"
  refine ⟨k, z, rfl, hk, hz, fun ek => ?_, fun ek => ?_, fun ek => ?_⟩
  · subst ek
    refine ⟨fun a b d p H1 s1 hp => ?_, fun nd H1 s1 => ⟨rfl, ⟨_, rfl, T.ea_NoNumber⟩, raise H1 s1 (hno fun x r => by cases r with | num d _ _ => exact nd _ _ d)⟩⟩
    simp only [List.set_cons_succ, List.set_cons_zero]
    obtain ⟨hb, hg⟩ := due_low d
    walk_at "run"
    refine ⟨_, _, .tup [.int a, .int b], rfl, ⟨p, _, rfl, hp, rfl, rfl, True.intro⟩, fun H2 s2 => ?_⟩
    rw [show toldC "number" (.tup [.int a, .int b]) = toldN (.tup [.int a, .int b]) from rfl, toldN_pair hb hg]
    walk_at "run"
    refine z_ite2 (fun hc => ?_) (fun hc => ?_)
    · rw [Bool.and_eq_true, decide_eq_true_eq, decide_eq_true_eq] at hc
      walk_at "run"
      exact hgo _ (.num d hc.1 hc.2) _ _ (s1.trans s2) ⟨p, _, rfl, s2.tup hp, rfl, rfl, True.intro⟩
    · walk_at "run"
      refine ⟨.non, rfl, raise _ (s1.trans s2) (hno fun x r => ?_)⟩
      cases r with
      | num d' h1 h2 =>
        obtain ⟨rfl, rfl⟩ := d.uniq d'
        rw [decide_eq_true h1, decide_eq_true h2] at hc
        cases hc
  · subst ek
    refine ⟨fun y m e d H1 s1 => ?_, fun nd H1 s1 => ⟨rfl, ⟨_, rfl, T.ea_NoDay⟩, raise H1 s1 (hno fun x r => by cases r with | day d _ _ => exact nd _ _ _ d)⟩⟩
    simp only [List.set_cons_succ, List.set_cons_zero]
    walk_at "run"
    refine ⟨_, _, .int (My.dayOf y m e), rfl, rfl, fun H2 s2 => ?_⟩
    have ey := years d.1
    rw [show toldC "day" (.int (My.dayOf y m e)) = (decide (364877 ≤ My.dayOf y m e) && decide (My.dayOf y m e ≤ 3286816)) from rfl, ← ey]
    walk_at "run"
    refine z_ite2 (fun hc => ?_) (fun hc => ?_)
    · rw [Bool.and_eq_true, decide_eq_true_eq, decide_eq_true_eq] at hc
      walk_at "run"
      exact hgo _ (.day d hc.1 hc.2) _ _ (s1.trans s2) rfl
    · walk_at "run"
      refine ⟨.non, rfl, raise _ (s1.trans s2) (hno fun x r => ?_)⟩
      cases r with
      | day d' h1 h2 =>
        obtain ⟨rfl, rfl, rfl⟩ := d.uniq d'
        rw [decide_eq_true h1, decide_eq_true h2] at hc
        cases hc
  · subst ek
    simp only [List.set_cons_succ, List.set_cons_zero]
    walk_at "run"
    refine ⟨_, _, .str z, rfl, ⟨rfl, by omega⟩, fun H2 s2 => ?_⟩
    rw [show toldC "word" (.str z) = wordS z from rfl]
    walk_at "run"
    refine z_ite2 (fun hc => ?_) (fun hc => ?_)
    · walk_at "run"
      exact hgo _ (.word hc) _ _ s2 ⟨rfl, by omega⟩
    · walk_at "run"
      refine ⟨.non, rfl, raise _ s2 (hno fun x r => ?_)⟩
      cases r with
      | word h' => rw [h'] at hc; cases hc
noncomputable def ltr (d1 x : Int) : Nat := 97 + (x % (if d1 = 0 then 26 else 2)).toNat
noncomputable def wrd (d0 d1 : Int) (ds : List Int) : Str := PySem.Txt.join "" (((List.range (1 + d0).toNat).map fun i => ltr d1 (ds.getD i 0)).map fun c => (⟨#[c]⟩ : Str))
theorem let_at {d : Int} (h0 : 0 ≤ d) (h1 : d < 26) : atI ("abcdefghijklmnopqrstuvwxyz" : Str).cps.toList d = some (97 + d.toNat) := by
  have e : ("abcdefghijklmnopqrstuvwxyz" : Str).cps.toList = (List.range 26).map (97 + ·) := by decide
  obtain ⟨k, rfl⟩ := Int.eq_ofNat_of_zero_le h0
  rw [e, Int.toNat_natCast]
  exact atI_nat (map_at (by rw [List.getElem?_range (by omega)]))
theorem strs_fun {xs : List V} {n : Nat} {f : Nat → Nat} (hl : xs.length = n) (h : ∀ (i : Nat) (v : V), xs[i]? = some v → v = V.str ⟨#[f i]⟩) : xs = (((List.range n).map f).map fun c => (⟨#[c]⟩ : Str)).map V.str := by
  apply List.ext_getElem?
  intro i
  by_cases hi : i < n
  · obtain ⟨v, hv⟩ : ∃ v, xs[i]? = some v := ⟨_, List.getElem?_eq_getElem (by omega)⟩
    rw [hv, h i v hv]
    simp only [List.getElem?_map, List.getElem?_range hi, Option.map_some]
  · rw [List.getElem?_eq_none (by omega), List.getElem?_eq_none (by simp; omega)]
noncomputable def sp_word10 (K : PySem.W.Frag) : Sp := fun vs H Q _ => ∃ (l : Addr) (d0 d1 : Int) (ds : List Int), vs = [.ref l] ∧ SqL K H l ((d0 :: d1 :: ds).map V.int) ∧ (0 ≤ d0 ∧ d0 < 8) ∧ (0 ≤ d1 ∧ d1 < 2) ∧ ds.length = 8 ∧ (wordS (wrd d0 d1 ds) = true → ∀ (H' : Hp), Same H H' → Q (.str (wrd d0 d1 ds)) H')
theorem ok_l_word (T : Txt K mg t) : FnOk P w K mg base CX0 1 t.f_l_word t.d_l_word ["_law_d"] (sp_word10 K) := by
  refine T.F_l_word.ok sc_l_word (fun vs H Q E h => ?_) (fun cdv A outer s H vs Q E hr h => ?_)
  · obtain ⟨l, d0, d1, ds, rfl, _⟩ := h
    rfl
  obtain ⟨l, d0, d1, ds, rfl, hL, b0, b1, hd, q⟩ := h
  refine ⟨_, (pss_cons (ps_set (i := 1) sc_l_word.nd rfl (Or.inr rfl) pe_str)
  (pss_one (ps_ret (pe_bm PySem.F.plainAttrs_str PySem.F.slot_str_join PySem.F.type_str_join mt_join pe_str (pa_cons (pe_lc rfl (compOk_of (fr := [("_law_d", 0), ("_law_some", 1)]) (osc := defScope s_l_word) (N := ["_law_d", "_law_some"]) rfl rfl (by decide +kernel)) (pi_range1 rfl T.z_range (pa_cons (pe_op op_add pe_int (pe_ix ix_list (pv 0) pe_int (fun _ _ => rfl))) pa_nil)) (fun _ _ _ _ _ => (pe_ix (r := rIxS) ix_str (pv 2) (pe_op op_mod (pe_ix (r := rIxL K) ix_list (pv 1) (pe_op op_add pe_int (pv 0)) (fun _ _ => rfl)) (pe_ix (r := rIxL K) ix_list (pe_lst (pa_cons pe_int (pa_cons pe_int pa_nil))) (pe_ix (r := rIxL K) ix_list (pv 1) pe_int (fun _ _ => rfl)) (fun _ _ => rfl))) (fun _ _ => rfl)))) pa_nil))))), z_go (σ := [some _, none]) rfl ?_⟩
  walk_at "run"
  refine z_ixL hL (show atI ((d0 :: d1 :: ds).map V.int) 0 = some (.int d0) from atI_nat (j := 0) rfl) ?_
  walk_at "run"
  refine z_r1N (by omega) (by omega) ?_
  refine lcn_rangeP (fun i v => v = .str ⟨#[ltr d1 (ds.getD i 0)]⟩) (le_size (by omega)) ?_ ?_
  · intro i H2 S hi s2 k
    have hL2 := s2.seq hL
    walk_at "run"
    have hi' : i < ds.length := by omega
    have hat : atI ((d0 :: d1 :: ds).map V.int) (2 + (0 + (i : Int))) = some (.int (ds.getD i 0)) := by
      rw [show (2 + (0 + (i : Int))) = ((i + 2 : Nat) : Int) by omega]
      exact atI_nat (by rw [List.getElem?_map, List.getElem?_cons_succ, List.getElem?_cons_succ, List.getElem?_eq_getElem hi', List.getD_eq_getElem?_getD, List.getElem?_eq_getElem hi']; rfl)
    refine z_ixL hL2 hat ?_
    walk_at "run"
    rename_i l3 H3 hp3 s3 hl3
    refine z_ixL (s3.seq hL2) (show atI ((d0 :: d1 :: ds).map V.int) 1 = some (.int d1) from atI_nat (j := 1) rfl) ?_
    have hm : atI [V.int 26, .int 2] d1 = some (.int (if d1 = 0 then 26 else 2)) := by
      rcases (by omega : d1 = 0 ∨ d1 = 1) with e | e <;> subst e <;> rfl
    have m0 : (0 : Int) < (if d1 = 0 then 26 else 2) ∧ (if d1 = 0 then 26 else 2 : Int) ≤ 26 := by split <;> decide
    refine z_ixL (SqL.of hl3) hm ?_
    generalize hmm : (if d1 = 0 then 26 else 2 : Int) = m at *
    walk_at "run"
    have e0 := Int.emod_nonneg (ds.getD i 0) (show m ≠ 0 by omega)
    have e1 := Int.emod_lt_of_pos (ds.getD i 0) m0.1
    refine z_ixS (by decide) (let_at e0 (by omega)) ?_
    exact k _ _ s3 (by unfold ltr; rw [hmm])
  · intro acc xs H2 hacc hlen hxs s2 ha
    have hx := strs_fun (f := fun i => ltr d1 (ds.getD i 0)) hlen hxs
    rw [hx] at ha
    walk_at "run"
    have hlc : ((List.range (1 + d0).toNat).map fun i => ltr d1 (ds.getD i 0)).length = (1 + d0).toNat := by simp
    refine z_join (SqL.of ha) (joinOk1 _ (by omega)) ?_
    have hj := join_one ((List.range (1 + d0).toNat).map fun i => ltr d1 (ds.getD i 0))
    refine q (wordS_of ?_ ?_ ?_) _ s2
    · rw [← My.cs_len]; unfold wrd; rw [hj]; omega
    · rw [← My.cs_len]; unfold wrd; rw [hj]; omega
    · unfold wrd
      rw [hj, List.all_map, List.all_eq_true]
      intro i _
      show letB (ltr d1 (ds.getD i 0)) = true
      unfold letB ltr
      have m0 : (0 : Int) < (if d1 = 0 then 26 else 2) ∧ (if d1 = 0 then 26 else 2 : Int) ≤ 26 := by split <;> decide
      generalize (if d1 = 0 then 26 else 2 : Int) = m at *
      have e0 := Int.emod_nonneg (ds.getD i 0) (show m ≠ 0 by omega)
      have e1 := Int.emod_lt_of_pos (ds.getD i 0) m0.1
      exact decide_eq_true (by omega)
theorem str4 {y : Int} (h0 : 1000 ≤ y) (h : y < 10000) : My.cs (Str.ofString (toString y)) = My.pad4 y.toNat := by
  obtain ⟨n, rfl⟩ := Int.eq_ofNat_of_zero_le (show 0 ≤ y by omega)
  have hn : n < 10000 := by omega
  have f := My.fill4 hn
  have e : My.cs (Str.ofString (toString ((n : Nat) : Int))) = My.dg n := by
    rw [My.cs_str]; rfl
  rw [e, Int.toNat_natCast]
  cases hk : 4 - (My.dg n).length with
  | zero => rw [hk] at f; exact f
  | succ k =>
    rw [hk, List.replicate_succ, List.cons_append] at f
    have := List.head_eq_of_cons_eq (show 48 :: _ = (48 + n / 1000) :: _ from f)
    omega
noncomputable def sp_day10 (K : PySem.W.Frag) : Sp := fun vs H Q _ => ∃ (l : Addr) (d0 d1 d2 : Int), vs = [.ref l] ∧ SqL K H l ([d0, d1, d2].map V.int) ∧ (0 ≤ d0 ∧ d0 < 8000) ∧ (0 ≤ d1 ∧ d1 < 12) ∧ ∀ (p : Addr) (H' : Hp) (z : Str), Same H H' → H' p = some (.tup [.int (My.dayOf (1000 + d0) (d1 + 1) (d2 % My.mlen (1000 + d0) (d1 + 1) + 1)), .str z]) →
  My.Valid (1000 + d0) (d1 + 1) (d2 % My.mlen (1000 + d0) (d1 + 1) + 1) → My.cs z = My.dtx (1000 + d0).toNat (d1 + 1).toNat (d2 % My.mlen (1000 + d0) (d1 + 1) + 1).toNat → Q (.ref p) H'
theorem ok_l_day (T : Txt K mg t) : FnOk P w K mg base CX0 2 t.f_l_day t.d_l_day ["_law_d"] (sp_day10 K) := by
  have G_l_lengths := ok_l_lengths (P := P) (w := w) (base := base) T
  refine T.F_l_day.ok sc_l_day (fun vs H Q E h => ?_) (fun cdv A outer s H vs Q E hr h => ?_)
  · obtain ⟨l, d0, d1, d2, rfl, _⟩ := h
    rfl
  obtain ⟨l, d0, d1, d2, rfl, hL, b0, b1, q⟩ := h
  have a0 : atI ([d0, d1, d2].map V.int) 0 = some (.int d0) := rfl
  have a1 : atI ([d0, d1, d2].map V.int) 1 = some (.int d1) := rfl
  have a2 : atI ([d0, d1, d2].map V.int) 2 = some (.int d2) := rfl
  refine ⟨_, (pss_cons (ps_set (i := 1) sc_l_day.nd rfl (Or.inl rfl) (pe_op op_add pe_int (pe_ix ix_list (pv 0) pe_int (fun _ _ => rfl))))
  (pss_cons (ps_set (i := 2) sc_l_day.nd rfl (Or.inl rfl) (pe_call G_l_lengths (hr.mono (by decide)) rfl T.m_l_lengths T.k_l_lengths T.b_l_lengths .nil pass0 (pa_cons (pv 1) pa_nil)))
  (pss_cons (ps_set (i := 3) sc_l_day.nd rfl (Or.inl rfl) (pe_op op_add (pe_op op_sub (pe_op op_add (pe_op op_mulB pe_int (pe_op op_sub (pv 1) pe_int)) (pe_op op_fdivB (pe_op op_sub (pv 1) pe_int) pe_int)) (pe_op op_fdivB (pe_op op_sub (pv 1) pe_int) pe_int)) (pe_op op_fdivB (pe_op op_sub (pv 1) pe_int) pe_int)))
  (pss_cons (ps_set (i := 4) sc_l_day.nd rfl (Or.inl rfl) (pe_op op_mod (pe_ix ix_list (pv 0) pe_int (fun _ _ => rfl)) (pe_ix ix_list (pv 2) (pe_ix ix_list (pv 0) pe_int (fun _ _ => rfl)) (fun _ _ => rfl))))
  (pss_cons (ps_set (i := 5) sc_l_day.nd rfl (Or.inl rfl) (pe_op op_addS (pe_op op_addS (pe_op op_addS (pe_op op_addS (pe_callTy call_str_int rfl T.z_str bt_str (pa_cons (pv 1) pa_nil)) pe_str) (pe_bm PySem.F.plainAttrs_str PySem.F.slot_str_zfill PySem.F.type_str_zfill mt_zfill (pe_callTy call_str_int rfl T.z_str bt_str (pa_cons (pe_op op_add (pe_ix ix_list (pv 0) pe_int (fun _ _ => rfl)) pe_int) pa_nil)) (pa_cons pe_int pa_nil))) pe_str) (pe_bm PySem.F.plainAttrs_str PySem.F.slot_str_zfill PySem.F.type_str_zfill mt_zfill (pe_callTy call_str_int rfl T.z_str bt_str (pa_cons (pe_op op_add (pv 4) pe_int) pa_nil)) (pa_cons pe_int pa_nil))))
  (pss_one (ps_ret (pe_tup (pa_cons (pe_op op_add (pe_op op_add (pv 3) (pe_callB (call_sum rfl) rfl T.z_sum bt_sum (pa_cons (pe_slice sl_list (pv 2) po_none (po_some (pe_ix ix_list (pv 0) pe_int (fun _ _ => rfl)))) pa_nil))) (pv 4)) (pa_cons (pv 5) pa_nil)))))))))), z_go (σ := [some _, none, none, none, none, none]) rfl ?_⟩
  walk_at "run"
  refine z_ixL hL a0 ?_
  walk_at "run"
  refine ⟨_, rfl, fun p H1 s1 hp => ?_⟩
  have hL1 := s1.seq hL
  generalize hy : 1000 + d0 = y at *
  obtain ⟨k, rfl⟩ := Int.eq_ofNat_of_zero_le b1.1
  obtain ⟨at1, sm⟩ := lens_at (y := y) (d := (k : Int)) b1.1 b1.2
  rw [Int.toNat_natCast] at sm
  have lp := My.ml_pos (L := My.leap y) (m := (k : Int) + 1) (by omega) (by omega)
  have lp1 : 28 ≤ My.mlen y ((k : Int) + 1) := lp.1
  have lp2 : My.mlen y ((k : Int) + 1) ≤ 31 := lp.2
  walk_at "run"
  refine z_ixL hL1 a2 ?_
  walk_at "run"
  refine z_ixL hL1 a1 ?_
  refine z_ixL (SqL.of hp) at1 ?_
  walk_at "run"
  have e0 := Int.emod_nonneg d2 (show My.mlen y ((k : Int) + 1) ≠ 0 by omega)
  have e1 := Int.emod_lt_of_pos d2 (show 0 < My.mlen y ((k : Int) + 1) by omega)
  generalize hr2 : d2 % My.mlen y ((k : Int) + 1) = at_ at *
  have c1 := str4 (y := y) (by omega) (by omega)
  have c2 := zf2 (y := (k : Int) + 1) (by omega) (by omega)
  have c3 := zf2 (y := at_ + 1) (by omega) (by omega)
  have n1 : (Str.ofString (toString y)).length = 4 := by rw [← My.cs_len, c1]; rfl
  have n2 : (PySem.Txt.zfill (Str.ofString (toString ((k : Int) + 1))) 2).length = 2 := by rw [← My.cs_len, c2]; rfl
  have n3 : (PySem.Txt.zfill (Str.ofString (toString (at_ + 1))) 2).length = 2 := by rw [← My.cs_len, c3]; rfl
  have n0 : ("-" : Str).length = 1 := rfl
  refine ⟨log_small (by omega) (by omega), ?_⟩
  walk_at "run"
  refine z_ixL hL1 a1 ?_
  walk_at "run"
  refine ⟨log_small (by omega) (by omega), ?_⟩
  walk_at "run"
  refine z_zfill (by decide) ?_
  walk_at "run"
  refine ⟨log_small (by omega) (by omega), ?_⟩
  walk_at "run"
  refine z_zfill (by decide) ?_
  walk_at "run"
  refine z_ixL hL1 a1 ?_
  walk_at "run"
  refine z_slL (SqL.of hp) (fun p2 H2 s2 hp2 => ?_)
  rw [cut_ints] at hp2
  walk_at "run"
  refine ⟨_, _, rfl, SqL.of hp2, ?_⟩
  walk_at "run"
  rename_i p3 H3 n3' s3 e3
  generalize hz : (Str.ofString (toString y) ++ "-" ++ PySem.Txt.zfill (Str.ofString (toString ((k : Int) + 1))) 2 ++ "-" ++ PySem.Txt.zfill (Str.ofString (toString (at_ + 1))) 2) = z at *
  have v : My.Valid y ((k : Int) + 1) (at_ + 1) := ⟨by omega, by omega, by omega, by omega, by omega, by omega⟩
  refine q p3 H3 z (s1.trans (s2.trans s3)) ?_ v ?_
  · rw [e3, sm]
    have e : 365 * (y - 1) + (y - 1) / 4 - (y - 1) / 100 + (y - 1) / 400 + My.bf (My.leap y) ((k : Int) + 1) + at_ = My.dayOf y ((k : Int) + 1) (at_ + 1) := by
      unfold My.dayOf My.ybeg
      omega
    rw [e]
  · rw [← hz, My.cs_app, My.cs_app, My.cs_app, My.cs_app, c1, c2, c3]
    simp only [List.append_assoc]
    rfl
noncomputable def Dr (ds : List Int) : Prop := ds.length = 23 ∧ ∀ (i : Nat) (d x : Int), ds[i]? = some d → ([3, 9, 10, 11400, 1000, 8, 2, 26, 26, 26, 26, 26, 26, 26, 26, 2, 4, 1000000000, 1000000000, 90, 8000, 12, 31] : List Int)[i]? = some x → 0 ≤ d ∧ d < x
noncomputable def kdOf (j : Int) : Str := if j = 0 then "number" else if j = 1 then "word" else "day"
theorem kdOf_ok (j : Int) : KdS (kdOf j) := by
  unfold kdOf
  split
  · exact .inl rfl
  · split
    · exact .inr (.inl rfl)
    · exact .inr (.inr rfl)
theorem Dr.at {ds : List Int} (h : Dr ds) (i : Nat) (x : Int) (hx : ([3, 9, 10, 11400, 1000, 8, 2, 26, 26, 26, 26, 26, 26, 26, 26, 2, 4, 1000000000, 1000000000, 90, 8000, 12, 31] : List Int)[i]? = some x) : ∃ d, ds[i]? = some d ∧ 0 ≤ d ∧ d < x := by
  have hi : i < ds.length := by
    rw [h.1]
    exact (List.getElem?_eq_some_iff.mp hx).1
  have e := List.getElem?_eq_getElem hi
  exact ⟨_, e, h.2 i _ x e hx⟩
theorem Dr.cut {ds : List Int} (h : Dr ds) (a n : Nat) (hn : a + n ≤ 23) : ((ds.drop a).take n).length = n := by
  rw [List.length_take, List.length_drop, h.1]; omega
theorem Dr.cut_at {ds : List Int} {a n i : Nat} {d : Int} (h : ((ds.drop a).take n)[i]? = some d) : ds[a + i]? = some d := by
  rw [List.getElem?_take] at h
  split at h
  · rw [List.getElem?_drop] at h; exact h
  · cases h
theorem cutD (ds : List Int) (a b : Nat) : cutV (ds.map V.int) (some (a : Int)) (some (b : Int)) = ((ds.drop a).take (b - a)).map V.int := by
  rw [cut_nn, List.map_take, List.map_drop]
theorem five_of {l : List Int} (h : l.length = 5) : ∃ a b c d e, l = [a, b, c, d, e] := by
  match l, h with
  | [a, b, c, d, e], _ => exact ⟨a, b, c, d, e, rfl⟩
theorem three_of {l : List Int} (h : l.length = 3) : ∃ a b c, l = [a, b, c] := by
  match l, h with
  | [a, b, c], _ => exact ⟨a, b, c, rfl⟩
theorem ten_of' {l : List Int} (h : l.length = 10) : ∃ a b r, l = a :: b :: r ∧ r.length = 8 := by
  match l, h with
  | a :: b :: r, h => exact ⟨a, b, r, rfl, by simpa using h⟩
theorem absI_lt {x n : Int} (h1 : -n < x) (h2 : x < n) : absI x < n := by unfold absI; split <;> omega
theorem log18 {n : Int} (h1 : -1000000000000000000 < n) (h2 : n < 1000000000000000000) : n.natAbs.log2 < 1920 := My.log60 (by
  have e : (10 : Nat) ^ 60 = 1000000000000000000000000000000000000000000000000000000000000 := by decide
  rw [e]; omega)
theorem str18 {n : Int} (h1 : -1000000000000000000 < n) (h2 : n < 1000000000000000000) : (Str.ofString (toString n)).length ≤ 19 := by
  rw [← My.cs_len, My.cs_str]
  unfold My.txt
  have := My.dg_len (n := n.natAbs) (k := 18) (by decide) (by
    have e : (10 : Nat) ^ 18 = 1000000000000000000 := by decide
    rw [e]; omega)
  split
  · rw [List.length_cons]; omega
  · omega
noncomputable def sp_good (K : PySem.W.Frag) : Sp := fun vs H Q _ => ∃ (l : Addr) (ds : List Int), vs = [.ref l] ∧ SqL K H l (ds.map V.int) ∧ Dr ds ∧ ∀ (p : Addr) (H' : Hp) (v : V) (x : Pv) (z : Str), Same H H' → SqT K H' p [v, .str z] → Rp K H' v x → GC (kdOf (ds.getD 0 0)) x z → z.length ≤ 60 → Q (.ref p) H'
theorem ok_l_good (T : Txt K mg t) : FnOk P w K mg base CX0 3 t.f_l_good t.d_l_good ["_law_d"] (sp_good K) := by
  have G_l_number := ok_l_number (P := P) (w := w) (base := base) T
  have G_l_word := ok_l_word (P := P) (w := w) (base := base) T
  have G_l_day := ok_l_day (P := P) (w := w) (base := base) T
  refine T.F_l_good.ok sc_l_good (fun vs H Q E h => ?_) (fun cdv A outer s H vs Q E hr h => ?_)
  · obtain ⟨l, ds, rfl, _⟩ := h
    rfl
  obtain ⟨l, ds, rfl, hL, hD, q⟩ := h
  obtain ⟨d0, e0, b0⟩ := hD.at 0 3 rfl
  obtain ⟨d1, e1, b1⟩ := hD.at 1 9 rfl
  have a0 : atI (ds.map V.int) 0 = some (.int d0) := atI_nat (j := 0) (map_at e0)
  have a1 : atI (ds.map V.int) 1 = some (.int d1) := atI_nat (j := 1) (map_at e1)
  have k0 : ds.getD 0 0 = d0 := by rw [List.getD_eq_getElem?_getD, e0]; rfl
  rw [k0] at q
  refine ⟨_, (pss_cons (ps_if (pt_cmpR op_eq (pe_ix ix_list (pv 0) pe_int (fun _ _ => rfl)) pe_int (nomark _)) (pss_one (ps_ret (pe_tup (pa_cons pe_non (pa_cons pe_str pa_nil))))) pss_nil)
  (pss_cons (ps_if (pt_cmpR op_eq (pe_ix ix_list (pv 0) pe_int (fun _ _ => rfl)) pe_int (nomark _)) (pss_cons (ps_asg (pe_call G_l_number (hr.mono (by decide)) rfl T.m_l_number T.k_l_number T.b_l_number .nil pass0 (pa_cons (pe_slice sl_list (pv 0) (po_some pe_int) (po_some pe_int)) pa_nil)) (pg_tup rfl (pgs_cons (pg_name (i := 1) sc_l_good.nd rfl (Or.inl rfl)) (pgs_cons (pg_name (i := 2) sc_l_good.nd rfl (Or.inl rfl)) pgs_nil))))
  (pss_one (ps_ret (pe_tup (pa_cons (pe_tup (pa_cons (pv 1) (pa_cons (pv 2) pa_nil))) (pa_cons (pe_op op_addS (pe_callTy call_str_int rfl T.z_str bt_str (pa_cons (pv 1) pa_nil)) (pe_ix ix_list (pe_lst (pa_cons pe_str (pa_cons (pe_op op_addS pe_str (pe_callTy call_str_int rfl T.z_str bt_str (pa_cons (pv 2) pa_nil))) pa_nil))) (pe_callTy call_int1 rfl T.z_int bt_int (pa_cons (pe_cmpR op_gt (pv 2) pe_int (nomark _)) pa_nil)) (fun _ _ => rfl))) pa_nil)))))) pss_nil)
  (pss_cons (ps_if (pt_cmpR op_eq (pe_ix ix_list (pv 0) pe_int (fun _ _ => rfl)) pe_int (nomark _)) (pss_one (ps_ret (pe_tup (pa_cons (pe_call G_l_word (hr.mono (by decide)) rfl T.m_l_word T.k_l_word T.b_l_word .nil pass0 (pa_cons (pe_slice sl_list (pv 0) (po_some pe_int) (po_some pe_int)) pa_nil)) (pa_cons (pe_call G_l_word (hr.mono (by decide)) rfl T.m_l_word T.k_l_word T.b_l_word .nil pass0 (pa_cons (pe_slice sl_list (pv 0) (po_some pe_int) (po_some pe_int)) pa_nil)) pa_nil))))) pss_nil)
  (pss_one (ps_ret (pe_call G_l_day (hr.mono (by decide)) rfl T.m_l_day T.k_l_day T.b_l_day .nil pass0 (pa_cons (pe_slice sl_list (pv 0) (po_some pe_int) (po_some pe_int)) pa_nil))))))), z_go (σ := [some _, none, none]) rfl ?_⟩
  walk_at "run"
  refine z_ixL hL a1 ?_
  walk_at "run"
  refine z_iteD (fun h1 => ?_) (fun h1 => ?_)
  · walk_at "run"
    rename_i p H1 n1 s1 e1'
    exact q p H1 .non .non "-" s1 (SqT.of e1') rfl .non (by decide)
  walk_at "run"
  refine z_ixL hL a0 ?_
  walk_at "run"
  refine z_iteD (fun h2 => ?_) (fun h2 => ?_)
  · have ek : kdOf d0 = "number" := if_pos h2
    rw [ek] at q
    walk_at "run"
    refine z_slL hL (fun p2 H2 s2 hp2 => ?_)
    rw [show (15 : Int) = ((15 : Nat) : Int) from rfl, show (20 : Int) = ((20 : Nat) : Int) from rfl, cutD] at hp2
    obtain ⟨x0, x1, x2, x3, x4, e5⟩ := five_of (hD.cut 15 5 (by decide))
    have y0 := hD.2 15 x0 2 (Dr.cut_at (a := 15) (n := 5) (i := 0) (by rw [e5]; rfl)) rfl
    have y1 := hD.2 16 x1 4 (Dr.cut_at (a := 15) (n := 5) (i := 1) (by rw [e5]; rfl)) rfl
    have y2 := hD.2 17 x2 1000000000 (Dr.cut_at (a := 15) (n := 5) (i := 2) (by rw [e5]; rfl)) rfl
    have y3 := hD.2 18 x3 1000000000 (Dr.cut_at (a := 15) (n := 5) (i := 3) (by rw [e5]; rfl)) rfl
    have y4 := hD.2 19 x4 90 (Dr.cut_at (a := 15) (n := 5) (i := 4) (by rw [e5]; rfl)) rfl
    have hp2 : H2 p2 = some (.lst ([x0, x1, x2, x3, x4].map V.int)) := by rw [hp2]; congr 2; rw [← e5]
    walk_at "run"
    refine ⟨p2, x0, x1, x2, x3, x4, rfl, SqL.of hp2, y0, y1, y2, y3, y4, fun p3 H3 x y s3 hp3 g1 g2 g3 g4 g5 => ?_⟩
    have lx := log18 (n := x) (by omega) (by omega)
    have ly := log18 (n := y) (by omega) (by omega)
    have sx := str18 (n := x) (by omega) (by omega)
    have sy := str18 (n := y) (by omega) (by omega)
    walk_at "run"
    rename_i pt Ht nt st et pl Hl nl sl el
    have l0 : ("" : Str).length = 0 := rfl
    have l1 : ("/" : Str).length = 1 := rfl
    by_cases hy : 1 < y
    · rw [decide_eq_true hy, if_pos rfl]
      refine z_ixL (SqL.of el) (atI_nat (j := 1) rfl) ?_
      refine z_addS (le_size (by rw [Str.length_append]; omega)) ?_
      walk_at "run"
      rename_i pr Hr nr sr er
      refine q pr Hr _ (.tup [.int x, .int y]) _ (s2.trans (s3.trans (st.trans (sl.trans sr)))) (SqT.of er) ⟨pt, _, rfl, sr.tup (sl.tup (SqT.of et)), rfl, rfl, True.intro⟩ (.num g1 g2 g5 (absI_lt g3 g4) ?_) ?_
      · rw [My.cs_app, My.cs_app, My.cs_str, My.cs_str]
        unfold My.shw
        rw [if_neg (by omega)]
        rfl
      · rw [Str.length_append, Str.length_append]; omega
    · rw [decide_eq_false hy, if_neg Bool.false_ne_true]
      refine z_ixL (SqL.of el) (atI_nat (j := 0) rfl) ?_
      refine z_addS (le_size (by omega)) ?_
      walk_at "run"
      rename_i pr Hr nr sr er
      refine q pr Hr _ (.tup [.int x, .int y]) _ (s2.trans (s3.trans (st.trans (sl.trans sr)))) (SqT.of er) ⟨pt, _, rfl, sr.tup (sl.tup (SqT.of et)), rfl, rfl, True.intro⟩ (.num g1 g2 g5 (absI_lt g3 g4) ?_) ?_
      · rw [My.cs_app, My.cs_str]
        unfold My.shw
        rw [if_pos (by omega)]
        exact List.append_nil _
      · rw [Str.length_append]; omega
  walk_at "run"
  refine z_ixL hL a0 ?_
  walk_at "run"
  refine z_iteD (fun h3 => ?_) (fun h3 => ?_)
  · have ek : kdOf d0 = "word" := by unfold kdOf; rw [if_neg h2, if_pos h3]
    rw [ek] at q
    obtain ⟨x0, x1, r, e10, hr8⟩ := ten_of' (hD.cut 5 10 (by decide))
    have y0 := hD.2 5 x0 8 (Dr.cut_at (a := 5) (n := 10) (i := 0) (by rw [e10]; rfl)) rfl
    have y1 := hD.2 6 x1 2 (Dr.cut_at (a := 5) (n := 10) (i := 1) (by rw [e10]; rfl)) rfl
    walk_at "run"
    refine z_slL hL (fun p2 H2 s2 hp2 => ?_)
    rw [show (5 : Int) = ((5 : Nat) : Int) from rfl, show (15 : Int) = ((15 : Nat) : Int) from rfl, cutD] at hp2
    have hp2 : H2 p2 = some (.lst ((x0 :: x1 :: r).map V.int)) := by rw [hp2]; congr 2; rw [← e10]
    walk_at "run"
    refine ⟨p2, x0, x1, r, rfl, SqL.of hp2, y0, y1, hr8, fun hw H3 s3 => ?_⟩
    walk_at "run"
    refine z_slL (s3.seq (s2.seq hL)) (fun p4 H4 s4 hp4 => ?_)
    rw [show (5 : Int) = ((5 : Nat) : Int) from rfl, show (15 : Int) = ((15 : Nat) : Int) from rfl, cutD] at hp4
    have hp4 : H4 p4 = some (.lst ((x0 :: x1 :: r).map V.int)) := by rw [hp4]; congr 2; rw [← e10]
    walk_at "run"
    refine ⟨p4, x0, x1, r, rfl, SqL.of hp4, y0, y1, hr8, fun _ H5 s5 => ?_⟩
    walk_at "run"
    rename_i p6 H6 n6 s6 e6
    have hwl := (wordS_is hw).2.1
    exact q p6 H6 _ (.str (wrd x0 x1 r)) _ (s2.trans (s3.trans (s4.trans (s5.trans s6)))) (SqT.of e6) ⟨rfl, by omega⟩ (.word hw) (by omega)
  · have ek : kdOf d0 = "day" := by unfold kdOf; rw [if_neg h2, if_neg h3]
    rw [ek] at q
    obtain ⟨x0, x1, x2, e3⟩ := three_of (hD.cut 20 3 (by decide))
    have y0 := hD.2 20 x0 8000 (Dr.cut_at (a := 20) (n := 3) (i := 0) (by rw [e3]; rfl)) rfl
    have y1 := hD.2 21 x1 12 (Dr.cut_at (a := 20) (n := 3) (i := 1) (by rw [e3]; rfl)) rfl
    walk_at "run"
    refine z_slL hL (fun p2 H2 s2 hp2 => ?_)
    rw [show (20 : Int) = ((20 : Nat) : Int) from rfl, show (23 : Int) = ((23 : Nat) : Int) from rfl, cutD] at hp2
    have hp2 : H2 p2 = some (.lst ([x0, x1, x2].map V.int)) := by rw [hp2]; congr 2; rw [← e3]
    walk_at "run"
    refine ⟨p2, x0, x1, x2, rfl, SqL.of hp2, y0, y1, fun p3 H3 z s3 hp3 hv hz => ?_⟩
    refine q p3 H3 _ (.int _) z (s2.trans s3) (SqT.of hp3) rfl (.day hv (by omega) (by omega) hz) ?_
    rw [← My.cs_len, hz, My.dtx_len]
    decide
noncomputable def sp_figs10 : Sp := fun vs H Q _ => ∃ z : Str, vs = [.str z] ∧ z.length ≤ 900 ∧ (plB (My.cs z) = true → Q (.int ((NumText.digitsVal (My.cs z) : Nat) : Int)) H) ∧ (plB (My.cs z) = false → Q (.int (-1)) H)
theorem ok_l_figures (T : Txt K mg t) : FnOk P w K mg base CX0 1 t.f_l_figures t.d_l_figures ["_law_text"] (sp_figs10) := by
  refine T.F_l_figures.ok sc_l_figures (fun vs H Q E h => ?_) (fun cdv A outer s H vs Q E hr h => ?_)
  · obtain ⟨z, rfl, _⟩ := h
    rfl
  obtain ⟨z, rfl, hz, qt, qf⟩ := h
  have hlen := My.cs_len z
  refine ⟨_, (pss_cons (ps_if (PW.pt (pw_or (pt_cmpR op_eq (pv 0) pe_str (nomark _)) (pw_or (pt_cmpR op_gt (pe_callB call_len_str rfl T.z_len PySem.boot_len (pa_cons (pv 0) pa_nil)) pe_int (nomark _)) (pw_or1 (PW.pt (pw_and (pt_cmpR op_gt (pe_callB call_len_str rfl T.z_len PySem.boot_len (pa_cons (pv 0) pa_nil)) pe_int (nomark _)) (pw_and1 (pt_cmpR op_eq (pe_ix ix_str (pv 0) pe_int (fun _ _ => rfl)) pe_str (nomark _))))))))) (pss_one (ps_ret (pe_un un_neg pe_int))) pss_nil)
  (pss_cons (ps_for PassesOwn.never rfl (pi_str (pv 0)) (pg_name (i := 1) sc_l_figures.nd rfl (Or.inl rfl)) (pss_one (ps_if (pt_cmpR op_notIn_str (pv 1) pe_str rfl) (pss_one (ps_ret (pe_un un_neg pe_int))) pss_nil)))
  (pss_one (ps_ret (pe_callTy call_intT rfl T.z_int bt_int (pa_cons (pv 0) pa_nil)))))), z_go (σ := [some _, none]) rfl ?_⟩
  walk_at "run"
  refine z_iteD (fun h => ?_) (fun h => ?_)
  · have e : plB (My.cs z) = false := by rw [(empty_iff z).mp h]; rfl
    walk_at "run"
    exact qf e
  have ne : My.cs z ≠ [] := fun e => h ((empty_iff z).mpr e)
  walk_at "run"
  refine z_iteD (fun h2 => ?_) (fun h2 => ?_)
  · have e : plB (My.cs z) = false := by
      unfold plB
      rw [decide_eq_true (show 60 < (My.cs z).length by omega)]
      simp
    walk_at "run"
    exact qf e
  walk_at "run"
  obtain ⟨c0, r0, hc0⟩ : ∃ c0 r0, My.cs z = c0 :: r0 := by
    cases q0 : My.cs z with
    | nil => exact absurd q0 ne
    | cons c0 r0 => exact ⟨c0, r0, rfl⟩
  refine z_iteD (fun h3 => ?_) (fun h3 => ?_)
  · walk_at "run"
    have hat : atI z.cps.toList 0 = some c0 := atI_first (by rw [show z.cps.toList = c0 :: r0 from hc0]; rfl)
    refine z_ixS (le_size (by omega)) hat ?_
    walk_at "run"
    refine z_iteD (fun h4 => ?_) (fun h4 => ?_)
    · have e48 : c0 = 48 := (one48 c0).mp h4
      walk_at "run"
      refine qf ?_
      cases q0 : plB (My.cs z) with
      | false => rfl
      | true =>
        refine absurd ⟨by rw [hc0, e48]; rfl, fun g => ?_⟩ (plB_iff.mp q0).2.2.1
        have := congrArg List.length g
        rw [hlen] at this
        have : z.length = 1 := this
        omega
    · have good : ¬ ((My.cs z).head? = some 48 ∧ My.cs z ≠ [48]) := fun g => h4 ((one48 c0).mpr (by
        have := g.1
        rw [hc0] at this
        exact Option.some.inj this))
      walk_at "run"
      refine f_str (fun i σ HD => (∃ u, σ = [some (.str z), u]) ∧ HD = H ∧ ∀ j y, j < i → (My.cs z)[j]? = some y → decide (48 ≤ y ∧ y ≤ 57) = true) ⟨⟨_, rfl⟩, rfl, fun j y hj => absurd hj (Nat.not_lt_zero _)⟩ ?_ ?_
      · rintro i c σ HD hc ⟨⟨u, rfl⟩, rfl, hup⟩
        walk_at "run"
        rw [in_dig']
        walk_at "run"
        refine z_iteD (fun hd => ?_) (fun hd => ?_)
        · walk_at "run"
          exact ⟨⟨_, rfl⟩, rfl, all_upto hc hup (decide_eq_true hd)⟩
        · walk_at "run"
          refine qf ?_
          cases q0 : plB (My.cs z) with
          | false => rfl
          | true => exact absurd ((plB_iff.mp q0).2.2.2 c (List.mem_of_getElem? hc)) hd
      · rintro σ HD ⟨⟨u, rfl⟩, rfl, hup⟩
        have e : plB (My.cs z) = true := plB_iff.mpr ⟨ne, by omega, good, fun x hx => by
          obtain ⟨j, hj, ej⟩ := List.getElem_of_mem hx
          have hjs : j < z.cps.size := by
            have : (My.cs z).length = z.cps.size := by simp
            omega
          exact of_decide_eq_true (hup j x hjs (by rw [List.getElem?_eq_getElem hj, ej]))⟩
        have pb := plB_iff.mp e
        obtain ⟨vb1, vb2⟩ := My.val_dig pb.2.2.2
        have ib := My.int_of (z := z) (by rw [vb1]; exact pb.figs)
        rw [vb2] at ib
        walk_at "run"
        refine z_intT ib.1 (by omega) ?_
        exact qt e
  · have good : ¬ ((My.cs z).head? = some 48 ∧ My.cs z ≠ [48]) := fun g => by
      have hl1 : (My.cs z).length ≤ 1 := by omega
      rw [hc0, List.length_cons] at hl1
      have hr0 : r0 = [] := List.length_eq_zero_iff.mp (by omega)
      have h48 := g.1
      rw [hc0] at h48
      exact g.2 (by rw [hc0, hr0, Option.some.inj h48])
    walk_at "run"
    refine f_str (fun i σ HD => (∃ u, σ = [some (.str z), u]) ∧ HD = H ∧ ∀ j y, j < i → (My.cs z)[j]? = some y → decide (48 ≤ y ∧ y ≤ 57) = true) ⟨⟨_, rfl⟩, rfl, fun j y hj => absurd hj (Nat.not_lt_zero _)⟩ ?_ ?_
    · rintro i c σ HD hc ⟨⟨u, rfl⟩, rfl, hup⟩
      walk_at "run"
      rw [in_dig']
      walk_at "run"
      refine z_iteD (fun hd => ?_) (fun hd => ?_)
      · walk_at "run"
        exact ⟨⟨_, rfl⟩, rfl, all_upto hc hup (decide_eq_true hd)⟩
      · walk_at "run"
        refine qf ?_
        cases q0 : plB (My.cs z) with
        | false => rfl
        | true => exact absurd ((plB_iff.mp q0).2.2.2 c (List.mem_of_getElem? hc)) hd
    · rintro σ HD ⟨⟨u, rfl⟩, rfl, hup⟩
      have e : plB (My.cs z) = true := plB_iff.mpr ⟨ne, by omega, good, fun x hx => by
        obtain ⟨j, hj, ej⟩ := List.getElem_of_mem hx
        have hjs : j < z.cps.size := by
          have : (My.cs z).length = z.cps.size := by simp
          omega
        exact of_decide_eq_true (hup j x hjs (by rw [List.getElem?_eq_getElem hj, ej]))⟩
      have pb := plB_iff.mp e
      obtain ⟨vb1, vb2⟩ := My.val_dig pb.2.2.2
      have ib := My.int_of (z := z) (by rw [vb1]; exact pb.figs)
      rw [vb2] at ib
      walk_at "run"
      refine z_intT ib.1 (by omega) ?_
      exact qt e
noncomputable def FigV (z : Str) (n : Int) : Prop := (My.plain (My.cs z) ∧ n = ((NumText.digitsVal (My.cs z) : Nat) : Int)) ∨ (¬ My.plain (My.cs z) ∧ n = -1)
theorem a_figs {z : Str} {H : Hp} {Q : VK} {E : XK} (hz : z.length ≤ 900) (q : ∀ n : Int, FigV z n → Q (.int n) H) : sp_figs10 [.str z] H Q E :=
  ⟨z, rfl, hz, fun e => q _ (.inl ⟨plB_iff.mp e, rfl⟩), fun e => q _ (.inr ⟨fun g => (by rw [plB_iff.mpr g] at e; cases e), rfl⟩)⟩
theorem gcd_sgn (L : Bool) (n b : Int) : Int.gcd ((1 - 2 * (if L = true then 1 else 0)) * n) b = Int.gcd n b := by
  cases L with
  | true =>
    rw [if_pos rfl, show ((1 : Int) - 2 * 1) * n = -n by omega]
    exact Int.neg_gcd
  | false =>
    rw [if_neg Bool.false_ne_true, show ((1 : Int) - 2 * 0) * n = n by omega]
theorem sl0 (a : Str) : PySem.Txt.slice a (some 0) none = a := My.cs_ext (by rw [show (0 : Int) = ((0 : Nat) : Int) from rfl, My.sl_s0]; rfl)
noncomputable def sp_numby (K : PySem.W.Frag) : Sp := fun vs H Q _ => ∃ z : Str, vs = [.str z] ∧ z.length ≤ 400 ∧ (∀ a b, My.DueOk (My.cs z) a b → absI a < 1000000000000000000 → b ≤ 60 → ∀ p H', Same H H' → SqT K H' p [.int a, .int b] → Q (.ref p) H') ∧ ((∀ a b, My.DueOk (My.cs z) a b → absI a < 1000000000000000000 → ¬ b ≤ 60) → ∀ H', Same H H' → Q .non H')
theorem ok_l_number_by (T : Txt K mg t) : FnOk P w K mg base CX0 2 t.f_l_number_by t.d_l_number_by ["_law_text"] (sp_numby K) := by
  have G_l_figures := ok_l_figures (P := P) (w := w) (base := base) T
  have G_l_divisor := ok_l_divisor (P := P) (w := w) (base := base) T
  refine T.F_l_number_by.ok sc_l_number_by (fun vs H Q E h => ?_) (fun cdv A outer s H vs Q E hr h => ?_)
  · obtain ⟨z, rfl, _⟩ := h
    rfl
  obtain ⟨z, rfl, hz, hQ, hN⟩ := h
  refine ⟨_, (pss_cons (ps_asg (pe_bm PySem.F.plainAttrs_str PySem.F.slot_str_partition PySem.F.type_str_partition mt_partition (pv 0) (pa_cons pe_str pa_nil)) (pg_tup rfl (pgs_cons (pg_name (i := 4) sc_l_number_by.nd rfl (Or.inl rfl)) (pgs_cons (pg_name (i := 5) sc_l_number_by.nd rfl (Or.inl rfl)) (pgs_cons (pg_name (i := 6) sc_l_number_by.nd rfl (Or.inl rfl)) pgs_nil)))))
  (pss_cons (ps_set (i := 1) sc_l_number_by.nd rfl (Or.inl rfl) (pe_cmpR op_eq (pe_slice sl_str (pv 4) po_none (po_some pe_int)) pe_str (nomark _)))
  (pss_cons (ps_set (i := 2) sc_l_number_by.nd rfl (Or.inl rfl) (pe_call G_l_figures (hr.mono (by decide)) rfl T.m_l_figures T.k_l_figures T.b_l_figures .nil pass0 (pa_cons (pe_slice sl_str (pv 4) (po_some (pe_callTy call_int1 rfl T.z_int bt_int (pa_cons (pv 1) pa_nil))) po_none) pa_nil)))
  (pss_cons (ps_set (i := 3) sc_l_number_by.nd rfl (Or.inl rfl) pe_int)
  (pss_cons (ps_if (pt_cmpR op_ne (pv 5) pe_str (nomark _)) (pss_one (ps_set (i := 3) sc_l_number_by.nd rfl (Or.inl rfl) (pe_call G_l_figures (hr.mono (by decide)) rfl T.m_l_figures T.k_l_figures T.b_l_figures .nil pass0 (pa_cons (pv 6) pa_nil)))) pss_nil)
  (pss_cons (ps_if (PW.pt (pw_or (pt_cmpR op_lt (pv 2) pe_int (nomark _)) (pw_or (PW.pt (pw_and (pt_val (pv 1)) (pw_and1 (pt_cmpR op_eq (pv 2) pe_int (nomark _))))) (pw_or (pt_cmpR op_lt (pv 3) pe_int (nomark _)) (pw_or1 (PW.pt (pw_and (pt_cmpR op_ne (pv 5) pe_str (nomark _)) (pw_and1 (pt_cmpR op_lt (pv 3) pe_int (nomark _)))))))))) (pss_one (ps_ret pe_non)) pss_nil)
  (pss_cons (ps_if (PW.pt (pw_or (pt_cmpR op_ge (pv 2) (pe_op op_pow pe_int pe_int) (nomark _)) (pw_or (pt_cmpR op_gt (pv 3) pe_int (nomark _)) (pw_or1 (pt_cmpR op_ne (pe_call G_l_divisor (hr.mono (by decide)) rfl T.m_l_divisor T.k_l_divisor T.b_l_divisor .nil pass0 (pa_cons (pv 2) (pa_cons (pv 3) pa_nil))) pe_int (nomark _)))))) (pss_one (ps_ret pe_non)) pss_nil)
  (pss_one (ps_ret (pe_tup (pa_cons (pe_op op_mulB (pe_op op_sub pe_int (pe_op op_mulB pe_int (pe_callTy call_int1 rfl T.z_int bt_int (pa_cons (pv 1) pa_nil)))) (pv 2)) (pa_cons (pv 3) pa_nil)))))))))))), z_go (σ := [some _, none, none, none, none, none, none]) rfl ?_⟩
  walk_at "run"
  refine z_partn rfl (le_size (by omega)) (fun p H1 hp s1 hl => ?_)
  obtain ⟨a, st, b, hpart, hcase⟩ : ∃ a st b, PySem.Txt.partition z "/" = (a, st, b) ∧ ((47 ∉ My.cs z ∧ a = z ∧ st = Str.empty) ∨ (st = "/" ∧ My.cs z = My.cs a ++ 47 :: My.cs b ∧ 47 ∉ My.cs a)) := by
    rcases My.part_is z with ⟨h1, h2⟩ | ⟨a, b, h1, h2, h3⟩
    · exact ⟨_, _, _, h2, .inl ⟨h1, rfl, rfl⟩⟩
    · exact ⟨_, _, _, h1, .inr ⟨rfl, h2, h3⟩⟩
  have hlz := PySem.StrLaws.partition_sum z "/"
  rw [hpart] at hl hlz
  have hsum : a.length + st.length + b.length = z.length := by
    have := congrArg Str.length hlz
    rw [Str.length_append, Str.length_append] at this
    exact this
  have hl : H1 p = some (.tup [.str a, .str st, .str b]) := hl
  have hT : SqT K H1 p [.str a, .str st, .str b] := SqT.of hl
  walk_at "run"
  have st0 : (Str.empty : Str) ≠ "/" := by decide
  have st1 : ("/" : Str) ≠ "" := by decide
  have dk : ∀ t' b', My.DueOk (My.cs z) t' b' → My.ok0 (My.cs a) ∧ t' = My.val (My.cs a) ∧ ((st = "" ∧ b' = 1) ∨ (st = "/" ∧ My.plain (My.cs b) ∧ 2 ≤ NumText.digitsVal (My.cs b) ∧ Int.gcd (My.val (My.cs a)) ((NumText.digitsVal (My.cs b) : Nat) : Int) = 1 ∧ b' = ((NumText.digitsVal (My.cs b) : Nat) : Int))) := by
    intro t' b' d
    rcases hcase with ⟨c1, rfl, c3⟩ | ⟨c1, c2, c3⟩
    · rcases d with ⟨_, d, e1, e2⟩ | ⟨A', B', e, _⟩
      · exact ⟨d, e1, .inl ⟨c3, e2⟩⟩
      · rw [e] at c1
        exact absurd (My.no47_app _ _) c1
    · rw [c2] at d
      rcases d with ⟨d, _⟩ | ⟨A', B', e, a1, a2, a3, a4, a5, a6, a7⟩
      · exact absurd (My.no47_app _ _) d
      · obtain ⟨e1, e2⟩ := My.first47 e c3 a1
        rw [e1, e2]
        exact ⟨a2, a6, .inr ⟨c1, a3, a4, a5, a7⟩⟩
  have due : My.ok0 (My.cs a) → ((st = "" → My.DueOk (My.cs z) (My.val (My.cs a)) 1) ∧ (st ≠ "" → My.plain (My.cs b) → 2 ≤ NumText.digitsVal (My.cs b) → Int.gcd (My.val (My.cs a)) ((NumText.digitsVal (My.cs b) : Nat) : Int) = 1 → My.DueOk (My.cs z) (My.val (My.cs a)) ((NumText.digitsVal (My.cs b) : Nat) : Int))) := by
    intro ok
    rcases hcase with ⟨c1, rfl, c3⟩ | ⟨c1, c2, c3⟩
    · exact ⟨fun _ => .inl ⟨c1, ok, rfl, rfl⟩, fun z => absurd c3 z⟩
    · refine ⟨fun z => absurd (c1.symm.trans z) st1, fun _ pb h2 g => ?_⟩
      rw [c2]
      exact .inr ⟨_, _, rfl, c3, ok, pb, h2, g, rfl, rfl⟩
  have hst : st = "" ∨ st = "/" := hcase.imp (fun c => c.2.2) fun c => c.1
  have hL45 : decide (PySem.Txt.slice a none (some 1) = "-") = decide ((My.cs a).head? = some 45) := by
    rw [Bool.eq_iff_iff, decide_eq_true_eq, decide_eq_true_eq]; exact m1 a
  rw [hL45]
  generalize hLL : decide ((My.cs a).head? = some 45) = L at *
  have hcs : My.cs (PySem.Txt.slice a (some (if L = true then 1 else 0)) none) = My.hd (My.cs a) := by
    unfold My.hd
    cases L with
    | true =>
      have h45 := of_decide_eq_true hLL
      rw [if_pos rfl, if_pos h45, show (1 : Int) = ((1 : Nat) : Int) from rfl, My.sl_s0, List.drop_one]
    | false =>
      have h45 := of_decide_eq_false hLL
      rw [if_neg Bool.false_ne_true, if_neg h45, sl0]
  have hval : My.val (My.cs a) = (1 - 2 * (if L = true then 1 else 0)) * ((NumText.digitsVal (My.hd (My.cs a)) : Nat) : Int) := by
    unfold My.val My.hd
    cases L with
    | true =>
      have h45 := of_decide_eq_true hLL
      rw [if_pos h45, if_pos h45, if_pos rfl]; omega
    | false =>
      have h45 := of_decide_eq_false hLL
      rw [if_neg h45, if_neg h45, if_neg Bool.false_ne_true]; omega
  have hok : My.ok0 (My.cs a) ↔ (My.plain (My.hd (My.cs a)) ∧ ¬ (L = true ∧ NumText.digitsVal (My.hd (My.cs a)) = 0)) := by
    unfold My.ok0
    refine and_congr_right fun pl => not_congr ⟨fun e => ?_, fun ⟨e1, e2⟩ => ?_⟩
    · rw [e] at hLL ⊢
      exact ⟨hLL.symm, by decide⟩
    · have h45 := of_decide_eq_true (hLL.trans e1)
      have d := My.dg_of_plain pl
      rw [e2] at d
      have d : [48] = My.hd (My.cs a) := d
      unfold My.hd at d
      rw [if_pos h45] at d
      cases ca : My.cs a with
      | nil => rw [ca] at h45; cases h45
      | cons x r =>
        rw [ca] at h45 d
        rw [Option.some.inj h45]
        exact congrArg (45 :: ·) d.symm
  have lh := PySem.Txt.slice_le a (some (if L = true then 1 else 0)) none
  generalize PySem.Txt.slice a (some (if L = true then 1 else 0)) none = hs at *
  refine a_figs (by omega) (fun tp htp => ?_)
  unfold FigV at htp
  rw [hcs] at htp
  generalize My.hd (My.cs a) = A' at *
  walk_at "runI"
  refine z_cut (fun σ HD => ∃ bt : Int, σ = [some (.str z), some (.bl L), some (.int tp), some (.int bt), some (.str a), some (.str st), some (.str b)] ∧ HD = H1 ∧ ((st = "" ∧ bt = 1) ∨ (st = "/" ∧ FigV b bt))) (fun U' hU => ?_) ?_
  · walk_at "run"
    refine z_iteD (fun h => ?_) (fun h => ?_)
    · walk_at "run"
      exact hU _ _ ⟨1, rfl, rfl, .inl ⟨h, rfl⟩⟩
    · walk_at "run"
      refine a_figs (by omega) (fun bt hbt => ?_)
      walk_at "run"
      exact hU _ _ ⟨bt, rfl, rfl, .inr ⟨hst.resolve_left h, hbt⟩⟩
  rintro σ HD ⟨bt, rfl, rfl, hbt⟩
  have bad : ¬ (0 ≤ tp ∧ ¬ (L = true ∧ tp = 0) ∧ 1 ≤ bt ∧ (st ≠ "" → 2 ≤ bt) ∧ tp < 1000000000000000000 ∧ bt ≤ 60 ∧ Int.gcd tp bt = 1) → ∀ t' b', My.DueOk (My.cs z) t' b' → absI t' < 1000000000000000000 → ¬ b' ≤ 60 := by
    intro nb t' b' d ht hb
    obtain ⟨ok, e1, e2⟩ := dk t' b' d
    obtain ⟨o1, o2⟩ := hok.mp ok
    rcases htp with ⟨_, rfl⟩ | ⟨np, _⟩
    rotate_left
    · exact np o1
    rw [e1, hval] at ht
    have ht' : ((NumText.digitsVal A' : Nat) : Int) < 1000000000000000000 := by
      unfold absI at ht
      cases L <;> simp only [if_pos, if_neg, Bool.false_eq_true, not_false_eq_true] at ht <;> split at ht <;> omega
    have o2' : ¬ (L = true ∧ ((NumText.digitsVal A' : Nat) : Int) = 0) := fun ⟨u1, u2⟩ => o2 ⟨u1, by omega⟩
    rcases e2 with ⟨es, eb⟩ | ⟨es, pb, h2, g, eb⟩
    · rcases hbt with ⟨_, rfl⟩ | ⟨es', _⟩
      · exact nb ⟨by omega, o2', by omega, fun z => absurd es z, ht', by omega, Int.gcd_one⟩
      · exact absurd (es.symm.trans es') (by decide)
    · rcases hbt with ⟨es', _⟩ | ⟨_, fb⟩
      · exact absurd (es.symm.trans es') (by decide)
      · rcases fb with ⟨_, rfl⟩ | ⟨np, _⟩
        · refine nb ⟨by omega, o2', by omega, fun _ => by omega, ht', by omega, ?_⟩
          rw [hval, gcd_sgn] at g
          exact g
        · exact np pb
  walk_at "runI"
  refine z_cut (fun σ HD2 => σ = [some (.str z), some (.bl L), some (.int tp), some (.int bt), some (.str a), some (.str st), some (.str b)] ∧ HD2 = HD ∧ 0 ≤ tp ∧ ¬ (L = true ∧ tp = 0) ∧ 1 ≤ bt ∧ (st ≠ "" → 2 ≤ bt)) (fun U' hU => ?_) ?_
  · walk_at "run"
    refine z_iteD (fun h1 => ?_) (fun h1 => ?_)
    · walk_at "run"
      exact hN (bad fun h => by omega) _ s1
    walk_at "run"
    refine z_ite2 (fun hL => ?_) (fun hL => ?_)
    · walk_at "run"
      refine z_iteD (fun h2 => ?_) (fun h2 => ?_)
      · walk_at "run"
        exact hN (bad fun h => h.2.1 ⟨hL, h2⟩) _ s1
      walk_at "run"
      refine z_iteD (fun h3 => ?_) (fun h3 => ?_)
      · walk_at "run"
        exact hN (bad fun h => by omega) _ s1
      walk_at "run"
      refine z_iteD (fun h4 => ?_) (fun h4 => ?_)
      · walk_at "run"
        exact hU _ _ ⟨rfl, rfl, by omega, (fun z => h2 z.2), by omega, fun z => absurd h4 z⟩
      · walk_at "run"
        refine z_iteD (fun h5 => ?_) (fun h5 => ?_)
        · walk_at "run"
          exact hN (bad fun h => by have := h.2.2.2.1 h4; omega) _ s1
        · walk_at "run"
          exact hU _ _ ⟨rfl, rfl, by omega, (fun z => h2 z.2), by omega, fun z => by omega⟩
    · walk_at "run"
      refine z_iteD (fun h3 => ?_) (fun h3 => ?_)
      · walk_at "run"
        exact hN (bad fun h => by omega) _ s1
      walk_at "run"
      refine z_iteD (fun h4 => ?_) (fun h4 => ?_)
      · walk_at "run"
        exact hU _ _ ⟨rfl, rfl, by omega, (fun z => by rw [hL] at z; cases z.1), by omega, fun z => absurd h4 z⟩
      · walk_at "run"
        refine z_iteD (fun h5 => ?_) (fun h5 => ?_)
        · walk_at "run"
          exact hN (bad fun h => by have := h.2.2.2.1 h4; omega) _ s1
        · walk_at "run"
          exact hU _ _ ⟨rfl, rfl, by omega, (fun z => by rw [hL] at z; cases z.1), by omega, fun z => by omega⟩
  rintro σ HD2 ⟨rfl, rfl, f1, f2, f3, f4⟩
  walk_at "runI"
  refine z_cut (fun σ HD3 => σ = [some (.str z), some (.bl L), some (.int tp), some (.int bt), some (.str a), some (.str st), some (.str b)] ∧ HD3 = HD2 ∧ tp < 1000000000000000000 ∧ bt ≤ 60 ∧ Int.gcd tp bt = 1) (fun U' hU => ?_) ?_
  · walk_at "run"
    rw [p18]
    refine z_iteD (fun h1 => ?_) (fun h1 => ?_)
    · walk_at "run"
      exact hN (bad fun h => by omega) _ s1
    walk_at "run"
    refine z_iteD (fun h2 => ?_) (fun h2 => ?_)
    · walk_at "run"
      exact hN (bad fun h => by omega) _ s1
    walk_at "run"
    refine ⟨tp, bt, rfl, by omega, ?_⟩
    walk_at "run"
    refine z_iteD (fun h3 => ?_) (fun h3 => ?_)
    · walk_at "run"
      exact hU _ _ ⟨rfl, rfl, by omega, by omega, by omega⟩
    · walk_at "run"
      exact hN (bad fun h => h3 (by rw [h.2.2.2.2.2.2]; rfl)) _ s1
  rintro σ HD3 ⟨rfl, rfl, f5, f6, f7⟩
  have btp : My.Bd 64 tp := by unfold My.Bd; omega
  have bL : My.Bd 64 (if L = true then 1 else 0) := by unfold My.Bd; cases L <;> decide
  have bL2 : My.Bd 64 (1 - 2 * (if L = true then 1 else 0)) := by unfold My.Bd; cases L <;> decide
  walk_at "run"
  rename_i pr Hr nr sr er
  rcases htp with ⟨pl, etp⟩ | ⟨_, etp⟩
  rotate_left
  · omega
  have ok : My.ok0 (My.cs a) := hok.mpr ⟨pl, fun z => f2 ⟨z.1, by omega⟩⟩
  have ev : My.val (My.cs a) = (1 - 2 * (if L = true then 1 else 0)) * tp := by rw [hval, etp]
  have ab : absI (My.val (My.cs a)) < 1000000000000000000 := by
    rw [ev]
    unfold absI
    cases L <;> simp only [if_pos, if_neg, Bool.false_eq_true, not_false_eq_true] <;> split <;> omega
  have hs : SqT K Hr pr [.int (My.val (My.cs a)), .int bt] := by rw [ev]; exact SqT.of er
  rcases hbt with ⟨es, rfl⟩ | ⟨es, fb⟩
  · exact hQ _ _ ((due ok).1 es) ab (by omega) _ _ (s1.trans sr) hs
  · rcases fb with ⟨pb, rfl⟩ | ⟨_, rfl⟩
    · have h2 := f4 (by rw [es]; decide)
      refine hQ _ _ ((due ok).2 (by rw [es]; decide) pb (by omega) ?_) ab (by omega) _ _ (s1.trans sr) hs
      rw [ev, gcd_sgn]
      exact f7
    · omega
theorem one45 (c : Nat) : (⟨#[c]⟩ : Str) = "-" ↔ c = 45 := ⟨fun h => by
    have := congrArg My.cs h
    exact List.head_eq_of_cons_eq (show [c] = [45] from this), fun h => by rw [h]; rfl⟩
theorem ten_of {c : List Nat} (h : c.length = 10) : ∃ c0 c1 c2 c3 c4 c5 c6 c7 c8 c9, c = [c0, c1, c2, c3, c4, c5, c6, c7, c8, c9] := by
  match c, h with
  | [c0, c1, c2, c3, c4, c5, c6, c7, c8, c9], _ => exact ⟨_, _, _, _, _, _, _, _, _, _, rfl⟩
theorem in_18 (c : Nat) : (Builtin.Str.occurrences ("12345678" : Str) ⟨#[c]⟩ 0 ("12345678" : Str).length 1).isEmpty = !decide (49 ≤ c ∧ c ≤ 56) := by
  rw [← Bool.not_not (Builtin.Str.occurrences ("12345678" : Str) ⟨#[c]⟩ 0 ("12345678" : Str).length 1).isEmpty, PySem.StrLaws.found_one]
  have e : ("12345678" : Str).cps.toList = [49, 50, 51, 52, 53, 54, 55, 56] := by decide
  rw [e]
  congr 1
  rw [Bool.eq_iff_iff, decide_eq_true_eq, decide_eq_true_eq]
  simp only [List.mem_cons, List.not_mem_nil, or_false]
  omega
theorem plain_hd {c0 : Nat} {r : List Nat} (h : c0 ≠ 48) (hl : r.length ≤ 50) : My.plain (c0 :: r) ↔ NumText.AllDigits (c0 :: r) :=
  ⟨fun p => p.2.2.2, fun d => ⟨List.cons_ne_nil _ _, by rw [List.length_cons]; omega, fun g => h (Option.some.inj g.1), d⟩⟩
theorem val1 {a b : Nat} : NumText.digitsVal [49, a, b] = 100 + NumText.digitsVal [a, b] := by
  unfold NumText.digitsVal
  simp only [List.foldl_cons, List.foldl_nil]
  omega
noncomputable def sp_dayby : Sp := fun vs H Q _ => ∃ z : Str, vs = [.str z] ∧ z.length ≤ 400 ∧ (∀ y m e, My.DueDay (My.cs z) y m e → 1000 ≤ y → y ≤ 8999 → ∀ H', Same H H' → Q (.int (My.dayOf y m e)) H') ∧ ((∀ y m e, My.DueDay (My.cs z) y m e → 1000 ≤ y → ¬ y ≤ 8999) → ∀ H', Same H H' → Q .non H')
theorem ok_l_day_by (T : Txt K mg t) : FnOk P w K mg base CX0 3 t.f_l_day_by t.d_l_day_by ["_law_text"] (sp_dayby) := by
  have G_l_figures := ok_l_figures (P := P) (w := w) (base := base) T
  have G_l_lengths := ok_l_lengths (P := P) (w := w) (base := base) T
  have G_l_day := ok_l_day (P := P) (w := w) (base := base) T
  refine T.F_l_day_by.ok sc_l_day_by (fun vs H Q E h => ?_) (fun cdv A outer s H vs Q E hr h => ?_)
  · obtain ⟨z, rfl, _⟩ := h
    rfl
  obtain ⟨z, rfl, hz, hQ, hN⟩ := h
  have hlen := My.cs_len z
  refine ⟨_, (pss_cons (ps_if (PW.pt (pw_or (pt_cmpR op_ne (pe_callB call_len_str rfl T.z_len PySem.boot_len (pa_cons (pv 0) pa_nil)) pe_int (nomark _)) (pw_or (pt_cmpR op_ne (pe_ix ix_str (pv 0) pe_int (fun _ _ => rfl)) pe_str (nomark _)) (pw_or (pt_cmpR op_ne (pe_ix ix_str (pv 0) pe_int (fun _ _ => rfl)) pe_str (nomark _)) (pw_or1 (pt_cmpR op_notIn_str (pe_ix ix_str (pv 0) pe_int (fun _ _ => rfl)) pe_str rfl)))))) (pss_one (ps_ret pe_non)) pss_nil)
  (pss_cons (ps_set (i := 1) sc_l_day_by.nd rfl (Or.inl rfl) (pe_call G_l_figures (hr.mono (by decide)) rfl T.m_l_figures T.k_l_figures T.b_l_figures .nil pass0 (pa_cons (pe_slice sl_str (pv 0) po_none (po_some pe_int)) pa_nil)))
  (pss_cons (ps_set (i := 2) sc_l_day_by.nd rfl (Or.inl rfl) (pe_op op_sub (pe_call G_l_figures (hr.mono (by decide)) rfl T.m_l_figures T.k_l_figures T.b_l_figures .nil pass0 (pa_cons (pe_op op_addS pe_str (pe_slice sl_str (pv 0) (po_some pe_int) (po_some pe_int))) pa_nil)) pe_int))
  (pss_cons (ps_set (i := 3) sc_l_day_by.nd rfl (Or.inl rfl) (pe_op op_sub (pe_call G_l_figures (hr.mono (by decide)) rfl T.m_l_figures T.k_l_figures T.b_l_figures .nil pass0 (pa_cons (pe_op op_addS pe_str (pe_slice sl_str (pv 0) (po_some pe_int) po_none)) pa_nil)) pe_int))
  (pss_cons (ps_if (PW.pt (pw_or (pt_cmpR op_lt (pv 1) pe_int (nomark _)) (pw_or (pt_cmpR op_lt (pv 2) pe_int (nomark _)) (pw_or (pt_cmpR op_gt (pv 2) pe_int (nomark _)) (pw_or (pt_cmpR op_lt (pv 3) pe_int (nomark _)) (pw_or1 (pt_cmpR op_gt (pv 3) (pe_ix ix_list (pe_call G_l_lengths (hr.mono (by decide)) rfl T.m_l_lengths T.k_l_lengths T.b_l_lengths .nil pass0 (pa_cons (pv 1) pa_nil)) (pe_op op_sub (pv 2) pe_int) (fun _ _ => rfl)) (nomark _)))))))) (pss_one (ps_ret pe_non)) pss_nil)
  (pss_one (ps_ret (pe_ix ix_tup (pe_call G_l_day (hr.mono (by decide)) rfl T.m_l_day T.k_l_day T.b_l_day .nil pass0 (pa_cons (pe_lst (pa_cons (pe_op op_sub (pv 1) pe_int) (pa_cons (pe_op op_sub (pv 2) pe_int) (pa_cons (pe_op op_sub (pv 3) pe_int) pa_nil)))) pa_nil)) pe_int (fun _ _ => rfl))))))))), z_go (σ := [some _, none, none, none]) rfl ?_⟩
  walk_at "run"
  refine z_iteD (fun h10 => ?_) (fun h10 => ?_)
  rotate_left
  · walk_at "run"
    refine hN (fun y m e d => ?_) _ (Same.refl _)
    have := congrArg List.length d.2
    rw [My.dtx_len] at this
    omega
  obtain ⟨c0, c1, c2, c3, c4, c5, c6, c7, c8, c9, hc⟩ := ten_of (c := My.cs z) (by omega)
  have hdue : ∀ y m e, My.DueDay (My.cs z) y m e → 1000 ≤ y → y ≤ 8999 → c4 = 45 ∧ c7 = 45 ∧ (49 ≤ c0 ∧ c0 ≤ 56) := fun y m e d h1 h2 => by
    have h := d.2
    rw [hc] at h
    unfold My.dtx My.pad4 My.pad2 at h
    simp only [List.cons_append, List.nil_append, List.cons.injEq, and_true] at h
    obtain ⟨e0, _, _, _, e4, _, _, e7, _, _⟩ := h
    exact ⟨e4, e7, by omega, by omega⟩
  walk_at "run"
  have hat4 : atI z.cps.toList 4 = some c4 := by rw [show z.cps.toList = _ from hc]; rfl
  refine z_ixS (le_size (by omega)) hat4 ?_
  walk_at "run"
  refine z_iteD (fun h4 => ?_) (fun h4 => ?_)
  rotate_left
  · walk_at "run"
    exact hN (fun y m e d h1 h2 => h4 ((one45 _).mpr (hdue _ _ _ d h1 h2).1)) _ (Same.refl _)
  walk_at "run"
  have hat7 : atI z.cps.toList 7 = some c7 := by rw [show z.cps.toList = _ from hc]; rfl
  refine z_ixS (le_size (by omega)) hat7 ?_
  walk_at "run"
  refine z_iteD (fun h7 => ?_) (fun h7 => ?_)
  rotate_left
  · walk_at "run"
    exact hN (fun y m e d h1 h2 => h7 ((one45 _).mpr (hdue _ _ _ d h1 h2).2.1)) _ (Same.refl _)
  rw [one45] at h4 h7
  subst h4 h7
  walk_at "run"
  have hat0 : atI z.cps.toList 0 = some c0 := by rw [show z.cps.toList = _ from hc]; rfl
  refine z_ixS (le_size (by omega)) hat0 ?_
  walk_at "run"
  rw [in_18]
  walk_at "run"
  refine z_iteD (fun h0 => ?_) (fun h0 => ?_)
  rotate_left
  · walk_at "run"
    exact hN (fun y m e d h1 h2 => h0 (hdue _ _ _ d h1 h2).2.2) _ (Same.refl _)
  have k1 : My.cs (PySem.Txt.slice z none (some 4)) = [c0, c1, c2, c3] := by rw [show (4 : Int) = ((4 : Nat) : Int) from rfl, My.sl_0s, hc]; rfl
  have k2 : My.cs (PySem.Txt.slice z (some 5) (some 7)) = [c5, c6] := by rw [show (5 : Int) = ((5 : Nat) : Int) from rfl, show (7 : Int) = ((7 : Nat) : Int) from rfl, My.sl_ss, hc]; rfl
  have k3 : My.cs (PySem.Txt.slice z (some 8) none) = [c8, c9] := by rw [show (8 : Int) = ((8 : Nat) : Int) from rfl, My.sl_s0, hc]; rfl
  have l1 : (PySem.Txt.slice z none (some 4)).length = 4 := by rw [← My.cs_len, k1]; rfl
  have l2 : (PySem.Txt.slice z (some 5) (some 7)).length = 2 := by rw [← My.cs_len, k2]; rfl
  have l3 : (PySem.Txt.slice z (some 8) none).length = 2 := by rw [← My.cs_len, k3]; rfl
  have l0 : ("1" : Str).length = 1 := rfl
  walk_at "run"
  refine a_figs (by omega) (fun y hy => ?_)
  walk_at "run"
  refine a_figs (by rw [Str.length_append]; omega) (fun m1 hm => ?_)
  walk_at "run"
  refine a_figs (by rw [Str.length_append]; omega) (fun e1 he => ?_)
  unfold FigV at hy hm he
  rw [My.cs_app] at hm he
  rw [k1] at hy
  rw [k2, show My.cs "1" ++ [c5, c6] = [49, c5, c6] from rfl, plain_hd (by decide) (by simp), val1] at hm
  rw [k3, show My.cs "1" ++ [c8, c9] = [49, c8, c9] from rfl, plain_hd (by decide) (by simp), val1] at he
  rw [plain_hd (by omega) (by simp)] at hy
  have d3 : ∀ {a b : Nat}, NumText.AllDigits [49, a, b] ↔ NumText.AllDigits [a, b] := fun {a b} => ⟨fun h x hx => h x (List.mem_cons_of_mem _ hx), fun h x hx => by
    rcases List.mem_cons.mp hx with e | hx
    · subst e; exact ⟨by decide, by decide⟩
    · exact h x hx⟩
  rw [d3] at hm he
  have dp : ∀ y' m' e', My.DueDay (My.cs z) y' m' e' → (NumText.AllDigits [c0, c1, c2, c3] ∧ NumText.AllDigits [c5, c6] ∧ NumText.AllDigits [c8, c9]) ∧ y' = ((NumText.digitsVal [c0, c1, c2, c3] : Nat) : Int) ∧ m' = ((NumText.digitsVal [c5, c6] : Nat) : Int) ∧ e' = ((NumText.digitsVal [c8, c9] : Nat) : Int) := fun y' m' e' d => by
    obtain ⟨A', B, C, h, a1, a2, b1, b2, d1, d2, r1, r2, r3⟩ := d.parts
    rw [hc] at h
    match A', a1 with
    | [p1, p2, p3, p4], _ =>
      match B, b1 with
      | [p5, p6], _ =>
        match C, d1 with
        | [p7, p8], _ =>
          simp only [List.cons_append, List.nil_append, List.cons.injEq, and_true] at h
          obtain ⟨rfl, rfl, rfl, rfl, e4, rfl, rfl, e7, rfl, rfl⟩ := h
          exact ⟨⟨a2, b2, d2⟩, r1, r2, r3⟩
  have dv : ∀ y' m' e', My.DueDay (My.cs z) y' m' e' → y' = y ∧ m' = m1 - 100 ∧ e' = e1 - 100 := fun y' m' e' d => by
    obtain ⟨⟨q1, q2, q3⟩, r1, r2, r3⟩ := dp y' m' e' d
    rcases hy with ⟨_, hy⟩ | ⟨n, _⟩
    · rcases hm with ⟨_, hm⟩ | ⟨n, _⟩
      · rcases he with ⟨_, he⟩ | ⟨n, _⟩
        · exact ⟨by omega, by omega, by omega⟩
        · exact absurd q3 n
      · exact absurd q2 n
    · exact absurd q1 n
  have bad : (∀ (v : My.Valid y (m1 - 100) (e1 - 100)), 1000 ≤ y → y ≤ 8999 → False) → ∀ y' m' e', My.DueDay (My.cs z) y' m' e' → 1000 ≤ y' → ¬ y' ≤ 8999 := fun f y' m' e' d h1 h2 => by
    obtain ⟨r1, r2, r3⟩ := dv y' m' e' d
    subst r1 r2 r3
    exact f d.1 h1 h2
  walk_at "run"
  refine z_iteD (fun q1 => ?_) (fun q1 => ?_)
  · walk_at "run"
    exact hN (bad fun v h1 h2 => by omega) _ (Same.refl _)
  walk_at "run"
  refine z_iteD (fun q2 => ?_) (fun q2 => ?_)
  · walk_at "run"
    exact hN (bad fun v h1 h2 => by have := v.m1; omega) _ (Same.refl _)
  walk_at "run"
  refine z_iteD (fun q3 => ?_) (fun q3 => ?_)
  · walk_at "run"
    exact hN (bad fun v h1 h2 => by have := v.m2; omega) _ (Same.refl _)
  walk_at "run"
  refine z_iteD (fun q4 => ?_) (fun q4 => ?_)
  · walk_at "run"
    exact hN (bad fun v h1 h2 => by have := v.e1; omega) _ (Same.refl _)
  walk_at "run"
  refine ⟨_, rfl, fun pl H1 s1 hp => ?_⟩
  have la := (lens_at (y := y) (d := m1 - 100 - 1) (by omega) (by omega)).1
  walk_at "run"
  refine z_ixL (SqL.of hp) la ?_
  rw [show m1 - 100 - 1 + 1 = m1 - 100 by omega]
  walk_at "run"
  refine z_iteD (fun q5 => ?_) (fun q5 => ?_)
  · walk_at "run"
    exact hN (bad fun v h1 h2 => by have := v.e2; omega) _ s1
  rcases hy with ⟨dA, hy⟩ | ⟨_, hy⟩
  rotate_left
  · omega
  rcases hm with ⟨dB, hm⟩ | ⟨_, hm⟩
  rotate_left
  · omega
  rcases he with ⟨dC, he⟩ | ⟨_, he⟩
  rotate_left
  · omega
  have A9 := (My.four_is rfl dA).2
  have D := My.due_parts (c := My.cs z) (A := [c0, c1, c2, c3]) (B := [c5, c6]) (C := [c8, c9]) hc rfl dA rfl dB rfl dC
  have v : My.Valid y (m1 - 100) (e1 - 100) := ⟨by omega, by omega, by omega, by omega, by omega, by omega⟩
  have y8 : y ≤ 8999 := by
    have f := (My.four_is rfl dA).1
    unfold My.pad4 at f
    simp only [List.cons.injEq, and_true] at f
    omega
  have due : My.DueDay (My.cs z) y (m1 - 100) (e1 - 100) := by
    have e1' : m1 - 100 = ((NumText.digitsVal [c5, c6] : Nat) : Int) := by omega
    have e2' : e1 - 100 = ((NumText.digitsVal [c8, c9] : Nat) : Int) := by omega
    rw [hy, e1', e2'] at v ⊢
    exact D.1 v
  walk_at "run"
  rename_i pq H2 n2 s2 e2
  refine ⟨pq, y - 1000, m1 - 100 - 1, e1 - 100 - 1, rfl, SqL.of e2, ⟨by omega, by omega⟩, ⟨by omega, by omega⟩, fun p3 H3 z3 s3 hp3 v3 hz3 => ?_⟩
  have hp3 := SqT.of (K := K) hp3
  walk_at "run"
  rw [show 1000 + (y - 1000) = y by omega, show m1 - 100 - 1 + 1 = m1 - 100 by omega, Int.emod_eq_of_lt (by omega) (by omega), show e1 - 100 - 1 + 1 = e1 - 100 by omega]
  exact hQ _ _ _ due (by omega) y8 _ (s1.trans (s2.trans s3))
theorem rc_no {k z : Str} (hn : k = "number" → ∀ a b, My.DueOk (My.cs z) a b → absI a < 1000000000000000000 → ¬ b ≤ 60) (hd : k = "day" → ∀ y m e, My.DueDay (My.cs z) y m e → 1000 ≤ y → ¬ y ≤ 8999) (hw : k = "word" → wordS z = false) : ∀ x, ¬ RC k z x := fun x r => by
  cases r with
  | num d h1 h2 => exact hn rfl _ _ d h1 h2
  | day d h1 h2 => exact hd rfl _ _ _ d h1 h2
  | word h => rw [hw rfl] at h; cases h
noncomputable def sp_cellby (K : PySem.W.Frag) : Sp := fun vs H Q _ => ∃ (j : Int) (z : Str), vs = [.int j, .str z] ∧ (0 ≤ j ∧ j < 3) ∧ z.length ≤ 400 ∧ (∀ x, RC (kdOf j) z x → ∀ v H', Same H H' → Rp K H' v x → Q v H') ∧ ((∀ x, ¬ RC (kdOf j) z x) → ∀ H', Same H H' → Q .non H')
theorem ok_l_cell_by (T : Txt K mg t) : FnOk P w K mg base CX0 4 t.f_l_cell_by t.d_l_cell_by ["_law_kind", "_law_text"] (sp_cellby K) := by
  have G_l_number_by := ok_l_number_by (P := P) (w := w) (base := base) T
  have G_l_day_by := ok_l_day_by (P := P) (w := w) (base := base) T
  refine T.F_l_cell_by.ok sc_l_cell_by (fun vs H Q E h => ?_) (fun cdv A outer s H vs Q E hr h => ?_)
  · obtain ⟨j, z, rfl, _⟩ := h
    rfl
  obtain ⟨j, z, rfl, hj, hz, hQ, hN⟩ := h
  refine ⟨_, (pss_cons (ps_if (pt_cmpR op_eq (pv 0) pe_int (nomark _)) (pss_one (ps_ret (pe_call G_l_number_by (hr.mono (by decide)) rfl T.m_l_number_by T.k_l_number_by T.b_l_number_by .nil pass0 (pa_cons (pv 1) pa_nil)))) pss_nil)
  (pss_cons (ps_if (pt_cmpR op_eq (pv 0) pe_int (nomark _)) (pss_one (ps_ret (pe_call G_l_day_by (hr.mono (by decide)) rfl T.m_l_day_by T.k_l_day_by T.b_l_day_by .nil pass0 (pa_cons (pv 1) pa_nil)))) pss_nil)
  (pss_cons (ps_set (i := 2) sc_l_cell_by.nd rfl (Or.inl rfl) (pe_callB (call_all rfl) rfl T.z_all bt_all (pa_cons (pe_lc rfl (compOk_of (fr := []) (osc := defScope s_l_cell_by) (N := ["_law_kind", "_law_text", "_law_plain"]) rfl rfl (by decide +kernel)) (pi_str (pv 1)) (fun _ _ _ _ _ => (pe_cmpR op_in_str (pv 0) pe_str rfl))) pa_nil)))
  (pss_cons (ps_if (PW.pt (pw_and (pt_val (pv 2)) (pw_and1 (pt_chain op_le op_le pe_int (pe_callB call_len_str rfl T.z_len PySem.boot_len (pa_cons (pv 1) pa_nil)) pe_int)))) (pss_one (ps_ret (pv 1))) pss_nil)
  (pss_one (ps_ret pe_non)))))), z_go (σ := [some _, some _, none]) rfl ?_⟩
  walk_at "run"
  refine z_iteD (fun h1 => ?_) (fun h1 => ?_)
  · have ek : kdOf j = "number" := if_pos h1
    rw [ek] at hQ hN
    walk_at "run"
    refine ⟨z, rfl, hz, fun a b d h1 h2 p H' s' hp => hQ _ (.num d h1 h2) _ _ s' ⟨p, _, rfl, hp, rfl, rfl, True.intro⟩, fun h => hN (rc_no (fun _ => h) (fun e => absurd e (by decide)) fun e => absurd e (by decide))⟩
  walk_at "run"
  refine z_iteD (fun h2 => ?_) (fun h2 => ?_)
  · have ek : kdOf j = "day" := by unfold kdOf; rw [if_neg h1, if_neg (by omega)]
    rw [ek] at hQ hN
    walk_at "run"
    refine ⟨z, rfl, hz, fun y m e d h1 h2 H' s' => hQ _ (.day d h1 h2) _ _ s' rfl, fun h => hN (rc_no (fun e => absurd e (by decide)) (fun _ => h) fun e => absurd e (by decide))⟩
  have ek : kdOf j = "word" := by unfold kdOf; rw [if_neg h1, if_pos (by omega)]
  rw [ek] at hQ hN
  walk_at "run"
  refine lcn_str (fun c => .bl (letB c)) (le_size (by show z.length ≤ 1000; omega)) ?_ ?_
  · intro c H2 S hc s2 k
    walk_at "run"
    rw [in_letters]
    exact k _ (Same.refl _)
  · intro acc H2 hacc s2 ha
    walk_at "run"
    have e : (My.cs z).map (fun c => V.bl (letB c)) = ((My.cs z).map fun c => letB c).map V.bl := by rw [List.map_map]; rfl
    have ha' : H2 acc = some (.lst (((My.cs z).map fun c => letB c).map V.bl)) := by rw [← e]; exact ha
    refine z_all (SqL.of ha') ?_
    rw [all_let]
    walk_at "run"
    refine z_ite2 (fun h3 => ?_) (fun h3 => ?_)
    rotate_left
    · walk_at "run"
      refine hN (rc_no (fun e => absurd e (by decide)) (fun e => absurd e (by decide)) fun _ => ?_) _ s2
      unfold wordS
      rw [h3, Bool.and_false, Bool.and_false]
    walk_at "run"
    refine z_iteD (fun h4 => ?_) (fun h4 => ?_)
    rotate_left
    · walk_at "run"
      refine hN (rc_no (fun e => absurd e (by decide)) (fun e => absurd e (by decide)) fun _ => ?_) _ s2
      unfold wordS
      rw [decide_eq_false (show ¬ 1 ≤ z.length by omega), Bool.false_and]
    walk_at "run"
    refine z_iteD (fun h5 => ?_) (fun h5 => ?_)
    · walk_at "run"
      refine hQ _ (.word ?_) _ _ s2 ⟨rfl, by omega⟩
      unfold wordS
      rw [h3, decide_eq_true (show 1 ≤ z.length by omega), decide_eq_true (show z.length ≤ 8 by omega)]
      rfl
    · walk_at "run"
      refine hN (rc_no (fun e => absurd e (by decide)) (fun e => absurd e (by decide)) fun _ => ?_) _ s2
      unfold wordS
      rw [decide_eq_false (show ¬ z.length ≤ 8 by omega), Bool.false_and, Bool.and_false]
noncomputable def sp_alike10 (K : PySem.W.Frag) : Sp := fun vs H Q _ => ∃ (u v : V) (x : Pv), vs = [u, v] ∧ Rp K H u x ∧ Rp K H v x ∧ (x = .non ∨ (∃ z, x = .str z) ∨ (∃ i, x = .int i) ∨ ∃ a b, x = .tup [.int a, .int b]) ∧ ∀ H', Same H H' → Q (.bl true) H'
theorem ok_l_alike (T : Txt K mg t) : FnOk P w K mg base CX0 2 t.f_l_alike t.d_l_alike ["_law_found", "_law_due"] (sp_alike10 K) := by
  have G_l_whole := ok_l_whole (P := P) (w := w) (base := base) T
  refine T.F_l_alike.ok sc_l_alike (fun vs H Q E h => ?_) (fun cdv A outer s H vs Q E hr h => ?_)
  · obtain ⟨u, v, x, rfl, _⟩ := h
    rfl
  obtain ⟨u, v, x, rfl, hu, hv, hx, q⟩ := h
  refine ⟨_, (pss_cons (ps_if (PW.pt (pw_or (pt_cmpR op_isN' (pv 1) pe_non (nomark _)) (pw_or1 (pt_val (pe_isi isi_str rfl rfl T.z_isinstance T.z_str bt_str (pv 1)))))) (pss_one (ps_ret (pe_and (pe_cmpR (op_eq.or (op_eqT hr.units0)) (pv 0) (pv 1) (nomark _)) (pe_one (pe_cmpR op_eq (pe_isi isi_str rfl rfl T.z_isinstance T.z_str bt_str (pv 0)) (pe_isi isi_str rfl rfl T.z_isinstance T.z_str bt_str (pv 1)) (nomark _)))))) pss_nil)
  (pss_cons (ps_if (pt_not (pt_val (pe_isi isi_tuple rfl rfl T.z_isinstance T.z_tuple bt_tuple (pv 1)))) (pss_one (ps_ret (pe_and (pe_call G_l_whole (hr.mono (by decide)) rfl T.m_l_whole T.k_l_whole T.b_l_whole .nil pass0 (pa_cons (pv 0) pa_nil)) (pe_one (pe_cmpR (op_eq.or (op_eqT hr.units0)) (pv 0) (pv 1) (nomark _)))))) pss_nil)
  (pss_cons (ps_if (PW.pt (pw_or (pt_not (pt_val (pe_isi isi_tuple rfl rfl T.z_isinstance T.z_tuple bt_tuple (pv 0)))) (pw_or1 (pt_cmpR op_ne (pe_callB call_len_seq rfl T.z_len PySem.boot_len (pa_cons (pv 0) pa_nil)) pe_int (nomark _))))) (pss_one (ps_ret pe_bl)) pss_nil)
  (pss_one (ps_ret (pe_and (pe_call G_l_whole (hr.mono (by decide)) rfl T.m_l_whole T.k_l_whole T.b_l_whole .nil pass0 (pa_cons (pe_ix ix_tup (pv 0) pe_int (fun _ _ => rfl)) pa_nil)) (pe_and (pe_call G_l_whole (hr.mono (by decide)) rfl T.m_l_whole T.k_l_whole T.b_l_whole .nil pass0 (pa_cons (pe_ix ix_tup (pv 0) pe_int (fun _ _ => rfl)) pa_nil)) (pe_one (pe_cmpR (op_eq.or (op_eqT hr.units0)) (pv 0) (pv 1) (nomark _)))))))))), z_go (σ := [some _, some _]) rfl ?_⟩
  rcases hx with rfl | ⟨z, rfl⟩ | ⟨i, rfl⟩ | ⟨a, b, rfl⟩
  · cases hu
    cases hv
    walk_at "run"
    refine .inl ⟨rfl, ?_⟩
    walk_at "run"
    refine z_iteD (fun _ => ?_) (fun h => absurd rfl h)
    walk_at "run"
    rw [decide_eq_true rfl]
    exact q _ (Same.refl _)
  · obtain ⟨rfl, _⟩ := hu
    obtain ⟨rfl, _⟩ := hv
    walk_at "run"
    refine .inl ⟨rfl, ?_⟩
    walk_at "run"
    refine z_iteD (fun _ => ?_) (fun h => absurd rfl h)
    walk_at "run"
    rw [decide_eq_true rfl]
    exact q _ (Same.refl _)
  · cases hu
    cases hv
    walk_at "run"
    refine ⟨_, .int, rfl, True.intro, ?_⟩
    walk_at "run"
    refine .inl ⟨rfl, ?_⟩
    walk_at "run"
    rw [decide_eq_true rfl]
    exact q _ (Same.refl _)
  · obtain ⟨p1, rfl, hp1⟩ := hu.pair
    obtain ⟨p2, rfl, hp2⟩ := hv.pair
    walk_at "run"
    refine z_iteD (fun _ => ?_) (fun h => absurd rfl h)
    walk_at "run"
    refine ⟨_, .int, rfl, True.intro, ?_⟩
    walk_at "run"
    refine ⟨_, .int, rfl, True.intro, ?_⟩
    walk_at "run"
    refine .inr ⟨p1, p2, [a, b], [a, b], rfl, rfl, hp1, hp2, ?_⟩
    walk_at "run"
    show (fun _ => _) _
    rw [decide_eq_true rfl]
    exact q _ (Same.refl _)
noncomputable def sp_refused10 (K : PySem.W.Frag) : Sp := fun vs H Q _ => ∃ (k : Str) (v : V), vs = [.str k, v] ∧ KdS k ∧ ((∃ z : Str, v = .str z ∧ z.length ≤ 400 ∧ z ≠ "-" ∧ ∀ x, ¬ RC k z x) ∨ ∃ g, tgIs K H v g ∧ g ≠ .str) ∧ ∀ H', Same H H' → Q (.bl true) H'
theorem z_tryF {j : Nat} {sp : Sp} {dvs : List V} {C : Addr} {tA : TA} {ts : Addr → TS} {σ : St} {H : Hp} {D : Ends} (h : tA σ H fun vs H1 => sp (vs ++ dvs) H1 (fun _ H2 => D.nx σ H2) fun cls d H2 => cls = .ref C ∧ ∃ dd, d = some dd ∧ ∀ a, H2 a = none → ts a (goneD j D) (σ.set j (some (.ref a))) (upd H2 a (ExcD a C dd))) : tTryF j sp dvs C tA ts D σ H := h
theorem z_fldX {K : PySem.W.Frag} {ta : TE} {f : Str} {σ : St} {H : Hp} {Q : VK} (h : ta σ H fun x H1 => ∃ a C dx fs v, x = .ref a ∧ (H1 a = some (ExcN a C dx) ∨ H1 a = some (ExcD a C dx)) ∧ H1 dx = some (.xd fs) ∧ (ExcF K C ∧ NoAttr K C f ∧ PySem.W.hasDictIn K C = true) ∧ fs.lookup f = some v ∧ Q v H1) : tFldX K ta f σ H Q := h
theorem a_refcell {K : PySem.W.Frag} {C : Addr} {k : Str} {v : V} {H : Hp} {Q : VK} {E : XK} (hk : KdS k) (hv : (∃ z : Str, v = .str z ∧ z.length ≤ 400 ∧ z ≠ "-" ∧ ∀ x, ¬ RC k z x) ∨ ∃ g, tgIs K H v g ∧ g ≠ .str) (hE : RowE C H E) : sp_readcell K C [.str k, v] H Q E := by
  rcases hv with ⟨z, rfl, hz, ne, no⟩ | ⟨g, hg, ng⟩
  · exact ⟨k, _, rfl, hk, .inl ⟨z, rfl, hz, fun e => absurd e ne, fun _ x r => absurd r (no x), fun _ _ => hE⟩⟩
  · exact ⟨k, v, rfl, hk, .inr ⟨g, hg, ng, hE⟩⟩
theorem ok_l_refused (T : Txt K mg t) : FnOk P w K mg base CX0 7 t.f_l_refused t.d_l_refused ["_law_kind", "_law_text"] (sp_refused10 K) := by
  have G_read_cell := ok_read_cell (P := P) (w := w) (base := base) T
  refine T.F_l_refused.ok sc_l_refused (fun vs H Q E h => ?_) (fun cdv A outer s H vs Q E hr h => ?_)
  · obtain ⟨k, v, rfl, _⟩ := h
    rfl
  obtain ⟨k, v, rfl, hk, hv, q⟩ := h
  refine ⟨_, (pss_cons (ps_tryF (T := t.c_NoTable) (C := t.c_NoTable) (j := 2) G_read_cell (hr.mono (by decide)) rfl T.m_read_cell T.k_read_cell T.b_read_cell .nil (fun _ _ z => z) rfl rfl (pa_cons (pv 0) (pa_cons (pv 1) pa_nil)) sc_l_refused.nd rfl rfl rfl ⟨rfl, T.m_NoTable, T.e_NoTable, by decide⟩ rfl (fun a => (pss_cons (ps_if (PW.pt (pw_or (pt_val (pe_callB (isiD (c := .ref t.c_NoNumber) (u := .ref t.c_NoNumber) (fun _ z => z)) rfl T.z_isinstance bt_isinstance (pa_cons (pv 2) (pa_cons (pe_glob (v := .ref t.c_NoNumber) rfl T.m_NoNumber rfl) pa_nil)))) (pw_or (pt_val (pe_callB (isiD (c := .ref t.c_NoDay) (u := .ref t.c_NoDay) (fun _ z => z)) rfl T.z_isinstance bt_isinstance (pa_cons (pv 2) (pa_cons (pe_glob (v := .ref t.c_NoDay) rfl T.m_NoDay rfl) pa_nil)))) (pw_or1 (pt_not (pt_val (pe_callB (isiD (c := .ty "ValueError") (u := .type "ValueError") (fun _ z => z)) rfl T.z_isinstance bt_isinstance (pa_cons (pv 2) (pa_cons (pe_bltn (v := .ty "ValueError") rfl T.z_ValueError bt_ValueError rfl) pa_nil))))))))) (pss_one (ps_ret pe_bl)) pss_nil)
  (pss_one (ps_ret (pe_and (pe_callB (isiD (c := .ref t.c_MarkError) (u := .ref t.c_MarkError) (fun _ z => z)) rfl T.z_isinstance bt_isinstance (pa_cons (pv 2) (pa_cons (pe_glob (v := .ref t.c_MarkError) rfl T.m_MarkError rfl) pa_nil))) (pe_one (pe_cmpR op_isN' (pe_fldX (pv 2) rfl) pe_non (nomark _)))))))))
  (pss_one (ps_ret pe_bl))), z_go (σ := [some _, some _, none]) rfl ?_⟩
  walk_at "run"
  refine z_tryF ?_
  walk_at "run"
  refine a_refcell hk hv fun dx H2 s2 e2 => ⟨rfl, dx, rfl, fun ax hax => ?_⟩
  simp only [List.set_cons_succ, List.set_cons_zero]
  have s6 : Same H2 (upd H2 ax (ExcD ax t.c_NoTable dx)) := Same.new hax _
  have h6 : (upd H2 ax (ExcD ax t.c_NoTable dx)) ax = some (ExcD ax t.c_NoTable dx) := upd_same
  have e6 := s6 _ _ e2
  generalize upd H2 ax (ExcD ax t.c_NoTable dx) = H6 at *
  unfold goneD
  walk_at "run"
  refine ⟨ax, _, dx, false, rfl, h6, T.y_NoTable, T.kk_NoTable_NoNumber, ?_⟩
  walk_at "run"
  refine ⟨ax, _, dx, false, rfl, h6, T.y_NoTable, T.kk_NoTable_NoDay, ?_⟩
  walk_at "run"
  refine ⟨ax, _, dx, true, rfl, h6, T.y_NoTable, T.kk_NoTable_ValueError, ?_⟩
  walk_at "run"
  refine ⟨ax, _, dx, true, rfl, h6, T.y_NoTable, T.kk_NoTable_MarkError, ?_⟩
  walk_at "run"
  refine z_fldX ?_
  walk_at "run"
  refine ⟨ax, _, dx, _, .non, rfl, .inr h6, e6, ⟨T.y_NoTable, T.o_NoTable.na, T.o_NoTable.hd⟩, by simp [List.lookup_cons], ?_⟩
  walk_at "run"
  exact q _ (s2.trans s6)
theorem tx_sn {z : Str} {n : Nat} (h : z.length ≤ n) (hb : n ≤ 400) : ∃ o : Str, V.str z = .str o ∧ o.length ≤ 400 := ⟨z, rfl, by omega⟩
local macro_rules | `(tactic| walk_at "txn") => `(tactic| first | (with_reducible exact all_nil) | ((apply all_cons); (focus ((apply tx_sn); (focus (walk_at "sn")); (first | decide | omega))); (walk_at "txn")))
theorem tx_one {z : Str} {n : Nat} (h : z.length ≤ n) : ∃ o : Str, V.str z = .str o ∧ o.length ≤ n := ⟨z, rfl, h⟩
local macro_rules | `(tactic| walk_at "txs") => `(tactic| first | (with_reducible exact all_nil) | ((apply all_cons); (focus (exact tx_one (by decide))); (walk_at "txs")))
noncomputable def sp_made10 (K : PySem.W.Frag) : Sp := fun vs H Q _ => ∃ (z : Str) (l : Addr) (ds : List Int), vs = [.str z, .ref l] ∧ SqL K H l (ds.map V.int) ∧ Dr ds ∧ z.length ≤ 60 ∧ ∀ (z' : Str) (H' : Hp), Same H H' → z'.length ≤ 400 → Q (.str z') H'
theorem ok_l_made (T : Txt K mg t) : FnOk P w K mg base CX0 1 t.f_l_made t.d_l_made ["_law_text", "_law_d"] (sp_made10 K) := by
  refine T.F_l_made.ok sc_l_made (fun vs H Q E h => ?_) (fun cdv A outer s H vs Q E hr h => ?_)
  · obtain ⟨z, l, ds, rfl, _⟩ := h
    rfl
  obtain ⟨z, l, ds, rfl, hL, hD, hz, q⟩ := h
  obtain ⟨d2, e2, b2⟩ := hD.at 2 10 rfl
  obtain ⟨d3, e3, b3⟩ := hD.at 3 11400 rfl
  obtain ⟨d4, e4, b4⟩ := hD.at 4 1000 rfl
  have a2 : atI (ds.map V.int) 2 = some (.int d2) := atI_nat (j := 2) (map_at e2)
  have a3 : atI (ds.map V.int) 3 = some (.int d3) := atI_nat (j := 3) (map_at e3)
  have a4 : atI (ds.map V.int) 4 = some (.int d4) := atI_nat (j := 4) (map_at e4)
  refine' ⟨_, ?h, ?g⟩
  case h =>
   refine' pss_cons ?x1_0 ?x1_1
   case x1_0 => exact (ps_set (i := 2) sc_l_made.nd rfl (Or.inl rfl) pe_str)
   case x1_1 =>
    refine' pss_cons ?x2_0 ?x2_1
    case x2_0 => exact (ps_set (i := 3) sc_l_made.nd rfl (Or.inl rfl) (pe_ix ix_str (pv 2) (pe_op op_mod (pe_ix ix_list (pv 1) pe_int (fun _ _ => rfl)) (pe_callB call_len_str rfl T.z_len PySem.boot_len (pa_cons (pv 2) pa_nil))) (fun _ _ => rfl)))
    case x2_1 =>
     refine' pss_cons ?x3_0 ?x3_1
     case x3_0 => exact (ps_set (i := 4) sc_l_made.nd rfl (Or.inl rfl) (pe_op op_mod (pe_ix ix_list (pv 1) pe_int (fun _ _ => rfl)) (pe_op op_add (pe_callB call_len_str rfl T.z_len PySem.boot_len (pa_cons (pv 0) pa_nil)) pe_int)))
     case x3_1 =>
      refine' pss_cons ?x4_0 ?x4_1
      case x4_0 =>
       refine' ps_set (i := 5) ?x5_0 ?x5_1 ?x5_2 ?x5_3 ?y5 ?z5
       case y5 => rfl
       case z5 => exact .inr rfl
       case x5_0 => exact sc_l_made.nd
       case x5_1 => exact rfl
       case x5_2 => exact (Or.inl rfl)
       case x5_3 =>
        refine' pe_lst ?x6_0
        case x6_0 =>
         refine' pa_cons ?x7_0 ?x7_1
         case x7_0 => exact pe_str
         case x7_1 =>
          refine' pa_cons ?x8_0 ?x8_1
          case x8_0 => exact pe_str
          case x8_1 =>
           refine' pa_cons ?x9_0 ?x9_1
           case x9_0 => exact pe_str
           case x9_1 =>
            refine' pa_cons ?x10_0 ?x10_1
            case x10_0 => exact pe_str
            case x10_1 =>
             refine' pa_cons ?x11_0 ?x11_1
             case x11_0 => exact pe_str
             case x11_1 =>
              refine' pa_cons ?x12_0 ?x12_1
              case x12_0 => exact pe_str
              case x12_1 =>
               refine' pa_cons ?x13_0 ?x13_1
               case x13_0 => exact pe_str
               case x13_1 =>
                refine' pa_cons ?x14_0 ?x14_1
                case x14_0 => exact pe_str
                case x14_1 =>
                 refine' pa_cons ?x15_0 ?x15_1
                 case x15_0 => exact pe_str
                 case x15_1 =>
                  refine' pa_cons ?x16_0 ?x16_1
                  case x16_0 => exact pe_str
                  case x16_1 =>
                   refine' pa_cons ?x17_0 ?x17_1
                   case x17_0 => exact pe_str
                   case x17_1 => exact pa_nil
      case x4_1 =>
       refine' pss_cons ?x18_0 ?x18_1
       case x18_0 =>
        refine' ps_set (i := 5) ?x19_0 ?x19_1 ?x19_2 ?x19_3 ?y19 ?z19
        case y19 => rfl
        case z19 => exact .inr rfl
        case x19_0 => exact sc_l_made.nd
        case x19_1 => exact rfl
        case x19_2 => exact (Or.inl rfl)
        case x19_3 =>
         refine' pe_op ?x20_0 ?x20_1 ?x20_2
         case x20_0 => exact op_cat
         case x20_1 => exact (pv 5)
         case x20_2 =>
          refine' pe_lst ?x21_0
          case x21_0 =>
           refine' pa_cons ?x22_0 ?x22_1
           case x22_0 => exact pe_str
           case x22_1 =>
            refine' pa_cons ?x23_0 ?x23_1
            case x23_0 => exact pe_str
            case x23_1 =>
             refine' pa_cons ?x24_0 ?x24_1
             case x24_0 => exact pe_str
             case x24_1 =>
              refine' pa_cons ?x25_0 ?x25_1
              case x25_0 => exact pe_str
              case x25_1 =>
               refine' pa_cons ?x26_0 ?x26_1
               case x26_0 => exact pe_str
               case x26_1 =>
                refine' pa_cons ?x27_0 ?x27_1
                case x27_0 => exact pe_str
                case x27_1 =>
                 refine' pa_cons ?x28_0 ?x28_1
                 case x28_0 => exact pe_str
                 case x28_1 => exact pa_nil
       case x18_1 =>
        refine' pss_cons ?x29_0 ?x29_1
        case x29_0 =>
         refine' ps_set (i := 5) ?x30_0 ?x30_1 ?x30_2 ?x30_3 ?y30 ?z30
         case y30 => rfl
         case z30 => exact .inr rfl
         case x30_0 => exact sc_l_made.nd
         case x30_1 => exact rfl
         case x30_2 => exact (Or.inl rfl)
         case x30_3 =>
          refine' pe_op ?x31_0 ?x31_1 ?x31_2
          case x31_0 => exact op_cat
          case x31_1 => exact (pv 5)
          case x31_2 =>
           refine' pe_lst ?x32_0
           case x32_0 =>
            refine' pa_cons ?x33_0 ?x33_1
            case x33_0 => exact pe_str
            case x33_1 =>
             refine' pa_cons ?x34_0 ?x34_1
             case x34_0 => exact pe_str
             case x34_1 =>
              refine' pa_cons ?x35_0 ?x35_1
              case x35_0 => exact pe_str
              case x35_1 =>
               refine' pa_cons ?x36_0 ?x36_1
               case x36_0 => exact pe_str
               case x36_1 =>
                refine' pa_cons ?x37_0 ?x37_1
                case x37_0 => exact pe_str
                case x37_1 =>
                 refine' pa_cons ?x38_0 ?x38_1
                 case x38_0 => exact pe_str
                 case x38_1 =>
                  refine' pa_cons ?x39_0 ?x39_1
                  case x39_0 => exact pe_str
                  case x39_1 =>
                   refine' pa_cons ?x40_0 ?x40_1
                   case x40_0 => exact pe_str
                   case x40_1 =>
                    refine' pa_cons ?x41_0 ?x41_1
                    case x41_0 => exact pe_str
                    case x41_1 =>
                     refine' pa_cons ?x42_0 ?x42_1
                     case x42_0 => exact pe_str
                     case x42_1 =>
                      refine' pa_cons ?x43_0 ?x43_1
                      case x43_0 => exact pe_str
                      case x43_1 => exact pa_nil
        case x29_1 =>
         refine' pss_cons ?x44_0 ?x44_1
         case x44_0 =>
          refine' ps_set (i := 5) ?x45_0 ?x45_1 ?x45_2 ?x45_3 ?y45 ?z45
          case y45 => rfl
          case z45 => exact .inr rfl
          case x45_0 => exact sc_l_made.nd
          case x45_1 => exact rfl
          case x45_2 => exact (Or.inl rfl)
          case x45_3 =>
           refine' pe_op ?x46_0 ?x46_1 ?x46_2
           case x46_0 => exact op_cat
           case x46_1 => exact (pv 5)
           case x46_2 =>
            refine' pe_lst ?x47_0
            case x47_0 =>
             refine' pa_cons ?x48_0 ?x48_1
             case x48_0 => exact pe_str
             case x48_1 =>
              refine' pa_cons ?x49_0 ?x49_1
              case x49_0 => exact pe_str
              case x49_1 =>
               refine' pa_cons ?x50_0 ?x50_1
               case x50_0 => exact pe_str
               case x50_1 =>
                refine' pa_cons ?x51_0 ?x51_1
                case x51_0 => exact pe_str
                case x51_1 =>
                 refine' pa_cons ?x52_0 ?x52_1
                 case x52_0 => exact pe_str
                 case x52_1 =>
                  refine' pa_cons ?x53_0 ?x53_1
                  case x53_0 => exact pe_str
                  case x53_1 =>
                   refine' pa_cons ?x54_0 ?x54_1
                   case x54_0 => exact pe_str
                   case x54_1 =>
                    refine' pa_cons ?x55_0 ?x55_1
                    case x55_0 => exact pe_str
                    case x55_1 =>
                     refine' pa_cons ?x56_0 ?x56_1
                     case x56_0 => exact pe_str
                     case x56_1 =>
                      refine' pa_cons ?x57_0 ?x57_1
                      case x57_0 => exact pe_str
                      case x57_1 =>
                       refine' pa_cons ?x58_0 ?x58_1
                       case x58_0 => exact pe_str
                       case x58_1 => exact pa_nil
         case x44_1 =>
          refine' pss_cons ?x59_0 ?x59_1
          case x59_0 => exact (ps_set (i := 6) sc_l_made.nd rfl (Or.inl rfl) (pe_lst (pa_cons (pe_op op_addS (pe_op op_addS (pe_slice sl_str (pv 0) po_none (po_some (pv 4))) (pv 3)) (pe_slice sl_str (pv 0) (po_some (pv 4)) po_none)) (pa_cons (pe_op op_addS (pe_op op_addS (pe_slice sl_str (pv 0) po_none (po_some (pv 4))) (pv 3)) (pe_slice sl_str (pv 0) (po_some (pe_op op_add (pv 4) pe_int)) po_none)) (pa_cons (pe_op op_addS (pe_slice sl_str (pv 0) po_none (po_some (pv 4))) (pe_slice sl_str (pv 0) (po_some (pe_op op_add (pv 4) pe_int)) po_none)) (pa_cons (pe_op op_addS (pv 0) pe_str) pa_nil))))))
          case x59_1 =>
           refine' pss_cons ?x60_0 ?x60_1
           case x60_0 =>
            refine' ps_set (i := 6) ?x61_0 ?x61_1 ?x61_2 ?x61_3 ?y61 ?z61
            case y61 => rfl
            case z61 => exact .inr rfl
            case x61_0 => exact sc_l_made.nd
            case x61_1 => exact rfl
            case x61_2 => exact (Or.inl rfl)
            case x61_3 =>
             refine' pe_op ?x62_0 ?x62_1 ?x62_2
             case x62_0 => exact op_cat
             case x62_1 => exact (pv 6)
             case x62_2 =>
              refine' pe_lst ?x63_0
              case x63_0 =>
               refine' pa_cons ?x64_0 ?x64_1
               case x64_0 => exact (pe_op op_addS pe_str (pv 0))
               case x64_1 =>
                refine' pa_cons ?x65_0 ?x65_1
                case x65_0 => exact (pe_op op_addS (pv 0) pe_str)
                case x65_1 =>
                 refine' pa_cons ?x66_0 ?x66_1
                 case x66_0 => exact (pe_ix ix_list (pv 5) (pe_op op_mod (pe_ix ix_list (pv 1) pe_int (fun _ _ => rfl)) pe_int) (fun _ _ => rfl))
                 case x66_1 =>
                  refine' pa_cons ?x67_0 ?x67_1
                  case x67_0 => exact (pe_op op_addS (pv 0) (pv 0))
                  case x67_1 =>
                   refine' pa_cons ?x68_0 ?x68_1
                   case x68_0 => exact (pe_op op_addS (pe_op op_addS (pe_slice sl_str (pv 0) po_none (po_some (pv 4))) (pe_callTy call_str_int rfl T.z_str bt_str (pa_cons (pe_op op_mod (pe_ix ix_list (pv 1) pe_int (fun _ _ => rfl)) pe_int) pa_nil))) (pe_slice sl_str (pv 0) (po_some (pv 4)) po_none))
                   case x68_1 => exact pa_nil
           case x60_1 =>
            refine' pss_cons ?x69_0 ?x69_1
            case x69_0 => exact (ps_expr (pe_bm PySem.F.plainAttrs_list PySem.F.slot_list_append PySem.F.type_list_append mt_append (pv 6) (pa_cons (pe_op op_addS pe_str (pv 0)) pa_nil)))
            case x69_1 => exact (pss_one (ps_ret (pe_ix ix_list (pv 6) (pe_ix ix_list (pv 1) pe_int (fun _ _ => rfl)) (fun _ _ => rfl))))
  refine z_go (σ := [some _, some _, none, none, none, none, none]) rfl ?_
  walk_at "run"
  refine z_ixL hL a3 ?_
  walk_at "run"
  refine z_ixSm (by decide) (by decide) (fun c => ?_)
  walk_at "run"
  refine z_ixL hL a4 ?_
  walk_at "run"
  rename_i p1 H1 n1 s1 e1 p2 H2 n2 s2 e2 p3 H3 n3 s3 e3 p4 H4 n4 s4 e4 p5 H5 n5 s5 e5 p6 H6 n6 s6 e6 p7 H7 n7 s7 e7 p8 H8 n8 s8 e8
  have T8 : Same H8 H8 := Same.refl _
  have T7 := s8.trans T8
  have f7 := T7 _ _ e7
  have T6 := s7.trans T7
  have f6 := T6 _ _ e6
  have T5 := s6.trans T6
  have f5 := T5 _ _ e5
  have T4 := s5.trans T5
  have f4 := T4 _ _ e4
  have T3 := s4.trans T4
  have f3 := T3 _ _ e3
  have T2 := s3.trans T3
  have f2 := T2 _ _ e2
  have T1 := s2.trans T2
  have f1 := T1 _ _ e1
  have T0 : Same H H8 := s1.trans T1
  clear e1 s1 T1 e2 s2 T2 e3 s3 T3 e4 s4 T4 e5 s5 T5 e6 s6 T6 e7 s7 T7 s8 T8 n8 n7 n6 n5 n4 n3 n2 n1
  have hL8 := T0.seq hL
  refine z_ixL hL8 a3 ?_
  walk_at "run"
  refine z_ixAny (fun v => ∃ o : Str, v = .str o ∧ o.length ≤ 60) (SqL.of f7) (Int.emod_nonneg _ (by decide)) (Int.emod_lt_of_pos d3 (by decide)) ?_ ?_
  · simp only [List.cons_append, List.nil_append]
    walk_at "txs"
  rintro _ ⟨o, rfl, ho⟩
  clear f1 f2 f3 f4 f5 f6 f7
  have l60 : z.length ≤ 60 := hz
  have sd := str18 (n := d3 % 10) (by omega) (by omega)
  have ld := log18 (n := d3 % 10) (by omega) (by omega)
  walk_at "run"
  refine z_ixL hL8 a3 ?_
  walk_at "run"
  rename_i pa Ha na sa ea pb Hb nb sb eb
  refine z_appendS (K := K) eb (Nat.le_of_ble_eq_true rfl) (fun H9 b9 e9 => ?_)
  have sH : Same H H9 := (T0.trans (sa.trans sb)).but ((T0.trans sa).free nb) b9
  clear ea eb e8
  walk_at "run"
  refine z_ixL (sH.seq hL) a2 ?_
  refine z_ixAny (fun v => ∃ o : Str, v = .str o ∧ o.length ≤ 400) (SqL.of e9) b2.1 b2.2 ?_ ?_
  · simp only [List.cons_append, List.nil_append]
    walk_at "txn"
  rintro _ ⟨o', rfl, ho'⟩
  exact q _ _ sH ho'
noncomputable def rEqTS (K : PySem.W.Frag) : V → V → Hp → VK → Prop := fun x y H Q => ∃ (p : Addr) (vs : List V) (z : Str), x = .ref p ∧ y = .str z ∧ SqT K H p vs ∧ Q (.bl false) H
theorem op_eqTS {X : Cx} (hu : X.A.units < cLine) : OpR X (compareOp .Eq) (rEqTS X.K) := by
  intro pins s σ H x y v u Q I rx ry h
  obtain ⟨p, vs, z, rfl, rfl, hp, q⟩ := h
  cases rx
  obtain ⟨tk, rfl⟩ := (show ∃ t, u = Value.str z t from ry)
  obtain ⟨its, r1, p1, _⟩ := I.tuple hp
  exact SeqAt.RcAt.tuple_str (A := X.A) (s := s) z tk p1 hu _ _ _ _ ⟨.bl false, H, I, rfl, q⟩
theorem gc_rc {k z : Str} {x : Pv} (g : GC k x z) : (z = "-" ∧ x = .non) ∨ (z ≠ "-" ∧ RC k z x) := by
  cases g with
  | non => exact .inl ⟨rfl, rfl⟩
  | @num a b z hb h60 hg ha e =>
    have e60 : (10 : Nat) ^ 60 = 1000000000000000000000000000000000000000000000000000000000000 := by decide
    have d : My.DueOk (My.cs z) a b := by
      rw [e]
      exact My.due_shw (by omega) hg (by rw [e60]; unfold absI at ha; split at ha <;> omega) (by rw [e60]; omega)
    refine .inr ⟨fun h => ?_, .num d ha h60⟩
    subst h
    rcases d with ⟨_, d, _⟩ | ⟨A, B, d, _⟩
    · exact absurd d.1.1 (by decide)
    · have : (47 : Nat) ∈ My.cs "-" := by rw [d]; exact My.no47_app _ _
      exact absurd this (by decide)
  | word h => exact .inr ⟨fun e => by subst e; exact absurd h (by decide), .word h⟩
  | @day y m e z v h1 h2 ez =>
    refine .inr ⟨fun h => ?_, .day ⟨v, ez⟩ h1 h2⟩
    subst h
    have := congrArg List.length ez
    rw [My.dtx_len] at this
    exact absurd this (by decide)
theorem rc_form {k z : Str} {x : Pv} (r : RC k z x) : x = .non ∨ (∃ z, x = .str z) ∨ (∃ i, x = .int i) ∨ ∃ a b, x = .tup [.int a, .int b] := by
  cases r with
  | num => exact .inr (.inr (.inr ⟨_, _, rfl⟩))
  | day => exact .inr (.inr (.inl ⟨_, rfl⟩))
  | word => exact .inr (.inl ⟨_, rfl⟩)
theorem gc_form {k z : Str} {x : Pv} (g : GC k x z) : x = .non ∨ (∃ z, x = .str z) ∨ (∃ i, x = .int i) ∨ ∃ a b, x = .tup [.int a, .int b] := by
  rcases gc_rc g with ⟨_, rfl⟩ | ⟨_, r⟩
  · exact .inl rfl
  · exact rc_form r
theorem rc_no_non {k z : Str} : ¬ RC k z .non := fun r => by cases r
theorem rc_uniq {k z : Str} {x y : Pv} (r : RC k z x) (r' : RC k z y) : x = y := by
  cases r with
  | num d _ _ => cases r' with | num d' _ _ => obtain ⟨rfl, rfl⟩ := d.uniq d'; rfl
  | day d _ _ => cases r' with | day d' _ _ => obtain ⟨rfl, rfl, rfl⟩ := d.uniq d'; rfl
  | word _ => cases r' with | word _ => rfl
theorem a_goodcell {K : PySem.W.Frag} {C : Addr} {k z : Str} {x : Pv} {H : Hp} {Q : VK} {E : XK} (hk : KdS k) (hz : z.length ≤ 400) (g : GC k x z) (q : ∀ v H', Same H H' → Rp K H' v x → Q v H') : sp_readcell K C [.str k, .str z] H Q E := by
  refine ⟨k, _, rfl, hk, .inl ⟨z, rfl, hz, fun e H' s' => ?_, fun ne y r v H' s' hv => ?_, fun ne no => ?_⟩⟩
  all_goals rcases gc_rc g with ⟨e1, e2⟩ | ⟨n1, r1⟩
  · subst e2; exact q _ _ s' rfl
  · exact absurd e n1
  · exact absurd e1 ne
  · rw [rc_uniq r r1] at hv; exact q _ _ s' hv
  · exact absurd e1 ne
  · exact absurd r1 (no _)
theorem rc_ne {k z : Str} {x : Pv} (r : RC k z x) : z ≠ "-" := fun h => by
  subst h
  cases r with
  | num d _ _ =>
    rcases d with ⟨_, d, _⟩ | ⟨A, B, d, _⟩
    · exact absurd d.1.1 (by decide)
    · have : (47 : Nat) ∈ My.cs "-" := by rw [d]; exact My.no47_app _ _
      exact absurd this (by decide)
  | day d _ _ =>
    have := congrArg List.length d.2
    rw [My.dtx_len] at this
    exact absurd this (by decide)
  | word h => exact absurd h (by decide)
noncomputable def CellBy (K : PySem.W.Frag) (k z : Str) (vd : V) (HX : Hp) : Prop := (∃ xd, RC k z xd ∧ Rp K HX vd xd) ∨ (vd = .non ∧ ∀ xd, ¬ RC k z xd)
theorem a_cellby {K : PySem.W.Frag} {j : Int} {z : Str} {H : Hp} {Q : VK} {E : XK} (h0 : 0 ≤ j) (h1 : j < 3) (hz : z.length ≤ 400) (q : ∀ vd HX, Same H HX → CellBy K (kdOf j) z vd HX → Q vd HX) : sp_cellby K [.int j, .str z] H Q E :=
  ⟨j, z, rfl, ⟨h0, h1⟩, hz, fun x r v H' s' hv => q _ _ s' (.inl ⟨x, r, hv⟩), fun no H' s' => q _ _ s' (.inr ⟨rfl, no⟩)⟩
theorem rc_v {K : PySem.W.Frag} {H : Hp} {k z : Str} {x : Pv} {v : V} (r : RC k z x) (h : Rp K H v x) : v ≠ .non := fun e => rc_no_non (by rw [h.non.mp e] at r; exact r)
theorem z_eqGT {K : PySem.W.Frag} {H : Hp} {v : V} {z : Str} {x : Pv} {Q : VK} (hx : Rp K H v x) (hf : x = .non ∨ (∃ z, x = .str z) ∨ (∃ i, x = .int i) ∨ ∃ a b, x = .tup [.int a, .int b]) (q : ∀ b, Q (.bl b) H) : rEq v (.str z) H Q ∨ rEqTS K v (.str z) H Q := by
  rcases hf with rfl | ⟨z', rfl⟩ | ⟨i, rfl⟩ | ⟨a, b, rfl⟩
  · cases hx; exact .inl ⟨rfl, q _⟩
  · obtain ⟨rfl, _⟩ := hx; exact .inl ⟨rfl, q _⟩
  · cases hx; exact .inl ⟨rfl, q _⟩
  · obtain ⟨p, rfl, hp⟩ := hx.pair
    exact .inr ⟨p, _, z, rfl, rfl, hp, q _⟩
theorem kd_at {j : Int} (h0 : 0 ≤ j) (h1 : j < 3) : atI [V.str "number", V.str "word", V.str "day"] j = some (.str (kdOf j)) := by
  rcases (by omega : j = 0 ∨ j = 1 ∨ j = 2) with e | e | e <;> subst e <;> rfl
theorem ok_law (T : Txt K mg t) : FnOk P w K mg base CX0 8 t.f_law t.d_law ["_law_script"] (sp_law K) := by
  have G_l_draws := ok_l_draws (P := P) (w := w) (base := base) T
  have G_l_good := ok_l_good (P := P) (w := w) (base := base) T
  have G_show_cell := ok_show_cell (P := P) (w := w) (base := base) T
  have G_read_cell := ok_read_cell (P := P) (w := w) (base := base) T
  have G_l_alike := ok_l_alike (P := P) (w := w) (base := base) T
  have G_l_made := ok_l_made (P := P) (w := w) (base := base) T
  have G_l_cell_by := ok_l_cell_by (P := P) (w := w) (base := base) T
  have G_l_refused := ok_l_refused (P := P) (w := w) (base := base) T
  refine T.F_law.ok sc_law (fun vs H Q E h => ?_) (fun cdv A outer s H vs Q E hr h => ?_)
  · obtain ⟨a, ns, rfl, _⟩ := h
    rfl
  obtain ⟨a, ns, rfl, hS, hn, hb, q⟩ := h
  refine' ⟨_, ?h, ?g⟩
  case h =>
   refine' pss_cons ?x1_0 ?x1_1
   case x1_0 =>
    refine' ps_for ?x2_0 ?x2_1 ?x2_2 ?x2_3 ?x2_4
    case x2_0 => exact PassesOwn.never
    case x2_1 => exact rfl
    case x2_2 => exact (pi_list (pe_slice sl_list (pe_op op_catL (pv 0) (pe_lst (pa_cons pe_int pa_nil))) po_none (po_some pe_int)))
    case x2_3 => exact (pg_name (i := 1) sc_law.nd rfl (Or.inl rfl))
    case x2_4 =>
     refine' pss_cons ?x3_0 ?x3_1
     case x3_0 =>
      refine' ps_set (i := 2) ?x4_0 ?x4_1 ?x4_2 ?x4_3 ?y4 ?z4
      case y4 => rfl
      case z4 => exact .inr rfl
      case x4_0 => exact sc_law.nd
      case x4_1 => exact rfl
      case x4_2 => exact (Or.inl rfl)
      case x4_3 =>
       refine' pe_op ?x5_0 ?x5_1 ?x5_2
       case x5_0 => exact op_cat
       case x5_1 =>
        refine' pe_lst ?x6_0
        case x6_0 =>
         refine' pa_cons ?x7_0 ?x7_1
         case x7_0 => exact pe_int
         case x7_1 =>
          refine' pa_cons ?x8_0 ?x8_1
          case x8_0 => exact pe_int
          case x8_1 =>
           refine' pa_cons ?x9_0 ?x9_1
           case x9_0 => exact pe_int
           case x9_1 =>
            refine' pa_cons ?x10_0 ?x10_1
            case x10_0 => exact (pe_op op_mulB (pe_op op_mulB pe_int pe_int) pe_int)
            case x10_1 =>
             refine' pa_cons ?x11_0 ?x11_1
             case x11_0 => exact pe_int
             case x11_1 =>
              refine' pa_cons ?x12_0 ?x12_1
              case x12_0 => exact pe_int
              case x12_1 =>
               refine' pa_cons ?x13_0 ?x13_1
               case x13_0 => exact pe_int
               case x13_1 => exact pa_nil
       case x5_2 => exact (pe_op op_rep (pe_lst (pa_cons pe_int pa_nil)) pe_int)
     case x3_1 =>
      refine' pss_cons ?x14_0 ?x14_1
      case x14_0 =>
       refine' ps_set (i := 3) ?x15_0 ?x15_1 ?x15_2 ?x15_3 ?y15 ?z15
       case y15 => rfl
       case z15 => exact .inr rfl
       case x15_0 => exact sc_law.nd
       case x15_1 => exact rfl
       case x15_2 => exact (Or.inl rfl)
       case x15_3 =>
        refine' pe_call ?x16_0 ?x16_1 ?x16_2 ?x16_3 ?x16_4 ?x16_5 ?x16_6 ?x16_7 ?x16_8
        case x16_0 => exact G_l_draws
        case x16_1 => exact (hr.mono (by decide))
        case x16_2 => exact rfl
        case x16_3 => exact T.m_l_draws
        case x16_4 => exact T.k_l_draws
        case x16_5 => exact T.b_l_draws
        case x16_6 => exact .nil
        case x16_7 => exact pass0
        case x16_8 =>
         refine' pa_cons ?x17_0 ?x17_1
         case x17_0 => exact (pv 1)
         case x17_1 =>
          refine' pa_cons ?x18_0 ?x18_1
          case x18_0 =>
           refine' pe_op ?x19_0 ?x19_1 ?x19_2
           case x19_0 => exact op_cat
           case x19_1 => exact (pv 2)
           case x19_2 =>
            refine' pe_lst ?x20_0
            case x20_0 =>
             refine' pa_cons ?x21_0 ?x21_1
             case x21_0 => exact pe_int
             case x21_1 =>
              refine' pa_cons ?x22_0 ?x22_1
              case x22_0 => exact pe_int
              case x22_1 =>
               refine' pa_cons ?x23_0 ?x23_1
               case x23_0 => exact (pe_op op_pow pe_int pe_int)
               case x23_1 =>
                refine' pa_cons ?x24_0 ?x24_1
                case x24_0 => exact (pe_op op_pow pe_int pe_int)
                case x24_1 =>
                 refine' pa_cons ?x25_0 ?x25_1
                 case x25_0 => exact pe_int
                 case x25_1 =>
                  refine' pa_cons ?x26_0 ?x26_1
                  case x26_0 => exact pe_int
                  case x26_1 =>
                   refine' pa_cons ?x27_0 ?x27_1
                   case x27_0 => exact pe_int
                   case x27_1 =>
                    refine' pa_cons ?x28_0 ?x28_1
                    case x28_0 => exact pe_int
                    case x28_1 => exact pa_nil
          case x18_1 => exact pa_nil
      case x14_1 =>
       refine' pss_cons ?x29_0 ?x29_1
       case x29_0 => exact (ps_set (i := 4) sc_law.nd rfl (Or.inl rfl) (pe_ix ix_list (pe_lst (pa_cons pe_str (pa_cons pe_str (pa_cons pe_str pa_nil)))) (pe_ix ix_list (pv 3) pe_int (fun _ _ => rfl)) (fun _ _ => rfl)))
       case x29_1 =>
        refine' pss_cons ?x30_0 ?x30_1
        case x30_0 => exact (ps_asg (pe_call G_l_good (hr.mono (by decide)) rfl T.m_l_good T.k_l_good T.b_l_good .nil pass0 (pa_cons (pv 3) pa_nil)) (pg_tup rfl (pgs_cons (pg_name (i := 11) sc_law.nd rfl (Or.inl rfl)) (pgs_cons (pg_name (i := 12) sc_law.nd rfl (Or.inl rfl)) pgs_nil))))
        case x30_1 =>
         refine' pss_cons ?x31_0 ?x31_1
         case x31_0 => exact (ps_set (i := 5) sc_law.nd rfl (Or.inl rfl) (pe_call G_show_cell (hr.mono (by decide)) rfl T.m_show_cell T.k_show_cell T.b_show_cell .nil pass0 (pa_cons (pv 4) (pa_cons (pv 11) pa_nil))))
         case x31_1 =>
          refine' pss_cons ?x32_0 ?x32_1
          case x32_0 => exact (ps_if (PW.pt (pw_or (pt_not (pt_val (pe_isi isi_str rfl rfl T.z_isinstance T.z_str bt_str (pv 5)))) (pw_or (pt_cmpR op_ne (pv 5) (pv 12) (nomark _)) (pw_or1 (pt_not (pt_val (pe_call G_l_alike (hr.mono (by decide)) rfl T.m_l_alike T.k_l_alike T.b_l_alike .nil pass0 (pa_cons (pe_call G_read_cell (hr.mono (by decide)) rfl T.m_read_cell T.k_read_cell T.b_read_cell .nil passE0 (pa_cons (pv 4) (pa_cons (pv 12) pa_nil))) (pa_cons (pv 11) pa_nil))))))))) (pss_one (ps_ret pe_bl)) pss_nil)
          case x32_1 =>
           refine' pss_cons ?x33_0 ?x33_1
           case x33_0 => exact (ps_set (i := 6) sc_law.nd rfl (Or.inl rfl) (pe_op op_mod (pe_op op_add (pe_ix ix_list (pv 3) pe_int (fun _ _ => rfl)) (pe_op op_mulB (pe_callTy call_int1 rfl T.z_int bt_int (pa_cons (pe_cmpR op_eq (pe_op op_mod (pe_ix ix_list (pv 3) pe_int (fun _ _ => rfl)) pe_int) pe_int (nomark _)) pa_nil)) (pe_op op_add pe_int (pe_op op_mod (pe_ix ix_list (pv 3) pe_int (fun _ _ => rfl)) pe_int)))) pe_int))
           case x33_1 =>
            refine' pss_cons ?x34_0 ?x34_1
            case x34_0 => exact (ps_set (i := 7) sc_law.nd rfl (Or.inl rfl) (pe_ix ix_list (pe_lst (pa_cons pe_str (pa_cons pe_str (pa_cons pe_str pa_nil)))) (pv 6) (fun _ _ => rfl)))
            case x34_1 =>
             refine' pss_cons ?x35_0 ?x35_1
             case x35_0 => exact (ps_set (i := 8) sc_law.nd rfl (Or.inl rfl) (pe_call G_l_made (hr.mono (by decide)) rfl T.m_l_made T.k_l_made T.b_l_made .nil pass0 (pa_cons (pv 12) (pa_cons (pv 3) pa_nil))))
             case x35_1 =>
              refine' pss_cons ?x36_0 ?x36_1
              case x36_0 => exact (ps_set (i := 9) sc_law.nd rfl (Or.inl rfl) (pe_call G_l_cell_by (hr.mono (by decide)) rfl T.m_l_cell_by T.k_l_cell_by T.b_l_cell_by .nil pass0 (pa_cons (pv 6) (pa_cons (pv 8) pa_nil))))
              case x36_1 =>
               refine' pss_cons ?x37_0 ?x37_1
               case x37_0 => exact (ps_if (PW.pt (pw_or (pt_cmpR op_eq (pv 8) pe_str (nomark _)) (pw_or1 (pt_cmpR op_notN' (pv 9) pe_non (nomark _))))) (pss_one (ps_if (pt_not (pt_val (pe_call G_l_alike (hr.mono (by decide)) rfl T.m_l_alike T.k_l_alike T.b_l_alike .nil pass0 (pa_cons (pe_call G_read_cell (hr.mono (by decide)) rfl T.m_read_cell T.k_read_cell T.b_read_cell .nil passE0 (pa_cons (pv 7) (pa_cons (pv 8) pa_nil))) (pa_cons (pv 9) pa_nil))))) (pss_one (ps_ret pe_bl)) pss_nil)) (pss_one (ps_if (pt_not (pt_val (pe_call G_l_refused (hr.mono (by decide)) rfl T.m_l_refused T.k_l_refused T.b_l_refused .nil pass0 (pa_cons (pv 7) (pa_cons (pv 8) pa_nil))))) (pss_one (ps_ret pe_bl)) pss_nil)))
               case x37_1 =>
                refine' pss_cons ?x38_0 ?x38_1
                case x38_0 =>
                 refine' ps_set (i := 10) ?x39_0 ?x39_1 ?x39_2 ?x39_3 ?y39 ?z39
                 case y39 => rfl
                 case z39 => exact .inr rfl
                 case x39_0 => exact sc_law.nd
                 case x39_1 => exact rfl
                 case x39_2 => exact (Or.inl rfl)
                 case x39_3 =>
                  refine' pe_ix ?x40_0 ?x40_1 ?x40_2 ?x40_3
                  case x40_0 => exact ix_list
                  case x40_1 =>
                   refine' pe_lst ?x41_0
                   case x41_0 =>
                    refine' pa_cons ?x42_0 ?x42_1
                    case x42_0 => exact pe_non
                    case x42_1 =>
                     refine' pa_cons ?x43_0 ?x43_1
                     case x43_0 => exact pe_int
                     case x43_1 =>
                      refine' pa_cons ?x44_0 ?x44_1
                      case x44_0 => exact pe_bl
                      case x44_1 =>
                       refine' pa_cons ?x45_0 ?x45_1
                       case x45_0 => exact (pe_lst (pa_cons (pv 12) pa_nil))
                       case x45_1 =>
                        refine' pa_cons ?x46_0 ?x46_1
                        case x46_0 => exact (pe_tup (pa_cons (pv 12) pa_nil))
                        case x46_1 =>
                         refine' pa_cons ?x47_0 ?x47_1
                         case x47_0 => exact (pe_cmpR (op_eq.or (op_eqTS hr.units0)) (pv 11) (pv 12) (nomark _))
                         case x47_1 => exact pa_nil
                  case x40_2 => exact (pe_op op_mod (pe_ix ix_list (pv 3) pe_int (fun _ _ => rfl)) pe_int)
                  case x40_3 => exact (fun _ _ => rfl)
                case x38_1 => exact (pss_one (ps_if (PW.pt (pw_or (pt_not (pt_val (pe_call G_l_refused (hr.mono (by decide)) rfl T.m_l_refused T.k_l_refused T.b_l_refused .nil pass0 (pa_cons (pv 4) (pa_cons (pv 10) pa_nil))))) (pw_or1 (pt_not (pt_val (pe_call G_l_alike (hr.mono (by decide)) rfl T.m_l_alike T.k_l_alike T.b_l_alike .nil pass0 (pa_cons (pe_call G_read_cell (hr.mono (by decide)) rfl T.m_read_cell T.k_read_cell T.b_read_cell .nil passE0 (pa_cons (pv 4) (pa_cons (pv 12) pa_nil))) (pa_cons (pv 11) pa_nil)))))))) (pss_one (ps_ret pe_bl)) pss_nil))
   case x1_1 => exact (pss_one (ps_ret pe_bl))
  refine z_go (σ := [some _, none, none, none, none, none, none, none, none, none, none, none, none]) rfl ?_
  walk_at "runF"
  walk_at "run"
  rename_i l7 H7 n7 s7 e7
  refine z_catL (s7.seq hS) (SqL.of e7) (by rw [List.length_map]; simp; omega) (fun l8 H8 n8 s8 e8 => ?_)
  walk_at "run"
  refine z_slLm (SqL.of e8) (fun lc H9 n9 s9 e9 => ?_)
  obtain ⟨ms, hms⟩ : ∃ ms : List Int, cutV (ns.map V.int ++ [V.int 0]) none (some 64) = ms.map V.int := by
    refine ⟨(ns ++ [0]).take 64, ?_⟩
    rw [show (64 : Int) = ((64 : Nat) : Int) from rfl, cut_0n, List.map_take, List.map_append]
    rfl
  rw [hms] at e9
  have hL : SqL K H9 lc (ms.map V.int) := SqL.of e9
  clear e7 e8 e9 n7 n8 n9 s7 s8 s9 hms hS
  walk_at "run"
  refine f_list (K := K) (xs := ms.map V.int) (fun i σ HD => (∃ u1 u2 u3 u4 u5 u6 u7 u8 u9 ua ub uc, σ = [some (.ref a), u1, u2, u3, u4, u5, u6, u7, u8, u9, ua, ub, uc]) ∧ Same H9 HD) ⟨⟨none, none, none, none, none, none, none, none, none, none, none, none, rfl⟩, Same.refl _⟩ (fun i σ HD _ ⟨_, sD⟩ => sD.seq hL) ?_ ?_
  rotate_left
  · rintro σ HD ⟨⟨u1, u2, u3, u4, u5, u6, u7, u8, u9, ua, ub, uc, rfl⟩, sD⟩
    walk_at "run"
    exact q _
  rintro i v σ HD hi ⟨⟨u1, u2, u3, u4, u5, u6, u7, u8, u9, ua, ub, uc, rfl⟩, sD⟩
  obtain ⟨c, _, rfl⟩ := of_map_at hi
  walk_at "run"
  rename_i pt Ht nt st et p26 H26 n26 s26 e26
  refine z_rep e26 (by decide) (by decide) (by decide) (fun pr Hr nr sr er => ?_)
  walk_at "run"
  rename_i pc Hc nc sc ec p8 H8 n8 s8 e8 pd Hd nd sd ed
  have sA : Same HD Hd := st.trans (s26.trans (sr.trans (sc.trans (s8.trans sd))))
  have ed' : Hd pd = some (.lst (([3, 9, 10, 11400, 1000, 8, 2, 26, 26, 26, 26, 26, 26, 26, 26, 2, 4, 1000000000, 1000000000, 90, 8000, 12, 31] : List Int).map V.int)) := by rw [ed, p9]; rfl
  clear et e26 er ec e8 ed st s26 sr sc s8 sd nt n26 nr nc n8 nd
  refine ⟨c, pd, [3, 9, 10, 11400, 1000, 8, 2, 26, 26, 26, 26, 26, 26, 26, 26, 2, 4, 1000000000, 1000000000, 90, 8000, 12, 31], rfl, ed', by decide, by decide, fun pq H1 ds s1 n1 e1 hdl hdb => ?_⟩
  have hD : Dr ds := ⟨hdl, hdb⟩
  clear ed'
  obtain ⟨d0, g0, b0⟩ := hD.at 0 3 rfl
  obtain ⟨d3, g3, b3⟩ := hD.at 3 11400 rfl
  obtain ⟨d4, g4, b4⟩ := hD.at 4 1000 rfl
  have a0 : atI (ds.map V.int) 0 = some (.int d0) := atI_nat (j := 0) (map_at g0)
  have a3 : atI (ds.map V.int) 3 = some (.int d3) := atI_nat (j := 3) (map_at g3)
  have a4 : atI (ds.map V.int) 4 = some (.int d4) := atI_nat (j := 4) (map_at g4)
  have k0 : ds.getD 0 0 = d0 := by rw [List.getD_eq_getElem?_getD, g0]; rfl
  have hL1 : SqL K H1 pq (ds.map V.int) := SqL.of e1
  have sB := sA.trans s1
  clear sA s1
  walk_at "run"
  rename_i p2 H2 n2 s2 e2
  refine z_ixL (s2.seq hL1) a0 ?_
  refine z_ixL (SqL.of e2) (kd_at b0.1 b0.2) ?_
  have hL2 := s2.seq hL1
  walk_at "run"
  refine ⟨pq, ds, rfl, hL2, hD, fun p3 H3 vg x z s3 hp3 hx hg hz => ?_⟩
  rw [k0] at hg
  have hL3 := s3.seq hL2
  have sC := sB.trans (s2.trans s3)
  clear sB s2 s3 e2 n2 hL1 hL2 e1 n1
  walk_at "run"
  refine ⟨kdOf d0, vg, x, z, rfl, hx, hg, fun H4 s4 => ?_⟩
  walk_at "run"
  refine z_iteD (fun _ => ?_) (fun h => absurd rfl h)
  walk_at "run"
  refine a_goodcell (kdOf_ok d0) (by omega) hg (fun v5 H5 s5 hv5 => ?_)
  walk_at "run"
  refine ⟨v5, vg, x, rfl, hv5, (hx.same s4).same s5, gc_form hg, fun H6 s6 => ?_⟩
  have sE := sC.trans (s4.trans (s5.trans s6))
  have hx6 := ((hx.same s4).same s5).same s6
  have hL6 := s6.seq (s5.seq (s4.seq hL3))
  clear s4 s5 s6 hv5 hL3 sC hx hp3
  walk_at "run"
  refine z_ixL hL6 a0 ?_
  walk_at "run"
  refine z_ixL hL6 a4 ?_
  walk_at "run"
  refine z_ixL hL6 a3 ?_
  have m1 : Mid (if decide (d4 % 7 = 3) = true then 1 else 0) := by
    unfold Mid My.Bd
    split <;> exact Nat.lt_of_lt_of_le (show _ < 2 by decide) (Nat.le_self_pow (by decide) 2)
  have m2 : Mid (1 + d3 % 2) := (show My.Bd 64 (1 + d3 % 2) by unfold My.Bd; omega).mono (by decide)
  walk_at "run"
  have j0 := Int.emod_nonneg (d0 + (if decide (d4 % 7 = 3) = true then 1 else 0) * (1 + d3 % 2)) (show (3 : Int) ≠ 0 by decide)
  have j1 := Int.emod_lt_of_pos (d0 + (if decide (d4 % 7 = 3) = true then 1 else 0) * (1 + d3 % 2)) (show (0 : Int) < 3 by decide)
  generalize (d0 + (if decide (d4 % 7 = 3) = true then 1 else 0) * (1 + d3 % 2)) % 3 = j at *
  rename_i p7 H7 n7 s7 e7
  refine z_ixL (SqL.of e7) (kd_at j0 j1) ?_
  have hx7 := hx6.same s7
  have hL7 := s7.seq hL6
  have sF := sE.trans s7
  clear s7 e7 n7 sE hL6 hx6
  walk_at "run"
  refine ⟨z, pq, ds, rfl, hL7, hD, hz, fun z' H8 s8 hz' => ?_⟩
  have hx8 := hx7.same s8
  have hL8 := s8.seq hL7
  have sG := sF.trans s8
  clear s8 sF hL7 hx7
  walk_at "run"
  refine a_cellby j0 j1 hz' (fun vd HX sX hvd => ?_)
  walk_at "runI"
  refine z_cut (fun σ HY => σ = [some (V.ref a), some (V.int c), some (V.ref pc), some (V.ref pq), some (V.str (kdOf d0)), some (V.str z), some (V.int j), some (V.str (kdOf j)), some (V.str z'), some vd, ua, some vg, some (V.str z)] ∧ Same HX HY) (fun U' hU => ?_) ?_
  · walk_at "run"
    refine z_iteD (fun h1 => ?_) (fun h1 => ?_)
    · subst h1
      have hvn : vd = .non := by
        rcases hvd with ⟨xd, r, _⟩ | ⟨e, _⟩
        · exact absurd rfl (rc_ne r)
        · exact e
      subst hvn
      walk_at "run"
      refine ⟨_, _, rfl, kdOf_ok j, .inl ⟨_, rfl, by decide, fun _ HZ sZ => ?_, fun ne => absurd rfl ne, fun ne => absurd rfl ne⟩⟩
      walk_at "run"
      refine ⟨.non, .non, .non, rfl, rfl, rfl, .inl rfl, fun HW sW => ?_⟩
      walk_at "run"
      exact hU _ _ ⟨rfl, sZ.trans sW⟩
    · walk_at "run"
      refine z_notNv ?_
      walk_at "run"
      rcases hvd with ⟨xd, r, hxd⟩ | ⟨rfl, no⟩
      · rw [decide_eq_false (rc_v r hxd)]
        walk_at "run"
        refine ⟨_, _, rfl, kdOf_ok j, .inl ⟨_, rfl, hz', fun e => absurd e h1, fun _ y r' v HZ sZ hv => ?_, fun _ no => absurd r (no _)⟩⟩
        rw [rc_uniq r' r] at hv
        walk_at "run"
        refine ⟨v, vd, xd, rfl, hv, hxd.same sZ, rc_form r, fun HW sW => ?_⟩
        walk_at "run"
        exact hU _ _ ⟨rfl, sZ.trans sW⟩
      · rw [decide_eq_true rfl]
        walk_at "run"
        refine ⟨_, _, rfl, kdOf_ok j, .inl ⟨_, rfl, hz', h1, no⟩, fun HW sW => ?_⟩
        walk_at "run"
        exact hU _ _ ⟨rfl, sW⟩
  rintro σ HY ⟨rfl, sY⟩
  have hxY := (hx8.same sX).same sY
  have hLY := sY.seq (sX.seq hL8)
  have sI := sG.trans (sX.trans sY)
  clear sX sY sG hL8 hx8 hvd
  walk_at "run"
  rename_i pl Hl nl sl el pt Ht nt st et
  refine z_eqGT ((hxY.same sl).same st) (gc_form hg) (fun bb => ?_)
  walk_at "run"
  rename_i pm Hm nm sm em
  have sT : Same HY Hm := sl.trans (st.trans sm)
  have hLm := sT.seq hLY
  have hxm := hxY.same sT
  have fl := sm _ _ (st _ _ el)
  have ft := sm _ _ et
  refine z_ixL hLm a3 ?_
  walk_at "run"
  refine z_ixAny (fun v => ∃ g, tgIs K Hm v g ∧ g ≠ .str) (SqL.of em) (Int.emod_nonneg _ (by decide)) (Int.emod_lt_of_pos d3 (by decide)) ?_ ?_
  · exact all_cons ⟨.non, True.intro, nofun⟩ (all_cons ⟨.int, True.intro, nofun⟩ (all_cons ⟨.bl, True.intro, nofun⟩ (all_cons ⟨.lst, ⟨_, SqL.of fl⟩, nofun⟩ (all_cons ⟨.tup, ⟨_, SqT.of ft⟩, nofun⟩ (all_cons ⟨.bl, True.intro, nofun⟩ all_nil)))))
  rintro vo ⟨g, hgo, ng⟩
  have sJ := sI.trans sT
  clear sT sI sl st sm el et em fl ft hLY hxY hLm
  walk_at "run"
  refine ⟨_, vo, rfl, kdOf_ok d0, .inr ⟨g, hgo, ng⟩, fun HA sa => ?_⟩
  walk_at "run"
  refine a_goodcell (kdOf_ok d0) (by omega) hg (fun vb HB sb hvb => ?_)
  walk_at "run"
  refine ⟨vb, vg, x, rfl, hvb, (hxm.same sa).same sb, gc_form hg, fun HC sc => ?_⟩
  walk_at "run"
  exact ⟨⟨_, _, _, _, _, _, _, _, _, _, _, _, rfl⟩, sD.trans (sJ.trans (sa.trans (sb.trans sc)))⟩
end
theorem all_mk {l : PySem.W.OpenLaw} {w : World} {K : PySem.W.Frag} {h : Heap} {mg : Str → Option Value} {fa f0 f1 f2 f3 f4 f5 f6 f7 f8 f9 f10 f11 f12 f13 f14 f15 f16 f17 f18 f19 f20 f21 f22 f23 f24 f25 f26 f27 f28 f29 f30 f31 f32 f33 f34 f35 f36 f37 f38 f39 C_NoNumber C_NoDay C_MarkError C_NoTable FI_NoTable g_MONTH_LENGTHS dT3 : Addr} (X : K.In h) (G : h.Ns mainGlobals mg) (hfa : mg "law" = some (.ref fa))
    {od0 an0 od1 an1 od2 an2 od3 an3 od4 an4 od5 an5 od6 an6 od7 an7 od8 an8 od9 an9 od10 an10 od11 an11 od12 an12 od13 an13 od14 an14 od15 an15 od16 an16 od17 an17 od18 an18 od19 an19 od20 an20 od21 an21 od22 an22 od23 an23 od24 an24 od25 an25 od26 an26 od27 an27 od28 an28 od29 an29 od30 an30 od31 an31 od32 an32 od33 an33 od34 an34 od35 an35 od36 an36 od37 an37 od38 an38 od39 an39 : Option Addr} {sl0 sl1 sl2 sl3 sl4 sl5 sl6 sl7 sl8 sl9 sl10 sl11 sl12 sl13 sl14 sl15 sl16 sl17 sl18 sl19 sl20 sl21 sl22 sl23 sl24 sl25 sl26 sl27 sl28 sl29 sl30 sl31 sl32 sl33 sl34 sl35 sl36 sl37 sl38 sl39 : Array (Option Value)} {oc0 kV0 dc0 pm0 cd0 ct0 oc1 kV1 dc1 pm1 cd1 ct1 oc2 kV2 dc2 pm2 cd2 ct2 oc3 kV3 dc3 pm3 cd3 ct3 oc4 kV4 dc4 pm4 cd4 ct4 oc5 kV5 dc5 pm5 cd5 ct5 oc6 kV6 dc6 pm6 cd6 ct6 oc7 kV7 dc7 pm7 cd7 ct7 oc8 kV8 dc8 pm8 cd8 ct8 oc9 kV9 dc9 pm9 cd9 ct9 oc10 kV10 dc10 pm10 cd10 ct10 oc11 kV11 dc11 pm11 cd11 ct11 oc12 kV12 dc12 pm12 cd12 ct12 oc13 kV13 dc13 pm13 cd13 ct13 oc14 kV14 dc14 pm14 cd14 ct14 oc15 kV15 dc15 pm15 cd15 ct15 oc16 kV16 dc16 pm16 cd16 ct16 oc17 kV17 dc17 pm17 cd17 ct17 oc18 kV18 dc18 pm18 cd18 ct18 oc19 kV19 dc19 pm19 cd19 ct19 oc20 kV20 dc20 pm20 cd20 ct20 oc21 kV21 dc21 pm21 cd21 ct21 oc22 kV22 dc22 pm22 cd22 ct22 oc23 kV23 dc23 pm23 cd23 ct23 oc24 kV24 dc24 pm24 cd24 ct24 oc25 kV25 dc25 pm25 cd25 ct25 oc26 kV26 dc26 pm26 cd26 ct26 oc27 kV27 dc27 pm27 cd27 ct27 oc28 kV28 dc28 pm28 cd28 ct28 oc29 kV29 dc29 pm29 cd29 ct29 oc30 kV30 dc30 pm30 cd30 ct30 oc31 kV31 dc31 pm31 cd31 ct31 oc32 kV32 dc32 pm32 cd32 ct32 oc33 kV33 dc33 pm33 cd33 ct33 oc34 kV34 dc34 pm34 cd34 ct34 oc35 kV35 dc35 pm35 cd35 ct35 oc36 kV36 dc36 pm36 cd36 ct36 oc37 kV37 dc37 pm37 cd37 ct37 oc38 kV38 dc38 pm38 cd38 ct38 oc39 kV39 dc39 pm39 cd39 ct39 : Value}
    {odi_NoTable ani_NoTable : Option Addr} {sli_NoTable : Array (Option Value)} {oci_NoTable kVi_NoTable dci_NoTable pmi_NoTable cdi_NoTable cti_NoTable : Value}
    {g_DIGITS : Tok}
    {g_MOST_FIGURES : Tok}
    {g_MOST_BOTTOM : Tok}
    {g_LAST_DAY : Tok}
    {g_LAST_YEAR : Tok}
    {g_FIRST_TOLD_YEAR : Tok}
    {g_LAST_TOLD_YEAR : Tok}
    {g_DAYS_OF_400_YEARS : Tok}
    {g_LONGEST_WORD : Tok}
    {g_LETTERS : Tok}
    {gd_MONTH_LENGTHS : Option Addr} {gn_MONTH_LENGTHS : Nat} {gs_MONTH_LENGTHS : Array (Option Value)} {tg_MONTH_LENGTHS_0 tg_MONTH_LENGTHS_1 tg_MONTH_LENGTHS_2 tg_MONTH_LENGTHS_3 tg_MONTH_LENGTHS_4 tg_MONTH_LENGTHS_5 tg_MONTH_LENGTHS_6 tg_MONTH_LENGTHS_7 tg_MONTH_LENGTHS_8 tg_MONTH_LENGTHS_9 tg_MONTH_LENGTHS_10 tg_MONTH_LENGTHS_11 : Tok}
    {g_NOTHING : Tok}
    {tc3 : Value} {td3 : Option Addr} {tn3 : Nat} {ts3 : Array (Option Value)} {tk3 : Tok}
    (a0 : PySem.W.nsIn K mainGlobals "is_whole" = some (some (.ref f0))) (l0 : K.lookup f0 = some ⟨oc0, od0, .func (PySem.W.fnOf "is_whole" "is_whole" (defArgs s_is_whole) (defBody s_is_whole) (defScope s_is_whole) .none kV0 dc0 pm0 an0 cd0 ct0), sl0⟩) (c0 : PySem.W.codeIn K cd0 "is_whole" = true) (k0 : PySem.W.keepIn K (.ref f0) = true)
    (a1 : PySem.W.nsIn K mainGlobals "divisor_of" = some (some (.ref f1))) (l1 : K.lookup f1 = some ⟨oc1, od1, .func (PySem.W.fnOf "divisor_of" "divisor_of" (defArgs s_divisor_of) (defBody s_divisor_of) (defScope s_divisor_of) .none kV1 dc1 pm1 an1 cd1 ct1), sl1⟩) (c1 : PySem.W.codeIn K cd1 "divisor_of" = true) (k1 : PySem.W.keepIn K (.ref f1) = true)
    (a2 : PySem.W.nsIn K mainGlobals "is_number" = some (some (.ref f2))) (l2 : K.lookup f2 = some ⟨oc2, od2, .func (PySem.W.fnOf "is_number" "is_number" (defArgs s_is_number) (defBody s_is_number) (defScope s_is_number) .none kV2 dc2 pm2 an2 cd2 ct2), sl2⟩) (c2 : PySem.W.codeIn K cd2 "is_number" = true) (k2 : PySem.W.keepIn K (.ref f2) = true)
    (a3 : PySem.W.nsIn K mainGlobals "number" = some (some (.ref f3))) (l3 : K.lookup f3 = some ⟨oc3, od3, .func (PySem.W.fnOf "number" "number" (defArgs s_number) (defBody s_number) (defScope s_number) (.ref dT3) kV3 dc3 pm3 an3 cd3 ct3), sl3⟩) (c3 : PySem.W.codeIn K cd3 "number" = true) (k3 : PySem.W.keepIn K (.ref f3) = true)
    (dl3 : K.lookup dT3 = some ⟨tc3, td3, .seq #[.int 1 tk3] tn3, ts3⟩)
    (a4 : PySem.W.nsIn K mainGlobals "are_digits" = some (some (.ref f4))) (l4 : K.lookup f4 = some ⟨oc4, od4, .func (PySem.W.fnOf "are_digits" "are_digits" (defArgs s_are_digits) (defBody s_are_digits) (defScope s_are_digits) .none kV4 dc4 pm4 an4 cd4 ct4), sl4⟩) (c4 : PySem.W.codeIn K cd4 "are_digits" = true) (k4 : PySem.W.keepIn K (.ref f4) = true)
    (a5 : PySem.W.nsIn K mainGlobals "show_number" = some (some (.ref f5))) (l5 : K.lookup f5 = some ⟨oc5, od5, .func (PySem.W.fnOf "show_number" "show_number" (defArgs s_show_number) (defBody s_show_number) (defScope s_show_number) .none kV5 dc5 pm5 an5 cd5 ct5), sl5⟩) (c5 : PySem.W.codeIn K cd5 "show_number" = true) (k5 : PySem.W.keepIn K (.ref f5) = true)
    (a6 : PySem.W.nsIn K mainGlobals "read_figures" = some (some (.ref f6))) (l6 : K.lookup f6 = some ⟨oc6, od6, .func (PySem.W.fnOf "read_figures" "read_figures" (defArgs s_read_figures) (defBody s_read_figures) (defScope s_read_figures) .none kV6 dc6 pm6 an6 cd6 ct6), sl6⟩) (c6 : PySem.W.codeIn K cd6 "read_figures" = true) (k6 : PySem.W.keepIn K (.ref f6) = true)
    (a7 : PySem.W.nsIn K mainGlobals "read_number" = some (some (.ref f7))) (l7 : K.lookup f7 = some ⟨oc7, od7, .func (PySem.W.fnOf "read_number" "read_number" (defArgs s_read_number) (defBody s_read_number) (defScope s_read_number) .none kV7 dc7 pm7 an7 cd7 ct7), sl7⟩) (c7 : PySem.W.codeIn K cd7 "read_number" = true) (k7 : PySem.W.keepIn K (.ref f7) = true)
    (a8 : PySem.W.nsIn K mainGlobals "is_told" = some (some (.ref f8))) (l8 : K.lookup f8 = some ⟨oc8, od8, .func (PySem.W.fnOf "is_told" "is_told" (defArgs s_is_told) (defBody s_is_told) (defScope s_is_told) .none kV8 dc8 pm8 an8 cd8 ct8), sl8⟩) (c8 : PySem.W.codeIn K cd8 "is_told" = true) (k8 : PySem.W.keepIn K (.ref f8) = true)
    (a9 : PySem.W.nsIn K mainGlobals "is_leap" = some (some (.ref f9))) (l9 : K.lookup f9 = some ⟨oc9, od9, .func (PySem.W.fnOf "is_leap" "is_leap" (defArgs s_is_leap) (defBody s_is_leap) (defScope s_is_leap) .none kV9 dc9 pm9 an9 cd9 ct9), sl9⟩) (c9 : PySem.W.codeIn K cd9 "is_leap" = true) (k9 : PySem.W.keepIn K (.ref f9) = true)
    (a10 : PySem.W.nsIn K mainGlobals "month_length" = some (some (.ref f10))) (l10 : K.lookup f10 = some ⟨oc10, od10, .func (PySem.W.fnOf "month_length" "month_length" (defArgs s_month_length) (defBody s_month_length) (defScope s_month_length) .none kV10 dc10 pm10 an10 cd10 ct10), sl10⟩) (c10 : PySem.W.codeIn K cd10 "month_length" = true) (k10 : PySem.W.keepIn K (.ref f10) = true)
    (a11 : PySem.W.nsIn K mainGlobals "year_begin" = some (some (.ref f11))) (l11 : K.lookup f11 = some ⟨oc11, od11, .func (PySem.W.fnOf "year_begin" "year_begin" (defArgs s_year_begin) (defBody s_year_begin) (defScope s_year_begin) .none kV11 dc11 pm11 an11 cd11 ct11), sl11⟩) (c11 : PySem.W.codeIn K cd11 "year_begin" = true) (k11 : PySem.W.keepIn K (.ref f11) = true)
    (a12 : PySem.W.nsIn K mainGlobals "is_day" = some (some (.ref f12))) (l12 : K.lookup f12 = some ⟨oc12, od12, .func (PySem.W.fnOf "is_day" "is_day" (defArgs s_is_day) (defBody s_is_day) (defScope s_is_day) .none kV12 dc12 pm12 an12 cd12 ct12), sl12⟩) (c12 : PySem.W.codeIn K cd12 "is_day" = true) (k12 : PySem.W.keepIn K (.ref f12) = true)
    (a13 : PySem.W.nsIn K mainGlobals "is_told_day" = some (some (.ref f13))) (l13 : K.lookup f13 = some ⟨oc13, od13, .func (PySem.W.fnOf "is_told_day" "is_told_day" (defArgs s_is_told_day) (defBody s_is_told_day) (defScope s_is_told_day) .none kV13 dc13 pm13 an13 cd13 ct13), sl13⟩) (c13 : PySem.W.codeIn K cd13 "is_told_day" = true) (k13 : PySem.W.keepIn K (.ref f13) = true)
    (a14 : PySem.W.nsIn K mainGlobals "day_of" = some (some (.ref f14))) (l14 : K.lookup f14 = some ⟨oc14, od14, .func (PySem.W.fnOf "day_of" "day_of" (defArgs s_day_of) (defBody s_day_of) (defScope s_day_of) .none kV14 dc14 pm14 an14 cd14 ct14), sl14⟩) (c14 : PySem.W.codeIn K cd14 "day_of" = true) (k14 : PySem.W.keepIn K (.ref f14) = true)
    (a15 : PySem.W.nsIn K mainGlobals "year_of" = some (some (.ref f15))) (l15 : K.lookup f15 = some ⟨oc15, od15, .func (PySem.W.fnOf "year_of" "year_of" (defArgs s_year_of) (defBody s_year_of) (defScope s_year_of) .none kV15 dc15 pm15 an15 cd15 ct15), sl15⟩) (c15 : PySem.W.codeIn K cd15 "year_of" = true) (k15 : PySem.W.keepIn K (.ref f15) = true)
    (a16 : PySem.W.nsIn K mainGlobals "parts_of" = some (some (.ref f16))) (l16 : K.lookup f16 = some ⟨oc16, od16, .func (PySem.W.fnOf "parts_of" "parts_of" (defArgs s_parts_of) (defBody s_parts_of) (defScope s_parts_of) .none kV16 dc16 pm16 an16 cd16 ct16), sl16⟩) (c16 : PySem.W.codeIn K cd16 "parts_of" = true) (k16 : PySem.W.keepIn K (.ref f16) = true)
    (a17 : PySem.W.nsIn K mainGlobals "show_day" = some (some (.ref f17))) (l17 : K.lookup f17 = some ⟨oc17, od17, .func (PySem.W.fnOf "show_day" "show_day" (defArgs s_show_day) (defBody s_show_day) (defScope s_show_day) .none kV17 dc17 pm17 an17 cd17 ct17), sl17⟩) (c17 : PySem.W.codeIn K cd17 "show_day" = true) (k17 : PySem.W.keepIn K (.ref f17) = true)
    (a18 : PySem.W.nsIn K mainGlobals "read_day" = some (some (.ref f18))) (l18 : K.lookup f18 = some ⟨oc18, od18, .func (PySem.W.fnOf "read_day" "read_day" (defArgs s_read_day) (defBody s_read_day) (defScope s_read_day) .none kV18 dc18 pm18 an18 cd18 ct18), sl18⟩) (c18 : PySem.W.codeIn K cd18 "read_day" = true) (k18 : PySem.W.keepIn K (.ref f18) = true)
    (a19 : PySem.W.nsIn K mainGlobals "is_word" = some (some (.ref f19))) (l19 : K.lookup f19 = some ⟨oc19, od19, .func (PySem.W.fnOf "is_word" "is_word" (defArgs s_is_word) (defBody s_is_word) (defScope s_is_word) .none kV19 dc19 pm19 an19 cd19 ct19), sl19⟩) (c19 : PySem.W.codeIn K cd19 "is_word" = true) (k19 : PySem.W.keepIn K (.ref f19) = true)
    (a20 : PySem.W.nsIn K mainGlobals "is_cell" = some (some (.ref f20))) (l20 : K.lookup f20 = some ⟨oc20, od20, .func (PySem.W.fnOf "is_cell" "is_cell" (defArgs s_is_cell) (defBody s_is_cell) (defScope s_is_cell) .none kV20 dc20 pm20 an20 cd20 ct20), sl20⟩) (c20 : PySem.W.codeIn K cd20 "is_cell" = true) (k20 : PySem.W.keepIn K (.ref f20) = true)
    (a21 : PySem.W.nsIn K mainGlobals "show_cell" = some (some (.ref f21))) (l21 : K.lookup f21 = some ⟨oc21, od21, .func (PySem.W.fnOf "show_cell" "show_cell" (defArgs s_show_cell) (defBody s_show_cell) (defScope s_show_cell) .none kV21 dc21 pm21 an21 cd21 ct21), sl21⟩) (c21 : PySem.W.codeIn K cd21 "show_cell" = true) (k21 : PySem.W.keepIn K (.ref f21) = true)
    (a22 : PySem.W.nsIn K mainGlobals "read_thing" = some (some (.ref f22))) (l22 : K.lookup f22 = some ⟨oc22, od22, .func (PySem.W.fnOf "read_thing" "read_thing" (defArgs s_read_thing) (defBody s_read_thing) (defScope s_read_thing) .none kV22 dc22 pm22 an22 cd22 ct22), sl22⟩) (c22 : PySem.W.codeIn K cd22 "read_thing" = true) (k22 : PySem.W.keepIn K (.ref f22) = true)
    (a23 : PySem.W.nsIn K mainGlobals "read_cell" = some (some (.ref f23))) (l23 : K.lookup f23 = some ⟨oc23, od23, .func (PySem.W.fnOf "read_cell" "read_cell" (defArgs s_read_cell) (defBody s_read_cell) (defScope s_read_cell) .none kV23 dc23 pm23 an23 cd23 ct23), sl23⟩) (c23 : PySem.W.codeIn K cd23 "read_cell" = true) (k23 : PySem.W.keepIn K (.ref f23) = true)
    (a24 : PySem.W.nsIn K mainGlobals "_law_draws" = some (some (.ref f24))) (l24 : K.lookup f24 = some ⟨oc24, od24, .func (PySem.W.fnOf "_law_draws" "_law_draws" (defArgs s_l_draws) (defBody s_l_draws) (defScope s_l_draws) .none kV24 dc24 pm24 an24 cd24 ct24), sl24⟩) (c24 : PySem.W.codeIn K cd24 "_law_draws" = true) (k24 : PySem.W.keepIn K (.ref f24) = true)
    (a25 : PySem.W.nsIn K mainGlobals "_law_whole" = some (some (.ref f25))) (l25 : K.lookup f25 = some ⟨oc25, od25, .func (PySem.W.fnOf "_law_whole" "_law_whole" (defArgs s_l_whole) (defBody s_l_whole) (defScope s_l_whole) .none kV25 dc25 pm25 an25 cd25 ct25), sl25⟩) (c25 : PySem.W.codeIn K cd25 "_law_whole" = true) (k25 : PySem.W.keepIn K (.ref f25) = true)
    (a26 : PySem.W.nsIn K mainGlobals "_law_divisor" = some (some (.ref f26))) (l26 : K.lookup f26 = some ⟨oc26, od26, .func (PySem.W.fnOf "_law_divisor" "_law_divisor" (defArgs s_l_divisor) (defBody s_l_divisor) (defScope s_l_divisor) .none kV26 dc26 pm26 an26 cd26 ct26), sl26⟩) (c26 : PySem.W.codeIn K cd26 "_law_divisor" = true) (k26 : PySem.W.keepIn K (.ref f26) = true)
    (a27 : PySem.W.nsIn K mainGlobals "_law_lengths" = some (some (.ref f27))) (l27 : K.lookup f27 = some ⟨oc27, od27, .func (PySem.W.fnOf "_law_lengths" "_law_lengths" (defArgs s_l_lengths) (defBody s_l_lengths) (defScope s_l_lengths) .none kV27 dc27 pm27 an27 cd27 ct27), sl27⟩) (c27 : PySem.W.codeIn K cd27 "_law_lengths" = true) (k27 : PySem.W.keepIn K (.ref f27) = true)
    (a28 : PySem.W.nsIn K mainGlobals "_law_number" = some (some (.ref f28))) (l28 : K.lookup f28 = some ⟨oc28, od28, .func (PySem.W.fnOf "_law_number" "_law_number" (defArgs s_l_number) (defBody s_l_number) (defScope s_l_number) .none kV28 dc28 pm28 an28 cd28 ct28), sl28⟩) (c28 : PySem.W.codeIn K cd28 "_law_number" = true) (k28 : PySem.W.keepIn K (.ref f28) = true)
    (a29 : PySem.W.nsIn K mainGlobals "_law_word" = some (some (.ref f29))) (l29 : K.lookup f29 = some ⟨oc29, od29, .func (PySem.W.fnOf "_law_word" "_law_word" (defArgs s_l_word) (defBody s_l_word) (defScope s_l_word) .none kV29 dc29 pm29 an29 cd29 ct29), sl29⟩) (c29 : PySem.W.codeIn K cd29 "_law_word" = true) (k29 : PySem.W.keepIn K (.ref f29) = true)
    (a30 : PySem.W.nsIn K mainGlobals "_law_day" = some (some (.ref f30))) (l30 : K.lookup f30 = some ⟨oc30, od30, .func (PySem.W.fnOf "_law_day" "_law_day" (defArgs s_l_day) (defBody s_l_day) (defScope s_l_day) .none kV30 dc30 pm30 an30 cd30 ct30), sl30⟩) (c30 : PySem.W.codeIn K cd30 "_law_day" = true) (k30 : PySem.W.keepIn K (.ref f30) = true)
    (a31 : PySem.W.nsIn K mainGlobals "_law_good" = some (some (.ref f31))) (l31 : K.lookup f31 = some ⟨oc31, od31, .func (PySem.W.fnOf "_law_good" "_law_good" (defArgs s_l_good) (defBody s_l_good) (defScope s_l_good) .none kV31 dc31 pm31 an31 cd31 ct31), sl31⟩) (c31 : PySem.W.codeIn K cd31 "_law_good" = true) (k31 : PySem.W.keepIn K (.ref f31) = true)
    (a32 : PySem.W.nsIn K mainGlobals "_law_figures" = some (some (.ref f32))) (l32 : K.lookup f32 = some ⟨oc32, od32, .func (PySem.W.fnOf "_law_figures" "_law_figures" (defArgs s_l_figures) (defBody s_l_figures) (defScope s_l_figures) .none kV32 dc32 pm32 an32 cd32 ct32), sl32⟩) (c32 : PySem.W.codeIn K cd32 "_law_figures" = true) (k32 : PySem.W.keepIn K (.ref f32) = true)
    (a33 : PySem.W.nsIn K mainGlobals "_law_number_by" = some (some (.ref f33))) (l33 : K.lookup f33 = some ⟨oc33, od33, .func (PySem.W.fnOf "_law_number_by" "_law_number_by" (defArgs s_l_number_by) (defBody s_l_number_by) (defScope s_l_number_by) .none kV33 dc33 pm33 an33 cd33 ct33), sl33⟩) (c33 : PySem.W.codeIn K cd33 "_law_number_by" = true) (k33 : PySem.W.keepIn K (.ref f33) = true)
    (a34 : PySem.W.nsIn K mainGlobals "_law_day_by" = some (some (.ref f34))) (l34 : K.lookup f34 = some ⟨oc34, od34, .func (PySem.W.fnOf "_law_day_by" "_law_day_by" (defArgs s_l_day_by) (defBody s_l_day_by) (defScope s_l_day_by) .none kV34 dc34 pm34 an34 cd34 ct34), sl34⟩) (c34 : PySem.W.codeIn K cd34 "_law_day_by" = true) (k34 : PySem.W.keepIn K (.ref f34) = true)
    (a35 : PySem.W.nsIn K mainGlobals "_law_cell_by" = some (some (.ref f35))) (l35 : K.lookup f35 = some ⟨oc35, od35, .func (PySem.W.fnOf "_law_cell_by" "_law_cell_by" (defArgs s_l_cell_by) (defBody s_l_cell_by) (defScope s_l_cell_by) .none kV35 dc35 pm35 an35 cd35 ct35), sl35⟩) (c35 : PySem.W.codeIn K cd35 "_law_cell_by" = true) (k35 : PySem.W.keepIn K (.ref f35) = true)
    (a36 : PySem.W.nsIn K mainGlobals "_law_made" = some (some (.ref f36))) (l36 : K.lookup f36 = some ⟨oc36, od36, .func (PySem.W.fnOf "_law_made" "_law_made" (defArgs s_l_made) (defBody s_l_made) (defScope s_l_made) .none kV36 dc36 pm36 an36 cd36 ct36), sl36⟩) (c36 : PySem.W.codeIn K cd36 "_law_made" = true) (k36 : PySem.W.keepIn K (.ref f36) = true)
    (a37 : PySem.W.nsIn K mainGlobals "_law_alike" = some (some (.ref f37))) (l37 : K.lookup f37 = some ⟨oc37, od37, .func (PySem.W.fnOf "_law_alike" "_law_alike" (defArgs s_l_alike) (defBody s_l_alike) (defScope s_l_alike) .none kV37 dc37 pm37 an37 cd37 ct37), sl37⟩) (c37 : PySem.W.codeIn K cd37 "_law_alike" = true) (k37 : PySem.W.keepIn K (.ref f37) = true)
    (a38 : PySem.W.nsIn K mainGlobals "_law_refused" = some (some (.ref f38))) (l38 : K.lookup f38 = some ⟨oc38, od38, .func (PySem.W.fnOf "_law_refused" "_law_refused" (defArgs s_l_refused) (defBody s_l_refused) (defScope s_l_refused) .none kV38 dc38 pm38 an38 cd38 ct38), sl38⟩) (c38 : PySem.W.codeIn K cd38 "_law_refused" = true) (k38 : PySem.W.keepIn K (.ref f38) = true)
    (a39 : PySem.W.nsIn K mainGlobals "law" = some (some (.ref f39))) (l39 : K.lookup f39 = some ⟨oc39, od39, .func (PySem.W.fnOf "law" "law" (defArgs s_law) (defBody s_law) (defScope s_law) .none kV39 dc39 pm39 an39 cd39 ct39), sl39⟩) (c39 : PySem.W.codeIn K cd39 "law" = true) (k39 : PySem.W.keepIn K (.ref f39) = true)
    (w_DIGITS : PySem.W.nsIn K mainGlobals "DIGITS" = some (some (.str "0123456789" g_DIGITS)))
    (w_MOST_FIGURES : PySem.W.nsIn K mainGlobals "MOST_FIGURES" = some (some (.int 60 g_MOST_FIGURES)))
    (w_MOST_BOTTOM : PySem.W.nsIn K mainGlobals "MOST_BOTTOM" = some (some (.int 60 g_MOST_BOTTOM)))
    (w_LAST_DAY : PySem.W.nsIn K mainGlobals "LAST_DAY" = some (some (.int 3652058 g_LAST_DAY)))
    (w_LAST_YEAR : PySem.W.nsIn K mainGlobals "LAST_YEAR" = some (some (.int 9999 g_LAST_YEAR)))
    (w_FIRST_TOLD_YEAR : PySem.W.nsIn K mainGlobals "FIRST_TOLD_YEAR" = some (some (.int 1000 g_FIRST_TOLD_YEAR)))
    (w_LAST_TOLD_YEAR : PySem.W.nsIn K mainGlobals "LAST_TOLD_YEAR" = some (some (.int 8999 g_LAST_TOLD_YEAR)))
    (w_DAYS_OF_400_YEARS : PySem.W.nsIn K mainGlobals "DAYS_OF_400_YEARS" = some (some (.int 146097 g_DAYS_OF_400_YEARS)))
    (w_LONGEST_WORD : PySem.W.nsIn K mainGlobals "LONGEST_WORD" = some (some (.int 8 g_LONGEST_WORD)))
    (w_LETTERS : PySem.W.nsIn K mainGlobals "LETTERS" = some (some (.str "abcdefghijklmnopqrstuvwxyz" g_LETTERS)))
    (w_MONTH_LENGTHS : PySem.W.nsIn K mainGlobals "MONTH_LENGTHS" = some (some (.ref g_MONTH_LENGTHS))) (u_MONTH_LENGTHS : K.lookup g_MONTH_LENGTHS = some ⟨.type "tuple", gd_MONTH_LENGTHS, .seq #[.int 31 tg_MONTH_LENGTHS_0, .int 28 tg_MONTH_LENGTHS_1, .int 31 tg_MONTH_LENGTHS_2, .int 30 tg_MONTH_LENGTHS_3, .int 31 tg_MONTH_LENGTHS_4, .int 30 tg_MONTH_LENGTHS_5, .int 31 tg_MONTH_LENGTHS_6, .int 31 tg_MONTH_LENGTHS_7, .int 30 tg_MONTH_LENGTHS_8, .int 31 tg_MONTH_LENGTHS_9, .int 30 tg_MONTH_LENGTHS_10, .int 31 tg_MONTH_LENGTHS_11] gn_MONTH_LENGTHS, gs_MONTH_LENGTHS⟩)
    (w_NOTHING : PySem.W.nsIn K mainGlobals "NOTHING" = some (some (.str "-" g_NOTHING)))
    (n_NoNumber : PySem.W.nsIn K mainGlobals "NoNumber" = some (some (.ref C_NoNumber))) (x_NoNumber : PySem.W.excIn K C_NoNumber bmVE "ValueError.__new__" = true) (e_NoNumber : PySem.W.exmOne K (.ref C_NoNumber) (.ref C_NoNumber) = some true)
    (n_NoDay : PySem.W.nsIn K mainGlobals "NoDay" = some (some (.ref C_NoDay))) (x_NoDay : PySem.W.excIn K C_NoDay bmVE "ValueError.__new__" = true) (e_NoDay : PySem.W.exmOne K (.ref C_NoDay) (.ref C_NoDay) = some true)
    (n_MarkError : PySem.W.nsIn K mainGlobals "MarkError" = some (some (.ref C_MarkError)))
    (n_NoTable : PySem.W.nsIn K mainGlobals "NoTable" = some (some (.ref C_NoTable))) (fi_NoTable : PySem.W.findIn K (.ref C_NoTable) "__init__" = some (some (.ref FI_NoTable)))
    (li_NoTable : K.lookup FI_NoTable = some ⟨oci_NoTable, odi_NoTable, .func (PySem.W.fnOf "__init__" "NoTable.__init__" (defArgs si_NoTable) (defBody si_NoTable) (defScope si_NoTable) .none kVi_NoTable dci_NoTable pmi_NoTable ani_NoTable cdi_NoTable cti_NoTable), sli_NoTable⟩)
    (ci_NoTable : PySem.W.codeIn K cdi_NoTable "NoTable.__init__" = true) (ki_NoTable : PySem.W.keepIn K (.ref FI_NoTable) = true) (o_NoTable : OwnX K C_NoTable FI_NoTable "row") (e_NoTable : PySem.W.exmOne K (.ref C_NoTable) (.ref C_NoTable) = some true)
    (ea_NoNumber : PySem.W.exmAny K (.ref C_NoNumber) [.ref C_NoNumber, .ref C_NoDay] = some true)
    (ea_NoDay : PySem.W.exmAny K (.ref C_NoDay) [.ref C_NoNumber, .ref C_NoDay] = some true)
    (y_NoTable : ExcF K C_NoTable)
    (kk_NoTable_NoNumber : PySem.W.kitOne K (.ref C_NoTable) (.ref C_NoNumber) = some false)
    (kk_NoTable_NoDay : PySem.W.kitOne K (.ref C_NoTable) (.ref C_NoDay) = some false)
    (kk_NoTable_ValueError : PySem.W.kitOne K (.ref C_NoTable) (.type "ValueError") = some true)
    (kk_NoTable_MarkError : PySem.W.kitOne K (.ref C_NoTable) (.ref C_MarkError) = some true)
    (z_isinstance : PySem.W.nsIn K mainGlobals "isinstance" = some none)
    (z_int : PySem.W.nsIn K mainGlobals "int" = some none)
    (z_bool : PySem.W.nsIn K mainGlobals "bool" = some none)
    (z_tuple : PySem.W.nsIn K mainGlobals "tuple" = some none)
    (z_str : PySem.W.nsIn K mainGlobals "str" = some none)
    (z_abs : PySem.W.nsIn K mainGlobals "abs" = some none)
    (z_len : PySem.W.nsIn K mainGlobals "len" = some none)
    (z_range : PySem.W.nsIn K mainGlobals "range" = some none)
    (z_sum : PySem.W.nsIn K mainGlobals "sum" = some none)
    (z_all : PySem.W.nsIn K mainGlobals "all" = some none)
    (z_ValueError : PySem.W.nsIn K mainGlobals "ValueError" = some none)
    : ∃ fd : FuncData, (∀ (s : Shared) (v : Value), BindsTo s fd ⟨[v], []⟩ [("_law_script", v)]) ∧ ∀ base : Heap, K.In base → base.Ns mainGlobals mg → FnOk l.prog w K mg base CX0 8 fa fd ["_law_script"] (sp_law K) := by
  have e := hfa.symm.trans (PySem.W.mg_of X G a39)
  cases e
  have F0 := fun_mk (st := s_is_whole) l0 c0 k0
  have b0 := F0.binds (ps := ["thing"]) fun _ _ _ _ _ _ us hl => match us, hl with | [_], _ => rfl
  have F1 := fun_mk (st := s_divisor_of) l1 c1 k1
  have b1 := F1.binds (ps := ["one", "other"]) fun _ _ _ _ _ _ us hl => match us, hl with | [_, _], _ => rfl
  have F2 := fun_mk (st := s_is_number) l2 c2 k2
  have b2 := F2.binds (ps := ["thing"]) fun _ _ _ _ _ _ us hl => match us, hl with | [_], _ => rfl
  have F3 := fun_mkD (st := s_number) l3 c3 k3
  have b3 : Binds K (PySem.W.fnOf "number" "number" (defArgs s_number) (defBody s_number) (defScope s_number) (.ref dT3) kV3 dc3 pm3 an3 cd3 ct3) ["top", "bottom"] [] := fun s us X hl => match us, hl with | [_, _], _ => BindsTo.of_defaults rfl (X _ _ dl3) rfl rfl rfl
  have bd3 : ∃ ds, Vals [V.int 1] ds ∧ Binds K (PySem.W.fnOf "number" "number" (defArgs s_number) (defBody s_number) (defScope s_number) (.ref dT3) kV3 dc3 pm3 an3 cd3 ct3) ["top", "bottom"] ds := ⟨[.int 1 tk3], .cons ⟨_, rfl⟩ .nil, fun s us X hl => match us, (by simpa using hl : us.length = 1) with | [_], _ => BindsTo.of_defaults rfl (X _ _ dl3) rfl rfl rfl⟩
  have F4 := fun_mk (st := s_are_digits) l4 c4 k4
  have b4 := F4.binds (ps := ["text"]) fun _ _ _ _ _ _ us hl => match us, hl with | [_], _ => rfl
  have F5 := fun_mk (st := s_show_number) l5 c5 k5
  have b5 := F5.binds (ps := ["one"]) fun _ _ _ _ _ _ us hl => match us, hl with | [_], _ => rfl
  have F6 := fun_mk (st := s_read_figures) l6 c6 k6
  have b6 := F6.binds (ps := ["text", "most"]) fun _ _ _ _ _ _ us hl => match us, hl with | [_, _], _ => rfl
  have F7 := fun_mk (st := s_read_number) l7 c7 k7
  have b7 := F7.binds (ps := ["text"]) fun _ _ _ _ _ _ us hl => match us, hl with | [_], _ => rfl
  have F8 := fun_mk (st := s_is_told) l8 c8 k8
  have b8 := F8.binds (ps := ["thing"]) fun _ _ _ _ _ _ us hl => match us, hl with | [_], _ => rfl
  have F9 := fun_mk (st := s_is_leap) l9 c9 k9
  have b9 := F9.binds (ps := ["year"]) fun _ _ _ _ _ _ us hl => match us, hl with | [_], _ => rfl
  have F10 := fun_mk (st := s_month_length) l10 c10 k10
  have b10 := F10.binds (ps := ["year", "month"]) fun _ _ _ _ _ _ us hl => match us, hl with | [_, _], _ => rfl
  have F11 := fun_mk (st := s_year_begin) l11 c11 k11
  have b11 := F11.binds (ps := ["year"]) fun _ _ _ _ _ _ us hl => match us, hl with | [_], _ => rfl
  have F12 := fun_mk (st := s_is_day) l12 c12 k12
  have b12 := F12.binds (ps := ["thing"]) fun _ _ _ _ _ _ us hl => match us, hl with | [_], _ => rfl
  have F13 := fun_mk (st := s_is_told_day) l13 c13 k13
  have b13 := F13.binds (ps := ["thing"]) fun _ _ _ _ _ _ us hl => match us, hl with | [_], _ => rfl
  have F14 := fun_mk (st := s_day_of) l14 c14 k14
  have b14 := F14.binds (ps := ["year", "month", "day"]) fun _ _ _ _ _ _ us hl => match us, hl with | [_, _, _], _ => rfl
  have F15 := fun_mk (st := s_year_of) l15 c15 k15
  have b15 := F15.binds (ps := ["day"]) fun _ _ _ _ _ _ us hl => match us, hl with | [_], _ => rfl
  have F16 := fun_mk (st := s_parts_of) l16 c16 k16
  have b16 := F16.binds (ps := ["day"]) fun _ _ _ _ _ _ us hl => match us, hl with | [_], _ => rfl
  have F17 := fun_mk (st := s_show_day) l17 c17 k17
  have b17 := F17.binds (ps := ["day"]) fun _ _ _ _ _ _ us hl => match us, hl with | [_], _ => rfl
  have F18 := fun_mk (st := s_read_day) l18 c18 k18
  have b18 := F18.binds (ps := ["text"]) fun _ _ _ _ _ _ us hl => match us, hl with | [_], _ => rfl
  have F19 := fun_mk (st := s_is_word) l19 c19 k19
  have b19 := F19.binds (ps := ["thing"]) fun _ _ _ _ _ _ us hl => match us, hl with | [_], _ => rfl
  have F20 := fun_mk (st := s_is_cell) l20 c20 k20
  have b20 := F20.binds (ps := ["kind", "thing"]) fun _ _ _ _ _ _ us hl => match us, hl with | [_, _], _ => rfl
  have F21 := fun_mk (st := s_show_cell) l21 c21 k21
  have b21 := F21.binds (ps := ["kind", "cell"]) fun _ _ _ _ _ _ us hl => match us, hl with | [_, _], _ => rfl
  have F22 := fun_mk (st := s_read_thing) l22 c22 k22
  have b22 := F22.binds (ps := ["kind", "text"]) fun _ _ _ _ _ _ us hl => match us, hl with | [_, _], _ => rfl
  have F23 := fun_mk (st := s_read_cell) l23 c23 k23
  have b23 := F23.binds (ps := ["kind", "text"]) fun _ _ _ _ _ _ us hl => match us, hl with | [_, _], _ => rfl
  have F24 := fun_mk (st := s_l_draws) l24 c24 k24
  have b24 := F24.binds (ps := ["_law_cell", "_law_tops"]) fun _ _ _ _ _ _ us hl => match us, hl with | [_, _], _ => rfl
  have F25 := fun_mk (st := s_l_whole) l25 c25 k25
  have b25 := F25.binds (ps := ["_law_found"]) fun _ _ _ _ _ _ us hl => match us, hl with | [_], _ => rfl
  have F26 := fun_mk (st := s_l_divisor) l26 c26 k26
  have b26 := F26.binds (ps := ["_law_one", "_law_other"]) fun _ _ _ _ _ _ us hl => match us, hl with | [_, _], _ => rfl
  have F27 := fun_mk (st := s_l_lengths) l27 c27 k27
  have b27 := F27.binds (ps := ["_law_year"]) fun _ _ _ _ _ _ us hl => match us, hl with | [_], _ => rfl
  have F28 := fun_mk (st := s_l_number) l28 c28 k28
  have b28 := F28.binds (ps := ["_law_d"]) fun _ _ _ _ _ _ us hl => match us, hl with | [_], _ => rfl
  have F29 := fun_mk (st := s_l_word) l29 c29 k29
  have b29 := F29.binds (ps := ["_law_d"]) fun _ _ _ _ _ _ us hl => match us, hl with | [_], _ => rfl
  have F30 := fun_mk (st := s_l_day) l30 c30 k30
  have b30 := F30.binds (ps := ["_law_d"]) fun _ _ _ _ _ _ us hl => match us, hl with | [_], _ => rfl
  have F31 := fun_mk (st := s_l_good) l31 c31 k31
  have b31 := F31.binds (ps := ["_law_d"]) fun _ _ _ _ _ _ us hl => match us, hl with | [_], _ => rfl
  have F32 := fun_mk (st := s_l_figures) l32 c32 k32
  have b32 := F32.binds (ps := ["_law_text"]) fun _ _ _ _ _ _ us hl => match us, hl with | [_], _ => rfl
  have F33 := fun_mk (st := s_l_number_by) l33 c33 k33
  have b33 := F33.binds (ps := ["_law_text"]) fun _ _ _ _ _ _ us hl => match us, hl with | [_], _ => rfl
  have F34 := fun_mk (st := s_l_day_by) l34 c34 k34
  have b34 := F34.binds (ps := ["_law_text"]) fun _ _ _ _ _ _ us hl => match us, hl with | [_], _ => rfl
  have F35 := fun_mk (st := s_l_cell_by) l35 c35 k35
  have b35 := F35.binds (ps := ["_law_kind", "_law_text"]) fun _ _ _ _ _ _ us hl => match us, hl with | [_, _], _ => rfl
  have F36 := fun_mk (st := s_l_made) l36 c36 k36
  have b36 := F36.binds (ps := ["_law_text", "_law_d"]) fun _ _ _ _ _ _ us hl => match us, hl with | [_, _], _ => rfl
  have F37 := fun_mk (st := s_l_alike) l37 c37 k37
  have b37 := F37.binds (ps := ["_law_found", "_law_due"]) fun _ _ _ _ _ _ us hl => match us, hl with | [_, _], _ => rfl
  have F38 := fun_mk (st := s_l_refused) l38 c38 k38
  have b38 := F38.binds (ps := ["_law_kind", "_law_text"]) fun _ _ _ _ _ _ us hl => match us, hl with | [_, _], _ => rfl
  have F39 := fun_mk (st := s_law) l39 c39 k39
  have b39 := F39.binds (ps := ["_law_script"]) fun _ _ _ _ _ _ us hl => match us, hl with | [_], _ => rfl
  have Fi_NoTable := fun_mk (st := si_NoTable) li_NoTable ci_NoTable ki_NoTable
  have bi_NoTable := Fi_NoTable.binds (ps := ["self", "row"]) fun _ _ _ _ _ _ us hl => match us, hl with | [_, _], _ => rfl
  have T : Txt K mg ⟨_, _, _, _, _, _, _, _, _, _, _, _, _, _, _, _, _, _, _, _, _, _, _, _, _, _, _, _, _, _, _, _, _, _, _, _, _, _, _, _, _, _, _, _, _, _, _, _, _, _, _, _, _, _, _, _, _, _, _, _, _, _, _, _, _, _, _, _, _, _, _, _, _, _, _, _, _, _, _, _, C_NoNumber, C_NoDay, C_MarkError, C_NoTable, FI_NoTable, _, g_DIGITS, g_MOST_FIGURES, g_MOST_BOTTOM, g_LAST_DAY, g_LAST_YEAR, g_FIRST_TOLD_YEAR, g_LAST_TOLD_YEAR, g_DAYS_OF_400_YEARS, g_LONGEST_WORD, g_LETTERS, g_MONTH_LENGTHS, g_NOTHING⟩ := ⟨F0, PySem.W.mg_of X G a0, k0, b0, F1, PySem.W.mg_of X G a1, k1, b1, F2, PySem.W.mg_of X G a2, k2, b2, F3, PySem.W.mg_of X G a3, k3, b3, bd3, F4, PySem.W.mg_of X G a4, k4, b4, F5, PySem.W.mg_of X G a5, k5, b5, F6, PySem.W.mg_of X G a6, k6, b6, F7, PySem.W.mg_of X G a7, k7, b7, F8, PySem.W.mg_of X G a8, k8, b8, F9, PySem.W.mg_of X G a9, k9, b9, F10, PySem.W.mg_of X G a10, k10, b10, F11, PySem.W.mg_of X G a11, k11, b11, F12, PySem.W.mg_of X G a12, k12, b12, F13, PySem.W.mg_of X G a13, k13, b13, F14, PySem.W.mg_of X G a14, k14, b14, F15, PySem.W.mg_of X G a15, k15, b15, F16, PySem.W.mg_of X G a16, k16, b16, F17, PySem.W.mg_of X G a17, k17, b17, F18, PySem.W.mg_of X G a18, k18, b18, F19, PySem.W.mg_of X G a19, k19, b19, F20, PySem.W.mg_of X G a20, k20, b20, F21, PySem.W.mg_of X G a21, k21, b21, F22, PySem.W.mg_of X G a22, k22, b22, F23, PySem.W.mg_of X G a23, k23, b23, F24, PySem.W.mg_of X G a24, k24, b24, F25, PySem.W.mg_of X G a25, k25, b25, F26, PySem.W.mg_of X G a26, k26, b26, F27, PySem.W.mg_of X G a27, k27, b27, F28, PySem.W.mg_of X G a28, k28, b28, F29, PySem.W.mg_of X G a29, k29, b29, F30, PySem.W.mg_of X G a30, k30, b30, F31, PySem.W.mg_of X G a31, k31, b31, F32, PySem.W.mg_of X G a32, k32, b32, F33, PySem.W.mg_of X G a33, k33, b33, F34, PySem.W.mg_of X G a34, k34, b34, F35, PySem.W.mg_of X G a35, k35, b35, F36, PySem.W.mg_of X G a36, k36, b36, F37, PySem.W.mg_of X G a37, k37, b37, F38, PySem.W.mg_of X G a38, k38, b38, F39, PySem.W.mg_of X G a39, k39, b39, PySem.W.mg_of X G n_NoNumber, n_NoNumber, x_NoNumber, e_NoNumber, PySem.W.mg_of X G n_NoDay, n_NoDay, x_NoDay, e_NoDay, PySem.W.mg_of X G n_MarkError, PySem.W.mg_of X G n_NoTable, o_NoTable, Fi_NoTable, bi_NoTable, e_NoTable, ea_NoNumber, ea_NoDay, y_NoTable, kk_NoTable_NoNumber, kk_NoTable_NoDay, kk_NoTable_ValueError, kk_NoTable_MarkError, PySem.W.mg_of X G w_DIGITS, PySem.W.mg_of X G w_MOST_FIGURES, PySem.W.mg_of X G w_MOST_BOTTOM, PySem.W.mg_of X G w_LAST_DAY, PySem.W.mg_of X G w_LAST_YEAR, PySem.W.mg_of X G w_FIRST_TOLD_YEAR, PySem.W.mg_of X G w_LAST_TOLD_YEAR, PySem.W.mg_of X G w_DAYS_OF_400_YEARS, PySem.W.mg_of X G w_LONGEST_WORD, PySem.W.mg_of X G w_LETTERS, PySem.W.mg_of X G w_MONTH_LENGTHS, fun _ => .inr ⟨_, _, _, u_MONTH_LENGTHS, rfl, rfl, (by show 12 ≤ sizeLine; decide), .cons ⟨_, rfl⟩ (.cons ⟨_, rfl⟩ (.cons ⟨_, rfl⟩ (.cons ⟨_, rfl⟩ (.cons ⟨_, rfl⟩ (.cons ⟨_, rfl⟩ (.cons ⟨_, rfl⟩ (.cons ⟨_, rfl⟩ (.cons ⟨_, rfl⟩ (.cons ⟨_, rfl⟩ (.cons ⟨_, rfl⟩ (.cons ⟨_, rfl⟩ (.nil))))))))))))⟩, PySem.W.mg_of X G w_NOTHING, PySem.W.mg_none_of X G z_isinstance, PySem.W.mg_none_of X G z_int, PySem.W.mg_none_of X G z_bool, PySem.W.mg_none_of X G z_tuple, PySem.W.mg_none_of X G z_str, PySem.W.mg_none_of X G z_abs, PySem.W.mg_none_of X G z_len, PySem.W.mg_none_of X G z_range, PySem.W.mg_none_of X G z_sum, PySem.W.mg_none_of X G z_all, PySem.W.mg_none_of X G z_ValueError⟩
  exact ⟨PySem.W.fnOf "law" "law" (defArgs s_law) (defBody s_law) (defScope s_law) .none kV39 dc39 pm39 an39 cd39 ct39, fun s v => .of_eq rfl, fun base _ _ => ok_law T⟩
theorem walk {l : PySem.W.OpenLaw} {q : Program} {loose : List Str} {XP : (Str → Option Value) → Heap → Prop} {YP : World → Heap → Prop} {d : DefRec} {K : Params → PySem.W.Frag} (hn : l.most = some 63) (hdf : d.params.defaults = [])
    (hY : ∀ (w : World) (h : Heap), YP w h → (K w.params).In h)
    (F : ∀ (w : World) (mg : Str → Option Value) (fa : Addr) (h : Heap), (K w.params).In h → h.Ns mainGlobals mg → mg d.name = some (.ref fa) →
      ∃ fd : FuncData, (∀ (s : Shared) (u : Value), BindsTo s fd ⟨[u], []⟩ [("_law_script", u)]) ∧ ∀ base : Heap, (K w.params).In base → base.Ns mainGlobals mg → FnOk l.prog w (K w.params) mg base CX0 8 fa fd ["_law_script"] (sp_law (K w.params))) :
    PySem.W.WalkO q loose XP YP l.row.toRowW d [] (fun f vs => PySem.call f vs) :=
  L2.walk_ofB (n := 63) (k := 8) (x := "_law_script") (CX := fun _ => CX0) (sp := fun w => sp_law (K w.params)) hn (by decide) hdf ⟨rfl, by decide, by decide⟩ hY F (fun _ _ a ns hl hbt _ hS => ⟨a, ns, rfl, hS, hl, hbt, fun _ => rfl⟩) fun _ _ _ _ _ z => z
end MyLaw
open PySem PySem.W PyProof.Rows
set_option maxRecDepth 100000 in
set_option maxHeartbeats 0 in
theorem PySem.Challenge.cw_markscale_k10_cells_as_texts_holds : PySem.Challenge.rw_markscale_k10_cells_as_texts.Holds := by
  w_on; o_law
  refine holds_open (q := MyLaw.hdV) (loose := [Str.ofString "number"]) (Xt := MyLaw.hdX MyLaw.hdV) (XP := XL MyLaw.hdV [])
    (Yf := Hook.obs (kHook MyLaw.hdKs.heap_1 MyLaw.hdKs MyLaw.hdKe)) (Ya := Hook.val (kHook MyLaw.hdKs.heap_1 MyLaw.hdKs MyLaw.hdKe)) (YP := Hook.says (kHook MyLaw.hdKs.heap_1 MyLaw.hdKs MyLaw.hdKe)) (N := 4626)
    MyLaw.hdL (Hook.of _) (Hook.keeps _) (fun s z => xl_of s (Bool.and_eq_true_iff.mp z).1) XL.keeps (by rfl)
    (by rfl) (by rfl) (fun s z => recFacts_of (Bool.and_eq_true_iff.mp z).2) (by rfl)
    (by first | assumption | decide +kernel) (by decide +kernel)
    ⟨rfl, rfl, rfl, rfl, rfl, by decide +kernel⟩ ?hw ?hc
  (case hw => w_witness2)
  k_fill
  refine MyLaw.walk (l := PySem.Challenge.rw_markscale_k10_cells_as_texts) rfl rfl (fun w h Y => PySem.W.kIn_of Y) ?F
  case F =>
    intro w mg fa h KX G hmg
    refine' MyLaw.all_mk KX G hmg ?a0 ?l0 ?c0 ?k0 ?a1 ?l1 ?c1 ?k1 ?a2 ?l2 ?c2 ?k2 ?a3 ?l3 ?c3 ?k3 ?dl3 ?a4 ?l4 ?c4 ?k4 ?a5 ?l5 ?c5 ?k5 ?a6 ?l6 ?c6 ?k6 ?a7 ?l7 ?c7 ?k7 ?a8 ?l8 ?c8 ?k8 ?a9 ?l9 ?c9 ?k9 ?a10 ?l10 ?c10 ?k10 ?a11 ?l11 ?c11 ?k11 ?a12 ?l12 ?c12 ?k12 ?a13 ?l13 ?c13 ?k13 ?a14 ?l14 ?c14 ?k14 ?a15 ?l15 ?c15 ?k15 ?a16 ?l16 ?c16 ?k16 ?a17 ?l17 ?c17 ?k17 ?a18 ?l18 ?c18 ?k18 ?a19 ?l19 ?c19 ?k19 ?a20 ?l20 ?c20 ?k20 ?a21 ?l21 ?c21 ?k21 ?a22 ?l22 ?c22 ?k22 ?a23 ?l23 ?c23 ?k23 ?a24 ?l24 ?c24 ?k24 ?a25 ?l25 ?c25 ?k25 ?a26 ?l26 ?c26 ?k26 ?a27 ?l27 ?c27 ?k27 ?a28 ?l28 ?c28 ?k28 ?a29 ?l29 ?c29 ?k29 ?a30 ?l30 ?c30 ?k30 ?a31 ?l31 ?c31 ?k31 ?a32 ?l32 ?c32 ?k32 ?a33 ?l33 ?c33 ?k33 ?a34 ?l34 ?c34 ?k34 ?a35 ?l35 ?c35 ?k35 ?a36 ?l36 ?c36 ?k36 ?a37 ?l37 ?c37 ?k37 ?a38 ?l38 ?c38 ?k38 ?a39 ?l39 ?c39 ?k39 ?w_DIGITS ?w_MOST_FIGURES ?w_MOST_BOTTOM ?w_LAST_DAY ?w_LAST_YEAR ?w_FIRST_TOLD_YEAR ?w_LAST_TOLD_YEAR ?w_DAYS_OF_400_YEARS ?w_LONGEST_WORD ?w_LETTERS ?w_MONTH_LENGTHS ?u_MONTH_LENGTHS ?w_NOTHING ?n_NoNumber ?x_NoNumber ?e_NoNumber ?n_NoDay ?x_NoDay ?e_NoDay ?n_MarkError ?n_NoTable ?fi_NoTable ?li_NoTable ?ci_NoTable ?ki_NoTable ?o_NoTable ?e_NoTable ?ea_NoNumber ?ea_NoDay ?y_NoTable ?kk_NoTable_NoNumber ?kk_NoTable_NoDay ?kk_NoTable_ValueError ?kk_NoTable_MarkError ?z_isinstance ?z_int ?z_bool ?z_tuple ?z_str ?z_abs ?z_len ?z_range ?z_sum ?z_all ?z_ValueError
    all_goals try k_is
    (case x_NoNumber => k_exc)
    (case e_NoNumber => kts_exm)
    (case x_NoDay => k_exc)
    (case e_NoDay => kts_exm)
    (case o_NoTable => (refine' ⟨?_, ?_, ?_, ?_, ?_, ?_⟩; kernel_rfl; k_is; kernel_rfl; k_is; k_is; k_is))
    (case e_NoTable => kts_exm)
    (case ea_NoNumber => kts_exm)
    (case ea_NoDay => kts_exm)
    (case y_NoTable => (refine' ⟨?_, ?_, ?_, ?_, ?_, ?_, ?_⟩ <;> k_is))
    (case kk_NoTable_NoNumber => kit_is)
    (case kk_NoTable_NoDay => kit_is)
    (case kk_NoTable_ValueError => kit_is)
    (case kk_NoTable_MarkError => kit_is)
