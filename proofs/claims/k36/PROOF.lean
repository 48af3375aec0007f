import PyProof.Rows.All
import Wide.All
import OpenK.AllK
import Wide.FinOn
import Lean
import PyProof.EqAt
import PyProof.EqKinds
import PyProof.TupleCall
import PyProof.NeKinds
import PyProof.SumWalkG
import PySem.Challenge.RW_markscale_k36_dots
set_option compiler.extract_closed false
set_option Elab.async false
set_option linter.all false
set_option maxRecDepth 100000
section
set_option maxRecDepth 100000
set_option maxHeartbeats 0
namespace MyLaw
open PySem PySem.W
noncomputable def hdF (s : String) : Str := ⟨⟨(PySem.W.S.toListS s).map Char.toNat⟩⟩
theorem hdFe : @Str.ofString = hdF := by
  rw [Str.ofString_eq_byList]; funext s
  show (⟨⟨(String.toList s).map Char.toNat⟩⟩ : Str) = _
  rw [PySem.W.S.toListS_eq]; rfl
abbrev hdP : Program := PySem.Challenge.pw_markscale_k36_dots
abbrev hdR : OpenRow := OpenLaw.row PySem.Challenge.rw_markscale_k36_dots
noncomputable def hdG : PSigma fun G : (String → Str) → Program => PySem.Challenge.pw_markscale_k36_dots = G Str.ofString := by
  apply PSigma.mk
  case snd =>
    delta PySem.Challenge.pw_markscale_k36_dots
    generalize Str.ofString = f
    exact rfl
noncomputable def hdK : List Nat := [1, 2, 4, 5, 7, 8, 9, 10, 11, 12, 14, 15, 16, 17, 18, 19, 20, 21, 22, 23, 25, 26, 27, 28, 29, 30, 31, 33, 35, 36, 37, 38, 39, 40, 41, 42, 43, 44, 45, 46, 47, 48, 49, 50, 51, 52, 53, 54, 55, 56, 57]
noncomputable def hdV : Program := PySem.W.view hdP hdK
end MyLaw
noncomputable def PySem.W.Fast.tw12048346584239790204 : PySem.Program := MyLaw.hdG.1 MyLaw.hdF
theorem PySem.W.Fast.te12048346584239790204 : PySem.Challenge.pw_markscale_k36_dots = PySem.W.Fast.tw12048346584239790204 := MyLaw.hdG.2.trans (congrArg MyLaw.hdG.1 MyLaw.hdFe)
namespace MyLaw
open PySem PySem.W
noncomputable abbrev hdQ : Program := PySem.W.Fast.tw12048346584239790204
noncomputable def hdT : Program := PySem.W.view hdQ hdK
theorem hdE : hdV = hdT := congrArg (fun p => PySem.W.view p hdK) PySem.W.Fast.te12048346584239790204
noncomputable abbrev hdX (q : Program) (s : Shared) : Bool := xlAt q [] s && recOk (OpenRow.toRowW hdR).records s
def HdHyp (K : Params → Frag) (as : List Addr) : Prop := ∀ (K' : Params → Frag) (as' : List Addr), (∀ P, as' = (K' P).map (·.1)) → K' = K → as' = as → hdR.Holds
def hdPick (K : Params → Frag) (as : List Addr) (_ : HdHyp K as → hdR.Holds) (e : ∀ P, as = (K P).map (·.1)) : List Addr := let _ := e; as
local macro_rules
  | `(tactic| o_head (kHook $K $as $e)) => `(tactic| exact (show MyLaw.HdHyp _ _ from by assumption) $K $as $e rfl rfl)
noncomputable def hdKs : List Addr := by
  apply hdPick
  case x => intro hyp; k_head
  case e => intro P; kernel_rfl
noncomputable abbrev hdKf : Params → Frag := MyLaw.hdKs.heap_1
theorem hdKe : ∀ P, hdKs = (MyLaw.hdKs.heap_1 P).map (·.1) := by intro P; kernel_rfl
noncomputable def hdKG : PSigma fun G : (String → Str) → Params → Frag => MyLaw.hdKs.heap_1 = G Str.ofString := by
  apply PSigma.mk
  case snd =>
    delta MyLaw.hdKs.heap_1
    generalize Str.ofString = f
    exact rfl
noncomputable def hdTp (tb : String → Option Builtin) (p : Program) (w : World) (n₀ : Nat) (ann : Option Value) : Nat → SharedT → Thread → Option SharedT
  | 0, _, _ => none
  | n + 1, s, t => match through t with
    | true => some s
    | false => match stepOk n₀ ann t with
      | false => none
      | true => match stepT (denote tb) p w s t with
        | some (s', t') => hdTp tb p w n₀ ann n s' t'
        | none => none
theorem hdTp_of {tb : String → Option Builtin} {p : Program} {w : World} {n₀ : Nat} {ann : Option Value} : ∀ {n : Nat} {s r : SharedT} {t : Thread}, hdTp tb p w n₀ ann n s t = some r → topRun tb p w n₀ ann n s.abs t = some r.abs
  | 0, _, _, _, h => by cases h
  | n + 1, s, r, t, h => by
    unfold hdTp at h
    unfold topRun
    cases he : through t with
    | true => rw [he] at h; cases h; rfl
    | false =>
      rw [he] at h
      cases hk : stepOk n₀ ann t with
      | false => rw [hk] at h; cases h
      | true =>
        rw [hk] at h
        cases hs : stepT (denote tb) p w s t with
        | none => rw [hs] at h; cases h
        | some q => obtain ⟨s₂, t₂⟩ := q; rw [hs] at h; rw [stepT_spec hs]; exact hdTp_of h
noncomputable def hdFill : List Obj → Nat → BT → BT
  | [], _, t => t
  | o :: r, i, t => hdFill r (i + 1) (t.ins i o)
noncomputable def hdTo (s : Shared) : SharedT := ⟨hdFill s.heap.objs.toList 0 .nil, s.heap.objs.size, s.heap.life, s.gens, s.drawn, s.toks, s.os⟩
noncomputable abbrev hdTb := PySem.W.Fast.tw14364793385576792824
noncomputable abbrev hdAft (s₀ s₁ : Shared) : Option Shared := match staticsOk (importedModules hdQ.main.body) s₀.heap s₁.heap && namesBound hdQ s₁.heap && gensDone s₁ && laidKept s₀.heap s₁.heap with
  | true => some s₁
  | false => none
noncomputable def hdFrom (w : World) (s₀ : Shared) : Option Shared := match s₀.heap.isNs mainGlobals && s₀.gens.size == 0 with
  | true => (hdTp hdTb hdQ w s₀.heap.objs.size (s₀.heap.nsMap mainGlobals "__annotations__") 4268 (hdTo s₀) (topStub hdQ)).bind fun r => hdAft s₀ r.abs
  | false => none
noncomputable def hdRun (w : World) : Option Shared := (fencedOpening hdTb hdQ w 4268).bind (hdFrom w)
theorem hdO : ∀ w : World, (fencedOpening hdTb hdQ w 4268).map (fun s => (hdTo s).abs) = fencedOpening hdTb hdQ w 4268 := by intro w; kernel_rfl
theorem hdRun_of {w : World} {s : Shared} (h : hdRun w = some s) : openEnds hdTb hdQ w 4268 = some s := by
  unfold hdRun at h
  unfold openEnds
  have o := hdO w
  generalize fencedOpening hdTb hdQ w 4268 = x at h o ⊢
  cases x with
  | none => cases h
  | some s₀ =>
    have o : (hdTo s₀).abs = s₀ := Option.some.inj o
    have h : hdFrom w s₀ = some s := h
    show topFrom hdTb hdQ w 4268 s₀ = some s
    unfold hdFrom at h
    unfold topFrom
    cases hb : (s₀.heap.isNs mainGlobals && s₀.gens.size == 0) with
    | false => rw [hb] at h; cases h
    | true =>
      rw [hb] at h
      dsimp only at h ⊢
      obtain ⟨r, h1, h2⟩ := Option.bind_eq_some_iff.mp h
      have h3 := hdTp_of h1
      rw [o] at h3
      rw [h3]
      exact h2
noncomputable abbrev hdSee (s : Shared) := PySem.W.Fast.tw4187177175401517315 hdT [hdF "number"] (PySem.W.Fast.tw5923862056798008813 hdQ.main.body) (hdX hdT) true s
noncomputable abbrev hdGood := openGood hdT [hdF "number"]
theorem hdA : ∀ w : World, Option.map (fun s => (hdSee s).1) (hdRun w) = some hdGood.1 := by intro w; kernel_rfl
theorem hdB : ∀ w : World, Option.map (fun s => ((hdSee s).2.1, (hdSee s).2.2.1, (hdSee s).2.2.2.1)) (hdRun w) = some (hdGood.2.1, hdGood.2.2.1, hdGood.2.2.2.1) := by intro w; kernel_rfl
theorem hdC : ∀ w : World, Option.map (fun s => (hdSee s).2.2.2.2) (hdRun w) = some hdGood.2.2.2.2 := by intro w; kernel_rfl
theorem hdD : ∀ w : World, Option.map (fun s => hdKs.map s.heap.get?) (hdRun w) = some ((hdKG.1 hdF w.params).map fun p => some p.2) := by intro w; kernel_rfl
theorem hdL : LeftO hdR.prog hdV [Str.ofString "number"] (hdX hdV) (kHook hdKf hdKs hdKe).obs (kHook hdKf hdKs hdKe).val 4268 := by
  intro w
  show Option.map (fun s => (openSeen hdV [Str.ofString "number"] (importedModules (PySem.Challenge.pw_markscale_k36_dots).main.body) (hdX hdV) true s, hdKs.map s.heap.get?)) (openEnds treeTable PySem.Challenge.pw_markscale_k36_dots w 4268) = some (openGood hdV [Str.ofString "number"], (hdKf w.params).map fun p => some p.2)
  have eK : hdKf = hdKG.1 hdF := hdKG.2.trans (congrArg hdKG.1 hdFe)
  rw [hdE, hdFe, PySem.W.Fast.te12048346584239790204, PySem.W.Fast.te4187177175401517315, PySem.W.Fast.te5923862056798008813, PySem.W.Fast.te14364793385576792824, eK]
  have a := hdA w
  have b := hdB w
  have c := hdC w
  have d := hdD w
  cases hx : hdRun w with
  | none => rw [hx] at a; cases a
  | some s =>
    rw [hx] at a b c d
    rw [show openEnds PySem.W.Fast.tw14364793385576792824 PySem.W.Fast.tw12048346584239790204 w 4268 = some s from hdRun_of hx]
    have a : (hdSee s).1 = hdGood.1 := Option.some.inj a
    have b := Option.some.inj b
    have c : (hdSee s).2.2.2.2 = hdGood.2.2.2.2 := Option.some.inj c
    have d : hdKs.map s.heap.get? = (hdKG.1 hdF w.params).map fun p => some p.2 := Option.some.inj d
    obtain ⟨b1, b2⟩ := Prod.mk.inj b
    obtain ⟨b2, b3⟩ := Prod.mk.inj b2
    show some (hdSee s, hdKs.map s.heap.get?) = some (hdGood, _)
    rw [d]
    generalize hdSee s = y at a b1 b2 b3 c ⊢
    obtain ⟨y1, y2, y3, y4, y5⟩ := y
    subst a b1 b2 b3 c
    rfl
end MyLaw
end
namespace L2
open PySem PySem.Spec PyProof.Rows
abbrev Key := Sum Int Str
noncomputable def keyIs : Key → Value → Bool
  | .inl k, v => Value.isInt k v
  | .inr x, v => Value.isStrOf x v
noncomputable def keyH (w : World) : Key → Int
  | .inl k => hashInt k
  | .inr x => hashStr w x
theorem keyIs_shape : ∀ {k : Key} {v : Value}, keyIs k v = true → (∃ i t, k = Sum.inl i ∧ v = Value.int i t) ∨ (∃ x t, k = Sum.inr x ∧ v = Value.str x t)
  | .inl i, v, h => by
    obtain ⟨t, e⟩ := Value.isInt_shape (k := i) (v := v) h
    exact .inl ⟨i, t, rfl, e⟩
  | .inr x, v, h => by
    obtain ⟨t, e⟩ := Value.isStrOf_shape (x := x) (v := v) h
    exact .inr ⟨x, t, rfl, e⟩
theorem key_ll (a b : Int) : decide ((Sum.inl a : Key) = Sum.inl b) = (a == b) := by
  by_cases e : a = b
  · subst e; simp
  · have h : ¬ (Sum.inl a : Key) = Sum.inl b := fun q => e (Sum.inl.inj q)
    rw [decide_eq_false h]
    exact (beq_eq_false_iff_ne.mpr e).symm
theorem key_rr (a b : Str) : decide ((Sum.inr a : Key) = Sum.inr b) = decide (a = b) := by
  by_cases e : a = b
  · subst e; simp
  · have h : ¬ (Sum.inr a : Key) = Sum.inr b := fun q => e (Sum.inr.inj q)
    rw [decide_eq_false h, decide_eq_false e]
theorem key_lr (a : Int) (b : Str) : decide ((Sum.inl a : Key) = Sum.inr b) = false := decide_eq_false (fun q => nomatch q)
theorem key_rl (a : Str) (b : Int) : decide ((Sum.inr a : Key) = Sum.inl b) = false := decide_eq_false (fun q => nomatch q)
noncomputable def mixKind (prog : Program) (w : World) : PySem.KeyKind prog w Key where
  is := keyIs
  hash := keyH w
  inj := fun v a b ha hb => by
    rcases keyIs_shape ha with ⟨i, t, rfl, rfl⟩ | ⟨x, t, rfl, rfl⟩
    · rcases keyIs_shape hb with ⟨j, u, rfl, e⟩ | ⟨y, u, rfl, e⟩
      · injection e with e1 _; rw [e1]
      · exact nomatch e
    · rcases keyIs_shape hb with ⟨j, u, rfl, e⟩ | ⟨y, u, rfl, e⟩
      · exact nomatch e
      · injection e with e1 _; rw [e1]
  byValue := fun k v h => by
    rcases keyIs_shape h with ⟨i, t, rfl, rfl⟩ | ⟨x, t, rfl, rfl⟩ <;> rfl
  pyHash := fun hv h => by
    rcases keyIs_shape hv with ⟨i, t, rfl, rfl⟩ | ⟨x, t, rfl, rfl⟩
    · exact wpAny_pyHash_int h
    · exact wpAny_pyHash_str h
  eqBool := fun hu hv h => by
    rcases keyIs_shape hu with ⟨i, t, rfl, rfl⟩ | ⟨x, t, rfl, rfl⟩
    · rcases keyIs_shape hv with ⟨j, u, rfl, rfl⟩ | ⟨y, u, rfl, rfl⟩
      · rw [key_ll] at h; exact wpAny_eqBool_int h
      · rw [key_lr] at h; exact SeqAt.EqAt.int_str i t y u _ _ _ _ h
    · rcases keyIs_shape hv with ⟨j, u, rfl, rfl⟩ | ⟨y, u, rfl, rfl⟩
      · rw [key_rl] at h; exact SeqAt.EqAt.str_int x t j u _ _ _ _ h
      · rw [key_rr] at h; exact wpAny_eqBool_str h
  «strs» := fun k x t v h => by
    rcases keyIs_shape h with ⟨i, u, rfl, e⟩ | ⟨y, u, rfl, e⟩
    · exact nomatch e
    · injection e with e1 _
      subst e1
      cases v <;> rfl
end L2
namespace L2
open PySem PySem.Spec PyProof.Rows
inductive V where
  | non | bl (b : Bool) | int (i : Int) | str (x : Str) | byt (b : Array UInt8) | flt (b : UInt64) | ref (a : Addr) | ty (n : String)
  deriving DecidableEq
noncomputable def RelV : V → Value → Prop
  | .non, u => u = Value.none
  | .bl b, u => u = Value.bool b
  | .int i, u => ∃ t, u = Value.int i t
  | .str x, u => ∃ t, u = Value.str x t
  | .byt b, u => ∃ t, u = Value.bytes b t
  | .flt b, u => ∃ t, u = Value.float b t
  | .ref a, u => u = Value.ref a
  | .ty n, u => u = Value.type n
abbrev Vals : List V → List Value → Prop := Paired RelV
theorem Vals.length {xs : List V} {us : List Value} (r : Vals xs us) : xs.length = us.length := Paired.length r
theorem Vals.get : ∀ {xs : List V} {us : List Value} {i : Nat} {x : V}, Vals xs us → xs[i]? = some x → ∃ u, us[i]? = some u ∧ RelV x u
  | _, _, _, _, .nil, e => by simp at e
  | _, _, 0, _, .cons r _, e => by simp at e; subst e; exact ⟨_, rfl, r⟩
  | _, _, i + 1, x, .cons _ t, e => by
    obtain ⟨u, h1, h2⟩ := Vals.get (i := i) (x := x) t (by simpa using e)
    exact ⟨u, by simpa using h1, h2⟩
theorem Vals.set {x : V} {u : Value} (r : RelV x u) : ∀ {xs : List V} {us : List Value} (i : Nat), Vals xs us → Vals (xs.set i x) (us.set i u)
  | _, _, _, .nil => .nil
  | _, _, 0, .cons _ t => .cons r t
  | _, _, i + 1, .cons q t => .cons q (Vals.set r i t)
theorem Vals.append : ∀ {xs ys : List V} {us ws : List Value}, Vals xs us → Vals ys ws → Vals (xs ++ ys) (us ++ ws)
  | _, _, _, _, .nil, s => s
  | _, _, _, _, .cons r t, s => .cons r (Vals.append t s)
theorem Vals.take : ∀ {xs : List V} {us : List Value} (n : Nat), Vals xs us → Vals (xs.take n) (us.take n)
  | _, _, 0, _ => .nil
  | _, _, _ + 1, .nil => .nil
  | _, _, n + 1, .cons r t => .cons r (Vals.take n t)
theorem Vals.drop : ∀ {xs : List V} {us : List Value} (n : Nat), Vals xs us → Vals (xs.drop n) (us.drop n)
  | _, _, 0, r => r
  | _, _, _ + 1, .nil => .nil
  | _, _, n + 1, .cons _ t => Vals.drop n t
noncomputable def RelO : Option V → Option Value → Prop
  | some v, some u => RelV v u
  | none, none => True
  | _, _ => False
noncomputable def KV {κ : Type} : List (κ × V) → List (κ × Value) → Prop := Paired fun (p : κ × V) (q : κ × Value) => p.1 = q.1 ∧ RelV p.2 q.2
noncomputable def kV : Key → V
  | .inl i => .int i
  | .inr x => .str x
inductive HO where
  /-- a list -/
  | lst (xs : List V)
  /-- a tuple (never changes) -/
  | tup (xs : List V)
  /-- a dict whose keys are ints and texts; one whose keys are tuples of ints and texts (the empty one is both) -/
  | dK (kvs : List (Key × V)) | dT (kvs : List (List Key × V))
  /-- a set of ints: its members, its size -/
  | set (S : Int → Bool) (n : Nat)
  /-- an instance of the class at C, its dict at dx, its attributes -/
  | ins (C dx : Addr) (fs : List (Str × V))
  /-- the dict of the instance at x -/
  | own (x : Addr)
  /-- the dict of an exception -/
  | xd (fs : List (Str × V))
  /-- a bound method, f of x -/
  | met (f x : Addr)
  /-- a range object lo, lo + 1, .. below hi -/
  | rng (lo hi : Int)
  /-- a thing that is known to the object (the script; a dict while a loop walks it): read, never written while it is so -/
  | frz (o : Obj) (u : HO)
  /-- a code object's table -/
  | tbl (ps : Array Value)
  /-- any other thing, by what is true of its one object (a def of one's own: SetO a S n := HO.ext fun h => ..) -/
  | ext (φ : Heap → Prop)
abbrev Hp := Addr → Option HO
noncomputable def upd (H : Hp) (a : Addr) (o : HO) : Hp := fun b => if b = a then some o else H b
theorem upd_same {H : Hp} {a : Addr} {o : HO} : upd H a o a = some o := by unfold upd; rw [if_pos rfl]
theorem upd_ne {H : Hp} {a b : Addr} {o : HO} (h : b ≠ a) : upd H a o b = H b := by unfold upd; rw [if_neg h]
theorem ne_of {H : Hp} {a b : Addr} {o u : HO} (h : H a = some o) (h' : H b = some u) (d : o ≠ u) : a ≠ b := by
  intro e; subst e; rw [h] at h'; exact d (Option.some.inj h')
theorem ne_of_none {H : Hp} {a b : Addr} {o : HO} (h : H a = some o) (h' : H b = none) : a ≠ b := by
  intro e; subst e; rw [h] at h'; cases h'
section
variable (P : Program) (w : World)
noncomputable def ObjOk (H : Hp) (h : Heap) (a : Addr) : HO → Prop
  | .lst xs => xs.length ≤ sizeLine ∧ ∃ (its : List Value) (n : Nat), Vals xs its ∧ h.get? a = some { cls := .type "list", data := .seq its.toArray n }
  | .tup xs => xs.length ≤ sizeLine ∧ ∃ its : List Value, Vals xs its ∧ IsTup h a its.toArray
  | .dK kvs => kvs.length ≤ sizeLine ∧ (a == sysModules) = false ∧ ∃ vs, KV kvs vs ∧ h.DictOf (mixKind P w) a vs
  | .dT kvs => kvs.length ≤ sizeLine ∧ (a == sysModules) = false ∧ ∃ xs : List (List Key × Addr × Value),
      Paired (fun (p : List Key × V) (q : List Key × Addr × Value) => p.1 = q.1 ∧ H q.2.1 = some (.tup (p.1.map kV)) ∧ RelV p.2 q.2.2) kvs xs ∧
      ∃ o es ep, h.get? a = some o ∧ o.ExactDict ∧ o.data = .dict es ep ∧ es.toList = xs.map (entryOfKey (tupleKind (mixKind P w))) ∧ (xs.map (·.1)).Nodup
  | .set S n => h.SetOf (intKind P w) a S n
  | .ins C dx fs => H dx = some (.own a) ∧ fs.length ≤ 1000 ∧ dx ≠ a ∧ h.get? a = some (PySem.W.instObj C dx) ∧
      ∃ mA, h.Ns1 dx mA ∧ (∀ f, RelO (fs.lookup f) (mA f)) ∧ PySem.Within mA (fs.map (·.1))
  | .own _ => ∃ o, h.get? a = some o
  | .xd fs => ∃ mA, h.Ns1 a mA ∧ ∀ f, RelO (fs.lookup f) (mA f)
  | .rng lo hi => ∃ t u v, h.get? a = some { cls := .type "range", data := .fields #[.int lo t, .int hi u, .int 1 v] }
  | .frz o u => h.get? a = some o ∧ ObjOk H h a u
  | .tbl ps => h.get? a = some { cls := .none, data := .fields ps }
  | .met f x => h.get? a = some (PySem.W.methodObj (.ref f) (.ref x))
  | .ext φ => φ h ∧ (∃ o, h.get? a = some o) ∧ ∀ h1 h2 : Heap, φ h1 → (∀ o, h1.get? a = some o → h2.get? a = some o) → φ h2
noncomputable def HOk (H : Hp) (h : Heap) : Prop := ∀ a o, H a = some o → ObjOk P w H h a o
end
section
variable {P : Program} {w : World} {H H' : Hp} {h h' : Heap} {a : Addr} {o : HO}
theorem ObjOk.lt (x : ObjOk P w H h a o) : a < h.objs.size := by
  cases o with
  | lst xs => obtain ⟨_, _, _, _, e⟩ := x; exact Heap.lt_size e
  | tup xs => obtain ⟨_, _, _, p⟩ := x; exact p.lt
  | dK kvs => obtain ⟨_, _, _, _, o, _, _, e, _⟩ := x; exact Heap.lt_size e
  | dT kvs => obtain ⟨_, _, _, _, o, _, _, e, _⟩ := x; exact Heap.lt_size e
  | set S n => obtain ⟨o, _, _, _, e, _⟩ := x; exact Heap.lt_size e
  | ins C dx fs => obtain ⟨_, _, _, e, _⟩ := x; exact Heap.lt_size e
  | own y => obtain ⟨_, e⟩ := x; exact Heap.lt_size e
  | xd fs => obtain ⟨_, ⟨_, _, _, e, _⟩, _⟩ := x; exact Heap.lt_size e
  | rng lo hi => obtain ⟨_, _, _, e⟩ := x; exact Heap.lt_size e
  | frz ob u => obtain ⟨e, _⟩ := x; exact Heap.lt_size e
  | tbl ps => exact Heap.lt_size (show h.get? a = some _ from x)
  | met f y => exact Heap.lt_size (show h.get? a = some _ from x)
  | ext φ => obtain ⟨_, ⟨_, e⟩, _⟩ := x; exact Heap.lt_size e
theorem Paired.mapP {α β : Type} {F G : α → β → Prop} : ∀ {l₁ : List α} {l₂ : List β}, Paired F l₁ l₂ → (∀ a b, F a b → G a b) → Paired G l₁ l₂
  | _, _, .nil, _ => .nil
  | _, _, .cons r t, f => .cons (f _ _ r) (Paired.mapP t f)
theorem ObjOk.stay (x : ObjOk P w H h a o) (k : ∀ b u, (b = a ∨ H b = some (.own a)) → h.get? b = some u → h'.get? b = some u)
    (ho : ∀ b, H b = some (.own a) → H' b = some (.own a)) (ht : ∀ b xs, H b = some (.tup xs) → H' b = some (.tup xs)) : ObjOk P w H' h' a o := by
  induction o with
  | lst xs => obtain ⟨z, its, n, r, e⟩ := x; exact ⟨z, its, n, r, k _ _ (.inl rfl) e⟩
  | tup xs => obtain ⟨z, its, r, ob, e, c⟩ := x; exact ⟨z, its, r, ob, k _ _ (.inl rfl) e, c⟩
  | dK kvs => obtain ⟨z, y, vs, r, ob, es, ep, e, c⟩ := x; exact ⟨z, y, vs, r, ob, es, ep, k _ _ (.inl rfl) e, c⟩
  | dT kvs =>
    obtain ⟨z, y, xs, r, ob, es, ep, e, c⟩ := x
    exact ⟨z, y, xs, Paired.mapP r fun p q z => ⟨z.1, ht _ _ z.2.1, z.2.2⟩, ob, es, ep, k _ _ (.inl rfl) e, c⟩
  | set S n => obtain ⟨ob, es, ep, t, e, c⟩ := x; exact ⟨ob, es, ep, t, k _ _ (.inl rfl) e, c⟩
  | ins C dx fs =>
    obtain ⟨d, z, ne, e, mA, ⟨od, es, ep, e2, c⟩, r⟩ := x
    exact ⟨ho _ d, z, ne, k _ _ (.inl rfl) e, mA, ⟨od, es, ep, k _ _ (.inr d) e2, c⟩, r⟩
  | own y => obtain ⟨ob, e⟩ := x; exact ⟨ob, k _ _ (.inl rfl) e⟩
  | xd fs => obtain ⟨mA, ⟨od, es, ep, e, c⟩, r⟩ := x; exact ⟨mA, ⟨od, es, ep, k _ _ (.inl rfl) e, c⟩, r⟩
  | rng lo hi => obtain ⟨t, u, v, e⟩ := x; exact ⟨t, u, v, k _ _ (.inl rfl) e⟩
  | frz ob u ih => obtain ⟨e, q⟩ := x; exact ⟨k _ _ (.inl rfl) e, ih q⟩
  | tbl ps =>
    have e : h.get? a = some { cls := .none, data := .fields ps } := x
    show h'.get? a = some { cls := .none, data := .fields ps }
    exact k a _ (.inl rfl) e
  | met f y =>
    have e : h.get? a = some (PySem.W.methodObj (.ref f) (.ref y)) := x
    show h'.get? a = some (PySem.W.methodObj (.ref f) (.ref y))
    exact k a _ (.inl rfl) e
  | ext φ => obtain ⟨p, ⟨o, e⟩, st⟩ := x; exact ⟨st _ _ p fun o q => k _ _ (.inl rfl) q, ⟨o, k _ _ (.inl rfl) e⟩, st⟩
theorem HOk.lt (x : HOk P w H h) (e : H a = some o) : a < h.objs.size := (x a o e).lt
theorem HOk.fresh (x : HOk P w H h) (e : h.objs.size ≤ a) : H a = none := by
  cases q : H a with
  | none => rfl
  | some u => exact absurd (Nat.lt_of_lt_of_le (x.lt q) e) (Nat.lt_irrefl _)
theorem HOk.kept (x : HOk P w H h) (k : ∀ b u, h.get? b = some u → h'.get? b = some u) : HOk P w H h' := fun a o e =>
  (x a o e).stay (fun b u _ q => k b u q) (fun _ q => q) fun _ _ q => q
theorem HOk.laid (x : HOk P w H h) (k : ∀ b u, h.get? b = some u → h'.get? b = some u) (hp : h.objs.size ≤ a) (new : ObjOk P w (upd H a o) h' a o) : HOk P w (upd H a o) h' := fun b u e => by
  have hn := x.fresh hp
  by_cases hb : b = a
  · subst hb; rw [upd_same] at e; cases e; exact new
  · rw [upd_ne hb] at e
    exact (x b u e).stay (fun c v _ q => k c v q) (fun c q => by rw [upd_ne (ne_of_none q hn)]; exact q) fun c xs q => by rw [upd_ne (ne_of_none q hn)]; exact q
end
noncomputable def Rd (H : Hp) (a : Addr) (u : HO) : Prop := H a = some u ∨ ∃ o, H a = some (.frz o u)
theorem Rd.of {H : Hp} {a : Addr} {u : HO} (h : H a = some u) : Rd H a u := .inl h
theorem Rd.ok {P : Program} {w : World} {H : Hp} {h : Heap} {a : Addr} {u : HO} (r : Rd H a u) (x : HOk P w H h) : ObjOk P w H h a u := by
  rcases r with r | ⟨o, r⟩
  · exact x a u r
  · obtain ⟨_, q⟩ := x a _ r
    exact q
noncomputable def Mut : Option HO → Prop
  | some (.lst _) => True
  | some (.dK _) => True
  | some (.dT _) => True
  | some (.set _ _) => True
  | some (.ins _ _ _) => True
  | some (.ext _) => True
  | _ => False
section
variable {P : Program} {w : World} {H : Hp} {h h' : Heap} {x e : Addr} {o' : HO}
theorem HOk.write (ok : HOk P w H h) (mu : Mut (H x)) (he : e = x ∨ H e = some (.own x)) (k : ∀ b u, b ≠ e → h.get? b = some u → h'.get? b = some u) (heo : ∃ u, h'.get? e = some u)
    (new : ObjOk P w (upd H x o') h' x o') : HOk P w (upd H x o') h' := fun b u q => by
  have nown : ∀ c y, H c = some (.own y) → c ≠ x := fun c y r z => by subst z; rw [r] at mu; exact mu
  have ntup : ∀ c xs, H c = some (.tup xs) → c ≠ x := fun c xs r z => by subst z; rw [r] at mu; exact mu
  by_cases hb : b = x
  · subst hb; rw [upd_same] at q; cases q; exact new
  · rw [upd_ne hb] at q
    by_cases hbe : b = e
    · have q' : H b = some (.own x) := by
        rcases he with z | z
        · exact absurd (hbe.trans z) hb
        · rw [hbe]; exact z
      rw [q] at q'; cases q'
      obtain ⟨v, hv⟩ := heo
      exact ⟨v, by rw [hbe]; exact hv⟩
    · refine (ok b u q).stay (fun c v hc r => k c v ?_ r) (fun c r => by rw [upd_ne (nown c b r)]; exact r) fun c xs r => by rw [upd_ne (ntup c xs r)]; exact r
      rcases hc with rfl | hc
      · exact hbe
      · rintro rfl
        rcases he with z | z
        · exact nown c b hc z
        · rw [hc] at z; cases z; exact hb rfl
end
structure Un (fs ex : List Addr) (H H' : Hp) (h h' : Heap) : Prop where
  keep : ∀ b o, h.get? b = some o → H b = none → b ∉ fs → b ∉ ex → h'.get? b = some o
  slot : ∀ b o, h.get? b = some o → H b = none → b ∈ fs → b ∉ ex → ∃ sl, h'.get? b = some { o with slots := sl }
  free : ∀ b o, h.get? b = some o → H b = none → b ∉ ex → H' b = none
  there : ∀ b o, h.get? b = some o → b ∉ ex → ∃ o', h'.get? b = some o'
  tups : ∀ b xs, H b = some (.tup xs) → H' b = some (.tup xs)
  frzs : ∀ b o u, H b = some (.frz o u) → H' b = some (.frz o u)
  tbls : ∀ b ps, H b = some (.tbl ps) → ∃ more, H' b = some (.tbl (ps ++ more))
section
variable {fs fs' ex ex' : List Addr} {H H1 H2 : Hp} {h h1 h2 h' : Heap} {a x e : Addr} {o : HO}
theorem Un.any (u : Un fs ex H H1 h h1) {b : Addr} {ob : Obj} (q : h.get? b = some ob) (n : H b = none) (hx : b ∉ ex) : ∃ sl, h1.get? b = some { ob with slots := sl } := by
  by_cases hb : b ∈ fs
  · exact u.slot b ob q n hb hx
  · exact ⟨ob.slots, u.keep b ob q n hb hx⟩
theorem Un.trans (a : Un fs ex H H1 h h1) (b : Un fs ex H1 H2 h1 h2) : Un fs ex H H2 h h2 where
  keep := fun c ob q n hc hx => b.keep c ob (a.keep c ob q n hc hx) (a.free c ob q n hx) hc hx
  slot := fun c ob q n hc hx => by
    obtain ⟨sl, e1⟩ := a.slot c ob q n hc hx
    obtain ⟨sl', e2⟩ := b.slot c _ e1 (a.free c ob q n hx) hc hx
    exact ⟨sl', e2⟩
  free := fun c ob q n hx => by
    obtain ⟨o', e1⟩ := a.there c ob q hx
    exact b.free c o' e1 (a.free c ob q n hx) hx
  there := fun c ob q hx => by
    obtain ⟨o', e1⟩ := a.there c ob q hx
    exact b.there c o' e1 hx
  tups := fun c xs q => b.tups c xs (a.tups c xs q)
  frzs := fun c ob xs q => b.frzs c ob xs (a.frzs c ob xs q)
  tbls := fun c ps q => by
    obtain ⟨m1, e1⟩ := a.tbls c ps q
    obtain ⟨m2, e2⟩ := b.tbls c _ e1
    exact ⟨m1 ++ m2, by rw [e2, Array.append_assoc]⟩
theorem Un.kept (k : ∀ b u, h.get? b = some u → h'.get? b = some u) : Un fs ex H H h h' :=
  ⟨fun b ob q _ _ _ => k b ob q, fun b ob q _ _ _ => ⟨ob.slots, k b ob q⟩, fun _ _ _ n _ => n, fun b ob q _ => ⟨ob, k b ob q⟩, fun _ _ q => q, fun _ _ _ q => q, fun _ ps q => ⟨#[], by rw [q]; simp⟩⟩
theorem Un.refl : Un fs ex H H h h := Un.kept fun _ _ q => q
theorem Un.laid (k : ∀ b u, h.get? b = some u → h'.get? b = some u) (hp : h.objs.size ≤ a) (hn : H a = none) : Un fs ex H (upd H a o) h h' where
  keep := fun b u q _ _ _ => k b u q
  slot := fun b u q _ _ _ => ⟨u.slots, k b u q⟩
  free := fun b u q n _ => by rw [upd_ne (Nat.ne_of_lt (Nat.lt_of_lt_of_le (Heap.lt_size q) hp))]; exact n
  there := fun b u q _ => ⟨u, k b u q⟩
  tups := fun b xs q => by rw [upd_ne (ne_of_none q hn)]; exact q
  frzs := fun b u xs q => by rw [upd_ne (ne_of_none q hn)]; exact q
  tbls := fun b ps q => ⟨#[], by rw [upd_ne (ne_of_none q hn), q]; simp⟩
theorem Un.write (mu : Mut (H x)) (he : e = x ∨ H e = some (.own x)) (k : ∀ b u, b ≠ e → h.get? b = some u → h'.get? b = some u) (heo : ∃ u, h'.get? e = some u) : Un fs ex H (upd H x o) h h' := by
  have hx : ∀ b, H b = none → b ≠ x := fun b n z => by subst z; rw [n] at mu; exact mu
  have hb : ∀ b, H b = none → b ≠ e := fun b n z => by
    subst z
    rcases he with r | r
    · exact hx b n r
    · rw [n] at r; cases r
  have hm : ∀ b u, H b = some u → ¬ Mut (some u) → b ≠ x := fun b u q nm z => by subst z; rw [q] at mu; exact nm mu
  refine ⟨fun b u q n _ _ => k b u (hb b n) q, fun b u q n _ _ => ⟨u.slots, k b u (hb b n) q⟩, fun b u q n _ => by rw [upd_ne (hx b n)]; exact n, fun b u q _ => ?_,
    fun b xs q => by rw [upd_ne (hm b _ q fun z => z)]; exact q, fun b u xs q => by rw [upd_ne (hm b _ q fun z => z)]; exact q, fun b ps q => ⟨#[], by rw [upd_ne (hm b _ q fun z => z), q]; simp⟩⟩
  by_cases hbe : b = e
  · subst hbe; exact heo
  · exact ⟨u, k b u hbe q⟩
theorem Un.mono (u : Un fs ex H H1 h h1) (hs : ∀ b ∈ fs, b ∈ fs') (hx : ∀ b ∈ ex, b ∈ ex') : Un fs' ex' H H1 h h1 :=
  ⟨fun b ob q n hb he => u.keep b ob q n (fun z => hb (hs b z)) fun z => he (hx b z), fun _ _ q n _ he => u.any q n fun z => he (hx _ z), fun b ob q n he => u.free b ob q n fun z => he (hx b z), fun b ob q he => u.there b ob q fun z => he (hx b z), u.tups, u.frzs, u.tbls⟩
end
noncomputable def trk (h : Heap) (H : Hp) : List Addr := (List.range h.objs.size).filter fun a => (H a).isSome
noncomputable def hidT (h : Heap) (H : Hp) : Heap := PySem.W.hideAll h (trk h H)
theorem hidT_size (h : Heap) (H : Hp) : (hidT h H).objs.size = h.objs.size := PySem.W.hideAll_size _ _
theorem hidT_get {h : Heap} {H : Hp} {b : Addr} {o : Obj} (e : h.get? b = some o) (n : H b = none) : (hidT h H).get? b = some o :=
  PySem.W.hideAll_get _ e fun hm => by
    have q : (H b).isSome = true := (List.mem_filter.mp hm).2
    rw [n] at q; simp at q
theorem of_hidT {h : Heap} {H : Hp} {b : Addr} {o : Obj} (e : (hidT h H).get? b = some o) : h.get? b = some o ∧ H b = none := by
  have e' : h.get? b = some o := PySem.W.of_hideAll (trk h H) e
  refine ⟨e', ?_⟩
  cases q : H b with
  | none => rfl
  | some x =>
    have hm : b ∈ trk h H := List.mem_filter.mpr ⟨List.mem_range.mpr (Heap.lt_size e'), by simp [q]⟩
    have z : (hidT h H).get? b = none := PySem.W.hideAll_none (trk h H) hm
    rw [z] at e; cases e
noncomputable def allNews (g h : Heap) (L : Addr) : List (Addr × Obj) := (List.range h.objs.size).filterMap fun a => if a = L ∨ (g.get? a).isSome = true then none else (h.get? a).map fun o => (a, o)
noncomputable def rest (g h : Heap) (L d : Addr) : List (Addr × Obj) := (allNews g h L).filter fun p => decide (p.1 ≠ d)
end L2
namespace L2
open PySem PySem.Spec PyProof.Rows
structure Mod (K : PySem.W.Frag) (mg : Str → Option Value) (base : Heap) : Prop where
  kin : K.In base
  glob : base.Ns mainGlobals mg
  blt : ∃ mb, base.Ns builtinsNs mb ∧ ∀ x : Str, x ≠ "__name__" → mb x = bootBuiltins x
  nolimit : base.NoLimit
structure Cx where
  prog : Program
  w : World
  K : PySem.W.Frag
  mg : Str → Option Value
  base : Heap
  A : Around
  N : List Str
  s₀ : Shared
  H₀ : Hp
  env : Env
  outer : List Env
  stack : List Env
  ex : List Addr
  fn : Str → Bool
  calm : Bool
  pn : List (Addr × Obj)
  xe : Value → Shared → Prop
noncomputable def frs (l : List Env) : List Addr := l.filterMap (·.frame)
noncomputable abbrev Cx.fs (X : Cx) : List Addr := frs X.outer
noncomputable def Vis (sc : Scope) (x : Str) : Prop := sc.names.lookup x = some .local ∨ sc.names.lookup x = some .cell ∨ sc.names.lookup x = some .free
noncomputable def Loc (sc : Scope) (x : Str) : Prop := sc.names.lookup x = some .local ∨ sc.names.lookup x = some .cell
noncomputable def Look (env : Env) (h : Heap) (m : Str → Option Value) (x : Str) (u : Value) : Prop :=
  (env.kindOf x = some .local ∧ m x = some u) ∨ ((env.kindOf x = some .cell ∨ env.kindOf x = some .free) ∧ ∃ c, env.cells.lookup x = some c ∧ h.IsCell c (some u))
structure Cx.Ok (X : Cx) : Prop where
  mod : Mod X.K X.mg X.base
  kind : X.env.scope.kind = .function
  glob : X.env.globals = mainGlobals
  blt : X.env.builtins = builtinsNs
  above : X.s₀.heap.objs.size ≤ X.env.locals
  inj : ∀ x y c, X.env.cells.lookup x = some c → X.env.cells.lookup y = some c → x = y
  has : ∀ x, (X.env.kindOf x = some .cell ∨ X.env.kindOf x = some .free) → ∃ c, X.env.cells.lookup x = some c
  cab : ∀ x c, X.fn x = true → X.env.cells.lookup x = some c → X.s₀.heap.objs.size ≤ c
  hd : X.calm = true → X.A.handled = none
  frames : X.A.frames = some X.stack
  stk : X.stack = X.outer ∨ (X.stack = X.env :: X.outer ∧ X.env.frame = some X.env.locals)
  exf : ∀ b ∈ X.ex, b ≠ X.env.locals ∧ ∀ x c, X.env.cells.lookup x = some c → c ≠ b
  bs : ∀ b o, X.base.get? b = some o → X.s₀.heap.get? b = some o ∧ X.H₀ b = none
  bsz : X.base.objs.size ≤ X.s₀.heap.objs.size
  noex : ∀ b o, X.base.get? b = some o → b ∉ X.ex
  exfs : ∀ b ∈ X.ex, b ∉ X.fs
  funs : X.s₀.heap.FunFrames X.base X.outer
  frf : ∀ b ∈ X.fs, X.H₀ b = none
structure Inv (X : Cx) (pins : List (Addr × Obj)) (σ : List (Option V)) (H : Hp) (s : Shared) : Prop where
  ok : X.Ok
  os : s.os = X.s₀.os
  bare : AllBare s.gens
  base : Un X.fs X.ex X.H₀ H X.s₀.heap s.heap
  loc : ∃ m, s.heap.Ns X.env.locals m ∧ ∀ (i : Nat) (x : Str) (v : V), X.N[i]? = some x → σ[i]? = some (some v) → Vis X.env.scope x → ∃ u, RelV v u ∧ Look X.env s.heap m x u
  cell : ∀ x c, X.env.cells.lookup x = some c → ∃ v, s.heap.IsCell c v
  free : H X.env.locals = none
  freeC : ∀ x c, X.env.cells.lookup x = some c → H c = none
  pin : ∀ p ∈ X.pn ++ pins, s.heap.get? p.1 = some p.2 ∧ H p.1 = none ∧ p.1 ≠ X.env.locals ∧ p.1 ∉ X.fs ∧ ∀ v, p.2.data ≠ .cell v
  hok : HOk X.prog X.w H s.heap
  len : σ.length = X.N.length
section
variable {X : Cx} {pins : List (Addr × Obj)} {σ : List (Option V)} {H H' : Hp} {s : Shared} {h' : Heap}
theorem Cx.Ok.nofr (ok : X.Ok) {b : Addr} {o : Obj} (e : X.base.get? b = some o) : b ∉ X.fs := fun hb => by
  have := (ok.funs.mem hb).1
  rw [e] at this; cases this
theorem Inv.bs (I : Inv X pins σ H s) : ∀ b o, X.base.get? b = some o → s.heap.get? b = some o ∧ H b = none := fun b o e =>
  ⟨I.base.keep b o (I.ok.bs b o e).1 (I.ok.bs b o e).2 (I.ok.nofr e) (I.ok.noex b o e), I.base.free b o (I.ok.bs b o e).1 (I.ok.bs b o e).2 (I.ok.noex b o e)⟩
theorem Inv.bk (I : Inv X pins σ H s) : ∀ b o, X.base.get? b = some o → s.heap.get? b = some o := fun b o e => (I.bs b o e).1
theorem Inv.mod (I : Inv X pins σ H s) : Mod X.K X.mg X.base := I.ok.mod
theorem Inv.kIn (I : Inv X pins σ H s) : X.K.In s.heap := I.ok.mod.kin.keeps I.bk
theorem Inv.nolimit (I : Inv X pins σ H s) : s.heap.NoLimit := I.ok.mod.nolimit.keeps I.bk
theorem Inv.fr (I : Inv X pins σ H s) : ∃ m, Fr X.base X.env.locals s.heap m :=
  let ⟨m, hn, _⟩ := I.loc
  ⟨m, hn, I.bk, Nat.le_trans I.ok.bsz I.ok.above⟩
theorem Inv.lt (I : Inv X pins σ H s) : X.env.locals < s.heap.objs.size := let ⟨_, hn, _⟩ := I.loc; hn.lt
theorem Inv.sz (I : Inv X pins σ H s) : X.s₀.heap.objs.size ≤ s.heap.objs.size := Nat.le_trans I.ok.above (Nat.le_of_lt I.lt)
theorem Inv.nofs (I : Inv X pins σ H s) {a : Addr} (h : s.heap.objs.size ≤ a) : a ∉ X.fs := fun hb => by
  obtain ⟨_, o, ho, _⟩ := I.ok.funs.mem hb
  exact absurd (Nat.lt_of_lt_of_le (Heap.lt_size ho) (Nat.le_trans I.sz h)) (Nat.lt_irrefl _)
theorem Inv.cne (I : Inv X pins σ H s) : ∀ x c, X.env.cells.lookup x = some c → c ≠ X.env.locals := fun x c e z => by
  obtain ⟨v, o, ho, hd⟩ := I.cell x c e
  obtain ⟨m, ⟨o', es, ep, ho', hd', _⟩, _⟩ := I.loc
  rw [z, ho'] at ho; cases ho; rw [hd'] at hd; cases hd
theorem Inv.funs (I : Inv X pins σ H s) : s.heap.FunFrames X.base X.outer := by
  have all : ∀ (l : List Env), (∀ b ∈ frs l, b ∈ X.fs) → X.s₀.heap.FunFrames X.base l → s.heap.FunFrames X.base l := by
    intro l
    induction l with
    | nil => intro _ _; trivial
    | cons env r ih =>
      intro hs hl
      obtain ⟨hk, ⟨L, o, hf, hn, ho, hd⟩, hr⟩ := hl
      have hL : L ∈ X.fs := hs L (by unfold frs; rw [List.filterMap_cons, hf]; exact List.mem_cons_self)
      obtain ⟨sl, e⟩ := I.base.slot L o ho (I.ok.frf L hL) hL fun z => I.ok.exfs L z hL
      exact ⟨hk, ⟨L, _, hf, hn, e, hd⟩, ih (fun b hb => hs b (by unfold frs; rw [List.filterMap_cons, hf]; exact List.mem_cons_of_mem _ hb)) hr⟩
  exact all X.outer (fun _ hb => hb) I.ok.funs
theorem Inv.stack (I : Inv X pins σ H s) : s.heap.FunFrames X.base X.stack := by
  rcases I.ok.stk with e | ⟨e, hf⟩
  · rw [e]; exact I.funs
  · rw [e]
    obtain ⟨m, hn, _⟩ := I.loc
    refine .cons (by rw [I.ok.kind]; decide) hf hn ?_ I.funs
    exact Heap.get?_none_of_le (Nat.le_trans I.ok.bsz I.ok.above)
theorem Inv.stkSub (I : Inv X pins σ H s) : ∀ b ∈ frs X.stack, b ∈ X.env.locals :: X.fs := fun b hb => by
  rcases I.ok.stk with e | ⟨e, hf⟩
  · rw [e] at hb; exact List.mem_cons_of_mem _ hb
  · rw [e] at hb
    unfold frs at hb
    rw [List.filterMap_cons, hf] at hb
    exact hb
theorem Inv.stkFree (I : Inv X pins σ H s) : ∀ b ∈ frs X.stack, H b = none := fun b hb => by
  rcases List.mem_cons.mp (I.stkSub b hb) with e | hb
  · rw [e]; exact I.free
  · obtain ⟨_, o, ho, _⟩ := I.ok.funs.mem hb
    exact I.base.free b o ho (I.ok.frf b hb) fun z => I.ok.exfs b z hb
theorem Inv.step {g' : Array GenState} {t' : Nat} {d' : Drawn} {ch : List Addr} (I : Inv X pins σ H s)
    (hch : ∀ b ∈ ch, (b ∈ X.ex ∨ X.s₀.heap.objs.size ≤ b) ∧ b ≠ X.env.locals ∧ (∀ x c, X.env.cells.lookup x = some c → c ≠ b) ∧ ∀ p ∈ X.pn ++ pins, p.1 ≠ b)
    (keep : ∀ b o, b ≠ X.env.locals → b ∉ X.fs → b ∉ ch → s.heap.get? b = some o → H b = none → h'.get? b = some o)
    (slot : ∀ b o, b ≠ X.env.locals → b ∈ X.fs → b ∉ ch → s.heap.get? b = some o → H b = none → ∃ sl, h'.get? b = some { o with slots := sl }) (free : ∀ b o, b ∉ ch → s.heap.get? b = some o → H b = none → H' b = none)
    (there : ∀ b o, b ∉ ch → s.heap.get? b = some o → ∃ o', h'.get? b = some o')
    (tups : ∀ b xs, H b = some (.tup xs) → H' b = some (.tup xs)) (frzs : ∀ b o u, H b = some (.frz o u) → H' b = some (.frz o u)) (tbls : ∀ b ps, H b = some (.tbl ps) → ∃ more, H' b = some (.tbl (ps ++ more)))
    (ns : ∀ m, s.heap.Ns X.env.locals m → h'.Ns X.env.locals m) (hok : HOk X.prog X.w H' h') (hg : AllBare g') :
    Inv X pins σ H' { s with heap := h', gens := g', drawn := d', toks := t' } := by
  have neL : ∀ b o, X.s₀.heap.get? b = some o → b ≠ X.env.locals := fun b o e => Nat.ne_of_lt (Nat.lt_of_lt_of_le (Heap.lt_size e) I.ok.above)
  have neC : ∀ b o, X.s₀.heap.get? b = some o → b ∉ X.ex → b ∉ ch := fun b o e hx hb => by
    rcases (hch b hb).1 with z | z
    · exact hx z
    · exact absurd (Nat.lt_of_lt_of_le (Heap.lt_size e) z) (Nat.lt_irrefl _)
  have cellK : ∀ x c, X.env.cells.lookup x = some c → ∀ v, s.heap.IsCell c v → h'.IsCell c v := fun x c e v ⟨o, ho, hd⟩ => by
    have nch : c ∉ ch := fun z => (hch c z).2.2.1 x c e rfl
    by_cases hc : c ∈ X.fs
    · obtain ⟨sl, q⟩ := slot c o (I.cne x c e) hc nch ho (I.freeC x c e)
      exact ⟨_, q, hd⟩
    · exact ⟨o, keep c o (I.cne x c e) hc nch ho (I.freeC x c e), hd⟩
  refine ⟨I.ok, I.os, hg, ⟨fun b o e n hb hx => ?_, fun b o e n hb hx => ?_, fun b o e n hx => ?_, fun b o e hx => ?_, fun b xs e => tups b xs (I.base.tups b xs e), fun b o xs e => frzs b o xs (I.base.frzs b o xs e), fun b ps e => ?_⟩, ?_, fun x c e => ?_, ?_, fun x c e => ?_, fun p hp => ?_, hok, I.len⟩
  · exact keep b o (neL b o e) hb (neC b o e hx) (I.base.keep b o e n hb hx) (I.base.free b o e n hx)
  · obtain ⟨sl, e1⟩ := I.base.slot b o e n hb hx
    obtain ⟨sl', e2⟩ := slot b _ (neL b o e) hb (neC b o e hx) e1 (I.base.free b o e n hx)
    exact ⟨sl', e2⟩
  · obtain ⟨o', e1⟩ := I.base.there b o e hx
    exact free b o' (neC b o e hx) e1 (I.base.free b o e n hx)
  · obtain ⟨o', e1⟩ := I.base.there b o e hx
    exact there b o' (neC b o e hx) e1
  · obtain ⟨m1, e1⟩ := I.base.tbls b ps e
    obtain ⟨m2, e2⟩ := tbls b _ e1
    exact ⟨m1 ++ m2, by rw [e2, Array.append_assoc]⟩
  · obtain ⟨m, hn, hl⟩ := I.loc
    refine ⟨m, ns m hn, fun i x v e1 e2 e3 => ?_⟩
    obtain ⟨u, r, l⟩ := hl i x v e1 e2 e3
    refine ⟨u, r, ?_⟩
    rcases l with l | ⟨k, c, e, z⟩
    · exact .inl l
    · exact .inr ⟨k, c, e, cellK x c e _ z⟩
  · obtain ⟨v, z⟩ := I.cell x c e
    exact ⟨v, cellK x c e v z⟩
  · obtain ⟨m, ⟨o, _, _, ho, _⟩, _⟩ := I.loc
    exact free _ o (fun z => (hch _ z).2.1 rfl) ho I.free
  · obtain ⟨v, o, ho, hd⟩ := I.cell x c e
    exact free c o (fun z => (hch c z).2.2.1 x c e rfl) ho (I.freeC x c e)
  · obtain ⟨e, n, ne, nf, d⟩ := I.pin p hp
    have nch : p.1 ∉ ch := fun z => (hch p.1 z).2.2.2 p hp rfl
    exact ⟨keep p.1 p.2 ne nf nch e n, free p.1 p.2 nch e n, ne, nf, d⟩
theorem Inv.un {t' : Nat} (I : Inv X pins σ H s) (u : Un X.fs [] H H' s.heap h') (hok : HOk X.prog X.w H' h') : Inv X pins σ H' { s with heap := h', toks := t' } := by
  obtain ⟨m, ⟨o, es, ep, ho, r⟩, _⟩ := id I.loc
  obtain ⟨sl, hL⟩ := u.any ho I.free (by simp)
  exact I.step (g' := s.gens) (d' := s.drawn) (ch := []) (fun _ z => nomatch z) (fun b o _ hb _ e n => u.keep b o e n hb (by simp)) (fun b o _ hb _ e n => u.slot b o e n hb (by simp)) (fun b o _ e n => u.free b o e n (by simp)) (fun b o _ e => u.there b o e (by simp)) u.tups u.frzs u.tbls (fun m' hm => by
    obtain ⟨o', es', ep', ho', r'⟩ := hm
    rw [ho] at ho'; cases ho'
    exact ⟨_, es', ep', hL, r'⟩) hok I.bare
theorem Inv.call {g' : Array GenState} {t' : Nat} {d' : Drawn} {ch : List Addr} (I : Inv X pins σ H s) (u : Un (frs X.stack) ch H H' s.heap h') (hok : HOk X.prog X.w H' h') (hg : AllBare g')
    (hch : ∀ b ∈ ch, (b ∈ X.ex ∨ X.s₀.heap.objs.size ≤ b) ∧ b ≠ X.env.locals ∧ (∀ x c, X.env.cells.lookup x = some c → c ≠ b) ∧ ∀ p ∈ X.pn ++ pins, p.1 ≠ b) :
    Inv X pins σ H' { s with heap := h', gens := g', drawn := d', toks := t' } := by
  obtain ⟨m, ⟨o, es, ep, ho, r⟩, _⟩ := id I.loc
  obtain ⟨sl, hL⟩ := u.any ho I.free fun z => (hch _ z).2.1 rfl
  exact I.step (ch := ch) hch (fun b o hL hb hc e n => u.keep b o e n (fun z => (List.mem_cons.mp (I.stkSub b z)).elim hL hb) hc) (fun b o _ _ hc e n => u.any e n hc) (fun b o hc e n => u.free b o e n hc) (fun b o hc e => u.there b o e hc) u.tups u.frzs u.tbls (fun m' hm => by
    obtain ⟨o', es', ep', ho', r'⟩ := hm
    rw [ho] at ho'; cases ho'
    exact ⟨_, es', ep', hL, r'⟩) hok hg
theorem Inv.turned {t' : Nat} {it : Addr} (I : Inv X pins σ H s) (k : ∀ b o, b ≠ it → s.heap.get? b = some o → h'.get? b = some o) (hn : H it = none) (hL : it ≠ X.env.locals)
    (h1 : it ∈ X.ex ∨ X.s₀.heap.objs.size ≤ it) (h2 : ∀ x c, X.env.cells.lookup x = some c → c ≠ it) (h3 : ∀ p ∈ X.pn ++ pins, p.1 ≠ it) : Inv X pins σ H { s with heap := h', toks := t' } := by
  have nit : ∀ b u, H b = some u → b ≠ it := fun b u e z => by rw [z, hn] at e; cases e
  refine I.step (g' := s.gens) (d' := s.drawn) (ch := [it]) (fun b hb => ?_) (fun b o _ _ hc e _ => k b o (fun z => hc (by simp [z])) e) (fun b o _ _ hc e _ => ⟨o.slots, k b o (fun z => hc (by simp [z])) e⟩) (fun _ _ _ _ n => n)
    (fun b o hc e => ⟨o, k b o (fun z => hc (by simp [z])) e⟩) (fun _ _ e => e) (fun _ _ _ e => e) (fun b ps e => ⟨#[], by rw [e]; simp⟩) (fun m hm => ?_) (fun b u e => ?_) I.bare
  · have e : b = it := by simpa using hb
    subst e
    exact ⟨h1, hL, h2, h3⟩
  · obtain ⟨o, es, ep, ho, r⟩ := hm
    exact ⟨o, es, ep, k _ o (Ne.symm hL) ho, r⟩
  · refine (I.hok b u e).stay (fun c v hc q => k c v ?_ q) (fun _ q => q) fun _ _ q => q
    rcases hc with z | z
    · rw [z]; exact nit b u e
    · exact nit c _ z
theorem Inv.tok (I : Inv X pins σ H s) (t : Nat) : Inv X pins σ H { s with toks := t } := I.un (h' := s.heap) (t' := t) Un.refl I.hok
theorem Inv.kept {t' : Nat} (I : Inv X pins σ H s) (k : ∀ b u, s.heap.get? b = some u → h'.get? b = some u) : Inv X pins σ H { s with heap := h', toks := t' } := I.un (Un.kept k) (I.hok.kept k)
theorem Inv.laid {a : Addr} {o : HO} {t' : Nat} (I : Inv X pins σ H s) (k : ∀ b u, s.heap.get? b = some u → h'.get? b = some u) (hp : s.heap.objs.size ≤ a) (new : ObjOk X.prog X.w (upd H a o) h' a o) :
    Inv X pins σ (upd H a o) { s with heap := h', toks := t' } := I.un (Un.laid k hp (I.hok.fresh hp)) (I.hok.laid k hp new)
theorem Inv.write {x e : Addr} {o : HO} {t' : Nat} (I : Inv X pins σ H s) (mu : Mut (H x)) (he : e = x ∨ H e = some (.own x)) (k : ∀ b u, b ≠ e → s.heap.get? b = some u → h'.get? b = some u) (heo : ∃ u, h'.get? e = some u)
    (new : ObjOk X.prog X.w (upd H x o) h' x o) : Inv X pins σ (upd H x o) { s with heap := h', toks := t' } := I.un (Un.write mu he k heo) (I.hok.write mu he k heo new)
theorem Inv.pins_of {pins' : List (Addr × Obj)} (I : Inv X pins σ H s) (h : ∀ p ∈ pins', s.heap.get? p.1 = some p.2 ∧ H p.1 = none ∧ p.1 ≠ X.env.locals ∧ p.1 ∉ X.fs ∧ ∀ v, p.2.data ≠ .cell v) : Inv X pins' σ H s :=
  ⟨I.ok, I.os, I.bare, I.base, I.loc, I.cell, I.free, I.freeC, fun p hp => (List.mem_append.mp hp).elim (fun z => I.pin p (List.mem_append_left _ z)) (h p), I.hok, I.len⟩
theorem nodup_ix {N : List Str} (hN : N.Nodup) {i j : Nat} {x : Str} (a : N[i]? = some x) (b : N[j]? = some x) : i = j := by
  obtain ⟨h1, e1⟩ := List.getElem?_eq_some_iff.mp a
  obtain ⟨h2, e2⟩ := List.getElem?_eq_some_iff.mp b
  exact (List.getElem_inj hN).mp (e1.trans e2.symm)
theorem store_ok2 {M : Model} {A : Around} {E : Value → Shared → Prop} {i : Nat} {x : Str} {v : V} {u : Value} {Q : Unit → Shared → Prop} (I : Inv X pins σ H s) (hN : X.N.Nodup) (hi : X.N[i]? = some x) (hx : Loc X.env.scope x) (r : RelV v u)
    (h : ∀ s', Inv X pins (σ.set i (some v)) H s' → (∃ a, Heap.SameBut a s.heap s'.heap ∧ (a = X.env.locals ∨ X.env.cells.lookup x = some a)) → Q () s') (hf : X.fn x = true ∨ X.env.scope.names.lookup x = some .local := by first | exact .inl rfl | exact .inr rfl | assumption) : wpAny M A (storeName X.env x u) Q E s := by
  obtain ⟨m, hn, hl⟩ := id I.loc
  have hcls : (X.env.scope.kind == .class || (X.env.scope.kind == .module && X.env.locals != X.env.globals)) = false := by rw [I.ok.kind]; rfl
  have hiσ : i < σ.length := by rw [I.len]; exact (List.getElem?_eq_some_iff.mp hi).1
  have cne := I.cne
  have tracked : ∀ {a : Addr} {h' : Heap}, (∃ o, s.heap.get? a = some o ∧ H a = none) → Heap.SameBut a s.heap h' → HOk X.prog X.w H h' := fun {a h'} ha hs b ob e => by
    obtain ⟨_, _, hfree⟩ := ha
    refine (I.hok b ob e).stay (fun c w' hc q => (hs.2 c ?_).trans q) (fun _ q => q) fun _ _ q => q
    rintro rfl
    rcases hc with rfl | hc
    · rw [hfree] at e; cases e
    · rw [hfree] at hc; cases hc
  rcases hx with hk | hk
  · refine wpAny_storeName_local hk hn (fun h' hn' hs => ?_) hcls
    obtain ⟨oL, _, _, hoL, _⟩ := id hn
    refine h _ ⟨I.ok, I.os, I.bare, ⟨fun b o e n hb hx => ?_, fun b o e n hb hx => ?_, I.base.free, fun b o e hx => ?_, I.base.tups, I.base.frzs, I.base.tbls⟩, ⟨_, hn', fun j y v' e1 e2 e3 => ?_⟩, fun y c e => ?_, I.free, I.freeC, fun p hp => ?_, tracked ⟨oL, hoL, I.free⟩ hs, by simpa using I.len⟩ ⟨_, hs, .inl rfl⟩
    · exact (hs.2 b (Nat.ne_of_lt (Nat.lt_of_lt_of_le (Heap.lt_size e) I.ok.above))).trans (I.base.keep b o e n hb hx)
    · obtain ⟨sl, e1⟩ := I.base.slot b o e n hb hx
      exact ⟨sl, (hs.2 b (Nat.ne_of_lt (Nat.lt_of_lt_of_le (Heap.lt_size e) I.ok.above))).trans e1⟩
    · obtain ⟨o', e1⟩ := I.base.there b o e hx
      exact ⟨o', (hs.2 b (Nat.ne_of_lt (Nat.lt_of_lt_of_le (Heap.lt_size e) I.ok.above))).trans e1⟩
    · by_cases hj : j = i
      · subst hj
        rw [hi] at e1; cases e1
        rw [List.getElem?_set_self hiσ] at e2
        cases e2
        exact ⟨u, r, .inl ⟨hk, by simp⟩⟩
      · rw [List.getElem?_set_ne (Ne.symm hj)] at e2
        obtain ⟨u', r', q⟩ := hl j y v' e1 e2 e3
        refine ⟨u', r', ?_⟩
        rcases q with ⟨k, e⟩ | ⟨k, c, e, z⟩
        · refine .inl ⟨k, ?_⟩
          have : y ≠ x := fun e => hj (nodup_ix hN e1 (e ▸ hi))
          simp [this, e]
        · exact .inr ⟨k, c, e, z.sameBut hs (cne y c e)⟩
    · obtain ⟨w', z⟩ := I.cell y c e
      exact ⟨w', z.sameBut hs (cne y c e)⟩
    · obtain ⟨e, n, ne, nf, d⟩ := I.pin p hp
      exact ⟨(hs.2 p.1 ne).trans e, n, ne, nf, d⟩
  · have hfn : X.fn x = true := by
      rcases hf with z | z
      · exact z
      · rw [z] at hk; cases hk
    obtain ⟨c, hc⟩ := I.ok.has x (.inl hk)
    obtain ⟨w', z⟩ := I.cell x c hc
    refine wpAny_storeName_cell I.ok.kind hk hc z (fun h' hc' hs => ?_)
    obtain ⟨oc, hoc, hocd⟩ := id z
    refine h { s with heap := h' } ⟨I.ok, I.os, I.bare, ⟨fun b o e n hb hx => ?_, fun b o e n hb hx => ?_, I.base.free, fun b o e hx => ?_, I.base.tups, I.base.frzs, I.base.tbls⟩, ⟨m, hn.sameBut hs (Ne.symm (cne x c hc)), fun j y v' e1 e2 e3 => ?_⟩, fun y c' e => ?_, I.free, I.freeC, fun p hp => ?_, tracked ⟨oc, hoc, I.freeC x c hc⟩ hs, by simpa using I.len⟩ ⟨c, hs, .inr hc⟩
    · exact (hs.2 b (Nat.ne_of_lt (Nat.lt_of_lt_of_le (Heap.lt_size e) (I.ok.cab x c hfn hc)))).trans (I.base.keep b o e n hb hx)
    · obtain ⟨sl, e1⟩ := I.base.slot b o e n hb hx
      exact ⟨sl, (hs.2 b (Nat.ne_of_lt (Nat.lt_of_lt_of_le (Heap.lt_size e) (I.ok.cab x c hfn hc)))).trans e1⟩
    · obtain ⟨o', e1⟩ := I.base.there b o e hx
      exact ⟨o', (hs.2 b (Nat.ne_of_lt (Nat.lt_of_lt_of_le (Heap.lt_size e) (I.ok.cab x c hfn hc)))).trans e1⟩
    · by_cases hj : j = i
      · subst hj
        rw [hi] at e1; cases e1
        rw [List.getElem?_set_self hiσ] at e2
        cases e2
        exact ⟨u, r, .inr ⟨.inl hk, c, hc, hc'⟩⟩
      · rw [List.getElem?_set_ne (Ne.symm hj)] at e2
        obtain ⟨u', r', q⟩ := hl j y v' e1 e2 e3
        refine ⟨u', r', ?_⟩
        rcases q with q | ⟨k, c', e, z'⟩
        · exact .inl q
        · refine .inr ⟨k, c', e, z'.sameBut hs ?_⟩
          rintro rfl
          exact hj (nodup_ix hN e1 (I.ok.inj _ _ _ e hc ▸ hi))
    · by_cases hcc : c' = c
      · subst hcc; exact ⟨_, hc'⟩
      · obtain ⟨w2, z2⟩ := I.cell y c' e
        exact ⟨w2, z2.sameBut hs hcc⟩
    · obtain ⟨e, n, ne, nf, d⟩ := I.pin p hp
      refine ⟨(hs.2 p.1 ?_).trans e, n, ne, nf, d⟩
      intro q
      rw [q, hoc] at e
      have q' : oc = p.2 := Option.some.inj e
      exact d w' (by rw [← q']; exact hocd)
theorem store_ok {M : Model} {A : Around} {E : Value → Shared → Prop} {i : Nat} {x : Str} {v : V} {u : Value} {Q : Unit → Shared → Prop} (I : Inv X pins σ H s) (hN : X.N.Nodup) (hi : X.N[i]? = some x) (hx : Loc X.env.scope x) (r : RelV v u)
    (h : ∀ s', Inv X pins (σ.set i (some v)) H s' → Q () s') (hf : X.fn x = true ∨ X.env.scope.names.lookup x = some .local := by first | exact .inl rfl | exact .inr rfl | assumption) : wpAny M A (storeName X.env x u) Q E s :=
  store_ok2 I hN hi hx r (fun s' I' _ => h s' I') hf
end
abbrev XK := Value → Option Addr → Hp → Prop
abbrev St := List (Option V)
abbrev VK := V → Hp → Prop
abbrev TE := St → Hp → VK → Prop
abbrev TT := St → Hp → (Bool → Hp → Prop) → Prop
abbrev TA := St → Hp → (List V → Hp → Prop) → Prop
structure Ends where
  nx : St → Hp → Prop
  rt : VK
  bk : St → Hp → Prop := fun _ _ => False
  ct : St → Hp → Prop := fun _ _ => False
abbrev TS := Ends → St → Hp → Prop
noncomputable def EP (X : Cx) (pins : List (Addr × Obj)) (σ : St) (Q : VK) (u : Value) (s' : Shared) : Prop := ∃ v H', Inv X pins σ H' s' ∧ RelV v u ∧ Q v H'
noncomputable def TP (X : Cx) (pins : List (Addr × Obj)) (σ : St) (Q : Bool → Hp → Prop) (b : Bool) (s' : Shared) : Prop := ∃ H', Inv X pins σ H' s' ∧ Q b H'
noncomputable def AP (X : Cx) (pins : List (Addr × Obj)) (σ : St) (Q : List V → Hp → Prop) (us : List Value) (s' : Shared) : Prop := ∃ vs H', Inv X pins σ H' s' ∧ Vals vs us ∧ Q vs H'
noncomputable def SP (X : Cx) (pins : List (Addr × Obj)) (D : Ends) (f : Flow) (s' : Shared) : Prop :=
  match f with
  | .next => ∃ σ' H', Inv X pins σ' H' s' ∧ D.nx σ' H'
  | .brk => ∃ σ' H', Inv X pins σ' H' s' ∧ D.bk σ' H'
  | .cont => ∃ σ' H', Inv X pins σ' H' s' ∧ D.ct σ' H'
  | .ret u => ∃ v σ' H', Inv X pins σ' H' s' ∧ RelV v u ∧ D.rt v H'
noncomputable def PE (X : Cx) (e : Expr) (t : TE) : Prop :=
  ∀ (pins : List (Addr × Obj)) (s : Shared) (σ : St) (H : Hp) (Q : VK), Inv X pins σ H s → t σ H Q → wpAny (model X.prog X.w) X.A (eval e X.env) (EP X pins σ Q) X.xe s
noncomputable def PT (X : Cx) (e : Expr) (t : TT) : Prop :=
  ∀ (pins : List (Addr × Obj)) (s : Shared) (σ : St) (H : Hp) (Q : Bool → Hp → Prop), Inv X pins σ H s → t σ H Q → wpAny (model X.prog X.w) X.A (isTrue e X.env (eval e X.env)) (TP X pins σ Q) X.xe s
noncomputable def PW (X : Cx) (e : Expr) (t : TT) : Prop :=
  ∀ (whole : Sem Value) (pins : List (Addr × Obj)) (s : Shared) (σ : St) (H : Hp) (Q : Bool → Hp → Prop), Inv X pins σ H s → t σ H Q → wpAny (model X.prog X.w) X.A (isTrue e X.env whole) (TP X pins σ Q) X.xe s
theorem PW.pt {X : Cx} {e : Expr} {t : TT} (h : PW X e t) : PT X e t := h _
noncomputable def PA (X : Cx) (es : List Expr) (t : TA) : Prop :=
  ∀ (pos : Pos) (pins : List (Addr × Obj)) (s : Shared) (σ : St) (H : Hp) (Q : List V → Hp → Prop), Inv X pins σ H s → t σ H Q → wpAny (model X.prog X.w) X.A (spliced (backTo pos (starEach es X.env))) (AP X pins σ Q) X.xe s
noncomputable def PS (X : Cx) (st : Stmt) (t : TS) : Prop :=
  ∀ (pins : List (Addr × Obj)) (s : Shared) (σ : St) (H : Hp) (D : Ends), Inv X pins σ H s → t D σ H → wpAny (model X.prog X.w) X.A (exec st X.env) (SP X pins D) X.xe s
noncomputable def PSs (X : Cx) (st : List Stmt) (t : TS) : Prop :=
  ∀ (pins : List (Addr × Obj)) (s : Shared) (σ : St) (H : Hp) (D : Ends), Inv X pins σ H s → t D σ H → wpAny (model X.prog X.w) X.A (execs st X.env) (SP X pins D) X.xe s
theorem thn {α : Type} {t : Sem α} {Q Q' : α → Shared → Prop} {M : Model} {A : Around} {E : Value → Shared → Prop} {s : Shared} (h : wpAny M A t Q E s) (hQ : ∀ a s, Q a s → Q' a s) : wpAny M A t Q' E s := wpAny_mono h hQ fun _ _ x => x
end L2
namespace L2
open PySem PySem.Spec PyProof.Rows
section
variable {X : Cx}
noncomputable def tVar (i : Nat) : TE := fun σ H Q => ∃ v, σ[i]? = some (some v) ∧ Q v H
noncomputable def tC (v : V) : TE := fun _ H Q => Q v H
theorem pe_var {i : Nat} {x : Str} {pos : Pos} (hN : X.N[i]? = some x) (hv : Vis X.env.scope x) (hd : (x == ("__debug__" : Str)) = false := by decide) (hcd : (x == ("__classdict__" : Str)) = false := by decide) : PE X (.Name x pos) (tVar i) := by
  intro pins s σ H Q I h
  obtain ⟨v, e, h⟩ := h
  obtain ⟨m, hn, hl⟩ := I.loc
  obtain ⟨u, r, l⟩ := hl i x v hN e hv
  have fin : EP X pins σ Q u s := ⟨v, H, I, r, h⟩
  rcases l with ⟨hk, hm⟩ | ⟨hk, c, hc, hcell⟩
  · exact wpAny_Name (wpAny_loadName_local I.ok.kind hk hn hm fin) hd
  · rcases hk with hk | hk
    · exact wpAny_Name (wpAny_loadName_cell I.ok.kind hk hc hcell fin) hd
    · exact wpAny_Name (wpAny_loadName_free I.ok.kind hk hc hcell fin hcd) hd
theorem pei {i j pos} : PE X (.Constant (.int i) j pos) (tC (.int i)) := fun _ _ _ H _ I h => wpAny_Constant_int ⟨.int i, H, I.tok _, ⟨_, rfl⟩, h⟩
theorem pe_bl {b j pos} : PE X (.Constant (.bool b) j pos) (tC (.bl b)) := fun _ _ _ H _ I h => Constant_bool ⟨.bl b, H, I, rfl, h⟩
theorem pe_non {j pos} : PE X (.Constant .none j pos) (tC .non) := fun _ _ _ H _ I h => Constant_none ⟨.non, H, I, rfl, h⟩
theorem pe_str {x j pos} : PE X (.Constant (.str x) j pos) (tC (.str x)) := fun _ _ _ H _ I h => Calls.Constant_str ⟨.str x, H, I.tok _, ⟨_, rfl⟩, h⟩
noncomputable def Gl (X : Cx) (x : Str) : Prop := X.env.kindOf x = some .globalImplicit
theorem ld_glob {E : Value → Shared → Prop} {pins : List (Addr × Obj)} {s : Shared} {σ : St} {H : Hp} {x : Str} {u : Value} {pos : Pos} {Q : Value → Shared → Prop} (I : Inv X pins σ H s) (hg : Gl X x) (hm : X.mg x = some u) (h : Q u s)
    (hd : (x == ("__debug__" : Str)) = false := by decide) : wpAny (model X.prog X.w) X.A (eval (.Name x pos) X.env) Q E s :=
  Calls.Name_function_global I.ok.kind hg (Calls.loadGlobal_global (by rw [I.ok.glob]; exact I.mod.glob.keeps I.bk) hm h) hd
theorem ld_blt {E : Value → Shared → Prop} {pins : List (Addr × Obj)} {s : Shared} {σ : St} {H : Hp} {x : Str} {u : Value} {pos : Pos} {Q : Value → Shared → Prop} (I : Inv X pins σ H s) (hg : Gl X x) (hm : X.mg x = none) (hv : bootBuiltins x = some u) (h : Q u s)
    (hn : x ≠ "__name__" := by decide) (hd : (x == ("__debug__" : Str)) = false := by decide) : wpAny (model X.prog X.w) X.A (eval (.Name x pos) X.env) Q E s := by
  obtain ⟨mb, h1, h2⟩ := I.mod.blt
  exact Calls.Name_function_global I.ok.kind hg (Calls.loadGlobal_builtin (by rw [I.ok.glob]; exact I.mod.glob.keeps I.bk) hm (by rw [I.ok.blt]; exact h1.keeps I.bk) ((h2 x hn).trans hv) h) hd
theorem pe_bltn {x : Str} {v : V} {u : Value} {pos : Pos} (hg : Gl X x) (hm : X.mg x = none) (hv : bootBuiltins x = some u) (r : RelV v u) (hn : x ≠ "__name__" := by decide) (hd : (x == ("__debug__" : Str)) = false := by decide) : PE X (.Name x pos) (tC v) :=
  fun _ _ _ H _ I h => ld_blt I hg hm hv ⟨v, H, I, r, h⟩ hn hd
variable {a b : Expr} {ta tb : TE} {pos : Pos}
noncomputable def tB (t : TE) : TT := fun σ H Q => t σ H fun x H1 => ∃ c, x = .bl c ∧ Q c H1
theorem pt_val {e : Expr} {t : TE} (h : PE X e t) (he : ∀ whole, isTrue e X.env whole = (do let v ← whole; standAt e.pos; holding [v] (truthy v)) := by intro _; rfl) : PT X e (tB t) := by
  intro pins s σ H Q I hw
  refine isTrue_plain (thn (h pins s σ H _ I hw) fun v s1 ⟨x, H1, I1, r1, q1⟩ => ?_) (he _)
  obtain ⟨d, rfl, q⟩ := q1
  cases r1
  exact wpAny_truthy_bool ⟨H1, I1, q⟩
variable {tA tB' : TT} {rest : List Expr}
noncomputable def tAnd (t u : TT) : TT := fun σ H Q => t σ H fun c H1 => if c = true then u σ H1 Q else Q false H1
noncomputable def tOr (t u : TT) : TT := fun σ H Q => t σ H fun c H1 => if c = true then Q true H1 else u σ H1 Q
noncomputable def tNot (t : TT) : TT := fun σ H Q => t σ H fun c H1 => Q (!c) H1
theorem pw_and1 (ha : PT X a tA) : PW X (.BoolOp .And [a] pos) tA := by
  intro wh pins s σ H Q I h
  refine isTrue_and (thn (ha pins s σ H Q I h) fun c s1 e => ?_)
  cases c with
  | true => exact isTrue_and_nil e
  | false => exact e
theorem pw_or1 (ha : PT X a tA) : PW X (.BoolOp .Or [a] pos) tA := by
  intro wh pins s σ H Q I h
  refine isTrue_or (thn (ha pins s σ H Q I h) fun c s1 e => ?_)
  cases c with
  | false => exact isTrue_or_nil e
  | true => exact e
theorem pw_and (ha : PT X a tA) (hb : PW X (.BoolOp .And (b :: rest) pos) tB') : PW X (.BoolOp .And (a :: b :: rest) pos) (tAnd tA tB') := by
  intro wh pins s σ H Q I h
  refine isTrue_and (thn (ha pins s σ H _ I h) fun c s1 ⟨H1, I1, q1⟩ => ?_)
  cases c with
  | true => exact hb wh pins s1 σ H1 Q I1 q1
  | false => exact ⟨H1, I1, q1⟩
theorem pw_or (ha : PT X a tA) (hb : PW X (.BoolOp .Or (b :: rest) pos) tB') : PW X (.BoolOp .Or (a :: b :: rest) pos) (tOr tA tB') := by
  intro wh pins s σ H Q I h
  refine isTrue_or (thn (ha pins s σ H _ I h) fun c s1 ⟨H1, I1, q1⟩ => ?_)
  cases c with
  | true => exact ⟨H1, I1, q1⟩
  | false => exact hb wh pins s1 σ H1 Q I1 q1
theorem pt_not (ha : PT X a tA) : PT X (.UnaryOp .Not a pos) (tNot tA) := by
  intro pins s σ H Q I h
  exact isTrue_not (ha pins s σ H (fun c H1 => Q (!c) H1) I h)
noncomputable def tAndV (ta tb : TE) : TE := fun σ H Q => ta σ H fun x H1 => ∃ c, x = .bl c ∧ if c = true then tb σ H1 Q else Q (.bl false) H1
noncomputable def tNotV (ta : TE) : TE := fun σ H Q => ta σ H fun x H1 => ∃ c, x = .bl c ∧ Q (.bl (!c)) H1
theorem pe_one {op} {t : TE} (h : PE X a t) : PE X (.BoolOp op [a] pos) t := fun pins s σ H Q I hw => BoolOp_one (h pins s σ H Q I hw)
theorem pe_and (ha : PE X a ta) (hb : PE X (.BoolOp .And (b :: rest) pos) tb) : PE X (.BoolOp .And (a :: b :: rest) pos) (tAndV ta tb) := by
  intro pins s σ H Q I h
  refine BoolOp_and (thn (ha pins s σ H _ I h) fun v s1 ⟨x, H1, I1, r1, q1⟩ => ?_)
  obtain ⟨c, rfl, q1⟩ := q1
  cases r1
  refine wpAny_truthy_bool ?_
  cases c with
  | true => exact hb pins s1 σ H1 Q I1 q1
  | false => exact ⟨.bl false, H1, I1, rfl, q1⟩
theorem pe_not (ha : PE X a ta) : PE X (.UnaryOp .Not a pos) (tNotV ta) := by
  intro pins s σ H Q I h
  refine UnaryOp_ (thn (ha pins s σ H _ I h) fun v s1 ⟨x, H1, I1, r1, q1⟩ => ?_)
  obtain ⟨c, rfl, q1⟩ := q1
  cases r1
  exact not_of (wpAny_truthy_bool ⟨.bl (!c), H1, I1, rfl, q1⟩)
noncomputable def tIf (t : TT) (ta tb : TE) : TE := fun σ H Q => t σ H fun c H1 => if c = true then ta σ H1 Q else tb σ H1 Q
theorem pe_ifExp {c : Expr} (hc : PT X c tA) (ha : PE X a ta) (hb : PE X b tb) : PE X (.IfExp c a b pos) (tIf tA ta tb) := by
  intro pins s σ H Q I h
  refine wpAny_IfExp (thn (hc pins s σ H _ I h) fun d s1 ⟨H1, I1, q1⟩ => ?_)
  cases d with
  | true => exact ha pins s1 σ H1 Q I1 q1
  | false => exact hb pins s1 σ H1 Q I1 q1
end
end L2
namespace L2
open PySem PySem.Spec PyProof.Rows
noncomputable def SqL (K : PySem.W.Frag) (H : Hp) (a : Addr) (xs : List V) : Prop :=
  Rd H a (.lst xs) ∨
    ∃ (o : Obj) (its : Array Value) (n : Nat), K.lookup a = some o ∧ o.cls = .type "list" ∧ o.dict = none ∧ o.data = .seq its n ∧ its.size ≤ sizeLine ∧ Vals xs its.toList
noncomputable def SqT (K : PySem.W.Frag) (H : Hp) (a : Addr) (xs : List V) : Prop :=
  Rd H a (.tup xs) ∨
    ∃ (o : Obj) (its : Array Value) (n : Nat), K.lookup a = some o ∧ o.cls = .type "tuple" ∧ o.data = .seq its n ∧ its.size ≤ sizeLine ∧ Vals xs its.toList
noncomputable def absV : Value → Option V
  | .none => some .non
  | .bool b => some (.bl b)
  | .int i _ => some (.int i)
  | .str x _ => some (.str x)
  | .bytes b _ => some (.byt b)
  | .float b _ => some (.flt b)
  | .ref a => some (.ref a)
  | .type n => some (.ty n)
  | _ => none
theorem RelV.abs {x : V} {u : Value} (r : RelV x u) : absV u = some x := by
  cases x with
  | non => cases r; rfl
  | bl _ => cases r; rfl
  | int _ => obtain ⟨t, rfl⟩ := r; rfl
  | str _ => obtain ⟨t, rfl⟩ := r; rfl
  | byt _ => obtain ⟨t, rfl⟩ := r; rfl
  | flt _ => obtain ⟨t, rfl⟩ := r; rfl
  | ref _ => cases r; rfl
  | ty _ => cases r; rfl
theorem RelV.inj {x y : V} {u : Value} (r : RelV x u) (q : RelV y u) : x = y := Option.some.inj (r.abs.symm.trans q.abs)
theorem Vals.inj : ∀ {xs ys : List V} {us : List Value}, Vals xs us → Vals ys us → xs = ys
  | _, _, _, .nil, .nil => rfl
  | _, _, _, .cons r t, .cons r' t' => by rw [r.inj r', Vals.inj t t']
section
variable {X : Cx} {pins : List (Addr × Obj)} {σ : St} {H : Hp} {s : Shared} {a : Addr} {xs ys : List V}
theorem SqL.of {K : PySem.W.Frag} (h : H a = some (.lst xs)) : SqL K H a xs := .inl (.inl h)
theorem SqT.of {K : PySem.W.Frag} (h : H a = some (.tup xs)) : SqT K H a xs := .inl (.inl h)
theorem Inv.list (I : Inv X pins σ H s) (h : SqL X.K H a xs) : ∃ its : List Value, Vals xs its ∧ PlainL s.heap a its.toArray ∧ xs.length ≤ sizeLine := by
  rcases h with h | ⟨o, its, n, hk, hc, hd, hs, hz, r⟩
  · obtain ⟨z, its, n, r, e⟩ := h.ok I.hok
    exact ⟨its, r, ⟨_, n, e, rfl, rfl, rfl⟩, z⟩
  · refine ⟨its.toList, r, ⟨o, n, I.kIn a o hk, hc, hd, by simpa using hs⟩, ?_⟩
    have e := r.length
    simp only [Array.length_toList] at e
    omega
theorem Inv.tuple (I : Inv X pins σ H s) (h : SqT X.K H a xs) : ∃ its : List Value, Vals xs its ∧ IsTup s.heap a its.toArray ∧ xs.length ≤ sizeLine := by
  rcases h with h | ⟨o, its, n, hk, hc, hs, hz, r⟩
  · obtain ⟨z, its, r, p⟩ := h.ok I.hok
    exact ⟨its, r, p, z⟩
  · refine ⟨its.toList, r, ⟨o, I.kIn a o hk, hc, n, by simpa using hs⟩, ?_⟩
    have e := r.length
    simp only [Array.length_toList] at e
    omega
theorem Inv.list_inj (I : Inv X pins σ H s) (h : SqL X.K H a xs) (h' : SqL X.K H a ys) : xs = ys := by
  obtain ⟨its, r, ⟨o, n, e, _, _, d⟩, _⟩ := I.list h
  obtain ⟨its', r', ⟨o', n', e', _, _, d'⟩, _⟩ := I.list h'
  rw [e] at e'; cases e'
  rw [d] at d'
  injection d' with d1 _
  have : its = its' := by simpa using congrArg Array.toList d1
  subst this
  exact r.inj r'
theorem Inv.tuple_inj (I : Inv X pins σ H s) (h : SqT X.K H a xs) (h' : SqT X.K H a ys) : xs = ys := by
  obtain ⟨its, r, ⟨o, e, _, n, d⟩, _⟩ := I.tuple h
  obtain ⟨its', r', ⟨o', e', _, n', d'⟩, _⟩ := I.tuple h'
  rw [e] at e'; cases e'
  rw [d] at d'
  injection d' with d1 _
  have : its = its' := by simpa using congrArg Array.toList d1
  subst this
  exact r.inj r'
end
noncomputable abbrev Cx.wish (X : Cx) (E : Value → Shared → Prop) : Cx := { X with xe := E }
noncomputable abbrev Cx.nox (X : Cx) : Cx := X.wish fun _ _ => False
theorem Cx.Ok.wish {X : Cx} (ok : X.Ok) (E : Value → Shared → Prop) : (X.wish E).Ok :=
  ⟨ok.mod, ok.kind, ok.glob, ok.blt, ok.above, ok.inj, ok.has, ok.cab, ok.hd, ok.frames, ok.stk, ok.exf, ok.bs, ok.bsz, ok.noex, ok.exfs, ok.funs, ok.frf⟩
theorem Cx.Ok.unwish {X : Cx} {E : Value → Shared → Prop} (ok : (X.wish E).Ok) : X.Ok :=
  ⟨ok.mod, ok.kind, ok.glob, ok.blt, ok.above, ok.inj, ok.has, ok.cab, ok.hd, ok.frames, ok.stk, ok.exf, ok.bs, ok.bsz, ok.noex, ok.exfs, ok.funs, ok.frf⟩
section
variable {X : Cx} {pins : List (Addr × Obj)} {σ : St} {H : Hp} {s : Shared} {E : Value → Shared → Prop}
theorem Inv.wish (I : Inv X pins σ H s) (E : Value → Shared → Prop) : Inv (X.wish E) pins σ H s := ⟨I.ok.wish E, I.os, I.bare, I.base, I.loc, I.cell, I.free, I.freeC, I.pin, I.hok, I.len⟩
theorem Inv.unwish (I : Inv (X.wish E) pins σ H s) : Inv X pins σ H s := ⟨I.ok.unwish, I.os, I.bare, I.base, I.loc, I.cell, I.free, I.freeC, I.pin, I.hok, I.len⟩
theorem SP.unwish {D : Ends} {f : Flow} {s' : Shared} (h : SP (X.wish E) pins D f s') : SP X pins D f s' := by
  cases f with
  | next => obtain ⟨σ', H', I, q⟩ := h; exact ⟨σ', H', I.unwish, q⟩
  | brk => obtain ⟨σ', H', I, q⟩ := h; exact ⟨σ', H', I.unwish, q⟩
  | cont => obtain ⟨σ', H', I, q⟩ := h; exact ⟨σ', H', I.unwish, q⟩
  | ret u => obtain ⟨v, σ', H', I, r, q⟩ := h; exact ⟨v, σ', H', I.unwish, r, q⟩
theorem PE.nox {e : Expr} {t : TE} (h : PE X.nox e t) : PE X e t := fun pins s σ H Q I hw =>
  wpAny_mono (h pins s σ H Q (I.wish _) hw) (fun _ _ ⟨v, H', I', r, q⟩ => ⟨v, H', I'.unwish, r, q⟩) fun _ _ z => False.elim z
theorem PT.nox {e : Expr} {t : TT} (h : PT X.nox e t) : PT X e t := fun pins s σ H Q I hw =>
  wpAny_mono (h pins s σ H Q (I.wish _) hw) (fun _ _ ⟨H', I', q⟩ => ⟨H', I'.unwish, q⟩) fun _ _ z => False.elim z
theorem PSs.nox {st : List Stmt} {t : TS} (h : PSs X.nox st t) : PSs X st t := fun pins s σ H D I hw =>
  wpAny_mono (h pins s σ H D (I.wish _) hw) (fun _ _ q => q.unwish) fun _ _ z => False.elim z
end
section
variable {X : Cx} {st : Stmt} {rest : List Stmt} {t u : TS} {e : Expr} {te : TE} {pos : Pos}
noncomputable def tNext : TS := fun D σ H => D.nx σ H
noncomputable def tSeq (t u : TS) : TS := fun D σ H => t { D with nx := u D } σ H
theorem pss_nil : PSs X [] tNext := fun _ _ σ H _ I h => wpAny_execs_nil ⟨σ, H, I, h⟩
theorem psc (h1 : PS X st t) (h2 : PSs X rest u) : PSs X (st :: rest) (tSeq t u) := by
  intro pins s σ H D I h
  refine wpAny_execs_cons (thn (h1 pins s σ H { D with nx := u D } I h) fun f s1 q => ?_)
  cases f with
  | next =>
    obtain ⟨σ', H', I', q⟩ := q
    exact h2 pins s1 σ' H' D I' q
  | ret v => exact q
  | brk => exact q
  | cont => exact q
theorem pso (h1 : PS X st t) : PSs X [st] t := by
  intro pins s σ H D I h
  refine wpAny_execs_cons (thn (h1 pins s σ H D I h) fun f s1 q => ?_)
  cases f with
  | next => exact wpAny_execs_nil q
  | ret v => exact q
  | brk => exact q
  | cont => exact q
theorem Inv.quiet {pins : List (Addr × Obj)} {σ : St} {H : Hp} {s : Shared} (I : Inv X pins σ H s) : interactive X.env = false := by simp [interactive, I.ok.kind]
noncomputable def tDrop (te : TE) : TS := fun D σ H => te σ H fun _ H1 => D.nx σ H1
theorem ps_expr (he : PE X e te) (hs : swapsWith e none pos.line X.env = pure false := by rfl) : PS X (.Expr e pos) (tDrop te) := by
  intro pins s σ H D I h
  exact wpAny_Expr_any (thn (he pins s σ H _ I h) fun v s1 ⟨x, H1, I1, r1, q1⟩ => ⟨σ, H1, I1, q1⟩) I.quiet hs
noncomputable def tRet (te : TE) : TS := fun D σ H => te σ H D.rt
theorem ps_ret (he : PE X e te) : PS X (.Return (some e) pos) (tRet te) := by
  intro pins s σ H D I h
  exact wpAny_Return_some (thn (he pins s σ H _ I h) fun v s1 ⟨x, H1, I1, r1, q1⟩ => ⟨x, σ, H1, I1, r1, q1⟩)
noncomputable def tIfS (c : TT) (t u : TS) : TS := fun D σ H => c σ H fun b H1 => if b = true then t D σ H1 else u D σ H1
theorem ps_if {c : Expr} {a b : List Stmt} {tc : TT} (hc : PT X c tc) (ha : PSs X a t) (hb : PSs X b u) : PS X (.If c a b pos) (tIfS tc t u) := by
  intro pins s σ H D I h
  refine wpAny_If (thn (hc pins s σ H _ I h) fun d s1 ⟨H1, I1, q1⟩ => ?_)
  cases d with
  | true => exact ha pins s1 σ H1 D I1 q1
  | false => exact hb pins s1 σ H1 D I1 q1
end
abbrev TG := V → St → Hp → (St → Hp → Prop) → Prop
abbrev TGs := List V → St → Hp → (St → Hp → Prop) → Prop
noncomputable def PG (X : Cx) (target : Expr) (t : TG) : Prop :=
  ∀ (pins : List (Addr × Obj)) (s : Shared) (σ : St) (H : Hp) (v : V) (u : Value) (Q : St → Hp → Prop), Inv X pins σ H s → RelV v u → t v σ H Q →
    wpAny (model X.prog X.w) X.A (assign target X.env u) (fun _ s' => ∃ σ' H', Inv X pins σ' H' s' ∧ Q σ' H') X.xe s
noncomputable def PGs (X : Cx) (ts : List Expr) (t : TGs) : Prop :=
  ∀ (pins : List (Addr × Obj)) (s : Shared) (σ : St) (H : Hp) (vs : List V) (us : List Value) (Q : St → Hp → Prop), Inv X pins σ H s → Vals vs us → t vs σ H Q →
    wpAny (model X.prog X.w) X.A (assignInOrder ((assignEach ts X.env).map (·.2)) us) (fun _ s' => ∃ σ' H', Inv X pins σ' H' s' ∧ Q σ' H') X.xe s
abbrev TIp := V → V → Hp → VK → Prop
noncomputable def PIp (X : Cx) (op : Operator) (t : TIp) : Prop :=
  ∀ (pins : List (Addr × Obj)) (s : Shared) (σ : St) (H : Hp) (x y : V) (v u : Value) (Q : VK), Inv X pins σ H s → RelV x v → RelV y u → t x y H Q →
    wpAny (model X.prog X.w) X.A (inplaceOp op v u) (EP X pins σ Q) X.xe s
section
variable {X : Cx} {pos : Pos}
noncomputable def gName (i : Nat) : TG := fun v σ H Q => Q (σ.set i (some v)) H
theorem pg_name {i : Nat} {x : Str} (hN : X.N.Nodup) (hi : X.N[i]? = some x) (hx : Loc X.env.scope x) (hf : X.fn x = true ∨ X.env.scope.names.lookup x = some .local := by first | exact .inl rfl | exact .inr rfl | assumption) : PG X (.Name x pos) (gName i) := by
  intro pins s σ H v u Q I r h
  exact wpAny_assign_Name (store_ok I hN hi hx r (fun s' I' => ⟨_, H, I', h⟩) hf)
noncomputable def gNil : TGs := fun vs σ H Q => vs = [] ∧ Q σ H
noncomputable def gCons (t : TG) (u : TGs) : TGs := fun vs σ H Q => ∃ v r, vs = v :: r ∧ t v σ H fun σ' H' => u r σ' H' Q
theorem pgs_nil : PGs X [] gNil := by
  intro pins s σ H vs us Q I r h
  obtain ⟨e, h⟩ := h
  subst e
  cases r
  exact assignInOrder_nil ⟨σ, H, I, h⟩
theorem pgs_cons {e : Expr} {es : List Expr} {t : TG} {u : TGs} (h1 : PG X e t) (h2 : PGs X es u)
    (hs : (assignEach (e :: es) X.env).map (·.2) = assign e X.env :: (assignEach es X.env).map (·.2) := by rfl) : PGs X (e :: es) (gCons t u) := by
  intro pins s σ H vs us Q I r h
  obtain ⟨v, vr, e1, h⟩ := h
  subst e1
  cases r with
  | cons r rr =>
    rw [hs]
    refine assignInOrder_cons (thn (h1 pins s σ H _ _ _ I r h) fun _ s1 ⟨σ1, H1, I1, q1⟩ => ?_)
    exact h2 pins s1 σ1 H1 _ _ Q I1 rr q1
noncomputable def gTup (K : PySem.W.Frag) (n : Nat) (t : TGs) : TG := fun v σ H Q => ∃ a xs, v = .ref a ∧ SqT K H a xs ∧ xs.length = n ∧ t xs σ H Q
theorem pg_tup {es : List Expr} {k : Nat} {t : TGs} {n : Nat} (hc : X.calm = true) (h : PGs X es t)
    (hn : (assignEach es X.env).length = n := by rfl) (hst : (assignEach es X.env).findIdx? (·.1) = none := by rfl) : PG X (.Tuple es k pos) (gTup X.K n t) := by
  intro pins s σ H v u Q I r hw
  obtain ⟨a, xs, e1, hq, hl, hw⟩ := hw
  subst e1
  cases r
  obtain ⟨its, rv, ht, hz⟩ := I.tuple hq
  refine assign_Tuple_tuple (I.ok.hd hc) ht (by simp [hn, ← hl, rv.length]) hst fun h' hx => ?_
  have I1 : Inv X pins σ H { s with heap := h' } := I.kept (t' := s.toks) fun b o e => hx b o (Nat.ne_of_lt (Heap.lt_size e)) e
  exact h pins _ σ H xs _ Q I1 (by simpa using rv) hw
noncomputable def tAsg (te : TE) (g : TG) : TS := fun D σ H => te σ H fun x H1 => g x σ H1 D.nx
theorem ps_asg {tg e : Expr} {te : TE} {g : TG} (he : PE X e te) (hg : PG X tg g) (hs : swapsWithSole [tg] e pos.line X.env = pure false := by rfl) (hw : swappedStores [tg] e X.env = pure none := by rfl)
    (h1 : (assignEach [tg] X.env).map (·.2) = [assign tg X.env] := by rfl) : PS X (.Assign [tg] e pos) (tAsg te g) := by
  intro pins s σ H D I h
  refine wpAny_Assign_stores (thn (he pins s σ H _ I h) fun v s1 ⟨x, H1, I1, r1, q1⟩ => ?_) hs hw
  rw [h1]
  exact thn (hg pins s1 σ H1 x v _ I1 r1 q1) fun _ s2 q => q
theorem ps_set {i : Nat} {x : Str} {e : Expr} {te : TE} {pos' : Pos} (hN : X.N.Nodup) (hi : X.N[i]? = some x) (hx : Loc X.env.scope x) (he : PE X e te) (hs : swapsWith e (some (.Name x pos')) pos.line X.env = pure false := by rfl) (hf : X.fn x = true ∨ X.env.scope.names.lookup x = some .local := by first | exact .inl rfl | exact .inr rfl | assumption) :
    PS X (.Assign [.Name x pos'] e pos) (tAsg te (gName i)) := by
  intro pins s σ H D I h
  refine wpAny_Assign_Name (thn (he pins s σ H _ I h) fun v s1 ⟨y, H1, I1, r1, q1⟩ => ?_) hs
  exact store_ok I1 hN hi hx r1 (fun s2 I2 => ⟨_, H1, I2, q1⟩) hf
noncomputable def tPar (i j : Nat) (ta : TA) : TS := fun D σ H => ta σ H fun vs H1 => ∃ v w, vs = [v, w] ∧ D.nx ((σ.set i (some v)).set j (some w)) H1
theorem ps_par {i j : Nat} {x y : Str} {a b : Expr} {ta : TA} {px py pt : Pos} {kt k2 pt2} (hc : X.calm = true) (hN : X.N.Nodup) (hi : X.N[i]? = some x) (hj : X.N[j]? = some y) (hij : i ≠ j)
    (hx : X.env.scope.names.lookup x = some .local) (hy : X.env.scope.names.lookup y = some .local) (ha : PA X [a, b] ta)
    (hw : swappedStores [.Tuple [.Name x px, .Name y py] kt pt] (.Tuple [a, b] k2 pt2) X.env = pure (some [x, y]))
    (hs : swapsWithSole [.Tuple [.Name x px, .Name y py] kt pt] (.Tuple [a, b] k2 pt2) pos.line X.env = pure false := by rfl) :
    PS X (.Assign [.Tuple [.Name x px, .Name y py] kt pt] (.Tuple [a, b] k2 pt2) pos) (tPar i j ta) := by
  intro pins s σ H D I h
  rw [exec_Assign_arm]
  refine wpAny_bind (wpAny_standAt ?_)
  rw [hs]
  refine wpAny_bind (wpAny_pure ?_)
  rw [if_neg (by decide)]
  refine wpAny_bind (Tuple_ (thn (ha _ pins s σ H _ I h) fun us s1 ⟨vs, H1, I1, r1, q1⟩ => ?_))
  obtain ⟨v, w, e1, q1⟩ := q1
  subst e1
  obtain ⟨u1, u2, rfl, rv, rw'⟩ : ∃ u1 u2, us = [u1, u2] ∧ RelV v u1 ∧ RelV w u2 := by
    cases r1 with
    | cons p q =>
      cases q with
      | cons p' q' =>
        cases q'
        exact ⟨_, _, rfl, p, p'⟩
  refine wpAny_newObj_type ?_ (by show 2 ≤ sizeLine; decide)
  have I2 : Inv X pins σ H1 { s1 with heap := s1.heap.push { cls := .type "tuple", data := .seq [u1, u2].toArray } } := I1.kept (t' := s1.toks) fun b o e => Heap.get?_push_of_some _ e
  rw [hw]
  refine wpAny_bind (wpAny_pure ?_)
  show wpAny (model X.prog X.w) X.A (do rule "assign.swapped-stores"; let items ← unpackItems (.ref s1.heap.objs.size) 2 none; assignInOrder [fun v => bindName X.env y v, fun v => bindName X.env x v] items.reverse; pure Flow.next) _ _ _
  refine wpAny_bind (wpAny_rule (wpAny_bind (unpackItems_tuple (items := #[u1, u2]) (I.ok.hd hc) (IsTup.new s1.heap _) fun h' hx' => ?_)))
  have I3 := I2.kept (h' := h') (t' := s1.toks) fun b o e => hx' b o (Nat.ne_of_lt (Heap.lt_size e)) e
  show wpAny _ _ (assignInOrder [fun v => bindName X.env y v, fun v => bindName X.env x v] [u2, u1] >>= fun _ => pure Flow.next) _ _ _
  refine wpAny_bind (assignInOrder_cons (wpAny_bindName (store_ok I3 hN hj (.inl hy) rw' (fun s2 I4 => ?_) (.inr hy))))
  refine assignInOrder_cons (wpAny_bindName (store_ok I4 hN hi (.inl hx) rv (fun s3 I5 => assignInOrder_nil (wpAny_pure ?_)) (.inr hx)))
  rw [List.set_comm _ _ (Ne.symm hij)] at I5
  exact ⟨_, H1, I5, q1⟩
noncomputable def tAug (i : Nat) (te : TE) (ti : TIp) : TS := fun D σ H => ∃ x, σ[i]? = some (some x) ∧ te σ H fun y H1 => ti x y H1 fun z H2 => D.nx (σ.set i (some z)) H2
theorem ps_aug {i : Nat} {x : Str} {e : Expr} {te : TE} {op : Operator} {ti : TIp} {pos' : Pos} (hN : X.N.Nodup) (hi : X.N[i]? = some x) (hx : Loc X.env.scope x) (he : PE X e te) (ho : PIp X op ti) (hf : X.fn x = true ∨ X.env.scope.names.lookup x = some .local := by first | exact .inl rfl | exact .inr rfl | assumption) :
    PS X (.AugAssign (.Name x pos') op e pos) (tAug i te ti) := by
  intro pins s σ H D I h
  obtain ⟨v, e1, h⟩ := h
  obtain ⟨m, hn, hl⟩ := I.loc
  have vis : Vis X.env.scope x := by rcases hx with k | k; exact .inl k; exact .inr (.inl k)
  obtain ⟨u, r, l⟩ := hl i x v hi e1 vis
  refine wpAny_AugAssign_Name ?_
  have go : wpAny (model X.prog X.w) X.A (eval e X.env) (fun w s₂ => wpAny (model X.prog X.w) X.A (inplaceOp op u w) (fun r s₃ => wpAny (model X.prog X.w) X.A (storeName X.env x r) (fun _ => SP X pins D .next) X.xe s₃) X.xe s₂) X.xe s := by
    refine thn (he pins s σ H _ I h) fun w s1 ⟨y, H1, I1, r1, q1⟩ => ?_
    refine thn (ho pins s1 σ H1 v y u w _ I1 r r1 q1) fun z s2 ⟨zv, H2, I2, r2, q2⟩ => ?_
    exact store_ok I2 hN hi hx r2 (fun s3 I3 => ⟨_, H2, I3, q2⟩) hf
  rcases l with ⟨hk, hm⟩ | ⟨hk, c, hc, hcell⟩
  · exact wpAny_loadName_local I.ok.kind hk hn hm go
  · rcases hk with hk | hk
    · exact wpAny_loadName_cell I.ok.kind hk hc hcell go
    · rcases hx with k | k
      · have : X.env.scope.names.lookup x = some .free := hk
        rw [k] at this; cases this
      · have : X.env.scope.names.lookup x = some .free := hk
        rw [k] at this; cases this
noncomputable def ipI (f : Int → Int → Int) : TIp := fun x y H Q => ∃ i j, x = .int i ∧ y = .int j ∧ Q (.int (f i j)) H
theorem ip_add : PIp X .Add (ipI fun i j => i + j) := by
  intro pins s σ H x y v u Q I r1 r2 h
  obtain ⟨i, j, e1, e2, q⟩ := h
  subst e1; subst e2
  obtain ⟨t, rfl⟩ := r1
  obtain ⟨t', rfl⟩ := r2
  exact iadd_int ⟨.int _, H, I.tok _, ⟨_, rfl⟩, q⟩
theorem ip_sub : PIp X .Sub (ipI fun i j => i - j) := by
  intro pins s σ H x y v u Q I r1 r2 h
  obtain ⟨i, j, e1, e2, q⟩ := h
  subst e1; subst e2
  obtain ⟨t, rfl⟩ := r1
  obtain ⟨t', rfl⟩ := r2
  exact isub_int ⟨.int _, H, I.tok _, ⟨_, rfl⟩, q⟩
end
section
variable {X : Cx} {pos : Pos}
noncomputable def tWhile (c : TT) (tb : TS) : TS := fun D σ H => ∃ W : Nat → St → Hp → Prop, (∃ m, W m σ H) ∧ ∀ m σ H, W m σ H →
  c σ H fun b H1 => if b = true then ∃ N : St → Hp → Prop, (∀ σ' H', N σ' H' → ∃ m', m' < m ∧ W m' σ' H') ∧ tb { D with nx := N, ct := N, bk := D.nx } σ H1 else D.nx σ H1
theorem ps_while {c : Expr} {body : List Stmt} {tc : TT} {tb : TS} (hp : PassesOwn (model X.prog X.w) X.A X.env X.xe) (hc : PT X c tc) (hb : PSs X body tb) : PS X (.While c body [] pos) (tWhile tc tb) := by
  intro pins s σ H D I h
  obtain ⟨W, ⟨m0, w0⟩, turn⟩ := h
  refine wpAny_While (codeAny_whileLoop (fun n s' => ∃ σ' H', Inv X pins σ' H' s' ∧ W n σ' H') ?_ m0 ⟨σ, H, I, w0⟩)
  rintro n s1 ⟨σ1, H1, I1, w1⟩
  refine wpAny_passesOwn hp (thn (hc pins s1 σ1 H1 _ I1 (turn n σ1 H1 w1)) fun b s2 ⟨H2, I2, q2⟩ => ?_)
  cases b with
  | true =>
    obtain ⟨N, hN, q2⟩ := q2
    rw [if_pos rfl]
    refine wpAny_passesOwn hp (thn (hb pins s2 σ1 H2 _ I2 q2) fun f s3 q3 => ?_)
    cases f with
    | next =>
      obtain ⟨σ3, H3, I3, n3⟩ := q3
      obtain ⟨m', hm, w3⟩ := hN σ3 H3 n3
      exact ⟨m', hm, σ3, H3, I3, w3⟩
    | cont =>
      obtain ⟨σ3, H3, I3, n3⟩ := q3
      obtain ⟨m', hm, w3⟩ := hN σ3 H3 n3
      exact ⟨m', hm, σ3, H3, I3, w3⟩
    | brk => exact q3
    | ret v => exact q3
  | false =>
    rw [if_neg Bool.false_ne_true]
    exact wpAny_execs_nil ⟨σ1, H2, I2, q2⟩
end
structure It where
  go : Nat → Hp → Prop
  yld : Nat → Hp → V → Hp → Prop
  stop : Nat → Hp → Prop
noncomputable def FpOk (X : Cx) (pins : List (Addr × Obj)) (H : Hp) (b : Addr) : Prop :=
  H b = none ∧ b ≠ X.env.locals ∧ b ∉ X.fs ∧ (b ∈ X.ex ∨ X.s₀.heap.objs.size ≤ b) ∧ (∀ x c, X.env.cells.lookup x = some c → c ≠ b) ∧ ∀ p ∈ X.pn ++ pins, p.1 ≠ b
theorem Inv.fpOk {X : Cx} {pins : List (Addr × Obj)} {σ : St} {H H' : Hp} {s : Shared} {b : Addr} (I : Inv X pins σ H s) (hb : s.heap.objs.size ≤ b) (hn : H' b = none) : FpOk X pins H' b := by
  refine ⟨hn, Nat.ne_of_gt (Nat.lt_of_lt_of_le I.lt hb), I.nofs hb, .inr (Nat.le_trans I.sz hb), fun x c e z => ?_, fun p hp z => ?_⟩
  · obtain ⟨v, q⟩ := I.cell x c e
    exact absurd (Nat.lt_of_lt_of_le q.lt (by rw [z]; exact hb)) (Nat.lt_irrefl _)
  · exact absurd (Nat.lt_of_lt_of_le (Heap.lt_size (I.pin p hp).1) (by rw [z]; exact hb)) (Nat.lt_irrefl _)
structure Turn (P : Program) (w : World) (K : PySem.W.Frag) (tg : Expr) (J : It) (fp : List Addr) (it : Addr) (tn : Nat → Heap → Prop) : Prop where
  mem : it ∈ fp
  obj : ∀ i h, tn i h → ∀ b ∈ fp, ∃ o, h.get? b = some o ∧ ∀ v, o.data ≠ .cell v
  keep : ∀ i h h', tn i h → (∀ b ∈ fp, ∀ o, h.get? b = some o → h'.get? b = some o) → tn i h'
  item : ∀ (X : Cx), X.prog = P → X.w = w → X.K = K → X.calm = true → ∀ (i : Nat) (pins : List (Addr × Obj)) (s : Shared) (σ : St) (H : Hp) (E : Value → Shared → Prop), Inv X pins σ H s → (∀ b ∈ fp, FpOk X pins H b) → tn i s.heap → J.go i H →
    wpAny (model P w) X.A (pyNext (.ref it)) (fun r s1 => ∃ u, r = some u ∧
      wpAny (model P w) X.A (letOwnedTupleGo tg (.ref it) u) (fun _ s2 => ∃ x H', Inv X pins σ H' s2 ∧ RelV x u ∧ J.yld i H x H' ∧ tn (i + 1) s2.heap ∧ ∀ b ∈ fp, H' b = none) E s1) E s
  done : ∀ (X : Cx), X.prog = P → X.w = w → X.K = K → X.calm = true → ∀ (i : Nat) (pins : List (Addr × Obj)) (s : Shared) (σ : St) (H : Hp) (E : Value → Shared → Prop), Inv X pins σ H s → (∀ b ∈ fp, FpOk X pins H b) → tn i s.heap → J.stop i H →
    wpAny (model P w) X.A (pyNext (.ref it)) (fun r s1 => r = none ∧ Inv X pins σ H s1) E s
  self : ∀ (A : Around) (i : Nat) (s : Shared) (Q : Value → Shared → Prop) (E : Value → Shared → Prop), tn i s.heap → Q (.ref it) s → wpAny (model P w) A (pyIter (.ref it)) Q E s
abbrev TI := St → Hp → (It → Hp → Prop) → Prop
noncomputable def PIE (X : Cx) (pins : List (Addr × Obj)) (σ : St) (tg : Expr) (R : It → Hp → Prop) (itv : Value) (s2 : Shared) : Prop :=
  ∃ (it : Addr) (fp : List Addr) (tn : Nat → Heap → Prop) (J : It) (H' : Hp), itv = .ref it ∧ Inv X pins σ H' s2 ∧ Turn X.prog X.w X.K tg J fp it tn ∧ tn 0 s2.heap ∧ (∀ b ∈ fp, FpOk X pins H' b) ∧ R J H'
noncomputable def PI (X : Cx) (tg iter : Expr) (wi : TI) : Prop :=
  ∀ (pins : List (Addr × Obj)) (s : Shared) (σ : St) (H : Hp) (R : It → Hp → Prop), Inv X pins σ H s → wi σ H R →
    wpAny (model X.prog X.w) X.A (eval iter X.env) (fun v s1 => wpAny (model X.prog X.w) X.A (pyIter v) (PIE X pins σ tg R) X.xe s1) X.xe s
theorem go_of {M : Model} {A : Around} {E : Value → Shared → Prop} {s : Shared} {tg : Expr} {it : Addr} {u : Value} {o : Obj} {n : String} {vs : Array Value} {Q : Unit → Shared → Prop} (ho : s.heap.get? it = some o) (hc : o.cls = .type n) (hd : o.data = .fields vs)
    (hn : ["enumerate", "zip", "dict_itemiterator", "dict_reverseitemiterator", "odict_iterator", "itertools.zip_longest", "itertools.pairwise"].contains n = false) (hQ : Q () s) : wpAny M A (letOwnedTupleGo tg (.ref it) u) Q E s := by
  unfold letOwnedTupleGo
  cases tg <;> first
    | exact wpAny_pure hQ
    | (cases u <;> first
        | exact wpAny_pure hQ
        | (refine wpAny_bind (wpAny_load ho ?_)
           rw [hc, hd]
           show wpAny M A (if (["enumerate", "zip", "dict_itemiterator", "dict_reverseitemiterator", "odict_iterator", "itertools.zip_longest", "itertools.pairwise"].contains n && vs[0]? == some (rawInt _)) = true then _ else _) Q E s
           rw [if_neg (by intro h; rw [hn, Bool.false_and] at h; cases h)]
           exact wpAny_pure hQ))
noncomputable def Itl (K : PySem.W.Frag) (a : Addr) : It :=
  ⟨fun i H => ∃ xs x, SqL K H a xs ∧ xs[i]? = some x, fun i H x H' => H' = H ∧ ∀ xs, SqL K H a xs → xs[i]? = some x, fun i H => ∃ xs, SqL K H a xs ∧ xs.length ≤ i⟩
noncomputable def Itt (K : PySem.W.Frag) (a : Addr) : It :=
  ⟨fun i H => ∃ xs x, SqT K H a xs ∧ xs[i]? = some x, fun i H x H' => H' = H ∧ ∀ xs, SqT K H a xs → xs[i]? = some x, fun i H => ∃ xs, SqT K H a xs ∧ xs.length ≤ i⟩
noncomputable def Itr (lo : Int) (n : Nat) : It := ⟨fun i _ => i < n, fun i H x H' => H' = H ∧ x = .int (lo + i), fun i _ => n ≤ i⟩
theorem turn_list {P : Program} {w : World} {K : PySem.W.Frag} {tg : Expr} (a it : Addr) : Turn P w K tg (Itl K a) [it] it (fun i h => h.IsListIter it a i) where
  mem := by simp
  obj := fun i h st b hb => by
    have e : b = it := by simpa using hb
    subst e
    obtain ⟨o, e, c, d⟩ := st
    exact ⟨o, e, fun v z => by rw [d] at z; cases z⟩
  keep := fun i h h' st k => st.at fun o e => k it (by simp) o e
  item := by
    intro X hP hw hK hc i pins s σ H E I hf st hg
    subst hP hw hK
    obtain ⟨xs, x, hq, hx⟩ := hg
    obtain ⟨its, rv, p, hz⟩ := I.list hq
    obtain ⟨u, hu, ru⟩ := rv.get hx
    obtain ⟨f0, f1, f2, f3, f4, f5⟩ := hf it (by simp)
    refine wpAny_pyNext_list_item st p.isList (x := u) (by simpa using hu) fun h' st' sb => ?_
    have I1 : Inv X pins σ H { s with heap := h' } := I.turned (t' := s.toks) (fun b o hb e => (sb.2 b hb).trans e) f0 f1 f3 f4 f5
    obtain ⟨o, e, c, d⟩ := id st'
    exact ⟨u, rfl, go_of (s := { s with heap := h' }) e c d (by decide) ⟨x, H, I1, ru, ⟨rfl, fun ys hy => by rw [I.list_inj hy hq]; exact hx⟩, st', fun b hb => (hf b hb).1⟩⟩
  done := by
    intro X hP hw hK hc i pins s σ H E I hf st hg
    subst hP hw hK
    obtain ⟨xs, hq, hx⟩ := hg
    obtain ⟨its, rv, p, hz⟩ := I.list hq
    obtain ⟨f0, f1, f2, f3, f4, f5⟩ := hf it (by simp)
    have hl := rv.length
    exact wpAny_pyNext_list_end (I.ok.hd hc) st p.isList (by simp; omega) fun h' eb => ⟨rfl, I.turned (t' := s.toks) (fun b o hb e => eb b o hb e) f0 f1 f3 f4 f5⟩
  self := fun _ _ _ _ _ st h => wpAny_pyIter_listiter st h
theorem turn_tuple {P : Program} {w : World} {K : PySem.W.Frag} {tg : Expr} (a it : Addr) : Turn P w K tg (Itt K a) [it] it (fun i h => h.IsTupleIter it a i) where
  mem := by simp
  obj := fun i h st b hb => by
    have e : b = it := by simpa using hb
    subst e
    obtain ⟨o, e, c, d⟩ := st
    exact ⟨o, e, fun v z => by rw [d] at z; cases z⟩
  keep := fun i h h' st k => st.at fun o e => k it (by simp) o e
  item := by
    intro X hP hw hK hc i pins s σ H E I hf st hg
    subst hP hw hK
    obtain ⟨xs, x, hq, hx⟩ := hg
    obtain ⟨its, rv, p, hz⟩ := I.tuple hq
    obtain ⟨u, hu, ru⟩ := rv.get hx
    obtain ⟨f0, f1, f2, f3, f4, f5⟩ := hf it (by simp)
    refine wpAny_pyNext_tuple_item st (show s.heap.IsTuple a its.toArray from p) (x := u) (by simpa using hu) fun h' st' sb => ?_
    have I1 : Inv X pins σ H { s with heap := h' } := I.turned (t' := s.toks) (fun b o hb e => (sb.2 b hb).trans e) f0 f1 f3 f4 f5
    obtain ⟨o, e, c, d⟩ := id st'
    exact ⟨u, rfl, go_of (s := { s with heap := h' }) e c d (by decide) ⟨x, H, I1, ru, ⟨rfl, fun ys hy => by rw [I.tuple_inj hy hq]; exact hx⟩, st', fun b hb => (hf b hb).1⟩⟩
  done := by
    intro X hP hw hK hc i pins s σ H E I hf st hg
    subst hP hw hK
    obtain ⟨xs, hq, hx⟩ := hg
    obtain ⟨its, rv, p, hz⟩ := I.tuple hq
    obtain ⟨f0, f1, f2, f3, f4, f5⟩ := hf it (by simp)
    have hl := rv.length
    exact wpAny_pyNext_tuple_end (I.ok.hd hc) st (show s.heap.IsTuple a its.toArray from p) (by simp; omega) fun h' eb => ⟨rfl, I.turned (t' := s.toks) (fun b o hb e => eb b o hb e) f0 f1 f3 f4 f5⟩
  self := fun _ _ _ _ _ st h => wpAny_pyIter_tupleiter st h
theorem turn_range {P : Program} {w : World} {K : PySem.W.Frag} {tg : Expr} (it : Addr) (lo : Int) (n : Nat) : Turn P w K tg (Itr lo n) [it] it (fun i h => IsRangeIter h it (lo + (i : Nat) * 1) ((n : Int) - (i : Nat)) 1) where
  mem := by simp
  obj := fun i h st b hb => by
    have e : b = it := by simpa using hb
    subst e
    exact ⟨_, st, fun v z => by
      have z' : Data.fields _ = Data.cell v := z
      cases z'⟩
  keep := fun i h h' st k => k it (by simp) _ st
  item := by
    intro X hP hw hK hc i pins s σ H E I hf st hg
    subst hP hw hK
    obtain ⟨f0, f1, f2, f3, f4, f5⟩ := hf it (by simp)
    have W := Walks.range (prog := X.prog) (w := X.w) (I.ok.hd hc) it lo 1 n
    refine W.item i s _ _ hg st fun v h' tk hv st' kk => ?_
    obtain ⟨t, rfl⟩ := hv
    have I1 : Inv X pins σ H { s with heap := h', toks := tk } := I.turned (fun b o hb e => kk b o (by simpa using hb) e) f0 f1 f3 f4 f5
    refine ⟨_, rfl, go_of (s := { s with heap := h', toks := tk }) (n := "range_iterator") st' rfl rfl (by decide) ⟨.int (lo + i), H, I1, ⟨t, ?_⟩, ⟨rfl, rfl⟩, st', fun b hb => (hf b hb).1⟩⟩
    rw [Int.mul_one]
  done := by
    intro X hP hw hK hc i pins s σ H E I hf st hg
    subst hP hw hK
    obtain ⟨f0, f1, f2, f3, f4, f5⟩ := hf it (by simp)
    exact wpAny_pyNext_range_end (I.ok.hd hc) st (by have : n ≤ i := hg; omega) fun h' eb => ⟨rfl, I.turned (t' := s.toks) (fun b o hb e => eb b o hb e) f0 f1 f3 f4 f5⟩
  self := fun _ _ _ _ _ st h => wpAny_pyIter_rangeiter st h
end L2
namespace L2
open PySem PySem.Spec PyProof.Rows
section
variable {X : Cx} {tg : Expr}
noncomputable def iList (K : PySem.W.Frag) (tl : TE) : TI := fun σ H R => tl σ H fun x H1 => ∃ a, x = .ref a ∧ (∃ xs, SqL K H1 a xs) ∧ R (Itl K a) H1
noncomputable def iTup (K : PySem.W.Frag) (tl : TE) : TI := fun σ H R => tl σ H fun x H1 => ∃ a, x = .ref a ∧ (∃ xs, SqT K H1 a xs) ∧ R (Itt K a) H1
theorem pi_list {l : Expr} {tl : TE} (hl : PE X l tl) : PI X tg l (iList X.K tl) := by
  intro pins s σ H R I h
  refine thn (hl pins s σ H _ I h) fun v s1 ⟨x, H1, I1, r1, q1⟩ => ?_
  obtain ⟨a, e, ⟨xs, hq⟩, q⟩ := q1
  subst e
  cases r1
  obtain ⟨its, rv, p, hz⟩ := I1.list hq
  refine wpAny_pyIter_list p.isList ?_
  refine ⟨s1.heap.objs.size, [s1.heap.objs.size], _, _, H1, rfl, I1.kept (t' := s1.toks) fun b o e => Heap.get?_push_of_some _ e, turn_list a _, ⟨_, Heap.get?_push_size _ rfl, rfl, rfl⟩, fun b hb => ?_, q⟩
  have e : b = s1.heap.objs.size := by simpa using hb
  subst e
  exact I1.fpOk (Nat.le_refl _) (I1.hok.fresh (Nat.le_refl _))
theorem pi_tup {l : Expr} {tl : TE} (hl : PE X l tl) : PI X tg l (iTup X.K tl) := by
  intro pins s σ H R I h
  refine thn (hl pins s σ H _ I h) fun v s1 ⟨x, H1, I1, r1, q1⟩ => ?_
  obtain ⟨a, e, ⟨xs, hq⟩, q⟩ := q1
  subst e
  cases r1
  obtain ⟨its, rv, p, hz⟩ := I1.tuple hq
  refine wpAny_pyIter_tuple (show s1.heap.IsTuple a its.toArray from p) ?_
  refine ⟨s1.heap.objs.size, [s1.heap.objs.size], _, _, H1, rfl, I1.kept (t' := s1.toks) fun b o e => Heap.get?_push_of_some _ e, turn_tuple a _, ⟨_, Heap.get?_push_size _ rfl, rfl, rfl⟩, fun b hb => ?_, q⟩
  have e : b = s1.heap.objs.size := by simpa using hb
  subst e
  exact I1.fpOk (Nat.le_refl _) (I1.hok.fresh (Nat.le_refl _))
theorem range_it {pins : List (Addr × Obj)} {σ : St} {H : Hp} {s : Shared} {R : It → Hp → Prop} {E : Value → Shared → Prop} {lo hi : Int} {t u v : Tok} {tk : Nat} (I : Inv X pins σ H s) (h1 : -(2 ^ 62) ≤ lo) (h2 : lo < 2 ^ 62) (h3 : -(2 ^ 62) ≤ hi) (h4 : hi < 2 ^ 62)
    (q : R (Itr lo (hi - lo).toNat) H) : wpAny (model X.prog X.w) X.A (pyIter (.ref s.heap.objs.size)) (PIE X pins σ tg R) E { s with heap := s.heap.push { cls := .type "range", data := .fields #[.int lo t, .int hi u, .int 1 v] }, toks := tk } := by
  refine wpAny_pyIter_range (IsRange.new ..) (small_one h1 h2 h3 h4) ?_
  have I1 : Inv X pins σ H { s with heap := s.heap.push { cls := .type "range", data := .fields #[.int lo t, .int hi u, .int 1 v] }, toks := tk } := I.kept fun b o e => Heap.get?_push_of_some _ e
  refine ⟨(s.heap.push { cls := .type "range", data := .fields #[.int lo t, .int hi u, .int 1 v] }).objs.size, [(s.heap.push { cls := .type "range", data := .fields #[.int lo t, .int hi u, .int 1 v] }).objs.size], _, _, H, rfl,
    I1.kept (t' := tk) fun b o e => Heap.get?_push_of_some _ e, turn_range _ lo (hi - lo).toNat, ?_, fun b hb => ?_, q⟩
  · have e1 : lo + ((0 : Nat) : Int) * 1 = lo := by simp
    have e2 : (((hi - lo).toNat : Nat) : Int) - ((0 : Nat) : Int) = Builtin.Range.rangeSize lo hi 1 := by rw [rangeSize_one]; split <;> omega
    show IsRangeIter _ _ (lo + ((0 : Nat) : Int) * 1) ((((hi - lo).toNat : Nat) : Int) - ((0 : Nat) : Int)) 1
    rw [e1, e2]
    exact Heap.get?_push_size _ rfl
  · have e : b = (s.heap.push { cls := .type "range", data := .fields #[.int lo t, .int hi u, .int 1 v] }).objs.size := by simpa using hb
    subst e
    exact I1.fpOk (Nat.le_refl _) (I1.hok.fresh (Nat.le_refl _))
noncomputable def iRng1 (ta : TA) : TI := fun σ H R => ta σ H fun vs H1 => ∃ j : Int, vs = [.int j] ∧ -(2 ^ 62) ≤ j ∧ j < 2 ^ 62 ∧ R (Itr 0 j.toNat) H1
theorem pi_range1 {a : Expr} {ta : TA} {p pos : Pos} (hg : Gl X "range") (hm : X.mg "range" = none) (ha : PA X [a] ta) (hs : starEach [a] X.env = [(false, eval a X.env)] := by rfl) : PI X tg (.Call (.Name "range" p) [a] [] pos) (iRng1 ta) := by
  intro pins s σ H R I h
  refine Call_ (ld_blt I hg hm boot_range (PyProof.Rows.callWith_type1 (thn (ha pos pins s σ H _ I h) fun us s1 ⟨vs, H1, I1, r1, q1⟩ => ?_) hs rfl))
  obtain ⟨j, e, q1, q2, q⟩ := q1
  subst e
  cases r1 with
  | cons r rr =>
    cases rr
    obtain ⟨t, rfl⟩ := r
    exact call_range_1 (range_it I1 (by omega) (by omega) q1 q2 (by simpa using q))
noncomputable def tFor (wi : TI) (g : TG) (tb : TS) : TS := fun D σ H => wi σ H fun J H1 => ∃ W : Nat → Nat → St → Hp → Prop, (∃ m, W 0 m σ H1) ∧ ∀ i m σ H, W i m σ H →
  (J.stop i H ∧ D.nx σ H) ∨ (J.go i H ∧ ∃ N : St → Hp → Prop, (∀ σ' H', N σ' H' → ∃ m', m' < m ∧ W (i + 1) m' σ' H') ∧ ∀ x H', J.yld i H x H' → g x σ H' fun σ2 H2 => tb { D with nx := N, ct := N, bk := D.nx } σ2 H2)
noncomputable def pinsAt (fp : List Addr) (h : Heap) : List (Addr × Obj) := fp.filterMap fun b => (h.get? b).map fun o => (b, o)
theorem mem_pinsAt {fp : List Addr} {h : Heap} {b : Addr} {o : Obj} (hb : b ∈ fp) (e : h.get? b = some o) : (b, o) ∈ pinsAt fp h := List.mem_filterMap.mpr ⟨b, hb, by rw [e]; rfl⟩
theorem of_pinsAt {fp : List Addr} {h : Heap} {p : Addr × Obj} (hp : p ∈ pinsAt fp h) : p.1 ∈ fp ∧ h.get? p.1 = some p.2 := by
  obtain ⟨b, hb, e⟩ := List.mem_filterMap.mp hp
  cases q : h.get? b with
  | none => rw [q] at e; cases e
  | some o =>
    rw [q] at e
    have e' : (b, o) = p := Option.some.inj e
    subst e'
    exact ⟨hb, q⟩
theorem Inv.pinned {pins : List (Addr × Obj)} {σ : St} {H : Hp} {s : Shared} {fp : List Addr} (I : Inv X pins σ H s) (hf : ∀ b ∈ fp, FpOk X pins H b) (ho : ∀ b ∈ fp, ∃ o, s.heap.get? b = some o ∧ ∀ v, o.data ≠ .cell v) : Inv X (pins ++ pinsAt fp s.heap) σ H s :=
  I.pins_of fun p hp => (List.mem_append.mp hp).elim (fun z => I.pin p (List.mem_append_right _ z)) fun z => by
    obtain ⟨hb, e⟩ := of_pinsAt z
    obtain ⟨f0, f1, f2, _⟩ := hf p.1 hb
    obtain ⟨o, e', d⟩ := ho p.1 hb
    rw [e] at e'; cases e'
    exact ⟨e, f0, f1, f2, d⟩
theorem Inv.unpinned {pins pl : List (Addr × Obj)} {σ : St} {H : Hp} {s : Shared} (I : Inv X (pins ++ pl) σ H s) : Inv X pins σ H s := I.pins_of fun p hp => I.pin p (List.mem_append_right _ (List.mem_append_left _ hp))
theorem ps_for {iter : Expr} {body : List Stmt} {wi : TI} {g : TG} {tb : TS} {pos : Pos} (hp : PassesOwn (model X.prog X.w) X.A X.env X.xe) (hc : X.calm = true) (hi : PI X tg iter wi) (hg : PG X tg g) (hb : PSs X body tb)
    (hs : ∀ x, foldedSetIterable iter X.env x = pure x := by intro _; rfl) : PS X (.For tg iter body [] pos) (tFor wi g tb) := by
  intro pins s σ H D I h
  refine wpAny_For (thn (hi pins s σ H _ I h) fun v s1 h1 => thn h1 fun itv s2 h2 => ?_) hs
  obtain ⟨it, fp, tn, J, H2, e, I2, T, st2, f2, W, ⟨m0, w0⟩, turn⟩ := h2
  subst e
  -- what stays true of the iterator's objects through the loop
  have stat : ∀ {H' : Hp}, (∀ b ∈ fp, H' b = none) → ∀ b ∈ fp, FpOk X pins H' b := fun hn b hb => ⟨hn b hb, (f2 b hb).2⟩
  refine codeAny_forLoop_any (fun n s' => ∃ i σ' H', Inv X pins σ' H' s' ∧ tn i s'.heap ∧ (∀ b ∈ fp, H' b = none) ∧ W i n σ' H') ?_ m0 ⟨0, σ, H2, I2, st2, fun b hb => (f2 b hb).1, w0⟩
  rintro n s3 ⟨i, σ3, H3, I3, st3, fr3, w3⟩
  rcases turn i n σ3 H3 w3 with ⟨stop, qn⟩ | ⟨go, N, hN, step⟩
  · refine wpAny_passesOwn hp (thn (T.done X rfl rfl rfl hc i pins s3 σ3 H3 X.xe I3 (stat fr3) st3 stop) fun r s4 ⟨hr, I4⟩ => ?_)
    subst hr
    exact wpAny_execs_nil ⟨σ3, H3, I4, qn⟩
  · refine wpAny_passesOwn hp (thn (T.item X rfl rfl rfl hc i pins s3 σ3 H3 X.xe I3 (stat fr3) st3 go) fun r s4 ⟨u, hr, h4⟩ => ?_)
    subst hr
    refine wpAny_passesOwn hp (thn h4 fun _ s5 ⟨x, H5, I5, r5, y5, st5, fr5⟩ => ?_)
    have I5' := I5.pinned (stat fr5) (T.obj _ _ st5)
    refine wpAny_passesOwn hp (thn (hg _ s5 σ3 H5 x u _ I5' r5 (step x H5 y5)) fun _ s6 ⟨σ6, H6, I6, q6⟩ => ?_)
    refine wpAny_passesOwn hp (thn (hb _ s6 σ6 H6 _ I6 q6) fun f s7 q7 => ?_)
    have again : ∀ {σ7 : St} {H7 : Hp}, Inv X (pins ++ pinsAt fp s5.heap) σ7 H7 s7 → N σ7 H7 → ∃ m, m < n ∧ ∃ i σ' H', Inv X pins σ' H' s7 ∧ tn i s7.heap ∧ (∀ b ∈ fp, H' b = none) ∧ W i m σ' H' := fun {σ7 H7} I7 n7 => by
      obtain ⟨m', hm, w7⟩ := hN σ7 H7 n7
      refine ⟨m', hm, i + 1, σ7, H7, I7.unpinned, T.keep _ _ _ st5 fun b hb o e => (I7.pin (b, o) (List.mem_append_right _ (List.mem_append_right _ (mem_pinsAt hb e)))).1, fun b hb => ?_, w7⟩
      obtain ⟨o, e, d⟩ := T.obj _ _ st5 b hb
      exact (I7.pin (b, o) (List.mem_append_right _ (List.mem_append_right _ (mem_pinsAt hb e)))).2.1
    cases f with
    | next => obtain ⟨σ7, H7, I7, n7⟩ := q7; exact again I7 n7
    | cont => obtain ⟨σ7, H7, I7, n7⟩ := q7; exact again I7 n7
    | brk => obtain ⟨σ7, H7, I7, q7⟩ := q7; exact ⟨σ7, H7, I7.unpinned, q7⟩
    | ret v => obtain ⟨x7, σ7, H7, I7, r7, q7⟩ := q7; exact ⟨x7, σ7, H7, I7.unpinned, r7, q7⟩
end
theorem for_list {K : PySem.W.Frag} {a : Addr} {xs : List V} {g : TG} {tb : TS} {D : Ends} {σ : St} {H : Hp} (Pv : Nat → St → Hp → Prop) (h0 : Pv 0 σ H) (hl : ∀ i σ H, i ≤ xs.length → Pv i σ H → SqL K H a xs)
    (hs : ∀ i x σ H, xs[i]? = some x → Pv i σ H → g x σ H fun σ2 H2 => tb { D with nx := Pv (i + 1), ct := Pv (i + 1), bk := D.nx } σ2 H2) (hd : ∀ σ H, Pv xs.length σ H → D.nx σ H) :
    ∃ W : Nat → Nat → St → Hp → Prop, (∃ m, W 0 m σ H) ∧ ∀ i m σ H, W i m σ H →
      ((Itl K a).stop i H ∧ D.nx σ H) ∨ ((Itl K a).go i H ∧ ∃ N : St → Hp → Prop, (∀ σ' H', N σ' H' → ∃ m', m' < m ∧ W (i + 1) m' σ' H') ∧ ∀ x H', (Itl K a).yld i H x H' → g x σ H' fun σ2 H2 => tb { D with nx := N, ct := N, bk := D.nx } σ2 H2) := by
  refine ⟨fun i m σ H => m = xs.length - i ∧ i ≤ xs.length ∧ Pv i σ H, ⟨xs.length, by simp, Nat.zero_le _, h0⟩, ?_⟩
  rintro i m σ H ⟨rfl, hi, p⟩
  have q := hl i σ H hi p
  by_cases hlt : i < xs.length
  · refine .inr ⟨⟨xs, xs[i], q, by simp [hlt]⟩, Pv (i + 1), fun σ' H' p' => ⟨xs.length - (i + 1), by omega, rfl, hlt, p'⟩, fun x H' y => ?_⟩
    obtain ⟨e, y⟩ := y
    subst e
    exact hs i x σ _ (y xs q) p
  · have e : i = xs.length := by omega
    subst e
    exact .inl ⟨⟨xs, q, Nat.le_refl _⟩, hd σ H p⟩
theorem for_range {lo : Int} {n : Nat} {g : TG} {tb : TS} {D : Ends} {σ : St} {H : Hp} (Pv : Nat → St → Hp → Prop) (h0 : Pv 0 σ H)
    (hs : ∀ i σ H, i < n → Pv i σ H → g (.int (lo + i)) σ H fun σ2 H2 => tb { D with nx := Pv (i + 1), ct := Pv (i + 1), bk := D.nx } σ2 H2) (hd : ∀ σ H, Pv n σ H → D.nx σ H) :
    ∃ W : Nat → Nat → St → Hp → Prop, (∃ m, W 0 m σ H) ∧ ∀ i m σ H, W i m σ H →
      ((Itr lo n).stop i H ∧ D.nx σ H) ∨ ((Itr lo n).go i H ∧ ∃ N : St → Hp → Prop, (∀ σ' H', N σ' H' → ∃ m', m' < m ∧ W (i + 1) m' σ' H') ∧ ∀ x H', (Itr lo n).yld i H x H' → g x σ H' fun σ2 H2 => tb { D with nx := N, ct := N, bk := D.nx } σ2 H2) := by
  refine ⟨fun i m σ H => m = n - i ∧ i ≤ n ∧ Pv i σ H, ⟨n, by simp, Nat.zero_le _, h0⟩, ?_⟩
  rintro i m σ H ⟨rfl, hi, p⟩
  by_cases hlt : i < n
  · refine .inr ⟨hlt, Pv (i + 1), fun σ' H' p' => ⟨n - (i + 1), by omega, rfl, hlt, p'⟩, fun x H' y => ?_⟩
    obtain ⟨e, y⟩ := y
    subst e y
    exact hs i σ _ hlt p
  · have e : i = n := by omega
    subst e
    exact .inl ⟨Nat.le_refl _, hd σ H p⟩
theorem while_by {c : TT} {tb : TS} {D : Ends} {σ : St} {H : Hp} (Pv : St → Hp → Prop) (μ : St → Hp → Nat) (h0 : Pv σ H)
    (hs : ∀ σ H, Pv σ H → c σ H fun b H1 => if b = true then tb { D with nx := fun σ' H' => Pv σ' H' ∧ μ σ' H' < μ σ H, ct := fun σ' H' => Pv σ' H' ∧ μ σ' H' < μ σ H, bk := D.nx } σ H1 else D.nx σ H1)
    (mono : ∀ σ H Q Q', (∀ b H1, Q b H1 → Q' b H1) → c σ H Q → c σ H Q') : tWhile c tb D σ H := by
  refine ⟨fun m σ H => m = μ σ H ∧ Pv σ H, ⟨_, rfl, h0⟩, ?_⟩
  rintro m σ H ⟨rfl, p⟩
  refine mono σ H _ _ (fun b H1 q => ?_) (hs σ H p)
  cases b with
  | true => exact ⟨_, fun σ' H' ⟨p', l⟩ => ⟨_, l, rfl, p'⟩, q⟩
  | false => exact q
end L2
namespace L2
open PySem PySem.Spec PyProof.Rows
abbrev R2 := V → V → Hp → VK → Prop
noncomputable def OpR (X : Cx) (f : Value → Value → Sem Value) (r : R2) : Prop :=
  ∀ (pins : List (Addr × Obj)) (s : Shared) (σ : St) (H : Hp) (x y : V) (v u : Value) (Q : VK), Inv X pins σ H s → RelV x v → RelV y u → r x y H Q →
    wpAny (model X.prog X.w) X.A (f v u) (EP X pins σ Q) X.xe s
noncomputable def UnR (X : Cx) (f : Value → Sem Value) (r : V → Hp → VK → Prop) : Prop :=
  ∀ (pins : List (Addr × Obj)) (s : Shared) (σ : St) (H : Hp) (x : V) (v : Value) (Q : VK), Inv X pins σ H s → RelV x v → r x H Q →
    wpAny (model X.prog X.w) X.A (f v) (EP X pins σ Q) X.xe s
noncomputable def CallR (X : Cx) (f : Value) (r : List V → Hp → VK → Prop) : Prop :=
  ∀ (pins : List (Addr × Obj)) (s : Shared) (σ : St) (H : Hp) (xs : List V) (us : List Value) (Q : VK), Inv X pins σ H s → Vals xs us → r xs H Q →
    wpAny (model X.prog X.w) X.A (call f us) (EP X pins σ Q) X.xe s
noncomputable def TruR (X : Cx) (r : V → Hp → (Bool → Hp → Prop) → Prop) : Prop :=
  ∀ (pins : List (Addr × Obj)) (s : Shared) (σ : St) (H : Hp) (x : V) (v : Value) (Q : Bool → Hp → Prop), Inv X pins σ H s → RelV x v → r x H Q →
    wpAny (model X.prog X.w) X.A (truthy v) (TP X pins σ Q) X.xe s
noncomputable def tOp (r : R2) (ta tb : TE) : TE := fun σ H Q => ta σ H fun x H1 => tb σ H1 fun y H2 => r x y H2 Q
noncomputable def tUn (r : V → Hp → VK → Prop) (ta : TE) : TE := fun σ H Q => ta σ H fun x H1 => r x H1 Q
noncomputable def rI (C : Int → Int → Prop) (g : Int → Int → V) : R2 := fun x y H Q => ∃ i j, x = .int i ∧ y = .int j ∧ C i j ∧ Q (g i j) H
noncomputable def rI0 (g : Int → Int → V) : R2 := fun x y H Q => ∃ i j, x = .int i ∧ y = .int j ∧ Q (g i j) H
noncomputable def rU (g : Int → V) : V → Hp → VK → Prop := fun x H Q => ∃ i, x = .int i ∧ Q (g i) H
section
variable {X : Cx} {a b c : Expr} {ta tb tc : TE} {pos : Pos}
theorem binT (ha : PE X a ta) (hb : PE X b tb) {pins : List (Addr × Obj)} {s : Shared} {σ : St} {H : Hp} {R : V → V → Hp → Prop} (I : Inv X pins σ H s)
    (h : ta σ H fun x H1 => tb σ H1 fun y H2 => R x y H2) {Q : Value → Shared → Prop} {f : Value → Value → Sem Value}
    (hf : ∀ v u s2 x y H2, Inv X pins σ H2 s2 → RelV x v → RelV y u → R x y H2 → wpAny (model X.prog X.w) X.A (f v u) Q X.xe s2) :
    wpAny (model X.prog X.w) X.A (eval a X.env) (fun v s₁ => wpAny (model X.prog X.w) X.A (eval b X.env) (fun u s₂ => wpAny (model X.prog X.w) X.A (f v u) Q X.xe s₂) X.xe s₁) X.xe s := by
  refine thn (ha pins s σ H _ I h) fun v s1 ⟨x, H1, I1, r1, q1⟩ => ?_
  refine thn (hb pins s1 σ H1 _ I1 q1) fun u s2 ⟨y, H2, I2, r2, q2⟩ => ?_
  exact hf v u s2 x y H2 I2 r1 r2 q2
theorem pe_op {op : Operator} {r : R2} (ho : OpR X (binaryOp op) r) (ha : PE X a ta) (hb : PE X b tb) : PE X (.BinOp a op b pos) (tOp r ta tb) := by
  intro pins s σ H Q I h
  exact wpAny_BinOp (binT ha hb I h fun v u s2 x y H2 I2 rx ry q => ho pins s2 σ H2 x y v u Q I2 rx ry q)
theorem pe_un {op : UnaryOp} {r : V → Hp → VK → Prop} (ho : UnR X (unaryOp op) r) (ha : PE X a ta) : PE X (.UnaryOp op a pos) (tUn r ta) := by
  intro pins s σ H Q I h
  exact UnaryOp_ (thn (ha pins s σ H _ I h) fun v s1 ⟨x, H1, I1, r1, q1⟩ => ho pins s1 σ H1 x v Q I1 r1 q1)
theorem opI {f : Value → Value → Sem Value} {C : Int → Int → Prop} {g : Int → Int → Int}
    (rule : ∀ (i j : Int) (t u : Tok) (s : Shared) (Q : Value → Shared → Prop) (E : Value → Shared → Prop), C i j → Q (.int (g i j) s.toks) { s with toks := s.toks + 1 } → wpAny (model X.prog X.w) X.A (f (.int i t) (.int j u)) Q E s) :
    OpR X f (rI C fun i j => .int (g i j)) := by
  intro pins s σ H x y v u Q I rx ry h
  obtain ⟨i, j, rfl, rfl, hc, q⟩ := h
  obtain ⟨t, rfl⟩ := rx
  obtain ⟨t', rfl⟩ := ry
  exact rule i j t t' s _ _ hc ⟨.int (g i j), H, I.tok _, ⟨_, rfl⟩, q⟩
theorem opI0 {f : Value → Value → Sem Value} {g : Int → Int → Int}
    (rule : ∀ (i j : Int) (t u : Tok) (s : Shared) (Q : Value → Shared → Prop) (E : Value → Shared → Prop), Q (.int (g i j) s.toks) { s with toks := s.toks + 1 } → wpAny (model X.prog X.w) X.A (f (.int i t) (.int j u)) Q E s) :
    OpR X f (rI0 fun i j => .int (g i j)) := by
  intro pins s σ H x y v u Q I rx ry h
  obtain ⟨i, j, rfl, rfl, q⟩ := h
  obtain ⟨t, rfl⟩ := rx
  obtain ⟨t', rfl⟩ := ry
  exact rule i j t t' s _ _ ⟨.int (g i j), H, I.tok _, ⟨_, rfl⟩, q⟩
theorem opB0 {f : Value → Value → Sem Value} {g : Int → Int → Bool}
    (rule : ∀ (i j : Int) (t u : Tok) (s : Shared) (Q : Value → Shared → Prop) (E : Value → Shared → Prop), Q (.bool (g i j)) s → wpAny (model X.prog X.w) X.A (f (.int i t) (.int j u)) Q E s) :
    OpR X f (rI0 fun i j => .bl (g i j)) := by
  intro pins s σ H x y v u Q I rx ry h
  obtain ⟨i, j, rfl, rfl, q⟩ := h
  obtain ⟨t, rfl⟩ := rx
  obtain ⟨t', rfl⟩ := ry
  exact rule i j t t' s _ _ ⟨.bl (g i j), H, I, rfl, q⟩
noncomputable def CPow (i j : Int) : Prop := 0 ≤ j ∧ j ≤ 1000000 ∧ i.natAbs < 2 ^ 64
noncomputable def CMul (i j : Int) : Prop := (-(2 ^ 64) < i ∧ i < 2 ^ 64) ∨ (-(2 ^ 64) < j ∧ j < 2 ^ 64)
theorem CMul.ok {i j : Int} (h : CMul i j) : IntMulOk i j := by
  rcases h with ⟨h1, h2⟩ | ⟨h1, h2⟩
  · exact .of_left (intBits_le_64 h1 h2)
  · exact .of_right (intBits_le_64 h1 h2)
theorem op_add : OpR X (binaryOp .Add) (rI0 fun i j => .int (i + j)) := opI0 fun _ _ _ _ _ _ _ q => add_int q
theorem op_sub : OpR X (binaryOp .Sub) (rI0 fun i j => .int (i - j)) := opI0 fun _ _ _ _ _ _ _ q => sub_int q
theorem op_mul : OpR X (binaryOp .Mult) (rI CMul fun i j => .int (i * j)) := opI fun _ _ _ _ _ _ _ hc q => mul_int q hc.ok
theorem op_mod : OpR X (binaryOp .Mod) (rI (fun _ j => 0 < j) fun i j => .int (i % j)) := opI fun i j _ _ _ _ _ hc q => by
  have h1 : (0 : Int) < j := hc
  exact mod_int' (by omega) (by rw [Int.fmod_eq_emod_of_nonneg i (by omega)]; exact q)
theorem op_pow : OpR X (binaryOp .Pow) (rI CPow fun i j => .int (i ^ j.toNat)) := opI fun _ _ _ _ _ _ _ hc q => pow_int_small hc.1 hc.2.1 hc.2.2 q
theorem unI {f : Value → Sem Value} {g : Int → Int}
    (rule : ∀ (i : Int) (t : Tok) (s : Shared) (Q : Value → Shared → Prop) (E : Value → Shared → Prop), Q (.int (g i) s.toks) { s with toks := s.toks + 1 } → wpAny (model X.prog X.w) X.A (f (.int i t)) Q E s) :
    UnR X f (rU fun i => .int (g i)) := by
  intro pins s σ H x v Q I rx h
  obtain ⟨i, rfl, q⟩ := h
  obtain ⟨t, rfl⟩ := rx
  exact rule i t s _ _ ⟨.int (g i), H, I.tok _, ⟨_, rfl⟩, q⟩
theorem un_neg : UnR X (unaryOp .USub) (rU fun i => .int (-i)) := unI fun _ _ _ _ _ q => neg_int q
end
noncomputable def scal : V → V → Bool
  | .non, .non => true | .non, .int _ => true | .int _, .non => true | .non, .bl _ => true | .bl _, .non => true | .non, .str _ => true | .str _, .non => true
  | .int _, .int _ => true | .bl _, .bl _ => true | .str _, .str _ => true | .byt _, .byt _ => true
  | .int _, .str _ => true | .str _, .int _ => true | .bl _, .str _ => true | .str _, .bl _ => true
  | _, _ => false
noncomputable def rEq : R2 := fun x y H Q => scal x y = true ∧ Q (.bl (decide (x = y))) H
noncomputable def rNe : R2 := fun x y H Q => scal x y = true ∧ Q (.bl (!decide (x = y))) H
theorem dec_int {i j : Int} : decide (V.int i = V.int j) = (i == j) := by
  rw [Bool.eq_iff_iff]
  simp
theorem dec_bl {i j : Bool} : decide (V.bl i = V.bl j) = (i == j) := by
  rw [Bool.eq_iff_iff]
  simp
theorem dec_str {i j : Str} : decide (V.str i = V.str j) = (i == j) := by
  rw [Bool.eq_iff_iff]
  simp
theorem dec_byt {i j : Array UInt8} : decide (V.byt i = V.byt j) = (i.toList == j.toList) := by
  rw [Bool.eq_iff_iff]
  cases i
  cases j
  simp
section
variable {X : Cx} {a b c : Expr} {ta tb tc : TE} {pos : Pos}
theorem fin_bl {pins : List (Addr × Obj)} {σ : St} {H : Hp} {s : Shared} {Q : VK} {k k' : Bool} (I : Inv X pins σ H s) (q : Q (.bl k) H) (e : k = k') : EP X pins σ Q (.bool k') s := by
  subst e
  exact ⟨.bl k, H, I, rfl, q⟩
theorem op_eq : OpR X (compareOp .Eq) rEq := by
  intro pins s σ H x y v u Q I rx ry h
  obtain ⟨hs, q⟩ := h
  cases x with
  | non =>
    cases rx
    cases y with
    | non => cases ry; exact PySem.EqNone.eq_none_none (fin_bl I q (by simp))
    | bl j => cases ry; exact PySem.EqNone.eq_none_bool (fin_bl I q (by simp))
    | int j => obtain ⟨t', rfl⟩ := ry; exact PySem.EqNone.eq_none_int (fin_bl I q (by simp))
    | str j => obtain ⟨t', rfl⟩ := ry; exact PySem.EqNone.eq_none_str (fin_bl I q (by simp))
    | _ => exact absurd (show false = true from hs) Bool.false_ne_true
  | bl i =>
    cases rx
    cases y with
    | non => cases ry; exact PySem.EqNone.eq_bool_none (fin_bl I q (by simp))
    | bl j => cases ry; exact eq_bool (fin_bl I q dec_bl)
    | str j => obtain ⟨t', rfl⟩ := ry; exact PySem.EqMixed.eq_bool_str (fin_bl I q (by simp))
    | _ => exact absurd (show false = true from hs) Bool.false_ne_true
  | int i =>
    obtain ⟨t, rfl⟩ := rx
    cases y with
    | non => cases ry; exact PySem.EqNone.eq_int_none (fin_bl I q (by simp))
    | int j => obtain ⟨t', rfl⟩ := ry; exact eq_int (fin_bl I q dec_int)
    | str j => obtain ⟨t', rfl⟩ := ry; exact PySem.EqMixed.eq_int_str (fin_bl I q (by simp))
    | _ => exact absurd (show false = true from hs) Bool.false_ne_true
  | str i =>
    obtain ⟨t, rfl⟩ := rx
    cases y with
    | non => cases ry; exact PySem.EqNone.eq_str_none (fin_bl I q (by simp))
    | bl j => cases ry; exact PySem.EqMixed.eq_str_bool (fin_bl I q (by simp))
    | int j => obtain ⟨t', rfl⟩ := ry; exact PySem.EqMixed.eq_str_int (fin_bl I q (by simp))
    | str j => obtain ⟨t', rfl⟩ := ry; exact eq_str (fin_bl I q dec_str)
    | _ => exact absurd (show false = true from hs) Bool.false_ne_true
  | byt i =>
    obtain ⟨t, rfl⟩ := rx
    cases y with
    | byt j => obtain ⟨t', rfl⟩ := ry; exact PySem.W.eq_bytes (fin_bl I q dec_byt)
    | _ => exact absurd (show false = true from hs) Bool.false_ne_true
  | _ => cases y <;> exact absurd (show false = true from hs) Bool.false_ne_true
theorem op_ne : OpR X (compareOp .NotEq) rNe := by
  intro pins s σ H x y v u Q I rx ry h
  obtain ⟨hs, q⟩ := h
  cases x with
  | non =>
    cases rx
    cases y with
    | non => cases ry; exact PySem.EqNone.ne_none_none (fin_bl I q (by simp))
    | bl j => cases ry; exact PySem.EqNone.ne_none_bool (fin_bl I q (by simp))
    | int j => obtain ⟨t', rfl⟩ := ry; exact PySem.EqNone.ne_none_int (fin_bl I q (by simp))
    | str j => obtain ⟨t', rfl⟩ := ry; exact PySem.EqNone.ne_none_str (fin_bl I q (by simp))
    | _ => exact absurd (show false = true from hs) Bool.false_ne_true
  | bl i =>
    cases rx
    cases y with
    | non => cases ry; exact PySem.EqNone.ne_bool_none (fin_bl I q (by simp))
    | bl j => cases ry; exact ne_bool (fin_bl I q (congrArg not dec_bl))
    | str j => obtain ⟨t', rfl⟩ := ry; exact PySem.EqMixed.ne_bool_str (fin_bl I q (by simp))
    | _ => exact absurd (show false = true from hs) Bool.false_ne_true
  | int i =>
    obtain ⟨t, rfl⟩ := rx
    cases y with
    | non => cases ry; exact PySem.EqNone.ne_int_none (fin_bl I q (by simp))
    | int j => obtain ⟨t', rfl⟩ := ry; exact ne_int (fin_bl I q (congrArg not dec_int))
    | str j => obtain ⟨t', rfl⟩ := ry; exact PySem.EqMixed.ne_int_str (fin_bl I q (by simp))
    | _ => exact absurd (show false = true from hs) Bool.false_ne_true
  | str i =>
    obtain ⟨t, rfl⟩ := rx
    cases y with
    | non => cases ry; exact PySem.EqNone.ne_str_none (fin_bl I q (by simp))
    | bl j => cases ry; exact PySem.EqMixed.ne_str_bool (fin_bl I q (by simp))
    | int j => obtain ⟨t', rfl⟩ := ry; exact PySem.EqMixed.ne_str_int (fin_bl I q (by simp))
    | str j => obtain ⟨t', rfl⟩ := ry; exact ne_str (fin_bl I q (congrArg not dec_str))
    | _ => exact absurd (show false = true from hs) Bool.false_ne_true
  | byt i =>
    obtain ⟨t, rfl⟩ := rx
    cases y with
    | byt j => obtain ⟨t', rfl⟩ := ry; exact PySem.W.ne_bytes (fin_bl I q (congrArg not dec_byt))
    | _ => exact absurd (show false = true from hs) Bool.false_ne_true
  | _ => cases y <;> exact absurd (show false = true from hs) Bool.false_ne_true
theorem op_lt : OpR X (compareOp .Lt) (rI0 fun i j => .bl (decide (i < j))) := opB0 fun _ _ _ _ _ _ _ q => lt_int q
theorem op_le : OpR X (compareOp .LtE) (rI0 fun i j => .bl (decide (i ≤ j))) := opB0 fun _ _ _ _ _ _ _ q => le_int q
theorem op_gt : OpR X (compareOp .Gt) (rI0 fun i j => .bl (decide (j < i))) := opB0 fun _ _ _ _ _ _ _ q => gt_int q
theorem op_ge : OpR X (compareOp .GtE) (rI0 fun i j => .bl (decide (j ≤ i))) := opB0 fun _ _ _ _ _ _ _ q => ge_int q
theorem op_isN : OpR X (compareOp .Is) (fun x y H Q => y = .non ∧ Q (.bl (decide (x = .non))) H) := by
  intro pins s σ H x y v u Q I rx ry h
  obtain ⟨rfl, q⟩ := h
  cases ry
  refine is_none_gen (fin_bl I q ?_)
  cases x <;> first
    | (cases rx; rfl)
    | (obtain ⟨t, rfl⟩ := rx; rfl)
theorem nomark (b : Expr) {op : CmpOp} (h : op ≠ .In := by decide) (h2 : op ≠ .NotIn := by decide) : behindInMarks op b = false := by
  have e1 : (op == CmpOp.In) = false := by cases op <;> first | rfl | exact absurd rfl h
  have e2 : (op == CmpOp.NotIn) = false := by cases op <;> first | rfl | exact absurd rfl h2
  cases b <;> simp [behindInMarks, e1, e2]
theorem pe_cmpR {op : CmpOp} {r : R2} (ho : OpR X (compareOp op) r) (ha : PE X a ta) (hb : PE X b tb) (hm : behindInMarks op b = false) : PE X (.Compare a [op] [b] pos) (tOp r ta tb) := by
  intro pins s σ H Q I h
  exact wpAny_Compare1 (binT ha hb I h fun v u s2 x y H2 I2 rx ry q => ho pins s2 σ H2 x y v u Q I2 rx ry q) hm
noncomputable def tTest (t : TE) : TT := fun σ H Q => t σ H fun x H' => ∃ k, x = .bl k ∧ Q k H'
theorem pt_cmpR {op : CmpOp} {r : R2} (ho : OpR X (compareOp op) r) (ha : PE X a ta) (hb : PE X b tb) (hm : behindInMarks op b = false) : PT X (.Compare a [op] [b] pos) (tTest (tOp r ta tb)) := by
  intro pins s σ H Q I h
  refine wpAny_isTrue_Compare1 (thn (ha pins s σ H _ I h) fun v s1 ⟨x, H1, I1, r1, q1⟩ => thn (hb pins s1 σ H1 _ I1 q1) fun u s2 ⟨y, H2, I2, r2, q2⟩ =>
    thn (ho pins s2 σ H2 x y v u _ I2 r1 r2 q2) fun c s3 ⟨z, H3, I3, r3, k, e, q3⟩ => ?_) hm
  subst e
  cases r3
  exact wpAny_truthy_bool ⟨H3, I3, q3⟩
noncomputable def tChain (r r' : R2) (ta tb tc : TE) : TE := fun σ H Q => ta σ H fun x H1 => tb σ H1 fun y H2 => r x y H2 fun z H3 => ∃ k, z = .bl k ∧
  (if k = true then tc σ H3 fun w' H4 => r' y w' H4 Q else Q (.bl false) H3)
theorem pt_chain {op op' : CmpOp} {r r' : R2} (ho : OpR X (compareOp op) r) (ho' : OpR X (compareOp op') r') (ha : PE X a ta) (hb : PE X b tb) (hc : PE X c tc)
    (hm : lastMarks [op, op'] [b, c] = false := by with_unfolding_all rfl) : PT X (.Compare a [op, op'] [b, c] pos) (tTest (tChain r r' ta tb tc)) := by
  intro pins s σ H Q I h
  refine isTrue_chain (thn (ha pins s σ H _ I h) fun v s1 ⟨x, H1, I1, r1, q1⟩ => test_link (thn (hb pins s1 σ H1 _ I1 q1) fun u s2 ⟨y, H2, I2, r2, q2⟩ =>
    thn (ho pins s2 σ H2 x y v u _ I2 r1 r2 q2) fun d s3 ⟨z, H3, I3, r3, k, e, q3⟩ => ?_)) hm
  subst e
  cases r3
  refine wpAny_truthy_bool ?_
  cases k with
  | false =>
    obtain ⟨k', e', q'⟩ := q3
    cases e'
    exact ite_ff ⟨H3, I3, q'⟩
  | true =>
    refine ite_tt (test_last (thn (hc pins s3 σ H3 _ I3 q3) fun w' s4 ⟨z', H4, I4, r4, q4⟩ => thn (ho' pins s4 σ H4 y z' u w' _ I4 r2 r4 q4) fun d' s5 ⟨z2, H5, I5, r5, k2, e2, q5⟩ => ?_))
    subst e2
    cases r5
    exact wpAny_truthy_bool ⟨H5, I5, q5⟩
noncomputable def TruV (K : PySem.W.Frag) (x : V) (H : Hp) (k : Bool) : Prop :=
  match x with
  | .non => k = false
  | .bl b => k = b
  | .int i => k = (i != 0)
  | .str y => y.length ≤ sizeLine ∧ k = ((y.length : Int) != 0)
  | .byt y => y.size ≤ sizeLine ∧ k = ((y.size : Int) != 0)
  | .ref p => (∃ xs, SqL K H p xs ∧ k = !xs.isEmpty) ∨ (∃ xs, SqT K H p xs ∧ k = !xs.isEmpty) ∨ ∃ kvs, H p = some (.dK kvs) ∧ k = !kvs.isEmpty
  | _ => False
theorem isEmpty_kv {κ : Type} {kvs : List (κ × V)} {vs : List (κ × Value)} (r : KV kvs vs) : (!vs.isEmpty) = !kvs.isEmpty := by
  cases r <;> rfl
theorem isEmpty_of {xs : List V} {its : List Value} (r : Vals xs its) : (!its.toArray.isEmpty) = !xs.isEmpty := by
  cases r <;> simp
theorem line63 : (sizeLine : Nat) < 2 ^ 63 := by rw [sizeLine_eq]; decide
theorem tru_ok : TruR X (fun x H Q => ∃ k, TruV X.K x H k ∧ Q k H) := by
  intro pins s σ H x v Q I rx h
  obtain ⟨k, e, q⟩ := h
  have hl := line63
  have hs : sizeLine = 16777216 := sizeLine_eq
  cases x with
  | non =>
    cases rx
    have e' : k = false := e
    subst e'
    exact truthy_none ⟨H, I, q⟩
  | bl b =>
    cases rx
    have e' : k = b := e
    subst e'
    exact wpAny_truthy_bool ⟨H, I, q⟩
  | int i =>
    obtain ⟨t, rfl⟩ := rx
    have e' : k = (i != 0) := e
    subst e'
    exact PySem.P.truthy_int ⟨H, I, q⟩
  | str y =>
    obtain ⟨t, rfl⟩ := rx
    obtain ⟨hy, e'⟩ : y.length ≤ sizeLine ∧ k = ((y.length : Int) != 0) := e
    subst e'
    exact PySem.P.truthy_str (by omega) ⟨H, I.tok _, q⟩
  | byt y =>
    obtain ⟨t, rfl⟩ := rx
    obtain ⟨hy, e'⟩ : y.size ≤ sizeLine ∧ k = ((y.size : Int) != 0) := e
    subst e'
    exact PySem.W.truthy_bytes (by omega) ⟨H, I.tok _, q⟩
  | ref p =>
    cases rx
    have e' : (∃ xs, SqL X.K H p xs ∧ k = !xs.isEmpty) ∨ (∃ xs, SqT X.K H p xs ∧ k = !xs.isEmpty) ∨ ∃ kvs, H p = some (.dK kvs) ∧ k = !kvs.isEmpty := e
    rcases e' with ⟨xs, hx, e'⟩ | ⟨xs, hx, e'⟩ | ⟨kvs, hx, e'⟩
    · subst e'
      obtain ⟨its, r, pl, hz⟩ := I.list hx
      have hlen := r.length
      exact wpAny_truthy_list pl.isList (by simp only [List.size_toArray]; omega) ⟨H, I.tok _, by rw [isEmpty_of r]; exact q⟩
    · subst e'
      obtain ⟨its, r, pl, hz⟩ := I.tuple hx
      have hlen := r.length
      exact truthy_tuple pl (by simp only [List.size_toArray]; omega) ⟨H, I.tok _, by rw [isEmpty_of r]; exact q⟩
    · subst e'
      obtain ⟨hz, hS, vs, r, m⟩ : kvs.length ≤ sizeLine ∧ (p == sysModules) = false ∧ ∃ vs, KV kvs vs ∧ s.heap.DictOf (mixKind X.prog X.w) p vs := I.hok p _ hx
      have hlen : kvs.length = vs.length := Paired.length r
      exact wpAny_truthy_dict hS m (by omega) ⟨H, I.tok _, by rw [isEmpty_kv r]; exact q⟩
  | _ => exact (show False from e).elim
theorem pt_truth (ha : PE X a ta) (he : ∀ whole, isTrue a X.env whole = (do let v ← whole; standAt a.pos; holding [v] (truthy v))) :
    PT X a (fun σ H Q => ta σ H fun x H' => ∃ k, TruV X.K x H' k ∧ Q k H') := by
  intro pins s σ H Q I h
  exact isTrue_plain (thn (ha pins s σ H _ I h) fun v s1 ⟨x, H1, I1, r1, q1⟩ => tru_ok pins s1 σ H1 x v Q I1 r1 q1) (he _)
theorem op_add_str : OpR X (binaryOp .Add) (fun x y H Q => ∃ i j, x = .str i ∧ y = .str j ∧ i.length + j.length ≤ sizeLine ∧ Q (.str (i ++ j)) H) := by
  intro pins s σ H x y v u Q I rx ry h
  obtain ⟨i, j, rfl, rfl, hz, q⟩ := h
  obtain ⟨t, rfl⟩ := rx
  obtain ⟨t', rfl⟩ := ry
  exact add_str (fun t' tk => ⟨.str (i ++ j), H, I.tok _, ⟨_, rfl⟩, q⟩) hz
theorem vals1 {x : V} {us : List Value} (r : Vals [x] us) : ∃ u, us = [u] ∧ RelV x u := by
  cases r with
  | cons r1 r2 => cases r2; exact ⟨_, rfl, r1⟩
theorem vals2 {x y : V} {us : List Value} (r : Vals [x, y] us) : ∃ u w', us = [u, w'] ∧ RelV x u ∧ RelV y w' := by
  cases r with
  | cons r1 r2 =>
    cases r2 with
    | cons r3 r4 => cases r4; exact ⟨_, _, rfl, r1, r3⟩
theorem call_abs : CallR X (.builtin "abs") (fun xs H Q => ∃ i, xs = [.int i] ∧ Q (.int (if i < 0 then -i else i)) H) := by
  intro pins s σ H xs us Q I r h
  obtain ⟨i, rfl, q⟩ := h
  obtain ⟨u, rfl, t, rfl⟩ := vals1 r
  exact call_abs_int fun u tk => ⟨.int (if i < 0 then -i else i), H, I.tok _, ⟨_, rfl⟩, q⟩
theorem call_max2 (hc : X.calm = true) : CallR X (.builtin "max") (fun xs H Q => ∃ i j, xs = [.int i, .int j] ∧ Q (.int (if j > i then j else i)) H) := by
  intro pins s σ H xs us Q I r h
  obtain ⟨i, j, rfl, q⟩ := h
  obtain ⟨u, w', rfl, ⟨t, rfl⟩, ⟨t', rfl⟩⟩ := vals2 r
  refine max_two_ints (I.ok.hd hc) fun h' tk k => ⟨_, H, I.kept k, ?_, q⟩
  by_cases hj : j > i
  · rw [if_pos hj, if_pos hj]; exact ⟨_, rfl⟩
  · rw [if_neg hj, if_neg hj]; exact ⟨_, rfl⟩
theorem call_min2 (hc : X.calm = true) : CallR X (.builtin "min") (fun xs H Q => ∃ i j, xs = [.int i, .int j] ∧ Q (.int (if j < i then j else i)) H) := by
  intro pins s σ H xs us Q I r h
  obtain ⟨i, j, rfl, q⟩ := h
  obtain ⟨u, w', rfl, ⟨t, rfl⟩, ⟨t', rfl⟩⟩ := vals2 r
  refine min_two_ints (I.ok.hd hc) fun h' tk k => ⟨_, H, I.kept k, ?_, q⟩
  by_cases hj : j < i
  · rw [if_pos hj, if_pos hj]; exact ⟨_, rfl⟩
  · rw [if_neg hj, if_neg hj]; exact ⟨_, rfl⟩
theorem call_int1 : CallR X (.type "int") (fun xs H Q => (∃ i, xs = [.int i] ∧ Q (.int i) H) ∨ ∃ k, xs = [.bl k] ∧ Q (.int (if k then 1 else 0)) H) := by
  intro pins s σ H xs us Q I r h
  rcases h with ⟨i, rfl, q⟩ | ⟨k, rfl, q⟩
  · obtain ⟨u, rfl, t, rfl⟩ := vals1 r
    exact call_int_int ⟨.int i, H, I, ⟨_, rfl⟩, q⟩
  · obtain ⟨u, rfl, r1⟩ := vals1 r
    cases r1
    exact call_int_bool ⟨.int (if k then 1 else 0), H, I.tok _, ⟨_, rfl⟩, q⟩
end
end L2
namespace L2
open PySem PySem.Spec PyProof.Rows
section
variable {prog : Program} {w : World} {A : Around} {E : Value → Shared → Prop} {s : Shared} {K : PySem.W.Frag} {x dx C f : Addr} {mA : Str → Option Value} {name : Str} {v : Value}
end
section
variable {P : Program} {w : World} {H H' : Hp} {h h' : Heap} {a C dx : Addr} {fs fs' : List (Str × V)}
end
structure Cls (K : PySem.W.Frag) (C : Addr) : Prop where
  pg : PySem.W.plainGet K C Str.empty = true
  hd : PySem.W.hasDictIn K C = true
  po : PySem.W.plainOver K C = true
  sa : PySem.W.findIn K (.ref C) "__setattr__" = some (some (.builtin "object.__setattr__"))
theorem Cls.get {K : PySem.W.Frag} {C : Addr} (c : Cls K C) (f : Str) : PySem.W.plainGet K C f = true := c.pg
section
variable {X : Cx} {pins : List (Addr × Obj)} {σ : St} {H : Hp} {s : Shared} {a C dx : Addr} {fs : List (Str × V)} {f : Str} {v : V} {A : Around} {E : Value → Shared → Prop}
end
section
variable {X : Cx} {o e value : Expr} {f : Str} {pos pos' tpos : Pos} {ta tv : TE}
end
section
variable {X : Cx} {pins : List (Addr × Obj)} {σ : St} {H : Hp} {s : Shared} {A : Around} {E : Value → Shared → Prop} {Q : Value → Shared → Prop} {c : Value} {b : Bool}
end
end L2
namespace L2
open PySem PySem.Spec PyProof.Rows
structure Room (k : Nat) (A : Around) : Prop where
  hd : A.handled = none
  dp : A.depth + 3 * k + 5 < recursionLimit
  un : A.units + 16 * k + 200 < cLine
theorem Room.mono {j k : Nat} {A : Around} (r : Room k A) (h : j ≤ k) : Room j A := ⟨r.hd, by have := r.dp; omega, by have := r.un; omega⟩
theorem Room.deeper {k : Nat} {A : Around} (r : Room (k + 1) A) (env : Env) : Room k (A.deeper env) :=
  ⟨r.hd, by have := r.dp; show A.depth + 1 + 3 * k + 5 < _; omega, by have := r.un; show A.units + 3 + 16 * k + 200 < _; omega⟩
theorem Room.in1 {k : Nat} {A : Around} (r : Room (k + 1) A) : Room k A.in1 :=
  ⟨r.hd, by have := r.dp; show A.depth + 3 * k + 5 < _; omega, by have := r.un; show A.units + 1 + 16 * k + 200 < _; omega⟩
theorem Room.depth {k : Nat} {A : Around} (r : Room k A) : A.depth < recursionLimit := by have := r.dp; omega
theorem Room.units {k : Nat} {A : Around} (r : Room k A) : A.units + 64 < cLine := by have := r.un; omega
noncomputable def tNil : TA := fun _ H Q => Q [] H
noncomputable def tCons (ta : TE) (tr : TA) : TA := fun σ H Q => ta σ H fun x H1 => tr σ H1 fun xs H2 => Q (x :: xs) H2
section
variable {X : Cx} {e : Expr} {es : List Expr} {te : TE} {t : TA} {pos : Pos}
theorem pnl : PA X [] tNil := fun _ _ _ _ H Q I h => Calls.spliced_nil ⟨[], H, I, .nil, h⟩
theorem pcn (ha : PE X e te) (hr : PA X es t) (hs : starEach (e :: es) X.env = (false, eval e X.env) :: starEach es X.env := by rfl) : PA X (e :: es) (tCons te t) := by
  intro pos pins s σ H Q I h
  rw [hs]
  show wpAny _ _ (spliced ((false, eval e X.env) :: backTo pos (starEach es X.env))) _ _ s
  refine Calls.spliced_cons (thn (ha pins s σ H _ I h) fun u s1 ⟨x, H1, I1, r1, q1⟩ => ?_)
  exact thn (hr pos pins s1 σ H1 _ I1 q1) fun us s2 ⟨xs, H2, I2, r2, q2⟩ => ⟨x :: xs, H2, I2, .cons r1 r2, q2⟩
noncomputable def tTup (t : TA) : TE := fun σ H Q => t σ H fun xs H1 => xs.length ≤ sizeLine ∧ ∀ p, H1 p = none → Q (.ref p) (upd H1 p (.tup xs))
noncomputable def tLst (t : TA) : TE := fun σ H Q => t σ H fun xs H1 => xs.length ≤ sizeLine ∧ ∀ p, H1 p = none → Q (.ref p) (upd H1 p (.lst xs))
theorem pe_tup {x1} (h : PA X es t) : PE X (.Tuple es x1 pos) (tTup t) := by
  intro pins s σ H Q I hq
  refine wpAny_Tuple_spliced (thn (h pos pins s σ H _ I hq) fun us s1 ⟨xs, H1, I1, r, z, q⟩ => ⟨by rw [← r.length]; exact z, ?_⟩)
  have hf : H1 s1.heap.objs.size = none := I1.hok.fresh (Nat.le_refl _)
  refine ⟨.ref s1.heap.objs.size, upd H1 s1.heap.objs.size (.tup xs), I1.laid (t' := s1.toks) (fun b u e => Heap.get?_push_of_some _ e) (Nat.le_refl _) ?_, rfl, q _ hf⟩
  exact ⟨z, us, r, ⟨_, Heap.get?_push_size _ rfl, rfl, _, rfl⟩⟩
theorem pe_lst (h : PA X es t) : PE X (.List es pos) (tLst t) := by
  intro pins s σ H Q I hq
  refine wpAny_List_spliced (thn (h pos pins s σ H _ I hq) fun us s1 ⟨xs, H1, I1, r, z, q⟩ => ⟨by rw [← r.length]; exact z, ?_⟩)
  have hf : H1 s1.heap.objs.size = none := I1.hok.fresh (Nat.le_refl _)
  refine ⟨.ref s1.heap.objs.size, upd H1 s1.heap.objs.size (.lst xs), I1.laid (t' := s1.toks) (fun b u e => Heap.get?_push_of_some _ e) (Nat.le_refl _) ?_, rfl, q _ hf⟩
  exact ⟨z, us, 0, r, Heap.get?_push_size _ rfl⟩
end
abbrev Sp := List V → Hp → VK → XK → Prop
abbrev CXT := List Env → Hp → Shared → XK → Value → Shared → Prop
structure Env0 (P : Program) (w : World) (K : PySem.W.Frag) (mg : Str → Option Value) (base : Heap) (A : Around) (outer : List Env) (s : Shared) (H : Hp) : Prop where
  frames : A.frames = some outer
  mod : Mod K mg base
  bs : ∀ b o, base.get? b = some o → s.heap.get? b = some o ∧ H b = none
  bsz : base.objs.size ≤ s.heap.objs.size
  funs : s.heap.FunFrames base outer
  frf : ∀ b ∈ frs outer, H b = none
  hok : HOk P w H s.heap
  bare : AllBare s.gens
noncomputable def CE (outer : List Env) (P : Program) (w : World) (H : Hp) (s : Shared) (Q : VK) (u : Value) (s' : Shared) : Prop :=
  ∃ v H', s'.os = s.os ∧ AllBare s'.gens ∧ Un (frs outer) [] H H' s.heap s'.heap ∧ HOk P w H' s'.heap ∧ RelV v u ∧ Q v H'
noncomputable def CR (CX : CXT) (outer : List Env) (P : Program) (w : World) (H : Hp) (s : Shared) (Q : VK) (E : XK) (r : Result) (s' : Shared) : Prop :=
  match r with
  | .ok (.ret u) => CE outer P w H s Q u s'
  | .ok _ => False
  | .error e => CX outer H s E e s'
structure FnOk (P : Program) (w : World) (K : PySem.W.Frag) (mg : Str → Option Value) (base : Heap) (CX : CXT) (k : Nat) (f : Addr) (fd : FuncData) (ps : List Str) (sp : Sp) : Prop where
  len : ∀ vs H Q E, sp vs H Q E → vs.length = ps.length
  run : ∀ (A : Around) (outer : List Env) (s : Shared) (H : Hp) (args : Args) (us : List Value) (vs : List V) (Q : VK) (E : XK), Room k A → Env0 P w K mg base A outer s H → BindsTo s fd args (ps.zip us) → Vals vs us → sp vs H Q E →
    codeAny (model P w) A (.call (.ref f) args) (CR CX outer P w H s Q E) s
theorem FnOk.mono {P : Program} {w : World} {K : PySem.W.Frag} {mg : Str → Option Value} {base : Heap} {CX : CXT} {j k : Nat} {f : Addr} {fd : FuncData} {ps : List Str} {sp : Sp} (F : FnOk P w K mg base CX j f fd ps sp) (h : j ≤ k) :
    FnOk P w K mg base CX k f fd ps sp := ⟨F.len, fun A outer s H args us vs Q E hr => F.run A outer s H args us vs Q E (hr.mono h)⟩
theorem FnOk.imp {P : Program} {w : World} {K : PySem.W.Frag} {mg : Str → Option Value} {base : Heap} {CX : CXT} {k : Nat} {f : Addr} {fd : FuncData} {ps : List Str} {sp sp' : Sp} (F : FnOk P w K mg base CX k f fd ps sp)
    (h : ∀ vs H Q E, sp' vs H Q E → sp vs H Q E) : FnOk P w K mg base CX k f fd ps sp' :=
  ⟨fun vs H Q E q => F.len vs H Q E (h _ _ _ _ q), fun A outer s H args us vs Q E hr he hb hv hs => F.run A outer s H args us vs Q E hr he hb hv (h _ _ _ _ hs)⟩
theorem Env0.in1 {P : Program} {w : World} {K : PySem.W.Frag} {mg : Str → Option Value} {base : Heap} {A : Around} {outer : List Env} {s : Shared} {H : Hp} (e : Env0 P w K mg base A outer s H) :
    Env0 P w K mg base A.in1 outer s H := ⟨e.frames, e.mod, e.bs, e.bsz, e.funs, e.frf, e.hok, e.bare⟩
section
variable {X : Cx} {pins : List (Addr × Obj)} {σ : St} {H : Hp} {s s' : Shared}
theorem Inv.env0 (I : Inv X pins σ H s) : Env0 X.prog X.w X.K X.mg X.base X.A X.stack s H :=
  ⟨I.ok.frames, I.ok.mod, I.bs, Nat.le_trans I.ok.bsz I.sz, I.stack, I.stkFree, I.hok, I.bare⟩
theorem Inv.after {Q : VK} {u : Value} (I : Inv X pins σ H s) (h : CE X.stack X.prog X.w H s Q u s') : EP X pins σ Q u s' := by
  obtain ⟨v, H', os, bare, un, hok, r, q⟩ := h
  obtain ⟨hh, g, d, t, os'⟩ := s'
  obtain rfl : os' = s.os := os
  exact ⟨v, H', I.call (h' := hh) (g' := g) (d' := d) (t' := t) (ch := []) un hok bare (fun b z => absurd z (by simp)), r, q⟩
end
noncomputable def tCall (sp : Sp) (dvs : List V) (E : XK) (t : TA) : TE := fun σ H Q => t σ H fun vs H1 => sp (vs ++ dvs) H1 Q E
noncomputable def Binds (K : PySem.W.Frag) (fd : FuncData) (ps : List Str) (ds : List Value) : Prop :=
  ∀ (s : Shared) (us : List Value), K.In s.heap → (us ++ ds).length = ps.length → BindsTo s fd ⟨us, []⟩ (ps.zip (us ++ ds))
theorem Binds.all {K : PySem.W.Frag} {fd : FuncData} {ps : List Str} (h : ∀ us : List Value, us.length = ps.length → bindArgs fd ⟨us, []⟩ = pure (ps.zip us)) : Binds K fd ps [] := fun s us _ hl => by
  rw [List.append_nil] at hl ⊢
  exact .of_eq (h us hl)
noncomputable def Passes (CX : CXT) (X : Cx) (E : XK) : Prop := ∀ (pins : List (Addr × Obj)) (σ : St) (H : Hp) (s : Shared) (e : Value) (s' : Shared), Inv X pins σ H s → CX X.stack H s E e s' → X.xe e s'
section
variable {X : Cx} {CX : CXT} {k : Nat} {f C : Addr} {fd : FuncData} {ps : List Str} {sp : Sp} {dvs : List V} {ds : List Value} {E : XK} {x m : Str} {p pos apos : Pos} {e o : Expr} {es : List Expr} {ta : TE} {t : TA}
theorem run_fn {pins : List (Addr × Obj)} {σ : St} {H : Hp} {s : Shared} {Q : VK} {us : List Value} {vs : List V} (F : FnOk X.prog X.w X.K X.mg X.base CX k f fd ps sp) (hr : Room k X.A) (hb : Binds X.K fd ps ds) (hd : Vals dvs ds) (hx : Passes CX X E)
    (I : Inv X pins σ H s) (r : Vals vs us) (h : sp (vs ++ dvs) H Q E) : wpAny (model X.prog X.w) X.A (call (.ref f) us) (EP X pins σ Q) X.xe s := by
  have r2 : Vals (vs ++ dvs) (us ++ ds) := r.append hd
  have hl : (us ++ ds).length = ps.length := by rw [← r2.length]; exact F.len _ _ _ _ h
  refine wpAny_call (codeAny_mono (F.run X.A X.stack s H ⟨us, []⟩ (us ++ ds) (vs ++ dvs) Q E hr I.env0 (hb s us I.kIn hl) r2 h) fun r s' hq => ?_)
  cases r with
  | error e => exact hx pins σ H s e s' I hq
  | ok fl =>
    cases fl with
    | ret u => exact I.after hq
    | next => exact False.elim hq
    | brk => exact False.elim hq
    | cont => exact False.elim hq
theorem pe_call (F : FnOk X.prog X.w X.K X.mg X.base CX k f fd ps sp) (hr : Room k X.A) (hg : Gl X x) (hm : X.mg x = some (.ref f)) (hk : PySem.W.keepIn X.K (.ref f) = true) (hb : Binds X.K fd ps ds) (hd : Vals dvs ds) (hx : Passes CX X E)
    (ha : PA X (e :: es) t) (hdb : (x == ("__debug__" : Str)) = false := by decide) (he : starEach (e :: es) X.env = (false, eval e X.env) :: starEach es X.env := by rfl) (hpl : (backTo pos (starEach es X.env)).any (·.1) = false := by rfl) :
    PE X (.Call (.Name x p) (e :: es) [] pos) (tCall sp dvs E t) := by
  intro pins s σ H Q I h
  refine wpAny_Call_Name_kw (ld_glob I hg hm ?_ hdb)
  refine PySem.W.callWith_K (h₀ := X.base) I.ok.mod.kin hk (thn (ha pos pins s σ H _ I h) fun us s1 ⟨vs, H1, I1, r, q⟩ => ⟨I1.kIn, ?_⟩) he hpl
  exact run_fn F hr hb hd hx I1 r q
end
section
variable {X : Cx} {CX : CXT} {k : Nat} {f C : Addr} {fd : FuncData} {ps ks : List Str} {sp : Sp} {E : XK} {x m : Str} {p pos apos kpos : Pos} {e o : Expr} {es : List Expr} {kws : List Keyword} {te ta : TE} {t tk : TA} {nm : Option Str}
variable {g : List Value → List Value → List Value} {gV : List V → List V → List V}
end
structure FnScope (N P : List Str) (sc : Scope) : Prop where
  kind : sc.kind = .function
  co : sc.isCoroutine = false
  gen : sc.isGenerator = false
  nd : N.Nodup
  pre : N.take P.length = P
  par : ∀ x ∈ P, sc.names.lookup x = some .local ∨ sc.names.lookup x = some .cell
  nofree : ∀ y ∈ sc.names, y.2 ≠ .free
theorem bindL_out {kindOf : Str → Option NameKind} {x : Str} : ∀ {binds : List (Str × Value)} {m : Str → Option Value}, (∀ v, (x, v) ∉ binds) → bindL kindOf binds m x = m x
  | [], _, _ => rfl
  | (n, v) :: r, m, h => by
    unfold bindL
    rw [bindL_out fun w hw => h w (List.mem_cons_of_mem _ hw)]
    split
    · have : x ≠ n := by rintro rfl; exact h v List.mem_cons_self
      simp [this]
    · rfl
theorem bindC_out {kindOf : Str → Option NameKind} {x : Str} : ∀ {binds : List (Str × Value)} {m : Str → Option Value}, (∀ v, (x, v) ∉ binds) → bindC kindOf binds m x = m x
  | [], _, _ => rfl
  | (n, v) :: r, m, h => by
    unfold bindC
    rw [bindC_out fun w hw => h w (List.mem_cons_of_mem _ hw)]
    split
    · rfl
    · have : x ≠ n := by rintro rfl; exact h v List.mem_cons_self
      simp [this]
theorem bindL_get {kindOf : Str → Option NameKind} {x : Str} {v : Value} : ∀ {P : List Str} {vs : List Value} {i : Nat} {m : Str → Option Value}, P.Nodup → P[i]? = some x → vs[i]? = some v → kindOf x = some .local →
    bindL kindOf (P.zip vs) m x = some v
  | [], _, _, _, _, h, _, _ => by simp at h
  | _ :: _, [], _, _, _, _, h, _ => by simp at h
  | p :: P, w :: vs, 0, m, nd, h1, h2, hk => by
    simp at h1 h2; subst h1; subst h2
    show bindL kindOf ((p, w) :: P.zip vs) m p = _
    unfold bindL
    rw [bindL_out fun v hv => (List.nodup_cons.mp nd).1 (List.of_mem_zip hv).1, if_pos hk]
    simp
  | p :: P, w :: vs, i + 1, m, nd, h1, h2, hk => by
    show bindL kindOf ((p, w) :: P.zip vs) m x = _
    unfold bindL
    exact bindL_get (i := i) (List.nodup_cons.mp nd).2 (by simpa using h1) (by simpa using h2) hk
theorem bindC_get {kindOf : Str → Option NameKind} {x : Str} {v : Value} : ∀ {P : List Str} {vs : List Value} {i : Nat} {m : Str → Option Value}, P.Nodup → P[i]? = some x → vs[i]? = some v → kindOf x ≠ some .local →
    bindC kindOf (P.zip vs) m x = some v
  | [], _, _, _, _, h, _, _ => by simp at h
  | _ :: _, [], _, _, _, _, h, _ => by simp at h
  | p :: P, w :: vs, 0, m, nd, h1, h2, hk => by
    simp at h1 h2; subst h1; subst h2
    show bindC kindOf ((p, w) :: P.zip vs) m p = _
    unfold bindC
    rw [bindC_out fun v hv => (List.nodup_cons.mp nd).1 (List.of_mem_zip hv).1, if_neg hk]
    simp
  | p :: P, w :: vs, i + 1, m, nd, h1, h2, hk => by
    show bindC kindOf ((p, w) :: P.zip vs) m x = _
    unfold bindC
    exact bindC_get (i := i) (List.nodup_cons.mp nd).2 (by simpa using h1) (by simpa using h2) hk
noncomputable def start (N : List Str) (vs : List V) : St := vs.map some ++ List.replicate (N.length - vs.length) none
noncomputable def cxOf (CX : CXT) (P : Program) (w : World) (K : PySem.W.Frag) (mg : Str → Option Value) (base : Heap) (N : List Str) (qual : Str) (scope : Scope) (f : Addr) (cd : Value) (A : Around) (outer : List Env) (s : Shared) (H : Hp) (E : XK) : Cx where
  prog := P
  w := w
  K := K
  mg := mg
  base := base
  A := A.deeper (envOfC qual scope s.heap.objs.size f cd)
  N := N
  s₀ := s
  H₀ := H
  env := envOfC qual scope s.heap.objs.size f cd
  outer := outer
  stack := envOfC qual scope s.heap.objs.size f cd :: outer
  ex := []
  calm := true
  fn := fun _ => true
  pn := []
  xe := fun e s' => wpAny (model P w) (A.deeper (envOfC qual scope s.heap.objs.size f cd)) (leaving (envOfC qual scope s.heap.objs.size f cd) e) (fun _ s'' => CX outer H s E e s'') (fun e' s'' => CX outer H s E e' s'') s'
theorem cell_has {sc : Scope} {n : Nat} {x : Str} (h : sc.names.lookup x = some .cell) : ∃ c, (cellsFrom n sc.names []).lookup x = some c := by
  have q := PySem.W.cellsFrom_some sc.names n [] (.inl h)
  exact Option.isSome_iff_exists.mp q
theorem inv_start {CX : CXT} {P : Program} {w : World} {K : PySem.W.Frag} {mg : Str → Option Value} {base : Heap} {N ps : List Str} {qual : Str} {scope : Scope} {f : Addr} {cd : Value} {A : Around} {outer : List Env} {s s1 : Shared} {H : Hp} {E : XK} {us : List Value} {vs : List V}
    (S : FnScope N ps scope) (hd : A.handled = none) (e0 : Env0 P w K mg base A outer s H) (hl : vs.length = ps.length) (r : Vals vs us)
    (x : InCallC s s.heap.objs.size (bindL (envOfC qual scope s.heap.objs.size f cd).kindOf (ps.zip us) fun _ => none) (cellsFrom (s.heap.objs.size + 1) scope.names []) (bindC (envOfC qual scope s.heap.objs.size f cd).kindOf (ps.zip us) fun _ => none) s1) :
    Inv (cxOf CX P w K mg base N qual scope f cd A outer s H E) [] (start N vs) H s1 := by
  have hpl : ps.length ≤ N.length := by have := congrArg List.length S.pre; rw [List.length_take] at this; omega
  obtain ⟨h1, tk, rfl, hk⟩ := x.done
  have noA : ∀ b : Addr, b ∉ (cxOf CX P w K mg base N qual scope f cd A outer s H E).ex := fun b z => absurd (show b ∈ ([] : List Addr) from z) (by simp)
  refine ⟨⟨e0.mod, S.kind, rfl, rfl, Nat.le_refl _, fun y z c h1 h2 => ?_, fun y hy => ?_, fun y c _ h => ?_, fun _ => hd, Around.frames_deeper e0.frames, .inr ⟨rfl, rfl⟩, fun b z => absurd z (noA b), e0.bs, e0.bsz, fun b _ _ => noA b, fun b z => absurd z (noA b), e0.funs, e0.frf⟩,
    rfl, e0.bare, Un.kept hk, ⟨_, x.toInCall.ns, fun i y v h1 h2 h3 => ?_⟩, fun y c h => ⟨_, x.cell y c h⟩, e0.hok.fresh (Nat.le_refl _), fun y c h => ?_, fun p hp => absurd (show p ∈ ([] : List (Addr × Obj)) from hp) (by simp), e0.hok.kept hk, ?_⟩
  · exact name_of_addr x.apart (PySem.mem_of_lookup h1) (PySem.mem_of_lookup h2)
  · have hy : scope.names.lookup y = some .cell ∨ scope.names.lookup y = some .free := hy
    rcases hy with hy | hy
    · exact cell_has hy
    · exact absurd rfl (S.nofree _ (PySem.mem_of_lookup hy))
  · exact Nat.le_of_lt (x.above y c (PySem.mem_of_lookup h))
  · have hi : i < vs.length := by
      unfold start at h2
      by_cases hi : i < vs.length
      · exact hi
      · rw [List.getElem?_append_right (by simpa using hi)] at h2
        rw [List.getElem?_replicate] at h2
        split at h2 <;> cases h2
    have ha : vs[i]? = some v := by
      unfold start at h2
      rw [List.getElem?_append_left (by simpa using hi), List.getElem?_map] at h2
      cases e : vs[i]? with
      | none => rw [e] at h2; cases h2
      | some a => rw [e] at h2; cases h2; rfl
    obtain ⟨u, hu, rv⟩ := r.get ha
    have hp : ps[i]? = some y := by
      rw [← S.pre, List.getElem?_take_of_lt (by omega)]; exact h1
    have ndP : ps.Nodup := by rw [← S.pre]; exact S.nd.sublist (List.take_sublist _ _)
    refine ⟨u, rv, ?_⟩
    rcases S.par y (List.mem_of_getElem? hp) with k | k
    · exact .inl ⟨k, bindL_get ndP hp hu k⟩
    · obtain ⟨c, e⟩ := cell_has (n := s.heap.objs.size + 1) k
      refine .inr ⟨.inl k, c, e, ?_⟩
      have q := x.cell y c e
      rw [bindC_get ndP hp hu (by show scope.names.lookup y ≠ _; rw [k]; decide)] at q
      exact q
  · exact e0.hok.fresh (Nat.le_of_lt (x.above y c (PySem.mem_of_lookup h)))
  · unfold start
    show _ = N.length
    rw [List.length_append, List.length_map, List.length_replicate]
    omega
theorem fn_of {CX : CXT} {P : Program} {w : World} {K : PySem.W.Frag} {mg : Str → Option Value} {base : Heap} {k : Nat} {f : Addr} {name qual : Str} {params : Arguments} {body : List Stmt} {scope : Scope} {dV kV doc pm cdv ct oc : Value} {an od : Option Addr}
    {osl : Array (Option Value)} {N ps : List Str} {sp : Sp} (lk : K.lookup f = some ⟨oc, od, .func (PySem.W.fnOf name qual params body scope dV kV doc pm an cdv ct), osl⟩) (hcd : PySem.W.codeIn K cdv qual = true) (S : FnScope N ps scope)
    (len : ∀ vs H Q E, sp vs H Q E → vs.length = ps.length)
    (hbody : ∀ (A : Around) (outer : List Env) (s : Shared) (H : Hp) (vs : List V) (Q : VK) (E : XK), Room k (A.deeper (envOfC qual scope s.heap.objs.size f cdv)) → sp vs H Q E →
      ∃ t, PSs (cxOf CX P w K mg base N qual scope f cdv A outer s H E) body t ∧ t { nx := fun _ H' => Q .non H', rt := Q } (start N vs) H) :
    FnOk P w K mg base CX (k + 1) f (PySem.W.fnOf name qual params body scope dV kV doc pm an cdv ct) ps sp := by
  refine ⟨len, fun A outer s H args us vs Q E hr e0 hb r hsp => ?_⟩
  have hl := len _ _ _ _ hsp
  have KX : K.In s.heap := e0.mod.kin.keeps fun b o e => (e0.bs b o e).1
  have lim : s.heap.NoLimit := e0.mod.nolimit.keeps fun b o e => (e0.bs b o e).1
  have hkind : ∀ y ∈ ps.zip us, scope.names.lookup y.1 = some .local ∨ (scope.names.lookup y.1 = some .cell ∧ ((cellsFrom (s.heap.objs.size + 1) scope.names []).lookup y.1).isSome = true) := fun ⟨n, v⟩ hy => by
    rcases S.par n (List.of_mem_zip hy).1 with q | q
    · exact .inl q
    · exact .inr ⟨q, PySem.W.cellsFrom_some _ _ _ (.inl q)⟩
  refine codeAny_call_function hr.depth (KX _ _ lk) rfl S.co S.gen rfl (PySem.W.codeRec_of KX hcd) (hb _ _ _ _ ?_)
  refine wpAny_newFunctionEnv_cells S.kind hkind fun env he s1 x => ?_
  subst he
  refine ⟨lim.keeps x.toInCall.keep, codeAny_func ?_⟩
  obtain ⟨t, ht, hq⟩ := hbody A outer s H vs Q E (hr.deeper _) hsp
  have I : Inv (cxOf CX P w K mg base N qual scope f cdv A outer s H E) [] (start N vs) H s1 := inv_start S hr.hd e0 hl r x
  refine wpAny_mono (ht [] s1 (start N vs) H _ I hq) (fun fl s' hs => ?_) fun e s' hs => hs
  have fin : ∀ {σ' : St} {H' : Hp} {v : V} {u : Value}, Inv (cxOf CX P w K mg base N qual scope f cdv A outer s H E) [] σ' H' s' → RelV v u → Q v H' → CE outer P w H s Q u s' :=
    fun {σ' H' v u} J rv q => ⟨v, H', J.os, J.bare, J.base, J.hok, rv, q⟩
  cases fl with
  | ret u =>
    obtain ⟨v, σ', H', J, rv, q⟩ := hs
    exact fin J rv q
  | next =>
    obtain ⟨σ', H', J, q⟩ := hs
    exact fin (v := V.non) (u := Value.none) J rfl q
  | brk =>
    obtain ⟨_, _, _, q⟩ := hs
    exact False.elim q
  | cont =>
    obtain ⟨_, _, _, q⟩ := hs
    exact False.elim q
end L2
namespace L2
open PySem PySem.Spec PyProof.Rows
section
variable {X : Cx} {x : Str} {p pos : Pos} {e : Expr} {es : List Expr} {t : TA} {id T : String} {r : List V → Hp → VK → Prop}
noncomputable def tCB (r : List V → Hp → VK → Prop) (t : TA) : TE := fun σ H Q => t σ H fun vs H1 => r vs H1 Q
theorem pe_callB (hc : CallR X (.builtin id) r) (hg : Gl X x) (hm : X.mg x = none) (hv : bootBuiltins x = some (.builtin id)) (ha : PA X (e :: es) t) (hn : x ≠ "__name__" := by decide) (hdb : (x == ("__debug__" : Str)) = false := by decide)
    (he : starEach (e :: es) X.env = (false, eval e X.env) :: starEach es X.env := by rfl) (hpl : (backTo pos (starEach es X.env)).any (·.1) = false := by rfl) : PE X (.Call (.Name x p) (e :: es) [] pos) (tCB r t) := by
  intro pins s σ H Q I h
  refine wpAny_Call_Name_kw (ld_blt I hg hm hv ?_ hn hdb)
  exact PyProof.Rows.callWith_builtin1 (thn (ha pos pins s σ H _ I h) fun us s1 ⟨vs, H1, I1, r1, q1⟩ => hc pins s1 σ H1 vs us Q I1 r1 q1) he hpl
theorem pe_callTy (hc : CallR X (.type T) r) (hg : Gl X x) (hm : X.mg x = none) (hv : bootBuiltins x = some (.type T)) (ha : PA X (e :: es) t) (hn : x ≠ "__name__" := by decide) (hdb : (x == ("__debug__" : Str)) = false := by decide)
    (he : starEach (e :: es) X.env = (false, eval e X.env) :: starEach es X.env := by rfl) (hpl : (backTo pos (starEach es X.env)).any (·.1) = false := by rfl) : PE X (.Call (.Name x p) (e :: es) [] pos) (tCB r t) := by
  intro pins s σ H Q I h
  refine wpAny_Call_Name_kw (ld_blt I hg hm hv ?_ hn hdb)
  exact PyProof.Rows.callWith_type1 (thn (ha pos pins s σ H _ I h) fun us s1 ⟨vs, H1, I1, r1, q1⟩ => hc pins s1 σ H1 vs us Q I1 r1 q1) he hpl
end
end L2
namespace HT
open PySem PyProof.Rows
section
open PySem.SeqAt
open PySem.AutoSeq1 (wpAny_loadPart')
open PySem.MeetsSeq PySem.MeetsSeq2 PySem.MeetsSeq3
end
section
variable {prog : Program} {w : World} {A : Around} {E : Value → Shared → Prop} {s : Shared}
theorem cat_tup {t b : Addr} {vs ws : List Value} {Q : Value → Shared → Prop} (ht : IsTup s.heap t vs.toArray) (hb : IsTup s.heap b ws.toArray) (hv : vs ≠ [])
    (h1 : ws = [] → Q (.ref t) s) (h2 : ws ≠ [] → Q (.ref s.heap.objs.size) { s with heap := s.heap.push { cls := .type "tuple", data := .seq (vs ++ ws).toArray } })
    (hsz : vs.length + ws.length ≤ sizeLine) : wpAny (model prog w) A (binaryOp .Add (.ref t) (.ref b)) Q E s := by
  obtain ⟨⟨cls, dd, data, sl⟩, ho, hc, n, hd⟩ := id ht
  obtain ⟨⟨cls2, dd2, data2, sl2⟩, ho2, hc2, n2, hd2⟩ := id hb
  simp only at hc hd hc2 hd2
  subst hc hd hc2 hd2
  have e : vs.toArray ++ ws.toArray = (vs ++ ws).toArray := by simp
  by_cases hw : ws = []
  · exact concat_meets ⟨_, ho, rfl⟩ ⟨_, ho2, rfl⟩ noFill_tuple_add seq_tuple_add PySem.F.slot_tuple_add PySem.F.entry_tuple_add (PySem.F.args_tuple_add_2 _ _)
      (tuple_addW1 t b vs.toArray ws.toArray n n2 dd dd2 sl sl2 (by simpa using hv) (by simp [hw])) ⟨ho, ho2, h1 hw⟩
  · refine concat_meets ⟨_, ho, rfl⟩ ⟨_, ho2, rfl⟩ noFill_tuple_add seq_tuple_add PySem.F.slot_tuple_add PySem.F.entry_tuple_add (PySem.F.args_tuple_add_2 _ _)
      (tuple_addW2 t b vs.toArray ws.toArray n n2 dd dd2 sl sl2 (by simpa using hv) (by simpa using hw) (by rw [List.size_toArray, List.size_toArray]; exact hsz)) ⟨ho, ho2, ?_⟩
    rw [e]
    exact h2 hw
noncomputable def sIx (n d : Nat) : Option Int → Nat
  | none => d
  | some v => if v < 0 then (v + (n : Int)).toNat else min v.toNat n
theorem sIx_nat (n d k : Nat) : sIx n d (some (k : Int)) = min k n := by
  show (if (k : Int) < 0 then ((k : Int) + (n : Int)).toNat else min (k : Int).toNat n) = min k n
  rw [if_neg (by omega), Int.toNat_natCast]
theorem sIx_le (n d : Nat) (hd : d ≤ n) (o : Option Int) : sIx n d o ≤ n := by
  cases o with
  | none => exact hd
  | some v =>
    show (if v < 0 then (v + (n : Int)).toNat else min v.toNat n) ≤ n
    by_cases hv : v < 0
    · rw [if_pos hv]; omega
    · rw [if_neg hv]; exact Nat.min_le_right _ _
theorem clip_eq (v : Int) (n d : Nat) : (if v < 0 then max (v + (n : Int)) 0 else min v (n : Int)) = ((sIx n d (some v) : Nat) : Int) := by
  show (if v < 0 then max (v + (n : Int)) 0 else min v (n : Int)) = (((if v < 0 then (v + (n : Int)).toNat else min v.toNat n) : Nat) : Int)
  by_cases hv : v < 0
  · simp only [if_pos hv]; omega
  · simp only [if_neg hv]; omega
theorem adjust_gen (lo hi : Option Int) (n : Nat) : Builtin.Slice.sliceAdjust lo hi 1 (n : Int) = (((sIx n 0 lo : Nat) : Int), ((sIx n n hi : Nat) : Int)) := by
  have h1 : ¬ ((1 : Int) < 0) := by omega
  unfold Builtin.Slice.sliceAdjust
  simp only [h1, if_false]
  refine Prod.ext ?_ ?_
  · cases lo with
    | none => rfl
    | some v => exact clip_eq v n 0
  · cases hi with
    | none => rfl
    | some v => exact clip_eq v n n
theorem places_gen (i j : Nat) : Builtin.Slice.slicePlaces (i : Int) (j : Int) 1 = j - i := by
  unfold Builtin.Slice.slicePlaces
  have h1 : (1 : Int) > 0 := by omega
  simp only [h1, if_true, Int.ediv_one]
  split <;> omega
theorem slicePart_ {v : Value} {o : Option Int} {Q : Option Int → Shared → Prop} (p : IsPart v o) (h : Q o s) : wpAny (model prog w) A (Builtin.Slice.slicePartIndex v) Q E s := by
  cases p with
  | none => exact slicePart_none h
  | int i t => exact slicePart_int h
theorem sliceApplied_gen {sl : Addr} {vl vu : Value} {lo hi : Option Int} {n : Nat} {Q : Int × Int × Nat → Shared → Prop} (hs : s.heap.IsSliceOf sl vl vu .none) (pl : IsPart vl lo) (pu : IsPart vu hi)
    (h : Q (((sIx n 0 lo : Nat) : Int), 1, sIx n n hi - sIx n 0 lo) s) : wpAny (model prog w) A (Builtin.Slice.sliceApplied (.ref sl) (pure (n : Int))) Q E s := by
  obtain ⟨os, hos, hcs, hds⟩ := id hs
  unfold Builtin.Slice.sliceApplied Builtin.Slice.sliceFields
  refine wpAny_bind (wpAny_bind (wpAny_field hos hds (x := vl) rfl (wpAny_bind (wpAny_field hos hds (x := vu) rfl (wpAny_bind (wpAny_field hos hds (x := .none) rfl (wpAny_pure ?_)))))))
  refine wpAny_bind (slicePart_none ?_)
  show wpAny _ _ (if ((1 : Int) == 0) = true then _ else _) _ _ s
  rw [if_neg (by decide)]
  refine wpAny_bind (slicePart_ pl (wpAny_bind (slicePart_ pu (wpAny_bind (wpAny_pure ?_)))))
  show wpAny _ _ (match Builtin.Slice.sliceAdjust lo hi 1 (n : Int) with | (lo, hi) => pure (lo, (1 : Int), Builtin.Slice.slicePlaces lo hi 1)) _ _ s
  rw [adjust_gen lo hi n]
  show wpAny _ _ (pure (((sIx n 0 lo : Nat) : Int), (1 : Int), Builtin.Slice.slicePlaces ((sIx n 0 lo : Nat) : Int) ((sIx n n hi : Nat) : Int) 1)) _ _ s
  rw [places_gen]
  exact wpAny_pure h
theorem pick_gen (xs : Array Value) (i k : Nat) : ((List.range k).filterMap fun (m : Nat) => xs[((i : Int) + (m : Int) * 1).toNat]?).toArray = ((xs.toList.drop i).take k).toArray := by
  have e : (fun (m : Nat) => xs[((i : Int) + (m : Int) * 1).toNat]?) = fun m => xs[i + m]? := by
    funext m
    have : ((i : Int) + (m : Int) * 1).toNat = i + m := by omega
    rw [this]
  rw [e]
  have := pick_run xs i k
  rw [List.filterMap_map] at this
  have e2 : ((fun x => xs[x]?) ∘ fun x => i + x) = fun m => xs[i + m]? := rfl
  rw [e2] at this
  rw [this]
theorem getItem_tuple_cut {t sl : Addr} {items : Array Value} {vl vu : Value} {lo hi : Option Int} {Q : Value → Shared → Prop} (ht : IsTup s.heap t items) (hs : s.heap.IsSliceOf sl vl vu .none) (pl : IsPart vl lo) (pu : IsPart vu hi)
    (hw : ¬ (sIx items.size 0 lo = 0 ∧ sIx items.size items.size hi = items.size))
    (h : Q (.ref s.heap.objs.size) { s with heap := s.heap.push { cls := .type "tuple", data := .seq ((items.toList.drop (sIx items.size 0 lo)).take (sIx items.size items.size hi - sIx items.size 0 lo)).toArray } })
    (hsz : items.size ≤ sizeLine) : wpAny (model prog w) A (getItem (.ref t) (.ref sl)) Q E s := by
  have htake : sizeOk (.seq ((items.toList.drop (sIx items.size 0 lo)).take (sIx items.size items.size hi - sIx items.size 0 lo)).toArray) := by
    show ((items.toList.drop (sIx items.size 0 lo)).take (sIx items.size items.size hi - sIx items.size 0 lo)).toArray.size ≤ sizeLine
    rw [List.size_toArray, List.length_take, List.length_drop, Array.length_toList]
    omega
  have hj : sIx items.size items.size hi ≤ items.size := sIx_le _ _ (Nat.le_refl _) hi
  obtain ⟨os, hos, hcs, hds⟩ := id hs
  have hTs : s.TypeIs (.ref sl) "slice" := ⟨os, hos, hcs⟩
  unfold getItem
  try with_reducible refine wpAny_holding ?_
  first | refine wpAny_bind (wpAny_pure ?_) | skip
  refine wpAny_bind (wpAny_sequenceKey ht.typeIs (by decide) ?_)
  refine wpAny_bind (wpAny_callSpecial?_slot (name := Str.ofString "__getitem__") ht.typeIs PyProof.Rows.slot_tuple_getitem
    (wpAny_call_entry PyProof.Rows.slot_tuple_getitem ht.typeIs entry_tuple_getitem ?_ (args_tuple_getitem _ _)))
  show wpAny _ _ (Builtin.Tuple.tupleItemsOf (.ref t) >>= _) _ _ s
  refine wpAny_bind (tupleItemsOf_ ht ?_)
  refine wpAny_bind (wpAny_typeOf hTs ?_)
  rw [if_pos (by decide)]
  refine wpAny_bind (sliceApplied_gen hs pl pu ?_)
  have hno : ¬ ((((sIx items.size 0 lo : Nat) : Int) == 0 && (1 : Int) == 1 && (sIx items.size items.size hi - sIx items.size 0 lo) == items.size) = true) := by
    intro q
    rw [Bool.and_eq_true, Bool.and_eq_true] at q
    have q1 : ((sIx items.size 0 lo : Nat) : Int) = 0 := eq_of_beq q.1.1
    have q2 : sIx items.size items.size hi - sIx items.size 0 lo = items.size := eq_of_beq q.2
    exact hw ⟨by omega, by omega⟩
  show wpAny _ _ (if (((sIx items.size 0 lo : Nat) : Int) == 0 && (1 : Int) == 1 && (sIx items.size items.size hi - sIx items.size 0 lo) == items.size) = true then _ else _) _ _ s
  rw [if_neg hno, pick_gen]
  first
    | exact wpAny_bind (m := Builtin.Tuple.tupleExact _) (wpAny_newObj_type (wpAny_pure ⟨_, rfl, wpAny_pure h⟩) htake)
    | exact wpAny_bind (m := Builtin.Tuple.tupleExact _) (wpAny_newObj_type (wpAny_bind (wpAny_pure (wpAny_pure ⟨_, rfl, wpAny_pure h⟩))) htake)
    | exact wpAny_bind (wpAny_bind (m := Builtin.Tuple.tupleExact _) (wpAny_newObj_type (wpAny_pure (wpAny_pure ⟨_, rfl, wpAny_pure h⟩)) htake))
    | exact wpAny_bind (wpAny_bind (m := Builtin.Tuple.tupleExact _) (wpAny_newObj_type (wpAny_pure ⟨_, rfl, wpAny_pure h⟩) htake))
end
end HT
namespace L2
open PySem PySem.Spec PyProof.Rows
abbrev TO := St → Hp → (Option Int → Hp → Prop) → Prop
noncomputable def PO (X : Cx) (e : Option Expr) (t : TO) : Prop :=
  ∀ (pins : List (Addr × Obj)) (s : Shared) (σ : St) (H : Hp) (Q : Option Int → Hp → Prop), Inv X pins σ H s → t σ H Q →
    wpAny (model X.prog X.w) X.A (evalPart e X.env) (fun u s' => ∃ o H', Inv X pins σ H' s' ∧ IsPart u o ∧ Q o H') X.xe s
noncomputable def tNoPart : TO := fun _ H Q => Q none H
noncomputable def tPart (t : TE) : TO := fun σ H Q => t σ H fun x H1 => ∃ i, x = .int i ∧ Q (some i) H1
section
variable {X : Cx} {e : Expr} {te : TE} {lo hi : Option Expr} {tl th : TO} {pos p2 : Pos}
theorem po_none : PO X none tNoPart := by
  intro pins s σ H Q I h
  rw [evalPart_none]
  exact wpAny_pure ⟨none, H, I, .none, h⟩
theorem po_some (h : PE X e te) : PO X (some e) (tPart te) := by
  intro pins s σ H Q I hw
  rw [evalPart_some]
  refine thn (h pins s σ H _ I hw) fun u s1 ⟨x, H1, I1, r1, q1⟩ => ?_
  obtain ⟨i, rfl, q⟩ := q1
  obtain ⟨t, rfl⟩ := r1
  exact ⟨some i, H1, I1, .int i t, q⟩
noncomputable def SlR (X : Cx) (r : V → Option Int → Option Int → Hp → VK → Prop) : Prop :=
  ∀ (pins : List (Addr × Obj)) (s : Shared) (σ : St) (H : Hp) (x : V) (v vl vu : Value) (lo hi : Option Int) (sl : Addr) (Q : VK), Inv X pins σ H s → RelV x v → s.heap.IsSliceOf sl vl vu .none → IsPart vl lo → IsPart vu hi → r x lo hi H Q →
    ∃ T id, typeLookup (.type T) "__getitem__" = pure (some (.builtin id)) ∧ s.TypeIs v T ∧ wpAny (model X.prog X.w) X.A (getItem v (.ref sl)) (EP X pins σ Q) X.xe s
noncomputable def tSl (r : V → Option Int → Option Int → Hp → VK → Prop) (te : TE) (tl th : TO) : TE := fun σ H Q => te σ H fun x H1 => tl σ H1 fun l H2 => th σ H2 fun u H3 => r x l u H3 Q
theorem pe_slice {r : V → Option Int → Option Int → Hp → VK → Prop} (hr : SlR X r) (he : PE X e te) (hl : PO X lo tl) (hu : PO X hi th) : PE X (.Subscript e (.Slice lo hi none p2) pos) (tSl r te tl th) := by
  intro pins s σ H Q I h
  refine Subscript_ (thn (he pins s σ H _ I h) fun v s1 ⟨x, H1, I1, r1, q1⟩ => ?_)
  refine wpAny_Slice (thn (hl pins s1 σ H1 _ I1 q1) fun vl s2 ⟨l, H2, I2, pl, q2⟩ => thn (hu pins s2 σ H2 _ I2 q2) fun vu s3 ⟨u, H3, I3, pu, q3⟩ => ?_)
  rw [evalPart_none]
  refine wpAny_pure ?_
  have I4 : Inv X pins σ H3 { s3 with heap := s3.heap.push { cls := .type "slice", data := .fields #[vl, vu, .none] } } := I3.kept (t' := s3.toks) fun b ob q => Heap.get?_push_of_some _ q
  obtain ⟨T, id, hT, ht, hg⟩ := hr pins { s3 with heap := s3.heap.push { cls := .type "slice", data := .fields #[vl, vu, .none] } } σ H3 x v vl vu l u s3.heap.objs.size Q I4 r1 (Heap.IsSliceOf.new ..) pl pu q3
  show wpAny (model X.prog X.w) X.A (subscriptTail e (.Slice lo hi none p2) v (.ref s3.heap.objs.size)) (EP X pins σ Q) X.xe { s3 with heap := s3.heap.push { cls := .type "slice", data := .fields #[vl, vu, .none] } }
  exact tail_any (ops := [.ref s3.heap.objs.size, v]) ht hT hg (by with_unfolding_all rfl)
noncomputable def cutV (xs : List V) (lo hi : Option Int) : List V := (xs.drop (HT.sIx xs.length 0 lo)).take (HT.sIx xs.length xs.length hi - HT.sIx xs.length 0 lo)
theorem cutV_length (xs : List V) (lo hi : Option Int) : (cutV xs lo hi).length ≤ xs.length := by
  unfold cutV
  rw [List.length_take, List.length_drop]
  omega
noncomputable def rSlT (K : PySem.W.Frag) : V → Option Int → Option Int → Hp → VK → Prop := fun x lo hi H Q => ∃ a xs, x = .ref a ∧ SqT K H a xs ∧
  ¬ (HT.sIx xs.length 0 lo = 0 ∧ HT.sIx xs.length xs.length hi = xs.length) ∧ ∀ p, H p = none → Q (.ref p) (upd H p (.tup (cutV xs lo hi)))
theorem sl_tup : SlR X (rSlT X.K) := by
  intro pins s σ H x v vl vu lo hi sl Q I rx hs pl pu h
  obtain ⟨a, xs, rfl, hx, hw, q⟩ := h
  cases rx
  obtain ⟨its, r, ht, hz⟩ := I.tuple hx
  have hlen : its.toArray.size = xs.length := by rw [List.size_toArray]; exact r.length.symm
  refine ⟨"tuple", _, PyProof.Rows.slot_tuple_getitem.lookup, ht.typeIs, ?_⟩
  refine HT.getItem_tuple_cut ht hs pl pu (by rw [hlen]; exact hw) ?_ (by rw [hlen]; exact hz)
  rw [hlen]
  refine ⟨.ref s.heap.objs.size, _, I.laid (t' := s.toks) (o := .tup (cutV xs lo hi)) (fun b ob q => Heap.get?_push_of_some _ q) (Nat.le_refl _) ?_, rfl, q _ (I.hok.fresh (Nat.le_refl _))⟩
  exact ⟨Nat.le_trans (cutV_length xs lo hi) hz, _, (r.drop (HT.sIx xs.length 0 lo)).take (HT.sIx xs.length xs.length hi - HT.sIx xs.length 0 lo), IsTup.new _ _⟩
noncomputable def rCatT (K : PySem.W.Frag) : R2 := fun x y H Q => ∃ a b xs ys, x = .ref a ∧ y = .ref b ∧ SqT K H a xs ∧ SqT K H b ys ∧ xs ≠ [] ∧ xs.length + ys.length ≤ sizeLine ∧
  (ys = [] → Q (.ref a) H) ∧ (ys ≠ [] → ∀ p, H p = none → Q (.ref p) (upd H p (.tup (xs ++ ys))))
theorem Vals.nil_iff {xs : List V} {us : List Value} (r : Vals xs us) : us = [] ↔ xs = [] := by
  cases r with
  | nil => simp
  | cons _ _ => simp
theorem op_catT : OpR X (binaryOp .Add) (rCatT X.K) := by
  intro pins s σ H x y v u Q I rx ry h
  obtain ⟨a, b, xs, ys, rfl, rfl, ha, hb, hx, hz, q1, q2⟩ := h
  cases rx
  cases ry
  obtain ⟨its, r1, p1, _⟩ := I.tuple ha
  obtain ⟨its2, r2, p2, _⟩ := I.tuple hb
  refine HT.cat_tup p1 p2 (fun z => hx (r1.nil_iff.mp z)) (fun z => ⟨.ref a, H, I, rfl, q1 (r2.nil_iff.mp z)⟩) (fun z => ?_) (by rw [← r1.length, ← r2.length]; exact hz)
  refine ⟨.ref s.heap.objs.size, _, I.laid (t' := s.toks) (o := .tup (xs ++ ys)) (fun b ob q => Heap.get?_push_of_some _ q) (Nat.le_refl _) ?_, rfl, q2 (fun w => z (r2.nil_iff.mpr w)) _ (I.hok.fresh (Nat.le_refl _))⟩
  exact ⟨by rw [List.length_append]; exact hz, _, r1.append r2, IsTup.new _ _⟩
end
end L2
namespace L2
open PySem PySem.Spec PyProof.Rows
noncomputable def ixN (n : Nat) (i : Int) : Option Nat := if 0 ≤ i then (if i < n then some i.toNat else none) else if -(n : Int) ≤ i then some (i + n).toNat else none
noncomputable def atI {α : Type} (xs : List α) (i : Int) : Option α := (ixN xs.length i).bind fun j => xs[j]?
theorem ixN_seq {n : Nat} {i : Int} {j : Nat} (h : ixN n i = some j) : seqIndex? i n = some j ∧ j < n ∧ -(n : Int) ≤ i ∧ i < n := by
  unfold ixN at h
  by_cases h0 : 0 ≤ i
  · rw [if_pos h0] at h
    by_cases h1 : i < n
    · rw [if_pos h1] at h
      have e : i.toNat = j := Option.some.inj h
      exact ⟨by rw [seqIndex_of h0 h1, e], by omega, by omega, h1⟩
    · rw [if_neg h1] at h; cases h
  · rw [if_neg h0] at h
    by_cases h1 : -(n : Int) ≤ i
    · rw [if_pos h1] at h
      have e : (i + n).toNat = j := Option.some.inj h
      exact ⟨by rw [seqIndex_neg (by omega) h1, e], by omega, h1, by omega⟩
    · rw [if_neg h1] at h; cases h
theorem atI_get {α : Type} {xs : List α} {i : Int} {v : α} (h : atI xs i = some v) : ∃ j, seqIndex? i xs.length = some j ∧ xs[j]? = some v ∧ j < xs.length ∧ -(xs.length : Int) ≤ i ∧ i < xs.length := by
  unfold atI at h
  cases e : ixN xs.length i with
  | none => rw [e] at h; cases h
  | some j =>
    rw [e] at h
    obtain ⟨h1, h2, h3, h4⟩ := ixN_seq e
    exact ⟨j, h1, h, h2, h3, h4⟩
theorem atI_nat {α : Type} {xs : List α} {j : Nat} {v : α} (h : xs[j]? = some v) : atI xs (j : Int) = some v := by
  have hj : j < xs.length := (List.getElem?_eq_some_iff.mp h).1
  have e : ixN xs.length (j : Int) = some j := by
    unfold ixN
    rw [if_pos (by omega), if_pos (by omega)]; simp
  unfold atI; rw [e]; exact h
theorem atI_last {α : Type} (xs : List α) (v : α) : atI (xs ++ [v]) (-1) = some v := by
  have hl : (xs ++ [v]).length = xs.length + 1 := by simp
  have e : ixN (xs ++ [v]).length (-1) = some xs.length := by
    unfold ixN
    rw [hl, if_neg (by decide), if_pos (by omega)]
    congr 1
    omega
  unfold atI
  rw [e]
  show (xs ++ [v])[xs.length]? = some v
  simp
noncomputable def PlainIx (b : Expr) : Prop := ∀ o i, subscripted b false o i = operate [o, i] (getItem o i)
noncomputable def IxR (X : Cx) (r : R2) : Prop :=
  ∀ (value slice : Expr) (pins : List (Addr × Obj)) (s : Shared) (σ : St) (H : Hp) (x y : V) (v u : Value) (Q : VK), Inv X pins σ H s → RelV x v → RelV y u → r x y H Q →
    subscripted slice false v u = operate [v, u] (getItem v u) → wpAny (model X.prog X.w) X.A (subscriptTail value slice v u) (EP X pins σ Q) X.xe s
noncomputable def MtR (X : Cx) (id : String) (r : V → List V → Hp → VK → Prop) : Prop :=
  ∀ (pins : List (Addr × Obj)) (s : Shared) (σ : St) (H : Hp) (x : V) (xs : List V) (v : Value) (us : List Value) (Q : VK), Inv X pins σ H s → RelV x v → Vals xs us → r x xs H Q →
    wpAny (model X.prog X.w) X.A (call (.builtin id) (v :: us)) (EP X pins σ Q) X.xe s
section
variable {X : Cx} {a b : Expr} {ta tb : TE} {pos : Pos}
theorem pe_ix {r : R2} (hr : IxR X r) (ha : PE X a ta) (hb : PE X b tb) (hs : PlainIx b) : PE X (.Subscript a b pos) (tOp r ta tb) := by
  intro pins s σ H Q I h
  exact Subscript_ (binT ha hb I h fun v u s2 x y H2 I2 rx ry q => hr a b pins s2 σ H2 x y v u Q I2 rx ry q (hs _ _))
noncomputable def rIxL (K : PySem.W.Frag) : R2 := fun x y H Q => ∃ p xs i v, x = .ref p ∧ y = .int i ∧ SqL K H p xs ∧ atI xs i = some v ∧ Q v H
noncomputable def rIxT (K : PySem.W.Frag) : R2 := fun x y H Q => ∃ p xs i v, x = .ref p ∧ y = .int i ∧ SqT K H p xs ∧ atI xs i = some v ∧ Q v H
noncomputable def rIxS : R2 := fun x y H Q => ∃ z i c, x = .str z ∧ y = .int i ∧ z.length ≤ sizeLine ∧ atI z.cps.toList i = some c ∧ Q (.str ⟨#[c]⟩) H
theorem ixl : IxR X (rIxL X.K) := by
  intro value slice pins s σ H x y v u Q I rx ry h hs
  obtain ⟨p, xs, i, z, rfl, rfl, hq, he, q⟩ := h
  cases rx
  obtain ⟨t, rfl⟩ := ry
  obtain ⟨its, r, pl, hz⟩ := I.list hq
  obtain ⟨j, h1, h2, h3, h4, h5⟩ := atI_get he
  obtain ⟨w, ew, rw'⟩ := r.get h2
  have hl := r.length
  have hn := line63
  have fin : EP X pins σ Q w s := ⟨z, H, I, rw', q⟩
  by_cases h0 : 0 ≤ i
  · have hj : i.toNat = j := by
      rw [seqIndex_of h0 h5] at h1
      exact Option.some.inj h1
    exact item_listR pl.isList h0 (by omega) (by rw [hj]; simpa using ew) fin hs
  · have hj : (i + (its.toArray.size : Int)).toNat = j := by
      rw [seqIndex_neg (by omega) h4] at h1
      rw [List.size_toArray, ← hl]
      exact Option.some.inj h1
    exact subscriptTail_builtinR (x := w) pl.isList.typeIs slot_list_getitem.lookup
      (wpAny_getItem_list_neg (Q := fun r s' => r = w ∧ EP X pins σ Q r s') pl.isList (by omega) (by rw [List.size_toArray] <;> omega) (by omega) (by rw [hj]; simpa using ew) ⟨rfl, fin⟩) hs
theorem ixt : IxR X (rIxT X.K) := by
  intro value slice pins s σ H x y v u Q I rx ry h hs
  obtain ⟨p, xs, i, z, rfl, rfl, hq, he, q⟩ := h
  cases rx
  obtain ⟨t, rfl⟩ := ry
  obtain ⟨its, r, pl, hz⟩ := I.tuple hq
  obtain ⟨j, h1, h2, h3, h4, h5⟩ := atI_get he
  obtain ⟨w, ew, rw'⟩ := r.get h2
  have hl := r.length
  have hn := line63
  have fin : EP X pins σ Q w s := ⟨z, H, I, rw', q⟩
  exact subscriptTail_builtinR (x := w) pl.typeIs slot_tuple_getitem.lookup
    (getItem_tuple (j := j) (Q := fun r s' => r = w ∧ EP X pins σ Q r s') pl (by omega) (by omega) (by rw [List.size_toArray, ← hl]; exact h1) (by simpa using ew) ⟨rfl, fin⟩) hs
theorem ix_str : IxR X rIxS := by
  intro value slice pins s σ H x y v u Q I rx ry h hs
  obtain ⟨z, i, c, rfl, rfl, hz, he, q⟩ := h
  obtain ⟨t, rfl⟩ := rx
  obtain ⟨t', rfl⟩ := ry
  obtain ⟨j, h1, h2, h3, h4, h5⟩ := atI_get he
  have hl : z.cps.toList.length = z.length := by simp [Str.length]
  rw [hl] at h1 h4 h5
  have hn := line63
  exact tail_any (typeIs_str s z t) slot_str_getitem.lookup (getItem_str (c := c) (by
    have e1 : decide (i < -(2 ^ 63 : Int)) = false := decide_eq_false (by omega)
    have e2 : decide (i ≥ 2 ^ 63) = false := decide_eq_false (by omega)
    rw [e1, e2, Bool.or_false]) (by rw [h1]; simpa using h2) ⟨.str ⟨#[c]⟩, H, I.tok _, ⟨_, rfl⟩, q⟩) hs
theorem Inv.lst {pins : List (Addr × Obj)} {σ : St} {H : Hp} {s : Shared} {p : Addr} {xs : List V} (I : Inv X pins σ H s) (h : H p = some (.lst xs)) :
    ∃ (its : List Value) (n : Nat), Vals xs its ∧ s.heap.get? p = some { cls := .type "list", data := .seq its.toArray n } ∧ xs.length ≤ sizeLine := by
  obtain ⟨z, its, n, r, e⟩ := I.hok p _ h
  exact ⟨its, n, r, e, z⟩
theorem slice_bounds (lo hi : Option Int) (n : Nat) : (sliceBounds lo hi none n).1 = ((HT.sIx n 0 lo : Nat) : Int) ∧ (sliceBounds lo hi none n).2.1 = ((HT.sIx n n hi : Nat) : Int) ∧ (sliceBounds lo hi none n).2.2 = 1 := by
  refine ⟨?_, ?_, rfl⟩
  · cases lo with
    | none => simp [sliceBounds, HT.sIx]
    | some i =>
      simp only [sliceBounds, HT.sIx, Option.getD_none, show (1 : Int) > 0 by decide, if_true]
      by_cases h : i < 0
      · simp only [h, if_true] <;> omega
      · simp only [h, if_false] <;> omega
  · cases hi with
    | none => simp [sliceBounds, HT.sIx]
    | some i =>
      simp only [sliceBounds, HT.sIx, Option.getD_none, show (1 : Int) > 0 by decide, if_true]
      by_cases h : i < 0
      · simp only [h, if_true] <;> omega
      · simp only [h, if_false] <;> omega
theorem slicePick_cut (its : List Value) (lo hi : Option Int) : slicePick its.toArray lo hi none = ((its.drop (HT.sIx its.length 0 lo)).take (HT.sIx its.length its.length hi - HT.sIx its.length 0 lo)).toArray := by
  obtain ⟨h1, h2, h3⟩ := slice_bounds lo hi its.toArray.size
  unfold slicePick
  rw [h1, h2, h3]
  simp only [sliceRange_one, pick_run, List.size_toArray] <;> rfl
noncomputable def rSlL (K : PySem.W.Frag) : V → Option Int → Option Int → Hp → VK → Prop := fun x lo hi H Q => ∃ a xs, x = .ref a ∧ SqL K H a xs ∧ ∀ p, H p = none → Q (.ref p) (upd H p (.lst (cutV xs lo hi)))
theorem sl_list : SlR X (rSlL X.K) := by
  intro pins s σ H x v vl vu lo hi sl Q I rx hs pl pu h
  obtain ⟨a, xs, rfl, hx, q⟩ := h
  cases rx
  obtain ⟨its, r, ht, hz⟩ := I.list hx
  have hlen := r.length
  refine ⟨"list", _, slot_list_getitem.lookup, ht.isList.typeIs, ?_⟩
  refine wpAny_getItem_list_slice ht.isList hs pl pu .none (by simp) ?_ (by rw [List.size_toArray] <;> omega)
  rw [slicePick_cut, ← hlen]
  refine ⟨.ref s.heap.objs.size, _, I.laid (t' := s.toks) (o := .lst (cutV xs lo hi)) (fun b ob q => Heap.get?_push_of_some _ q) (Nat.le_refl _) ?_, rfl, q _ (I.hok.fresh (Nat.le_refl _))⟩
  exact ⟨Nat.le_trans (cutV_length xs lo hi) hz, _, 0, (r.drop (HT.sIx xs.length 0 lo)).take (HT.sIx xs.length xs.length hi - HT.sIx xs.length 0 lo), Heap.get?_push_size _ rfl⟩
noncomputable def flatV : V → Bool
  | .non => true
  | .bl _ => true
  | .int _ => true
  | .str _ => true
  | _ => false
noncomputable def eqV : V → V → Bool
  | .non, .non => true
  | .bl a, .bl b => a == b
  | .bl a, .int b => (if a then 1 else 0) == b
  | .int a, .bl b => a == (if b then 1 else 0)
  | .int a, .int b => a == b
  | .str a, .str b => a == b
  | _, _ => false
theorem eqAt_V {A : Around} {s : Shared} {y x : V} {u v : Value} (ry : RelV y u) (rx : RelV x v) (fy : flatV y = true) (fx : flatV x = true) : SeqAt.EqAt A s u v (eqV y x) := by
  cases y with
  | non =>
    cases ry
    cases x with
    | non => cases rx; exact SeqAt.EqAt.same _
    | bl b => cases rx; exact SeqAt.EqAt.none_bool b
    | int b => obtain ⟨t, rfl⟩ := rx; exact SeqAt.EqAt.none_int b t
    | str b => obtain ⟨t, rfl⟩ := rx; exact SeqAt.EqAt.none_str b t
    | _ => exact absurd (show false = true from fx) Bool.false_ne_true
  | bl a =>
    cases ry
    cases x with
    | non => cases rx; exact SeqAt.EqAt.bool_none a
    | bl b => cases rx; exact SeqAt.EqAt.bool_bool a b
    | int b => obtain ⟨t, rfl⟩ := rx; exact SeqAt.EqAt.bool_int a b t
    | str b => obtain ⟨t, rfl⟩ := rx; exact SeqAt.EqAt.bool_str a b t
    | _ => exact absurd (show false = true from fx) Bool.false_ne_true
  | int a =>
    obtain ⟨t', rfl⟩ := ry
    cases x with
    | non => cases rx; exact SeqAt.EqAt.int_none a t'
    | bl b => cases rx; exact SeqAt.EqAt.int_bool a t' b
    | int b => obtain ⟨t, rfl⟩ := rx; exact SeqAt.EqAt.int_int a t' b t
    | str b => obtain ⟨t, rfl⟩ := rx; exact SeqAt.EqAt.int_str a t' b t
    | _ => exact absurd (show false = true from fx) Bool.false_ne_true
  | str a =>
    obtain ⟨t', rfl⟩ := ry
    cases x with
    | non => cases rx; exact SeqAt.EqAt.str_none a t'
    | bl b => cases rx; exact SeqAt.EqAt.str_bool a t' b
    | int b => obtain ⟨t, rfl⟩ := rx; exact SeqAt.EqAt.str_int a t' b t
    | str b => obtain ⟨t, rfl⟩ := rx; exact SeqAt.EqAt.str_str a t' b t
    | _ => exact absurd (show false = true from fx) Bool.false_ne_true
  | _ => exact absurd (show false = true from fy) Bool.false_ne_true
noncomputable def eqU (x : V) (u : Value) : Bool := match u with
  | .none => eqV .non x
  | .bool b => eqV (.bl b) x
  | .int i _ => eqV (.int i) x
  | .str z _ => eqV (.str z) x
  | _ => false
theorem eqU_of {x y : V} {u : Value} (r : RelV y u) (f : flatV y = true) : eqU x u = eqV y x := by
  cases y with
  | non => cases r; rfl
  | bl b => cases r; rfl
  | int i => obtain ⟨t, rfl⟩ := r; rfl
  | str z => obtain ⟨t, rfl⟩ := r; rfl
  | _ => exact absurd (show false = true from f) Bool.false_ne_true
theorem any_eqU {x : V} : ∀ {xs : List V} {us : List Value}, Vals xs us → xs.all flatV = true → us.any (eqU x) = xs.any fun y => eqV y x
  | _, _, .nil, _ => rfl
  | y :: xs, u :: us, .cons r t, f => by
    rw [List.all_cons, Bool.and_eq_true] at f
    rw [List.any_cons, List.any_cons, eqU_of r f.1, any_eqU t f.2]
theorem mem_eqAt {A : Around} {s : Shared} {x : V} {v : Value} (rx : RelV x v) (fx : flatV x = true) : ∀ {xs : List V} {us : List Value}, Vals xs us → xs.all flatV = true → ∀ u ∈ us, SeqAt.EqAt A s u v (eqU x u)
  | _, _, .nil, _ => fun u hu => by cases hu
  | y :: xs, u :: us, .cons r t, f => fun u' hu => by
    rw [List.all_cons, Bool.and_eq_true] at f
    rcases List.mem_cons.mp hu with rfl | hu
    · rw [eqU_of r f.1]; exact eqAt_V r rx f.1 fx
    · exact mem_eqAt rx fx t f.2 u' hu
noncomputable def inV (x : V) (xs : List V) : Bool := xs.any fun y => eqV y x
noncomputable def rIn (K : PySem.W.Frag) (neg : Bool) : R2 := fun x y H Q => ∃ p xs, y = .ref p ∧ (SqL K H p xs ∨ SqT K H p xs) ∧ flatV x = true ∧ xs.all flatV = true ∧ Q (.bl (if neg then !inV x xs else inV x xs)) H
theorem op_notIn_seq : OpR X (compareOp .NotIn) (rIn X.K true) := by
  intro pins s σ H x y v u Q I rx ry h
  obtain ⟨p, xs, rfl, hq, fx, fs, q⟩ := h
  cases ry
  rcases hq with hq | hq
  · obtain ⟨its, r, pl, hz⟩ := I.list hq
    refine SeqAt.notIn_listAt (eqU x) pl.isList (fun w hw => mem_eqAt rx fx r fs w (by simpa using hw)) ⟨.bl _, H, I, rfl, ?_⟩
    rw [show its.toArray.any (eqU x) = its.any (eqU x) by simp, any_eqU r fs]
    exact q
  · obtain ⟨its, r, pl, hz⟩ := I.tuple hq
    refine SeqAt.notIn_tupleAt (eqU x) pl (fun w hw => mem_eqAt rx fx r fs w (by simpa using hw)) ⟨.bl _, H, I, rfl, ?_⟩
    rw [show its.toArray.any (eqU x) = its.any (eqU x) by simp, any_eqU r fs]
    exact q
theorem call_len_seq : CallR X (.builtin "len") (fun xs H Q => ∃ p ys, xs = [.ref p] ∧ (SqL X.K H p ys ∨ SqT X.K H p ys) ∧ Q (.int ys.length) H) := by
  intro pins s σ H xs us Q I r h
  obtain ⟨p, ys, rfl, hq, q⟩ := h
  obtain ⟨u, rfl, rx⟩ := vals1 r
  cases rx
  have hn := line63
  rcases hq with hq | hq
  · obtain ⟨its, r', pl, hz⟩ := I.list hq
    have hlen := r'.length
    exact Calls.call_len_list pl.isList (by simp only [List.size_toArray] <;> omega) ⟨.int ys.length, H, I.tok _, ⟨s.toks + 1, by rw [List.size_toArray, hlen]⟩, q⟩
  · obtain ⟨its, r', pl, hz⟩ := I.tuple hq
    have hlen := r'.length
    exact len_tuple pl (by simp only [List.size_toArray] <;> omega) ⟨.int ys.length, H, I.tok _, ⟨s.toks + 1, by rw [List.size_toArray, hlen]⟩, q⟩
theorem call_list_of : CallR X (.type "list") (fun xs H Q => ∃ p ys, xs = [.ref p] ∧ (SqL X.K H p ys ∨ SqT X.K H p ys) ∧ ∀ l, H l = none → Q (.ref l) (upd H l (.lst ys))) := by
  intro pins s σ H xs us Q I r h
  obtain ⟨p, ys, rfl, hq, q⟩ := h
  obtain ⟨u, rfl, rx⟩ := vals1 r
  cases rx
  have fin : ∀ (its : List Value), Vals ys its → ys.length ≤ sizeLine → ∀ (h' : Heap) (c' : Nat), (∀ b o', s.heap.get? b = some o' → h'.get? b = some o') →
      h'.get? s.heap.objs.size = some { cls := .type "list", dict := none, data := .seq its.toArray c', slots := #[] } → EP X pins σ Q (.ref s.heap.objs.size) { s with heap := h' } := fun its r' hz h' c' kp e =>
    ⟨.ref s.heap.objs.size, _, I.laid (t' := s.toks) kp (Nat.le_refl _) (show ObjOk X.prog X.w _ h' _ (.lst ys) from ⟨hz, its, c', r', e⟩), rfl, q _ (I.hok.fresh (Nat.le_refl _))⟩
  rcases hq with hq | hq
  · obtain ⟨its, r', pl, hz⟩ := I.list hq
    have hlen := r'.length
    obtain ⟨o, ho, hc, n, hd⟩ := pl.isList
    exact call_list_seq p (.inl rfl) ho hc hd (fun h' c' kp e => fin its r' hz h' c' kp e) (by simp only [List.size_toArray] <;> omega)
  · obtain ⟨its, r', pl, hz⟩ := I.tuple hq
    have hlen := r'.length
    obtain ⟨o, ho, hc, n, hd⟩ := pl
    exact call_list_seq p (.inr rfl) ho hc hd (fun h' c' kp e => fin its r' hz h' c' kp e) (by simp only [List.size_toArray] <;> omega)
noncomputable def tyV (K : PySem.W.Frag) (T : String) (x : V) (H : Hp) : Prop := match x with
  | .str _ => T = "str"
  | .int _ => T = "int"
  | .ref p => (T = "list" ∧ ∃ xs, SqL K H p xs) ∨ (T = "tuple" ∧ ∃ o, K.lookup p = some o ∧ o.cls = .type "tuple" ∧ o.dict = none) ∨
      (T = "dict" ∧ ((∃ kvs, H p = some (.dK kvs)) ∨ ∃ kvs, H p = some (.dT kvs))) ∨ (T = "set" ∧ ∃ S n, H p = some (.set S n))
  | _ => False
theorem tyV_is {pins : List (Addr × Obj)} {σ : St} {H : Hp} {s : Shared} {T : String} {x : V} {v : Value} (I : Inv X pins σ H s) (r : RelV x v) (ty : tyV X.K T x H) :
    s.TypeIs v T ∧ ∀ a, v = .ref a → ∃ ob, s.heap.get? a = some ob ∧ ob.dict = none := by
  cases x with
  | str z =>
    obtain ⟨t, rfl⟩ := r
    cases (show T = "str" from ty)
    exact ⟨typeIs_str s z t, fun _ e => nomatch e⟩
  | int i =>
    obtain ⟨t, rfl⟩ := r
    cases (show T = "int" from ty)
    exact ⟨typeIs_int s i t, fun _ e => nomatch e⟩
  | ref p =>
    cases r
    rcases ty with ⟨rfl, xs, hq⟩ | ⟨rfl, o, hk, hc, hd⟩ | ⟨rfl, hk⟩ | ⟨rfl, S, n, hk⟩
    · obtain ⟨its, _, pl, _⟩ := I.list hq
      refine ⟨pl.isList.typeIs, fun a e => ?_⟩
      cases e
      obtain ⟨o, n, e, c, hd, _⟩ := pl
      exact ⟨o, e, hd⟩
    · refine ⟨⟨o, I.kIn p o hk, hc⟩, fun a e => ?_⟩
      cases e
      exact ⟨o, I.kIn _ o hk, hd⟩
    · have z : ∃ o, s.heap.get? p = some o ∧ o.ExactDict := by
        rcases hk with ⟨kvs, hk⟩ | ⟨kvs, hk⟩
        · obtain ⟨_, _, _, _, o, _, _, e, ex, _⟩ := I.hok p _ hk
          exact ⟨o, e, ex⟩
        · obtain ⟨_, _, _, _, o, _, _, e, ex, _⟩ := I.hok p _ hk
          exact ⟨o, e, ex⟩
      obtain ⟨o, e, ex⟩ := z
      refine ⟨⟨o, e, ex.1⟩, fun a e2 => ?_⟩
      cases e2
      exact ⟨o, e, ex.2.1⟩
    · obtain ⟨o, _, _, _, e, ex, _⟩ := I.hok p _ hk
      refine ⟨⟨o, e, ex.1⟩, fun a e2 => ?_⟩
      cases e2
      exact ⟨o, e, ex.2.1⟩
  | _ => exact False.elim ty
noncomputable def tBM0 (K : PySem.W.Frag) (T : String) (r : V → List V → Hp → VK → Prop) (to : TE) : TE := fun σ H Q => to σ H fun x H1 => tyV K T x H1 ∧ r x [] H1 Q
noncomputable def tBM (K : PySem.W.Frag) (T : String) (r : V → List V → Hp → VK → Prop) (to : TE) (t : TA) : TE := fun σ H Q => to σ H fun x H1 => tyV K T x H1 ∧ t σ H1 fun xs H2 => r x xs H2 Q
variable {o e : Expr} {es : List Expr} {to : TE} {t : TA} {name : Str} {apos cpos : Pos} {T id : String} {r : V → List V → Hp → VK → Prop}
theorem pe_bm0 (pa : PlainAttrs T) (slot : Slot T name id) (hty : typeOf (.builtin id) = pure (.type "method_descriptor")) (hm : MtR X id r) (ho : PE X o to)
    (hbase : attributeBase o name X.env (eval o X.env) = eval o X.env := by rfl) (hline : (apos.endLine == cpos.line) = true := by rfl) : PE X (.Call (.Attribute o name apos) [] [] cpos) (tBM0 X.K T r to) := by
  intro pins s σ H Q I h
  refine wpAny_Call_method0_late hbase hline (thn (ho pins s σ H _ I h) fun v s1 ⟨x, H1, I1, r1, ty, q1⟩ => ?_)
  obtain ⟨h1, h2⟩ := tyV_is I1 r1 ty
  exact ⟨T, id, pa, slot, hty, h1, h2, Calls.callWith_builtin rfl (PySem.evalArgs_none (hm pins s1 σ H1 x [] v [] Q I1 r1 .nil q1))⟩
theorem pe_bm (pa : PlainAttrs T) (slot : Slot T name id) (hty : typeOf (.builtin id) = pure (.type "method_descriptor")) (hm : MtR X id r) (ho : PE X o to) (ha : PA X (e :: es) t)
    (hbase : attributeBase o name X.env (eval o X.env) = eval o X.env := by rfl)
    (hfew : ((backTo cpos (starEach (e :: es) X.env)).all (fun x => !x.1) && (backToKw cpos (keywordEach [] X.env)).all (fun x => x.1.isSome)
      && decide ((e :: es).length + ([] : List Keyword).length + (if ([] : List Keyword).isEmpty then 0 else 1) < 30)) = true := by rfl)
    (hline : (apos.endLine == cpos.line) = true := by rfl) (hs : starEach (e :: es) X.env = (false, eval e X.env) :: starEach es X.env := by rfl) (hplain : (backTo cpos (starEach es X.env)).any (·.1) = false := by rfl) :
    PE X (.Call (.Attribute o name apos) (e :: es) [] cpos) (tBM X.K T r to t) := by
  intro pins s σ H Q I h
  refine wpAny_Call_method_late hbase hfew hline rfl (thn (ho pins s σ H _ I h) fun v s1 ⟨x, H1, I1, r1, ty, q1⟩ => ?_)
  obtain ⟨h1, h2⟩ := tyV_is I1 r1 ty
  refine ⟨T, id, pa, slot, hty, h1, h2, ?_⟩
  have hA := ha cpos pins s1 σ H1 _ I1 q1
  rw [hs] at hA ⊢
  refine Calls.callWith_builtin (by show (false || (backTo cpos (starEach es X.env)).any (·.1)) = false; rw [hplain] <;> rfl) (Calls.evalArgs_plain ?_)
  exact thn hA fun us s2 ⟨vs, H2, I2, r2, q2⟩ => hm pins s2 σ H2 x vs v us Q I2 r1 r2 q2
/- xs.append(e), list.index on a module's tuple .. are MtR facts of 06m -/
end
end L2
namespace L2
open PySem PySem.Spec PyProof.Rows
noncomputable def MtM (X : Cx) (id : String) (r : V → List V → Hp → VK → Prop) : Prop :=
  ∀ (pins : List (Addr × Obj)) (s : Shared) (σ : St) (H : Hp) (x : V) (xs : List V) (v : Value) (us : List Value) (Q : VK), Inv X pins σ H s → RelV x v → Vals xs us → r x xs H Q →
    wpAny (model X.prog X.w) X.A (call (.builtin id) (v :: us)) (EP X pins σ Q) X.xe s
theorem Vals.one : ∀ {x : V} {us : List Value}, Vals [x] us → ∃ u, us = [u] ∧ RelV x u
  | _, _, .cons r .nil => ⟨_, rfl, r⟩
theorem Vals.zero : ∀ {us : List Value}, Vals [] us → us = []
  | _, .nil => rfl
theorem Vals.reverse {xs : List V} {us : List Value} (h : Vals xs us) : Vals xs.reverse us.reverse := by
  induction h with
  | nil => exact .nil
  | cons r t ih => rw [List.reverse_cons, List.reverse_cons]; exact Vals.append ih (.cons r .nil)
theorem Vals.rep {xs : List V} {us : List Value} (h : Vals xs us) : ∀ k : Nat, Vals (List.replicate k xs).flatten (List.replicate k us).flatten
  | 0 => .nil
  | k + 1 => by
    rw [List.replicate_succ, List.replicate_succ, List.flatten_cons, List.flatten_cons]
    exact Vals.append h (Vals.rep h k)
theorem foldl_rep (its : List Value) : ∀ (k : Nat) (acc : List Value),
    List.foldl (fun x1 x2 => x1 ++ x2) acc.toArray (List.replicate k its.toArray) = (acc ++ (List.replicate k its).flatten).toArray
  | 0, acc => by simp
  | k + 1, acc => by
    have e : acc.toArray ++ its.toArray = (acc ++ its).toArray := by simp
    have e2 : (acc ++ its) ++ (List.replicate k its).flatten = acc ++ (List.replicate (k + 1) its).flatten := by
      rw [List.replicate_succ, List.flatten_cons, List.append_assoc]
    rw [← e2, ← foldl_rep its k (acc ++ its), ← e, List.replicate_succ, List.foldl_cons]
section
variable {X : Cx} {pins : List (Addr × Obj)} {σ : St} {H : Hp} {s : Shared} {l b : Addr} {xs ys zs : List V}
theorem Inv.lset {its its' : List Value} {n : Nat} {f : Array Value → Array Value} {t' : Nat} (I : Inv X pins σ H s) (hH : H l = some (.lst xs))
    (e : s.heap.get? l = some { cls := .type "list", data := .seq its.toArray n }) (hf : f its.toArray = its'.toArray) (hv : Vals ys its') (hz : ys.length ≤ sizeLine) :
    Inv X pins σ (upd H l (.lst ys)) { s with heap := s.heap.update l (Obj.mapSeq f), toks := t' } := by
  have q := PySem.IsL.update e f
  rw [hf] at q
  refine I.write (x := l) (e := l) (by rw [hH]; exact trivial) (.inl rfl) (fun b' u hb hu => (Heap.get?_update_other s.heap (Obj.mapSeq f) (Ne.symm hb)).trans hu) ⟨_, q⟩ ?_
  exact ⟨hz, its', _, hv, q⟩
theorem Inv.lnew {its : List Value} {t' : Nat} (I : Inv X pins σ H s) (hv : Vals ys its) (hz : ys.length ≤ sizeLine) :
    Inv X pins σ (upd H s.heap.objs.size (.lst ys)) { s with heap := s.heap.push { cls := .type "list", data := .seq its.toArray }, toks := t' } :=
  I.laid (fun _ _ q => Heap.get?_push_of_some _ q) (Nat.le_refl _) ⟨hz, its, 0, hv, Heap.get?_push_size _ rfl⟩
theorem Inv.fresh (I : Inv X pins σ H s) : H s.heap.objs.size = none := I.hok.fresh (Nat.le_refl _)
theorem Inv.lstM (I : Inv X pins σ H s) (hH : H l = some (.lst xs)) : xs.length ≤ sizeLine ∧ ∃ (its : List Value) (n : Nat), Vals xs its ∧ xs.length = its.length ∧ s.heap.get? l = some { cls := .type "list", data := .seq its.toArray n } := by
  obtain ⟨z, its, n, r, e⟩ := I.hok l _ hH
  exact ⟨z, its, n, r, r.length, e⟩
theorem notLongL {n : Nat} (h : n ≤ sizeLine) : Builtin.List.listTooLong n = false := by
  unfold Builtin.List.listTooLong
  exact decide_eq_false (by omega)
end
section
variable {X : Cx}
noncomputable def rAppend : V → List V → Hp → VK → Prop := fun x vs H Q => ∃ l xs y, x = .ref l ∧ vs = [y] ∧ H l = some (.lst xs) ∧ xs.length < sizeLine ∧ Q .non (upd H l (.lst (xs ++ [y])))
theorem mt_append : MtM X "list.append" rAppend := by
  intro pins s σ H x vs v us Q I rx rv h
  obtain ⟨l, xs, y, rfl, rfl, hH, hz, q⟩ := h
  cases rx
  obtain ⟨u, rfl, ru⟩ := rv.one
  obtain ⟨z, its, n, r, hl, e⟩ := I.lstM hH
  refine call_meets F.slot_list_append ⟨_, e, rfl⟩ F.entry_list_append (F.args_list_append_2 _ _) (PySem.list_append l its.toArray n u (by rw [List.size_toArray]; omega)) ⟨e, ?_⟩
  refine ⟨.non, _, I.lset (its' := its ++ [u]) hH e (by simp) (r.append (.cons ru .nil)) ?_, rfl, q⟩
  rw [List.length_append, List.length_singleton]
  omega
noncomputable def rClear : V → List V → Hp → VK → Prop := fun x vs H Q => ∃ l xs, x = .ref l ∧ vs = [] ∧ H l = some (.lst xs) ∧ Q .non (upd H l (.lst []))
theorem mt_clear : MtM X "list.clear" rClear := by
  intro pins s σ H x vs v us Q I rx rv h
  obtain ⟨l, xs, rfl, rfl, hH, q⟩ := h
  cases rx
  have hus := rv.zero
  subst hus
  obtain ⟨z, its, n, r, hl, e⟩ := I.lstM hH
  refine call_meets F.slot_list_clear ⟨_, e, rfl⟩ F.entry_list_clear (F.args_list_clear_1 _) (AutoSeq1.list_clear_list_0 l its.toArray n (by rw [List.size_toArray]; omega)) ⟨e, ?_⟩
  exact ⟨.non, _, I.lset (its' := []) (ys := []) hH e rfl .nil (Nat.zero_le _), rfl, q⟩
noncomputable def rRep : R2 := fun x y H Q => ∃ l k xs, x = .ref l ∧ y = .int k ∧ H l = some (.lst xs) ∧ -(2 ^ 63) ≤ k ∧ k < 2 ^ 63 ∧ xs.length * k.toNat ≤ sizeLine ∧
  ∀ p, H p = none → Q (.ref p) (upd H p (.lst (List.replicate k.toNat xs).flatten))
theorem len_rep {α : Type} (xs : List α) (k : Nat) : (List.replicate k xs).flatten.length = k * xs.length := by
  induction k with
  | zero => simp
  | succ k ih => rw [List.replicate_succ, List.flatten_cons, List.length_append, ih, Nat.succ_mul, Nat.add_comm]
theorem op_rep : OpR X (binaryOp .Mult) rRep := by
  intro pins s σ H x y v u Q I rx ry h
  obtain ⟨l, k, xs, rfl, rfl, hH, h1, h2, hz, q⟩ := h
  cases rx
  obtain ⟨t, rfl⟩ := ry
  obtain ⟨z, its, n, r, hl, e⟩ := I.lstM hH
  have hlen : its.toArray.size * k.toNat ≤ sizeLine := by rw [List.size_toArray, ← hl]; exact hz
  have hcap : ¬ its.toArray.size * k.toNat > (2 ^ 63 - 1) / 8 := by
    have : (sizeLine : Nat) ≤ (2 ^ 63 - 1) / 8 := by decide
    omega
  have hfit : ¬ (!Builtin.List.listFitsIndex k) = true := by
    rw [fitsIndex_both h1 h2]
    exact Bool.false_ne_true
  have hlong : ¬ Builtin.List.listTooLong (its.toArray.size * k.toNat) = true := by
    rw [notLongL hlen]
    exact Bool.false_ne_true
  have hnew : List.foldl (fun x1 x2 => x1 ++ x2) #[] (List.replicate (if its.toArray.isEmpty = true then 0 else k.toNat) its.toArray) = (List.replicate k.toNat its).flatten.toArray := by
    have f0 : ∀ m : Nat, List.foldl (fun x1 x2 => x1 ++ x2) #[] (List.replicate m its.toArray) = (List.replicate m its).flatten.toArray := fun m => by
      have := foldl_rep its m []
      rw [List.nil_append] at this
      exact this
    rw [f0]
    cases its with
    | nil => simp
    | cons a r' => rw [if_neg (by simp)]
  refine wpAny_binaryOp_repeat_ref (T := "list") (U := "int") (by decide) ⟨_, e, rfl⟩ (fun s' => typeIs_int s' k t) noFill_list_mul F.fills_int_mul F.slot_int_rmul repeat_list F.slot_int_index.lookup
    (call_meets F.slot_int_rmul (typeIs_int s k t) F.entry_int_rmul (F.args_int_rmul_2 _ _) (int___rmul___int_list k t l its.toArray n)
      ⟨e, rfl, ⟨_, e, rfl⟩, call_meets F.slot_list_mul ⟨_, e, rfl⟩ F.entry_list_mul (F.args_list_mul_2 _ _) (AutoListH.list___mul___list_int_3 l its.toArray n k t hfit hcap hlong) ⟨e, ?_⟩⟩)
  rw [hnew]
  exact ⟨.ref _, _, I.lnew (t' := s.toks) (r.rep k.toNat) (by rw [len_rep, Nat.mul_comm]; exact hz), rfl, q _ I.fresh⟩
end
section
variable {prog : Program} {w : World} {A : Around} {E : Value → Shared → Prop} {s : Shared}
set_option maxRecDepth 100000 in
end
section
variable {X : Cx}
end
end L2
namespace Att
open PySem PySem.W PySem.Calls PyProof.Rows
theorem ints_of_wellAll {P : Params} {h : Heap} : ∀ (ns : List Int) (vs : List Value), WellAll P h vs (ns.map WData.int) → IntsAre vs ns := by
  intro ns
  induction ns with
  | nil =>
    intro vs w
    rw [List.map_nil] at w
    cases w
    exact .nil
  | cons n ns ih =>
    intro vs w
    rw [List.map_cons] at w
    cases w with
    | cons a b =>
      cases a
      exact .cons _ _ (ih _ b)
theorem script_of {l : OpenLaw} {n : Nat} (hn : l.most = some n) {P : Params} {h : Heap} {args : List WData} {vals : List Value}
    (hpre : l.row.toRowW.claim.pre args = true) (hwl : WellAll P h vals args) :
    ∃ a vs ns, vals = [Value.ref a] ∧ args = [WData.list (ns.map WData.int)] ∧ h.get? a = some { cls := .type "list", data := .seq vs.toArray } ∧ IntsAre vs ns ∧ ns.length ≤ n := by
  have hsh : WShape.hasAll [] args [.list .int] = true := (pre_splitW hpre).1
  have hc : l.pre.holds [] { args := args } = true := (pre_splitW hpre).2
  obtain ⟨d, r, rfl, h1, h2⟩ := hasAllW_cons hsh
  obtain rfl := hasAllW_nil h2
  obtain ⟨xs, rfl, h3⟩ := hasW_list h1
  obtain ⟨ns, rfl⟩ := items_int h3
  have hlen : ns.length ≤ n := by
    unfold OpenLaw.pre at hc
    have h4 : (WTm.not (.lt (.lit (.int (n : Int))) (.len (.arg 0)))).holds [] { args := [.list (ns.map .int)] } = true := by
      have h4 := (holds_andW hc).1
      rw [hn] at h4
      exact h4
    have h5 := condW_of h4 (w_not (w_lt w_lit (w_len_list (w_arg rfl))))
    rw [List.length_map] at h5
    refine Nat.le_of_not_lt fun q => ?_
    have q' : (n : Int) < ((ns.length : Nat) : Int) := by omega
    first
      | (rw [decide_eq_true q'] at h5; exact absurd h5 (by decide))
      | (simp at h5; omega)
  cases hwl with
  | cons w1 w2 =>
    cases w2
    cases w1 with
    | list ho hall => exact ⟨_, _, ns, rfl, rfl, ho, ints_of_wellAll ns _ hall, hlen⟩
theorem post_true (l : OpenLaw) (args : List WData) : l.row.toRowW.claim.post args (.bool true) args = true :=
  postW_of (r := l.row.toRowW) (X := (true == true))
    (show WShape.has [] (.bool true) .bool = true by first | rfl | decide | simp [WShape.has, WShape.arms, WShape.armsAll])
    (show (WTm.eq .res (.lit (.bool true))).value [] { args := args, res := some (.bool true), after := args } = some (.bool (true == true)) from w_eq_bool (w_res rfl) w_lit) rfl
theorem attach_call {l : OpenLaw} {n : Nat} {q : Program} {loose : List Str} {XP : (Str → Option Value) → Heap → Prop} {YP : World → Heap → Prop} {d : DefRec}
    (hn : l.most = some n) (hdf : d.params.defaults = [])
    (call : ∀ (w : World) (s₀ s₁ : Shared) (mg mb : Str → Option Value) (fa : Addr) (o : Obj) (pm cd doc : Value) (a : Addr) (vs : List Value) (ns : List Int),
      Ground q loose [] XP w s₀ mg mb s₁.heap → YP w s₁.heap →
      s₁.heap.get? fa = some o → o.data = .func (docDef d.name d.params d.body d.scope pm cd doc) → s₁.heap.CodeRec cd d.name → mg d.name = some (.ref fa) →
      s₁.heap.get? a = some { cls := .type "list", data := .seq vs.toArray } → IntsAre vs ns → ns.length ≤ n → s₁.gens = #[] →
      codeAny (model l.prog w) callerA (.call (.ref fa) ⟨[.ref a], []⟩) (fun r s' => r = .ok (.ret (.bool true)) ∧ OldK s₁.heap s'.heap ∧ s'.os = s₁.os ∧ AllBare s'.gens) s₁) :
    WalkO q loose XP YP l.row.toRowW d [] (fun f vs => PySem.call f vs) := by
  intro w s₀ s₁ mg mb G Y fa o pm cd doc dV kV ho hd hcd hD hmg hg args vals as hpre hlay hrd hwl hlo
  obtain rfl : dV = .none := Dflts.none hD hdf
  obtain rfl : kV = .none := Dflts.noKw hD
  obtain ⟨a, vs, ns, rfl, rfl, hobj, hints, hlen⟩ := script_of hn hpre hwl
  refine enter_call (codeAny_mono (call w s₀ s₁ mg mb fa o pm cd doc a vs ns G Y ho (fd_plain hd) hcd hmg hobj hints hlen hg) fun r s' hq => ?_)
  obtain ⟨rfl, h2, h3, h4⟩ := hq
  exact ⟨.inl ⟨.bool true, .bool true, [], rfl, fun _ => rfl, .bool true, post_true l _, fun _ => ⟨List.Pairwise.nil, fun _ hm => (nomatch hm)⟩⟩, h2, h3, h4⟩
section
variable {prog : Program} {w : World} {A : Around} {E : Value → Shared → Prop} {s : Shared} {K : Frag}
end
end Att
namespace L2
open PySem PySem.Spec PyProof.Rows
theorem vals_ints : ∀ {vs : List Value} {ns : List Int}, IntsAre vs ns → Vals (ns.map V.int) vs
  | _, _, .nil => .nil
  | _, _, .cons n t h => .cons ⟨t, rfl⟩ (vals_ints h)
noncomputable def Only (H : Hp) : Prop := ∀ b, H b = none ∨ ∃ o xs, H b = some (.frz o (.lst xs))
theorem law_call {P : Program} {w : World} {K : PySem.W.Frag} {mg mb : Str → Option Value} {CX : CXT} {k : Nat} {fa a : Addr} {fd : FuncData} {x : Str} {sp : Sp} {s₁ : Shared} {vs : List Value} {ns : List Int}
    (KX : K.In s₁.heap) (hns : s₁.heap.Ns mainGlobals mg) (hb : s₁.heap.Ns builtinsNs mb) (hbb : ∀ x : Str, x ≠ "__name__" → mb x = bootBuiltins x) (hlim : s₁.heap.NoLimit) (hg : s₁.gens = #[])
    (ha : s₁.heap.get? a = some { cls := .type "list", data := .seq vs.toArray }) (hi : IntsAre vs ns) (hl : ns.length ≤ sizeLine) (hr : Room k callerA)
    (F : ∀ base : Heap, K.In base → base.Ns mainGlobals mg → FnOk P w K mg base CX k fa fd [x] sp) (hbind : ∀ (s : Shared) (u : Value), BindsTo s fd ⟨[u], []⟩ [(x, u)])
    (hsp : ∀ H : Hp, Only H → SqL K H a (ns.map V.int) → sp [.ref a] H (fun v _ => v = .bl true) fun _ _ _ => False)
    (hCX : ∀ H e s', CX [] H s₁ (fun _ _ _ => False) e s' → False) :
    codeAny (model P w) callerA (.call (.ref fa) ⟨[.ref a], []⟩) (fun r s' => r = .ok (.ret (.bool true)) ∧ OldK s₁.heap s'.heap ∧ s'.os = s₁.os ∧ AllBare s'.gens) s₁ := by
  have rv := vals_ints hi
  have lenV := hi.length
  -- from an abstract heap in which nothing but the script may be tracked
  have core : ∀ H : Hp, Only H → SqL K H a (ns.map V.int) → HOk P w H s₁.heap → (∀ b, H b ≠ none → b = a) → (H a ≠ none → K.lookup a = none) →
      codeAny (model P w) callerA (.call (.ref fa) ⟨[.ref a], []⟩) (fun r s' => r = .ok (.ret (.bool true)) ∧ OldK s₁.heap s'.heap ∧ s'.os = s₁.os ∧ AllBare s'.gens) s₁ := by
    intro H hO hS hok hA hK
    have base_of : ∀ {b : Addr} {o : Obj}, s₁.heap.get? b = some o → H b = none → (hidT s₁.heap H).get? b = some o := fun e n => hidT_get e n
    have noA : ∀ {b : Addr} {o : Obj} {es : Array DictEntry} {ep : Nat}, s₁.heap.get? b = some o → o.data = .dict es ep → H b = none := fun {b o es ep} e d => by
      cases q : H b with
      | none => rfl
      | some u =>
        have e' : b = a := hA b (by rw [q]; simp)
        subst e'
        rw [ha] at e; cases e
        have d' : Data.seq vs.toArray _ = Data.dict es ep := d
        cases d'
    have nsK : ∀ {b : Addr} {m : Str → Option Value}, s₁.heap.Ns b m → (hidT s₁.heap H).Ns b m := fun {b m} ⟨o, es, ep, e, d, r⟩ => ⟨o, es, ep, base_of e (noA e d), d, r⟩
    have hKb : K.In (hidT s₁.heap H) := fun b o e => base_of (KX b o e) (by
      cases q : H b with
      | none => rfl
      | some u =>
        have e' : b = a := hA b (by rw [q]; simp)
        subst e'
        rw [hK (by rw [q]; simp)] at e; cases e)
    have hM : Mod K mg (hidT s₁.heap H) := ⟨hKb, nsK hns, ⟨mb, nsK hb, hbb⟩, let ⟨mc, h1, h2⟩ := hlim; ⟨mc, nsK h1, h2⟩⟩
    have e0 : Env0 P w K mg (hidT s₁.heap H) callerA [] s₁ H := ⟨rfl, hM, fun b o e => of_hidT e, Nat.le_of_eq (hidT_size _ _), trivial, fun b hb => absurd (show b ∈ ([] : List Addr) from hb) (by simp), hok, .of_eq hg⟩
    refine codeAny_mono ((F _ hKb (nsK hns)).run callerA [] s₁ H ⟨[.ref a], []⟩ [.ref a] [.ref a] _ _ hr e0 (hbind s₁ (.ref a)) (.cons rfl .nil) (hsp H hO hS)) fun r s' h => ?_
    cases r with
    | error e => exact (hCX H e s' h).elim
    | ok fl =>
      cases fl with
      | next => exact False.elim h
      | brk => exact False.elim h
      | cont => exact False.elim h
      | ret u =>
        obtain ⟨v, H', os, bare, un, hok', r', q⟩ := h
        have q' : v = .bl true := q
        subst q'
        obtain rfl : u = Value.bool true := r'
        refine ⟨rfl, OldK.of_keep fun b o e => ?_, os, bare⟩
        cases q : H b with
        | none => exact un.keep b o e q (by intro z; exact absurd (show b ∈ ([] : List Addr) from z) (by simp)) (by simp)
        | some u =>
          rcases hO b with z | ⟨ob, xs, z⟩
          · rw [q] at z; cases z
          · have z2 := un.frzs b ob _ z
            obtain ⟨e1, _⟩ := hok b _ z
            obtain ⟨e2, _⟩ := hok' b _ z2
            rw [e] at e1; cases e1
            exact e2
  cases hk : K.lookup a with
  | some o =>
    -- the script is one of the module's own objects
    have e := KX a o hk
    rw [ha] at e
    cases e
    refine core (fun _ => none) (fun _ => .inl rfl) (.inr ⟨_, vs.toArray, _, hk, rfl, rfl, rfl, by rw [List.size_toArray, lenV]; exact hl, by simpa using rv⟩) (fun b u z => by have z' : (none : Option HO) = some u := z; cases z') (fun b z => absurd rfl z) fun z => absurd rfl z
  | none =>
    refine core (fun b => if b = a then some (.frz { cls := .type "list", data := .seq vs.toArray } (.lst (ns.map V.int))) else none) (fun b => ?_) (.inl (.inr ⟨{ cls := .type "list", data := .seq vs.toArray }, if_pos rfl⟩)) (fun b u z => ?_) (fun b z => ?_) fun _ => hk
    · by_cases hb : b = a
      · exact .inr ⟨_, _, if_pos hb⟩
      · exact .inl (if_neg hb)
    · by_cases hb : b = a
      · have z' := (if_pos hb).symm.trans z
        cases z'
        subst hb
        exact ⟨ha, by rw [List.length_map]; exact hl, vs, _, rv, ha⟩
      · have z' := (if_neg hb).symm.trans z
        cases z'
    · by_cases hb : b = a
      · exact hb
      · exact absurd (if_neg hb) z
end L2
namespace L2
open PySem PySem.Spec PyProof.Rows
abbrev KOf {K : PySem.W.Frag} {h : Heap} (_ : K.In h) : PySem.W.Frag := K
theorem walk_of {l : PySem.W.OpenLaw} {n k : Nat} {q : Program} {loose : List Str} {XP : (Str → Option Value) → Heap → Prop} {YP : World → Heap → Prop} {d : DefRec} {K : Params → PySem.W.Frag} {CX : World → CXT} {sp : World → Sp} {x : Str}
    (hn : l.most = some n) (hn2 : n ≤ sizeLine) (hdf : d.params.defaults = []) (hr : Room k callerA)
    (hY : ∀ (w : World) (h : Heap), YP w h → (K w.params).In h)
    (F : ∀ (w : World) (mg : Str → Option Value) (fa : Addr) (h : Heap), (K w.params).In h → h.Ns mainGlobals mg → mg d.name = some (.ref fa) →
      ∃ fd : FuncData, (∀ (s : Shared) (u : Value), BindsTo s fd ⟨[u], []⟩ [(x, u)]) ∧
        ∀ base : Heap, (K w.params).In base → base.Ns mainGlobals mg → FnOk l.prog w (K w.params) mg base (CX w) k fa fd [x] (sp w))
    (hsp : ∀ (w : World) (H : Hp) (a : Addr) (ns : List Int), ns.length ≤ n → Only H → SqL (K w.params) H a (ns.map V.int) → sp w [.ref a] H (fun v _ => v = .bl true) fun _ _ _ => False)
    (hCX : ∀ (w : World) (H : Hp) (s : Shared) (e : Value) (s' : Shared), CX w [] H s (fun _ _ _ => False) e s' → False) :
    PySem.W.WalkO q loose XP YP l.row.toRowW d [] (fun f vs => PySem.call f vs) := by
  refine Att.attach_call hn hdf fun w s₀ s₁ mg mb fa o pm cd doc a vs ns G Y ho hd hcd hmg hobj hints hlen hg => ?_
  have KX := hY w _ Y
  obtain ⟨fd, hb, hF⟩ := F w mg fa _ KX G.T.g hmg
  exact law_call KX G.T.g G.T.b G.T.builtins G.T.nolimit hg hobj hints (Nat.le_trans hlen hn2) hr hF hb (fun H hO hS => hsp w H a ns hlen hO hS) fun H e s' => hCX w H s₁ e s'
end L2
/- THE LAST THEOREM (shape; LID, My.* are yours):
   My.Adr: a structure of the addresses that your layer names (classes, functions); My.Txt K t: a structure (Prop) of the equations over K;
   My.txt_mk : {K} {implicit addresses ..} (e1 : nsIn K mainGlobals "law" = some (some (.ref f))) (e2 : K.lookup f = some ⟨oc, od, .func (fnOf "law" "law" params body scope dV kV doc pm an cdv ct), sl⟩) (e3 : codeIn K cdv "law" = true) .. : ∃ t, My.Txt K t
set_option maxRecDepth 100000 in
set_option maxHeartbeats 0 in
theorem PySem.Challenge.cw_LID_holds : PySem.Challenge.rw_LID.Holds := by
  w_on; o_law; k_head; (case hw => w_witness2)
  k_fill
  refine L2.walk_of (l := PySem.Challenge.rw_LID) (n := 63) (k := 40) (x := "script") (CX := fun w => ..) (sp := fun _ => My.sp_law) rfl (by decide) rfl ⟨rfl, by decide, by decide⟩ (fun w h Y => PySem.W.kIn_of Y) ?F ?S ?C
  case F =>
    intro w mg fa h KX G hmg
    have T : ∃ t, My.Txt (L2.KOf KX) t := by
      dsimp only [L2.KOf]                          -- K must stand as «<heap const> w.params» for k_is
      refine' My.txt_mk ?e1 ?e2 ?e3 ..
      (case e1 => PySem.W.k_is)                    -- in the order: a name -> its address -> its object -> its parts
      (case e2 => PySem.W.k_is)
      ..
    obtain ⟨t, T⟩ := T
    have e0 := hmg.symm.trans (PySem.W.mg_of KX G T.law)
    cases e0                                       -- fa is the law's own address
    exact ⟨_, fun s u => .of_eq rfl, fun base kb nb => My.law_fn T kb nb⟩     -- if «.of_eq rfl» comes too early: refine' ⟨_, ?b, fun base kb nb => My.law_fn T kb nb⟩; exact fun s u => .of_eq rfl
  case S => exact fun w H a ns hl hO hS => ..
  case C => exact ..
(the tactic k_is has no namespace: write k_is) -/
namespace L2
open PySem PySem.Spec PyProof.Rows
noncomputable def defArgs (s : Stmt) : Arguments := match s with
  | .FunctionDef _ a _ _ _ _ _ _ _ _ => a
  | _ => { posonlyargs := [], args := [], vararg := none, kwonlyargs := [], kw_defaults := [], kwarg := none, defaults := [] }
noncomputable def defBody (s : Stmt) : List Stmt := match s with
  | .FunctionDef _ _ b _ _ _ _ _ _ _ => b
  | _ => []
noncomputable def defScope (s : Stmt) : Scope := match s with
  | .FunctionDef _ _ _ _ _ _ sc _ _ _ => sc
  | _ => { kind := .function, names := [], isGenerator := false, isCoroutine := false }
abbrev CX0 : CXT := fun _ _ _ _ _ _ => False
abbrev E0 : XK := fun _ _ _ => False
theorem pass0 {X : Cx} : Passes CX0 X E0 := fun _ _ _ _ _ _ _ h => h.elim
structure Fun (K : PySem.W.Frag) (x qual : Str) (st : Stmt) (f : Addr) (fd : FuncData) : Prop where
  ex : ∃ (oc : Value) (od : Option Addr) (kV doc pm : Value) (an : Option Addr) (cdv ct : Value) (osl : Array (Option Value)),
    fd = PySem.W.fnOf x qual (defArgs st) (defBody st) (defScope st) .none kV doc pm an cdv ct ∧ K.lookup f = some ⟨oc, od, .func fd, osl⟩ ∧ PySem.W.codeIn K cdv qual = true
  kp : PySem.W.keepIn K (.ref f) = true
section
variable {P : Program} {w : World} {K : PySem.W.Frag} {mg : Str → Option Value} {base : Heap}
theorem Fun.ok {x qual : Str} {st : Stmt} {f : Addr} {fd : FuncData} {N ps : List Str} {k : Nat} {sp : Sp} (F : Fun K x qual st f fd) (S : FnScope N ps (defScope st)) (len : ∀ vs H Q E, sp vs H Q E → vs.length = ps.length)
    (hbody : ∀ (cdv : Value) (A : Around) (outer : List Env) (s : Shared) (H : Hp) (vs : List V) (Q : VK) (E : XK), Room k (A.deeper (envOfC qual (defScope st) s.heap.objs.size f cdv)) → sp vs H Q E →
      ∃ t, PSs (cxOf CX0 P w K mg base N qual (defScope st) f cdv A outer s H E).nox (defBody st) t ∧ t { nx := fun _ H' => Q .non H', rt := Q } (start N vs) H) : FnOk P w K mg base CX0 (k + 1) f fd ps sp := by
  obtain ⟨oc, od, kV, doc, pm, an, cdv, ct, osl, rfl, lk, hcd⟩ := F.ex
  refine fn_of lk hcd S len fun A outer s H vs Q E hr hsp => ?_
  obtain ⟨t, h, q⟩ := hbody cdv A outer s H vs Q E hr hsp
  exact ⟨t, h.nox, q⟩
theorem Fun.binds {x qual : Str} {st : Stmt} {f : Addr} {fd : FuncData} {ps : List Str} (F : Fun K x qual st f fd)
    (h : ∀ (kV doc pm : Value) (an : Option Addr) (cdv ct : Value) (us : List Value), us.length = ps.length → bindArgs (PySem.W.fnOf x qual (defArgs st) (defBody st) (defScope st) .none kV doc pm an cdv ct) ⟨us, []⟩ = pure (ps.zip us)) : Binds K fd ps [] := by
  obtain ⟨oc, od, kV, doc, pm, an, cdv, ct, osl, rfl, lk, hcd⟩ := F.ex
  exact .all (h kV doc pm an cdv ct)
theorem fun_mk {x qual : Str} {st : Stmt} {f : Addr} {oc : Value} {od an : Option Addr} {osl : Array (Option Value)} {kV doc pm cdv ct : Value} (l : K.lookup f = some ⟨oc, od, .func (PySem.W.fnOf x qual (defArgs st) (defBody st) (defScope st) .none kV doc pm an cdv ct), osl⟩)
    (c : PySem.W.codeIn K cdv qual = true) (k : PySem.W.keepIn K (.ref f) = true) : Fun K x qual st f (PySem.W.fnOf x qual (defArgs st) (defBody st) (defScope st) .none kV doc pm an cdv ct) := ⟨⟨oc, od, kV, doc, pm, an, cdv, ct, osl, rfl, l, c⟩, k⟩
end
section
variable {X : Cx}
theorem pv (i : Nat) {x : Str} {pos : Pos} (hN : X.N[i]? = some x := by rfl) (hv : Vis X.env.scope x := by first | exact Or.inl rfl | exact Or.inr (Or.inl rfl) | exact Or.inr (Or.inr rfl)) (hd : (x == ("__debug__" : Str)) = false := by decide)
    (hcd : (x == ("__classdict__" : Str)) = false := by decide) : PE X (.Name x pos) (tVar i) := pe_var hN hv hd hcd
end
theorem iteF {A B : Prop} (h : B) : if false = true then A else B := by
  rw [if_neg Bool.false_ne_true]
  exact h
theorem iteT {A B : Prop} (h : A) : if true = true then A else B := by
  rw [if_pos rfl]
  exact h
theorem iteNS {c A B : Prop} [Decidable c] (hc : c) (h : B) : if (!decide c) = true then A else B := by
  rw [decide_eq_true hc]
  exact iteF h
noncomputable def Same (H H' : Hp) : Prop := ∀ b o, H b = some o → H' b = some o
theorem Same.refl (H : Hp) : Same H H := fun _ _ h => h
theorem Same.trans {H H1 H2 : Hp} (a : Same H H1) (b : Same H1 H2) : Same H H2 := fun c o h => b c o (a c o h)
theorem Same.free {H H' : Hp} (e : Same H H') {l : Addr} (h : H' l = Option.none) : H l = Option.none := by
  cases q : H l with
  | none => rfl
  | some o =>
    rw [e l o q] at h
    cases h
theorem Same.seq {K : PySem.W.Frag} {H H' : Hp} {a : Addr} {xs : List V} (e : Same H H') (h : SqL K H a xs) : SqL K H' a xs := by
  rcases h with (h | ⟨o, h⟩) | h
  · exact .inl (.inl (e _ _ h))
  · exact .inl (.inr ⟨o, e _ _ h⟩)
  · exact .inr h
end L2
set_option maxHeartbeats 4000000
namespace My
noncomputable def Bd (n : Nat) (x : Int) : Prop := x.natAbs < 2 ^ n
theorem Bd.mono {m n : Nat} {x : Int} (h : Bd m x) (hn : m ≤ n) : Bd n x := Nat.lt_of_lt_of_le h (Nat.pow_le_pow_right (by decide) hn)
theorem Bd.neg {n : Nat} {x : Int} (h : Bd n x) : Bd n (-x) := by unfold Bd at *; rw [Int.natAbs_neg]; exact h
theorem Bd.mul {m n : Nat} {x y : Int} (h : Bd m x) (g : Bd n y) : Bd (m + n) (x * y) := by
  unfold Bd at *
  rw [Int.natAbs_mul, Nat.pow_add]
  exact Nat.mul_lt_mul'' h g
theorem Bd.add {n : Nat} {x y : Int} (h : Bd n x) (g : Bd n y) : Bd (n + 1) (x + y) := by
  unfold Bd at *
  rw [Nat.pow_succ]
  have := Int.natAbs_add_le x y
  omega
theorem Bd.sub {n : Nat} {x y : Int} (h : Bd n x) (g : Bd n y) : Bd (n + 1) (x - y) := by
  rw [Int.sub_eq_add_neg]; exact h.add g.neg
theorem Bd.mod {n : Nat} {x y : Int} (hy : 0 < y) (g : Bd n y) : Bd n (x % y) := by
  unfold Bd at *
  have h1 := Int.emod_nonneg x (Int.ne_of_gt hy)
  have h2 := Int.emod_lt_of_pos x hy
  omega
theorem Bd.of_le {n : Nat} {x y : Int} (g : Bd n y) (h0 : 0 ≤ x) (h : x ≤ y) : Bd n x := by
  unfold Bd at *
  omega
theorem div_bounds (x y : Int) (hy : 0 < y) : y * (x / y) ≤ x ∧ x < y * (x / y) + y := by
  have h1 := Int.mul_ediv_add_emod x y
  have h2 := Int.emod_nonneg x (Int.ne_of_gt hy)
  have h3 := Int.emod_lt_of_pos x hy
  omega
theorem Bd.div {n : Nat} {x y : Int} (hy : 0 < y) (g : Bd n x) : Bd n (x / y) := by
  unfold Bd at *
  refine Nat.lt_of_le_of_lt ?_ g
  obtain ⟨h1, h2⟩ := div_bounds x y hy
  rcases Int.lt_or_le (x / y) 0 with h | h
  · -- q < 0: x < y q + y = y (q + 1) <= q + 1
    have h3 : y * (x / y + 1) ≤ 1 * (x / y + 1) := Int.mul_le_mul_of_nonpos_right (by omega) (by omega)
    rw [Int.mul_add, Int.mul_one, Int.one_mul] at h3
    omega
  · have h3 : 1 * (x / y) ≤ y * (x / y) := Int.mul_le_mul_of_nonneg_right (by omega) h
    rw [Int.one_mul] at h3
    omega
theorem gcd_step (a b : Int) : Int.gcd b (a % b) = Int.gcd a b := by
  apply Nat.dvd_antisymm
  · apply Int.dvd_gcd
    · have h1 : ((Int.gcd b (a % b) : Nat) : Int) ∣ b := Int.gcd_dvd_left ..
      have h2 : ((Int.gcd b (a % b) : Nat) : Int) ∣ a % b := Int.gcd_dvd_right ..
      have h3 := Int.mul_ediv_add_emod a b
      have h4 := Int.dvd_add (Int.dvd_trans h1 (Int.dvd_mul_right b (a / b))) h2
      rw [h3] at h4
      exact h4
    · exact Int.gcd_dvd_left ..
  · apply Int.dvd_gcd
    · exact Int.gcd_dvd_right ..
    · have h1 : ((Int.gcd a b : Nat) : Int) ∣ a := Int.gcd_dvd_left ..
      have h2 : ((Int.gcd a b : Nat) : Int) ∣ b := Int.gcd_dvd_right ..
      have h3 := Int.mul_ediv_add_emod a b
      have h4 : a % b = a - b * (a / b) := by omega
      rw [h4]
      exact Int.dvd_sub h1 (Int.dvd_trans h2 (Int.dvd_mul_right b (a / b)))
end My
namespace My
noncomputable def sg (t m : Int) : Int := if m < 0 then -((Int.gcd t m : Nat) : Int) else ((Int.gcd t m : Nat) : Int)
theorem sg_ne {t m : Int} (hm : m ≠ 0) : sg t m ≠ 0 := by
  have h : 0 < Int.gcd t m := Int.gcd_pos_of_ne_zero_right t hm
  unfold sg
  split <;> omega
theorem sg_dvd_left (t m : Int) : sg t m ∣ t := by
  unfold sg
  split
  · exact Int.neg_dvd.mpr (Int.gcd_dvd_left ..)
  · exact Int.gcd_dvd_left ..
theorem sg_dvd_right (t m : Int) : sg t m ∣ m := by
  unfold sg
  split
  · exact Int.neg_dvd.mpr (Int.gcd_dvd_right ..)
  · exact Int.gcd_dvd_right ..
theorem fdiv_mul {a b : Int} (hb : b ≠ 0) (h : b ∣ a) : a.fdiv b * b = a := Int.fdiv_mul_cancel h
theorem natAbs_sg (t m : Int) : (sg t m).natAbs = Int.gcd t m := by
  unfold sg
  split
  · rw [Int.natAbs_neg, Int.natAbs_natCast]
  · rw [Int.natAbs_natCast]
structure Made (t m a b : Int) : Prop where
  pos : 0 < b
  low : Int.gcd a b = 1
  same : a * m = t * b
  ba : a.natAbs ≤ t.natAbs
  bb : b.natAbs ≤ m.natAbs
theorem made_of {t m : Int} (hm : m ≠ 0) : Made t m (t.fdiv (sg t m)) (m.fdiv (sg t m)) := by
  have hs := sg_ne (t := t) hm
  have e1 := fdiv_mul hs (sg_dvd_left t m)
  have e2 := fdiv_mul hs (sg_dvd_right t m)
  have hg : 0 < Int.gcd t m := Int.gcd_pos_of_ne_zero_right t hm
  generalize ha : t.fdiv (sg t m) = a at *
  generalize hb : m.fdiv (sg t m) = b at *
  have n1 : a.natAbs * Int.gcd t m = t.natAbs := by rw [← natAbs_sg, ← Int.natAbs_mul, e1]
  have n2 : b.natAbs * Int.gcd t m = m.natAbs := by rw [← natAbs_sg, ← Int.natAbs_mul, e2]
  refine ⟨?_, ?_, ?_, ?_, ?_⟩
  · -- sign
    unfold sg at e2
    by_cases h : m < 0
    · rw [if_pos h, Int.mul_neg] at e2
      rcases Int.lt_or_le 0 b with q | q
      · exact q
      · have := Int.mul_nonpos_of_nonpos_of_nonneg q (show (0 : Int) ≤ ((Int.gcd t m : Nat) : Int) by omega)
        omega
    · rw [if_neg h] at e2
      rcases Int.lt_or_le 0 b with q | q
      · exact q
      · have := Int.mul_nonpos_of_nonpos_of_nonneg q (show (0 : Int) ≤ ((Int.gcd t m : Nat) : Int) by omega)
        omega
  · have q : Int.gcd a b * Int.gcd t m = Int.gcd t m := by
      have h := Nat.gcd_mul_right a.natAbs (Int.gcd t m) b.natAbs
      rw [n1, n2] at h
      exact h.symm
    exact Nat.eq_of_mul_eq_mul_right hg (by rw [q, Nat.one_mul])
  · have q : a * m = a * (b * sg t m) := by rw [e2]
    have q2 : t * b = a * sg t m * b := by rw [e1]
    rw [q, q2, Int.mul_assoc, Int.mul_comm b]
  · rw [← n1]; exact Nat.le_mul_of_pos_right _ hg
  · rw [← n2]; exact Nat.le_mul_of_pos_right _ hg
theorem Bd.of_natAbs {n : Nat} {x y : Int} (h : x.natAbs ≤ y.natAbs) (g : Bd n y) : Bd n x := Nat.lt_of_le_of_lt h g
theorem natAbs_abs (i : Int) : (if i < 0 then -i else i) = ((i.natAbs : Nat) : Int) := by split <;> omega
end My
namespace L2
open PySem PySem.Spec PyProof.Rows
abbrev Mid (x : Int) : Prop := My.Bd 4000 x
section
variable {X : Cx}
theorem op_mulB : OpR X (binaryOp .Mult) (rI (fun i j => Mid i ∧ Mid j) fun i j => .int (i * j)) := opI fun _ _ _ _ _ _ _ hc q =>
  mul_int q (IntMulOk.of_le (PySem.intBits_le_iff.mpr hc.1) (PySem.intBits_le_iff.mpr hc.2) (by decide))
theorem log2_of_Mid {j : Int} (h : Mid j) : j.natAbs.log2 < 9000 := by
  by_cases h0 : j.natAbs = 0
  · rw [h0]; decide +kernel
  · have h1 : j.natAbs.log2 < 4000 := (Nat.log2_lt h0).mpr h
    omega
theorem op_fdivB : OpR X (binaryOp .FloorDiv) (rI (fun _ j => 0 < j ∧ Mid j) fun i j => .int (i / j)) := opI fun i j _ _ _ _ _ hc q => by
  have h1 : (0 : Int) < j := hc.1
  exact floordiv_int (by omega) (by rw [Int.fdiv_eq_ediv_of_nonneg i (by omega)]; exact q) (.inl (PyProof.noPylong_of_log2 (log2_of_Mid hc.2)))
end
theorem bt_int : bootBuiltins "int" = some (.type "int") := by decide +kernel
theorem bt_bool : bootBuiltins "bool" = some (.type "bool") := by decide +kernel
theorem bt_str : bootBuiltins "str" = some (.type "str") := by decide +kernel
theorem bt_list : bootBuiltins "list" = some (.type "list") := by decide +kernel
theorem bt_tuple : bootBuiltins "tuple" = some (.type "tuple") := by decide +kernel
theorem bt_abs : bootBuiltins "abs" = some (.builtin "abs") := by decide +kernel
theorem bt_isinstance : bootBuiltins "isinstance" = some (.builtin "isinstance") := by decide +kernel
inductive Tg where
  | non | bl | int | str | tup | lst | dic
noncomputable def tgIs (K : PySem.W.Frag) (H : Hp) : V → Tg → Prop
  | .non, .non => True
  | .bl _, .bl => True
  | .int _, .int => True
  | .str _, .str => True
  | .ref a, .tup => ∃ xs, SqT K H a xs
  | .ref a, .lst => ∃ xs, SqL K H a xs
  | .ref a, .dic => ∃ kvs, H a = some (.dK kvs)
  | _, _ => False
noncomputable def Tg.isInt : Tg → Bool
  | .int => true | .bl => true | _ => false
noncomputable def Tg.isBool : Tg → Bool
  | .bl => true | _ => false
noncomputable def Tg.isStr : Tg → Bool
  | .str => true | _ => false
noncomputable def Tg.isTup : Tg → Bool
  | .tup => true | _ => false
noncomputable def Tg.isLst : Tg → Bool
  | .lst => true | _ => false
noncomputable def rIsi (K : PySem.W.Frag) (n : String) (f : Tg → Bool) : List V → Hp → VK → Prop := fun xs H Q => ∃ x g, xs = [x, .ty n] ∧ tgIs K H x g ∧ Q (.bl (f g)) H
section
variable {X : Cx}
theorem isi_of {n : String} {f : Tg → Bool}
    (h1 : ∀ {A : Around} {E : Value → Shared → Prop} {s : Shared} {Q : Value → Shared → Prop}, (∀ t, Q (.bool (f .non)) { s with toks := t }) → wpAny (model X.prog X.w) A (call (.builtin "isinstance") [.none, .type n]) Q E s)
    (h2 : ∀ {A : Around} {E : Value → Shared → Prop} {s : Shared} {Q : Value → Shared → Prop} {b : Bool}, (∀ t, Q (.bool (f .bl)) { s with toks := t }) → wpAny (model X.prog X.w) A (call (.builtin "isinstance") [.bool b, .type n]) Q E s)
    (h3 : ∀ {A : Around} {E : Value → Shared → Prop} {s : Shared} {Q : Value → Shared → Prop} {b : Int} {u : Tok}, (∀ t, Q (.bool (f .int)) { s with toks := t }) → wpAny (model X.prog X.w) A (call (.builtin "isinstance") [.int b u, .type n]) Q E s)
    (h4 : ∀ {A : Around} {E : Value → Shared → Prop} {s : Shared} {Q : Value → Shared → Prop} {b : Str} {u : Tok}, (∀ t, Q (.bool (f .str)) { s with toks := t }) → wpAny (model X.prog X.w) A (call (.builtin "isinstance") [.str b u, .type n]) Q E s)
    (h5 : ∀ {A : Around} {E : Value → Shared → Prop} {s : Shared} {Q : Value → Shared → Prop} {a : Addr} {o : Obj}, s.heap.get? a = some o → o.cls = .type "tuple" → (∀ t, Q (.bool (f .tup)) { s with toks := t }) → wpAny (model X.prog X.w) A (call (.builtin "isinstance") [.ref a, .type n]) Q E s)
    (h6 : ∀ {A : Around} {E : Value → Shared → Prop} {s : Shared} {Q : Value → Shared → Prop} {a : Addr} {o : Obj}, s.heap.get? a = some o → o.cls = .type "list" → (∀ t, Q (.bool (f .lst)) { s with toks := t }) → wpAny (model X.prog X.w) A (call (.builtin "isinstance") [.ref a, .type n]) Q E s)
    (h7 : ∀ {A : Around} {E : Value → Shared → Prop} {s : Shared} {Q : Value → Shared → Prop} {a : Addr} {o : Obj}, s.heap.get? a = some o → o.cls = .type "dict" → (∀ t, Q (.bool (f .dic)) { s with toks := t }) → wpAny (model X.prog X.w) A (call (.builtin "isinstance") [.ref a, .type n]) Q E s) :
    CallR X (.builtin "isinstance") (rIsi X.K n f) := by
  intro pins s σ H xs us Q I r h
  obtain ⟨x, g, rfl, e, q⟩ := h
  obtain ⟨u, w, rfl, rx, rw'⟩ := vals2 r
  cases rw'
  have fin : ∀ k : Bool, Q (.bl k) H → ∀ t, EP X pins σ Q (.bool k) { s with toks := t } := fun k q t => ⟨.bl k, H, I.tok t, rfl, q⟩
  cases x with
  | non => cases g <;> first | exact (show False from e).elim | (cases rx; exact h1 (fin _ q))
  | bl b => cases g <;> first | exact (show False from e).elim | (cases rx; exact h2 (fin _ q))
  | int i => cases g <;> first | exact (show False from e).elim | (obtain ⟨t, rfl⟩ := rx; exact h3 (fin _ q))
  | str y => cases g <;> first | exact (show False from e).elim | (obtain ⟨t, rfl⟩ := rx; exact h4 (fin _ q))
  | ref a =>
    cases rx
    cases g with
    | tup =>
      obtain ⟨xs, hx⟩ := (show ∃ xs, SqT X.K H a xs from e)
      obtain ⟨its, _, ⟨o, ho, hc, _⟩, _⟩ := I.tuple hx
      exact h5 ho hc (fin _ q)
    | lst =>
      obtain ⟨xs, hx⟩ := (show ∃ xs, SqL X.K H a xs from e)
      obtain ⟨its, _, ⟨o, n, ho, hc, _⟩, _⟩ := I.list hx
      exact h6 ho hc (fin _ q)
    | dic =>
      obtain ⟨kvs, hx⟩ := (show ∃ kvs, H a = some (.dK kvs) from e)
      obtain ⟨_, _, vs, _, o, es, ep, ho, hc, _⟩ := (show ObjOk X.prog X.w H s.heap a (.dK kvs) from I.hok a _ hx)
      exact h7 ho hc.1 (fin _ q)
    | non => exact (show False from e).elim
    | bl => exact (show False from e).elim
    | int => exact (show False from e).elim
    | str => exact (show False from e).elim
  | _ => exact (show False from e).elim
theorem isi_int : CallR X (.builtin "isinstance") (rIsi X.K "int" Tg.isInt) := isi_of (fun q => IsiPair.NoneType_int (q _)) (fun q => IsiPair.bool_int (q _)) (fun q => IsiPair.int_int (q _)) (fun q => IsiPair.str_int (q _))
  (fun ho hc q => call_isinstance (isinstance_false_tuple (by decide) PySem.F.isi_meta_int PySem.F.sub_tuple_int) ⟨⟨_, ho, hc⟩, q _⟩) (fun ho hc q => call_isinstance (isinstance_false_list (by decide) PySem.F.isi_meta_int PySem.F.sub_list_int) ⟨⟨_, ho, hc⟩, q _⟩) (fun ho hc q => call_isinstance (isinstance_false_dict (by decide) PySem.F.isi_meta_int PySem.F.sub_dict_int) ⟨⟨_, ho, hc⟩, q _⟩)
theorem isi_bool : CallR X (.builtin "isinstance") (rIsi X.K "bool" Tg.isBool) := isi_of (fun q => IsiPair.NoneType_bool (q _)) (fun q => IsiPair.bool_bool (q _)) (fun q => IsiPair.int_bool (q _)) (fun q => IsiPair.str_bool (q _))
  (fun ho hc q => call_isinstance (isinstance_false_tuple (by decide) PySem.F.isi_meta_bool PySem.F.sub_tuple_bool) ⟨⟨_, ho, hc⟩, q _⟩) (fun ho hc q => call_isinstance (isinstance_false_list (by decide) PySem.F.isi_meta_bool PySem.F.sub_list_bool) ⟨⟨_, ho, hc⟩, q _⟩) (fun ho hc q => call_isinstance (isinstance_false_dict (by decide) PySem.F.isi_meta_bool PySem.F.sub_dict_bool) ⟨⟨_, ho, hc⟩, q _⟩)
theorem isi_str : CallR X (.builtin "isinstance") (rIsi X.K "str" Tg.isStr) := isi_of (fun q => IsiPair.NoneType_str (q _)) (fun q => IsiPair.bool_str (q _)) (fun q => IsiPair.int_str (q _)) (fun q => IsiPair.str_str (q _))
  (fun ho hc q => call_isinstance (isinstance_false_tuple (by decide) PySem.F.isi_meta_str PySem.F.sub_tuple_str) ⟨⟨_, ho, hc⟩, q _⟩) (fun ho hc q => call_isinstance (isinstance_false_list (by decide) PySem.F.isi_meta_str PySem.F.sub_list_str) ⟨⟨_, ho, hc⟩, q _⟩) (fun ho hc q => call_isinstance (isinstance_false_dict (by decide) PySem.F.isi_meta_str PySem.F.sub_dict_str) ⟨⟨_, ho, hc⟩, q _⟩)
theorem isi_tuple : CallR X (.builtin "isinstance") (rIsi X.K "tuple" Tg.isTup) := isi_of (fun q => IsiPair.NoneType_tuple (q _)) (fun q => IsiPair.bool_tuple (q _)) (fun q => IsiPair.int_tuple (q _)) (fun q => IsiPair.str_tuple (q _))
  (fun ho hc q => call_isinstance (isinstance_true (Tx := "tuple") PySem.F.isi_meta_tuple PySem.F.sub_tuple_tuple) ⟨⟨_, ho, hc⟩, q _⟩) (fun ho hc q => call_isinstance (isinstance_false_list (by decide) PySem.F.isi_meta_tuple PySem.F.sub_list_tuple) ⟨⟨_, ho, hc⟩, q _⟩) (fun ho hc q => call_isinstance (isinstance_false_dict (by decide) PySem.F.isi_meta_tuple PySem.F.sub_dict_tuple) ⟨⟨_, ho, hc⟩, q _⟩)
theorem isi_list : CallR X (.builtin "isinstance") (rIsi X.K "list" Tg.isLst) := isi_of (fun q => IsiPair.NoneType_list (q _)) (fun q => IsiPair.bool_list (q _)) (fun q => IsiPair.int_list (q _)) (fun q => IsiPair.str_list (q _))
  (fun ho hc q => call_isinstance (isinstance_false_tuple (by decide) PySem.F.isi_meta_list PySem.F.sub_tuple_list) ⟨⟨_, ho, hc⟩, q _⟩) (fun ho hc q => call_isinstance (isinstance_true (Tx := "list") PySem.F.isi_meta_list PySem.F.sub_list_list) ⟨⟨_, ho, hc⟩, q _⟩) (fun ho hc q => call_isinstance (isinstance_false_dict (by decide) PySem.F.isi_meta_list PySem.F.sub_dict_list) ⟨⟨_, ho, hc⟩, q _⟩)
theorem pe_isi {e : Expr} {te : TE} {n : Str} {T : String} {f : Tg → Bool} {p p2 pos : Pos} (hc : CallR X (.builtin "isinstance") (rIsi X.K T f)) (hg : Gl X "isinstance") (hg2 : Gl X n) (hm : X.mg "isinstance" = none) (hm2 : X.mg n = none) (hb : bootBuiltins n = some (.type T)) (he : PE X e te)
    (hn : n ≠ "__name__" := by decide) (hd : (n == ("__debug__" : Str)) = false := by decide)
    (hs1 : starEach [e, .Name n p2] X.env = (false, eval e X.env) :: starEach [.Name n p2] X.env := by rfl) (hs2 : starEach [.Name n p2] X.env = (false, eval (.Name n p2) X.env) :: starEach [] X.env := by rfl)
    (hpl : (backTo pos (starEach [.Name n p2] X.env)).any (·.1) = false := by rfl) :
    PE X (.Call (.Name "isinstance" p) [e, .Name n p2] [] pos) (tCB (rIsi X.K T f) (tCons te (tCons (tC (.ty T)) tNil))) :=
  pe_callB hc hg hm bt_isinstance (pcn he (pcn (pe_bltn (v := .ty T) hg2 hm2 hb rfl hn hd) pnl hs2) hs1) (by decide) (by decide) hs1 hpl
end
section
variable {X : Cx} {tg : Expr}
end
theorem Same.new {H : Hp} {p : Addr} (h : H p = none) (o : HO) : Same H (upd H p o) := fun b u q => by rw [upd_ne (ne_of_none q h)]; exact q
theorem Same.tup {K : PySem.W.Frag} {H H' : Hp} {a : Addr} {xs : List V} (e : Same H H') (h : SqT K H a xs) : SqT K H' a xs := by
  rcases h with (h | ⟨o, h⟩) | h
  · exact .inl (.inl (e _ _ h))
  · exact .inl (.inr ⟨o, e _ _ h⟩)
  · exact .inr h
structure FunD (K : PySem.W.Frag) (x qual : Str) (st : Stmt) (f : Addr) (fd : FuncData) : Prop where
  ex : ∃ (oc : Value) (od : Option Addr) (dV kV doc pm : Value) (an : Option Addr) (cdv ct : Value) (osl : Array (Option Value)),
    fd = PySem.W.fnOf x qual (defArgs st) (defBody st) (defScope st) dV kV doc pm an cdv ct ∧ K.lookup f = some ⟨oc, od, .func fd, osl⟩ ∧ PySem.W.codeIn K cdv qual = true
  kp : PySem.W.keepIn K (.ref f) = true
theorem fun_mkD {K : PySem.W.Frag} {x qual : Str} {st : Stmt} {f : Addr} {oc : Value} {od an : Option Addr} {osl : Array (Option Value)} {dV kV doc pm cdv ct : Value} (l : K.lookup f = some ⟨oc, od, .func (PySem.W.fnOf x qual (defArgs st) (defBody st) (defScope st) dV kV doc pm an cdv ct), osl⟩)
    (c : PySem.W.codeIn K cdv qual = true) (k : PySem.W.keepIn K (.ref f) = true) : FunD K x qual st f (PySem.W.fnOf x qual (defArgs st) (defBody st) (defScope st) dV kV doc pm an cdv ct) := ⟨⟨oc, od, dV, kV, doc, pm, an, cdv, ct, osl, rfl, l, c⟩, k⟩
section
variable {X : Cx}
theorem op_fdivNB : OpR X (binaryOp .FloorDiv) (rI (fun _ j => j ≠ 0 ∧ Mid j) fun i j => .int (i.fdiv j)) := opI fun _ _ _ _ _ _ _ hc q => floordiv_int hc.1 q (.inl (PyProof.noPylong_of_log2 (log2_of_Mid hc.2)))
end
end L2
namespace L2
open PySem PySem.Spec PyProof.Rows
noncomputable def CXe (P : Program) (w : World) : CXT := fun outer H s E e s' => ∃ (a C : Addr) (a0 : Value) (H' : Hp) (B : Heap),
  e = .ref a ∧ s'.os = s.os ∧ AllBare s'.gens ∧ Un (frs outer) [] H H' s.heap s'.heap ∧ HOk P w H' B ∧ Heap.FlyingW B outer a (.ref C) a0 s'.heap ∧
  (∀ b o, s.heap.get? b = some o → H b = none → b ∉ frs outer → B.get? b = some o) ∧ (∀ b o, s.heap.get? b = some o → b ∉ frs outer → ∃ o', B.get? b = some o') ∧ E (.ref C) none H'
theorem passE0 {P : Program} {w : World} {X : Cx} : Passes (CXe P w) X E0 := fun _ _ _ _ _ _ _ h => by
  obtain ⟨_, _, _, _, _, _, _, _, _, _, _, _, _, q⟩ := h
  exact q.elim
section
variable {P : Program} {w : World} {K : PySem.W.Frag} {mg : Str → Option Value} {base : Heap} {N : List Str} {qual : Str} {scope : Scope} {f : Addr} {cd : Value} {A : Around} {outer : List Env} {s : Shared} {H : Hp} {E : XK}
  {pins : List (Addr × Obj)} {σ : St} {H1 : Hp} {s1 : Shared}
theorem frs_own {CX : CXT} {b : Addr} : b ∈ frs (cxOf CX P w K mg base N qual scope f cd A outer s H E).stack ↔ b = s.heap.objs.size ∨ b ∈ frs outer := by
  show b ∈ (envOfC qual scope s.heap.objs.size f cd :: outer).filterMap (·.frame) ↔ _
  rw [List.filterMap_cons]
  exact List.mem_cons
theorem raises_cx {h' : Heap} {e C : Addr} {vs : List Value} (I : Inv (cxOf (CXe P w) P w K mg base N qual scope f cd A outer s H E) pins σ H1 s1) (hx : Heap.MadeExcOf s1.heap h' e (.ref C) vs) (q : E (.ref C) none H1) :
    (cxOf (CXe P w) P w K mg base N qual scope f cd A outer s H E).xe (.ref e) { s1 with heap := h' } := by
  have hin : ∀ env ∈ (cxOf (CXe P w) P w K mg base N qual scope f cd A outer s H E).stack, ∀ b, env.frame = some b → b ∈ frs (cxOf (CXe P w) P w K mg base N qual scope f cd A outer s H E).stack := fun env he b hb => List.mem_filterMap.mpr ⟨env, he, hb⟩
  have toB : ∀ b o, s1.heap.get? b = some o → b ∉ frs (cxOf (CXe P w) P w K mg base N qual scope f cd A outer s H E).stack → (PySem.W.hideAll s1.heap (frs (cxOf (CXe P w) P w K mg base N qual scope f cd A outer s H E).stack)).get? b = some o := fun b o e n => PySem.W.hideAll_get _ e n
  have hl := PySem.W.funFrames_hide (as := frs (cxOf (CXe P w) P w K mg base N qual scope f cd A outer s H E).stack) I.stack hin
  have nstk : ∀ b o, s.heap.get? b = some o → b ∉ frs outer → b ∉ frs (cxOf (CXe P w) P w K mg base N qual scope f cd A outer s H E).stack := fun b o e n z => by
    rcases frs_own.mp z with z | z
    · rw [z] at e
      exact absurd (Heap.lt_size e) (Nat.lt_irrefl _)
    · exact n z
  have hB : HOk P w H1 (PySem.W.hideAll s1.heap (frs (cxOf (CXe P w) P w K mg base N qual scope f cd A outer s H E).stack)) := fun b u eu => (I.hok b u eu).stay (fun c v hc q => toB c v q fun z => by
    have n := I.stkFree c z
    rcases hc with hc | hc
    · rw [hc, eu] at n; cases n
    · rw [hc] at n; cases n) (fun _ q => q) fun _ _ q => q
  refine wpAny_leaves_madeW (base := PySem.W.hideAll s1.heap (frs (cxOf (CXe P w) P w K mg base N qual scope f cd A outer s H E).stack)) (h := s1.heap) (s := { s1 with heap := h' }) I.ok.frames rfl (fun b o q => PySem.W.of_hideAll _ q) hl hx fun h2 t fl tup ht us => ?_
  refine ⟨e, C, .ref t, H1, _, rfl, I.os, I.bare, ?_, hB, fl, ?_, ?_, q⟩
  · have cs : ∀ b ∈ frs outer, ∀ o, s1.heap.get? b = some o → ∃ sl, h2.get? b = some { o with slots := sl } := fun b hb o e => by
      obtain ⟨_, o', e', hd⟩ := I.funs.mem hb
      rw [e] at e'; cases e'
      exact us b o (hx.keeps b o e) hd
    exact {
      keep := fun b o e n hb _ => fl.1 b o (toB b o (I.base.keep b o e n hb (by exact fun z => nomatch z)) (nstk b o e hb))
      slot := fun b o e n hb _ => by
        obtain ⟨sl, e1⟩ := I.base.slot b o e n hb (by exact fun z => nomatch z)
        obtain ⟨sl', e2⟩ := cs b hb _ e1
        exact ⟨sl', e2⟩
      free := fun b o e n _ => I.base.free b o e n (by exact fun z => nomatch z)
      there := fun b o e _ => by
        obtain ⟨o', e1⟩ := I.base.there b o e (by exact fun z => nomatch z)
        by_cases hb : b ∈ frs outer
        · obtain ⟨sl, e2⟩ := cs b hb _ e1
          exact ⟨_, e2⟩
        · exact ⟨o', fl.1 b o' (toB b o' e1 (nstk b o e hb))⟩
      tups := I.base.tups
      frzs := I.base.frzs
      tbls := I.base.tbls }
  · exact fun b o e n hb => toB b o (I.base.keep b o e n hb (by exact fun z => nomatch z)) (nstk b o e hb)
  · intro b o e hb
    obtain ⟨o', e1⟩ := I.base.there b o e (by exact fun z => nomatch z)
    exact ⟨o', toB b o' e1 (nstk b o e hb)⟩
theorem FunD.okE {x qual : Str} {st : Stmt} {f : Addr} {fd : FuncData} {N ps : List Str} {k : Nat} {sp : Sp} (F : FunD K x qual st f fd) (S : FnScope N ps (defScope st)) (len : ∀ vs H Q E, sp vs H Q E → vs.length = ps.length)
    (hbody : ∀ (cdv : Value) (A : Around) (outer : List Env) (s : Shared) (H : Hp) (vs : List V) (Q : VK) (E : XK), Room k (A.deeper (envOfC qual (defScope st) s.heap.objs.size f cdv)) → sp vs H Q E →
      ∃ t, PSs (cxOf (CXe P w) P w K mg base N qual (defScope st) f cdv A outer s H E) (defBody st) t ∧ t { nx := fun _ H' => Q .non H', rt := Q } (start N vs) H) : FnOk P w K mg base (CXe P w) (k + 1) f fd ps sp := by
  obtain ⟨oc, od, dV, kV, doc, pm, an, cdv, ct, osl, rfl, lk, hcd⟩ := F.ex
  exact fn_of lk hcd S len fun A outer s H vs Q E hr hsp => hbody cdv A outer s H vs Q E hr hsp
end
abbrev bmVE : List Value := [.type "ValueError", .type "Exception", .type "BaseException", .type "object"]
theorem topRead_any {p : Program} {mg mb : Str → Option Value} {h : Heap} (g : h.Ns mainGlobals mg) (b : h.Ns builtinsNs mb) (nl : h.NoLimit) (bl : ∀ x : Str, x ≠ "__name__" → mb x = bootBuiltins x) :
    ∃ loose, PySem.W.TopRead p loose mg mb h := by
  obtain ⟨o, es, ep, ho, hd, hk, hm⟩ := id g
  refine ⟨es.toList.filterMap (fun (e : DictEntry) => match e.key with | .str n _ => some n | _ => none), ⟨g, b, nl, bl, fun x _ hx _ _ _ => ?_⟩⟩
  rw [← hm x]
  unfold nsFind findBy
  rw [Option.map_eq_none_iff, Array.find?_eq_none]
  intro e he hs
  obtain ⟨n, t, hn⟩ := hk e he
  apply hx
  refine List.mem_filterMap.mpr ⟨e, Array.mem_toList_iff.mpr he, ?_⟩
  rw [hn] at hs ⊢
  have e2 : n = x := by simpa [Value.isStr] using hs
  rw [e2]
noncomputable def tRaise (C : Addr) (E : XK) (t : TA) : TS := fun _ σ H => t σ H fun vs H1 => vs.length ≤ sizeLine ∧ E (.ref C) none H1
noncomputable def Raises (X : Cx) (C : Addr) (E : XK) : Prop := ∀ (pins : List (Addr × Obj)) (σ : St) (H : Hp) (s : Shared) (h' : Heap) (e : Addr) (vs : List Value), Inv X pins σ H s → Heap.MadeExcOf s.heap h' e (.ref C) vs → E (.ref C) none H → X.xe (.ref e) { s with heap := h' }
theorem raisesE {P : Program} {w : World} {K : PySem.W.Frag} {mg : Str → Option Value} {base : Heap} {N : List Str} {qual : Str} {scope : Scope} {f C : Addr} {cd : Value} {A : Around} {outer : List Env} {s : Shared} {H : Hp} {E : XK} :
    Raises (cxOf (CXe P w) P w K mg base N qual scope f cd A outer s H E) C E := fun _ _ _ _ _ _ _ I me q => raises_cx I me q
section
variable {X : Cx} {E : XK} {x : Str} {np cpos pos : Pos} {e0 : Expr} {es : List Expr} {t : TA} {C : Addr}
theorem ps_raise (hc : X.calm = true) (O : PySem.W.excIn X.K C bmVE "ValueError.__new__" = true) (hn : PySem.W.nsIn X.K mainGlobals x = some (some (.ref C))) (hm : X.mg x = some (.ref C)) (hg : Gl X x) (hx : Raises X C E) (ha : PA X (e0 :: es) t)
    (hd : (x == ("__debug__" : Str)) = false := by decide) (he : starEach (e0 :: es) X.env = (false, eval e0 X.env) :: starEach es X.env := by rfl) (hpl : (backTo cpos (starEach es X.env)).any (·.1) = false := by rfl) :
    PS X (.Raise (some (.Call (.Name x np) (e0 :: es) [] cpos)) none pos) (tRaise C E t) := by
  intro pins s σ H D I h
  obtain ⟨mb, b1, b2⟩ := I.mod.blt
  obtain ⟨loose, TR⟩ := topRead_any (p := X.prog) I.mod.glob b1 I.mod.nolimit b2
  have OC := PySem.W.own_of_in I.mod.kin TR hn O
  obtain ⟨tl, Nn, nm, qq, bs, hdct, sn, sub, ab, col, dd, k0, k1, k2, k3, k5, mN, oC, oN, oi, oT⟩ := OC.obj
  have hp2 : (backTo cpos (starEach (e0 :: es) X.env)).any (·.1) = false := by
    rw [he]
    show (false || (backTo cpos (starEach es X.env)).any (·.1)) = false
    rw [hpl]
    rfl
  refine wpAny_Raise_call_subU (C := C) (nm := nm) (q := qq) (N := Nn) (bs := bs) (bm := tl) (hdct := hdct) (sn := sn) (sub := sub) (ab := ab) (col := col) (dd := dd) (k0 := k0) (k1 := k1) (k2 := k2) (k3 := k3) (k5 := k5)
    PySem.F.excBase_ValueError (by decide) PySem.F.excBase_ValueError (mN := mN) (oT.hasType PySem.F.excBase_ValueError.hasBase) (I.ok.hd hc) hp2 oi (ld_glob I hg hm ⟨rfl, ?_⟩ hd)
  have hA := ha cpos pins s σ H _ I h
  rw [he] at hA ⊢
  refine Calls.evalArgs_plain (thn hA fun us s2 ⟨vs, H2, I2, r2, hl, q⟩ => ⟨rfl, by rw [← r2.length]; exact hl, I2.bk _ _ oC, oN.keeps I2.bk, oT.keeps I2.bk, fun h' e me => hx pins σ H2 s2 h' e us I2 me q⟩)
end
section
variable {X : Cx} {pins : List (Addr × Obj)} {σ : St} {H H' : Hp} {s s' : Shared}
end
section
variable {X : Cx} {pins : List (Addr × Obj)} {σ : St} {H : Hp} {s s' : Shared} {E : XK} {ex : Value} {x : Str} {T : Addr} {np hpos : Pos} {b0 : Stmt} {suite : List Stmt} {ts : TS} {D : Ends} {Q0 : Hp → Prop}
end
section
variable {X : Cx} {k : Nat} {f : Addr} {fd : FuncData} {ps : List Str} {sp : Sp} {dvs : List V} {ds : List Value} {fx x cx : Str} {p cpos px apos np hpos pos : Pos} {e : Expr} {es : List Expr} {t : TA} {T : Addr} {b0 : Stmt} {suite : List Stmt} {ts : TS} {i : Nat}
end
end L2
namespace L2
open PySem PySem.Spec PyProof.Rows
section
variable {prog : Program} {w : World} {A : Around} {R : Result → Shared → Prop} {s : Shared}
abbrev NB (prog : Program) (w : World) (A : Around) (env : Env) (R : Result → Shared → Prop) : Value → Shared → Prop := notedBy (model prog w) A env fun e s' => R (.error e) s'
end
theorem closure_from {env : Env} : ∀ (names : List (Str × NameKind)) (acc : List (Str × Addr)), (∀ y ∈ names, y.2 = .free → ∃ c, env.cells.lookup y.1 = some c) → (∀ x c, acc.lookup x = some c → env.cells.lookup x = some c) →
    ∃ cl, (forIn names acc (fun (x : Str × NameKind) cs => if (x.2 == NameKind.free) = true then (do let __do_lift ← cellOf env x.1; pure (ForInStep.yield ((x.1, __do_lift) :: cs))) else pure (ForInStep.yield cs)) : Sem (List (Str × Addr))) = pure cl ∧
      (∀ x c, cl.lookup x = some c → env.cells.lookup x = some c) ∧ (∀ x, (∃ c, acc.lookup x = some c) → ∃ c, cl.lookup x = some c) ∧ ∀ y ∈ names, y.2 = .free → ∃ c, cl.lookup y.1 = some c
  | [], acc, _, ha => ⟨acc, rfl, ha, fun _ h => h, fun _ h => nomatch h⟩
  | y :: r, acc, hn, ha => by
    by_cases hf : y.2 = .free
    · obtain ⟨c, hc⟩ := hn y List.mem_cons_self hf
      obtain ⟨cl, e, h1, h2, h3⟩ := closure_from r ((y.1, c) :: acc) (fun z hz => hn z (List.mem_cons_of_mem _ hz)) (fun x d e => by
        rw [List.lookup_cons] at e
        cases q : x == y.1 with
        | true => rw [q] at e; cases e; rw [eq_of_beq q]; exact hc
        | false => rw [q] at e; exact ha x d e)
      refine ⟨cl, ?_, h1, fun x ⟨d, hd⟩ => h2 x ?_, fun z hz zf => ?_⟩
      · rw [List.forIn_cons, if_pos (by rw [hf]; rfl)]
        have ec : cellOf env y.1 = pure c := by unfold cellOf; rw [hc]
        rw [ec]
        exact e
      · rw [List.lookup_cons]
        cases q : x == y.1 with
        | true => exact ⟨c, rfl⟩
        | false => exact ⟨d, hd⟩
      · rcases List.mem_cons.mp hz with z1 | z1
        · subst z1
          exact h2 z.1 ⟨c, by rw [List.lookup_cons, beq_self_eq_true]⟩
        · exact h3 z z1 zf
    · obtain ⟨cl, e, h1, h2, h3⟩ := closure_from r acc (fun z hz => hn z (List.mem_cons_of_mem _ hz)) ha
      refine ⟨cl, ?_, h1, h2, fun z hz zf => ?_⟩
      · rw [List.forIn_cons, if_neg (by simpa using hf)]
        exact e
      · rcases List.mem_cons.mp hz with z1 | z1
        · subst z1; exact absurd zf hf
        · exact h3 z z1 zf
theorem closure_of {env : Env} {sc : Scope} (h : ∀ y ∈ sc.names, y.2 = .free → ∃ c, env.cells.lookup y.1 = some c) :
    ∃ cl, closureFor sc env = pure cl ∧ (∀ x c, cl.lookup x = some c → env.cells.lookup x = some c) ∧ ∀ y ∈ sc.names, y.2 = .free → ∃ c, cl.lookup y.1 = some c := by
  obtain ⟨cl, e, h1, _, h3⟩ := closure_from sc.names [] h (fun x c e => by simp at e)
  refine ⟨cl, ?_, h1, h3⟩
  unfold closureFor
  simp only [e]
  rfl
structure CompOk (X : Cx) (tg : Str) (sc : Scope) (fr : List (Str × Nat)) : Prop where
  kind : sc.kind = .function
  nocell : ∀ y ∈ sc.names, y.2 ≠ .cell
  locs : ∀ y ∈ sc.names, y.2 = .local → sc.names.lookup y.1 = some .local
  tgl : sc.names.lookup tg = some .local
  fre : ∀ y ∈ sc.names, y.2 = .free → X.env.scope.names.lookup y.1 = some .cell ∨ X.env.scope.names.lookup y.1 = some .free
  nd : (tg :: fr.map (·.1)).Nodup
  vis : ∀ p ∈ fr, X.N[p.2]? = some p.1 ∧ (X.env.scope.names.lookup p.1 = some .cell ∨ X.env.scope.names.lookup p.1 = some .free) ∧ sc.names.lookup p.1 = some .free
noncomputable abbrev Cx.blk (X : Cx) (Nc : List Str) (sc : Scope) (cl : List (Str × Addr)) (C : Addr) (s3 : Shared) (H3 : Hp) (fp : List Addr) : Cx :=
  { X with N := Nc, s₀ := s3, H₀ := H3, env := compEnvC sc cl C X.env, outer := X.stack, ex := fp, fn := fun _ => false, pn := [], xe := fun _ _ => False }
theorem relabel_free {env : Env} : ∀ {names : List (Str × NameKind)} {x : Str} {k : NameKind}, (∀ y ∈ names, y.2 ≠ .cell) → (k = .cell ∨ k = .free) →
    (names.map fun (n, k) => if (k == NameKind.free && env.scope.kind == .function && env.kindOf n == some .cell) then (n, NameKind.cell) else (n, k)).lookup x = some k → ∃ y ∈ names, y.1 = x ∧ y.2 = .free
  | [], _, _, _, _, e => by simp at e
  | (n, k') :: r, x, k, hn, hk, e => by
    have ih := @relabel_free env r x k (fun y hy => hn y (List.mem_cons_of_mem _ hy)) hk
    rw [List.map_cons] at e
    by_cases hc : (k' == NameKind.free && env.scope.kind == .function && env.kindOf n == some .cell) = true
    · simp only [hc, if_true, List.lookup_cons] at e
      cases q : x == n with
      | true =>
        have hf : k' = .free := by
          simp only [Bool.and_eq_true, beq_iff_eq] at hc
          exact hc.1.1
        exact ⟨(n, k'), List.mem_cons_self, (eq_of_beq q).symm, hf⟩
      | false =>
        rw [q] at e
        obtain ⟨y, h1, h2⟩ := ih e
        exact ⟨y, List.mem_cons_of_mem _ h1, h2⟩
    · simp only [hc, Bool.false_eq_true, if_false, List.lookup_cons] at e
      cases q : x == n with
      | true =>
        rw [q] at e
        have ek : k' = k := Option.some.inj e
        rcases hk with z | z
        · exact absurd (ek.trans z) (hn (n, k') List.mem_cons_self)
        · exact ⟨(n, k'), List.mem_cons_self, (eq_of_beq q).symm, ek.trans z⟩
      | false =>
        rw [q] at e
        obtain ⟨y, h1, h2⟩ := ih e
        exact ⟨y, List.mem_cons_of_mem _ h1, h2⟩
theorem relabel_seen {env : Env} : ∀ {names : List (Str × NameKind)} {x : Str}, names.lookup x = some .free →
    (names.map fun (n, k) => if (k == NameKind.free && env.scope.kind == .function && env.kindOf n == some .cell) then (n, NameKind.cell) else (n, k)).lookup x = some .cell ∨
    (names.map fun (n, k) => if (k == NameKind.free && env.scope.kind == .function && env.kindOf n == some .cell) then (n, NameKind.cell) else (n, k)).lookup x = some .free
  | [], _, e => by simp at e
  | (n, k') :: r, x, e => by
    have ih := @relabel_seen env r x
    rw [List.map_cons]
    rw [List.lookup_cons] at e
    by_cases hc : (k' == NameKind.free && env.scope.kind == .function && env.kindOf n == some .cell) = true
    · simp only [hc, if_true, List.lookup_cons]
      cases q : x == n with
      | true => exact .inl rfl
      | false => rw [q] at e; exact ih e
    · simp only [hc, Bool.false_eq_true, if_false, List.lookup_cons]
      cases q : x == n with
      | true => rw [q] at e; exact .inr e
      | false => rw [q] at e; exact ih e
section
variable {X : Cx} {pins : List (Addr × Obj)} {σ : St} {H : Hp} {s3 s4 : Shared} {tg : Str} {sc : Scope} {fr : List (Str × Nat)} {fp : List Addr} {cl : List (Str × Addr)}
noncomputable def inSt (σ : St) (fr : List (Str × Nat)) : St := fr.map fun p => (σ[p.2]?).join
end
section
variable {X : Cx} {elt iter : Expr} {x : Str} {px pos : Pos} {sc : Scope} {fr : List (Str × Nat)} {wi : TI} {te : TE}
end
end L2
namespace L2
open PySem PySem.Spec PyProof.Rows
section
variable {X : Cx}
end
section
variable {X : Cx} {elt iter : Expr} {x : Str} {px pos : Pos} {sc : Scope} {fr : List (Str × Nat)} {wi : TI} {te : TE}
end
end L2
namespace L2
open PySem PySem.Spec PyProof.Rows
noncomputable def compOkB (osc : Scope) (N : List Str) (tg : Str) (sc : Scope) (fr : List (Str × Nat)) : Bool :=
  decide (sc.kind = .function) && (sc.names.all fun y => decide (y.2 ≠ .cell)) && (sc.names.all fun y => decide (y.2 ≠ .local) || decide (sc.names.lookup y.1 = some .local)) && decide (sc.names.lookup tg = some .local) &&
  (sc.names.all fun y => decide (y.2 ≠ .free) || decide (osc.names.lookup y.1 = some .cell) || decide (osc.names.lookup y.1 = some .free)) && decide ((tg :: fr.map (·.1)).Nodup) &&
  (fr.all fun p => decide (N[p.2]? = some p.1) && (decide (osc.names.lookup p.1 = some .cell) || decide (osc.names.lookup p.1 = some .free)) && decide (sc.names.lookup p.1 = some .free))
theorem compOk_of {X : Cx} {tg : Str} {sc : Scope} {fr : List (Str × Nat)} {osc : Scope} {N : List Str} (ho : X.env.scope = osc) (hN : X.N = N) (h : compOkB osc N tg sc fr = true) : CompOk X tg sc fr := by
  subst ho hN
  unfold compOkB at h
  simp only [Bool.and_eq_true, decide_eq_true_eq, List.all_eq_true, Bool.or_eq_true] at h
  obtain ⟨⟨⟨⟨⟨⟨h1, h2⟩, h3⟩, h4⟩, h5⟩, h6⟩, h7⟩ := h
  refine ⟨h1, h2, fun y hy e => ?_, h4, fun y hy e => ?_, h6, fun p hp => ?_⟩
  · rcases h3 y hy with z | z
    · exact absurd e z
    · exact z
  · rcases h5 y hy with (z | z) | z
    · exact absurd e z
    · exact .inl z
    · exact .inr z
  · obtain ⟨⟨a, b⟩, c⟩ := h7 p hp
    exact ⟨a, b, c⟩
end L2
namespace L2
open PySem
end L2
namespace L2
open PySem
theorem pa_consI {X : Cx} {es : List Expr} {t : TA} {i : Int} {j} {pos : Pos} (hr : PA X es t) : PA X (.Constant (.int i) j pos :: es) (tCons (tC (.int i)) t) := pcn pei hr rfl
end L2
namespace L2
open PySem
noncomputable def intsOf : List Expr → Option (List Int)
  | [] => some []
  | .Constant (.int i) _ _ :: es => (intsOf es).map (i :: ·)
  | _ :: _ => none
noncomputable def tInts (ns : List Int) : TA := fun _ H Q => Q (ns.map V.int) H
theorem pa_ints {X : Cx} {es : List Expr} (ns : List Int) (h : intsOf es = some ns) : PA X es (tInts ns) := by
  induction es generalizing ns with
  | nil =>
    have e : ns = [] := (Option.some.inj h).symm
    subst e
    exact pnl
  | cons e es ih =>
    unfold intsOf at h
    split at h
    · rename_i he; cases he
    · rename_i i j pos es' he
      obtain ⟨rfl, rfl⟩ := List.cons.inj he
      cases hr : intsOf es with
      | none => rw [hr] at h; cases h
      | some ms =>
        rw [hr] at h
        have e : ns = i :: ms := (Option.some.inj h).symm
        subst e
        exact pa_consI (j := j) (pos := pos) (ih ms hr)
    · cases h
end L2
namespace L2
open PySem PySem.Spec PyProof.Rows
section
variable {prog : Program} {w : World} {A : Around} {R : Result → Shared → Prop} {s : Shared}
abbrev testsOf (ifs : List Expr) (env : Env) : Sem Bool := forIn ifs true fun c r => if r = true then do let ok ← isTrue c env (eval c env); pure (ForInStep.yield ok) else pure (ForInStep.yield r)
theorem comp_loopG {elt tg iter : Expr} {ifs : List Expr} {scope : Scope} {pos : Pos} {itv acc : Value} {env : Env} (J : Nat → Shared → Prop)
    (turn : ∀ n s, J n s → wpAny (model prog w) A (pyNext itv) (fun r s1 => match r with
      | none => R (.ok .next) s1
      | some v => wpAny (model prog w) A (letOwnedTupleGo tg itv v) (fun _ s2 => wpAny (model prog w) A (assign tg env v) (fun _ s3 => wpAny (model prog w) A (testsOf ifs env) (fun ok s4 =>
          if ok = true then wpAny (model prog w) A (eval elt env) (fun x s5 => wpAny (model prog w) A (call (.builtin "list.append") [acc, x]) (fun _ s6 => ∃ m, m < n ∧ J m s6) (NB prog w A env R) s5) (NB prog w A env R) s4
          else ∃ m, m < n ∧ J m s4) (NB prog w A env R) s3) (NB prog w A env R) s2) (NB prog w A env R) s1) (NB prog w A env R) s)
    (n : Nat) (h : J n s) : codeAny (model prog w) A (.compLoop (.ListComp elt [⟨tg, iter, ifs, 0⟩] scope pos) 0 itv acc env) R s := by
  refine codeAny_loop rfl J (fun n s hJ => ?_) n h
  show wpAny _ _ ((compTurn (.ListComp elt [⟨tg, iter, ifs, 0⟩] scope pos) 0 itv acc env).onRaise (fun x => do noteFrame x env; theTreesLotGoes x)) _ _ s
  refine wpAny_noted ?_
  rw [compTurn_list]
  refine wpAny_bind (wpAny_standAt (wpAny_bind (wpAny_mono (turn n s hJ) (fun r s1 z => ?_) fun _ _ q => q)))
  match r, z with
  | none, z => exact wpAny_pure z
  | some v, z =>
    refine wpAny_bind (wpAny_mono z (fun _ s2 z => wpAny_bind (wpAny_mono z (fun _ s3 z => wpAny_bind (wpAny_mono z (fun ok s4 z => ?_) fun _ _ q => q)) fun _ _ q => q)) fun _ _ q => q)
    cases ok with
    | true =>
      have z' := (if_pos rfl).mp z
      exact wpAny_bind (wpAny_bind (wpAny_mono z' (fun x s5 z => wpAny_bind (wpAny_mono z (fun _ s6 z => wpAny_pure (wpAny_pure ⟨rfl, z⟩)) fun _ _ q => q)) fun _ _ q => q))
    | false =>
      have z' := (if_neg Bool.false_ne_true).mp z
      exact wpAny_bind (wpAny_pure (wpAny_pure ⟨rfl, z'⟩))
end
structure CompOkG (X : Cx) (tgs : List Str) (sc : Scope) (fr : List (Str × Nat)) : Prop where
  kind : sc.kind = .function
  nocell : ∀ y ∈ sc.names, y.2 ≠ .cell
  locs : ∀ y ∈ sc.names, y.2 = .local → sc.names.lookup y.1 = some .local
  fre : ∀ y ∈ sc.names, y.2 = .free → X.env.scope.names.lookup y.1 = some .cell ∨ X.env.scope.names.lookup y.1 = some .free
  nd : (tgs ++ fr.map (·.1)).Nodup
  vis : ∀ p ∈ fr, X.N[p.2]? = some p.1 ∧ (X.env.scope.names.lookup p.1 = some .cell ∨ X.env.scope.names.lookup p.1 = some .free) ∧ sc.names.lookup p.1 = some .free
noncomputable def PIF (X : Cx) (ifs : List Expr) (t : TT) : Prop :=
  ∀ (pins : List (Addr × Obj)) (s : Shared) (σ : St) (H : Hp) (Q : Bool → Hp → Prop), Inv X pins σ H s → t σ H Q → wpAny (model X.prog X.w) X.A (testsOf ifs X.env) (TP X pins σ Q) X.xe s
noncomputable def tYes : TT := fun _ H Q => Q true H
theorem pif_nil {X : Cx} : PIF X [] tYes := fun _ _ _ H _ I h => wpAny_tests_nil ⟨H, I, h⟩
section
variable {X : Cx} {pins : List (Addr × Obj)} {σ : St} {H : Hp} {s3 s4 : Shared} {tgs : List Str} {sc : Scope} {fr : List (Str × Nat)} {fp : List Addr} {cl : List (Str × Addr)}
theorem blk_startG (ok : CompOkG X tgs sc fr) (I : Inv X pins σ H s3) (hf : ∀ b ∈ fp, FpOk X pins H b) (hfo : ∀ b ∈ fp, ∃ o, s3.heap.get? b = some o) (hk : ∀ x c, cl.lookup x = some c → X.env.cells.lookup x = some c) (hc : ∀ y ∈ sc.names, y.2 = .free → ∃ c, cl.lookup y.1 = some c)
    {h4 : Heap} {t4 : Nat} (hns : ∃ m, h4.Ns s3.heap.objs.size m) (hkeep : ∀ b o, s3.heap.get? b = some o → h4.get? b = some o) :
    Inv (X.blk (tgs ++ fr.map (·.1)) sc cl s3.heap.objs.size s3 H fp) [] (List.replicate tgs.length none ++ inSt σ fr) H { s3 with heap := h4, toks := t4 } := by
  have hasc : ∀ x, ((relabel sc X.env).names.lookup x = some .cell ∨ (relabel sc X.env).names.lookup x = some .free) → ∃ c, cl.lookup x = some c := fun x hx => by
    obtain ⟨y, h1, h2, h3⟩ : ∃ y ∈ sc.names, y.1 = x ∧ y.2 = .free := by
      rcases hx with z | z
      · exact relabel_free ok.nocell (.inl rfl) z
      · exact relabel_free ok.nocell (.inr rfl) z
    subst h2
    exact hc y h1 h3
  have cell4 : ∀ x c, cl.lookup x = some c → ∀ v, s3.heap.IsCell c v → h4.IsCell c v := fun x c _ v ⟨o, ho, hd⟩ => ⟨o, hkeep c o ho, hd⟩
  have fresh : H s3.heap.objs.size = none := I.hok.fresh (Nat.le_refl _)
  refine ⟨⟨I.mod, ok.kind, I.ok.glob, I.ok.blt, Nat.le_refl _, fun x y c e1 e2 => I.ok.inj x y c (hk x c e1) (hk y c e2), hasc, (fun x c e => nomatch e), I.ok.hd, I.ok.frames, .inl rfl, fun b hb => ?_, I.bs, Nat.le_trans I.ok.bsz I.sz, fun b o e hb => ?_, fun b hb z => ?_, I.stack, I.stkFree⟩,
    rfl, I.bare, Un.kept hkeep, ?_, fun x c e => ?_, fresh, fun x c e => I.freeC x c (hk x c e), (fun p hp => nomatch hp), I.hok.kept hkeep, ?_⟩
  · obtain ⟨f0, f1, f2, f3, f4, f5⟩ := hf b hb
    refine ⟨fun z => ?_, fun x c e => f4 x c (hk x c e)⟩
    obtain ⟨o, eo⟩ := hfo b hb
    have z' : b = s3.heap.objs.size := z
    rw [z'] at eo
    exact absurd (Heap.lt_size eo) (Nat.lt_irrefl _)
  · obtain ⟨f0, f1, f2, f3, f4, f5⟩ := hf b hb
    rcases f3 with z | z
    · exact I.ok.noex b o e z
    · exact absurd (Nat.lt_of_lt_of_le (Nat.lt_of_lt_of_le (Heap.lt_size e) I.ok.bsz) z) (Nat.lt_irrefl _)
  · obtain ⟨f0, f1, f2, f3, f4, f5⟩ := hf b hb
    rcases List.mem_cons.mp (I.stkSub b z) with q | q
    · exact f1 q
    · exact f2 q
  · obtain ⟨m, hn⟩ := hns
    obtain ⟨m0, _, hl0⟩ := I.loc
    refine ⟨m, hn, fun i x v e1 e2 _ => ?_⟩
    have hge : tgs.length ≤ i := by
      rcases Nat.lt_or_ge i tgs.length with z | z
      · rw [List.getElem?_append_left (by rw [List.length_replicate]; exact z), List.getElem?_replicate, if_pos z] at e2
        cases e2
      · exact z
    have e1x : (tgs ++ fr.map (·.1))[i]? = some x := e1
    rw [List.getElem?_append_right hge] at e1x
    rw [List.getElem?_append_right (by rw [List.length_replicate]; exact hge), List.length_replicate] at e2
    generalize i - tgs.length = i at *
    · have e2' : ((fr.map fun p => (σ[p.2]?).join))[i]? = some (some v) := e2
      have e1' : (fr.map (·.1))[i]? = some x := e1x
      rw [List.getElem?_map] at e1' e2'
      cases q : fr[i]? with
      | none => rw [q] at e1'; cases e1'
      | some p =>
        rw [q] at e1' e2'
        have ex : p.1 = x := Option.some.inj e1'
        have ev : (σ[p.2]?).join = some v := Option.some.inj e2'
        obtain ⟨g1, g2, g3⟩ := ok.vis p (List.mem_of_getElem? q)
        have ev' : σ[p.2]? = some (some v) := by
          cases z : σ[p.2]? with
          | none => rw [z] at ev; cases ev
          | some w => rw [z] at ev; exact congrArg some ev
        have gv : Vis X.env.scope p.1 := g2.elim (fun z => .inr (.inl z)) fun z => .inr (.inr z)
        obtain ⟨u, ru, lk⟩ := hl0 p.2 p.1 v g1 ev' gv
        subst ex
        refine ⟨u, ru, .inr ⟨relabel_seen g3, ?_⟩⟩
        rcases lk with ⟨k1, _⟩ | ⟨_, c, ec, hcell⟩
        · rcases g2 with z | z
          · have k2 : X.env.scope.names.lookup p.1 = some .local := k1
            rw [z] at k2; cases k2
          · have k2 : X.env.scope.names.lookup p.1 = some .local := k1
            rw [z] at k2; cases k2
        · obtain ⟨c', ec'⟩ := hasc p.1 (relabel_seen g3)
          have e3 := hk _ _ ec'
          rw [ec] at e3
          cases e3
          exact ⟨c, ec', cell4 _ c ec' _ hcell⟩
  · obtain ⟨v, z⟩ := I.cell x c (hk x c e)
    exact ⟨v, cell4 x c e v z⟩
  · show (List.replicate tgs.length none ++ inSt σ fr).length = (tgs ++ fr.map (·.1)).length
    simp [inSt]
end
noncomputable def tLCG (k : Nat) (fr : List (Str × Nat)) (wi : TI) (g : TG) (tc : TT) (te : TE) : TE := fun σ H Q => wi σ H fun J H1 => ∀ acc, H1 acc = none → ∃ W : Nat → Nat → St → Hp → Prop, (∃ m, W 0 m (List.replicate k none ++ inSt σ fr) (upd H1 acc (.lst []))) ∧ ∀ i m σb H2, W i m σb H2 →
  (J.stop i H2 ∧ Q (.ref acc) H2) ∨ (J.go i H2 ∧ ∀ x H3, J.yld i H2 x H3 → g x σb H3 fun σ2 H4 => tc σ2 H4 fun b H5 =>
    if b = true then te σ2 H5 fun v H6 => ∃ xs m', H6 acc = some (.lst xs) ∧ xs.length < sizeLine ∧ m' < m ∧ W (i + 1) m' σ2 (upd H6 acc (.lst (xs ++ [v]))) else ∃ m', m' < m ∧ W (i + 1) m' σ2 H5)
section
variable {X : Cx} {elt iter tg : Expr} {ifs : List Expr} {tgs : List Str} {pos : Pos} {sc : Scope} {fr : List (Str × Nat)} {wi : TI} {te : TE} {g : TG} {tc : TT}
theorem pe_lcG (hc : X.calm = true) (ok : CompOkG X tgs sc fr) (hi : PI X tg iter wi) (hg : ∀ cl C s3 H3 fp, PG (X.blk (tgs ++ fr.map (·.1)) sc cl C s3 H3 fp) tg g) (ht : ∀ cl C s3 H3 fp, PIF (X.blk (tgs ++ fr.map (·.1)) sc cl C s3 H3 fp) ifs tc) (he : ∀ cl C s3 H3 fp, PE (X.blk (tgs ++ fr.map (·.1)) sc cl C s3 H3 fp) elt te) (hs : ∀ x, foldedSetIterable iter X.env x = pure x := by intro _; rfl) :
    PE X (.ListComp elt [⟨tg, iter, ifs, 0⟩] sc pos) (tLCG tgs.length fr wi g tc te) := by
  intro pins s σ H Q I h
  obtain ⟨cl, ecl, hk, hcx⟩ := closure_of (env := X.env) (sc := sc) (fun y hy yf => I.ok.has y.1 (ok.fre y hy yf))
  rw [eval_ListComp]
  refine wpAny_comprehension_free (use := none) rfl hs ecl ok.kind ok.locs (thn (hi pins s σ H _ I h) fun v s1 h1 => thn h1 fun itv s2 h2 => ?_)
  obtain ⟨it, fp, tn, J, H2, e, I2, T, st2, f2, q⟩ := h2
  subst e
  have hacc : H2 s2.heap.objs.size = none := I2.hok.fresh (Nat.le_refl _)
  obtain ⟨W, ⟨m0, w0⟩, turn⟩ := q s2.heap.objs.size hacc
  refine wpAny_newObj_type ?_
  have I3 := I2.laid (a := s2.heap.objs.size) (o := .lst []) (h' := s2.heap.push { cls := .type "list", data := .seq ([] : List Value).toArray }) (t' := s2.toks) (fun b u e => Heap.get?_push_of_some _ e) (Nat.le_refl _) ⟨Nat.zero_le _, [], 0, .nil, Heap.get?_push_size _ rfl⟩
  refine wpAny_newFunctionEnv ok.nocell (by intro y hy; simp at hy) (fun h4 hns4 hsb4 => ?_) ok.kind
  generalize hs3 : ({ s2 with heap := s2.heap.push { cls := .type "list", data := .seq ([] : List Value).toArray } } : Shared) = s3 at *
  have keep4 : ∀ b o, s3.heap.get? b = some o → h4.get? b = some o := fun b o e => hsb4.extBut b o (Nat.ne_of_lt (Heap.lt_size e)) (Heap.get?_push_of_some _ e)
  have keep3 : ∀ b o, s2.heap.get? b = some o → s3.heap.get? b = some o := fun b o e => by rw [← hs3]; exact Heap.get?_push_of_some _ e
  have hfo : ∀ b ∈ fp, ∃ o, s3.heap.get? b = some o := fun b hb => by
    obtain ⟨o, eo, _⟩ := T.obj 0 _ st2 b hb
    exact ⟨o, keep3 b o eo⟩
  have f3 : ∀ b ∈ fp, FpOk X pins (upd H2 s2.heap.objs.size (.lst [])) b := fun b hb => by
    obtain ⟨o, eo, _⟩ := T.obj 0 _ st2 b hb
    exact ⟨by rw [upd_ne (Nat.ne_of_lt (Heap.lt_size eo))]; exact (f2 b hb).1, (f2 b hb).2⟩
  have I4 := blk_startG (t4 := s3.toks + ([] : List (Str × Value)).length) ok I3 f3 hfo hk hcx ⟨_, hns4⟩ keep4
  have st4 : tn 0 h4 := T.keep 0 s2.heap h4 st2 fun b hb o e => keep4 b o (keep3 b o e)
  have stat : ∀ {H' : Hp}, (∀ b ∈ fp, H' b = none) → ∀ b ∈ fp, FpOk (X.blk (tgs ++ fr.map (·.1)) sc cl s3.heap.objs.size s3 (upd H2 s2.heap.objs.size (.lst [])) fp) [] H' b := fun hn b hb =>
    ⟨hn b hb, (I4.ok.exf b hb).1, I4.ok.exfs b hb, .inl hb, (I4.ok.exf b hb).2, fun p hp => nomatch hp⟩
  have loop : codeAny (model X.prog X.w) X.A (.compLoop (.ListComp elt [⟨tg, iter, ifs, 0⟩] sc pos) 0 (.ref it) (.ref s2.heap.objs.size) (compEnvC sc cl s3.heap.objs.size X.env))
      (compPost (model X.prog X.w) X.A X.xe none (EP X pins σ Q) (.ref s2.heap.objs.size) s3.heap.objs.size) { s3 with heap := h4, toks := s3.toks + ([] : List (Str × Value)).length } := by
    refine comp_loopG (fun n s' => ∃ i σb H', Inv (X.blk (tgs ++ fr.map (·.1)) sc cl s3.heap.objs.size s3 (upd H2 s2.heap.objs.size (.lst [])) fp) [] σb H' s' ∧ tn i s'.heap ∧ (∀ b ∈ fp, H' b = none) ∧ W i n σb H') ?_ m0
      ⟨0, _, _, I4, st4, fun b hb => (f3 b hb).1, w0⟩
    rintro n s5 ⟨i, σb, H5, I5, st5, fr5, w5⟩
    rcases turn i n σb H5 w5 with ⟨stop, qq⟩ | ⟨go, step⟩
    · refine thn (T.done (X.blk (tgs ++ fr.map (·.1)) sc cl s3.heap.objs.size s3 (upd H2 s2.heap.objs.size (.lst [])) fp) rfl rfl rfl hc i [] s5 _ H5 _ I5 (stat fr5) st5 stop) fun r s6 ⟨hr, I6⟩ => ?_
      subst hr
      obtain ⟨m6, hn6, _⟩ := I6.loc
      refine ⟨m6, hn6, fun h7 hsb7 => ?_⟩
      have ne : ∀ b o, s3.heap.get? b = some o → b ≠ s3.heap.objs.size := fun b o e => Nat.ne_of_lt (Heap.lt_size e)
      have u6 : Un (frs X.stack) fp (upd H2 s2.heap.objs.size (.lst [])) H5 s3.heap s6.heap := I6.base
      have u7 : Un (frs X.stack) fp (upd H2 s2.heap.objs.size (.lst [])) H5 s3.heap h7 := {
        keep := fun b o e n hb hx => hsb7.extBut b o (ne b o e) (u6.keep b o e n hb hx)
        slot := fun b o e n hb hx => by
          obtain ⟨sl, e1⟩ := u6.slot b o e n hb hx
          exact ⟨sl, hsb7.extBut b _ (ne b o e) e1⟩
        free := u6.free
        there := fun b o e hx => by
          obtain ⟨o', e1⟩ := u6.there b o e hx
          exact ⟨o', hsb7.extBut b _ (ne b o e) e1⟩
        tups := u6.tups
        frzs := u6.frzs
        tbls := u6.tbls }
      have hok7 : HOk X.prog X.w H5 h7 := fun b u eu => (I6.hok b u eu).stay (fun c v hcx q => hsb7.extBut c v (fun z => by
        have nf := I6.free
        have z' : H5 s3.heap.objs.size = none := nf
        rw [← z] at z'
        rcases hcx with y | y
        · rw [y, eu] at z'; cases z'
        · rw [y] at z'; cases z') q) (fun _ q => q) fun _ _ q => q
      have os6 : s6.os = s3.os := I6.os
      have bare6 := I6.bare
      obtain ⟨hh, g, d, t, os'⟩ := s6
      obtain rfl : os' = s3.os := os6
      refine ⟨.ref s2.heap.objs.size, H5, ?_, rfl, qq⟩
      show Inv X pins σ H5 { s3 with heap := h7, gens := g, drawn := d, toks := t }
      exact I3.call (h' := h7) (g' := g) (d' := d) (t' := t) (ch := fp) u7 hok7 bare6 fun b hb => ⟨(f3 b hb).2.2.2.1, (f3 b hb).2.1, (f3 b hb).2.2.2.2.1, (f3 b hb).2.2.2.2.2⟩
    · refine thn (T.item (X.blk (tgs ++ fr.map (·.1)) sc cl s3.heap.objs.size s3 (upd H2 s2.heap.objs.size (.lst [])) fp) rfl rfl rfl hc i [] s5 _ H5 _ I5 (stat fr5) st5 go) fun r s6 ⟨u, hr, h6⟩ => ?_
      subst hr
      refine thn h6 fun _ s7 ⟨y, H7, I7, r7, y7, st7, fr7⟩ => ?_
      have I7' := I7.pinned (stat fr7) (T.obj _ _ st7)
      refine wpAny_mono (hg cl s3.heap.objs.size s3 (upd H2 s2.heap.objs.size (.lst [])) fp _ s7 _ H7 y u _ I7' r7 (step y H7 y7)) (fun _ s8 z => ?_) (fun e s z => (show False from z).elim)
      obtain ⟨σ8, H8, I8, q8⟩ := z
      refine wpAny_mono (ht cl s3.heap.objs.size s3 (upd H2 s2.heap.objs.size (.lst [])) fp _ s8 σ8 H8 _ I8 q8) (fun b s8' z => ?_) (fun e s z => (show False from z).elim)
      obtain ⟨H8', I8', q8'⟩ := z
      have goOn : ∀ {s10 : Shared} {H10 : Hp} {m' : Nat}, Inv (X.blk (tgs ++ fr.map (·.1)) sc cl s3.heap.objs.size s3 (upd H2 s2.heap.objs.size (.lst [])) fp) _ σ8 H10 s10 → m' < n → W (i + 1) m' σ8 H10 → ∃ m, m < n ∧ ∃ i σb H', Inv (X.blk (tgs ++ fr.map (·.1)) sc cl s3.heap.objs.size s3 (upd H2 s2.heap.objs.size (.lst [])) fp) [] σb H' s10 ∧ tn i s10.heap ∧ (∀ b ∈ fp, H' b = none) ∧ W i m σb H' := fun {s10 H10 m'} I10 hm w9 => by
        refine ⟨m', hm, i + 1, σ8, _, I10.unpinned, T.keep _ _ _ st7 fun b hb o e => (I10.pin (b, o) (List.mem_append_right _ (List.mem_append_right _ (mem_pinsAt hb e)))).1, fun b hb => ?_, w9⟩
        obtain ⟨o, e, d⟩ := T.obj _ _ st7 b hb
        exact (I10.pin (b, o) (List.mem_append_right _ (List.mem_append_right _ (mem_pinsAt hb e)))).2.1
      cases b with
      | false =>
        obtain ⟨m', hm, w9⟩ := (if_neg Bool.false_ne_true).mp q8'
        exact (if_neg Bool.false_ne_true).mpr (goOn I8' hm w9)
      | true =>
        refine (if_pos rfl).mpr ?_
        refine wpAny_mono (he cl s3.heap.objs.size s3 (upd H2 s2.heap.objs.size (.lst [])) fp _ s8' _ H8' _ I8' ((if_pos rfl).mp q8')) (fun v s9 z => ?_) (fun e s z => (show False from z).elim)
        obtain ⟨z, H9, I9, r9, xs, m', ha, hl, hm, w9⟩ := z
        refine wpAny_mono (mt_append (X := X.blk (tgs ++ fr.map (·.1)) sc cl s3.heap.objs.size s3 (upd H2 s2.heap.objs.size (.lst [])) fp) _ s9 _ H9 (.ref s2.heap.objs.size) [z] (.ref s2.heap.objs.size) [v] (fun _ H' => H' = upd H9 s2.heap.objs.size (.lst (xs ++ [z]))) I9 rfl (.cons r9 .nil) ⟨_, xs, z, rfl, rfl, ha, hl, rfl⟩) (fun _ s10 z => ?_) (fun e s z => (show False from z).elim)
        obtain ⟨_, H10, I10, _, e10⟩ := z
        subst e10
        exact goOn I10 hm w9
  exact codeAny_compStart_list loop (T.self X.A 0 _ _ _ st4 loop)
end
end L2
namespace L2
open PySem PySem.Spec PyProof.Rows
section
variable {X : Cx}
end
end L2
namespace My
noncomputable def qv (a b : Int) : Rat := (a : Rat) / (b : Rat)
theorem cast_ne {b : Int} (h : b ≠ 0) : (b : Rat) ≠ 0 := fun z => h (Rat.intCast_inj.mp z)
theorem qv_eq {a b t m : Int} (hb : b ≠ 0) (hm : m ≠ 0) (h : a * m = t * b) : qv a b = qv t m := by
  have hb' := cast_ne hb
  have hm' := cast_ne hm
  have h' : (a : Rat) * m = t * b := by rw [← Rat.intCast_mul, ← Rat.intCast_mul, h]
  unfold qv
  grind
theorem eq_of_qv {a b t m : Int} (hb : b ≠ 0) (hm : m ≠ 0) (h : qv a b = qv t m) : a * m = t * b := by
  have hb' := cast_ne hb
  have hm' := cast_ne hm
  unfold qv at h
  refine Rat.intCast_inj.mp ?_
  rw [Rat.intCast_mul, Rat.intCast_mul]
  grind
theorem low_unique {a b c d : Int} (hb : 0 < b) (hd : 0 < d) (h1 : Int.gcd a b = 1) (h2 : Int.gcd c d = 1) (h : a * d = c * b) : a = c ∧ b = d := by
  have n : a.natAbs * d.natAbs = c.natAbs * b.natAbs := by rw [← Int.natAbs_mul, ← Int.natAbs_mul, h]
  have e1 : b.natAbs ∣ d.natAbs := by
    have q : b.natAbs ∣ a.natAbs * d.natAbs := ⟨c.natAbs, by rw [n, Nat.mul_comm]⟩
    exact Nat.Coprime.dvd_of_dvd_mul_left (Nat.Coprime.symm h1) q
  have e2 : d.natAbs ∣ b.natAbs := by
    have q : d.natAbs ∣ c.natAbs * b.natAbs := ⟨a.natAbs, by rw [← n, Nat.mul_comm]⟩
    exact Nat.Coprime.dvd_of_dvd_mul_left (Nat.Coprime.symm h2) q
  have e3 : b.natAbs = d.natAbs := Nat.dvd_antisymm e1 e2
  have e4 : b = d := by omega
  subst e4
  exact ⟨Int.eq_of_mul_eq_mul_right (by omega) h, rfl⟩
theorem qv_plus {a b c d : Int} (hb : b ≠ 0) (hd : d ≠ 0) : qv (a * d + c * b) (b * d) = qv a b + qv c d := by
  have hb' := cast_ne hb
  have hd' := cast_ne hd
  unfold qv
  rw [Rat.intCast_add, Rat.intCast_mul, Rat.intCast_mul, Rat.intCast_mul]
  grind
theorem qv_minus {a b c d : Int} (hb : b ≠ 0) (hd : d ≠ 0) : qv (a * d - c * b) (b * d) = qv a b - qv c d := by
  have hb' := cast_ne hb
  have hd' := cast_ne hd
  unfold qv
  rw [Rat.intCast_sub, Rat.intCast_mul, Rat.intCast_mul, Rat.intCast_mul]
  grind
theorem qv_times {a b c d : Int} (hb : b ≠ 0) (hd : d ≠ 0) : qv (a * c) (b * d) = qv a b * qv c d := by
  have hb' := cast_ne hb
  have hd' := cast_ne hd
  unfold qv
  rw [Rat.intCast_mul, Rat.intCast_mul]
  grind
theorem qv_over {a b c d : Int} (hb : b ≠ 0) (hd : d ≠ 0) (hc : c ≠ 0) : qv (a * d) (b * c) = qv a b / qv c d := by
  have hb' := cast_ne hb
  have hd' := cast_ne hd
  have hc' := cast_ne hc
  unfold qv
  rw [Rat.intCast_mul, Rat.intCast_mul]
  grind
theorem qv_int (a : Int) : qv a 1 = (a : Rat) := by
  unfold qv
  grind
end My
namespace My
theorem cast_pos {b : Int} (h : 0 < b) : (0 : Rat) < (b : Rat) := Rat.intCast_lt_intCast.mpr h
theorem lt_qv {a b c d : Int} (hb : 0 < b) (hd : 0 < d) : qv a b < qv c d ↔ a * d < c * b := by
  have hb' := cast_pos hb
  have hd' := cast_pos hd
  unfold qv
  rw [Rat.div_lt_iff hb', show (c : Rat) / d * b = (c * b : Rat) / d by grind, Rat.lt_div_iff hd', ← Rat.intCast_mul, ← Rat.intCast_mul]
  exact Rat.intCast_lt_intCast
theorem mul_pos {x y : Rat} (hx : 0 < x) (hy : 0 < y) : 0 < x * y := Rat.mul_pos hx hy
theorem part_in {E A C : Rat} (h : A < C) (h1 : A ≤ E) (h2 : E ≤ C) : 0 ≤ (E - A) / (C - A) ∧ (E - A) / (C - A) ≤ 1 := by
  have hp : 0 < C - A := by grind
  constructor
  · rw [← Rat.not_lt, Rat.div_lt_iff hp]
    grind
  · rw [← Rat.not_lt, Rat.lt_div_iff hp]
    grind
theorem along_in {E A C F T : Rat} (h : A < C) (hf : F < T) (h1 : A ≤ E) (h2 : E ≤ C) : F ≤ F + (E - A) / (C - A) * (T - F) ∧ F + (E - A) / (C - A) * (T - F) ≤ T := by
  obtain ⟨p0, p1⟩ := part_in h h1 h2
  generalize (E - A) / (C - A) = r at *
  have w1 : 0 ≤ r * (T - F) := Rat.mul_nonneg p0 (by grind)
  have w2 : r * (T - F) ≤ 1 * (T - F) := Rat.mul_le_mul_of_nonneg_right p1 (by grind)
  grind
end My
namespace My
structure Sc (R : Rat → Rat → Prop) (len : Rat) : Prop where
  lo : ∀ {v r : Rat}, R v r → 0 ≤ r
  hi : ∀ {v r : Rat}, R v r → r ≤ len
  up : ∀ {v w r s : Rat}, R v r → R w s → v < w → r < s
  fn : ∀ {v r s : Rat}, R v r → R v s → r = s
theorem Sc.lt {R : Rat → Rat → Prop} {len : Rat} (S : Sc R len) {v w r s : Rat} (h1 : R v r) (h2 : R w s) : v < w ↔ r < s := by
  refine ⟨S.up h1 h2, fun h => ?_⟩
  rcases (Rat.le_total : v ≤ w ∨ w ≤ v) with z | z
  · rcases Rat.le_iff_lt_or_eq.mp z with y | y
    · exact y
    · subst y
      have := S.fn h1 h2
      grind
  · rcases Rat.le_iff_lt_or_eq.mp z with y | y
    · have := S.up h2 h1 y
      grind
    · subst y
      have := S.fn h1 h2
      grind
theorem Sc.eq {R : Rat → Rat → Prop} {len : Rat} (S : Sc R len) {v w r s : Rat} (h1 : R v r) (h2 : R w s) : v = w ↔ r = s := by
  have a := S.lt h1 h2
  have b := S.lt h2 h1
  rcases (Rat.le_total : v ≤ w ∨ w ≤ v) with z | z <;> rcases (Rat.le_total : r ≤ s ∨ s ≤ r) with y | y <;> grind
noncomputable def RStr (A C L : Rat) : Rat → Rat → Prop := fun v r => A ≤ v ∧ v ≤ C ∧ r = (v - A) / (C - A) * L
theorem div_lt_div {x y d : Rat} (hd : 0 < d) (h : x < y) : x / d < y / d := by
  rw [Rat.div_lt_iff hd]
  have : y / d * d = y := by grind
  rw [this]
  exact h
theorem along_lt {A C F T v w : Rat} (h : A < C) (hf : F < T) (hv : v < w) : F + (v - A) / (C - A) * (T - F) < F + (w - A) / (C - A) * (T - F) := by
  have h1 : (v - A) / (C - A) < (w - A) / (C - A) := div_lt_div (by grind) (by grind)
  have h2 : (v - A) / (C - A) * (T - F) < (w - A) / (C - A) * (T - F) := Rat.mul_lt_mul_of_pos_right h1 (by grind)
  grind
theorem Sc.str {A C L : Rat} (h : A < C) (hl : 0 < L) : Sc (RStr A C L) L where
  lo := fun ⟨a, b, e⟩ => by
    have := (along_in (F := 0) (T := L) h hl a b).1
    grind
  hi := fun ⟨a, b, e⟩ => by
    have := (along_in (F := 0) (T := L) h hl a b).2
    grind
  up := fun ⟨a, b, e⟩ ⟨c, d, f⟩ z => by
    have := along_lt (F := 0) (T := L) h hl z
    grind
  fn := fun ⟨_, _, e⟩ ⟨_, _, f⟩ => by rw [e, f]
structure Pq where
  (A C F T : Rat)
noncomputable def RBrk (ps : List Pq) : Rat → Rat → Prop := fun v r => ∃ x ∈ ps, x.A ≤ v ∧ v ≤ x.C ∧ r = x.F + (v - x.A) / (x.C - x.A) * (x.T - x.F)
theorem Sc.brk {ps : List Pq} {L : Rat} (h1 : ∀ x ∈ ps, x.A < x.C ∧ x.F < x.T ∧ 0 ≤ x.F ∧ x.T ≤ L) (h2 : ∀ x ∈ ps, ∀ y ∈ ps, x = y ∨ (x.C < y.A ∧ x.T < y.F) ∨ (y.C < x.A ∧ y.T < x.F)) : Sc (RBrk ps) L where
  lo := fun ⟨x, hx, a, b, e⟩ => by
    obtain ⟨w1, w2, w3, w4⟩ := h1 x hx
    have := (along_in w1 w2 a b).1
    grind
  hi := fun ⟨x, hx, a, b, e⟩ => by
    obtain ⟨w1, w2, w3, w4⟩ := h1 x hx
    have := (along_in w1 w2 a b).2
    grind
  up := fun ⟨x, hx, a, b, e⟩ ⟨y, hy, c, d, f⟩ z => by
    obtain ⟨w1, w2, w3, w4⟩ := h1 x hx
    obtain ⟨v1, v2, v3, v4⟩ := h1 y hy
    have p := (along_in w1 w2 a b).2
    have q := (along_in v1 v2 c d).1
    rcases h2 x hx y hy with k | ⟨k1, k2⟩ | ⟨k1, k2⟩
    · subst k
      have := along_lt w1 w2 z
      grind
    · grind
    · grind
  fn := fun ⟨x, hx, a, b, e⟩ ⟨y, hy, c, d, f⟩ => by
    rcases h2 x hx y hy with k | ⟨k1, k2⟩ | ⟨k1, k2⟩
    · subst k; rw [e, f]
    · grind
    · grind
theorem zp_pos {p : Rat} (hp : 0 < p) (E : Int) : 0 < p ^ E := by
  have hn : ∀ n : Nat, 0 < p ^ (n : Int) := fun n => by
    induction n with
    | zero => rw [show ((0 : Nat) : Int) = 0 from rfl, Rat.zpow_zero]; decide
    | succ n ih =>
      rw [show ((n + 1 : Nat) : Int) = (n : Int) + 1 by omega, Rat.zpow_add_one (by grind)]
      exact Rat.mul_pos ih hp
  rcases Int.le_total 0 E with z | z
  · rw [show E = ((E.toNat : Nat) : Int) by omega]
    exact hn _
  · rw [show E = -(((-E).toNat : Nat) : Int) by omega, Rat.zpow_neg]
    have := hn (-E).toNat
    exact Rat.inv_pos.mpr this
theorem zp_succ {p : Rat} (hp : 1 < p) (E : Int) : p ^ E < p ^ (E + 1) := by
  rw [Rat.zpow_add_one (by grind)]
  have := zp_pos (show 0 < p by grind) E
  have h : p ^ E * 1 < p ^ E * p := Rat.mul_lt_mul_of_pos_left hp this
  grind
theorem zp_le {p : Rat} (hp : 1 < p) {a b : Int} (h : a ≤ b) : p ^ a ≤ p ^ b := by
  have hn : ∀ n : Nat, p ^ a ≤ p ^ (a + (n : Int)) := fun n => by
    induction n with
    | zero => rw [show a + ((0 : Nat) : Int) = a by omega]; exact Rat.le_refl
    | succ n ih =>
      have := zp_succ hp (a + (n : Int))
      rw [show a + ((n + 1 : Nat) : Int) = a + (n : Int) + 1 by omega]
      grind
  have := hn (b - a).toNat
  rw [show a + (((b - a).toNat : Nat) : Int) = b by omega] at this
  exact this
theorem zp_exp {p : Rat} (hp : 1 < p) {a b : Int} {v : Rat} (h1 : p ^ a ≤ v) (h2 : v < p ^ b) : a < b := by
  rcases Int.lt_or_le a b with z | z
  · exact z
  · have := zp_le hp z
    grind
noncomputable def RTur (p : Rat) (low many : Int) (L : Rat) : Rat → Rat → Prop := fun v r => ∃ E : Int, p ^ E ≤ v ∧ v < p ^ (E + 1) ∧ low ≤ E ∧ E ≤ low + many ∧ (E = low + many → v = p ^ E) ∧ r = (((E - low : Int) : Rat) + (v - p ^ E) / (p ^ E * (p - 1))) * (L / (many : Rat))
theorem tur_part {p v : Rat} {E : Int} (hp : 1 < p) (h1 : p ^ E ≤ v) (h2 : v < p ^ (E + 1)) : 0 ≤ (v - p ^ E) / (p ^ E * (p - 1)) ∧ (v - p ^ E) / (p ^ E * (p - 1)) < 1 := by
  have hq := zp_pos (show 0 < p by grind) E
  have hd : 0 < p ^ E * (p - 1) := Rat.mul_pos hq (by grind)
  rw [Rat.zpow_add_one (by grind)] at h2
  constructor
  · rw [← Rat.not_lt, Rat.div_lt_iff hd]
    grind
  · rw [Rat.div_lt_iff hd]
    grind
theorem Sc.tur {p : Rat} {low many : Int} {L : Rat} (hp : 1 < p) (hm : 0 < many) (hl : 0 < L) : Sc (RTur p low many L) L := by
  have hm' : (0 : Rat) < (many : Rat) := cast_pos hm
  have hs : 0 < L / (many : Rat) := by rw [Rat.lt_div_iff hm']; grind
  have fnE : ∀ {v : Rat} {E E' : Int}, p ^ E ≤ v → v < p ^ (E + 1) → p ^ E' ≤ v → v < p ^ (E' + 1) → E = E' := fun a b c d => by
    have := zp_exp hp a d
    have := zp_exp hp c b
    omega
  refine ⟨?_, ?_, ?_, ?_⟩
  · rintro v r ⟨E, a, b, c, d, e, rfl⟩
    have t := (tur_part hp a b).1
    have c' : (0 : Rat) ≤ ((E - low : Int) : Rat) := Rat.intCast_le_intCast.mpr (by omega : (0 : Int) ≤ E - low)
    exact Rat.mul_nonneg (by grind) (by grind)
  · rintro v r ⟨E, a, b, c, d, e, rfl⟩
    have key : ((E - low : Int) : Rat) + (v - p ^ E) / (p ^ E * (p - 1)) ≤ (many : Rat) := by
      by_cases k : E = low + many
      · have z := e k
        have z2 : (v - p ^ E) / (p ^ E * (p - 1)) = 0 := by rw [← z]; grind
        rw [z2, show E - low = many by omega]
        grind
      · have t := (tur_part hp a b).2
        have c' : ((E - low : Int) : Rat) ≤ ((many - 1 : Int) : Rat) := Rat.intCast_le_intCast.mpr (by omega)
        rw [Rat.intCast_sub many] at c'
        have : ((1 : Int) : Rat) = 1 := rfl
        grind
    have := Rat.mul_le_mul_of_nonneg_right key (show 0 ≤ L / (many : Rat) by grind)
    have e2 : (many : Rat) * (L / (many : Rat)) = L := by grind
    rw [e2] at this
    exact this
  · rintro v w r s ⟨E, a, b, c, d, e, rfl⟩ ⟨E', a', b', c', d', e', rfl⟩ z
    refine Rat.mul_lt_mul_of_pos_right ?_ hs
    have hE : E < E' + 1 := zp_exp hp a (by grind)
    by_cases k : E = E'
    · subst k
      have hq := zp_pos (show 0 < p by grind) E
      have := div_lt_div (Rat.mul_pos hq (show 0 < p - 1 by grind)) (show v - p ^ E < w - p ^ E by grind)
      grind
    · have t := (tur_part hp a b).2
      have t' := (tur_part hp a' b').1
      have c2 : ((E - low : Int) : Rat) ≤ ((E' - low - 1 : Int) : Rat) := Rat.intCast_le_intCast.mpr (by omega)
      rw [Rat.intCast_sub (E' - low)] at c2
      have : ((1 : Int) : Rat) = 1 := rfl
      grind
  · rintro v r s ⟨E, a, b, c, d, e, rfl⟩ ⟨E', a', b', c', d', e', rfl⟩
    have := fnE a b a' b'
    subst this
    rfl
end My
namespace My
end My
namespace L2
open PySem PySem.Spec PyProof.Rows
noncomputable def rIsN : R2 := fun x y H Q => y = .non ∧ Q (.bl (decide (x = .non))) H
theorem op_isN' {X : Cx} : OpR X (compareOp .Is) rIsN := op_isN
inductive SetTo : St → Nat → Option V → St → Prop
  | here {x : Option V} {r : St} {v : Option V} : SetTo (x :: r) 0 v (v :: r)
  | next {x : Option V} {r : St} {v : Option V} {i : Nat} {r' : St} : SetTo r i v r' → SetTo (x :: r) (i + 1) v (x :: r')
theorem SetTo.eq {σ σ' : St} {i : Nat} {v : Option V} (h : SetTo σ i v σ') : σ.set i v = σ' := by
  induction h with
  | here => rfl
  | next _ ih => rw [List.set_cons_succ, ih]
inductive GetTo : St → Nat → V → Prop
  | here {v : V} {r : St} : GetTo (some v :: r) 0 v
  | next {x : Option V} {r : St} {v : V} {i : Nat} : GetTo r i v → GetTo (x :: r) (i + 1) v
theorem GetTo.eq {σ : St} {i : Nat} {v : V} (h : GetTo σ i v) : σ[i]? = some (some v) := by
  induction h with
  | here => rfl
  | next _ ih => rw [List.getElem?_cons_succ, ih]
section
variable {σ σ' : St} {H : Hp} {Q : VK} {i j : Int} {k : Nat} {v x y : V} {te ta tb tc : TE} {t u : TS} {nx bk ct : St → Hp → Prop} {rt : VK} {c d : TT} {R : Bool → Hp → Prop} {r r' : R2} {b : Bool}
theorem z_var (h : GetTo σ k v) (q : Q v H) : tVar k σ H Q := ⟨v, h.eq, q⟩
theorem z_c (q : Q v H) : tC v σ H Q := q
theorem z_op (h : ta σ H fun x H1 => tb σ H1 fun y H2 => r x y H2 Q) : tOp r ta tb σ H Q := h
theorem z_un {r : V → Hp → VK → Prop} (h : ta σ H fun x H1 => r x H1 Q) : tUn r ta σ H Q := h
theorem z_I {C : Int → Int → Prop} {g : Int → Int → V} (hc : C i j) (q : Q (g i j) H) : rI C g (.int i) (.int j) H Q := ⟨i, j, rfl, rfl, hc, q⟩
theorem z_I0 {g : Int → Int → V} (q : Q (g i j) H) : rI0 g (.int i) (.int j) H Q := ⟨i, j, rfl, rfl, q⟩
theorem z_U {g : Int → V} (q : Q (g i) H) : rU g (.int i) H Q := ⟨i, rfl, q⟩
theorem zdec_int : decide (V.int i = V.int j) = decide (i = j) := by
  by_cases h : i = j
  · subst h; simp
  · rw [decide_eq_false h, decide_eq_false (fun z => h (V.int.inj z))]
theorem zdec_str {a b : Str} : decide (V.str a = V.str b) = decide (a = b) := by
  by_cases h : a = b
  · subst h; simp
  · rw [decide_eq_false h, decide_eq_false (fun z => h (V.str.inj z))]
theorem z_EqI (q : Q (.bl (decide (i = j))) H) : rEq (.int i) (.int j) H Q := ⟨rfl, by rw [zdec_int]; exact q⟩
theorem z_NeI (q : Q (.bl (!decide (i = j))) H) : rNe (.int i) (.int j) H Q := ⟨rfl, by rw [zdec_int]; exact q⟩
theorem z_EqS {a b : Str} (q : Q (.bl (decide (a = b))) H) : rEq (.str a) (.str b) H Q := ⟨rfl, by rw [zdec_str]; exact q⟩
theorem z_test (h : te σ H fun x H' => ∃ k, x = .bl k ∧ R k H') : tTest te σ H R := h
theorem z_tB (h : te σ H fun x H' => ∃ k, x = .bl k ∧ R k H') : tB te σ H R := h
theorem z_ebl {S : Bool → Prop} (q : S b) : ∃ k, V.bl b = .bl k ∧ S k := ⟨b, rfl, q⟩
theorem z_not (h : c σ H fun k H1 => R (!k) H1) : tNot c σ H R := h
theorem z_andV (h : ta σ H fun x H1 => ∃ c, x = .bl c ∧ if c = true then tb σ H1 Q else Q (.bl false) H1) : tAndV ta tb σ H Q := h
theorem z_notV (h : ta σ H fun x H1 => ∃ c, x = .bl c ∧ Q (.bl (!c)) H1) : tNotV ta σ H Q := h
theorem z_if (h : c σ H fun k H1 => if k = true then ta σ H1 Q else tb σ H1 Q) : tIf c ta tb σ H Q := h
theorem z_chain (h : ta σ H fun x H1 => tb σ H1 fun y H2 => r x y H2 fun z H3 => ∃ k, z = .bl k ∧ (if k = true then tc σ H3 fun w' H4 => r' y w' H4 Q else Q (.bl false) H3)) : tChain r r' ta tb tc σ H Q := h
theorem z_nil {S : List V → Hp → Prop} (q : S [] H) : tNil σ H S := q
theorem z_cons {S : List V → Hp → Prop} {tr : TA} (h : ta σ H fun x H1 => tr σ H1 fun xs H2 => S (x :: xs) H2) : tCons ta tr σ H S := h
theorem z_seq (h : t ⟨u ⟨nx, rt, bk, ct⟩, rt, bk, ct⟩ σ H) : tSeq t u ⟨nx, rt, bk, ct⟩ σ H := h
theorem z_next (h : nx σ H) : tNext ⟨nx, rt, bk, ct⟩ σ H := h
theorem z_ret (h : te σ H rt) : tRet te ⟨nx, rt, bk, ct⟩ σ H := h
theorem z_ifs (h : c σ H fun b H1 => if b = true then t ⟨nx, rt, bk, ct⟩ σ H1 else u ⟨nx, rt, bk, ct⟩ σ H1) : tIfS c t u ⟨nx, rt, bk, ct⟩ σ H := h
theorem z_asg {g : TG} (h : te σ H fun x H1 => g x σ H1 nx) : tAsg te g ⟨nx, rt, bk, ct⟩ σ H := h
theorem z_name {S : St → Hp → Prop} (h : SetTo σ k (some v) σ') (q : S σ' H) : gName k v σ H S := by
  show S (σ.set k (some v)) H
  rw [h.eq]; exact q
theorem z_iteD {c A B : Prop} [Decidable c] (h1 : c → A) (h2 : ¬ c → B) : if decide c = true then A else B := by
  by_cases h : c
  · rw [decide_eq_true h]; exact iteT (h1 h)
  · rw [decide_eq_false h]; exact iteF (h2 h)
theorem z_iteNb {b : Bool} {A B : Prop} (h : if b = true then B else A) : if (!b) = true then A else B := by
  cases b with
  | true => exact iteF h
  | false => exact iteT h
theorem z_ite2 {b : Bool} {A B : Prop} (h1 : b = true → A) (h2 : b = false → B) : if b = true then A else B := by
  cases b with
  | true => exact iteT (h1 rfl)
  | false => exact iteF (h2 rfl)
theorem z_call0 {sp : Sp} {E : XK} {tA : TA} (h : tA σ H fun vs H1 => sp vs H1 Q E) : tCall sp [] E tA σ H Q := by
  unfold tCall
  simpa using h
theorem z_callD {sp : Sp} {E : XK} {tA : TA} {w : V} (h : tA σ H fun vs H1 => sp (vs ++ [w]) H1 Q E) : tCall sp [w] E tA σ H Q := h
theorem z_cb {rr : List V → Hp → VK → Prop} {tA : TA} (h : tA σ H fun vs H1 => rr vs H1 Q) : tCB rr tA σ H Q := h
theorem z_ixT {K : PySem.W.Frag} {p : Addr} {xs : List V} (hs : SqT K H p xs) (ha : atI xs i = some v) (q : Q v H) : rIxT K (.ref p) (.int i) H Q := ⟨p, xs, i, v, rfl, rfl, hs, ha, q⟩
theorem z_ixL {K : PySem.W.Frag} {p : Addr} {xs : List V} (hs : SqL K H p xs) (ha : atI xs i = some v) (q : Q v H) : rIxL K (.ref p) (.int i) H Q := ⟨p, xs, i, v, rfl, rfl, hs, ha, q⟩
theorem z_nonN (q : Q (.bl true) H) : rIsN .non .non H Q := ⟨rfl, q⟩
theorem z_nonI (q : Q (.bl false) H) : rIsN (.int i) .non H Q := ⟨rfl, q⟩
theorem z_nonS {a : Str} (q : Q (.bl false) H) : rIsN (.str a) .non H Q := ⟨rfl, q⟩
theorem z_nonR {p : Addr} (q : Q (.bl false) H) : rIsN (.ref p) .non H Q := ⟨rfl, q⟩
theorem z_len {K : PySem.W.Frag} {p : Addr} {ys : List V} {S : List V → Prop} (hs : SqL K H p ys ∨ SqT K H p ys) (q : S ys) : ∃ p' ys', [V.ref p] = [V.ref p'] ∧ (SqL K H p' ys' ∨ SqT K H p' ys') ∧ S ys' := ⟨p, ys, rfl, hs, q⟩
theorem z_bm {K : PySem.W.Frag} {T : String} {rr : V → List V → Hp → VK → Prop} {tA : TA} (h : te σ H fun x H1 => tyV K T x H1 ∧ tA σ H1 fun xs H2 => rr x xs H2 Q) : tBM K T rr te tA σ H Q := h
end
theorem sm2 {A B C : Hp} (g : Same B C) (h : Same A B) : Same A C := h.trans g
noncomputable def But (l : Addr) (H H' : Hp) : Prop := ∀ b o, b ≠ l → H b = some o → H' b = some o
theorem But.upd {H : Hp} {l : Addr} {o : HO} : But l H (upd H l o) := fun b u hb q => by rw [upd_ne hb]; exact q
theorem But.tup {K : PySem.W.Frag} {H H' : Hp} {l a : Addr} {xs ys : List V} (e : But l H H') (hl : H l = some (.lst ys)) (h : SqT K H a xs) : SqT K H' a xs := by
  rcases h with (h | ⟨o, h⟩) | h
  · exact .inl (.inl (e _ _ (fun z => by rw [z, hl] at h; cases h) h))
  · exact .inl (.inr ⟨o, e _ _ (fun z => by rw [z, hl] at h; cases h) h⟩)
  · exact .inr h
theorem But.seq {K : PySem.W.Frag} {H H' : Hp} {l a : Addr} {xs : List V} (e : But l H H') (hne : a ≠ l) (h : SqL K H a xs) : SqL K H' a xs := by
  rcases h with (h | ⟨o, h⟩) | h
  · exact .inl (.inl (e _ _ hne h))
  · exact .inl (.inr ⟨o, e _ _ hne h⟩)
  · exact .inr h
section
variable {σ σ' : St} {H : Hp} {Q : VK}
end
section
variable {σ : St} {H : Hp} {te : TE} {tb : TS} {g : TG} {nx bk ct : St → Hp → Prop} {rt : VK} {wi : TI} {K : PySem.W.Frag} {a : Addr} {xs : List V}
noncomputable def FW (J : It) (g : TG) (tb : TS) (nx : St → Hp → Prop) (rt : VK) (σ : St) (H : Hp) : Prop := ∃ W : Nat → Nat → St → Hp → Prop, (∃ m, W 0 m σ H) ∧ ∀ i m σ H, W i m σ H →
  (J.stop i H ∧ nx σ H) ∨ (J.go i H ∧ ∃ N : St → Hp → Prop, (∀ σ' H', N σ' H' → ∃ m', m' < m ∧ W (i + 1) m' σ' H') ∧ ∀ x H', J.yld i H x H' → g x σ H' fun σ2 H2 => tb ⟨N, rt, nx, N⟩ σ2 H2)
theorem z_for (h : wi σ H fun J H1 => FW J g tb nx rt σ H1) : tFor wi g tb ⟨nx, rt, bk, ct⟩ σ H := h
theorem z_iL {R : It → Hp → Prop} (h : te σ H fun x H1 => ∃ a, x = .ref a ∧ (∃ xs, SqL K H1 a xs) ∧ R (Itl K a) H1) : iList K te σ H R := h
theorem z_iL2 {S : Addr → Prop} (hs : SqL K H a xs) (q : S a) : ∃ a', V.ref a = .ref a' ∧ (∃ xs, SqL K H a' xs) ∧ S a' := ⟨a, rfl, ⟨xs, hs⟩, q⟩
theorem f_list (Pv : Nat → St → Hp → Prop) (h0 : Pv 0 σ H) (hl : ∀ i σ H, i ≤ xs.length → Pv i σ H → SqL K H a xs)
    (hs : ∀ i x σ H, xs[i]? = some x → Pv i σ H → g x σ H fun σ2 H2 => tb ⟨Pv (i + 1), rt, nx, Pv (i + 1)⟩ σ2 H2) (hd : ∀ σ H, Pv xs.length σ H → nx σ H) : FW (Itl K a) g tb nx rt σ H := for_list (D := ⟨nx, rt, nx, nx⟩) Pv h0 hl hs hd
end
section
variable {H : Hp} {Q : VK} {K : PySem.W.Frag} {i : Int} {a : Str} {b : Bool} {p : Addr} {xs : List V}
end
theorem bd_mul {m n : Nat} {x y : Int} (h : My.Bd m x) (g : My.Bd n y) : My.Bd (m + n) (x * y) := h.mul g
theorem bd_add {m n : Nat} {x y : Int} (h : My.Bd m x) (g : My.Bd n y) : My.Bd (max m n + 1) (x + y) := (h.mono (show m ≤ max m n by omega)).add (g.mono (show n ≤ max m n by omega))
theorem bd_sub {m n : Nat} {x y : Int} (h : My.Bd m x) (g : My.Bd n y) : My.Bd (max m n + 1) (x - y) := (h.mono (show m ≤ max m n by omega)).sub (g.mono (show n ≤ max m n by omega))
theorem bd_60 {n : Int} (h1 : -1152921504606846976 < n) (h2 : n < 1152921504606846976) : My.Bd 60 n := by unfold My.Bd; omega
theorem bt_max : bootBuiltins "max" = some (.builtin "max") := by decide +kernel
theorem bt_min : bootBuiltins "min" = some (.builtin "min") := by decide +kernel
theorem Same.but {H H2 H3 : Hp} {l : Addr} (s : Same H H2) (n : H l = none) (b : But l H2 H3) : Same H H3 := fun c o e => b c o (fun z => by rw [z, n] at e; cases e) (s c o e)
theorem z_tyL {K : PySem.W.Frag} {l : Addr} {xs : List V} {H : Hp} {S : Prop} (h : SqL K H l xs) (q : S) : tyV K "list" (.ref l) H ∧ S := ⟨.inl ⟨rfl, xs, h⟩, q⟩
theorem z_go {N : List Str} {vs : List V} {σ : St} {t : TS} {D : Ends} {H : Hp} (h : start N vs = σ) (q : t D σ H) : t D (start N vs) H := by rw [h]; exact q
end L2
namespace L2
open PySem PySem.Spec PyProof.Rows
end L2
namespace L2
open PySem PySem.Spec PyProof.Rows
section
variable {X : Cx} {elt iter tg : Expr} {ifs : List Expr} {tgs : List Str} {pos : Pos} {sc : Scope} {fr : List (Str × Nat)} {wi : TI} {te : TE} {g : TG} {tc : TT}
end
end L2
namespace L2
open PySem PySem.Spec PyProof.Rows
inductive Alike (K : PySem.W.Frag) (H : Hp) : Nat → V → V → Prop
  | int {n : Nat} {i : Int} : Alike K H n (.int i) (.int i)
  | str {n : Nat} {x : Str} : Alike K H n (.str x) (.str x)
  | bl {n : Nat} {b : Bool} : Alike K H n (.bl b) (.bl b)
  | non {n : Nat} : Alike K H n .non .non
  | ref {n : Nat} {a : Addr} : Alike K H n (.ref a) (.ref a)
  | tup {n : Nat} {p q : Addr} {xs ys : List V} (h1 : SqT K H p xs) (h2 : SqT K H q ys) (hl : xs.length = ys.length) (he : ∀ (j : Nat) (x y : V), xs[j]? = some x → ys[j]? = some y → Alike K H n x y) : Alike K H (n + 1) (.ref p) (.ref q)
  | lst {n : Nat} {p q : Addr} {xs ys : List V} (h1 : SqL K H p xs) (h2 : SqL K H q ys) (hl : xs.length = ys.length) (he : ∀ (j : Nat) (x y : V), xs[j]? = some x → ys[j]? = some y → Alike K H n x y) : Alike K H (n + 1) (.ref p) (.ref q)
theorem vals_at {xs : List V} {us : List Value} (h : Vals xs us) : ∀ {j : Nat} {u : Value}, us[j]? = some u → ∃ x, xs[j]? = some x ∧ RelV x u := by
  induction h with
  | nil => intro j u e; simp at e
  | cons r rr ih =>
    intro j u e
    cases j with
    | zero => exact ⟨_, rfl, by rw [List.getElem?_cons_zero] at e; cases e; exact r⟩
    | succ j => exact ih (by rw [List.getElem?_cons_succ] at e; exact e)
theorem all_true {n : Nat} : (List.range n).all (fun _ => true) = true := by rw [List.all_eq_true]; intro _ _; rfl
section
variable {X : Cx} {pins : List (Addr × Obj)} {σ : St} {H : Hp} {s : Shared}
theorem Inv.alike (I : Inv X pins σ H s) {n : Nat} {x y : V} (h : Alike X.K H n x y) : ∀ {A : Around} {u v : Value}, A.units + n < cLine → RelV x u → RelV y v → SeqAt.EqAt A s u v true := by
  induction h with
  | @int n i =>
    intro A u v hu r1 r2
    obtain ⟨t, rfl⟩ := r1
    obtain ⟨t', rfl⟩ := r2
    have := SeqAt.EqAt.int_int (A := A) (s := s) i t i t'
    rw [beq_self_eq_true] at this
    exact this
  | @str n x =>
    intro A u v hu r1 r2
    obtain ⟨t, rfl⟩ := r1
    obtain ⟨t', rfl⟩ := r2
    have := SeqAt.EqAt.str_str (A := A) (s := s) x t x t'
    rw [beq_self_eq_true] at this
    exact this
  | bl => intro A u v hu r1 r2; cases r1; cases r2; exact SeqAt.EqAt.same _
  | non => intro A u v hu r1 r2; cases r1; cases r2; exact SeqAt.EqAt.same _
  | ref => intro A u v hu r1 r2; cases r1; cases r2; exact SeqAt.EqAt.same _
  | @tup n p q xs ys h1 h2 hl he ih =>
    intro A u v hu r1 r2
    cases r1
    cases r2
    by_cases e : p = q
    · subst e; exact SeqAt.EqAt.same _
    · refine SeqAt.EqAt.of_refs e ?_
      obtain ⟨its, v1, p1, _⟩ := I.tuple h1
      obtain ⟨its2, v2, p2, _⟩ := I.tuple h2
      have l1 := v1.length
      have l2 := v2.length
      have key := SeqAt.RcAt.tuples (A := A) (s := s) (l := p) (b := q) (items := its.toArray) (items2 := its2.toArray) (e := fun _ => true) p1 p2 (by omega) (fun j g1 g2 => by
        have g1' : j < its.length := by simpa using g1
        have g2' : j < its2.length := by simpa using g2
        obtain ⟨x, ex, rx⟩ := vals_at v1 (List.getElem?_eq_getElem g1')
        obtain ⟨y, ey, ry⟩ := vals_at v2 (List.getElem?_eq_getElem g2')
        have w1 : its.toArray[j] = its[j] := by simp
        have w2 : its2.toArray[j] = its2[j] := by simp
        rw [w1, w2]
        exact ih j x y ex ey (by show A.units + 1 + n < cLine; omega) rx ry)
      have e2 : ((List.range (min its.toArray.size its2.toArray.size)).all (fun _ => true) && its.toArray.size == its2.toArray.size) = true := by
        rw [all_true, Bool.true_and, List.size_toArray, List.size_toArray, ← l1, ← l2, hl, beq_self_eq_true]
      rw [e2] at key
      exact key
  | @lst n p q xs ys h1 h2 hl he ih =>
    intro A u v hu r1 r2
    cases r1
    cases r2
    by_cases e : p = q
    · subst e; exact SeqAt.EqAt.same _
    · refine SeqAt.EqAt.of_refs e ?_
      obtain ⟨its, v1, p1, _⟩ := I.list h1
      obtain ⟨its2, v2, p2, _⟩ := I.list h2
      have l1 := v1.length
      have l2 := v2.length
      have key := SeqAt.RcAt.lists (A := A) (s := s) (l := p) (b := q) (items := its.toArray) (items2 := its2.toArray) (e := fun _ => true) p1.isList p2.isList (by rw [List.size_toArray, List.size_toArray, ← l1, ← l2, hl]) (by omega) (fun j g1 g2 => by
        have g1' : j < its.length := by simpa using g1
        have g2' : j < its2.length := by simpa using g2
        obtain ⟨x, ex, rx⟩ := vals_at v1 (List.getElem?_eq_getElem g1')
        obtain ⟨y, ey, ry⟩ := vals_at v2 (List.getElem?_eq_getElem g2')
        have w1 : its.toArray[j] = its[j] := by simp
        have w2 : its2.toArray[j] = its2[j] := by simp
        rw [w1, w2]
        exact ih j x y ex ey (by show A.units + 1 + n < cLine; omega) rx ry)
      rw [all_true] at key
      exact key
noncomputable def AlikeS (K : PySem.W.Frag) (H : Hp) (p q : Addr) : Prop := ∃ (n : Nat) (xs ys : List V), n ≤ 100 ∧ ((SqT K H p xs ∧ SqT K H q ys) ∨ (SqL K H p xs ∧ SqL K H q ys)) ∧ xs.length = ys.length ∧ ∀ (j : Nat) (x y : V), xs[j]? = some x → ys[j]? = some y → Alike K H n x y
noncomputable def rAlk (K : PySem.W.Frag) (b : Bool) : R2 := fun x y H Q => ∃ p q, x = .ref p ∧ y = .ref q ∧ AlikeS K H p q ∧ Q (.bl b) H
theorem op_neA (hu : X.A.units + 150 < cLine) : OpR X (compareOp .NotEq) (rAlk X.K false) := by
  intro pins s σ H x y v u Q I rx ry h
  obtain ⟨p, q, rfl, rfl, ⟨n, xs, ys, hn, hs, hl, he⟩, k⟩ := h
  cases rx
  cases ry
  rcases hs with ⟨h1, h2⟩ | ⟨h1, h2⟩
  · obtain ⟨its, v1, p1, _⟩ := I.tuple h1
    obtain ⟨its2, v2, p2, _⟩ := I.tuple h2
    have l1 := v1.length
    have l2 := v2.length
    have key := SeqAt.RcNeAt.tuples (A := X.A) (s := s) (l := p) (b := q) (items := its.toArray) (items2 := its2.toArray) (e := fun _ => true) p1 p2 (by omega) (fun j g1 g2 => by
      have g1' : j < its.length := by simpa using g1
      have g2' : j < its2.length := by simpa using g2
      obtain ⟨x, ex, rx⟩ := vals_at v1 (List.getElem?_eq_getElem g1')
      obtain ⟨y, ey, ry⟩ := vals_at v2 (List.getElem?_eq_getElem g2')
      have w1 : its.toArray[j] = its[j] := by simp
      have w2 : its2.toArray[j] = its2[j] := by simp
      rw [w1, w2]
      exact I.alike (he j x y ex ey) (by show X.A.units + 1 + n < cLine; omega) rx ry)
    have e2 : (!((List.range (min its.toArray.size its2.toArray.size)).all (fun _ => true) && its.toArray.size == its2.toArray.size)) = false := by
      rw [all_true, Bool.true_and, List.size_toArray, List.size_toArray, ← l1, ← l2, hl, beq_self_eq_true]; rfl
    rw [e2] at key
    exact key _ _ _ _ ⟨.bl false, H, I, rfl, k⟩
  · obtain ⟨its, v1, p1, _⟩ := I.list h1
    obtain ⟨its2, v2, p2, _⟩ := I.list h2
    have l1 := v1.length
    have l2 := v2.length
    have key := SeqAt.RcNeAt.lists (A := X.A) (s := s) (l := p) (b := q) (items := its.toArray) (items2 := its2.toArray) (e := fun _ => true) p1.isList p2.isList (by rw [List.size_toArray, List.size_toArray, ← l1, ← l2, hl]) (by omega) (fun j g1 g2 => by
      have g1' : j < its.length := by simpa using g1
      have g2' : j < its2.length := by simpa using g2
      obtain ⟨x, ex, rx⟩ := vals_at v1 (List.getElem?_eq_getElem g1')
      obtain ⟨y, ey, ry⟩ := vals_at v2 (List.getElem?_eq_getElem g2')
      have w1 : its.toArray[j] = its[j] := by simp
      have w2 : its2.toArray[j] = its2[j] := by simp
      rw [w1, w2]
      exact I.alike (he j x y ex ey) (by show X.A.units + 1 + n < cLine; omega) rx ry)
    rw [all_true] at key
    exact key _ _ _ _ ⟨.bl false, H, I, rfl, k⟩
end
theorem Room.un150 {k : Nat} {A : Around} (r : Room k A) : A.units + 150 < cLine := by have := r.un; omega
end L2
namespace L2
open PySem PySem.Spec PyProof.Rows PySem.W PySem.Calls
end L2
namespace L2
open PySem PySem.Spec PyProof.Rows
noncomputable def rIndex (K : PySem.W.Frag) : V → List V → Hp → VK → Prop := fun x vs H Q => ∃ (l : Addr) (xs : List V) (y z : V) (j : Nat), x = .ref l ∧ vs = [y] ∧ SqL K H l xs ∧ flatV y = true ∧ xs.all flatV = true ∧ xs[j]? = some z ∧ eqV z y = true ∧ (∀ (i : Nat) (u : V), i < j → xs[i]? = some u → eqV u y = false) ∧ Q (.int j) H
section
variable {X : Cx}
theorem flat_at {xs : List V} (h : xs.all flatV = true) {j : Nat} {x : V} (hx : xs[j]? = some x) : flatV x = true := List.all_eq_true.mp h x (List.mem_of_getElem? hx)
theorem mt_index : MtM X "list.index" (rIndex X.K) := by
  intro pins s σ H x vs v us Q I rx rv h
  obtain ⟨l, xs, y, z, j, rfl, rfl, hq, fy, fs, hz, hit, hno, q⟩ := h
  cases rx
  obtain ⟨u, rfl, ru⟩ := rv.one
  obtain ⟨its, r, pl, hsz⟩ := I.list hq
  have hlen := r.length
  have hj : j < xs.length := by
    rcases Nat.lt_or_ge j xs.length with c | c
    · exact c
    · rw [List.getElem?_eq_none c] at hz; cases hz
  have h63 := line63
  obtain ⟨⟨cls, dd, data, sl⟩, n, ho, hc, _, hd⟩ := id pl
  simp only at hc hd
  subst hc hd
  have at_ : ∀ (i : Nat) (hi : i < its.length), ∃ w, xs[i]? = some w ∧ eqU y its[i] = eqV w y := fun i hi => by
    obtain ⟨w, hw, rw'⟩ : ∃ w, xs[i]? = some w ∧ RelV w its[i] := by
      have : ∀ {xs : List V} {us : List Value}, Vals xs us → ∀ {i : Nat} {u : Value}, us[i]? = some u → ∃ x, xs[i]? = some x ∧ RelV x u := by
        intro xs us h
        induction h with
        | nil => intro i u e; simp at e
        | cons r rr ih =>
          intro i u e
          cases i with
          | zero => exact ⟨_, rfl, by rw [List.getElem?_cons_zero] at e; cases e; exact r⟩
          | succ i => exact ih (by rw [List.getElem?_cons_succ] at e; exact e)
      exact this r (List.getElem?_eq_getElem hi)
    exact ⟨w, hw, eqU_of rw' (flat_at fs hw)⟩
  refine call_meets PySem.F.slot_list_index ⟨_, ho, rfl⟩ PySem.F.entry_list_index (PySem.F.args_list_index_2 _ _)
    (SeqAt.list_indexAt l its.toArray n dd sl u (eqU y) j (by simpa [← hlen] using hj) (by omega) ?_ ?_) ⟨ho, fun w hw => mem_eqAt ru fy r fs w (by simpa using hw), ⟨.int j, H, I.tok _, ⟨_, rfl⟩, q⟩⟩
  · obtain ⟨w, hw, e⟩ := at_ j (by omega)
    rw [hz] at hw
    cases hw
    show eqU y its.toArray[j] = true
    rw [show its.toArray[j]'(by simpa [← hlen] using hj) = its[j]'(by omega) by simp, e]
    exact hit
  · intro i hi hlt
    have hi' : i < its.length := by simpa using hi
    obtain ⟨w, hw, e⟩ := at_ i hi'
    show eqU y its.toArray[i] = false
    rw [show its.toArray[i] = its[i] by simp, e]
    exact hno i w hlt hw
noncomputable def rAddS : R2 := fun x y H Q => ∃ i j, x = .str i ∧ y = .str j ∧ i.length + j.length ≤ sizeLine ∧ Q (.str (i ++ j)) H
theorem op_addS : OpR X (binaryOp .Add) rAddS := op_add_str
end
section
variable {σ : St} {H : Hp} {Q : VK} {K : PySem.W.Frag} {p q : Addr} {xs : List V} {f : Bool → Bool}
theorem z_in {b : Bool} {x : V} (h : SqL K H p xs) (fx : flatV x = true) (fs : xs.all flatV = true) (k : Q (.bl (if b then !inV x xs else inV x xs)) H) : rIn K b x (.ref p) H Q := ⟨p, xs, rfl, .inl h, fx, fs, k⟩
theorem z_index {y z : V} {j : Nat} (h : SqL K H p xs) (fy : flatV y = true) (fs : xs.all flatV = true) (hz : xs[j]? = some z) (hit : eqV z y = true) (hno : ∀ (i : Nat) (u : V), i < j → xs[i]? = some u → eqV u y = false) (k : Q (.int j) H) : rIndex K (.ref p) [y] H Q := ⟨p, xs, y, z, j, rfl, rfl, h, fy, fs, hz, hit, hno, k⟩
end
end L2
namespace L2
open PySem PySem.Spec PyProof.Rows
noncomputable def IsMax (ns : List Int) (m : Int) : Prop := m ∈ ns ∧ ∀ n ∈ ns, n ≤ m
noncomputable def rMax (K : PySem.W.Frag) : List V → Hp → VK → Prop := fun xs H Q => ∃ (p : Addr) (ns : List Int) (m : Int), xs = [.ref p] ∧ SqL K H p (ns.map V.int) ∧ IsMax ns m ∧ Q (.int m) H
theorem z_max {K : PySem.W.Frag} {H : Hp} {Q : VK} {p : Addr} {ns : List Int} {m : Int} (h : SqL K H p (ns.map V.int)) (hm : IsMax ns m) (q : Q (.int m) H) : rMax K [.ref p] H Q := ⟨p, ns, m, rfl, h, hm, q⟩
section
variable {prog : Program} {w : World} {A : Around} {R : Result → Shared → Prop} {I : Addr} {fp wr : List Addr} {n : Nat} {P : Nat → Value → Prop} {St : Nat → Heap → Prop} {kw : List (Str × Value)}
end
section
variable {X : Cx}
end
end L2
namespace L2
open PySem PySem.Spec PyProof.Rows
section
variable {σ : St} {H : Hp} {Q : VK}
end
end L2
namespace L2
open PySem PySem.Spec PyProof.Rows PySem.Builtin PySem.Builtin.Str
section
variable {X : Cx}
noncomputable def rAll (K : PySem.W.Frag) : List V → Hp → VK → Prop := fun xs H Q => ∃ (p : Addr) (bs : List Bool), xs = [.ref p] ∧ SqL K H p (bs.map V.bl) ∧ Q (.bl (bs.all fun b => b)) H
theorem bools_at : ∀ {bs : List Bool} {us : List Value}, Vals (bs.map V.bl) us → us = bs.map Value.bool
  | [], _, .nil => rfl
  | b :: r, _, .cons h t => by
    cases h
    rw [bools_at (bs := r) t]; rfl
theorem range_all (bs : List Bool) : (List.range bs.length).all (fun i => bs.getD i true) = bs.all fun b => b := by
  rw [Bool.eq_iff_iff, List.all_eq_true, List.all_eq_true]
  constructor
  · intro h x hx
    obtain ⟨i, hi, e⟩ := List.getElem_of_mem hx
    have := h i (List.mem_range.mpr hi)
    rw [List.getD_eq_getElem?_getD, List.getElem?_eq_getElem hi] at this
    rw [← e]; exact this
  · intro h i hi
    have hi := List.mem_range.mp hi
    rw [List.getD_eq_getElem?_getD, List.getElem?_eq_getElem hi]
    exact h _ (List.getElem_mem hi)
theorem call_all (hc : X.calm = true) : CallR X (.builtin "all") (rAll X.K) := by
  intro pins s σ H xs us Q I r h
  obtain ⟨p, bs, rfl, hq, q⟩ := h
  obtain ⟨u, rfl, ru⟩ := r.one
  cases ru
  obtain ⟨its, v, pl, _⟩ := I.list hq
  have ev := bools_at v
  have hl : s.heap.IsList p its.toArray := pl.isList
  have hlt : p < s.heap.objs.size := by
    obtain ⟨o, ho, _⟩ := hl
    exact Heap.lt_size ho
  refine call_all_walk (wpAny_pyIter_list hl ⟨s.heap.objs.size, [s.heap.objs.size, p], [s.heap.objs.size], its.toArray.size, (fun i v => its.toArray[i]? = some v), _, (fun i => bs.getD i true), rfl, Walks.list (prog := X.prog) (w := X.w) (A := X.A.in1) (I.ok.hd hc) _ p (Nat.ne_of_lt hlt) its.toArray, ⟨⟨_, Heap.get?_push_size _ rfl, rfl, rfl⟩, hl.at fun o e => Heap.get?_push_of_some _ e⟩, ?_, ?_⟩)
  · intro i v s' Q' E' hv hQ
    rw [ev] at hv
    have hv' : (bs.map Value.bool)[i]? = some v := by simpa using hv
    rw [List.getElem?_map] at hv'
    cases hb : bs[i]? with
    | none => rw [hb] at hv'; cases hv'
    | some b =>
      rw [hb] at hv'
      cases hv'
      have : bs.getD i true = b := by rw [List.getD_eq_getElem?_getD, hb]; rfl
      refine wpAny_truthy_bool ?_
      rw [← this]; exact hQ
  · intro h' tk hk
    have e : (List.range its.toArray.size).all (fun i => bs.getD i true) = bs.all fun b => b := by
      rw [← range_all]
      have : its.toArray.size = bs.length := by rw [ev]; simp
      rw [this]
    rw [e]
    exact ⟨.bl _, H, I.kept (t' := tk) (fun b o ho => hk b o (by simp only [List.mem_singleton]; exact Nat.ne_of_lt (Heap.lt_size ho)) (Heap.get?_push_of_some _ ho)), rfl, q⟩
theorem bt_all : bootBuiltins "all" = some (.builtin "all") := by decide +kernel
end
section
variable {σ : St} {H : Hp} {Q : VK} {te : TE}
theorem z_all {K : PySem.W.Frag} {p : Addr} {bs : List Bool} (h : SqL K H p (bs.map V.bl)) (q : Q (.bl (bs.all fun b => b)) H) : rAll K [.ref p] H Q := ⟨p, bs, rfl, h, q⟩
end
end L2
namespace My
open PySem PySem.NumText
noncomputable def dg (n : Nat) : List Nat := (Nat.toDigits 10 n).map Char.toNat
noncomputable def hd (A : List Nat) : List Nat := if A.head? = some 45 then A.tail else A
noncomputable def plain (cs : List Nat) : Prop := cs ≠ [] ∧ cs.length ≤ 60 ∧ ¬ (cs.head? = some 48 ∧ cs ≠ [48]) ∧ AllDigits cs
end My
namespace My
open PySem PySem.NumText PySem.StrLaws
abbrev cs (z : Str) : List Nat := z.cps.toList
end My
namespace L2
open PySem PySem.Spec PyProof.Rows
theorem z_NeB {H : Hp} {Q : VK} {a b : Bool} (q : Q (.bl (!decide (a = b))) H) : rNe (.bl a) (.bl b) H Q := by
  refine ⟨rfl, ?_⟩
  have e : decide (V.bl a = V.bl b) = decide (a = b) := by cases a <;> cases b <;> rfl
  rw [e]; exact q
end L2
namespace L2
open PySem PySem.Spec PyProof.Rows
noncomputable def rCatL (K : PySem.W.Frag) : R2 := fun x y H Q => ∃ l m xs zs, x = .ref l ∧ y = .ref m ∧ SqL K H l xs ∧ SqL K H m zs ∧ xs.length + zs.length ≤ sizeLine ∧ ∀ p, H p = none → Q (.ref p) (upd H p (.lst (xs ++ zs)))
theorem op_catL {X : Cx} : OpR X (binaryOp .Add) (rCatL X.K) := by
  intro pins s σ H x y v u Q I rx ry h
  obtain ⟨l, b, xs, zs, rfl, rfl, hH, hB, hz, q⟩ := h
  cases rx
  cases ry
  obtain ⟨its, r, p1, _⟩ := I.list hH
  obtain ⟨its2, r2, p2, _⟩ := I.list hB
  have l1 := r.length
  have l2 := r2.length
  obtain ⟨⟨cls, dd, data, sl⟩, ho, hc, n, hd⟩ := p1.isList
  obtain ⟨⟨cls2, dd2, data2, sl2⟩, ho2, hc2, n2, hd2⟩ := p2.isList
  simp only at hc hd hc2 hd2
  subst hc hd hc2 hd2
  have e : its.toArray ++ its2.toArray = (its ++ its2).toArray := by simp
  refine concat_meets ⟨_, ho, rfl⟩ ⟨_, ho2, rfl⟩ noFill_list_add seq_list_add PySem.F.slot_list_add PySem.F.entry_list_add (PySem.F.args_list_add_2 _ _) (list_addW l b its.toArray its2.toArray n n2 dd dd2 sl sl2 (by rw [List.size_toArray, List.size_toArray]; omega)) ⟨ho, ho2, ?_⟩
  rw [e]
  exact ⟨.ref _, _, I.lnew (t' := s.toks) (r.append r2) (by rw [List.length_append]; omega), rfl, q _ I.fresh⟩
end L2
namespace L2
open PySem PySem.Spec PyProof.Rows
section
variable {X : Cx} {pins : List (Addr × Obj)} {σ : St} {H : Hp} {s : Shared} {h' : Heap}
theorem Inv.turnedL {t' : Nat} {fp : List Addr} (I : Inv X pins σ H s) (k : ∀ b o, b ∉ fp → s.heap.get? b = some o → h'.get? b = some o) (hf : ∀ b ∈ fp, FpOk X pins H b) : Inv X pins σ H { s with heap := h', toks := t' } := by
  have nit : ∀ b u, H b = some u → b ∉ fp := fun b u e z => by rw [(hf b z).1] at e; cases e
  refine I.step (g' := s.gens) (d' := s.drawn) (ch := fp) (fun b hb => ?_) (fun b o _ _ hc e _ => k b o hc e) (fun b o _ _ hc e _ => ⟨o.slots, k b o hc e⟩) (fun _ _ _ _ n => n)
    (fun b o hc e => ⟨o, k b o hc e⟩) (fun _ _ e => e) (fun _ _ _ e => e) (fun b ps e => ⟨#[], by rw [e]; simp⟩) (fun m hm => ?_) (fun b u e => ?_) I.bare
  · obtain ⟨_, f1, _, f3, f4, f5⟩ := hf b hb
    exact ⟨f3, f1, f4, f5⟩
  · obtain ⟨o, es, ep, ho, r⟩ := hm
    exact ⟨o, es, ep, k _ o (fun z => (hf _ z).2.1 rfl) ho, r⟩
  · refine (I.hok b u e).stay (fun c v hc q => k c v ?_ q) (fun _ q => q) fun _ _ q => q
    rcases hc with z | z
    · rw [z]; exact nit b u e
    · exact nit c _ z
end
section
variable {X : Cx}
end
section
variable {σ : St} {H : Hp} {g : TG} {tb : TS} {nx : St → Hp → Prop} {rt : VK} {K : PySem.W.Frag} {a : Addr} {xs : List V}
end
end L2
namespace L2
open PySem PySem.Spec PyProof.Rows
section
variable {κ : Type} [DecidableEq κ]
noncomputable def valV (kvs : List (κ × V)) (k : κ) : Option V := (kvs.find? fun kv => decide (kv.1 = k)).map (·.2)
noncomputable def putK (kvs : List (κ × V)) (k : κ) (v : V) : List (κ × V) :=
  if (kvs.any fun kv => decide (kv.1 = k)) = true then kvs.map (fun kv => if kv.1 = k then (kv.1, v) else kv) else kvs ++ [(k, v)]
noncomputable def dropK (kvs : List (κ × V)) (k : κ) : List (κ × V) := kvs.filter fun kv => decide (kv.1 ≠ k)
theorem RelO.getD {o : Option V} {u : Option Value} {d : V} {d' : Value} (r : RelO o u) (rd : RelV d d') : RelV (o.getD d) (u.getD d') := by
  cases o with
  | none => cases u with
    | none => exact rd
    | some _ => exact (show False from r).elim
  | some _ => cases u with
    | none => exact (show False from r).elim
    | some _ => exact r
theorem KV.any {kvs : List (κ × V)} {vs : List (κ × Value)} (r : KV kvs vs) (k : κ) : (kvs.any fun kv => decide (kv.1 = k)) = vs.any fun kv => decide (kv.1 = k) := by
  unfold KV at r
  induction r with
  | nil => rfl
  | cons h t ih => rw [List.any_cons, List.any_cons, ih, h.1]
theorem KV.drop {kvs : List (κ × V)} {vs : List (κ × Value)} (r : KV kvs vs) (k : κ) : KV (dropK kvs k) (without vs k) := by
  unfold KV at r ⊢
  unfold dropK without
  induction r with
  | nil => exact .nil
  | @cons p q ps qs h t ih =>
    obtain ⟨h1, h2⟩ := h
    rw [List.filter_cons, List.filter_cons]
    by_cases e : p.1 = k
    · have a : ¬ decide (p.1 ≠ k) = true := by simp [e]
      have b : ¬ decide (q.1 ≠ k) = true := by simp [h1.symm.trans e]
      rw [if_neg a, if_neg b]; exact ih
    · have e' : ¬ q.1 = k := fun z => e (h1.trans z)
      have a : decide (p.1 ≠ k) = true := by simp [e]
      have b : decide (q.1 ≠ k) = true := by simp [e']
      rw [if_pos a, if_pos b]; exact .cons ⟨h1, h2⟩ ih
theorem KV.length {kvs : List (κ × V)} {vs : List (κ × Value)} (r : KV kvs vs) : kvs.length = vs.length := Paired.length r
end
abbrev KT (H : Hp) : List (List Key × V) → List (List Key × Addr × Value) → Prop := Paired fun p q => p.1 = q.1 ∧ H q.2.1 = some (.tup (p.1.map kV)) ∧ RelV p.2 q.2.2
theorem KT.keeps {H H' : Hp} {kvs : List (List Key × V)} {xs : List (List Key × Addr × Value)} (r : KT H kvs xs) (ht : ∀ b ys, H b = some (.tup ys) → H' b = some (.tup ys)) : KT H' kvs xs :=
  Paired.mapP r fun _ _ z => ⟨z.1, ht _ _ z.2.1, z.2.2⟩
section
variable {P : Program} {w : World} {H : Hp} {h : Heap} {a : Addr}
end
noncomputable def DGet (H : Hp) (a : Addr) (y : V) (r : Option V) : Prop :=
  (∃ kvs k, Rd H a (.dK kvs) ∧ y = kV k ∧ r = valV kvs k) ∨ ∃ kvs k b, Rd H a (.dT kvs) ∧ y = .ref b ∧ H b = some (.tup (k.map kV)) ∧ r = valV kvs k
noncomputable def DPut (H : Hp) (a : Addr) (y v : V) (H' : Hp) : Prop :=
  (∃ kvs k, H a = some (.dK kvs) ∧ y = kV k ∧ kvs.length < sizeLine ∧ H' = upd H a (.dK (putK kvs k v))) ∨
  ∃ kvs k b, H a = some (.dT kvs) ∧ y = .ref b ∧ H b = some (.tup (k.map kV)) ∧ kvs.length < sizeLine ∧ H' = upd H a (.dT (putK kvs k v))
theorem DGet.k {H : Hp} {a : Addr} {kvs : List (Key × V)} {k : Key} (e : H a = some (.dK kvs)) : DGet H a (kV k) (valV kvs k) := .inl ⟨kvs, k, .inl e, rfl, rfl⟩
theorem DGet.t {H : Hp} {a b : Addr} {kvs : List (List Key × V)} {k : List Key} (e : H a = some (.dT kvs)) (eb : H b = some (.tup (k.map kV))) : DGet H a (.ref b) (valV kvs k) := .inr ⟨kvs, k, b, .inl e, rfl, eb, rfl⟩
theorem DPut.k {H : Hp} {a : Addr} {kvs : List (Key × V)} {k : Key} {v : V} (e : H a = some (.dK kvs)) (hl : kvs.length < sizeLine) : DPut H a (kV k) v (upd H a (.dK (putK kvs k v))) := .inl ⟨kvs, k, e, rfl, hl, rfl⟩
theorem DPut.t {H : Hp} {a b : Addr} {kvs : List (List Key × V)} {k : List Key} {v : V} (e : H a = some (.dT kvs)) (eb : H b = some (.tup (k.map kV))) (hl : kvs.length < sizeLine) :
    DPut H a (.ref b) v (upd H a (.dT (putK kvs k v))) := .inr ⟨kvs, k, b, e, rfl, eb, hl, rfl⟩
section
variable {X : Cx} {pins : List (Addr × Obj)} {σ : St} {H : Hp} {s : Shared} {a : Addr} {y v : V} {u r : Value} {o : Option V} {A : Around} {E : Value → Shared → Prop}
theorem Inv.big (I : Inv X pins σ H s) : sysModules < s.heap.objs.size := by
  have h : mainGlobals < s.heap.objs.size := (I.mod.glob.keeps I.bk).lt
  exact Nat.lt_trans (by decide) h
end
section
variable {X : Cx} {pins : List (Addr × Obj)} {σ : St} {H : Hp} {s : Shared} {a : Addr} {kvs : List (Key × V)} {k : Key} {u : Value} {A : Around} {E : Value → Shared → Prop}
end
section
variable {X : Cx} {o i e value : Expr} {pos pos' tpos : Pos} {td ty tv : TE}
end
section
variable {X : Cx} {pos : Pos}
end
section
variable {X : Cx} {pins : List (Addr × Obj)} {σ : St} {H : Hp} {s : Shared} {a : Addr} {y d : V} {u r : Value} {o : Option V} {A : Around} {E : Value → Shared → Prop}
end
section
variable {X : Cx} {o e f : Expr} {apos cpos : Pos} {td ty tx : TE}
end
section
variable {X : Cx} {pins : List (Addr × Obj)} {σ : St} {H : Hp} {s : Shared} {a : Addr} {kvs : List (Key × V)} {A : Around} {E : Value → Shared → Prop}
end
section
variable {X : Cx} {pins : List (Addr × Obj)} {σ : St} {H : Hp} {s : Shared} {a : Addr} {y : V} {u : Value} {A : Around} {E : Value → Shared → Prop}
end
end L2
namespace L2
open PySem PySem.Spec PyProof.Rows
section
variable {X : Cx}
end
section
variable {κ : Type} [DecidableEq κ]
end
end L2
namespace L2
open PySem PySem.Spec PyProof.Rows PySem.Builtin
section
variable {X : Cx}
end
theorem compOkG2_of {X : Cx} {t1 t2 : Str} {sc : Scope} {fr : List (Str × Nat)} {osc : Scope} {N : List Str} (ho : X.env.scope = osc) (hN : X.N = N) (h1 : compOkB osc N t1 sc fr = true) (h2 : compOkB osc N t2 sc fr = true) (hne : t1 ≠ t2) : CompOkG X [t1, t2] sc fr ∧ sc.names.lookup t1 = some .local ∧ sc.names.lookup t2 = some .local := by
  have o1 := compOk_of ho hN h1
  have o2 := compOk_of ho hN h2
  refine ⟨⟨o1.kind, o1.nocell, o1.locs, o1.fre, ?_, o1.vis⟩, o1.tgl, o2.tgl⟩
  obtain ⟨a1, a2⟩ := List.nodup_cons.mp o1.nd
  exact List.nodup_cons.mpr ⟨fun m => (List.mem_cons.mp m).elim hne a1, o2.nd⟩
theorem pe_lcP {X : Cx} {elt iter : Expr} {t1 t2 : Str} {x1 : _} {p1 p2 p3 pos : Pos} {sc : Scope} {fr : List (Str × Nat)} {wi : TI} {te : TE} (hc : X.calm = true) (ok : CompOkG X [t1, t2] sc fr ∧ sc.names.lookup t1 = some .local ∧ sc.names.lookup t2 = some .local)
    (hi : PI X (.Tuple [.Name t1 p1, .Name t2 p2] x1 p3) iter wi) (he : ∀ cl C s3 H3 fp, PE (X.blk ([t1, t2] ++ fr.map (·.1)) sc cl C s3 H3 fp) elt te) (hs : ∀ x, foldedSetIterable iter X.env x = pure x := by intro _; rfl) :
    PE X (.ListComp elt [⟨.Tuple [.Name t1 p1, .Name t2 p2] x1 p3, iter, [], 0⟩] sc pos) (tLCG 2 fr wi (gTup X.K 2 (gCons (gName 0) (gCons (gName 1) gNil))) tYes te) :=
  pe_lcG (tgs := [t1, t2]) hc ok.1 hi (fun _ _ _ _ _ => pg_tup hc (pgs_cons (pg_name ok.1.nd rfl (.inl (lookup_relabel_local ok.2.1)) (.inr (lookup_relabel_local ok.2.1))) (pgs_cons (pg_name ok.1.nd rfl (.inl (lookup_relabel_local ok.2.2)) (.inr (lookup_relabel_local ok.2.2))) pgs_nil))) (fun _ _ _ _ _ => pif_nil) he hs
end L2
namespace L2
open PySem PySem.Spec PyProof.Rows
section
open PySem.W PySem.Calls PySem.Builtin PySem.Builtin.ObjectAttr PySem.Builtin.Getset_descriptor
variable {prog : Program} {w : World} {A : Around} {E : Value → Shared → Prop} {s : Shared} {K : Frag} {a C : Addr} {oe : Obj}
end
end L2
namespace L2
open PySem PySem.Spec PyProof.Rows
section
variable {X : Cx} {pins : List (Addr × Obj)} {σ : St} {H H' : Hp} {s s' : Shared}
end
section
variable {X : Cx} {pins : List (Addr × Obj)} {σ : St} {H : Hp} {s s' : Shared} {E : XK} {ex : Value} {x n : Str} {T C : Addr} {np hpos : Pos} {b0 : Stmt} {suite : List Stmt} {ts : Addr → TS} {D : Ends} {j : Nat}
end
section
variable {X : Cx} {k : Nat} {f : Addr} {fd : FuncData} {ps : List Str} {sp : Sp} {dvs : List V} {ds : List Value} {fx x cx n : Str} {p cpos px apos np hpos pos : Pos} {e : Expr} {es : List Expr} {t : TA} {T C : Addr} {b0 : Stmt} {suite : List Stmt} {ts : Addr → TS} {i j : Nat}
end
end L2
namespace L2
open PySem PySem.Spec PyProof.Rows
section
variable {X : Cx} {pins : List (Addr × Obj)} {σ : St} {H : Hp} {s : Shared}
end
section
variable {X : Cx} {C : Addr} {b : Bool}
end
section
variable {P : Program} {w : World} {K : PySem.W.Frag} {mg : Str → Option Value} {base : Heap}
end
section
variable {X : Cx} {k : Nat} {f : Addr} {fd : FuncData} {ps : List Str} {sp : Sp} {x : Str} {p pos : Pos} {e : Expr} {es : List Expr} {t : TA}
end
section
variable {X : Cx} {pins : List (Addr × Obj)} {σ : St} {H : Hp} {s s' : Shared} {E : XK} {ex : Value} {x n : Str} {T C : Addr} {np hpos : Pos} {b0 : Stmt} {suite : List Stmt} {ts : Addr → TS} {D : Ends} {j : Nat}
end
section
variable {X : Cx} {k : Nat} {f : Addr} {fd : FuncData} {ps : List Str} {sp : Sp} {dvs : List V} {ds : List Value} {fx x cx n : Str} {p cpos px apos np hpos pos : Pos} {e : Expr} {es : List Expr} {t : TA} {T C : Addr} {b0 : Stmt} {suite : List Stmt} {ts : Addr → TS} {i j : Nat}
end
end L2
namespace L2
open PySem PySem.Spec PyProof.Rows
noncomputable def repS (z : Str) (n : Int) : Str := ⟨(List.replicate n.toNat z.cps).foldl (fun a b => a ++ b) #[]⟩
theorem foldl_app (z : Array Nat) : ∀ (m : Nat) (a : Array Nat), (List.replicate m z).foldl (fun a b => a ++ b) a = a ++ (List.replicate m z).foldl (fun a b => a ++ b) #[]
  | 0, a => by simp
  | m + 1, a => by
    rw [List.replicate_succ, List.foldl_cons, List.foldl_cons, foldl_app z m (a ++ z), foldl_app z m (#[] ++ z)]
    simp
theorem repS_len (z : Str) (n : Int) : (repS z n).length = n.toNat * z.length := by
  unfold repS Str.length
  show ((List.replicate n.toNat z.cps).foldl (fun a b => a ++ b) #[]).size = _
  generalize n.toNat = m
  induction m with
  | zero => simp
  | succ m ih => rw [List.replicate_succ, List.foldl_cons, foldl_app]; simp [ih, Nat.succ_mul]; omega
noncomputable def rRepS : R2 := fun x y H Q => ∃ (z : Str) (n : Int), x = .str z ∧ y = .int n ∧ 0 ≤ n ∧ n ≤ 1000 ∧ z.length ≤ 1000 ∧ Q (.str (repS z n)) H
theorem op_repS {X : Cx} : OpR X (binaryOp .Mult) rRepS := by
  intro pins s σ H x y v u Q I rx ry h
  obtain ⟨z, n, rfl, rfl, h0, h1, hz, q⟩ := h
  obtain ⟨t1, rfl⟩ := rx
  obtain ⟨t2, rfl⟩ := ry
  have hq : ∀ (r : Str) t', r = repS z n → EP X pins σ Q (.str r t') { s with toks := s.toks + 1 } := fun r t' e => by
    subst e
    exact ⟨.str _, H, I.tok _, ⟨_, rfl⟩, q⟩
  refine P.mul_str ?_ (fun a b => ?_) (fun a b => ?_) ?_
  · rw [decide_eq_false (by omega), decide_eq_false (by omega)]; rfl
  · have hn : 0 < n := by omega
    have e1 : (1000 : Int) ≤ (2 ^ 63 - 1) / n := by
      rw [Int.le_ediv_iff_mul_le hn]
      have : (1000 : Int) * n ≤ 1000 * 1000 := Int.mul_le_mul_of_nonneg_left h1 (by decide)
      exact Int.le_trans this (by decide)
    omega
  · have : z.length * n.toNat ≤ 1000 * 1000 := Nat.mul_le_mul hz (by omega)
    show decide (z.length * n.toNat > sizeLine) = false
    exact decide_eq_false (Nat.not_lt_of_le (Nat.le_trans this (by decide)))
  · by_cases hn : n < 1
    · rw [if_pos hn]
      refine ⟨by decide, hq _ _ ?_⟩
      unfold repS
      rw [show n.toNat = 0 by omega]
      rfl
    rw [if_neg hn]
    by_cases h2 : (n == 1 || z.length == 0) = true
    · rw [if_pos h2]
      have e : z = repS z n := by
        rcases Bool.or_eq_true _ _ |>.mp h2 with h | h
        · have : n = 1 := by simpa using h
          subst this
          unfold repS
          show z = ⟨#[] ++ z.cps⟩
          simp
        · have hz0 : z.length = 0 := by simpa using h
          have e0 : (repS z n).length = 0 := by rw [repS_len, hz0, Nat.mul_zero]
          obtain ⟨c⟩ := z
          have h1 : c = #[] := Array.eq_empty_of_size_eq_zero hz0
          subst h1
          generalize repS ⟨#[]⟩ n = y at e0
          obtain ⟨d⟩ := y
          have h3 : d = #[] := Array.eq_empty_of_size_eq_zero e0
          rw [h3]
      show EP X pins σ Q (.str z t1) s
      exact ⟨.str z, H, I, ⟨_, rfl⟩, by rw [e]; exact q⟩
    · rw [if_neg h2]
      refine ⟨?_, hq _ _ rfl⟩
      show (repS z n).length ≤ sizeLine
      rw [repS_len]
      exact Nat.le_trans (Nat.mul_le_mul (show n.toNat ≤ 1000 by omega) hz) (by decide)
end L2
namespace L2
open PySem PySem.Spec PyProof.Rows
noncomputable def rIsiTL (K : PySem.W.Frag) : List V → Hp → VK → Prop := fun xs H Q => ∃ x g tp, xs = [x, .ref tp] ∧ SqT K H tp [.ty "tuple", .ty "list"] ∧ tgIs K H x g ∧ Q (.bl (g.isTup || g.isLst)) H
section
variable {K : PySem.W.Frag}
theorem kTL_int : PySem.W.kitAny K (.type "int") [.type "tuple", .type "list"] = some false := by rfl
theorem kTL_str : PySem.W.kitAny K (.type "str") [.type "tuple", .type "list"] = some false := by rfl
theorem kTL_bool : PySem.W.kitAny K (.type "bool") [.type "tuple", .type "list"] = some false := by rfl
theorem kTL_none : PySem.W.kitAny K (.type "NoneType") [.type "tuple", .type "list"] = some false := by rfl
theorem kTL_dict : PySem.W.kitAny K (.type "dict") [.type "tuple", .type "list"] = some false := by rfl
theorem kTL_tuple : PySem.W.kitAny K (.type "tuple") [.type "tuple", .type "list"] = some true := by rfl
theorem kTL_list : PySem.W.kitAny K (.type "list") [.type "tuple", .type "list"] = some true := by rfl
end
theorem isi_tl {X : Cx} : CallR X (.builtin "isinstance") (rIsiTL X.K) := by
  intro pins s σ H xs vs Q I r h
  obtain ⟨x, g, tp, rfl, ht, e, q⟩ := h
  obtain ⟨v, w, rfl, rx, rw'⟩ := vals2 r
  cases rw'
  obtain ⟨its, rv, ⟨o, ho, hcl, n, hd⟩, _⟩ := I.tuple ht
  obtain ⟨c1, d1, dt, sl⟩ := o
  cases hcl
  cases hd
  cases rv with
  | cons a1 rv =>
    cases rv with
    | cons a2 rv =>
      cases rv
      cases a1
      cases a2
      have fin : ∀ k : Bool, Q (.bl k) H → ∀ t, EP X pins σ Q (.bool k) { s with toks := t } := fun k q t => ⟨.bl k, H, I.tok t, rfl, q⟩
      cases x with
      | non => cases g <;> first | exact (show False from e).elim | (cases rx; exact PySem.W.kia_tup PySem.W.kitx_none I.kIn trivial ho kTL_none (by intro z; cases z) (fin _ q))
      | bl b => cases g <;> first | exact (show False from e).elim | (cases rx; exact PySem.W.kia_tup PySem.W.kitx_bool I.kIn trivial ho kTL_bool (by intro z; cases z) (fin _ q))
      | int i => cases g <;> first | exact (show False from e).elim | (obtain ⟨t, rfl⟩ := rx; exact PySem.W.kia_tup PySem.W.kitx_int I.kIn trivial ho kTL_int (by intro z; cases z) (fin _ q))
      | str y => cases g <;> first | exact (show False from e).elim | (obtain ⟨t, rfl⟩ := rx; exact PySem.W.kia_tup PySem.W.kitx_str I.kIn trivial ho kTL_str (by intro z; cases z) (fin _ q))
      | ref a =>
        cases rx
        cases g with
        | tup =>
          obtain ⟨xs, hx⟩ := (show ∃ xs, SqT X.K H a xs from e)
          obtain ⟨_, _, ⟨o, hoa, hc, _⟩, _⟩ := I.tuple hx
          exact PySem.W.kia_tup PySem.W.kitx_tuple I.kIn ⟨o, hoa, hc⟩ ho kTL_tuple (by intro z; cases z) (fin _ q)
        | lst =>
          obtain ⟨xs, hx⟩ := (show ∃ xs, SqL X.K H a xs from e)
          obtain ⟨_, _, ⟨o, n, hoa, hc, _⟩, _⟩ := I.list hx
          exact PySem.W.kia_tup PySem.W.kitx_list I.kIn ⟨o, hoa, hc⟩ ho kTL_list (by intro z; cases z) (fin _ q)
        | dic =>
          obtain ⟨kvs, hx⟩ := (show ∃ kvs, H a = some (.dK kvs) from e)
          obtain ⟨_, _, vs, _, o, es, ep, hoa, hc, _⟩ := (show ObjOk X.prog X.w H s.heap a (.dK kvs) from I.hok a _ hx)
          exact PySem.W.kia_tup PySem.W.kitx_dict I.kIn ⟨o, hoa, hc.1⟩ ho kTL_dict (by intro z; cases z) (fin _ q)
        | _ => exact (show False from e).elim
      | _ => exact (show False from e).elim
end L2
namespace L2
open PySem PySem.Spec PyProof.Rows
noncomputable def QIt (q : Bool) (h : Heap) (n a : Addr) (k : Nat) : Prop := ∃ o, h.get? n = some o ∧ o.cls = .type (if q = true then "tuple_iterator" else "list_iterator") ∧ o.data = .fields #[.ref a, .int k 0]
noncomputable def QSq (q : Bool) (h : Heap) (a : Addr) (us : Array Value) : Prop := ∃ o, h.get? a = some o ∧ o.cls = .type (if q = true then "tuple" else "list") ∧ ∃ n, o.data = .seq us n
theorem QIt.at {q : Bool} {h h' : Heap} {n a : Addr} {k : Nat} (x : QIt q h n a k) (e : ∀ o, h.get? n = some o → h'.get? n = some o) : QIt q h' n a k := by
  obtain ⟨o, ho, r⟩ := x; exact ⟨o, e o ho, r⟩
theorem QSq.at {q : Bool} {h h' : Heap} {a : Addr} {us : Array Value} (x : QSq q h a us) (e : ∀ o, h.get? a = some o → h'.get? a = some o) : QSq q h' a us := by
  obtain ⟨o, ho, r⟩ := x; exact ⟨o, e o ho, r⟩
section
variable {P : Program} {w : World} {A : Around} {E : Value → Shared → Prop} {s : Shared} {q : Bool} {n a : Addr} {k : Nat} {us : Array Value} {u : Value}
theorem q_next {Q : Value → Shared → Prop} (hi : QIt q s.heap n a k) (hs : QSq q s.heap a us) (hu : us[k]? = some u) (go : ∀ h', QIt q h' n a (k + 1) → Heap.SameBut n s.heap h' → Q u { s with heap := h' }) : wpAny (model P w) A (Builtin.SmallTypes.nextOf (.ref n)) Q E s := by
  cases q with
  | false => exact wpAny_nextOf_list_item hi hs hu go
  | true =>
    have ty : s.heap.IsTupleIter n a k := hi
    obtain ⟨oi, e1, e2, e3⟩ := hi
    obtain ⟨os, e4, _, m, e5⟩ := hs
    unfold Builtin.SmallTypes.nextOf
    refine wpAny_bind (wpAny_callSpecial?_slot (name := Str.ofString "__next__") ty.typeIs F.slot_tuple_iterator_next (wpAny_call_entry F.slot_tuple_iterator_next ty.typeIs F.entry_tuple_iterator_next ?_ (F.args_tuple_iterator_next_1 _)))
    refine wpAny_bind (m := field (.ref n) 0) (wpAny_field e1 e3 (x := .ref a) rfl ?_)
    show wpAny _ _ (ite ((Value.ref a == Value.none) = true) _ _) _ _ s; rw [if_neg (show ¬ (Value.ref a == Value.none) = true from nofun)]
    refine wpAny_bind (m := field (.ref n) 1) (wpAny_field e1 e3 (x := .int k 0) rfl (wpAny_bind (m := seqItems? (.ref a)) (wpAny_seqItems e4 e5 ?_)))
    simp only [hu, Int.toNat_natCast]
    refine wpAny_bind (wpAny_setField e1 e3 (by simp) (wpAny_pure ⟨u, rfl, wpAny_pure (go _ ⟨_, Heap.get?_update_self _ e1 (Obj.isFreed_of_fields (Obj.data_mapFields e3 _)), (Obj.cls_mapFields ..).trans e2, ?_⟩ (Heap.SameBut.update ..))⟩))
    rw [Obj.data_mapFields e3]; simp [rawInt]
theorem q_stop {Q : Value → Shared → Prop} (hh : A.handled = none) (hi : QIt q s.heap n a k) (hs : QSq q s.heap a us) (hu : us[k]? = none) (go : ∀ h' e, Heap.ExtBut n s.heap h' → (∃ o, h'.get? e = some o ∧ o.cls = .type "StopIteration") → E (.ref e) { s with heap := h' }) : wpAny (model P w) A (Builtin.SmallTypes.nextOf (.ref n)) Q E s := by
  cases q with
  | false => exact wpAny_nextOf_list_end hh hi hs hu go
  | true =>
    have ty : s.heap.IsTupleIter n a k := hi
    obtain ⟨oi, e1, e2, e3⟩ := hi
    obtain ⟨os, e4, _, m, e5⟩ := hs
    unfold Builtin.SmallTypes.nextOf
    refine wpAny_bind (wpAny_callSpecial?_slot (name := Str.ofString "__next__") ty.typeIs F.slot_tuple_iterator_next (wpAny_call_entry F.slot_tuple_iterator_next ty.typeIs F.entry_tuple_iterator_next ?_ (F.args_tuple_iterator_next_1 _)))
    refine wpAny_bind (m := field (.ref n) 0) (wpAny_field e1 e3 (x := .ref a) rfl ?_)
    show wpAny _ _ (ite ((Value.ref a == Value.none) = true) _ _) _ _ s; rw [if_neg (show ¬ (Value.ref a == Value.none) = true from nofun)]
    refine wpAny_bind (m := field (.ref n) 1) (wpAny_field e1 e3 (x := .int k 0) rfl (wpAny_bind (m := seqItems? (.ref a)) (wpAny_seqItems e4 e5 ?_)))
    simp only [hu, Int.toNat_natCast]
    refine wpAny_bind (wpAny_rule (wpAny_bind (wpAny_setField e1 e3 (by simp) (wpAny_bind (m := newExc (.type "StopIteration") []) ?_))))
    simp only [newTuple, newExc]
    refine wpAny_bind (wpAny_newObj_type (wpAny_bind (m := firstArgMember _ _) (wpAny_of_eq (a := Value.none) (by first | rfl | (simp only [firstArgMember]; rfl)) (wpAny_newObj_type ?_ (by size_fits)))) (by size_fits))
    simp only [raiseNew]
    refine wpAny_bind (wpAny_handled ?_)
    first | rw [hh] | rw [show A.in1.handled = none from hh]
    exact wpAny_bind (wpAny_pure (wpAny_throw (go _ _ (((Heap.SameBut.update ..).extBut.push _).push _) ⟨_, Heap.get?_push_size _ rfl, rfl⟩)))
end
section
variable {P : Program} {w : World} {A : Around} {E : Value → Shared → Prop} {s : Shared} {q1 q2 : Bool} {z ti to n1 n2 a1 a2 : Addr} {k : Nat} {us vs : Array Value} {u v c d : Value}
structure ZAp (z ti to n1 n2 a1 a2 : Addr) : Prop where
  nd : [z, ti, to, n1, n2].Nodup
  x1 : a1 ∉ [z, to, n1, n2]
  x2 : a2 ∉ [z, to, n1, n2]
theorem z_item {Q : Value → Shared → Prop} (D : ZAp z ti to n1 n2 a1 a2) (hz : IsZip s.heap z ti to .none) (hi : IsPair s.heap ti (.ref n1) (.ref n2)) (ho : IsPair s.heap to c d)
    (h1 : QIt q1 s.heap n1 a1 k) (h2 : QIt q2 s.heap n2 a2 k) (l1 : QSq q1 s.heap a1 us) (l2 : QSq q2 s.heap a2 vs) (hu : us[k]? = some u) (hv : vs[k]? = some v)
    (go : ∀ h', IsZip h' z ti to (rawInt s.heap.objs.size) → IsPair h' to u v → QIt q1 h' n1 a1 (k + 1) → QIt q2 h' n2 a2 (k + 1) → IsPair h' s.heap.objs.size u v → h'.objs.size = s.heap.objs.size + 1 →
      (∀ b o, b ∉ [z, to, n1, n2] → s.heap.get? b = some o → h'.get? b = some o) → Q (.ref s.heap.objs.size) { s with heap := h' }) :
    wpAny (model P w) A (Builtin.«zip.__next__» ⟨[.ref z], []⟩) (fun fin s' => ∃ r, fin = .done (.ret r) ∧ Q r s') E s := by
  obtain ⟨nd, x1, x2⟩ := D
  simp only [List.nodup_cons, List.mem_cons, List.not_mem_nil, or_false, not_or, List.nodup_nil, not_false_eq_true, and_true] at nd x1 x2
  obtain ⟨⟨zti, zto, zn1, zn2⟩, ⟨tito, tin1, tin2⟩, ⟨ton1, ton2⟩, n12⟩ := nd
  refine wpAny_bind (m := field (.ref z) 2) (wpAny_field hz rfl (x := .bool false) rfl (wpAny_bind (m := field (.ref z) 3) (wpAny_field hz rfl (x := .ref ti) rfl (wpAny_bind (wpAny_seqItems hi rfl ?_)))))
  refine wpAny_bind (m := Builtin.SmallTypes.ownedTupleIsFree (.ref z)) ?_
  unfold Builtin.SmallTypes.ownedTupleIsFree
  refine wpAny_bind (wpAny_field hz rfl (x := .none) rfl (wpAny_pure ?_))
  simp only [if_true]
  refine wpAny_bind (wpAny_rule (wpAny_bind (wpAny_field hz rfl (x := .ref to) rfl (wpAny_bind (wpAny_setField_rec hz (by simp) fun g1 z1 s1 => wpAny_bind ?_)))))
  have z1 : IsZip g1 z ti to .ellipsis := z1
  simp only [List.forIn_cons, List.forIn_nil, List.zipIdx_cons, List.zipIdx_nil]
  refine wpAny_bind (wpAny_bind (wpAny_onRaise (wpAny_bind (m := Builtin.SmallTypes.nextOf (.ref n1)) (q_next (h1.at fun o e => s1.extBut _ _ (Ne.symm zn1) e) (l1.at fun o e => s1.extBut _ _ x1.1 e) hu fun g2 i2 s2 => wpAny_pure ?_))))
  have t2 : IsPair g2 to c d := s2.extBut _ _ ton1 (s1.extBut _ _ (Ne.symm zto) ho)
  refine wpAny_bind (wpAny_seqItems t2 rfl (wpAny_bind (wpAny_updateSeq_pair t2 fun g3 t3 s3 => wpAny_bind (wpAny_letGo (wpAny_pure ?_)))))
  have t3 : IsPair g3 to u d := t3
  refine wpAny_bind (wpAny_bind (wpAny_onRaise (wpAny_bind (m := Builtin.SmallTypes.nextOf (.ref n2)) (q_next (h2.at fun o e => s3.extBut _ _ (Ne.symm ton2) (s2.extBut _ _ (Ne.symm n12) (s1.extBut _ _ (Ne.symm zn2) e))) (l2.at fun o e => s3.extBut _ _ x2.2.1 (s2.extBut _ _ x2.2.2.1 (s1.extBut _ _ x2.1 e))) hv fun g4 i4 s4 => wpAny_pure ?_))))
  have t4 : IsPair g4 to u d := s4.extBut _ _ ton2 t3
  refine wpAny_bind (wpAny_seqItems t4 rfl (wpAny_bind (wpAny_updateSeq_pair t4 fun g5 t5 s5 => wpAny_bind (wpAny_letGo (wpAny_pure (wpAny_pure ?_))))))
  have t5 : IsPair g5 to u v := t5
  refine wpAny_bind (wpAny_seqItems t5 rfl (wpAny_bind (wpAny_newTuple ?_)))
  have sz : g5.objs.size = s.heap.objs.size := by rw [s5.1, s4.1, s3.1, s2.1, s1.1]
  have z5 : IsZip g5 z ti to .ellipsis := s5.extBut _ _ zto (s4.extBut _ _ zn2 (s3.extBut _ _ zto (s2.extBut _ _ zn1 z1)))
  have k5 : ∀ b o, b ∉ [z, to, n1, n2] → s.heap.get? b = some o → g5.get? b = some o := fun b o hb e => by
    simp only [List.mem_cons, List.not_mem_nil, or_false, not_or] at hb
    exact s5.extBut _ _ hb.2.1 (s4.extBut _ _ hb.2.2.2 (s3.extBut _ _ hb.2.1 (s2.extBut _ _ hb.2.2.1 (s1.extBut _ _ hb.1 e))))
  have i1 : QIt q1 g5 n1 a1 (k + 1) := i2.at fun o e => s5.extBut _ _ (Ne.symm ton1) (s4.extBut _ _ n12 (s3.extBut _ _ (Ne.symm ton1) e))
  have i2' : QIt q2 g5 n2 a2 (k + 1) := i4.at fun o e => s5.extBut _ _ (Ne.symm ton2) e
  have zlt : z < g5.objs.size := Heap.lt_size z5
  refine wpAny_bind (m := Builtin.SmallTypes.ownedTupleHandOut (.ref z) (.ref g5.objs.size)) ?_
  unfold Builtin.SmallTypes.ownedTupleHandOut
  refine wpAny_bind (wpAny_setField_rec (show IsZip (g5.push { cls := .type "tuple", data := .seq #[u, v] }) z ti to .ellipsis from Heap.get?_push_of_some _ z5) (by simp) fun g7 z7 s7 => ?_)
  have z7 : IsZip g7 z ti to (rawInt g5.objs.size) := z7
  refine wpAny_setField_rec z7 (by simp) fun g8 z8 s8 => wpAny_pure ⟨_, rfl, ?_⟩
  have z8 : IsZip g8 z ti to (rawInt g5.objs.size) := z8
  have up : ∀ b o, b ≠ z → g5.get? b = some o → g8.get? b = some o := fun b o hb e => s8.extBut _ _ hb (s7.extBut _ _ hb (Heap.get?_push_of_some _ e))
  have t8 : IsPair g8 g5.objs.size u v := s8.extBut _ _ (Nat.ne_of_gt zlt) (s7.extBut _ _ (Nat.ne_of_gt zlt) (Heap.get?_push_size _ rfl))
  have sz8 : g8.objs.size = g5.objs.size + 1 := by rw [s8.1, s7.1, Heap.size_push]
  show Q (.ref g5.objs.size) _
  rw [sz] at z8 t8 sz8 ⊢
  exact go g8 z8 (up _ _ (Ne.symm zto) t5) (i1.at fun o e => up _ o (Ne.symm zn1) e) (i2'.at fun o e => up _ o (Ne.symm zn2) e) t8 sz8 fun b o hb e => up b o (fun x => hb (by simp [x])) (k5 b o hb e)
theorem z_last {Q : PySem.Fin → Shared → Prop} (hh : A.handled = none) (D : ZAp z ti to n1 n2 a1 a2) (hz : IsZip s.heap z ti to .none) (hi : IsPair s.heap ti (.ref n1) (.ref n2)) (ho : IsPair s.heap to c d)
    (h1 : QIt q1 s.heap n1 a1 k) (h2 : QIt q2 s.heap n2 a2 k) (l1 : QSq q1 s.heap a1 us) (l2 : QSq q2 s.heap a2 vs) (hend : us[k]? = none ∨ vs[k]? = none)
    (go : ∀ h' e, (∀ b o, b ∉ [z, to, n1, n2] → s.heap.get? b = some o → h'.get? b = some o) → (∃ o, h'.get? e = some o ∧ o.cls = .type "StopIteration") → E (.ref e) { s with heap := h' }) :
    wpAny (model P w) A (Builtin.«zip.__next__» ⟨[.ref z], []⟩) Q E s := by
  obtain ⟨nd, x1, x2⟩ := D
  simp only [List.nodup_cons, List.mem_cons, List.not_mem_nil, or_false, not_or, List.nodup_nil, not_false_eq_true, and_true] at nd x1 x2
  obtain ⟨⟨zti, zto, zn1, zn2⟩, ⟨tito, tin1, tin2⟩, ⟨ton1, ton2⟩, n12⟩ := nd
  refine wpAny_bind (m := field (.ref z) 2) (wpAny_field hz rfl (x := .bool false) rfl (wpAny_bind (m := field (.ref z) 3) (wpAny_field hz rfl (x := .ref ti) rfl (wpAny_bind (wpAny_seqItems hi rfl ?_)))))
  refine wpAny_bind (m := Builtin.SmallTypes.ownedTupleIsFree (.ref z)) ?_
  unfold Builtin.SmallTypes.ownedTupleIsFree
  refine wpAny_bind (wpAny_field hz rfl (x := .none) rfl (wpAny_pure ?_))
  simp only [if_true]
  refine wpAny_bind (wpAny_rule (wpAny_bind (wpAny_field hz rfl (x := .ref to) rfl (wpAny_bind (wpAny_setField_rec hz (by simp) fun g1 z1 s1 => wpAny_bind ?_)))))
  have z1 : IsZip g1 z ti to .ellipsis := z1
  simp only [List.forIn_cons, List.forIn_nil, List.zipIdx_cons, List.zipIdx_nil]
  cases hu : us[k]? with
  | none =>
    refine wpAny_bind (wpAny_bind (wpAny_onRaise (wpAny_bind (m := Builtin.SmallTypes.nextOf (.ref n1)) (q_stop hh (h1.at fun o e => s1.extBut _ _ (Ne.symm zn1) e) (l1.at fun o e => s1.extBut _ _ x1.1 e) hu fun g2 e s2 he => ?_))))
    obtain ⟨oe, hoe, hce⟩ := he
    have z2 : IsZip g2 z ti to .ellipsis := s2 _ _ zn1 z1
    have ez : e ≠ z := fun x => by rw [x, z2] at hoe; cases hoe; simp at hce
    refine wpAny_setField_rec z2 (by simp) fun g3 _ s3 => go g3 e (fun b o hb x => ?_) ⟨oe, s3.extBut _ _ ez hoe, hce⟩
    simp only [List.mem_cons, List.not_mem_nil, or_false, not_or] at hb
    exact s3.extBut _ _ hb.1 (s2 _ _ hb.2.2.1 (s1.extBut _ _ hb.1 x))
  | some u =>
    have hv : vs[k]? = none := by
      rcases hend with h | h
      · rw [hu] at h; cases h
      · exact h
    refine wpAny_bind (wpAny_bind (wpAny_onRaise (wpAny_bind (m := Builtin.SmallTypes.nextOf (.ref n1)) (q_next (h1.at fun o e => s1.extBut _ _ (Ne.symm zn1) e) (l1.at fun o e => s1.extBut _ _ x1.1 e) hu fun g2 i2 s2 => wpAny_pure ?_))))
    have t2 : IsPair g2 to c d := s2.extBut _ _ ton1 (s1.extBut _ _ (Ne.symm zto) ho)
    refine wpAny_bind (wpAny_seqItems t2 rfl (wpAny_bind (wpAny_updateSeq_pair t2 fun g3 t3 s3 => wpAny_bind (wpAny_letGo (wpAny_pure ?_)))))
    refine wpAny_bind (wpAny_bind (wpAny_onRaise (wpAny_bind (m := Builtin.SmallTypes.nextOf (.ref n2)) (q_stop hh (h2.at fun o e => s3.extBut _ _ (Ne.symm ton2) (s2.extBut _ _ (Ne.symm n12) (s1.extBut _ _ (Ne.symm zn2) e))) (l2.at fun o e => s3.extBut _ _ x2.2.1 (s2.extBut _ _ x2.2.2.1 (s1.extBut _ _ x2.1 e))) hv fun g4 e s4 he => ?_))))
    obtain ⟨oe, hoe, hce⟩ := he
    have z4 : IsZip g4 z ti to .ellipsis := s4 _ _ zn2 (s3.extBut _ _ zto (s2.extBut _ _ zn1 z1))
    have ez : e ≠ z := fun x => by rw [x, z4] at hoe; cases hoe; simp at hce
    refine wpAny_setField_rec z4 (by simp) fun g5 _ s5 => go g5 e (fun b o hb x => ?_) ⟨oe, s5.extBut _ _ ez hoe, hce⟩
    simp only [List.mem_cons, List.not_mem_nil, or_false, not_or] at hb
    exact s5.extBut _ _ hb.1 (s4 _ _ hb.2.2.2 (s3.extBut _ _ hb.2.1 (s2.extBut _ _ hb.2.2.1 (s1.extBut _ _ hb.1 x))))
theorem pn_item {Q : Option Value → Shared → Prop} (D : ZAp z ti to n1 n2 a1 a2) (hz : IsZip s.heap z ti to .none) (hi : IsPair s.heap ti (.ref n1) (.ref n2)) (ho : IsPair s.heap to c d)
    (h1 : QIt q1 s.heap n1 a1 k) (h2 : QIt q2 s.heap n2 a2 k) (l1 : QSq q1 s.heap a1 us) (l2 : QSq q2 s.heap a2 vs) (hu : us[k]? = some u) (hv : vs[k]? = some v)
    (go : ∀ h', IsZip h' z ti to (rawInt s.heap.objs.size) → IsPair h' to u v → QIt q1 h' n1 a1 (k + 1) → QIt q2 h' n2 a2 (k + 1) → IsPair h' s.heap.objs.size u v → h'.objs.size = s.heap.objs.size + 1 →
      (∀ b o, b ∉ [z, to, n1, n2] → s.heap.get? b = some o → h'.get? b = some o) → Q (some (.ref s.heap.objs.size)) { s with heap := h' }) : wpAny (model P w) A (pyNext (.ref z)) Q E s := by
  have ty : s.TypeIs (.ref z) "zip" := ⟨_, hz, rfl⟩
  unfold pyNext
  exact wpAny_bind (wpAny_attempt (wpAny_callSpecial?_slot (name := Str.ofString "__next__") ty F.slot_zip_next (wpAny_call_entry F.slot_zip_next ty F.entry_zip_next (z_item D hz hi ho h1 h2 l1 l2 hu hv fun h' b1 b2 b3 b4 b5 b6 b7 => wpAny_pure (go h' b1 b2 b3 b4 b5 b6 b7)) (F.args_zip_next_1 _))))
theorem pn_last {Q : Option Value → Shared → Prop} (hh : A.handled = none) (D : ZAp z ti to n1 n2 a1 a2) (hz : IsZip s.heap z ti to .none) (hi : IsPair s.heap ti (.ref n1) (.ref n2)) (ho : IsPair s.heap to c d)
    (h1 : QIt q1 s.heap n1 a1 k) (h2 : QIt q2 s.heap n2 a2 k) (l1 : QSq q1 s.heap a1 us) (l2 : QSq q2 s.heap a2 vs) (hend : us[k]? = none ∨ vs[k]? = none)
    (go : ∀ h', (∀ b o, b ∉ [z, to, n1, n2] → s.heap.get? b = some o → h'.get? b = some o) → Q none { s with heap := h' }) : wpAny (model P w) A (pyNext (.ref z)) Q E s := by
  have ty : s.TypeIs (.ref z) "zip" := ⟨_, hz, rfl⟩
  unfold pyNext
  refine wpAny_bind (wpAny_attempt (wpAny_callSpecial?_slot (name := Str.ofString "__next__") ty F.slot_zip_next (wpAny_call_entry F.slot_zip_next ty F.entry_zip_next (z_last hh D hz hi ho h1 h2 l1 l2 hend fun h' e hk he => ?_) (F.args_zip_next_1 _))))
  obtain ⟨o, e1, e2⟩ := he
  exact wpAny_bind (wpAny_isInstance (T := "StopIteration") (b := true) ⟨o, e1, e2⟩ isSubtype_stop (wpAny_pure (go _ hk)))
end
abbrev itO (q : Bool) (a : Addr) : Obj := { cls := .type (if q = true then "tuple_iterator" else "list_iterator"), data := .fields #[.ref a, .int 0 0] }
theorem q_iter {P : Program} {w : World} {A : Around} {E : Value → Shared → Prop} {s : Shared} {q : Bool} {a : Addr} {us : Array Value} {Q : Value → Shared → Prop} (hs : QSq q s.heap a us) (go : Q (.ref s.heap.objs.size) { s with heap := s.heap.push (itO q a) }) : wpAny (model P w) A (pyIter (.ref a)) Q E s := by
  cases q with
  | false => exact wpAny_pyIter_list hs go
  | true => exact wpAny_pyIter_tuple hs go
abbrev zh1 (h : Heap) (q1 : Bool) (a1 : Addr) : Heap := h.push (itO q1 a1)
abbrev zh2 (h : Heap) (q1 q2 : Bool) (a1 a2 : Addr) : Heap := (zh1 h q1 a1).push (itO q2 a2)
abbrev zh3 (h : Heap) (q1 q2 : Bool) (a1 a2 : Addr) : Heap := (zh2 h q1 q2 a1 a2).push { cls := .type "tuple", data := .seq #[.ref h.objs.size, .ref (zh1 h q1 a1).objs.size] }
abbrev zh4 (h : Heap) (q1 q2 : Bool) (a1 a2 : Addr) : Heap := (zh3 h q1 q2 a1 a2).push { cls := .type "tuple", data := .seq #[.none, .none] }
abbrev zh5 (h : Heap) (q1 q2 : Bool) (a1 a2 : Addr) : Heap := (zh4 h q1 q2 a1 a2).push { cls := .type "zip", data := .fields #[.none, .bool false, .bool false, .ref (zh2 h q1 q2 a1 a2).objs.size, .ref (zh3 h q1 q2 a1 a2).objs.size] }
theorem z_made (q1 q2 : Bool) (a1 a2 : Addr) (us vs : Array Value) : Meets (Builtin.«zip.__new__» ⟨[.type "zip", .ref a1, .ref a2], []⟩) (fun _ R s => QSq q1 s.heap a1 us ∧ QSq q2 s.heap a2 vs ∧ R (.ok (.ret (.ref (zh4 s.heap q1 q2 a1 a2).objs.size))) { s with heap := zh5 s.heap q1 q2 a1 a2 }) :=
  .of_wp fun prog w A R s h => by
    obtain ⟨hp, g, d, tk, os⟩ := s
    obtain ⟨l1, l2, h⟩ := h
    have hsub := sub_zip
    have L1 : QSq q1 (Shared.heap ⟨hp, g, d, tk, os⟩) a1 us := l1
    have L2 : QSq q2 (Shared.heap ⟨hp.push (itO q1 a1), g, d, tk, os⟩) a2 vs := l2.at fun o e => Heap.get?_push_of_some _ e
    wp_walk using q_iter L1, q_iter L2
    exact ⟨_, rfl, h⟩
theorem z_call {P : Program} {w : World} {A : Around} {E : Value → Shared → Prop} {s : Shared} {q1 q2 : Bool} {a1 a2 : Addr} {us vs : Array Value} {Q : Value → Shared → Prop} (l1 : QSq q1 s.heap a1 us) (l2 : QSq q2 s.heap a2 vs)
    (go : ∀ h', IsZip h' (s.heap.objs.size + 4) (s.heap.objs.size + 2) (s.heap.objs.size + 3) .none → IsPair h' (s.heap.objs.size + 2) (.ref s.heap.objs.size) (.ref (s.heap.objs.size + 1)) → IsPair h' (s.heap.objs.size + 3) .none .none →
      QIt q1 h' s.heap.objs.size a1 0 → QIt q2 h' (s.heap.objs.size + 1) a2 0 → (∀ b o, s.heap.get? b = some o → h'.get? b = some o) → Q (.ref (s.heap.objs.size + 4)) { s with heap := h' }) : wpAny (model P w) A (call (.type "zip") [.ref a1, .ref a2]) Q E s := by
  refine callType_new F.called_zip (by decide) (F.typeCall_zip_2 _ _) (F.newCall_zip_2 _ _) (fun obj => F.args_object_init_3 obj _ _) F.entry_zip_new (z_made q1 q2 a1 a2 us vs) ⟨l1, l2, ?_⟩
  have y1 : (zh1 s.heap q1 a1).objs.size = s.heap.objs.size + 1 := Heap.size_push ..
  have y2 : (zh2 s.heap q1 q2 a1 a2).objs.size = s.heap.objs.size + 2 := by rw [Heap.size_push, y1]
  have y3 : (zh3 s.heap q1 q2 a1 a2).objs.size = s.heap.objs.size + 3 := by rw [Heap.size_push, y2]
  have y4 : (zh4 s.heap q1 q2 a1 a2).objs.size = s.heap.objs.size + 4 := by rw [Heap.size_push, y3]
  have p5 : (zh5 s.heap q1 q2 a1 a2).get? (zh4 s.heap q1 q2 a1 a2).objs.size = some _ := Heap.get?_push_size _ rfl
  have p4 : (zh5 s.heap q1 q2 a1 a2).get? (zh3 s.heap q1 q2 a1 a2).objs.size = some _ := Heap.get?_push_of_some _ (Heap.get?_push_size _ rfl)
  have p3 : (zh5 s.heap q1 q2 a1 a2).get? (zh2 s.heap q1 q2 a1 a2).objs.size = some _ := Heap.get?_push_of_some _ (Heap.get?_push_of_some _ (Heap.get?_push_size _ rfl))
  have p2 : (zh5 s.heap q1 q2 a1 a2).get? (zh1 s.heap q1 a1).objs.size = some _ := Heap.get?_push_of_some _ (Heap.get?_push_of_some _ (Heap.get?_push_of_some _ (Heap.get?_push_size _ rfl)))
  have p1 : (zh5 s.heap q1 q2 a1 a2).get? s.heap.objs.size = some _ := Heap.get?_push_of_some _ (Heap.get?_push_of_some _ (Heap.get?_push_of_some _ (Heap.get?_push_of_some _ (Heap.get?_push_size _ rfl))))
  show _ ∧ _
  rw [y2, y3, y4] at p5
  rw [y1, y2] at p3
  rw [y3] at p4
  rw [y1] at p2
  rw [y4]
  exact ⟨⟨_, p5, rfl⟩, go _ p5 p3 p4 ⟨_, p1, rfl, rfl⟩ ⟨_, p2, rfl, rfl⟩ fun b o x => Heap.get?_push_of_some _ (Heap.get?_push_of_some _ (Heap.get?_push_of_some _ (Heap.get?_push_of_some _ (Heap.get?_push_of_some _ x))))⟩
end L2
namespace L2
open PySem PySem.Spec PyProof.Rows
noncomputable def SqB (q : Bool) (K : PySem.W.Frag) (H : Hp) (a : Addr) (xs : List V) : Prop := if q = true then SqT K H a xs else SqL K H a xs
section
variable {X : Cx} {pins : List (Addr × Obj)} {σ : St} {H : Hp} {s : Shared} {q : Bool} {a : Addr} {xs ys : List V}
theorem Inv.sqB (I : Inv X pins σ H s) (h : SqB q X.K H a xs) : ∃ its : List Value, Vals xs its ∧ QSq q s.heap a its.toArray := by
  cases q with
  | false =>
    obtain ⟨its, r, p, _⟩ := I.list h
    exact ⟨its, r, p.isList⟩
  | true =>
    obtain ⟨its, r, p, _⟩ := I.tuple h
    exact ⟨its, r, show s.heap.IsTuple a its.toArray from p⟩
theorem Inv.sqB_inj (I : Inv X pins σ H s) (h : SqB q X.K H a xs) (g : SqB q X.K H a ys) : xs = ys := by
  cases q with
  | false => exact I.list_inj h g
  | true => exact I.tuple_inj h g
end
noncomputable def Itz (K : PySem.W.Frag) (q1 q2 : Bool) (a1 a2 : Addr) : It :=
  ⟨fun i H => ∃ xs ys x y, SqB q1 K H a1 xs ∧ SqB q2 K H a2 ys ∧ xs[i]? = some x ∧ ys[i]? = some y,
   fun i H v H' => ∃ p x y, v = .ref p ∧ H p = none ∧ (∀ xs, SqB q1 K H a1 xs → xs[i]? = some x) ∧ (∀ ys, SqB q2 K H a2 ys → ys[i]? = some y) ∧ H' = upd H p (.tup [x, y]),
   fun i H => ∃ xs ys, SqB q1 K H a1 xs ∧ SqB q2 K H a2 ys ∧ (xs.length ≤ i ∨ ys.length ≤ i)⟩
theorem turn_zip {P : Program} {w : World} {K : PySem.W.Frag} {elts : List Expr} {x1 : _} {pos : Pos} {q1 q2 : Bool} {a1 a2 z ti to n1 n2 : Addr} (D : ZAp z ti to n1 n2 a1 a2) :
    Turn P w K (.Tuple elts x1 pos) (Itz K q1 q2 a1 a2) [z, ti, to, n1, n2] z (fun i h => IsZip h z ti to .none ∧ IsPair h ti (.ref n1) (.ref n2) ∧ (∃ c d, IsPair h to c d) ∧ QIt q1 h n1 a1 i ∧ QIt q2 h n2 a2 i) where
  mem := by simp
  obj := fun i h st b hb => by
    obtain ⟨hz, hi, ⟨c, d, ho⟩, ⟨o1, e1, c1, d1⟩, ⟨o2, e2, c2, d2⟩⟩ := st
    have hb' : b = z ∨ b = ti ∨ b = to ∨ b = n1 ∨ b = n2 := by simpa using hb
    rcases hb' with rfl | rfl | rfl | rfl | rfl
    · exact ⟨_, hz, fun v y => by cases y⟩
    · exact ⟨_, hi, fun v y => by cases y⟩
    · exact ⟨_, ho, fun v y => by cases y⟩
    · exact ⟨o1, e1, fun v y => by rw [d1] at y; cases y⟩
    · exact ⟨o2, e2, fun v y => by rw [d2] at y; cases y⟩
  keep := fun i h h' st k => by
    obtain ⟨hz, hi, ⟨c, d, ho⟩, h1, h2⟩ := st
    exact ⟨k z (by simp) _ hz, k ti (by simp) _ hi, ⟨c, d, k to (by simp) _ ho⟩, h1.at fun o e => k n1 (by simp) o e, h2.at fun o e => k n2 (by simp) o e⟩
  item := by
    intro X hP hw hK hc i pins s σ H E I hf st hg
    subst hP hw hK
    obtain ⟨xs, ys, x, y, hq1, hq2, hx, hy⟩ := hg
    obtain ⟨hz, hi, ⟨c, d, ho⟩, h1, h2⟩ := st
    obtain ⟨it1, r1, p1⟩ := I.sqB hq1
    obtain ⟨it2, r2, p2⟩ := I.sqB hq2
    obtain ⟨u, hu, ru⟩ := r1.get hx
    obtain ⟨v, hv, rv⟩ := r2.get hy
    have fpl : ∀ b ∈ [z, ti, to, n1, n2], b < s.heap.objs.size := fun b hb => by
      obtain ⟨o1, e1, _⟩ := id h1
      obtain ⟨o2, e2, _⟩ := id h2
      have hb' : b = z ∨ b = ti ∨ b = to ∨ b = n1 ∨ b = n2 := by simpa using hb
      rcases hb' with rfl | rfl | rfl | rfl | rfl
      · exact Heap.lt_size hz
      · exact Heap.lt_size hi
      · exact Heap.lt_size ho
      · exact Heap.lt_size e1
      · exact Heap.lt_size e2
    refine pn_item D hz hi ho h1 h2 p1 p2 (u := u) (v := v) (by simpa using hu) (by simpa using hv) fun g z1 o1 i1 i2 t1 sz kk => ?_
    refine ⟨.ref s.heap.objs.size, rfl, wpAny_letOwnedTupleGo_zip z1 fun g2 z2 sb => ?_⟩
    have sb2 : ∀ b, b ≠ z → g2.get? b = g.get? b := sb.2
    have hfr : H s.heap.objs.size = none := I.hok.fresh (Nat.le_refl _)
    have I1 : Inv X pins σ (upd H s.heap.objs.size (.tup [x, y])) { s with heap := s.heap.push { cls := .type "tuple", data := .seq #[u, v] } } :=
      I.laid (t' := s.toks) (fun b o e => Heap.get?_push_of_some _ e) (Nat.le_refl _) ⟨by show 2 ≤ sizeLine; decide, [u, v], .cons ru (.cons rv .nil), _, Heap.get?_push_size _ rfl, rfl, _, rfl⟩
    have hf2 : ∀ b ∈ [z, ti, to, n1, n2], FpOk X pins (upd H s.heap.objs.size (.tup [x, y])) b := fun b hb => by
      obtain ⟨f0, f1, f2, f3, f4, f5⟩ := hf b hb
      exact ⟨by rw [upd_ne (Nat.ne_of_lt (fpl b hb))]; exact f0, f1, f2, f3, f4, f5⟩
    have I2 := Inv.turnedL (h' := g2) (t' := s.toks) (fp := [z, ti, to, n1, n2]) I1 (fun b o hb e => by
      have hbz : b ≠ z := fun q => hb (by simp [q])
      rw [sb2 b hbz]
      rcases Heap.get?_push_cases e with ⟨y1, y2⟩ | y1
      · rw [y1, y2]; exact t1
      · exact kk b o (fun q => hb (by simp at q ⊢; rcases q with q | q | q | q <;> simp [q])) y1) hf2
    have nz : ∀ b ∈ [ti, to, n1, n2], b ≠ z := fun b hb q => by
      have := D.nd
      simp only [List.nodup_cons] at this
      exact this.1 (by rw [← q]; exact hb)
    have keep2 : ∀ b ∈ [ti, to, n1, n2], ∀ o, g.get? b = some o → g2.get? b = some o := fun b hb o e => by rw [sb2 b (nz b hb)]; exact e
    have tk : g.get? ti = some _ := kk ti _ (fun q => by
      have := D.nd
      simp only [List.nodup_cons] at this
      simp at q
      rcases q with q | q | q | q
      · exact nz ti (by simp) q
      · exact this.2.1 (by rw [q]; simp)
      · exact this.2.1 (by rw [q]; simp)
      · exact this.2.1 (by rw [q]; simp)) hi
    exact ⟨.ref s.heap.objs.size, _, I2, rfl, ⟨_, x, y, rfl, hfr, fun zs hzs => by rw [I.sqB_inj hzs hq1]; exact hx, fun zs hzs => by rw [I.sqB_inj hzs hq2]; exact hy, rfl⟩,
      ⟨z2, keep2 ti (by simp) _ tk, ⟨_, _, keep2 to (by simp) _ o1⟩, i1.at fun o e => keep2 n1 (by simp) o e, i2.at fun o e => keep2 n2 (by simp) o e⟩, fun b hb => (hf2 b hb).1⟩
  done := by
    intro X hP hw hK hc i pins s σ H E I hf st hg
    subst hP hw hK
    obtain ⟨xs, ys, hq1, hq2, hx⟩ := hg
    obtain ⟨hz, hi, ⟨c, d, ho⟩, h1, h2⟩ := st
    obtain ⟨it1, r1, p1⟩ := I.sqB hq1
    obtain ⟨it2, r2, p2⟩ := I.sqB hq2
    have l1 := r1.length
    have l2 := r2.length
    refine pn_last (I.ok.hd hc) D hz hi ho h1 h2 p1 p2 ?_ fun g kk => ⟨rfl, Inv.turnedL (t' := s.toks) I (fun b o hb e => kk b o (fun q => hb (by simp at q ⊢; rcases q with q | q | q | q <;> simp [q])) e) hf⟩
    rcases hx with hx | hx
    · exact .inl (by simp; omega)
    · exact .inr (by simp; omega)
  self := fun _ _ _ _ _ st h => wpAny_pyIter_zip st.1 h
theorem bt_zip : bootBuiltins "zip" = some (.type "zip") := by decide +kernel
section
variable {X : Cx}
noncomputable def iZip (K : PySem.W.Frag) (ta : TA) : TI := fun σ H R => ta σ H fun vs H1 => ∃ q1 q2 a1 a2, vs = [.ref a1, .ref a2] ∧ (∃ xs, SqB q1 K H1 a1 xs) ∧ (∃ ys, SqB q2 K H1 a2 ys) ∧ R (Itz K q1 q2 a1 a2) H1
theorem pi_zip {l1 l2 : Expr} {ta : TA} {elts : List Expr} {x1 : _} {p pos pos' : Pos} (hg : Gl X "zip") (hm : X.mg "zip" = none) (ha : PA X [l1, l2] ta) (hs : starEach [l1, l2] X.env = (false, eval l1 X.env) :: starEach [l2] X.env := by rfl) (hpl : (backTo pos (starEach [l2] X.env)).any (·.1) = false := by rfl) :
    PI X (.Tuple elts x1 pos') (.Call (.Name "zip" p) [l1, l2] [] pos) (iZip X.K ta) := by
  intro pins s σ H R I h
  refine Call_ (ld_blt I hg hm bt_zip (PyProof.Rows.callWith_type1 (thn (ha pos pins s σ H _ I h) fun us s1 ⟨vs, H1, I1, r1, q1⟩ => ?_) hs hpl))
  obtain ⟨b1, b2, a1, a2, e, ⟨xs, hq1⟩, ⟨ys, hq2⟩, q⟩ := q1
  subst e
  cases r1 with
  | cons r rr =>
    cases rr with
    | cons r2 rr =>
      cases rr
      cases r
      cases r2
      obtain ⟨it1, rv1, p1⟩ := I1.sqB hq1
      obtain ⟨it2, rv2, p2⟩ := I1.sqB hq2
      have lt1 : a1 < s1.heap.objs.size := by obtain ⟨o, e, _⟩ := id p1; exact Heap.lt_size e
      have lt2 : a2 < s1.heap.objs.size := by obtain ⟨o, e, _⟩ := id p2; exact Heap.lt_size e
      refine z_call p1 p2 fun g hz hi ho h1 h2 kk => ?_
      have I2 : Inv X pins σ H1 { s1 with heap := g } := I1.kept (t' := s1.toks) kk
      have D : ZAp (s1.heap.objs.size + 4) (s1.heap.objs.size + 2) (s1.heap.objs.size + 3) s1.heap.objs.size (s1.heap.objs.size + 1) a1 a2 := by
        have ap : ∀ b : Addr, b < s1.heap.objs.size → b ∉ [s1.heap.objs.size + 4, s1.heap.objs.size + 3, s1.heap.objs.size, s1.heap.objs.size + 1] := fun b lt hb => by
          have hb' : b = s1.heap.objs.size + 4 ∨ b = s1.heap.objs.size + 3 ∨ b = s1.heap.objs.size ∨ b = s1.heap.objs.size + 1 := by simpa using hb
          rcases hb' with e | e | e | e
          · exact absurd lt (by rw [e]; exact Nat.not_lt_of_le (Nat.le_add_right _ _))
          · exact absurd lt (by rw [e]; exact Nat.not_lt_of_le (Nat.le_add_right _ _))
          · exact absurd lt (by rw [e]; exact Nat.lt_irrefl _)
          · exact absurd lt (by rw [e]; exact Nat.not_lt_of_le (Nat.le_add_right _ _))
        exact ⟨by simp, ap a1 lt1, ap a2 lt2⟩
      refine wpAny_pyIter_zip hz ⟨s1.heap.objs.size + 4, [s1.heap.objs.size + 4, s1.heap.objs.size + 2, s1.heap.objs.size + 3, s1.heap.objs.size, s1.heap.objs.size + 1], _, _, H1, rfl, I2, turn_zip D, ⟨hz, hi, ⟨_, _, ho⟩, h1, h2⟩, fun b hb => ?_, q⟩
      have hge : s1.heap.objs.size ≤ b := by
        have hb' : b = s1.heap.objs.size + 4 ∨ b = s1.heap.objs.size + 2 ∨ b = s1.heap.objs.size + 3 ∨ b = s1.heap.objs.size ∨ b = s1.heap.objs.size + 1 := by simpa using hb
        rcases hb' with e | e | e | e | e
        · rw [e]; exact Nat.le_add_right _ _
        · rw [e]; exact Nat.le_add_right _ _
        · rw [e]; exact Nat.le_add_right _ _
        · rw [e]; exact Nat.le_refl _
        · rw [e]; exact Nat.le_add_right _ _
      exact I1.fpOk hge (I1.hok.fresh hge)
end
end L2
namespace L2
open PySem PySem.Spec PyProof.Rows
inductive Tr where
  | non | bl (b : Bool) | int (i : Int) | str (x : Str) | tup (ts : List Tr) | lst (ts : List Tr) | dct (kvs : List (Key × Tr)) | ty (n : String)
mutual
inductive Is (K : PySem.W.Frag) (F : Hp) : V → Tr → Prop
  | non : Is K F .non .non
  | bl {b : Bool} : Is K F (.bl b) (.bl b)
  | int {i : Int} : Is K F (.int i) (.int i)
  | str {x : Str} : Is K F (.str x) (.str x)
  | ty {n : String} : Is K F (.ty n) (.ty n)
  | tup {p : Addr} {vs : List V} {ts : List Tr} : SqT K F p vs → IsL K F vs ts → Is K F (.ref p) (.tup ts)
  | lst {p : Addr} {vs : List V} {ts : List Tr} : SqL K F p vs → IsL K F vs ts → Is K F (.ref p) (.lst ts)
  | dct {p : Addr} {kvs : List (Key × V)} {ts : List (Key × Tr)} : F p = some (.dK kvs) → kvs.map (·.1) = ts.map (·.1) → IsL K F (kvs.map (·.2)) (ts.map (·.2)) → Is K F (.ref p) (.dct ts)
inductive IsL (K : PySem.W.Frag) (F : Hp) : List V → List Tr → Prop
  | nil : IsL K F [] []
  | cons {v : V} {t : Tr} {vs : List V} {ts : List Tr} : Is K F v t → IsL K F vs ts → IsL K F (v :: vs) (t :: ts)
end
mutual
theorem Is.same {K : PySem.W.Frag} {F F' : Hp} (s : Same F F') : ∀ {v : V} {t : Tr}, Is K F v t → Is K F' v t
  | _, _, .non => .non
  | _, _, .bl => .bl
  | _, _, .int => .int
  | _, _, .str => .str
  | _, _, .ty => .ty
  | _, _, .tup h g => .tup (s.tup h) (IsL.same s g)
  | _, _, .lst h g => .lst (s.seq h) (IsL.same s g)
  | _, _, .dct h e g => .dct (s _ _ h) e (IsL.same s g)
theorem IsL.same {K : PySem.W.Frag} {F F' : Hp} (s : Same F F') : ∀ {vs : List V} {ts : List Tr}, IsL K F vs ts → IsL K F' vs ts
  | _, _, .nil => .nil
  | _, _, .cons h g => .cons (Is.same s h) (IsL.same s g)
end
section
variable {K : PySem.W.Frag} {F : Hp}
theorem IsL.length : ∀ {vs : List V} {ts : List Tr}, IsL K F vs ts → vs.length = ts.length
  | _, _, .nil => rfl
  | _, _, .cons _ g => congrArg (· + 1) (IsL.length g)
theorem IsL.get : ∀ {vs : List V} {ts : List Tr} {i : Nat} {t : Tr}, IsL K F vs ts → ts[i]? = some t → ∃ v, vs[i]? = some v ∧ Is K F v t
  | _, _, _, _, .nil, e => by simp at e
  | _, _, 0, _, .cons h _, e => by simp at e; subst e; exact ⟨_, rfl, h⟩
  | _, _, i + 1, t, .cons _ g, e => by
    obtain ⟨u, h1, h2⟩ := IsL.get (i := i) (t := t) g (by simpa using e)
    exact ⟨u, by simpa using h1, h2⟩
theorem IsL.get2 : ∀ {vs : List V} {ts : List Tr} {i : Nat} {v : V}, IsL K F vs ts → vs[i]? = some v → ∃ t, ts[i]? = some t ∧ Is K F v t
  | _, _, _, _, .nil, e => by simp at e
  | _, _, 0, _, .cons h _, e => by simp at e; subst e; exact ⟨_, rfl, h⟩
  | _, _, i + 1, t, .cons _ g, e => by
    obtain ⟨u, h1, h2⟩ := IsL.get2 (i := i) (v := t) g (by simpa using e)
    exact ⟨u, by simpa using h1, h2⟩
theorem IsL.app : ∀ {vs ws : List V} {ts us : List Tr}, IsL K F vs ts → IsL K F ws us → IsL K F (vs ++ ws) (ts ++ us)
  | _, _, _, _, .nil, s => s
  | _, _, _, _, .cons h g, s => .cons h (IsL.app g s)
theorem IsL.take : ∀ {vs : List V} {ts : List Tr} (n : Nat), IsL K F vs ts → IsL K F (vs.take n) (ts.take n)
  | _, _, 0, _ => .nil
  | _, _, _ + 1, .nil => .nil
  | _, _, n + 1, .cons h g => .cons h (IsL.take n g)
theorem IsL.drop : ∀ {vs : List V} {ts : List Tr} (n : Nat), IsL K F vs ts → IsL K F (vs.drop n) (ts.drop n)
  | _, _, 0, h => h
  | _, _, _ + 1, .nil => .nil
  | _, _, n + 1, .cons _ g => IsL.drop n g
theorem IsL.snoc {vs : List V} {ts : List Tr} {v : V} {t : Tr} (h : IsL K F vs ts) (g : Is K F v t) : IsL K F (vs ++ [v]) (ts ++ [t]) := h.app (.cons g .nil)
theorem IsL.strs : ∀ {vs : List V} {ns : List Str}, IsL K F vs (ns.map Tr.str) → vs = ns.map V.str
  | _, [], .nil => rfl
  | _, _ :: _, .cons .str g => by rw [List.map_cons, IsL.strs g]
theorem IsL.bls : ∀ {vs : List V} {ns : List Bool}, IsL K F vs (ns.map Tr.bl) → vs = ns.map V.bl
  | _, [], .nil => rfl
  | _, _ :: _, .cons .bl g => by rw [List.map_cons, IsL.bls g]
theorem IsL.ofInts : ∀ (ns : List Int), IsL K F (ns.map V.int) (ns.map Tr.int)
  | [] => .nil
  | _ :: r => .cons .int (IsL.ofInts r)
end
noncomputable def Mb : HO → Prop
  | .lst _ => True
  | .dK _ => True
  | .tbl _ => True
  | _ => False
structure Bk where
  K : PySem.W.Frag
  F0 : Hp
  H0 : Hp
  W : Addr → Prop
  J : Hp → Prop
  rt : Addr
  jl : ∀ H H' : Hp, (∀ p, W p → H p = H' p) → (∀ p φ, H p = some (.ext φ) → H' p = some (.ext φ)) → J H → J H'
  jm : ∀ (H : Hp) (p : Addr), J H → W p → ∃ o, H p = some o ∧ Mb o
structure Up (B : Bk) (F H F' H' : Hp) : Prop where
  f : Same F F'
  h : ∀ p o, ¬ B.W p → H p = some o → H' p = some o
  i : Same F' H'
  m : ∀ p o, H p = some o → Mb o → F p = none → F' p = none
  w : ∀ p, H' p = none → H p = none
  x : ∀ p, B.W p → F p = none → F' p = none
  j : B.J H → B.J H'
theorem Up.refl {B : Bk} {F H : Hp} (i : Same F H) : Up B F H F H := ⟨Same.refl _, fun _ _ _ h => h, i, fun _ _ _ _ h => h, fun _ h => h, fun _ _ h => h, fun h => h⟩
theorem Up.trans {B : Bk} {F H F1 H1 F2 H2 : Hp} (a : Up B F H F1 H1) (b : Up B F1 H1 F2 H2) : Up B F H F2 H2 := ⟨a.f.trans b.f, fun p o n h => b.h p o n (a.h p o n h), b.i, fun p o h mb n => by
  by_cases hw : B.W p
  · exact b.x p hw (a.x p hw n)
  · exact b.m p o (a.h p o hw h) mb (a.m p o h mb n), fun p h => a.w p (b.w p h), fun p hw n => b.x p hw (a.x p hw n), fun h => b.j (a.j h)⟩
inductive Ow (K : PySem.W.Frag) (F H : Hp) (l : Addr) : Tr → Prop
  | lst {vs : List V} {ts : List Tr} : H l = some (.lst vs) → IsL K F vs ts → Ow K F H l (.lst ts)
  | dct {kvs : List (Key × V)} {ts : List (Key × Tr)} : H l = some (.dK kvs) → kvs.map (·.1) = ts.map (·.1) → IsL K F (kvs.map (·.2)) (ts.map (·.2)) → Ow K F H l (.dct ts)
theorem Ow.mb {K : PySem.W.Frag} {F H : Hp} {l : Addr} {t : Tr} (h : Ow K F H l t) : ∃ o, H l = some o ∧ Mb o := by
  cases h with
  | lst h _ => exact ⟨_, h, trivial⟩
  | dct h _ _ => exact ⟨_, h, trivial⟩
theorem Ow.to {K : PySem.W.Frag} {F F' H H' : Hp} {l : Addr} {t : Tr} (h : Ow K F H l t) (s : Same F F') (e : ∀ o, H l = some o → H' l = some o) : Ow K F' H' l t := by
  cases h with
  | lst h g => exact .lst (e _ h) (g.same s)
  | dct h e' g => exact .dct (e _ h) e' (g.same s)
theorem Ow.is {K : PySem.W.Frag} {F H F' : Hp} {l : Addr} {t : Tr} (h : Ow K F H l t) (s : Same F F') (e : F' l = H l) : Is K F' (.ref l) t := by
  cases h with
  | lst h g => exact .lst (SqL.of (by rw [e, h])) (g.same s)
  | dct h e' g => exact .dct (by rw [e, h]) e' (g.same s)
inductive Sl where
  | no | fz (t : Tr) | own (t : Tr) | vw (t : Tr) | wd
abbrev TSt := List Sl
abbrev SAt (σ : St) (i : Nat) (v : V) : Prop := σ[i]? = some (some v)
abbrev TAt (τ : TSt) (i : Nat) (s : Sl) : Prop := τ[i]? = some s
structure Rp (B : Bk) (F H : Hp) (σ : St) (τ : TSt) : Prop where
  up : Up B B.F0 B.H0 F H
  wa : ∀ p, B.W p → B.H0 p ≠ none
  wf : ∀ p, B.W p → F p = none
  wj : B.J H
  wd : ∀ i, TAt τ i .wd → SAt σ i (.ref B.rt)
  len : σ.length = τ.length
  fz : ∀ i t, TAt τ i (.fz t) → ∃ v, SAt σ i v ∧ Is B.K F v t
  ow : ∀ i t, TAt τ i (.own t) → ∃ l, SAt σ i (.ref l) ∧ Ow B.K F H l t ∧ F l = none ∧ B.H0 l = none
  vw : ∀ i t, TAt τ i (.vw t) → ∃ l, SAt σ i (.ref l) ∧ Ow B.K F H l t ∧ F l = none ∧ ¬ B.W l
  ap : ∀ i j t u l, TAt τ i (.own t) → TAt τ j (.own u) → i ≠ j → SAt σ i (.ref l) → SAt σ j (.ref l) → False
  av : ∀ i j t u l, TAt τ i (.own t) → TAt τ j (.vw u) → SAt σ i (.ref l) → SAt σ j (.ref l) → False
inductive Kd where
  | fz (t : Tr) | nw (t : Tr) | sl (i : Nat) | wd
noncomputable def KdOk (B : Bk) (F H : Hp) (σ : St) (τ : TSt) (v : V) : Kd → Prop
  | .fz t => Is B.K F v t
  | .nw t => ∃ l, v = .ref l ∧ Ow B.K F H l t ∧ F l = none ∧ B.H0 l = none ∧ ∀ i u, TAt τ i (.own u) ∨ TAt τ i (.vw u) → ¬ SAt σ i (.ref l)
  | .sl i => SAt σ i v
  | .wd => v = .ref B.rt
noncomputable def NewK (H : Hp) (v : V) : Kd → Prop
  | .nw _ => ∀ l, v = .ref l → H l = none
  | _ => True
structure Fr (B : Bk) (σ : St) (τ : TSt) (F H : Hp) (τ' : TSt) (F' H' : Hp) : Prop where
  f : Same F F'
  k : ∀ p o, H p = some o → ¬ B.W p → (∀ i t, TAt τ i (.own t) → ¬ SAt σ i (.ref p)) → H' p = some o ∧ (Mb o → F p = none → F' p = none)
  o : ∀ i t, TAt τ' i (.own t) → ∃ u, TAt τ i (.own u)
  h : ∀ p, H' p = none → H p = none
theorem Fr.refl {B : Bk} {σ : St} {τ : TSt} {F H : Hp} : Fr B σ τ F H τ F H := ⟨Same.refl _, fun _ _ h _ _ => ⟨h, fun _ z => z⟩, fun _ t h => ⟨t, h⟩, fun _ h => h⟩
theorem Fr.trans {B : Bk} {σ : St} {τ τ1 τ2 : TSt} {F H F1 H1 F2 H2 : Hp} (a : Fr B σ τ F H τ1 F1 H1) (b : Fr B σ τ1 F1 H1 τ2 F2 H2) : Fr B σ τ F H τ2 F2 H2 :=
  ⟨a.f.trans b.f, fun p o h nw n => by
    obtain ⟨h1, h2⟩ := a.k p o h nw n
    obtain ⟨h3, h4⟩ := b.k p o h1 nw fun i t e => by
      obtain ⟨u, e'⟩ := a.o i t e
      exact n i u e'
    exact ⟨h3, fun mb z => h4 mb (h2 mb z)⟩, fun i t e => by
    obtain ⟨u, e'⟩ := b.o i t e
    exact a.o i u e', fun p h => a.h p (b.h p h)⟩
abbrev TK := Kd → TSt → Prop
noncomputable def CT (B : Bk) (σ : St) (τ : TSt) (F H : Hp) (Φ : TK) (Q : VK) : Prop := ∀ v F' H' k τ', Fr B σ τ F H τ' F' H' → Rp B F' H' σ τ' → KdOk B F' H' σ τ' v k → NewK H v k → Φ k τ' → Q v H'
noncomputable def EV (B : Bk) (te : TE) (τ : TSt) (Φ : TK) : Prop := ∀ σ F H Q, Rp B F H σ τ → CT B σ τ F H Φ Q → te σ H Q
noncomputable def TV (B : Bk) (tt : TT) (τ : TSt) (Φ : Bool → TSt → Prop) : Prop := ∀ σ F H (Q : Bool → Hp → Prop), Rp B F H σ τ → (∀ b F' H' τ', Fr B σ τ F H τ' F' H' → Rp B F' H' σ τ' → Φ b τ' → Q b H') → tt σ H Q
noncomputable def EVA (B : Bk) (ta : TA) (τ : TSt) (Φ : List Tr → TSt → Prop) : Prop := ∀ σ F H (Q : List V → Hp → Prop), Rp B F H σ τ → (∀ vs F' H' ts τ', Fr B σ τ F H τ' F' H' → Rp B F' H' σ τ' → IsL B.K F' vs ts → Φ ts τ' → Q vs H') → ta σ H Q
noncomputable def AsF (k : Kd) (τ : TSt) (S : Tr → TSt → Prop) : Prop := match k with
  | .fz t => S t τ
  | .nw t => S t τ
  | .sl i => (∃ t, TAt τ i (.own t) ∧ S t (τ.set i (.fz t))) ∨ ∃ t, TAt τ i (.fz t) ∧ S t τ
  | .wd => False
noncomputable def Pnd (k : Kd) (τ : TSt) (S : TK) : Prop := match k with
  | .fz t => S (.fz t) τ
  | .nw t => S (.fz t) τ
  | .sl i => S (.sl i) τ
  | .wd => False
noncomputable def PdOk (K : PySem.W.Frag) (F : Hp) (σ : St) (v : V) : Kd → Prop
  | .fz t => Is K F v t
  | .nw _ => False
  | .sl i => SAt σ i v
  | .wd => False
theorem PdOk.same {K : PySem.W.Frag} {F F' : Hp} {σ : St} {v : V} {k : Kd} (s : Same F F') (h : PdOk K F σ v k) : PdOk K F' σ v k := by
  cases k with
  | fz t => exact Is.same s h
  | nw t => exact h
  | sl i => exact h
  | wd => exact h
section
variable {B : Bk} {F H F1 H1 F' H' : Hp} {σ : St} {τ τ1 τ' : TSt}
theorem CT.on {Φ : TK} {Q : VK} (c : CT B σ τ F H Φ Q) (f : Fr B σ τ F H τ1 F1 H1) : CT B σ τ1 F1 H1 Φ Q := fun v F' H' k τ' f' r ok n φ => c v F' H' k τ' (f.trans f') r ok (by
  cases k with
  | nw t => exact fun l e => f.h l (n l e)
  | fz t => exact trivial
  | sl i => exact trivial
  | wd => exact trivial) φ
theorem Rp.go (r : Rp B F H σ τ) (u : Up B F H F' H') : Rp B F' H' σ τ where
  up := r.up.trans u
  wa := r.wa
  wf := fun p hw => u.x p hw (r.wf p hw)
  wj := u.j r.wj
  wd := r.wd
  len := r.len
  fz := fun i t h => by obtain ⟨v, e, g⟩ := r.fz i t h; exact ⟨v, e, g.same u.f⟩
  ow := fun i t h => by
    obtain ⟨l, e, g, n, n0⟩ := r.ow i t h
    obtain ⟨o, ho, mb⟩ := g.mb
    exact ⟨l, e, g.to u.f (fun o => u.h l o fun hw => r.wa l hw n0), u.m l o ho mb n, n0⟩
  vw := fun i t h => by
    obtain ⟨l, e, g, n, nw⟩ := r.vw i t h
    obtain ⟨o, ho, mb⟩ := g.mb
    exact ⟨l, e, g.to u.f (fun o => u.h l o nw), u.m l o ho mb n, nw⟩
  ap := r.ap
  av := r.av
theorem Fr.up (u : Up B F H F' H') : Fr B σ τ F H τ F' H' := ⟨u.f, fun p o h nw _ => ⟨u.h p o nw h, fun mb n => u.m p o h mb n⟩, fun _ t h => ⟨t, h⟩, u.w⟩
theorem upd_none {H : Hp} {a b : Addr} {o : HO} (h : upd H a o b = none) : H b = none := by
  by_cases e : b = a
  · rw [e, upd_same] at h; cases h
  · rw [upd_ne e] at h; exact h
theorem Rp.tup {p : Addr} {vs : List V} (r : Rp B F H σ τ) (n : H p = none) : Up B F H (upd F p (.tup vs)) (upd H p (.tup vs)) where
  f := Same.new (r.up.i.free n) _
  h := fun q o _ z => Same.new n _ q o z
  i := fun b o e => by
    by_cases hb : b = p
    · subst hb; rw [upd_same] at e ⊢; exact e
    · rw [upd_ne hb] at e ⊢; exact r.up.i b o e
  m := fun q o h _ z => by
    have : q ≠ p := fun e => by rw [e, n] at h; cases h
    rw [upd_ne this]; exact z
  w := fun q h => upd_none h
  x := fun q hw z => by
    have : q ≠ p := fun e => r.wa q hw (r.up.w q (by rw [e]; exact n))
    rw [upd_ne this]; exact z
  j := fun h => B.jl _ _ (fun q hw => by
    have : q ≠ p := fun e => r.wa q hw (r.up.w q (by rw [e]; exact n))
    rw [upd_ne this]) (fun q φ z => Same.new n _ q _ z) h
theorem Rp.new {p : Addr} {o : HO} (r : Rp B F H σ τ) (n : H p = none) : Up B F H F (upd H p o) where
  f := Same.refl _
  h := fun q o _ z => Same.new n _ q o z
  i := r.up.i.trans (Same.new n _)
  m := fun q o h _ z => z
  w := fun q h => upd_none h
  x := fun q hw z => z
  j := fun h => B.jl _ _ (fun q hw => by
    have : q ≠ p := fun e => r.wa q hw (r.up.w q (by rw [e]; exact n))
    rw [upd_ne this]) (fun q φ z => Same.new n _ q _ z) h
theorem Rp.inc (r : Rp B F H σ τ) : Same F H := r.up.i
theorem Rp.fixA {l : Addr} {o : HO} (r : Rp B F H σ τ) (ho : H l = some o) (n : F l = none) (n0 : B.H0 l = none) (ne : ∀ i u, TAt τ i (.own u) ∨ TAt τ i (.vw u) → ¬ SAt σ i (.ref l)) : Rp B (upd F l o) H σ τ where
  wa := r.wa
  wf := fun p hw => by
    have : p ≠ l := fun e => r.wa p hw (by rw [e]; exact n0)
    rw [upd_ne this]; exact r.wf p hw
  wj := r.wj
  wd := r.wd
  up := { f := r.up.f.trans (Same.new n o), h := r.up.h, w := r.up.w, j := r.up.j
          m := fun p q hp mb z => by
            have : p ≠ l := fun e => by rw [e, n0] at hp; cases hp
            rw [upd_ne this]; exact r.up.m p q hp mb z
          x := fun p hw z => by
            have : p ≠ l := fun e => r.wa p hw (by rw [e]; exact n0)
            rw [upd_ne this]; exact r.up.x p hw z
          i := fun b q e => by
            by_cases hb : b = l
            · subst hb; rw [upd_same] at e; cases e; exact ho
            · rw [upd_ne hb] at e; exact r.up.i b q e }
  len := r.len
  fz := fun i t h => by obtain ⟨v, e, g⟩ := r.fz i t h; exact ⟨v, e, g.same (Same.new n o)⟩
  ow := fun i t h => by
    obtain ⟨l', e, g, n', n0'⟩ := r.ow i t h
    have hl : l' ≠ l := fun z => ne i t (.inl h) (by rw [← z]; exact e)
    exact ⟨l', e, g.to (Same.new n o) (fun _ q => q), by rw [upd_ne hl]; exact n', n0'⟩
  vw := fun i t h => by
    obtain ⟨l', e, g, n', nw⟩ := r.vw i t h
    have hl : l' ≠ l := fun z => ne i t (.inr h) (by rw [← z]; exact e)
    exact ⟨l', e, g.to (Same.new n o) (fun _ q => q), by rw [upd_ne hl]; exact n', nw⟩
  ap := r.ap
  av := r.av
theorem tset {τ : TSt} {i j : Nat} {s u : Sl} (h : TAt (τ.set i s) j u) : (j = i ∧ u = s ∧ i < τ.length) ∨ (j ≠ i ∧ TAt τ j u) := by
  unfold TAt at h
  rw [List.getElem?_set] at h
  by_cases e : i = j
  · subst e
    rw [if_pos rfl] at h
    by_cases g : i < τ.length
    · rw [if_pos g] at h; cases h; exact .inl ⟨rfl, rfl, g⟩
    · rw [if_neg g] at h; cases h
  · rw [if_neg e] at h; exact .inr ⟨fun z => e z.symm, h⟩
theorem sset {σ : St} {i j : Nat} {x : Option V} {v : V} (h : SAt (σ.set i x) j v) : (j = i ∧ x = some v) ∨ (j ≠ i ∧ SAt σ j v) := by
  unfold SAt at h
  rw [List.getElem?_set] at h
  by_cases e : i = j
  · subst e
    rw [if_pos rfl] at h
    by_cases g : i < σ.length
    · rw [if_pos g] at h; cases h; exact .inl ⟨rfl, rfl⟩
    · rw [if_neg g] at h; cases h
  · rw [if_neg e] at h; exact .inr ⟨fun z => e z.symm, h⟩
theorem ssetHere {σ : St} {i : Nat} {v : V} (h : i < σ.length) : SAt (σ.set i (some v)) i v := by
  unfold SAt
  rw [List.getElem?_set, if_pos rfl, if_pos h]
theorem ssetNe {σ : St} {i j : Nat} {x : Option V} {v : V} (n : j ≠ i) (h : SAt σ j v) : SAt (σ.set i x) j v := by
  unfold SAt at h ⊢
  rw [List.getElem?_set, if_neg (fun z => n z.symm)]; exact h
theorem Rp.setF {i : Nat} {v : V} {t : Tr} (r : Rp B F H σ τ) (h : Is B.K F v t) : Rp B F H (σ.set i (some v)) (τ.set i (.fz t)) where
  up := r.up
  wa := r.wa
  wf := r.wf
  wj := r.wj
  wd := fun j e => by
    rcases tset e with ⟨_, e, _⟩ | ⟨n, e⟩
    · cases e
    · exact ssetNe n (r.wd j e)
  len := by rw [List.length_set, List.length_set]; exact r.len
  fz := fun j u e => by
    rcases tset e with ⟨rfl, e, g⟩ | ⟨n, e⟩
    · cases e; exact ⟨v, ssetHere (by rw [r.len]; exact g), h⟩
    · obtain ⟨w, a, b⟩ := r.fz j u e
      exact ⟨w, ssetNe n a, b⟩
  ow := fun j u e => by
    rcases tset e with ⟨rfl, e, g⟩ | ⟨n, e⟩
    · cases e
    · obtain ⟨w, a, b⟩ := r.ow j u e
      exact ⟨w, ssetNe n a, b⟩
  vw := fun j u e => by
    rcases tset e with ⟨rfl, e, g⟩ | ⟨n, e⟩
    · cases e
    · obtain ⟨w, a, b⟩ := r.vw j u e
      exact ⟨w, ssetNe n a, b⟩
  ap := fun a b t u l ha hb ne hi hj => by
    rcases tset ha with ⟨_, e, _⟩ | ⟨na, ha⟩
    · cases e
    rcases tset hb with ⟨_, e, _⟩ | ⟨nb, hb⟩
    · cases e
    rcases sset hi with ⟨e, _⟩ | ⟨_, hi⟩
    · exact na e
    rcases sset hj with ⟨e, _⟩ | ⟨_, hj⟩
    · exact nb e
    exact r.ap a b t u l ha hb ne hi hj
  av := fun a b t u l ha hb hi hj => by
    rcases tset ha with ⟨_, e, _⟩ | ⟨na, ha⟩
    · cases e
    rcases tset hb with ⟨_, e, _⟩ | ⟨nb, hb⟩
    · cases e
    rcases sset hi with ⟨e, _⟩ | ⟨_, hi⟩
    · exact na e
    rcases sset hj with ⟨e, _⟩ | ⟨_, hj⟩
    · exact nb e
    exact r.av a b t u l ha hb hi hj
theorem Rp.setN {i : Nat} {v : V} {t : Tr} (r : Rp B F H σ τ) (h : KdOk B F H σ τ v (.nw t)) : Rp B F H (σ.set i (some v)) (τ.set i (.own t)) := by
  obtain ⟨l0, rfl, hw, n, n0, dis⟩ := h
  exact {
  up := r.up
  wa := r.wa
  wf := r.wf
  wj := r.wj
  wd := fun j e => by
    rcases tset e with ⟨_, e, _⟩ | ⟨n, e⟩
    · cases e
    · exact ssetNe n (r.wd j e)
  len := by rw [List.length_set, List.length_set]; exact r.len
  fz := fun j u e => by
    rcases tset e with ⟨rfl, e, g⟩ | ⟨n, e⟩
    · cases e
    · obtain ⟨w, a, b⟩ := r.fz j u e
      exact ⟨w, ssetNe n a, b⟩
  ow := fun j u e => by
    rcases tset e with ⟨rfl, e, g⟩ | ⟨n, e⟩
    · cases e; exact ⟨l0, ssetHere (by rw [r.len]; exact g), hw, n, n0⟩
    · obtain ⟨w, a, b⟩ := r.ow j u e
      exact ⟨w, ssetNe n a, b⟩
  vw := fun j u e => by
    rcases tset e with ⟨rfl, e, g⟩ | ⟨n, e⟩
    · cases e
    · obtain ⟨w, a, b⟩ := r.vw j u e
      exact ⟨w, ssetNe n a, b⟩
  ap := fun a b t u l ha hb ne hi hj => by
    rcases tset ha with ⟨ea, _, _⟩ | ⟨na, ha⟩
    · rcases tset hb with ⟨eb, _, _⟩ | ⟨nb, hb⟩
      · exact ne (ea.trans eb.symm)
      · rcases sset hi with ⟨_, e⟩ | ⟨na, _⟩
        · cases e
          rcases sset hj with ⟨e, _⟩ | ⟨_, hj⟩
          · exact nb e
          · exact dis b u (.inl hb) hj
        · exact na ea
    · rcases sset hi with ⟨e, _⟩ | ⟨_, hi⟩
      · exact na e
      rcases tset hb with ⟨eb, _, _⟩ | ⟨nb, hb⟩
      · rcases sset hj with ⟨_, e⟩ | ⟨nb, _⟩
        · cases e; exact dis a t (.inl ha) hi
        · exact nb eb
      · rcases sset hj with ⟨e, _⟩ | ⟨_, hj⟩
        · exact nb e
        · exact r.ap a b t u l ha hb ne hi hj
  av := fun a b t u l ha hb hi hj => by
    rcases tset hb with ⟨_, e, _⟩ | ⟨nb, hb⟩
    · cases e
    rcases sset hj with ⟨e, _⟩ | ⟨_, hj⟩
    · exact nb e
    rcases tset ha with ⟨ea, _, _⟩ | ⟨na, ha⟩
    · rcases sset hi with ⟨_, e⟩ | ⟨na, _⟩
      · cases e; exact dis b u (.inr hb) hj
      · exact na ea
    · rcases sset hi with ⟨e, _⟩ | ⟨_, hi⟩
      · exact na e
      · exact r.av a b t u l ha hb hi hj }
theorem Rp.forget {i : Nat} (r : Rp B F H σ τ) : Rp B F H σ (τ.set i .no) where
  up := r.up
  wa := r.wa
  wf := r.wf
  wj := r.wj
  wd := fun j e => by
    rcases tset e with ⟨_, e, _⟩ | ⟨n, e⟩
    · cases e
    · exact r.wd j e
  len := by rw [List.length_set]; exact r.len
  fz := fun j u e => by
    rcases tset e with ⟨_, e, _⟩ | ⟨_, e⟩
    · cases e
    · exact r.fz j u e
  ow := fun j u e => by
    rcases tset e with ⟨_, e, _⟩ | ⟨_, e⟩
    · cases e
    · exact r.ow j u e
  vw := fun j u e => by
    rcases tset e with ⟨_, e, _⟩ | ⟨_, e⟩
    · cases e
    · exact r.vw j u e
  ap := fun a b t u l ha hb => by
    rcases tset ha with ⟨_, e, _⟩ | ⟨_, ha⟩
    · cases e
    rcases tset hb with ⟨_, e, _⟩ | ⟨_, hb⟩
    · cases e
    exact r.ap a b t u l ha hb
  av := fun a b t u l ha hb => by
    rcases tset ha with ⟨_, e, _⟩ | ⟨_, ha⟩
    · cases e
    rcases tset hb with ⟨_, e, _⟩ | ⟨_, hb⟩
    · cases e
    exact r.av a b t u l ha hb
theorem sat_unique {σ : St} {i : Nat} {v w : V} (h : SAt σ i v) (g : SAt σ i w) : v = w := by
  unfold SAt at h g
  rw [h] at g; exact Option.some.inj (Option.some.inj g)
theorem set_same {σ : St} {i : Nat} {v : V} (h : SAt σ i v) : σ.set i (some v) = σ := by
  apply List.ext_getElem?
  intro j
  rw [List.getElem?_set]
  by_cases e : i = j
  · subst e
    rw [if_pos rfl, if_pos (List.getElem?_eq_some_iff.mp h).1]; exact h.symm
  · rw [if_neg e]
theorem Rp.fixS {i : Nat} {t : Tr} (r : Rp B F H σ τ) (h : TAt τ i (.own t)) : ∃ F2 l, SAt σ i (.ref l) ∧ Same F F2 ∧ Rp B F2 H σ (τ.set i (.fz t)) ∧ Is B.K F2 (.ref l) t ∧ ∀ p, p ≠ l → F2 p = F p := by
  obtain ⟨l, e, g, n, n0⟩ := r.ow i t h
  obtain ⟨o, ho, mb⟩ := g.mb
  have r1 : Rp B F H σ (τ.set i .no) := r.forget
  have r2 := r1.fixA ho n n0 (fun j u hj hs => by
    rcases hj with hj | hj
    · rcases tset hj with ⟨_, z, _⟩ | ⟨nj, hj⟩
      · cases z
      · exact r.ap i j t u l h hj (fun z => nj z.symm) e hs
    · rcases tset hj with ⟨_, z, _⟩ | ⟨nj, hj⟩
      · cases z
      · exact r.av i j t u l h hj e hs)
  have hi : Is B.K (upd F l o) (.ref l) t := g.is (Same.new n o) (by rw [upd_same, ho])
  have r3 := r2.setF (i := i) hi
  rw [set_same e, List.set_set] at r3
  exact ⟨_, l, e, Same.new n o, r3, hi, fun p hp => upd_ne hp⟩
theorem asF_ok {v : V} {k : Kd} {S : Tr → TSt → Prop} (f : Fr B σ τ F H τ1 F1 H1) (r : Rp B F1 H1 σ τ1) (ok : KdOk B F1 H1 σ τ1 v k) (nk : NewK H v k) (h : AsF k τ1 S) : ∃ F2 t τ2, Fr B σ τ F H τ2 F2 H1 ∧ Rp B F2 H1 σ τ2 ∧ Is B.K F2 v t ∧ S t τ2 ∧ Same F1 F2 := by
  cases k with
  | fz t => exact ⟨F1, t, τ1, f, r, ok, h, Same.refl _⟩
  | nw t =>
    obtain ⟨l, rfl, g, n, n0, ne⟩ := ok
    obtain ⟨o, ho, mb⟩ := g.mb
    refine ⟨upd F1 l o, t, τ1, ⟨f.f.trans (Same.new n o), fun p q hp nw no => ?_, f.o, f.h⟩, r.fixA ho n n0 ne, g.is (Same.new n o) (by rw [upd_same, ho]), h, Same.new n o⟩
    obtain ⟨h1, h2⟩ := f.k p q hp nw no
    refine ⟨h1, fun mb z => ?_⟩
    have : p ≠ l := fun e => by rw [e, nk l rfl] at hp; cases hp
    rw [upd_ne this]; exact h2 mb z
  | sl i =>
    rcases h with ⟨t, ht, hs⟩ | ⟨t, ht, hs⟩
    · obtain ⟨F2, l, e, sF, r2, hi, ne⟩ := r.fixS ht
      cases sat_unique e ok
      refine ⟨F2, t, _, ⟨f.f.trans sF, fun p q hp nw no => ?_, fun j u hj => ?_, f.h⟩, r2, hi, hs, sF⟩
      · obtain ⟨h1, h2⟩ := f.k p q hp nw no
        refine ⟨h1, fun mb z => ?_⟩
        obtain ⟨u, hu⟩ := f.o i t ht
        have : p ≠ l := fun e' => no i u hu (by rw [e']; exact e)
        rw [ne p this]; exact h2 mb z
      · rcases tset hj with ⟨_, z, _⟩ | ⟨_, hj⟩
        · cases z
        · exact f.o j u hj
    · obtain ⟨w, e, hi⟩ := r.fz i t ht
      cases sat_unique e ok
      exact ⟨F1, t, τ1, f, r, hi, hs, Same.refl _⟩
  | wd => exact h.elim
theorem pnd_ok {v : V} {k : Kd} {S : TK} (f : Fr B σ τ F H τ1 F1 H1) (r : Rp B F1 H1 σ τ1) (ok : KdOk B F1 H1 σ τ1 v k) (nk : NewK H v k) (h : Pnd k τ1 S) : ∃ F2 k', Fr B σ τ F H τ1 F2 H1 ∧ Rp B F2 H1 σ τ1 ∧ PdOk B.K F2 σ v k' ∧ S k' τ1 ∧ Same F1 F2 := by
  cases k with
  | fz t => exact ⟨F1, .fz t, f, r, ok, h, Same.refl _⟩
  | nw t =>
    obtain ⟨F2, t2, τ2, f2, r2, i2, ⟨s2, rfl, rfl⟩, sF⟩ := asF_ok (S := fun t' τ' => S (.fz t') τ' ∧ t' = t ∧ τ' = τ1) f r ok nk ⟨h, rfl, rfl⟩
    exact ⟨F2, _, f2, r2, (show PdOk B.K F2 σ v (.fz _) from i2), s2, sF⟩
  | sl i => exact ⟨F1, .sl i, f, r, ok, h, Same.refl _⟩
  | wd => exact h.elim
end
end L2
namespace L2
open PySem PySem.Spec PyProof.Rows
inductive Gt {α : Type} : List α → Nat → α → Prop
  | here {v : α} {r : List α} : Gt (v :: r) 0 v
  | next {x v : α} {r : List α} {i : Nat} : Gt r i v → Gt (x :: r) (i + 1) v
theorem Gt.eq {α : Type} {σ : List α} {i : Nat} {v : α} (h : Gt σ i v) : σ[i]? = some v := by
  induction h with
  | here => rfl
  | next _ ih => rw [List.getElem?_cons_succ, ih]
inductive Sto {α : Type} : List α → Nat → α → List α → Prop
  | here {x v : α} {r : List α} : Sto (x :: r) 0 v (v :: r)
  | next {x v : α} {r r' : List α} {i : Nat} : Sto r i v r' → Sto (x :: r) (i + 1) v (x :: r')
theorem Sto.eq {α : Type} {σ σ' : List α} {i : Nat} {v : α} (h : Sto σ i v σ') : σ.set i v = σ' := by
  induction h with
  | here => rfl
  | next _ ih => rw [List.set_cons_succ, ih]
inductive Rk (τ : TSt) : Kd → Tr → Prop
  | fz {t : Tr} : Rk τ (.fz t) t
  | own {i : Nat} {t : Tr} : Gt τ i (.own t) → Rk τ (.sl i) t
  | vw {i : Nat} {t : Tr} : Gt τ i (.vw t) → Rk τ (.sl i) t
  | sfz {i : Nat} {t : Tr} : Gt τ i (.fz t) → Rk τ (.sl i) t
section
variable {B : Bk} {F H : Hp} {σ : St} {τ : TSt}
theorem Rk.list {v : V} {k : Kd} {ts : List Tr} (h : Rk τ k (.lst ts)) (r : Rp B F H σ τ) (ok : PdOk B.K F σ v k) : ∃ p vs, v = .ref p ∧ SqL B.K H p vs ∧ IsL B.K F vs ts := by
  cases h with
  | fz =>
    cases ok with
    | lst a b => exact ⟨_, _, rfl, r.inc.seq a, b⟩
  | own g =>
    obtain ⟨l, e, hw, _⟩ := r.ow _ _ g.eq
    cases sat_unique e ok
    cases hw with
    | lst a b => exact ⟨_, _, rfl, SqL.of a, b⟩
  | vw g =>
    obtain ⟨l, e, hw, _⟩ := r.vw _ _ g.eq
    cases sat_unique e ok
    cases hw with
    | lst a b => exact ⟨_, _, rfl, SqL.of a, b⟩
  | sfz g =>
    obtain ⟨w, e, hi⟩ := r.fz _ _ g.eq
    cases sat_unique e ok
    cases hi with
    | lst a b => exact ⟨_, _, rfl, r.inc.seq a, b⟩
theorem Rk.tuple {v : V} {k : Kd} {ts : List Tr} (h : Rk τ k (.tup ts)) (r : Rp B F H σ τ) (ok : PdOk B.K F σ v k) : ∃ p vs, v = .ref p ∧ SqT B.K H p vs ∧ IsL B.K F vs ts := by
  cases h with
  | fz =>
    cases ok with
    | tup a b => exact ⟨_, _, rfl, r.inc.tup a, b⟩
  | own g =>
    obtain ⟨l, e, hw, _⟩ := r.ow _ _ g.eq
    cases hw
  | vw g =>
    obtain ⟨l, e, hw, _⟩ := r.vw _ _ g.eq
    cases hw
  | sfz g =>
    obtain ⟨w, e, hi⟩ := r.fz _ _ g.eq
    cases sat_unique e ok
    cases hi with
    | tup a b => exact ⟨_, _, rfl, r.inc.tup a, b⟩
theorem Rk.dict {v : V} {k : Kd} {ts : List (Key × Tr)} (h : Rk τ k (.dct ts)) (r : Rp B F H σ τ) (ok : PdOk B.K F σ v k) : ∃ p kvs, v = .ref p ∧ H p = some (.dK kvs) ∧ kvs.map (·.1) = ts.map (·.1) ∧ IsL B.K F (kvs.map (·.2)) (ts.map (·.2)) := by
  cases h with
  | fz =>
    cases ok with
    | dct a b c => exact ⟨_, _, rfl, r.inc _ _ a, b, c⟩
  | own g =>
    obtain ⟨l, e, hw, _⟩ := r.ow _ _ g.eq
    cases sat_unique e ok
    cases hw with
    | dct a b c => exact ⟨_, _, rfl, a, b, c⟩
  | vw g =>
    obtain ⟨l, e, hw, _⟩ := r.vw _ _ g.eq
    cases sat_unique e ok
    cases hw with
    | dct a b c => exact ⟨_, _, rfl, a, b, c⟩
  | sfz g =>
    obtain ⟨w, e, hi⟩ := r.fz _ _ g.eq
    cases sat_unique e ok
    cases hi with
    | dct a b c => exact ⟨_, _, rfl, r.inc _ _ a, b, c⟩
end
section
variable {B : Bk} {τ τ' : TSt} {Φ : TK} {te ta tb tc : TE} {k : Nat} {t : Tr} {i j : Int} {x y : Kd} {b : Bool} {c d : TT} {Ψ : Bool → TSt → Prop}
theorem p_fz {S : TK} (h : S (.fz t) τ) : Pnd (.fz t) τ S := h
theorem p_nw {S : TK} (h : S (.fz t) τ) : Pnd (.nw t) τ S := h
theorem p_sl {S : TK} (h : S (.sl k) τ) : Pnd (.sl k) τ S := h
theorem as_fz {S : Tr → TSt → Prop} (h : S t τ) : AsF (.fz t) τ S := h
theorem as_nw {S : Tr → TSt → Prop} (h : S t τ) : AsF (.nw t) τ S := h
theorem as_own {S : Tr → TSt → Prop} (g : Gt τ k (.own t)) (s : Sto τ k (.fz t) τ') (h : S t τ') : AsF (.sl k) τ S := .inl ⟨t, g.eq, by rw [s.eq]; exact h⟩
theorem CT.pl {F H : Hp} {σ : St} {Q : VK} {v : V} (c : CT B σ τ F H Φ Q) (r : Rp B F H σ τ) (h : Is B.K F v t) (φ : Φ (.fz t) τ) : Q v H := c v F H (.fz t) τ Fr.refl r h trivial φ
theorem e_var (g : Gt τ k (.fz t)) (q : Φ (.fz t) τ) : EV B (tVar k) τ Φ := fun σ F H Q r c => by
  obtain ⟨v, e, h⟩ := r.fz _ _ g.eq
  exact ⟨v, e, c.pl r h q⟩
theorem e_varO (g : Gt τ k (.own t)) (q : Φ (.sl k) τ) : EV B (tVar k) τ Φ := fun σ F H Q r c => by
  obtain ⟨l, e, h⟩ := r.ow _ _ g.eq
  exact ⟨_, e, c _ F H (.sl k) τ Fr.refl r e trivial q⟩
theorem e_cI (q : Φ (.fz (.int i)) τ) : EV B (tC (.int i)) τ Φ := fun _ _ _ _ r c => c.pl r .int q
theorem e_cN (q : Φ (.fz .non) τ) : EV B (tC .non) τ Φ := fun _ _ _ _ r c => c.pl r .non q
theorem e_cS {z : Str} (q : Φ (.fz (.str z)) τ) : EV B (tC (.str z)) τ Φ := fun _ _ _ _ r c => c.pl r .str q
theorem e_cT {z : String} (q : Φ (.fz (.ty z)) τ) : EV B (tC (.ty z)) τ Φ := fun _ _ _ _ r c => c.pl r .ty q
noncomputable def RO (B : Bk) (r : R2) (x y : Kd) (τ : TSt) (Φ : TK) : Prop := ∀ σ F H v w Q, Rp B F H σ τ → PdOk B.K F σ v x → PdOk B.K F σ w y → CT B σ τ F H Φ Q → r v w H Q
theorem e_op {r : R2} (h : EV B ta τ fun x τ1 => Pnd x τ1 fun x τ1 => EV B tb τ1 fun y τ2 => Pnd y τ2 fun y τ2 => RO B r x y τ2 Φ) : EV B (tOp r ta tb) τ Φ := fun σ F H Q rp c => by
  refine h σ F H _ rp fun v F1 H1 k τ1 f1 r1 ok1 n1 h1 => ?_
  obtain ⟨F2, k', f2, r2, ok2, h2, _⟩ := pnd_ok f1 r1 ok1 n1 h1
  refine h2 σ F2 H1 _ r2 fun w F3 H3 k3 τ3 f3 r3 ok3 n3 h3 => ?_
  obtain ⟨F4, k4, f4, r4, ok4, h4, _⟩ := pnd_ok f3 r3 ok3 n3 h3
  exact h4 σ F4 H3 v w Q r4 (ok2.same f4.f) ok4 (c.on (f2.trans f4))
noncomputable def RU (B : Bk) (r : V → Hp → VK → Prop) (x : Kd) (τ : TSt) (Φ : TK) : Prop := ∀ σ F H v Q, Rp B F H σ τ → PdOk B.K F σ v x → CT B σ τ F H Φ Q → r v H Q
theorem e_un {r : V → Hp → VK → Prop} (h : EV B ta τ fun x τ1 => Pnd x τ1 fun x τ1 => RU B r x τ1 Φ) : EV B (tUn r ta) τ Φ := fun σ F H Q rp c => by
  refine h σ F H _ rp fun v F1 H1 k τ1 f1 r1 ok1 n1 h1 => ?_
  obtain ⟨F2, k', f2, r2, ok2, h2, _⟩ := pnd_ok f1 r1 ok1 n1 h1
  exact h2 σ F2 H1 v Q r2 ok2 (c.on f2)
theorem pd_int {K : PySem.W.Frag} {F : Hp} {σ : St} {v : V} (h : PdOk K F σ v (.fz (.int i))) : v = .int i := by cases h; rfl
theorem pd_bl {K : PySem.W.Frag} {F : Hp} {σ : St} {v : V} (h : PdOk K F σ v (.fz (.bl b))) : v = .bl b := by cases h; rfl
theorem pd_str {K : PySem.W.Frag} {F : Hp} {σ : St} {v : V} {z : Str} (h : PdOk K F σ v (.fz (.str z))) : v = .str z := by cases h; rfl
theorem pd_non {K : PySem.W.Frag} {F : Hp} {σ : St} {v : V} (h : PdOk K F σ v (.fz .non)) : v = .non := by cases h; rfl
theorem ro_I {C : Int → Int → Prop} {g : Int → Int → Int} (hc : C i j) (q : Φ (.fz (.int (g i j))) τ) : RO B (rI C fun i j => .int (g i j)) (.fz (.int i)) (.fz (.int j)) τ Φ := fun _ _ _ _ _ _ r a b c => by
  cases pd_int a; cases pd_int b
  exact ⟨i, j, rfl, rfl, hc, c.pl r .int q⟩
theorem ro_I0 {g : Int → Int → Int} (q : Φ (.fz (.int (g i j))) τ) : RO B (rI0 fun i j => .int (g i j)) (.fz (.int i)) (.fz (.int j)) τ Φ := fun _ _ _ _ _ _ r a b c => by
  cases pd_int a; cases pd_int b
  exact ⟨i, j, rfl, rfl, c.pl r .int q⟩
theorem ro_I0B {g : Int → Int → Bool} (q : Φ (.fz (.bl (g i j))) τ) : RO B (rI0 fun i j => .bl (g i j)) (.fz (.int i)) (.fz (.int j)) τ Φ := fun _ _ _ _ _ _ r a b c => by
  cases pd_int a; cases pd_int b
  exact ⟨i, j, rfl, rfl, c.pl r .bl q⟩
theorem ru_U {g : Int → Int} (q : Φ (.fz (.int (g i))) τ) : RU B (rU fun i => .int (g i)) (.fz (.int i)) τ Φ := fun _ _ _ _ _ r a c => by
  cases pd_int a
  exact ⟨i, rfl, c.pl r .int q⟩
theorem ro_EqI (q : Φ (.fz (.bl (decide (i = j)))) τ) : RO B rEq (.fz (.int i)) (.fz (.int j)) τ Φ := fun _ _ _ _ _ _ r a b c => by
  cases pd_int a; cases pd_int b
  exact z_EqI (c.pl r .bl q)
theorem ro_NeI (q : Φ (.fz (.bl (!decide (i = j)))) τ) : RO B rNe (.fz (.int i)) (.fz (.int j)) τ Φ := fun _ _ _ _ _ _ r a b c => by
  cases pd_int a; cases pd_int b
  exact z_NeI (c.pl r .bl q)
theorem ro_EqS {z u : Str} (q : Φ (.fz (.bl (decide (z = u)))) τ) : RO B rEq (.fz (.str z)) (.fz (.str u)) τ Φ := fun _ _ _ _ _ _ r a b c => by
  cases pd_str a; cases pd_str b
  exact z_EqS (c.pl r .bl q)
theorem ro_NeB {b1 b2 : Bool} (q : Φ (.fz (.bl (!decide (b1 = b2)))) τ) : RO B rNe (.fz (.bl b1)) (.fz (.bl b2)) τ Φ := fun _ _ _ _ _ _ r a b c => by
  cases pd_bl a; cases pd_bl b
  exact z_NeB (c.pl r .bl q)
noncomputable def Tr.isN : Tr → Bool
  | .non => true
  | _ => false
theorem is_non {K : PySem.W.Frag} {F : Hp} {v : V} (h : Is K F v t) : decide (v = .non) = t.isN := by cases h <;> rfl
theorem ro_isN (q : Φ (.fz (.bl t.isN)) τ) : RO B rIsN (.fz t) (.fz .non) τ Φ := fun _ _ _ v _ _ r a b c => by
  cases pd_non b
  refine ⟨rfl, ?_⟩
  rw [is_non (show Is B.K _ v t from a)]
  exact c.pl r .bl q
theorem isl_at {K : PySem.W.Frag} {F : Hp} {vs : List V} {ts : List Tr} (h : IsL K F vs ts) (e : atI ts i = some t) : ∃ v, atI vs i = some v ∧ Is K F v t := by
  unfold atI at e ⊢
  rw [h.length]
  cases hx : ixN ts.length i with
  | none => rw [hx] at e; cases e
  | some n =>
    rw [hx] at e
    exact h.get e
theorem ro_ixL {K : PySem.W.Frag} {ts : List Tr} (hK : K = B.K) (rk : Rk τ x (.lst ts)) (e : atI ts i = some t) (q : Φ (.fz t) τ) : RO B (rIxL K) x (.fz (.int i)) τ Φ := fun _ _ _ _ _ _ r a b c => by
  subst hK
  cases pd_int b
  obtain ⟨p, vs, rfl, s, l⟩ := rk.list r a
  obtain ⟨w, ew, hw⟩ := isl_at l e
  exact ⟨p, vs, i, w, rfl, rfl, s, ew, c.pl r hw q⟩
theorem ro_ixT {K : PySem.W.Frag} {ts : List Tr} (hK : K = B.K) (rk : Rk τ x (.tup ts)) (e : atI ts i = some t) (q : Φ (.fz t) τ) : RO B (rIxT K) x (.fz (.int i)) τ Φ := fun _ _ _ _ _ _ r a b c => by
  subst hK
  cases pd_int b
  obtain ⟨p, vs, rfl, s, l⟩ := rk.tuple r a
  obtain ⟨w, ew, hw⟩ := isl_at l e
  exact ⟨p, vs, i, w, rfl, rfl, s, ew, c.pl r hw q⟩
theorem ro_ixS {z : Str} {ch : Nat} (hl : z.length ≤ sizeLine) (e : atI z.cps.toList i = some ch) (q : Φ (.fz (.str ⟨#[ch]⟩)) τ) : RO B rIxS (.fz (.str z)) (.fz (.int i)) τ Φ := fun _ _ _ _ _ _ r a b c => by
  cases pd_int b
  cases pd_str a
  exact ⟨z, i, ch, rfl, rfl, hl, e, c.pl r .str q⟩
theorem ro_addS {z u : Str} (hl : z.length + u.length ≤ sizeLine) (q : Φ (.fz (.str (z ++ u))) τ) : RO B rAddS (.fz (.str z)) (.fz (.str u)) τ Φ := fun _ _ _ _ _ _ r a b c => by
  cases pd_str a
  cases pd_str b
  exact ⟨z, u, rfl, rfl, hl, c.pl r .str q⟩
theorem t_test (h : EV B te τ fun x τ1 => ∃ b, x = .fz (.bl b) ∧ Ψ b τ1) : TV B (tTest te) τ Ψ := fun σ F H Q r c => by
  refine h σ F H _ r fun v F1 H1 k τ1 f1 r1 ok1 _ ⟨b, e, h1⟩ => ?_
  subst e
  cases ok1
  exact ⟨b, rfl, c b F1 H1 τ1 f1 r1 h1⟩
theorem t_B (h : EV B te τ fun x τ1 => ∃ b, x = .fz (.bl b) ∧ Ψ b τ1) : TV B (tB te) τ Ψ := t_test h
theorem t_ebl {S : Bool → Prop} (q : S b) : ∃ b', Kd.fz (.bl b) = .fz (.bl b') ∧ S b' := ⟨b, rfl, q⟩
theorem TV.on {σ : St} {F H F1 H1 : Hp} {τ1 : TSt} {Q : Bool → Hp → Prop} (c : ∀ b F' H' τ', Fr B σ τ F H τ' F' H' → Rp B F' H' σ τ' → Ψ b τ' → Q b H') (f : Fr B σ τ F H τ1 F1 H1) : ∀ b F' H' τ', Fr B σ τ1 F1 H1 τ' F' H' → Rp B F' H' σ τ' → Ψ b τ' → Q b H' :=
  fun b F' H' τ' f' r h => c b F' H' τ' (f.trans f') r h
theorem t_and (h : TV B c τ fun k τ1 => if k = true then TV B d τ1 Ψ else Ψ false τ1) : TV B (tAnd c d) τ Ψ := fun σ F H Q r k => by
  refine h σ F H _ r fun b F1 H1 τ1 f1 r1 h1 => ?_
  cases b with
  | true => rw [if_pos rfl] at h1 ⊢; exact h1 σ F1 H1 Q r1 (TV.on k f1)
  | false => rw [if_neg Bool.false_ne_true] at h1 ⊢; exact k _ F1 H1 τ1 f1 r1 h1
theorem t_or (h : TV B c τ fun k τ1 => if k = true then Ψ true τ1 else TV B d τ1 Ψ) : TV B (tOr c d) τ Ψ := fun σ F H Q r k => by
  refine h σ F H _ r fun b F1 H1 τ1 f1 r1 h1 => ?_
  cases b with
  | true => rw [if_pos rfl] at h1 ⊢; exact k _ F1 H1 τ1 f1 r1 h1
  | false => rw [if_neg Bool.false_ne_true] at h1 ⊢; exact h1 σ F1 H1 Q r1 (TV.on k f1)
theorem t_not (h : TV B c τ fun k τ1 => Ψ (!k) τ1) : TV B (tNot c) τ Ψ := fun σ F H Q r k => h σ F H _ r fun b F1 H1 τ1 f1 r1 h1 => k _ F1 H1 τ1 f1 r1 h1
theorem e_andV (h : EV B ta τ fun x τ1 => ∃ b, x = .fz (.bl b) ∧ if b = true then EV B tb τ1 Φ else Φ (.fz (.bl false)) τ1) : EV B (tAndV ta tb) τ Φ := fun σ F H Q r c => by
  refine h σ F H _ r fun v F1 H1 k τ1 f1 r1 ok1 _ ⟨b, e, h1⟩ => ?_
  subst e
  cases ok1
  refine ⟨b, rfl, ?_⟩
  cases b with
  | true => rw [if_pos rfl] at h1 ⊢; exact h1 σ F1 H1 Q r1 (c.on f1)
  | false => rw [if_neg Bool.false_ne_true] at h1 ⊢; exact (c.on f1).pl r1 .bl h1
theorem e_notV (h : EV B ta τ fun x τ1 => ∃ b, x = .fz (.bl b) ∧ Φ (.fz (.bl (!b))) τ1) : EV B (tNotV ta) τ Φ := fun σ F H Q r c => by
  refine h σ F H _ r fun v F1 H1 k τ1 f1 r1 ok1 _ ⟨b, e, h1⟩ => ?_
  subst e
  cases ok1
  exact ⟨b, rfl, (c.on f1).pl r1 .bl h1⟩
theorem e_if (h : TV B c τ fun k τ1 => if k = true then EV B ta τ1 Φ else EV B tb τ1 Φ) : EV B (tIf c ta tb) τ Φ := fun σ F H Q r k => by
  refine h σ F H _ r fun b F1 H1 τ1 f1 r1 h1 => ?_
  cases b with
  | true => rw [if_pos rfl] at h1 ⊢; exact h1 σ F1 H1 Q r1 (k.on f1)
  | false => rw [if_neg Bool.false_ne_true] at h1 ⊢; exact h1 σ F1 H1 Q r1 (k.on f1)
theorem a_nil {S : List Tr → TSt → Prop} (q : S [] τ) : EVA B tNil τ S := fun σ F H Q r c => c [] F H [] τ Fr.refl r .nil q
theorem a_ints {S : List Tr → TSt → Prop} {ns : List Int} (q : S (ns.map Tr.int) τ) : EVA B (tInts ns) τ S := fun σ F H Q r c => c _ F H _ τ Fr.refl r (.ofInts ns) q
theorem a_cons {tr : TA} {S : List Tr → TSt → Prop} (h : EV B te τ fun x τ1 => AsF x τ1 fun t τ2 => EVA B tr τ2 fun ts τ3 => S (t :: ts) τ3) : EVA B (tCons te tr) τ S := fun σ F H Q r c => by
  refine h σ F H _ r fun v F1 H1 k τ1 f1 r1 ok1 n1 h1 => ?_
  obtain ⟨F2, t, τ2, f2, r2, i2, h2, _⟩ := asF_ok f1 r1 ok1 n1 h1
  exact h2 σ F2 H1 _ r2 fun vs F3 H3 ts τ3 f3 r3 l3 h3 => c _ F3 H3 _ τ3 (f2.trans f3) r3 (.cons (i2.same f3.f) l3) h3
theorem e_tup {tA : TA} (h : EVA B tA τ fun ts τ1 => ts.length ≤ 1000 ∧ Φ (.fz (.tup ts)) τ1) : EV B (tTup tA) τ Φ := fun σ F H Q r c => by
  refine h σ F H _ r fun vs F1 H1 ts τ1 f1 r1 l1 ⟨hl, h1⟩ => ⟨by rw [l1.length]; exact Nat.le_trans hl (by decide), fun p hp => ?_⟩
  have u := r1.tup (vs := vs) hp
  exact c _ _ _ (.fz (.tup ts)) τ1 (f1.trans (Fr.up u)) (r1.go u) (Is.tup (SqT.of upd_same) (l1.same u.f)) trivial h1
theorem nw_new {F H : Hp} {σ : St} {vs : List V} {ts : List Tr} {p : Addr} (r : Rp B F H σ τ) (l : IsL B.K F vs ts) (hp : H p = none) : KdOk B F (upd H p (.lst vs)) σ τ (.ref p) (.nw (.lst ts)) := by
  refine ⟨p, rfl, .lst upd_same l, r.inc.free hp, r.up.w p hp, fun i u h e => ?_⟩
  rcases h with h | h
  · obtain ⟨l', e', g, _⟩ := r.ow i u h
    obtain ⟨o, ho, _⟩ := g.mb
    have := sat_unique e' e
    cases this
    rw [hp] at ho; cases ho
  · obtain ⟨l', e', g, _⟩ := r.vw i u h
    obtain ⟨o, ho, _⟩ := g.mb
    have := sat_unique e' e
    cases this
    rw [hp] at ho; cases ho
theorem CT.nl {F H : Hp} {σ : St} {Q : VK} {vs : List V} {ts : List Tr} {p : Addr} (c : CT B σ τ F H Φ Q) (r : Rp B F H σ τ) (l : IsL B.K F vs ts) (hp : H p = none) (φ : Φ (.nw (.lst ts)) τ) : Q (.ref p) (upd H p (.lst vs)) :=
  c _ F _ (.nw (.lst ts)) τ (Fr.up (r.new hp)) (r.go (r.new hp)) (nw_new r l hp) (fun l e => by cases e; exact hp) φ
theorem CT.nt {F H : Hp} {σ : St} {Q : VK} {vs : List V} {ts : List Tr} {p : Addr} (c : CT B σ τ F H Φ Q) (r : Rp B F H σ τ) (l : IsL B.K F vs ts) (hp : H p = none) (φ : Φ (.fz (.tup ts)) τ) : Q (.ref p) (upd H p (.tup vs)) := by
  have u := r.tup (vs := vs) hp
  exact c _ _ _ (.fz (.tup ts)) τ (Fr.up u) (r.go u) (Is.tup (SqT.of upd_same) (l.same u.f)) trivial φ
theorem e_lst {tA : TA} (h : EVA B tA τ fun ts τ1 => ts.length ≤ 1000 ∧ Φ (.nw (.lst ts)) τ1) : EV B (tLst tA) τ Φ := fun σ F H Q r c => by
  refine h σ F H _ r fun vs F1 H1 ts τ1 f1 r1 l1 ⟨hl, h1⟩ => ⟨by rw [l1.length]; exact Nat.le_trans hl (by decide), fun p hp => ?_⟩
  exact (c.on f1).nl r1 l1 hp h1
theorem e_cb1 {r : List V → Hp → VK → Prop} (h : EV B te τ fun x τ1 => Pnd x τ1 fun x τ1 => RU B (fun v H Q => r [v] H Q) x τ1 Φ) : EV B (tCB r (tCons te tNil)) τ Φ := fun σ F H Q rp c => by
  refine h σ F H _ rp fun v F1 H1 k τ1 f1 r1 ok1 n1 h1 => ?_
  obtain ⟨F2, k', f2, r2, ok2, h2, _⟩ := pnd_ok f1 r1 ok1 n1 h1
  exact h2 σ F2 H1 v Q r2 ok2 (c.on f2)
theorem e_cb2 {r : List V → Hp → VK → Prop} (h : EV B ta τ fun x τ1 => Pnd x τ1 fun x τ1 => EV B tb τ1 fun y τ2 => Pnd y τ2 fun y τ2 => RO B (fun v w H Q => r [v, w] H Q) x y τ2 Φ) : EV B (tCB r (tCons ta (tCons tb tNil))) τ Φ := fun σ F H Q rp c => by
  refine h σ F H _ rp fun v F1 H1 k τ1 f1 r1 ok1 n1 h1 => ?_
  obtain ⟨F2, k', f2, r2, ok2, h2, _⟩ := pnd_ok f1 r1 ok1 n1 h1
  refine h2 σ F2 H1 _ r2 fun w F3 H3 k3 τ3 f3 r3 ok3 n3 h3 => ?_
  obtain ⟨F4, k4, f4, r4, ok4, h4, _⟩ := pnd_ok f3 r3 ok3 n3 h3
  exact h4 σ F4 H3 v w Q r4 (ok2.same f4.f) ok4 (c.on (f2.trans f4))
noncomputable def OV (B : Bk) (to : TO) (τ : TSt) (Φ : Option Int → TSt → Prop) : Prop := ∀ σ F H (Q : Option Int → Hp → Prop), Rp B F H σ τ → (∀ b F' H' τ', Fr B σ τ F H τ' F' H' → Rp B F' H' σ τ' → Φ b τ' → Q b H') → to σ H Q
theorem o_no {S : Option Int → TSt → Prop} (q : S none τ) : OV B tNoPart τ S := fun _ F H _ r c => c none F H τ Fr.refl r q
theorem o_part {S : Option Int → TSt → Prop} (h : EV B te τ fun x τ1 => ∃ i, x = .fz (.int i) ∧ S (some i) τ1) : OV B (tPart te) τ S := fun σ F H Q r c => by
  refine h σ F H _ r fun v F1 H1 k τ1 f1 r1 ok1 _ ⟨b, e, h1⟩ => ?_
  subst e
  cases ok1
  exact ⟨b, rfl, c _ F1 H1 τ1 f1 r1 h1⟩
theorem t_eint {S : Int → Prop} (q : S i) : ∃ b', Kd.fz (.int i) = .fz (.int b') ∧ S b' := ⟨i, rfl, q⟩
noncomputable def RSl (B : Bk) (r : V → Option Int → Option Int → Hp → VK → Prop) (x : Kd) (lo hi : Option Int) (τ : TSt) (Φ : TK) : Prop := RU B (fun v H Q => r v lo hi H Q) x τ Φ
theorem e_sl {r : V → Option Int → Option Int → Hp → VK → Prop} {tl th : TO} (h : EV B te τ fun x τ1 => Pnd x τ1 fun x τ1 => OV B tl τ1 fun lo τ2 => OV B th τ2 fun hi τ3 => RSl B r x lo hi τ3 Φ) : EV B (tSl r te tl th) τ Φ := fun σ F H Q rp c => by
  refine h σ F H _ rp fun v F1 H1 k τ1 f1 r1 ok1 n1 h1 => ?_
  obtain ⟨F2, k', f2, r2, ok2, h2, _⟩ := pnd_ok f1 r1 ok1 n1 h1
  refine h2 σ F2 H1 _ r2 fun lo F3 H3 τ3 f3 r3 h3 => ?_
  refine h3 σ F3 H3 _ r3 fun hi F4 H4 τ4 f4 r4 h4 => ?_
  exact h4 σ F4 H4 v Q r4 ((ok2.same f3.f).same f4.f) (c.on (f2.trans (f3.trans f4)))
noncomputable def cutT (xs : List Tr) (lo hi : Option Int) : List Tr := (xs.drop (HT.sIx xs.length 0 lo)).take (HT.sIx xs.length xs.length hi - HT.sIx xs.length 0 lo)
theorem isl_cut {K : PySem.W.Frag} {F : Hp} {vs : List V} {ts : List Tr} {lo hi : Option Int} (h : IsL K F vs ts) : IsL K F (cutV vs lo hi) (cutT ts lo hi) := by
  unfold cutV cutT
  rw [h.length]
  exact (h.drop _).take _
theorem rs_L {K : PySem.W.Frag} {ts : List Tr} {lo hi : Option Int} (hK : K = B.K) (rk : Rk τ x (.lst ts)) (q : Φ (.nw (.lst (cutT ts lo hi))) τ) : RSl B (rSlL K) x lo hi τ Φ := fun _ _ _ _ _ r a c => by
  subst hK
  obtain ⟨p, vs, rfl, s, l⟩ := rk.list r a
  exact ⟨p, vs, rfl, s, fun p' hp => c.nl r (isl_cut l) hp q⟩
theorem rs_T {K : PySem.W.Frag} {ts : List Tr} {lo hi : Option Int} (hK : K = B.K) (rk : Rk τ x (.tup ts)) (hw : ¬ (HT.sIx ts.length 0 lo = 0 ∧ HT.sIx ts.length ts.length hi = ts.length)) (q : Φ (.fz (.tup (cutT ts lo hi))) τ) : RSl B (rSlT K) x lo hi τ Φ := fun _ _ H _ Q r a c => by
  subst hK
  obtain ⟨p, vs, rfl, s, l⟩ := rk.tuple r a
  rw [← l.length] at hw
  exact ⟨p, vs, rfl, s, hw, fun p' hp => c.nt r (isl_cut l) hp q⟩
end
end L2
namespace L2
open PySem PySem.Spec PyProof.Rows
section
variable {B : Bk} {F H : Hp} {σ : St} {τ τ' : TSt}
theorem Rp.setO {i : Nat} {t t' : Tr} {l : Addr} {o' : HO} (r : Rp B F H σ τ) (h : TAt τ i (.own t)) (e : SAt σ i (.ref l)) (g : Ow B.K F (upd H l o') l t') : Rp B F (upd H l o') σ (τ.set i (.own t')) ∧ Fr B σ τ F H (τ.set i (.own t')) F (upd H l o') := by
  obtain ⟨l', e', g0, n, n0⟩ := r.ow i t h
  cases sat_unique e e'
  have keep : ∀ q, q ≠ l → ∀ o, H q = some o → (upd H l o') q = some o := fun q hq o z => by rw [upd_ne hq]; exact z
  have kx : ∀ q φ, H q = some (.ext φ) → (upd H l o') q = some (.ext φ) := fun q φ z => keep q (fun e => by
    obtain ⟨o, ho, mb⟩ := g0.mb
    rw [e, ho] at z; cases z; exact mb) _ z
  refine ⟨{
    wa := r.wa
    wf := r.wf
    wj := B.jl _ _ (fun q hw => by
      have : q ≠ l := fun e => r.wa q hw (by rw [e]; exact n0)
      rw [upd_ne this]) kx r.wj
    wd := fun j z => by
      rcases tset z with ⟨_, z, _⟩ | ⟨_, z⟩
      · cases z
      · exact r.wd j z
    up := { f := r.up.f, h := fun q o nw z => by
              have : q ≠ l := fun e => by rw [e, n0] at z; cases z
              exact keep q this o (r.up.h q o nw z)
            w := fun q z => r.up.w q (upd_none z)
            x := r.up.x
            j := fun z => B.jl _ _ (fun q hw => by
              have : q ≠ l := fun e => r.wa q hw (by rw [e]; exact n0)
              rw [upd_ne this]) kx r.wj
            i := fun q o z => by
              have : q ≠ l := fun e => by rw [e, n] at z; cases z
              exact keep q this o (r.up.i q o z)
            m := r.up.m }
    len := by rw [List.length_set]; exact r.len
    fz := fun j u z => by
      rcases tset z with ⟨_, z, _⟩ | ⟨_, z⟩
      · cases z
      · exact r.fz j u z
    ow := fun j u z => by
      rcases tset z with ⟨rfl, z, _⟩ | ⟨nj, z⟩
      · cases z; exact ⟨l, e, g, n, n0⟩
      · obtain ⟨l2, a, b, c⟩ := r.ow j u z
        have : l2 ≠ l := fun q => r.ap i j t u l h z (fun q => nj q.symm) e (by rw [← q]; exact a)
        exact ⟨l2, a, b.to (Same.refl _) (keep l2 this), c⟩
    vw := fun j u z => by
      rcases tset z with ⟨_, z, _⟩ | ⟨nj, z⟩
      · cases z
      · obtain ⟨l2, a, b, c⟩ := r.vw j u z
        have : l2 ≠ l := fun q => r.av i j t u l h z e (by rw [← q]; exact a)
        exact ⟨l2, a, b.to (Same.refl _) (keep l2 this), c⟩
    ap := fun a b u w l2 ha hb ne hi hj => by
      obtain ⟨u', ha'⟩ : ∃ u, TAt τ a (.own u) := by
        rcases tset ha with ⟨rfl, _, _⟩ | ⟨_, z⟩
        · exact ⟨_, h⟩
        · exact ⟨_, z⟩
      obtain ⟨w', hb'⟩ : ∃ u, TAt τ b (.own u) := by
        rcases tset hb with ⟨rfl, _, _⟩ | ⟨_, z⟩
        · exact ⟨_, h⟩
        · exact ⟨_, z⟩
      exact r.ap a b u' w' l2 ha' hb' ne hi hj
    av := fun a b u w l2 ha hb hi hj => by
      obtain ⟨u', ha'⟩ : ∃ u, TAt τ a (.own u) := by
        rcases tset ha with ⟨rfl, _, _⟩ | ⟨_, z⟩
        · exact ⟨_, h⟩
        · exact ⟨_, z⟩
      rcases tset hb with ⟨_, z, _⟩ | ⟨_, z⟩
      · cases z
      · exact r.av a b u' w l2 ha' z hi hj }, ?_⟩
  refine ⟨Same.refl _, fun p o hp _ no => ?_, fun j u z => ?_, fun p hp => ?_⟩
  · have : p ≠ l := fun q => no i t h (by rw [q]; exact e)
    exact ⟨keep p this o hp, fun _ z => z⟩
  · rcases tset z with ⟨rfl, _, _⟩ | ⟨_, z⟩
    · exact ⟨_, h⟩
    · exact ⟨_, z⟩
  · by_cases q : p = l
    · rw [q, upd_same] at hp; cases hp
    · rw [upd_ne q] at hp; exact hp
end
section
variable {B : Bk} {τ τ' τ2 : TSt} {Φ : TK} {te ta tb : TE} {i k : Nat} {t u : Tr} {x : Kd} {ts us : List Tr}
noncomputable def tyT (T : String) : Tr → Prop
  | .str _ => T = "str"
  | .lst _ => T = "list"
  | .dct _ => T = "dict"
  | _ => False
noncomputable def TyK (T : String) (x : Kd) (τ : TSt) : Prop := ∃ t, Rk τ x t ∧ tyT T t
theorem TyK.v {F H : Hp} {σ : St} {T : String} {v : V} (h : TyK T x τ) (r : Rp B F H σ τ) (ok : PdOk B.K F σ v x) : tyV B.K T v H := by
  obtain ⟨t, rk, ht⟩ := h
  cases t with
  | lst ts =>
    obtain ⟨p, vs, rfl, s, _⟩ := rk.list r ok
    exact .inl ⟨ht, vs, s⟩
  | dct ts =>
    obtain ⟨p, vs, rfl, s, _⟩ := rk.dict r ok
    exact .inr (.inr (.inl ⟨ht, .inl ⟨vs, s⟩⟩))
  | str z =>
    have : v = .str z := by
      cases rk with
      | fz => cases ok; rfl
      | own g => obtain ⟨l, e, hw, _⟩ := r.ow _ _ g.eq; cases hw
      | vw g => obtain ⟨l, e, hw, _⟩ := r.vw _ _ g.eq; cases hw
      | sfz g =>
        obtain ⟨w, e, hi⟩ := r.fz _ _ g.eq
        cases sat_unique e ok
        cases hi; rfl
    subst this
    exact ht
  | _ => exact ht.elim
noncomputable def RM (B : Bk) (rr : V → List V → Hp → VK → Prop) (x : Kd) (ts : List Tr) (τ : TSt) (Φ : TK) : Prop := ∀ σ F H v vs Q, Rp B F H σ τ → PdOk B.K F σ v x → IsL B.K F vs ts → CT B σ τ F H Φ Q → rr v vs H Q
theorem e_bm {K : PySem.W.Frag} (hK : K = B.K) {T : String} {rr : V → List V → Hp → VK → Prop} {tA : TA} (h : EV B te τ fun x τ1 => Pnd x τ1 fun x τ1 => TyK T x τ1 ∧ EVA B tA τ1 fun ts τ2 => RM B rr x ts τ2 Φ) : EV B (tBM K T rr te tA) τ Φ := fun σ F H Q rp c => by
  subst hK
  refine h σ F H _ rp fun v F1 H1 k τ1 f1 r1 ok1 n1 h1 => ?_
  obtain ⟨F2, k', f2, r2, ok2, ⟨ty, h2⟩, _⟩ := pnd_ok f1 r1 ok1 n1 h1
  refine ⟨ty.v r2 ok2, h2 σ F2 H1 _ r2 fun vs F3 H3 ts τ3 f3 r3 l3 h3 => ?_⟩
  exact h3 σ F3 H3 v vs Q r3 (ok2.same f3.f) l3 (c.on (f2.trans f3))
theorem ty_list {S : Prop} (rk : Rk τ x (.lst ts)) (q : S) : TyK "list" x τ ∧ S := ⟨⟨_, rk, rfl⟩, q⟩
theorem rm_own {rr : V → List V → Hp → VK → Prop} {ts us : List Tr} {as : List Tr} {res : Tr} (g : Gt τ k (.own (.lst ts))) (st : Sto τ k (.own (.lst us)) τ')
    (h : ∀ (K : PySem.W.Frag) (F H : Hp) (l : Addr) (vs ws : List V) (Q : VK), H l = some (.lst vs) → IsL K F vs ts → IsL K F ws as → (∀ v vs', IsL K F vs' us → Is K F v res → Q v (upd H l (.lst vs'))) → rr (.ref l) ws H Q) (q : Φ (.fz res) τ') : RM B rr (.sl k) as τ Φ := fun σ F H v ws Q r a l c => by
  obtain ⟨l0, e, hw, n, n0⟩ := r.ow _ _ g.eq
  cases sat_unique e a
  cases hw with
  | lst h1 h2 =>
    refine h B.K F H l0 _ ws Q h1 h2 l fun v vs' l' hv => ?_
    obtain ⟨r2, f2⟩ := r.setO g.eq e (.lst upd_same l')
    rw [st.eq] at r2 f2
    exact c _ F _ (.fz res) τ' f2 r2 hv trivial q
theorem rm_append (g : Gt τ k (.own (.lst ts))) (hl : ts.length ≤ 10000) (st : Sto τ k (.own (.lst (ts ++ [t]))) τ') (q : Φ (.fz .non) τ') : RM B rAppend (.sl k) [t] τ Φ :=
  rm_own g st (fun K F H l vs ws Q h1 h2 h3 c => by
    cases h3 with
    | cons a b =>
      cases b
      exact ⟨l, vs, _, rfl, rfl, h1, by rw [h2.length]; exact Nat.lt_of_le_of_lt hl (by decide), c _ _ (h2.snoc a) .non⟩) q
inductive Ar where
  | fz (t : Tr) | wd
noncomputable def ArOk (B : Bk) (F : Hp) (v : V) : Ar → Prop
  | .fz t => Is B.K F v t
  | .wd => v = .ref B.rt
inductive ArL (B : Bk) (F : Hp) : List V → List Ar → Prop
  | nil : ArL B F [] []
  | cons {v : V} {a : Ar} {vs : List V} {as : List Ar} : ArOk B F v a → ArL B F vs as → ArL B F (v :: vs) (a :: as)
theorem ArL.length {B : Bk} {F : Hp} : ∀ {vs : List V} {as : List Ar}, ArL B F vs as → vs.length = as.length
  | _, _, .nil => rfl
  | _, _, .cons _ g => congrArg (· + 1) (ArL.length g)
theorem ArOk.same {B : Bk} {F F' : Hp} {v : V} {a : Ar} (s : Same F F') (h : ArOk B F v a) : ArOk B F' v a := by
  cases a with
  | fz t => exact Is.same s h
  | wd => exact h
theorem ArL.get {B : Bk} {F : Hp} : ∀ {vs : List V} {as : List Ar} {i : Nat} {a : Ar}, ArL B F vs as → as[i]? = some a → ∃ v, vs[i]? = some v ∧ ArOk B F v a
  | _, _, _, _, .nil, e => by simp at e
  | _, _, 0, _, .cons h _, e => by simp at e; subst e; exact ⟨_, rfl, h⟩
  | _, _, i + 1, t, .cons _ g, e => by
    obtain ⟨u, h1, h2⟩ := ArL.get (i := i) (a := t) g (by simpa using e)
    exact ⟨u, by simpa using h1, h2⟩
theorem ArL.app {B : Bk} {F : Hp} : ∀ {vs ws : List V} {as bs : List Ar}, ArL B F vs as → ArL B F ws bs → ArL B F (vs ++ ws) (as ++ bs)
  | _, _, _, _, .nil, s => s
  | _, _, _, _, .cons h g, s => .cons h (ArL.app g s)
noncomputable def EVW (B : Bk) (ta : TA) (τ : TSt) (Φ : List Ar → TSt → Prop) : Prop := ∀ σ F H (Q : List V → Hp → Prop), Rp B F H σ τ → (∀ vs F' H' as τ', Fr B σ τ F H τ' F' H' → Rp B F' H' σ τ' → ArL B F' vs as → Φ as τ' → Q vs H') → ta σ H Q
noncomputable def AsA (k : Kd) (τ : TSt) (S : Ar → TSt → Prop) : Prop := match k with
  | .wd => S .wd τ
  | .fz t => S (.fz t) τ
  | .nw t => S (.fz t) τ
  | .sl i => (∃ t, TAt τ i (.own t) ∧ S (.fz t) (τ.set i (.fz t))) ∨ ∃ t, TAt τ i (.fz t) ∧ S (.fz t) τ
theorem aa_fz {S : Ar → TSt → Prop} (h : S (.fz t) τ) : AsA (.fz t) τ S := h
theorem aa_nw {S : Ar → TSt → Prop} (h : S (.fz t) τ) : AsA (.nw t) τ S := h
theorem aa_own {S : Ar → TSt → Prop} (g : Gt τ k (.own t)) (s : Sto τ k (.fz t) τ') (h : S (.fz t) τ') : AsA (.sl k) τ S := as_own (S := fun t τ' => S (.fz t) τ') g s h
theorem w_nil {S : List Ar → TSt → Prop} (q : S [] τ) : EVW B tNil τ S := fun σ F H Q r c => c [] F H [] τ Fr.refl r .nil q
theorem w_cons {tr : TA} {S : List Ar → TSt → Prop} (h : EV B te τ fun x τ1 => AsA x τ1 fun a τ2 => EVW B tr τ2 fun as τ3 => S (a :: as) τ3) : EVW B (tCons te tr) τ S := fun σ F H Q r c => by
  refine h σ F H _ r fun v F1 H1 k τ1 f1 r1 ok1 n1 h1 => ?_
  have go : AsF k τ1 (fun t τ2 => EVW B tr τ2 fun as τ3 => S (.fz t :: as) τ3) → tr σ H1 fun vs H2 => Q (v :: vs) H2 := fun h => by
    obtain ⟨F2, t, τ2, f2, r2, i2, h2, _⟩ := asF_ok f1 r1 ok1 n1 h
    exact h2 σ F2 H1 _ r2 fun vs F3 H3 ts τ3 f3 r3 l3 h3 => c _ F3 H3 _ τ3 (f2.trans f3) r3 (.cons (ArOk.same (a := .fz t) f3.f i2) l3) h3
  cases k with
  | wd => exact h1 σ F1 H1 _ r1 fun vs F3 H3 ts τ3 f3 r3 l3 h3 => c _ F3 H3 _ τ3 (f1.trans f3) r3 (.cons (a := .wd) ok1 l3) h3
  | fz t => exact go h1
  | nw t => exact go h1
  | sl i => exact go h1
noncomputable def RetOk (B : Bk) (F H : Hp) (v : V) : Kd → Prop
  | .fz t => Is B.K F v t
  | .nw t => ∃ l, v = .ref l ∧ Ow B.K F H l t ∧ F l = none ∧ B.H0 l = none
  | .sl _ => False
  | .wd => False
abbrev SpT := Bk → List Ar → (Kd → Prop) → (Addr → Prop) → Prop
structure BkOk (B : Bk) : Prop where
  i : Same B.F0 B.H0
  wa : ∀ p, B.W p → B.H0 p ≠ none
  wf : ∀ p, B.W p → B.F0 p = none
  wj : B.J B.H0
noncomputable def toSp (K : PySem.W.Frag) (S : SpT) : Sp := fun vs H Q E => ∃ B as Φ Ψ, B.K = K ∧ B.H0 = H ∧ BkOk B ∧ ArL B B.F0 vs as ∧ S B as Φ Ψ ∧ (∀ v F' H' k, Up B B.F0 H F' H' → RetOk B F' H' v k → Φ k → Q v H') ∧ ∀ C F' H', Up B B.F0 H F' H' → Ψ C → E (.ref C) none H'
theorem toSp_len {K : PySem.W.Frag} {S : SpT} {n : Nat} (hn : ∀ B as Φ Ψ, S B as Φ Ψ → as.length = n) : ∀ vs H Q E, toSp K S vs H Q E → vs.length = n := fun vs H Q E h => by
  obtain ⟨B, as, Φ, Ψ, _, _, _, l, s, _⟩ := h
  rw [l.length]; exact hn B as Φ Ψ s
theorem ret_kd {F H F' H' : Hp} {σ : St} {v : V} {kd : Kd} {B' : Bk} (r : Rp B F H σ τ) (hK : B'.K = B.K) (hH : B'.H0 = H) (h : RetOk B' F' H' v kd) : KdOk B F' H' σ τ v kd ∧ NewK H v kd := by
  cases kd with
  | fz t => exact ⟨by
      have h2 : Is B'.K F' v t := h
      rw [hK] at h2; exact h2, trivial⟩
  | sl i => exact h.elim
  | wd => exact h.elim
  | nw t =>
    obtain ⟨l, rfl, g, n, n0⟩ := h
    rw [hH] at n0
    rw [hK] at g
    refine ⟨⟨l, rfl, g, n, r.up.w l n0, fun i w h e => ?_⟩, fun l' e => by cases e; exact n0⟩
    rcases h with h | h
    · obtain ⟨l', e', g, _⟩ := r.ow i w h
      obtain ⟨o, ho, _⟩ := g.mb
      cases sat_unique e' e
      rw [n0] at ho; cases ho
    · obtain ⟨l', e', g, _⟩ := r.vw i w h
      obtain ⟨o, ho, _⟩ := g.mb
      cases sat_unique e' e
      rw [n0] at ho; cases ho
abbrev Bk.now (B : Bk) (F H : Hp) : Bk := { B with F0 := F, H0 := H }
theorem Up.of_now {F H F1 H1 F' H' : Hp} (u : Up (B.now F1 H1) F H F' H') : Up B F H F' H' := ⟨u.f, u.h, u.i, u.m, u.w, u.x, u.j⟩
theorem Rp.bkok {F H : Hp} {σ : St} (r : Rp B F H σ τ) : BkOk (B.now F H) := ⟨r.inc, fun p hw z => r.wa p hw (r.up.w p z), r.wf, r.wj⟩
theorem ArL.now {F F1 H1 : Hp} : ∀ {vs : List V} {as : List Ar}, ArL B F vs as → ArL (B.now F1 H1) F vs as
  | _, _, .nil => .nil
  | _, _, .cons (a := .fz _) h g => .cons (a := .fz _) h (ArL.now g)
  | _, _, .cons (a := .wd) h g => .cons (a := .wd) h (ArL.now g)
theorem e_callX {K : PySem.W.Frag} (hK : K = B.K) {S : SpT} {E : XK} {tA : TA} {Ψ : Addr → Prop} (hE : ∀ C F H, Up B B.F0 B.H0 F H → Ψ C → E (.ref C) none H) (h : EVW B tA τ fun as τ1 => ∀ F H, S (B.now F H) as (fun k => Φ k τ1) Ψ) : EV B (tCall (toSp K S) [] E tA) τ Φ := fun σ F H Q rp c => by
  subst hK
  unfold tCall
  simp only [List.append_nil]
  refine h σ F H _ rp fun vs F1 H1 as τ1 f1 r1 l1 h1 => ?_
  refine ⟨B.now F1 H1, as, _, _, rfl, rfl, r1.bkok, ?_, h1 F1 H1, fun v F2 H2 kd u ok φ => ?_, fun C F2 H2 u ψ => hE C F2 H2 (r1.up.trans u.of_now) ψ⟩
  · exact l1.now
  obtain ⟨a, b⟩ := ret_kd r1 (B' := B.now F1 H1) rfl rfl ok
  exact c.on f1 v F2 H2 kd τ1 (Fr.up u.of_now) (r1.go u.of_now) (by
    cases kd with
    | nw t => exact ⟨a.choose, a.choose_spec.1, a.choose_spec.2.1, a.choose_spec.2.2⟩
    | _ => exact a) b φ
theorem e_call {K : PySem.W.Frag} (hK : K = B.K) {S : SpT} {E : XK} {tA : TA} (h : EVW B tA τ fun as τ1 => ∀ F H, S (B.now F H) as (fun k => Φ k τ1) fun _ => False) : EV B (tCall (toSp K S) [] E tA) τ Φ := e_callX hK (fun _ _ _ _ z => z.elim) h
end
structure ET where
  nx : TSt → Prop
  rt : Kd → Prop
  bk : TSt → Prop
  ct : TSt → Prop
structure EO (B : Bk) (F : Hp) (D : Ends) (D' : ET) : Prop where
  nx : ∀ σ F' H τ, Same F F' → Rp B F' H σ τ → D'.nx τ → D.nx σ H
  rt : ∀ v F' H k, Up B B.F0 B.H0 F' H → RetOk B F' H v k → D'.rt k → D.rt v H
  bk : ∀ σ F' H τ, Same F F' → Rp B F' H σ τ → D'.bk τ → D.bk σ H
  ct : ∀ σ F' H τ, Same F F' → Rp B F' H σ τ → D'.ct τ → D.ct σ H
noncomputable def SV (B : Bk) (t : TS) (τ : TSt) (D' : ET) : Prop := ∀ σ F H D, Rp B F H σ τ → EO B F D D' → t D σ H
section
variable {B : Bk} {τ τ' τ2 : TSt} {te ta tb : TE} {i k : Nat} {t u : Tr} {x : Kd} {ts us : List Tr} {s1 s2 : TS} {nx bk ct : TSt → Prop} {rt : Kd → Prop} {c : TT}
theorem EO.on {F F1 : Hp} {D : Ends} {D' : ET} (e : EO B F D D') (s : Same F F1) : EO B F1 D D' := ⟨fun σ F' H τ z => e.nx σ F' H τ (s.trans z), e.rt, fun σ F' H τ z => e.bk σ F' H τ (s.trans z), fun σ F' H τ z => e.ct σ F' H τ (s.trans z)⟩
theorem s_seq (h : SV B s1 τ ⟨fun τ1 => SV B s2 τ1 ⟨nx, rt, bk, ct⟩, rt, bk, ct⟩) : SV B (tSeq s1 s2) τ ⟨nx, rt, bk, ct⟩ := fun σ F H D r e => h σ F H _ r ⟨fun σ' F' H' τ' s r' h' => h' σ' F' H' D r' (e.on s), e.rt, e.bk, e.ct⟩
theorem s_next (h : nx τ) : SV B tNext τ ⟨nx, rt, bk, ct⟩ := fun σ F H D r e => e.nx σ F H τ (Same.refl _) r h
theorem s_drop (h : EV B te τ fun _ τ1 => nx τ1) : SV B (tDrop te) τ ⟨nx, rt, bk, ct⟩ := fun σ F H D r e => h σ F H _ r fun v F1 H1 k τ1 f r1 _ _ h1 => e.nx σ F1 H1 τ1 f.f r1 h1
noncomputable def RtK (k : Kd) (τ : TSt) (R : Kd → Prop) : Prop := match k with
  | .fz t => R (.fz t)
  | .nw t => R (.nw t) ∨ R (.fz t)
  | .sl i => (∃ t, TAt τ i (.own t) ∧ (R (.nw t) ∨ R (.fz t))) ∨ ∃ t, TAt τ i (.fz t) ∧ R (.fz t)
  | .wd => False
theorem s_ret (h : EV B te τ fun k τ1 => RtK k τ1 rt) : SV B (tRet te) τ ⟨nx, rt, bk, ct⟩ := fun σ F H D r e => h σ F H _ r fun v F1 H1 k τ1 f r1 ok n h1 => by
  have fixed : ∀ l t, v = .ref l → Ow B.K F1 H1 l t → F1 l = none → B.H0 l = none → rt (.fz t) → D.rt v H1 := fun l t ev g nn n0 h => by
    subst ev
    obtain ⟨o, ho, mb⟩ := g.mb
    refine e.rt _ (upd F1 l o) H1 (.fz t) ⟨r1.up.f.trans (Same.new nn o), r1.up.h, fun q z hz => ?_, fun q z hz mz nz => ?_, r1.up.w, fun q hw nz => ?_, r1.up.j⟩ (g.is (Same.new nn o) (by rw [upd_same, ho])) h
    · by_cases hq : q = l
      · rw [hq, upd_same] at hz; cases hz; rw [hq]; exact ho
      · rw [upd_ne hq] at hz; exact r1.up.i q z hz
    · have : q ≠ l := fun e' => by rw [e', n0] at hz; cases hz
      rw [upd_ne this]; exact r1.up.m q z hz mz nz
    · have : q ≠ l := fun e' => r1.wa q hw (by rw [e']; exact n0)
      rw [upd_ne this]; exact r1.up.x q hw nz
  cases k with
  | fz t => exact e.rt v F1 H1 (.fz t) r1.up ok h1
  | nw t =>
    obtain ⟨l, ev, g, nn, n0, _⟩ := ok
    rcases h1 with h1 | h1
    · exact e.rt v F1 H1 (.nw t) r1.up ⟨l, ev, g, nn, n0⟩ h1
    · exact fixed l t ev g nn n0 h1
  | sl i =>
    rcases h1 with ⟨t, ht, h1⟩ | ⟨t, ht, h1⟩
    · obtain ⟨l, es, g, nn, n0⟩ := r1.ow i t ht
      have ev : v = .ref l := sat_unique ok es
      rcases h1 with h1 | h1
      · exact e.rt v F1 H1 (.nw t) r1.up ⟨l, ev, g, nn, n0⟩ h1
      · exact fixed l t ev g nn n0 h1
    · obtain ⟨w, es, g⟩ := r1.fz i t ht
      cases sat_unique es ok
      exact e.rt v F1 H1 (.fz t) r1.up g h1
  | wd => exact h1.elim
theorem rt_fz {R : Kd → Prop} (h : R (.fz t)) : RtK (.fz t) τ R := h
theorem rt_sl {R : Kd → Prop} (g : Gt τ k (.own t)) (h : R (.nw t)) : RtK (.sl k) τ R := .inl ⟨t, g.eq, .inl h⟩
theorem s_ifs (h : TV B c τ fun b τ1 => if b = true then SV B s1 τ1 ⟨nx, rt, bk, ct⟩ else SV B s2 τ1 ⟨nx, rt, bk, ct⟩) : SV B (tIfS c s1 s2) τ ⟨nx, rt, bk, ct⟩ := fun σ F H D r e => h σ F H _ r fun b F1 H1 τ1 f r1 h1 => by
  cases b with
  | true => rw [if_pos rfl] at h1 ⊢; exact h1 σ F1 H1 D r1 (e.on f.f)
  | false => rw [if_neg Bool.false_ne_true] at h1 ⊢; exact h1 σ F1 H1 D r1 (e.on f.f)
theorem s_cut (J : TSt → Prop) (h : SV B s1 τ ⟨J, rt, bk, ct⟩) (q : ∀ τ', J τ' → nx τ') : SV B s1 τ ⟨nx, rt, bk, ct⟩ := fun σ F H D r e => h σ F H D r ⟨fun σ F' H τ s r h => e.nx σ F' H τ s r (q τ h), e.rt, e.bk, e.ct⟩
noncomputable def GA (B : Bk) (g : TG) (k : Kd) (τ : TSt) (N : TSt → Prop) : Prop := ∀ σ F H v (S : St → Hp → Prop), Rp B F H σ τ → KdOk B F H σ τ v k → (∀ σ' F' H' τ', Same F F' → Rp B F' H' σ' τ' → N τ' → S σ' H') → g v σ H S
theorem s_asg {g : TG} (h : EV B te τ fun k τ1 => GA B g k τ1 nx) : SV B (tAsg te g) τ ⟨nx, rt, bk, ct⟩ := fun σ F H D r e => h σ F H _ r fun v F1 H1 k τ1 f r1 ok _ h1 => h1 σ F1 H1 v _ r1 ok fun σ' F' H' τ' s r' n => e.nx σ' F' H' τ' (f.f.trans s) r' n
theorem g_fz {N : TSt → Prop} (s : Sto τ k (.fz t) τ') (h : N τ') : GA B (gName k) (.fz t) τ N := fun σ F H v S r ok q => q _ F H τ' (Same.refl _) (by have := r.setF (i := k) ok; rw [s.eq] at this; exact this) h
theorem g_nw {N : TSt → Prop} (s : Sto τ k (.own t) τ') (h : N τ') : GA B (gName k) (.nw t) τ N := fun σ F H v S r ok q => q _ F H τ' (Same.refl _) (by have := r.setN (i := k) ok; rw [s.eq] at this; exact this) h
noncomputable def GAs (B : Bk) (g : TGs) (ts : List Tr) (τ : TSt) (N : TSt → Prop) : Prop := ∀ σ F H vs (S : St → Hp → Prop), Rp B F H σ τ → IsL B.K F vs ts → (∀ σ' F' H' τ', Same F F' → Rp B F' H' σ' τ' → N τ' → S σ' H') → g vs σ H S
theorem g_tup {K : PySem.W.Frag} (hK : K = B.K) {N : TSt → Prop} {n : Nat} {g : TGs} (hl : ts.length = n) (h : GAs B g ts τ N) : GA B (gTup K n g) (.fz (.tup ts)) τ N := fun σ F H v S r ok q => by
  subst hK
  cases (show Is B.K F v (.tup ts) from ok) with
  | tup a b => exact ⟨_, _, rfl, r.inc.tup a, by rw [b.length]; exact hl, h σ F H _ S r b q⟩
theorem gs_nil {N : TSt → Prop} (h : N τ) : GAs B gNil [] τ N := fun σ F H vs S r l q => by
  cases l
  exact ⟨rfl, q σ F H τ (Same.refl _) r h⟩
theorem gs_cons {N : TSt → Prop} {g : TG} {gr : TGs} (h : GA B g (.fz t) τ fun τ1 => GAs B gr ts τ1 N) : GAs B (gCons g gr) (t :: ts) τ N := fun σ F H vs S r l q => by
  cases l with
  | cons a b => exact ⟨_, _, rfl, h σ F H _ _ r a fun σ1 F1 H1 τ1 s1 r1 h1 => h1 σ1 F1 H1 _ S r1 (b.same s1) fun σ' F' H' τ' s' r' n => q σ' F' H' τ' (s1.trans s') r' n⟩
noncomputable def ItOk (B : Bk) (F : Hp) (J : It) (ts : List Tr) : Prop := ∀ σ τ F' H', Same F F' → Rp B F' H' σ τ → (∀ i t, ts[i]? = some t → J.go i H' ∧ ∀ x H2, J.yld i H' x H2 → ∃ F2, Up B F' H' F2 H2 ∧ Is B.K F2 x t) ∧ J.stop ts.length H'
noncomputable def IV (B : Bk) (wi : TI) (τ : TSt) (Φ : List Tr → TSt → Prop) : Prop := ∀ σ F H (R : It → Hp → Prop), Rp B F H σ τ → (∀ J F' H' ts τ', Fr B σ τ F H τ' F' H' → Rp B F' H' σ τ' → ItOk B F' J ts → Φ ts τ' → R J H') → wi σ H R
theorem i_list {K : PySem.W.Frag} (hK : K = B.K) {Φ : List Tr → TSt → Prop} (h : EV B te τ fun x τ1 => AsF x τ1 fun t τ2 => ∃ ts, t = .lst ts ∧ Φ ts τ2) : IV B (iList K te) τ Φ := fun σ F H R r c => by
  subst hK
  refine h σ F H _ r fun v F1 H1 k τ1 f1 r1 ok1 n1 h1 => ?_
  obtain ⟨F2, t, τ2, f2, r2, i2, ⟨ts, e, h2⟩, _⟩ := asF_ok f1 r1 ok1 n1 h1
  subst e
  cases i2 with
  | lst a b =>
    refine ⟨_, rfl, ⟨_, r2.inc.seq a⟩, c _ F2 H1 ts τ2 f2 r2 (fun σ' τ' F' H' sF rH => ⟨fun i t e => ?_, ⟨_, rH.inc.seq (sF.seq a), by rw [b.length]; exact Nat.le_refl _⟩⟩) h2⟩
    obtain ⟨w, ew, hw⟩ := b.get e
    refine ⟨⟨_, w, rH.inc.seq (sF.seq a), ew⟩, fun x H2 y => ?_⟩
    obtain ⟨rfl, y2⟩ := y
    have := y2 _ (rH.inc.seq (sF.seq a))
    rw [ew] at this
    cases this
    exact ⟨F', Up.refl rH.inc, hw.same sF⟩
theorem i_tup {K : PySem.W.Frag} (hK : K = B.K) {Φ : List Tr → TSt → Prop} (h : EV B te τ fun x τ1 => AsF x τ1 fun t τ2 => ∃ ts, t = .tup ts ∧ Φ ts τ2) : IV B (iTup K te) τ Φ := fun σ F H R r c => by
  subst hK
  refine h σ F H _ r fun v F1 H1 k τ1 f1 r1 ok1 n1 h1 => ?_
  obtain ⟨F2, t, τ2, f2, r2, i2, ⟨ts, e, h2⟩, _⟩ := asF_ok f1 r1 ok1 n1 h1
  subst e
  cases i2 with
  | tup a b =>
    refine ⟨_, rfl, ⟨_, r2.inc.tup a⟩, c _ F2 H1 ts τ2 f2 r2 (fun σ' τ' F' H' sF rH => ⟨fun i t e => ?_, ⟨_, rH.inc.tup (sF.tup a), by rw [b.length]; exact Nat.le_refl _⟩⟩) h2⟩
    obtain ⟨w, ew, hw⟩ := b.get e
    refine ⟨⟨_, w, rH.inc.tup (sF.tup a), ew⟩, fun x H2 y => ?_⟩
    obtain ⟨rfl, y2⟩ := y
    have := y2 _ (rH.inc.tup (sF.tup a))
    rw [ew] at this
    cases this
    exact ⟨F', Up.refl rH.inc, hw.same sF⟩
theorem t_lst {S : List Tr → Prop} (q : S ts) : ∃ ts', Tr.lst ts = .lst ts' ∧ S ts' := ⟨ts, rfl, q⟩
theorem t_tup {S : List Tr → Prop} (q : S ts) : ∃ ts', Tr.tup ts = .tup ts' ∧ S ts' := ⟨ts, rfl, q⟩
noncomputable def rangeT (lo : Int) (n : Nat) : List Tr := (List.range n).map fun i => .int (lo + (i : Nat))
theorem rangeT_at {lo : Int} {n i : Nat} {t : Tr} (h : (rangeT lo n)[i]? = some t) : i < n ∧ t = .int (lo + (i : Nat)) := by
  unfold rangeT at h
  rw [List.getElem?_map] at h
  by_cases hi : i < n
  · rw [List.getElem?_range hi] at h; cases h; exact ⟨hi, rfl⟩
  · rw [List.getElem?_eq_none (by rw [List.length_range]; omega)] at h; cases h
theorem rangeT_len {lo : Int} {n : Nat} : (rangeT lo n).length = n := by unfold rangeT; rw [List.length_map, List.length_range]
theorem itr_ok {F : Hp} {lo : Int} {n : Nat} : ItOk B F (Itr lo n) (rangeT lo n) := fun σ' τ' F' H' sF rH => ⟨fun i t e => by
    obtain ⟨hi, rfl⟩ := rangeT_at e
    exact ⟨hi, fun x H2 y => by obtain ⟨rfl, rfl⟩ := y; exact ⟨F', Up.refl rH.inc, .int⟩⟩, by rw [rangeT_len]; exact Nat.le_refl _⟩
theorem i_rng1 {Φ : List Tr → TSt → Prop} (h : EV B te τ fun x τ1 => ∃ j, x = .fz (.int j) ∧ (-(2 ^ 62) ≤ j ∧ j < 2 ^ 62) ∧ Φ (rangeT 0 j.toNat) τ1) : IV B (iRng1 (tCons te tNil)) τ Φ := fun σ F H R r c => by
  refine h σ F H _ r fun v F1 H1 k τ1 f1 r1 ok1 n1 ⟨j, e, hb, h1⟩ => ?_
  subst e
  cases ok1
  exact ⟨j, rfl, hb.1, hb.2, c _ F1 H1 _ τ1 f1 r1 itr_ok h1⟩
theorem s_for {wi : TI} {g : TG} {tbd : TS} (h : IV B wi τ fun ts τ1 => ∃ I : Nat → TSt → Prop, I 0 τ1 ∧ (∀ i t τ2, ts[i]? = some t → I i τ2 → GA B g (.fz t) τ2 fun τ3 => SV B tbd τ3 ⟨I (i + 1), rt, nx, I (i + 1)⟩) ∧ ∀ τ2, I ts.length τ2 → nx τ2) : SV B (tFor wi g tbd) τ ⟨nx, rt, bk, ct⟩ := fun σ F H D r e => by
  refine h σ F H _ r fun J F1 H1 ts τ1 f1 r1 itk ⟨I, i0, step, fin⟩ => ?_
  refine ⟨fun i m σ H => ∃ F2 τ2, Same F1 F2 ∧ Rp B F2 H σ τ2 ∧ I i τ2 ∧ i ≤ ts.length ∧ m = ts.length - i, ⟨_, F1, τ1, Same.refl _, r1, i0, Nat.zero_le _, rfl⟩, ?_⟩
  rintro i m σ H ⟨F2, τ2, s2, r2, i2, hi, rfl⟩
  obtain ⟨itg, its⟩ := itk σ τ2 F2 H s2 r2
  by_cases hlt : i < ts.length
  · obtain ⟨g1, g2⟩ := itg i ts[i] (List.getElem?_eq_getElem hlt)
    refine .inr ⟨g1, fun σ' H' => ∃ F2 τ2, Same F1 F2 ∧ Rp B F2 H' σ' τ2 ∧ I (i + 1) τ2, fun σ' H' ⟨F2, τ2, a, b, c⟩ => ⟨_, by omega, F2, τ2, a, b, c, hlt, rfl⟩, fun x H3 y => ?_⟩
    obtain ⟨F3, u3, hx⟩ := g2 x H3 y
    refine step i ts[i] τ2 (List.getElem?_eq_getElem hlt) i2 σ F3 H3 x _ (r2.go u3) hx fun σ4 F4 H4 τ4 s4 r4 h4 => ?_
    have s14 := s2.trans (u3.f.trans s4)
    exact h4 σ4 F4 H4 _ r4 ⟨fun σ5 F5 H5 τ5 s5 r5 h5 => ⟨F5, τ5, s14.trans s5, r5, h5⟩, e.rt, fun σ5 F5 H5 τ5 s5 r5 h5 => e.nx σ5 F5 H5 τ5 (f1.f.trans (s14.trans s5)) r5 h5, fun σ5 F5 H5 τ5 s5 r5 h5 => ⟨F5, τ5, s14.trans s5, r5, h5⟩⟩
  · have ei : i = ts.length := by omega
    subst ei
    exact .inl ⟨its, e.nx σ F2 H τ2 (f1.f.trans s2) r2 (fin τ2 i2)⟩
theorem s_while {tbd : TS} (I : Nat → TSt → Prop) (m0 : Nat) (h0 : I m0 τ) (step : ∀ m τ1, I m τ1 → TV B c τ1 fun b τ2 => if b = true then SV B tbd τ2 ⟨fun τ3 => ∃ m', m' < m ∧ I m' τ3, rt, nx, fun τ3 => ∃ m', m' < m ∧ I m' τ3⟩ else nx τ2) : SV B (tWhile c tbd) τ ⟨nx, rt, bk, ct⟩ := fun σ F H D r e => by
  refine ⟨fun m σ H => ∃ F2 τ2, Same F F2 ∧ Rp B F2 H σ τ2 ∧ I m τ2, ⟨m0, F, τ, Same.refl _, r, h0⟩, ?_⟩
  rintro m σ H ⟨F2, τ2, s2, r2, i2⟩
  refine step m τ2 i2 σ F2 H _ r2 fun b F3 H3 τ3 f3 r3 h3 => ?_
  have s3 := s2.trans f3.f
  cases b with
  | true =>
    rw [if_pos rfl] at h3 ⊢
    refine ⟨fun σ' H' => ∃ m', m' < m ∧ ∃ F2 τ2, Same F F2 ∧ Rp B F2 H' σ' τ2 ∧ I m' τ2, fun σ' H' z => z, h3 σ F3 H3 _ r3 ⟨?_, e.rt, fun σ5 F5 H5 τ5 s5 r5 h5 => e.nx σ5 F5 H5 τ5 (s3.trans s5) r5 h5, ?_⟩⟩
    · rintro σ5 F5 H5 τ5 s5 r5 ⟨m', hm, h5⟩
      exact ⟨m', hm, F5, τ5, s3.trans s5, r5, h5⟩
    · rintro σ5 F5 H5 τ5 s5 r5 ⟨m', hm, h5⟩
      exact ⟨m', hm, F5, τ5, s3.trans s5, r5, h5⟩
  | false => rw [if_neg Bool.false_ne_true] at h3 ⊢; exact e.nx σ F3 H3 τ3 s3 r3 h3
end
end L2
namespace L2
open PySem PySem.Spec PyProof.Rows
noncomputable def slOf : Ar → Sl
  | .fz t => .fz t
  | .wd => .wd
noncomputable def startT (n : Nat) (as : List Ar) : TSt := as.map slOf ++ List.replicate (n - as.length) Sl.no
theorem startT_at {n : Nat} {as : List Ar} {i : Nat} {s : Sl} (h : TAt (startT n as) i s) : (∃ a, s = slOf a ∧ as[i]? = some a) ∨ s = .no := by
  unfold TAt startT at h
  by_cases hi : i < as.length
  · rw [List.getElem?_append_left (by rw [List.length_map]; exact hi), List.getElem?_map, List.getElem?_eq_getElem hi] at h
    cases h
    exact .inl ⟨_, rfl, List.getElem?_eq_getElem hi⟩
  · rw [List.getElem?_append_right (by rw [List.length_map]; omega), List.getElem?_replicate] at h
    split at h
    · cases h; exact .inr rfl
    · cases h
theorem rp_start {B : Bk} {N : List Str} {vs : List V} {as : List Ar} (k : BkOk B) (l : ArL B B.F0 vs as) : Rp B B.F0 B.H0 (start N vs) (startT N.length as) := by
  have got : ∀ i a, as[i]? = some a → ∃ v, SAt (start N vs) i v ∧ ArOk B B.F0 v a := fun i a h => by
    obtain ⟨v, hv, hi⟩ := l.get h
    refine ⟨v, ?_, hi⟩
    have hj := (List.getElem?_eq_some_iff.mp hv).1
    unfold SAt start
    rw [List.getElem?_append_left (by rw [List.length_map]; exact hj), List.getElem?_map, hv]
    rfl
  exact {
  up := Up.refl k.i
  wa := k.wa
  wf := k.wf
  wj := k.wj
  wd := fun j h => by
    rcases startT_at h with ⟨a, e, hu⟩ | e
    · cases a with
      | fz t => cases e
      | wd =>
        obtain ⟨v, e, hv⟩ := got j _ hu
        cases (show v = .ref B.rt from hv)
        exact e
    · cases e
  len := by unfold start startT; rw [List.length_append, List.length_append, List.length_map, List.length_map, List.length_replicate, List.length_replicate, l.length]
  fz := fun j t h => by
    rcases startT_at h with ⟨a, e, hu⟩ | e
    · cases a with
      | wd => cases e
      | fz u =>
        cases e
        obtain ⟨v, e, hv⟩ := got j _ hu
        exact ⟨v, e, hv⟩
    · cases e
  ow := fun j t h => by
    rcases startT_at h with ⟨a, e, hu⟩ | e
    · cases a <;> cases e
    · cases e
  vw := fun j t h => by
    rcases startT_at h with ⟨a, e, hu⟩ | e
    · cases a <;> cases e
    · cases e
  ap := fun _ b t u l h => by
    rcases startT_at h with ⟨a, e, hu⟩ | e
    · cases a <;> cases e
    · cases e
  av := fun _ b t u l h => by
    rcases startT_at h with ⟨a, e, hu⟩ | e
    · cases a <;> cases e
    · cases e }
theorem toSp_open {K : PySem.W.Frag} {S : SpT} {vs : List V} {H : Hp} {Q : VK} {E : XK} (h : toSp K S vs H Q E) : ∃ B as Φ Ψ, B.K = K ∧ S B as Φ Ψ ∧ (∀ C F' H', Up B B.F0 B.H0 F' H' → Ψ C → E (.ref C) none H') ∧ ∀ (N : List Str) (t : TS), SV B t (startT N.length as) ⟨fun _ => Φ (.fz .non), Φ, fun _ => False, fun _ => False⟩ → t { nx := fun _ H' => Q .non H', rt := Q } (start N vs) H := by
  obtain ⟨B, as, Φ, Ψ, hK, rfl, k, l, s, q, x⟩ := h
  refine ⟨B, as, Φ, Ψ, hK, s, x, fun N t sv => sv _ _ _ _ (rp_start k l) ⟨?_, ?_, ?_, ?_⟩⟩
  · intro σ F' H' τ _ r h
    exact q .non F' H' (.fz .non) r.up .non h
  · intro v F' H' k u ok h
    exact q v F' H' k u ok h
  · exact fun _ _ _ _ _ _ z => z
  · exact fun _ _ _ _ _ _ z => z
theorem s_go {B : Bk} {t : TS} {τ : TSt} {n : Nat} {ts : List Ar} {D : ET} (h : startT n ts = τ) (q : SV B t τ D) : SV B t (startT n ts) D := by rw [h]; exact q
inductive InR (τ : TSt) : List (Str × Nat) → TSt → Prop
  | nil : InR τ [] []
  | fz {x : Str} {k : Nat} {t : Tr} {r : List (Str × Nat)} {r' : TSt} : Gt τ k (.fz t) → InR τ r r' → InR τ ((x, k) :: r) (.fz t :: r')
  | own {x : Str} {k : Nat} {t : Tr} {r : List (Str × Nat)} {r' : TSt} : Gt τ k (.own t) → InR τ r r' → InR τ ((x, k) :: r) (.vw t :: r')
  | vw {x : Str} {k : Nat} {t : Tr} {r : List (Str × Nat)} {r' : TSt} : Gt τ k (.vw t) → InR τ r r' → InR τ ((x, k) :: r) (.vw t :: r')
  | wd {x : Str} {k : Nat} {r : List (Str × Nat)} {r' : TSt} : Gt τ k .wd → InR τ r r' → InR τ ((x, k) :: r) (.wd :: r')
  | no {x : Str} {k : Nat} {r : List (Str × Nat)} {r' : TSt} : InR τ r r' → InR τ ((x, k) :: r) (.no :: r')
theorem InR.at {τ : TSt} {fr : List (Str × Nat)} {τi : TSt} (h : InR τ fr τi) : τi.length = fr.length ∧ ∀ i s, TAt τi i s → ∃ x k, fr[i]? = some (x, k) ∧ ((s = .no ∨ (s = .wd ∧ TAt τ k .wd)) ∨ (∃ t, s = .fz t ∧ TAt τ k (.fz t)) ∨ ∃ t, s = .vw t ∧ (TAt τ k (.own t) ∨ TAt τ k (.vw t))) := by
  induction h with
  | nil => exact ⟨rfl, fun i s h => by unfold TAt at h; simp at h⟩
  | fz g _ ih =>
    refine ⟨by rw [List.length_cons, List.length_cons, ih.1], fun i s h => ?_⟩
    cases i with
    | zero => simp [TAt] at h; subst h; exact ⟨_, _, rfl, .inr (.inl ⟨_, rfl, g.eq⟩)⟩
    | succ i => exact ih.2 i s (by simpa [TAt] using h)
  | own g _ ih =>
    refine ⟨by rw [List.length_cons, List.length_cons, ih.1], fun i s h => ?_⟩
    cases i with
    | zero => simp [TAt] at h; subst h; exact ⟨_, _, rfl, .inr (.inr ⟨_, rfl, .inl g.eq⟩)⟩
    | succ i => exact ih.2 i s (by simpa [TAt] using h)
  | vw g _ ih =>
    refine ⟨by rw [List.length_cons, List.length_cons, ih.1], fun i s h => ?_⟩
    cases i with
    | zero => simp [TAt] at h; subst h; exact ⟨_, _, rfl, .inr (.inr ⟨_, rfl, .inr g.eq⟩)⟩
    | succ i => exact ih.2 i s (by simpa [TAt] using h)
  | no _ ih =>
    refine ⟨by rw [List.length_cons, List.length_cons, ih.1], fun i s h => ?_⟩
    cases i with
    | zero => simp [TAt] at h; subst h; exact ⟨_, _, rfl, .inl (.inl rfl)⟩
    | succ i => exact ih.2 i s (by simpa [TAt] using h)
  | wd g _ ih =>
    refine ⟨by rw [List.length_cons, List.length_cons, ih.1], fun i s h => ?_⟩
    cases i with
    | zero => simp [TAt] at h; subst h; exact ⟨_, _, rfl, .inl (.inr ⟨rfl, g.eq⟩)⟩
    | succ i => exact ih.2 i s (by simpa [TAt] using h)
section
variable {B : Bk} {F H : Hp} {σ : St} {τ τi : TSt} {fr : List (Str × Nat)}
theorem inSt_at {i k : Nat} {x : Str} {v : V} (h : fr[i]? = some (x, k)) (g : SAt σ k v) : SAt (inSt σ fr) i v := by
  unfold SAt inSt at *
  rw [List.getElem?_map, h]
  show some ((σ[k]?).join) = _
  rw [g]; rfl
theorem InR.rp (h : InR τ fr τi) (r : Rp B F H σ τ) : Rp B F H (inSt σ fr) τi where
  up := r.up
  wa := r.wa
  wf := r.wf
  wj := r.wj
  wd := fun i z => by
    obtain ⟨x, k, hk, (e | ⟨e, g⟩) | ⟨u, e, g⟩ | ⟨u, e, g⟩⟩ := h.at.2 i _ z
    · cases e
    · exact inSt_at hk (r.wd _ g)
    · cases e
    · cases e
  len := by unfold inSt; rw [List.length_map, h.at.1]
  fz := fun i t z => by
    obtain ⟨x, k, hk, (e | ⟨e, g⟩) | ⟨u, e, g⟩ | ⟨u, e, g⟩⟩ := h.at.2 i _ z
    · cases e
    · cases e
    · cases e
      obtain ⟨v, a, b⟩ := r.fz _ _ g
      exact ⟨v, inSt_at hk a, b⟩
    · cases e
  ow := fun i t z => by
    obtain ⟨x, k, hk, (e | ⟨e, g⟩) | ⟨u, e, g⟩ | ⟨u, e, g⟩⟩ := h.at.2 i _ z <;> cases e
  vw := fun i t z => by
    obtain ⟨x, k, hk, (e | ⟨e, g⟩) | ⟨u, e, g⟩ | ⟨u, e, g⟩⟩ := h.at.2 i _ z
    · cases e
    · cases e
    · cases e
    · cases e
      rcases g with g | g
      · obtain ⟨l, a, b, c, n0⟩ := r.ow _ _ g
        exact ⟨l, inSt_at hk a, b, c, fun hw => r.wa l hw n0⟩
      · obtain ⟨l, a, b, c⟩ := r.vw _ _ g
        exact ⟨l, inSt_at hk a, b, c⟩
  ap := fun a b t u l z => by
    obtain ⟨x, k, hk, (e | ⟨e, g⟩) | ⟨u, e, g⟩ | ⟨u, e, g⟩⟩ := h.at.2 a _ z <;> cases e
  av := fun a b t u l z => by
    obtain ⟨x, k, hk, (e | ⟨e, g⟩) | ⟨u, e, g⟩ | ⟨u, e, g⟩⟩ := h.at.2 a _ z <;> cases e
theorem InR.noown (h : InR τ fr τi) {i : Nat} {t : Tr} (z : TAt τi i (.own t)) : False := by
  obtain ⟨x, k, hk, (e | ⟨e, g⟩) | ⟨u, e, g⟩ | ⟨u, e, g⟩⟩ := h.at.2 i _ z <;> cases e
theorem Rp.consO {o : Option V} (r : Rp B F H σ τ) : Rp B F H (o :: σ) (.no :: τ) where
  up := r.up
  wa := r.wa
  wf := r.wf
  wj := r.wj
  wd := fun i z => by
    cases i with
    | zero => cases z
    | succ i => exact r.wd i z
  len := by rw [List.length_cons, List.length_cons, r.len]
  fz := fun i t z => by
    cases i with
    | zero => cases z
    | succ i => obtain ⟨v, a, b⟩ := r.fz i t z; exact ⟨v, a, b⟩
  ow := fun i t z => by
    cases i with
    | zero => cases z
    | succ i => exact r.ow i t z
  vw := fun i t z => by
    cases i with
    | zero => cases z
    | succ i => exact r.vw i t z
  ap := fun a b t u l ha hb ne hi hj => by
    cases a with
    | zero => cases ha
    | succ a =>
      cases b with
      | zero => cases hb
      | succ b => exact r.ap a b t u l ha hb (fun z => ne (by rw [z])) hi hj
  av := fun a b t u l ha hb hi hj => by
    cases a with
    | zero => cases ha
    | succ a =>
      cases b with
      | zero => cases hb
      | succ b => exact r.av a b t u l ha hb hi hj
theorem Rp.consF {v : V} {t : Tr} (r : Rp B F H σ τ) (h : Is B.K F v t) : Rp B F H (some v :: σ) (.fz t :: τ) := (r.consO (o := none)).setF (i := 0) h
theorem Rp.back {σi : St} {τ2 τ3 : TSt} {F' H' : Hp} (r : Rp B F H σ τ) (f : Fr B σi τ2 F H τ3 F' H') (no : ∀ i t, ¬ TAt τ2 i (.own t)) (ri : Rp B F' H' σi τ3) : Rp B F' H' σ τ ∧ Up B F H F' H' := by
  have up : Up B F H F' H' := ⟨f.f, fun p o nw hp => (f.k p o hp nw fun i t z => (no i t z).elim).1, ri.up.i, fun p o hp mb n => by
    by_cases hw : B.W p
    · exact ri.wf p hw
    · exact (f.k p o hp hw fun i t z => (no i t z).elim).2 mb n, f.h, fun p hw _ => ri.wf p hw, fun _ => ri.wj⟩
  exact ⟨r.go up, up⟩
theorem Rp.acc {acc : Addr} {o : HO} {ys : List V} (rb : Rp B F H σ τ) (hy : H acc = some (.lst ys)) (h0 : B.H0 acc = none) (na : F acc = none) (dis : ∀ i u, TAt τ i (.own u) ∨ TAt τ i (.vw u) → ¬ SAt σ i (.ref acc)) : Rp B F (upd H acc o) σ τ := {
      wa := rb.wa
      wf := rb.wf
      wj := B.jl _ _ (fun q hw => by
        have : q ≠ acc := fun e => rb.wa q hw (by rw [e]; exact h0)
        rw [upd_ne this]) (fun q φ z => by rw [upd_ne (ne_of z hy nofun)]; exact z) rb.wj
      wd := rb.wd
      up := { f := rb.up.f, h := fun q o nw z => by
                have : q ≠ acc := fun e => by rw [e, h0] at z; cases z
                rw [upd_ne this]; exact rb.up.h q o nw z
              i := fun q o z => by
                have : q ≠ acc := fun e => by rw [e, na] at z; cases z
                rw [upd_ne this]; exact rb.up.i q o z
              m := rb.up.m
              w := fun q z => rb.up.w q (upd_none z)
              x := rb.up.x
              j := fun z => B.jl _ _ (fun q hw => by
                have : q ≠ acc := fun e => rb.wa q hw (by rw [e]; exact h0)
                rw [upd_ne this]) (fun q φ z => by rw [upd_ne (ne_of z hy nofun)]; exact z) rb.wj }
      len := rb.len
      fz := rb.fz
      ow := fun j u z => by
        obtain ⟨l', a, b, c⟩ := rb.ow j u z
        have : l' ≠ acc := fun e => dis j u (.inl z) (by rw [← e]; exact a)
        exact ⟨l', a, b.to (Same.refl _) (fun o ho => by rw [upd_ne this]; exact ho), c⟩
      vw := fun j u z => by
        obtain ⟨l', a, b, c⟩ := rb.vw j u z
        have : l' ≠ acc := fun e => dis j u (.inr z) (by rw [← e]; exact a)
        exact ⟨l', a, b.to (Same.refl _) (fun o ho => by rw [upd_ne this]; exact ho), c⟩
      ap := rb.ap
      av := rb.av }
end
section
variable {B : Bk} {τ τi : TSt} {Φ : TK} {fr : List (Str × Nat)} {wi : TI} {te : TE}
end
end L2
namespace L2
open PySem PySem.Spec PyProof.Rows
section
variable {B : Bk} {F H : Hp} {σ : St} {τ τi : TSt} {fr : List (Str × Nat)}
theorem Rp.pre (r : Rp B F H σ τ) : ∀ (vs : List V) (ts : List Tr), IsL B.K F vs ts → Rp B F H (vs.map some ++ σ) (ts.map Sl.fz ++ τ)
  | _, _, .nil => r
  | _, _, .cons h g => (Rp.pre r _ _ g).consF h
end
section
variable {B : Bk} {τ τi : TSt} {Φ : TK} {fr : List (Str × Nat)} {wi : TI} {te : TE} {tc : TT} {g : TG} {k : Nat}
theorem e_lcg (Cut : Tr → List Tr → Prop) (hk : ∀ t as, Cut t as → as.length = k)
    (hg : ∀ t as, Cut t as → ∀ (F H : Hp) (v : V) (σb : St) (S : St → Hp → Prop), Same F H → Is B.K F v t → k ≤ σb.length → (∀ ws, IsL B.K F ws as → S (ws.map some ++ σb.drop k) H) → g v σb H S)
    (h : IV B wi τ fun ts τ1 => ∃ τi, InR τ1 fr τi ∧ ts.length ≤ 100000 ∧ ∃ P : Nat → Option Tr → Prop, (∀ i t, ts[i]? = some t → ∃ as, Cut t as ∧ TV B tc (as.map Sl.fz ++ τi) fun b τ2 => if b = true then EV B te τ2 fun k τ3 => AsF k τ3 fun o _ => P i (some o) else P i none) ∧ ∀ os : List (Option Tr), os.length = ts.length → (∀ i o, os[i]? = some o → P i o) → Φ (.nw (.lst (os.filterMap id))) τ1) : EV B (tLCG k fr wi g tc te) τ Φ := fun σ F H Q r c => by
  refine h σ F H _ r fun J F1 H1 ts τ1 f1 r1 itk ⟨τi, inr, hlen, P, step, fin⟩ => ?_
  intro acc hacc
  refine ⟨fun i m σb H2 => ∃ F2 vs os, Rp B F2 H2 σ τ1 ∧ Fr B σ τ1 F1 H1 τ1 F2 H2 ∧ H2 acc = some (.lst vs) ∧ F2 acc = none ∧ IsL B.K F2 vs (os.filterMap id) ∧ os.length = i ∧ (∀ j o, os[j]? = some o → P j o) ∧ i ≤ ts.length ∧ m = ts.length - i ∧ k ≤ σb.length ∧ σb.drop k = inSt σ fr, ⟨_, F1, [], [], r1.go (r1.new hacc), Fr.up (r1.new hacc), upd_same, r1.inc.free hacc, .nil, rfl, fun j o z => (by cases z), Nat.zero_le _, rfl, by rw [List.length_append, List.length_replicate]; omega, by rw [List.drop_append_of_le_length (by rw [List.length_replicate]; exact Nat.le_refl _), List.drop_replicate, Nat.sub_self]; rfl⟩, ?_⟩
  rintro i m σb H2 ⟨F2, vs, os, r2, f2, ha, na, l2, hos, hP, hi, rfl, hkb, hdb⟩
  obtain ⟨itg, its⟩ := itk σ τ1 F2 H2 f2.f r2
  have nwa : ¬ B.W acc := fun hw => r1.wa acc hw (r1.up.w acc hacc)
  have dis : ∀ (i : Nat) (u : Tr), TAt τ1 i (.own u) ∨ TAt τ1 i (.vw u) → ¬ SAt σ i (.ref acc) := fun i u hu hs => by
    rcases hu with hu | hu
    · obtain ⟨l', e', g, _⟩ := r1.ow i u hu
      obtain ⟨o, ho, _⟩ := g.mb
      cases sat_unique e' hs
      rw [hacc] at ho; cases ho
    · obtain ⟨l', e', g, _⟩ := r1.vw i u hu
      obtain ⟨o, ho, _⟩ := g.mb
      cases sat_unique e' hs
      rw [hacc] at ho; cases ho
  have more : ∀ {o : Option Tr}, P i o → ∀ (j : Nat) (q : Option Tr), (os ++ [o])[j]? = some q → P j q := fun {o} hp j q hj => by
    rcases Nat.lt_or_ge j os.length with hjl | hjl
    · rw [List.getElem?_append_left hjl] at hj
      exact hP j q hj
    · rw [List.getElem?_append_right hjl] at hj
      have hz := (List.getElem?_eq_some_iff.mp hj).1
      rw [List.length_singleton] at hz
      have ej : j = i := by omega
      rw [show j - os.length = 0 by omega] at hj
      cases hj
      rw [ej]; exact hp
  by_cases hlt : i < ts.length
  · obtain ⟨g1, g2⟩ := itg i ts[i] (List.getElem?_eq_getElem hlt)
    refine .inr ⟨g1, fun x H3 y => ?_⟩
    obtain ⟨F3, u3, hx⟩ := g2 x H3 y
    have r3 := r2.go u3
    obtain ⟨as, hcut, htv⟩ := step i ts[i] (List.getElem?_eq_getElem hlt)
    refine hg ts[i] as hcut F3 H3 x σb _ r3.inc hx hkb fun ws lw => ?_
    rw [hdb]
    have ri : Rp B F3 H3 (ws.map some ++ inSt σ fr) (as.map Sl.fz ++ τi) := Rp.pre (inr.rp r3) ws as lw
    have noo : ∀ j t, ¬ TAt (as.map Sl.fz ++ τi) j (.own t) := fun j t z => by
      unfold TAt at z
      rcases Nat.lt_or_ge j as.length with q | q
      · rw [List.getElem?_append_left (by rw [List.length_map]; exact q), List.getElem?_map, List.getElem?_eq_getElem q] at z
        cases z
      · rw [List.getElem?_append_right (by rw [List.length_map]; exact q)] at z
        exact inr.noown z
    have hwl : (ws.map some).length = k := by rw [List.length_map, lw.length, hk _ _ hcut]
    have hk2 : k ≤ (ws.map some ++ inSt σ fr).length := by rw [List.length_append, hwl]; omega
    have hd2 : (ws.map some ++ inSt σ fr).drop k = inSt σ fr := by rw [← hwl, List.drop_left]
    refine htv _ F3 H3 _ ri fun b F4 H4 τ4 f4 r4 h4 => ?_
    cases b with
    | false =>
      rw [if_neg Bool.false_ne_true] at h4 ⊢
      obtain ⟨rb, ub⟩ := r3.back f4 noo r4
      have u25 := u3.trans ub
      exact ⟨ts.length - (i + 1), by omega, F4, vs, os ++ [none], rb, f2.trans (Fr.up u25), u25.h _ _ nwa ha, u25.m _ _ ha trivial na, by rw [List.filterMap_append]; simpa using l2.same u25.f, by rw [List.length_append, hos]; rfl, more h4, hlt, rfl, hk2, hd2⟩
    | true =>
      rw [if_pos rfl] at h4 ⊢
      refine h4 _ F4 H4 _ r4 fun v F5 H5 kd τ5 f5 r5 ok5 n5 h5 => ?_
      obtain ⟨F6, o, τ6, f6, r6, i6, hp6, _⟩ := asF_ok f5 r5 ok5 n5 h5
      obtain ⟨rb, ub⟩ := r3.back (f4.trans f6) noo r6
      have u25 := u3.trans ub
      have ha5 : H5 acc = some (.lst vs) := u25.h _ _ nwa ha
      have na5 : F6 acc = none := u25.m _ _ ha trivial na
      have hvl : vs.length ≤ i := by rw [l2.length, ← hos]; exact List.length_filterMap_le _ _
      refine ⟨vs, ts.length - (i + 1), ha5, Nat.lt_of_le_of_lt hvl (Nat.lt_of_lt_of_le (Nat.lt_of_lt_of_le hlt hlen) (by decide)), by omega, ?_⟩
      have f6' : Fr B σ τ1 F1 H1 τ1 F6 (upd H5 acc (.lst (vs ++ [v]))) := by
        have f7 := f2.trans (Fr.up u25)
        refine ⟨f7.f, fun p o hp nw no => ?_, f7.o, fun p hp => ?_⟩
        · have : p ≠ acc := fun e => by rw [e, hacc] at hp; cases hp
          rw [upd_ne this]; exact f7.k p o hp nw no
        · by_cases e : p = acc
          · rw [e, upd_same] at hp; cases hp
          · rw [upd_ne e] at hp; exact f7.h p hp
      exact ⟨F6, vs ++ [v], os ++ [some o], rb.acc ha5 (r1.up.w acc hacc) na5 dis, f6', upd_same, na5, by rw [List.filterMap_append]; exact (l2.same u25.f).snoc i6, by rw [List.length_append, hos]; rfl, more hp6, hlt, rfl, hk2, hd2⟩
  · have ei : i = ts.length := by omega
    subst ei
    exact .inl ⟨its, c _ F2 H2 (.nw (.lst (os.filterMap id))) τ1 (f1.trans f2) r2 ⟨acc, rfl, .lst ha l2, na, r1.up.w acc hacc, dis⟩ (fun l e => by cases e; exact f1.h _ hacc) (fin os hos hP)⟩
theorem e_lcP {K : PySem.W.Frag} (hK : K = B.K) (h : IV B wi τ fun ts τ1 => ∃ τi, InR τ1 fr τi ∧ ts.length ≤ 100000 ∧ ∃ P : Nat → Option Tr → Prop, (∀ i t, ts[i]? = some t → ∃ a b, t = .tup [a, b] ∧ TV B tc (.fz a :: .fz b :: τi) fun b τ2 => if b = true then EV B te τ2 fun k τ3 => AsF k τ3 fun o _ => P i (some o) else P i none) ∧ ∀ os : List (Option Tr), os.length = ts.length → (∀ i o, os[i]? = some o → P i o) → Φ (.nw (.lst (os.filterMap id))) τ1) : EV B (tLCG 2 fr wi (gTup K 2 (gCons (gName 0) (gCons (gName 1) gNil))) tc te) τ Φ := by
  subst hK
  refine e_lcg (fun t as => ∃ a b, t = .tup [a, b] ∧ as = [a, b]) (fun t as e => by obtain ⟨a, b, _, rfl⟩ := e; rfl) (fun t as e F H v σb S i hi hk q => ?_) ?_
  · obtain ⟨a, b, rfl, rfl⟩ := e
    cases hi with
    | tup s l =>
      cases l with
      | cons h1 l =>
        cases l with
        | cons h2 l =>
          cases l
          refine ⟨_, _, rfl, i.tup s, rfl, _, _, rfl, _, _, rfl, rfl, ?_⟩
          have := q _ (.cons h1 (.cons h2 .nil))
          match σb, hk with
          | x :: y :: r, _ => exact this
  · intro σ F H R r c
    refine h σ F H R r fun J F' H' ts τ' f r' it ⟨τi, a, b, P, st, fin⟩ => c J F' H' ts τ' f r' it ⟨τi, a, b, P, fun i t e => ?_, fin⟩
    obtain ⟨a, b, e, tv⟩ := st i t e
    exact ⟨[a, b], ⟨a, b, e, rfl⟩, tv⟩
theorem t_yes {Ψ : Bool → TSt → Prop} (h : Ψ true τ) : TV B tYes τ Ψ := fun σ F H Q r c => c true F H τ Fr.refl r h
end
section
variable {B : Bk} {τ τ' : TSt} {Φ : TK} {x : Kd} {i j : Int} {ts : List Tr} {b : Bool} {t : Tr} {K : PySem.W.Frag}
theorem ru_len (hK : K = B.K) (rk : Rk τ x (.lst ts)) (q : Φ (.fz (.int (ts.length : Nat))) τ) : RU B (fun v H Q => ∃ p ys, [v] = [V.ref p] ∧ (SqL K H p ys ∨ SqT K H p ys) ∧ Q (.int (ys.length : Nat)) H) x τ Φ := fun σ F H v Q r a c => by
  subst hK
  obtain ⟨p, vs, rfl, s, l⟩ := rk.list r a
  refine ⟨p, vs, rfl, .inl s, ?_⟩
  rw [l.length]; exact c.pl r .int q
theorem ru_lenT (hK : K = B.K) (rk : Rk τ x (.tup ts)) (q : Φ (.fz (.int (ts.length : Nat))) τ) : RU B (fun v H Q => ∃ p ys, [v] = [V.ref p] ∧ (SqL K H p ys ∨ SqT K H p ys) ∧ Q (.int (ys.length : Nat)) H) x τ Φ := fun σ F H v Q r a c => by
  subst hK
  obtain ⟨p, vs, rfl, s, l⟩ := rk.tuple r a
  refine ⟨p, vs, rfl, .inr s, ?_⟩
  rw [l.length]; exact c.pl r .int q
theorem ru_abs (q : Φ (.fz (.int (if i < 0 then -i else i))) τ) : RU B (fun v H Q => ∃ i, [v] = [V.int i] ∧ Q (.int (if i < 0 then -i else i)) H) (.fz (.int i)) τ Φ := fun σ F H v Q r a c => by
  cases pd_int a
  exact ⟨i, rfl, c.pl r .int q⟩
theorem ru_toB (q : Φ (.fz (.int (if b = true then 1 else 0))) τ) : RU B (fun v H Q => (∃ i, [v] = [V.int i] ∧ Q (.int i) H) ∨ ∃ k, [v] = [V.bl k] ∧ Q (.int (if k = true then 1 else 0)) H) (.fz (.bl b)) τ Φ := fun σ F H v Q r a c => by
  cases pd_bl a
  exact .inr ⟨b, rfl, c.pl r .int q⟩
theorem ru_all (hK : K = B.K) {bs : List Bool} (rk : Rk τ x (.lst (bs.map Tr.bl))) (q : Φ (.fz (.bl (bs.all fun b => b))) τ) : RU B (fun v H Q => rAll K [v] H Q) x τ Φ := fun σ F H v Q r a c => by
  subst hK
  obtain ⟨p, vs, rfl, s, l⟩ := rk.list r a
  rw [l.bls] at s
  exact ⟨p, bs, rfl, s, c.pl r .bl q⟩
theorem ru_list (hK : K = B.K) (rk : Rk τ x (.lst ts)) (q : Φ (.nw (.lst ts)) τ) : RU B (fun v H Q => ∃ p ys, [v] = [V.ref p] ∧ (SqL K H p ys ∨ SqT K H p ys) ∧ ∀ l, H l = none → Q (.ref l) (upd H l (.lst ys))) x τ Φ := fun σ F H v Q r a c => by
  subst hK
  obtain ⟨p, vs, rfl, s, l⟩ := rk.list r a
  exact ⟨p, vs, rfl, .inl s, fun l' hl => c.nl r l hl q⟩
theorem ro_max2 (q : Φ (.fz (.int (if j > i then j else i))) τ) : RO B (fun v w H Q => ∃ i j, [v, w] = [V.int i, V.int j] ∧ Q (.int (if j > i then j else i)) H) (.fz (.int i)) (.fz (.int j)) τ Φ := fun σ F H v w Q r a b c => by
  cases pd_int a; cases pd_int b
  exact ⟨i, j, rfl, c.pl r .int q⟩
theorem ro_min2 (q : Φ (.fz (.int (if j < i then j else i))) τ) : RO B (fun v w H Q => ∃ i j, [v, w] = [V.int i, V.int j] ∧ Q (.int (if j < i then j else i)) H) (.fz (.int i)) (.fz (.int j)) τ Φ := fun σ F H v w Q r a b c => by
  cases pd_int a; cases pd_int b
  exact ⟨i, j, rfl, c.pl r .int q⟩
noncomputable def tgT : Tr → Option Tg
  | .non => some .non
  | .bl _ => some .bl
  | .int _ => some .int
  | .str _ => some .str
  | .tup _ => some .tup
  | .lst _ => some .lst
  | .dct _ => some .dic
  | .ty _ => none
theorem is_tg {F H : Hp} {v : V} {g : Tg} (i : Same F H) (h : Is K F v t) (e : tgT t = some g) : tgIs K H v g := by
  cases h with
  | tup a b => cases e; exact ⟨_, i.tup a⟩
  | lst a b => cases e; exact ⟨_, i.seq a⟩
  | dct a b c => cases e; exact ⟨_, i _ _ a⟩
  | ty => cases e
  | _ => cases e; trivial
theorem ro_isi (hK : K = B.K) {n : String} {f : Tg → Bool} {g : Tg} (e : tgT t = some g) (q : Φ (.fz (.bl (f g))) τ) : RO B (fun v w H Q => rIsi K n f [v, w] H Q) (.fz t) (.fz (.ty n)) τ Φ := fun σ F H v w Q r a b c => by
  subst hK
  cases (show Is B.K F w (.ty n) from b)
  exact ⟨v, g, rfl, is_tg r.inc a e, c.pl r .bl q⟩
theorem ro_isiT (hK : K = B.K) {n : String} {f : Tg → Bool} {g : Tg} (e : tgT t = some g) (hb : f g = true) (q : Φ (.fz (.bl true)) τ) : RO B (fun v w H Q => rIsi K n f [v, w] H Q) (.fz t) (.fz (.ty n)) τ Φ := ro_isi hK e (by rw [hb]; exact q)
theorem ro_isiF (hK : K = B.K) {n : String} {f : Tg → Bool} {g : Tg} (e : tgT t = some g) (hb : f g = false) (q : Φ (.fz (.bl false)) τ) : RO B (fun v w H Q => rIsi K n f [v, w] H Q) (.fz t) (.fz (.ty n)) τ Φ := ro_isi hK e (by rw [hb]; exact q)
theorem ro_isNT (h : t.isN = true) (q : Φ (.fz (.bl true)) τ) : RO B rIsN (.fz t) (.fz .non) τ Φ := ro_isN (by rw [h]; exact q)
theorem ro_isNF (h : t.isN = false) (q : Φ (.fz (.bl false)) τ) : RO B rIsN (.fz t) (.fz .non) τ Φ := ro_isN (by rw [h]; exact q)
end
end L2
namespace L2
open PySem PySem.Spec PyProof.Rows
theorem t_len {α : Type} {l : List α} {n : Nat} {S : Prop} (h : l.length ≤ n) (q : S) : l.length ≤ n ∧ S := ⟨h, q⟩
noncomputable def zip2T : List Tr → List Tr → List Tr
  | x :: r, y :: q => .tup [x, y] :: zip2T r q
  | _, _ => []
theorem zip2T_len : ∀ xs ys : List Tr, (zip2T xs ys).length = min xs.length ys.length
  | [], _ => by simp [zip2T]
  | _ :: _, [] => by simp [zip2T]
  | _ :: r, _ :: q => by
    simp only [zip2T, List.length_cons, zip2T_len r q]
    omega
theorem zip2T_at : ∀ (xs ys : List Tr) (i : Nat) (t : Tr), (zip2T xs ys)[i]? = some t → ∃ x y, xs[i]? = some x ∧ ys[i]? = some y ∧ t = .tup [x, y]
  | [], _, _, _, h => by simp [zip2T] at h
  | _ :: _, [], _, _, h => by simp [zip2T] at h
  | x :: r, y :: q, 0, t, h => by simp [zip2T] at h; exact ⟨x, y, rfl, rfl, h.symm⟩
  | _ :: r, _ :: q, i + 1, t, h => by
    obtain ⟨x, y, h1, h2, h3⟩ := zip2T_at r q i t (by simpa [zip2T] using h)
    exact ⟨x, y, by simpa using h1, by simpa using h2, h3⟩
noncomputable def seqT : Tr → Option (Bool × List Tr)
  | .lst ts => some (false, ts)
  | .tup ts => some (true, ts)
  | _ => none
section
variable {B : Bk} {τ : TSt} {ta tb : TE}
theorem is_seq {K : PySem.W.Frag} {F H : Hp} {v : V} {t : Tr} {q : Bool} {ts : List Tr} (i : Same F H) (h : Is K F v t) (e : seqT t = some (q, ts)) : ∃ a xs, v = .ref a ∧ SqB q K H a xs ∧ IsL K F xs ts := by
  cases h with
  | lst a b => cases e; exact ⟨_, _, rfl, i.seq a, b⟩
  | tup a b => cases e; exact ⟨_, _, rfl, i.tup a, b⟩
  | _ => cases e
theorem SqB.same {q : Bool} {K : PySem.W.Frag} {H H' : Hp} {a : Addr} {xs : List V} (s : Same H H') (h : SqB q K H a xs) : SqB q K H' a xs := by
  cases q with
  | true => exact s.tup h
  | false => exact s.seq h
theorem i_zip {K : PySem.W.Frag} (hK : K = B.K) {Φ : List Tr → TSt → Prop} (h : EV B ta τ fun x τ1 => AsF x τ1 fun t τ2 => EV B tb τ2 fun y τ3 => AsF y τ3 fun u τ4 => ∃ q1 ts q2 us, seqT t = some (q1, ts) ∧ seqT u = some (q2, us) ∧ Φ (zip2T ts us) τ4) : IV B (iZip K (tCons ta (tCons tb tNil))) τ Φ := fun σ F H R r c => by
  subst hK
  refine h σ F H _ r fun v F1 H1 k τ1 f1 r1 ok1 n1 h1 => ?_
  obtain ⟨F2, t, τ2, f2, r2, i2, h2, _⟩ := asF_ok f1 r1 ok1 n1 h1
  refine h2 σ F2 H1 _ r2 fun w F3 H3 k3 τ3 f3 r3 ok3 n3 h3 => ?_
  obtain ⟨F4, u, τ4, f4, r4, i4, ⟨q1, ts, q2, us, e1, e2, h4⟩, _⟩ := asF_ok f3 r3 ok3 n3 h3
  obtain ⟨a1, xs, rfl, s1, l1⟩ := is_seq r4.inc (i2.same f4.f) e1
  obtain ⟨a2, ys, rfl, s2, l2⟩ := is_seq r4.inc i4 e2
  obtain ⟨_, _, ea, s1', l1'⟩ := is_seq (Same.refl F4) (i2.same f4.f) e1
  cases ea
  obtain ⟨_, _, eb, s2', l2'⟩ := is_seq (Same.refl F4) i4 e2
  cases eb
  refine ⟨q1, q2, a1, a2, rfl, ⟨xs, s1⟩, ⟨ys, s2⟩, c _ F4 H3 _ τ4 (f2.trans f4) r4 (fun σ' τ' F' H' sF rH => ⟨fun i t e => ?_, ?_⟩) h4⟩
  · obtain ⟨x0, y0, ex, ey, rfl⟩ := zip2T_at ts us i t e
    obtain ⟨w1, ew1, hw1⟩ := l1'.get ex
    obtain ⟨w2, ew2, hw2⟩ := l2'.get ey
    have t1 := SqB.same rH.inc (SqB.same sF s1')
    have t2 := SqB.same rH.inc (SqB.same sF s2')
    refine ⟨⟨_, _, w1, w2, t1, t2, ew1, ew2⟩, ?_⟩
    rintro x H2 ⟨p, y1, y2, rfl, hn, hy1, hy2, rfl⟩
    have g1 := hy1 _ t1
    have g2 := hy2 _ t2
    rw [ew1] at g1
    rw [ew2] at g2
    cases g1
    cases g2
    have u := rH.tup (vs := [w1, w2]) hn
    exact ⟨_, u, .tup (SqT.of upd_same) (.cons ((hw1.same sF).same u.f) (.cons ((hw2.same sF).same u.f) .nil))⟩
  · refine ⟨_, _, SqB.same rH.inc (SqB.same sF s1'), SqB.same rH.inc (SqB.same sF s2'), ?_⟩
    rw [l1'.length, l2'.length, zip2T_len]
    omega
end
section
variable {B : Bk} {τ τ' : TSt} {Φ : TK} {x y : Kd} {ts us : List Tr} {K : PySem.W.Frag}
theorem ro_catL (hK : K = B.K) (r1 : Rk τ x (.lst ts)) (r2 : Rk τ y (.lst us)) (hl : ts.length + us.length ≤ 100000) (q : Φ (.nw (.lst (ts ++ us))) τ) : RO B (rCatL K) x y τ Φ := fun _ _ _ _ _ _ r a b c => by
  subst hK
  obtain ⟨p, vs, rfl, s, l⟩ := r1.list r a
  obtain ⟨p2, ws, rfl, s2, l2⟩ := r2.list r b
  exact ⟨p, p2, vs, ws, rfl, rfl, s, s2, by rw [l.length, l2.length]; exact Nat.le_trans hl (by decide), fun p' hp => c.nl r (l.app l2) hp q⟩
theorem Rk.isT {F H : Hp} {σ : St} {v : V} (h : Rk τ x (.tup ts)) (r : Rp B F H σ τ) (ok : PdOk B.K F σ v x) : Is B.K F v (.tup ts) := by
  cases h with
  | fz => exact ok
  | own g => obtain ⟨l, e, hw, _⟩ := r.ow _ _ g.eq; cases hw
  | vw g => obtain ⟨l, e, hw, _⟩ := r.vw _ _ g.eq; cases hw
  | sfz g =>
    obtain ⟨w, e, hi⟩ := r.fz _ _ g.eq
    cases sat_unique e ok
    exact hi
theorem ro_catT (hK : K = B.K) (r1 : Rk τ x (.tup ts)) (r2 : Rk τ y (.tup us)) (hn : ts ≠ []) (hl : ts.length + us.length ≤ 100000) (q : Φ (.fz (.tup (ts ++ us))) τ) : RO B (rCatT K) x y τ Φ := fun _ F H v w Q r a b c => by
  subst hK
  have i1 := r1.isT r a
  obtain ⟨p, vs, rfl, s, l⟩ := r1.tuple r a
  obtain ⟨p2, ws, rfl, s2, l2⟩ := r2.tuple r b
  refine ⟨p, p2, vs, ws, rfl, rfl, s, s2, fun e => ?_, by rw [l.length, l2.length]; exact Nat.le_trans hl (by decide), fun e => ?_, fun _ p' hp => c.nt r (l.app l2) hp q⟩
  · subst e
    cases l
    exact hn rfl
  · subst e
    cases l2
    rw [List.append_nil] at q
    exact c.pl r i1 q
end
end L2
namespace L2
open PySem PySem.Spec PyProof.Rows
inductive Dp : Nat → Tr → Prop
  | non {n : Nat} : Dp n .non
  | bl {n : Nat} {b : Bool} : Dp n (.bl b)
  | int {n : Nat} {i : Int} : Dp n (.int i)
  | str {n : Nat} {x : Str} : Dp n (.str x)
  | tup {n : Nat} {ts : List Tr} : (∀ t ∈ ts, Dp n t) → Dp (n + 1) (.tup ts)
  | lst {n : Nat} {ts : List Tr} : (∀ t ∈ ts, Dp n t) → Dp (n + 1) (.lst ts)
theorem dp_nil {n : Nat} : ∀ t ∈ ([] : List Tr), Dp n t := fun _ h => absurd h List.not_mem_nil
theorem dp_cons {n : Nat} {t : Tr} {r : List Tr} (h : Dp n t) (g : ∀ t ∈ r, Dp n t) : ∀ u ∈ t :: r, Dp n u := List.forall_mem_cons.mpr ⟨h, g⟩
theorem Dp.up {n : Nat} {t : Tr} (h : Dp n t) : ∀ {m : Nat}, n ≤ m → Dp m t := by
  induction h with
  | non => exact fun _ => .non
  | bl => exact fun _ => .bl
  | int => exact fun _ => .int
  | str => exact fun _ => .str
  | @tup n ts _ ih =>
    intro m hm
    obtain ⟨k, rfl⟩ : ∃ k, m = k + 1 := ⟨m - 1, by omega⟩
    exact .tup fun t ht => ih t ht (by omega)
  | @lst n ts _ ih =>
    intro m hm
    obtain ⟨k, rfl⟩ : ∃ k, m = k + 1 := ⟨m - 1, by omega⟩
    exact .lst fun t ht => ih t ht (by omega)
theorem alike_of {K : PySem.W.Frag} {F G H : Hp} {n : Nat} {t : Tr} (d : Dp n t) : ∀ {v w : V}, Same F H → Same G H → Is K F v t → Is K G w t → Alike K H n v w := by
  induction d with
  | non => intro v w i j a b; cases a; cases b; exact .non
  | bl => intro v w i j a b; cases a; cases b; exact .bl
  | int => intro v w i j a b; cases a; cases b; exact .int
  | str => intro v w i j a b; cases a; cases b; exact .str
  | tup _ ih =>
    intro v w i j a b
    cases a with
    | tup s1 l1 =>
      cases b with
      | tup s2 l2 =>
        refine .tup (i.tup s1) (j.tup s2) (by rw [l1.length, l2.length]) fun k x y hx hy => ?_
        obtain ⟨t1, e1, h1⟩ := l1.get2 hx
        obtain ⟨t2, e2, h2⟩ := l2.get2 hy
        rw [e1] at e2
        cases e2
        exact ih t1 (List.mem_of_getElem? e1) i j h1 h2
  | lst _ ih =>
    intro v w i j a b
    cases a with
    | lst s1 l1 =>
      cases b with
      | lst s2 l2 =>
        refine .lst (i.seq s1) (j.seq s2) (by rw [l1.length, l2.length]) fun k x y hx hy => ?_
        obtain ⟨t1, e1, h1⟩ := l1.get2 hx
        obtain ⟨t2, e2, h2⟩ := l2.get2 hy
        rw [e1] at e2
        cases e2
        exact ih t1 (List.mem_of_getElem? e1) i j h1 h2
section
variable {B : Bk} {τ τ' : TSt} {Φ : TK} {x y : Kd} {ts us : List Tr} {K : PySem.W.Frag} {b : Bool}
theorem ro_alkL (hK : K = B.K) {n : Nat} (d : ∀ t ∈ ts, Dp n t) (hn : n ≤ 100) (r1 : Rk τ x (.lst ts)) (r2 : Rk τ y (.lst ts)) (q : Φ (.fz (.bl b)) τ) : RO B (rAlk K b) x y τ Φ := fun _ _ _ _ _ _ r a b c => by
  subst hK
  obtain ⟨p, vs, rfl, s, l⟩ := r1.list r a
  obtain ⟨p2, ws, rfl, s2, l2⟩ := r2.list r b
  refine ⟨p, p2, rfl, rfl, ⟨n, vs, ws, hn, .inr ⟨s, s2⟩, by rw [l.length, l2.length], fun j x y hx hy => ?_⟩, c.pl r .bl q⟩
  obtain ⟨t1, e1, h1⟩ := l.get2 hx
  obtain ⟨t2, e2, h2⟩ := l2.get2 hy
  rw [e1] at e2
  cases e2
  exact alike_of (d t1 (List.mem_of_getElem? e1)) r.inc r.inc h1 h2
theorem ro_alkT (hK : K = B.K) {n : Nat} (d : ∀ t ∈ ts, Dp n t) (hn : n ≤ 100) (r1 : Rk τ x (.tup ts)) (r2 : Rk τ y (.tup ts)) (q : Φ (.fz (.bl b)) τ) : RO B (rAlk K b) x y τ Φ := fun _ _ _ _ _ _ r a b c => by
  subst hK
  obtain ⟨p, vs, rfl, s, l⟩ := r1.tuple r a
  obtain ⟨p2, ws, rfl, s2, l2⟩ := r2.tuple r b
  refine ⟨p, p2, rfl, rfl, ⟨n, vs, ws, hn, .inl ⟨s, s2⟩, by rw [l.length, l2.length], fun j x y hx hy => ?_⟩, c.pl r .bl q⟩
  obtain ⟨t1, e1, h1⟩ := l.get2 hx
  obtain ⟨t2, e2, h2⟩ := l2.get2 hy
  rw [e1] at e2
  cases e2
  exact alike_of (d t1 (List.mem_of_getElem? e1)) r.inc r.inc h1 h2
theorem inV_str {z : Str} : ∀ {ws : List Str}, inV (.str z) (ws.map V.str) = decide (z ∈ ws)
  | [] => rfl
  | x :: r => by
    have ih := inV_str (z := z) (ws := r)
    unfold inV at ih ⊢
    rw [List.map_cons, List.any_cons, ih]
    show ((x == z) || decide (z ∈ r)) = _
    by_cases h : x = z
    · subst h; simp
    · have h1 : (x == z) = false := by simpa using h
      rw [h1, Bool.false_or]
      by_cases k : z ∈ r
      · rw [decide_eq_true k, decide_eq_true (List.mem_cons_of_mem _ k)]
      · rw [decide_eq_false k, decide_eq_false (fun q => (List.mem_cons.mp q).elim (fun e => h e.symm) k)]
theorem flat_str : ∀ {ws : List Str}, (ws.map V.str).all flatV = true
  | [] => rfl
  | _ :: _ => by rw [List.map_cons, List.all_cons, flat_str]; rfl
theorem ro_notin (hK : K = B.K) {ws : List Str} {z : Str} (r2 : Rk τ y (.lst (ws.map Tr.str))) (q : Φ (.fz (.bl (!decide (z ∈ ws)))) τ) : RO B (rIn K true) (.fz (.str z)) y τ Φ := fun σ F H v w Q r a b c => by
  subst hK
  cases pd_str a
  obtain ⟨p, vs, rfl, s, l⟩ := r2.list r b
  rw [l.strs] at s
  refine ⟨p, _, rfl, .inl s, rfl, flat_str, ?_⟩
  rw [inV_str]; exact c.pl r .bl q
noncomputable def ixS (ws : List Str) (z : Str) : Option Nat := ws.findIdx? fun x => decide (x = z)
theorem ixS_is {ws : List Str} {z : Str} {j : Nat} (h : ixS ws z = some j) : ws[j]? = some z ∧ ∀ i u, i < j → ws[i]? = some u → u ≠ z := by
  unfold ixS at h
  rw [List.findIdx?_eq_some_iff_getElem] at h
  obtain ⟨hl, e, hb⟩ := h
  have e : ws[j] = z := by simpa using e
  refine ⟨by rw [List.getElem?_eq_getElem hl, e], fun i x hi hx => ?_⟩
  have := hb i hi
  obtain ⟨_, ex⟩ := List.getElem?_eq_some_iff.mp hx
  rw [ex] at this
  simpa using this
theorem ixS_mem {ws : List Str} {z : Str} (h : z ∈ ws) : ∃ j, ixS ws z = some j := by
  have a : (ixS ws z).isSome = true := by
    unfold ixS
    rw [List.findIdx?_isSome]
    exact List.any_eq_true.mpr ⟨z, h, decide_eq_true rfl⟩
  exact Option.isSome_iff_exists.mp a
theorem rm_index (hK : K = B.K) {ws : List Str} {z : Str} {j : Nat} (rk : Rk τ x (.lst (ws.map Tr.str))) (h : ixS ws z = some j) (q : Φ (.fz (.int (j : Nat))) τ) : RM B (rIndex K) x [.str z] τ Φ := fun σ F H v vs Q r a l c => by
  subst hK
  obtain ⟨p, ws', rfl, s, l2⟩ := rk.list r a
  rw [l2.strs] at s
  cases l with
  | cons h1 l =>
    cases l
    cases h1
    obtain ⟨e1, e2⟩ := ixS_is h
    refine ⟨p, _, .str z, .str z, j, rfl, rfl, s, rfl, flat_str, by rw [List.getElem?_map, e1]; rfl, show (z == z) = true by simp, fun i u hi hu => ?_, c.pl r .int q⟩
    rw [List.getElem?_map] at hu
    cases ew : ws[i]? with
    | none => rw [ew] at hu; cases hu
    | some y =>
      rw [ew] at hu
      cases hu
      have := e2 i y hi ew
      show (y == z) = false
      simpa using this
theorem ro_repS {z : Str} {n : Int} (h0 : 0 ≤ n) (h1 : n ≤ 1000) (hz : z.length ≤ 1000) (q : Φ (.fz (.str (repS z n))) τ) : RO B rRepS (.fz (.str z)) (.fz (.int n)) τ Φ := fun σ F H v w Q r a b c => by
  cases pd_str a
  cases pd_int b
  exact ⟨z, n, rfl, rfl, h0, h1, hz, c.pl r .str q⟩
theorem e_repLit {tA : TA} {n : Int} (h0 : 0 ≤ n) (h1 : n ≤ 1000) (h : EVA B tA τ fun ts τ1 => ts.length ≤ 1000 ∧ Φ (.nw (.lst (List.replicate n.toNat ts).flatten)) τ1) : EV B (tOp rRep (tLst tA) (tC (.int n))) τ Φ := fun σ F H Q r c => by
  refine h σ F H _ r fun vs F1 H1 ts τ1 f1 r1 l1 ⟨hl, h2⟩ => ⟨by rw [l1.length]; exact Nat.le_trans hl (by decide), fun p hp => ?_⟩
  have u := r1.new (o := .lst vs) hp
  refine ⟨p, n, vs, rfl, rfl, upd_same, by omega, by omega, Nat.le_trans (Nat.mul_le_mul (show vs.length ≤ 1000 by rw [l1.length]; exact hl) (show n.toNat ≤ 1000 by omega)) (by decide), fun p' hp' => ?_⟩
  refine (c.on (f1.trans (Fr.up u))).nl (r1.go u) ?_ hp' h2
  generalize n.toNat = m
  induction m with
  | zero => exact .nil
  | succ m ih => rw [List.replicate_succ, List.replicate_succ, List.flatten_cons, List.flatten_cons]; exact l1.app ih
theorem e_isiTL (hK : K = B.K) {te : TE} (h : EV B te τ fun x τ1 => Pnd x τ1 fun x τ1 => ∃ t g b, x = .fz t ∧ tgT t = some g ∧ (g.isTup || g.isLst) = b ∧ Φ (.fz (.bl b)) τ1) : EV B (tCB (rIsiTL K) (tCons te (tCons (tTup (tCons (tC (.ty "tuple")) (tCons (tC (.ty "list")) tNil))) tNil))) τ Φ := fun σ F H Q rp c => by
  subst hK
  refine h σ F H _ rp fun v F1 H1 k τ1 f1 r1 ok1 n1 h1 => ?_
  obtain ⟨F2, k', f2, r2, ok2, ⟨t, g, b, e1, e2, e3, φ⟩, _⟩ := pnd_ok f1 r1 ok1 n1 h1
  subst e1
  subst e3
  refine ⟨by decide, fun p hp => ?_⟩
  have u := r2.tup (vs := [.ty "tuple", .ty "list"]) hp
  refine ⟨v, g, p, rfl, SqT.of upd_same, is_tg (r2.go u).inc (Is.same u.f ok2) e2, ?_⟩
  exact (c.on (f2.trans (Fr.up u))).pl (r2.go u) .bl φ
theorem t_efzT {t : Tr} {g : Tg} {S : Bool → Prop} (e : tgT t = some g) (h : (g.isTup || g.isLst) = true) (q : S true) : ∃ t' g' b, Kd.fz t = .fz t' ∧ tgT t' = some g' ∧ (g'.isTup || g'.isLst) = b ∧ S b := ⟨t, g, true, rfl, e, h, q⟩
theorem t_efzF {t : Tr} {g : Tg} {S : Bool → Prop} (e : tgT t = some g) (h : (g.isTup || g.isLst) = false) (q : S false) : ∃ t' g' b, Kd.fz t = .fz t' ∧ tgT t' = some g' ∧ (g'.isTup || g'.isLst) = b ∧ S b := ⟨t, g, false, rfl, e, h, q⟩
end
section
variable {B : Bk} {τ : TSt} {Φ : TK}
end
end L2
namespace L2
open PySem PySem.Spec PyProof.Rows
theorem isl2 {K : PySem.W.Frag} {F : Hp} {vs : List V} {t u : Tr} (h : IsL K F vs [t, u]) : ∃ v w, vs = [v, w] ∧ Is K F v t ∧ Is K F w u := by
  cases h with
  | cons a b =>
    cases b with
    | cons b c => cases c; exact ⟨_, _, rfl, a, b⟩
theorem arl2 {B : Bk} {F : Hp} {vs : List V} {t u : Tr} (h : ArL B F vs [.fz t, .fz u]) : ∃ v w, vs = [v, w] ∧ Is B.K F v t ∧ Is B.K F w u := by
  cases h with
  | cons a b =>
    cases b with
    | cons b c => cases c; exact ⟨_, _, rfl, a, b⟩
noncomputable def addT (F H : Hp) : Hp := fun p => match F p with
  | some o => some o
  | none => match H p with
    | some (.tup xs) => some (.tup xs)
    | some (.frz o (.tup xs)) => some (.frz o (.tup xs))
    | _ => none
theorem addT_some {F H : Hp} {p : Addr} {o : HO} (h : addT F H p = some o) : F p = some o ∨ (F p = none ∧ H p = some o ∧ ¬ Mb o) := by
  unfold addT at h
  cases e : F p with
  | some o' => rw [e] at h; exact .inl h
  | none =>
    rw [e] at h
    refine .inr ⟨rfl, ?_⟩
    cases e2 : H p with
    | none => rw [e2] at h; cases h
    | some o2 =>
      rw [e2] at h
      cases o2 with
      | tup xs => cases h; exact ⟨rfl, fun z => z⟩
      | frz o3 u =>
        cases u with
        | tup xs => cases h; exact ⟨rfl, fun z => z⟩
        | _ => cases h
      | _ => cases h
theorem upT {B : Bk} {F H H' : Hp} (k : BkOk B) (hF : B.F0 = F) (hH : B.H0 = H) (s : Same H H') : Up B F H (addT F H') H' where
  f := fun b o e => by unfold addT; rw [e]
  h := fun p o _ e => s p o e
  i := fun p o e => by
    rcases addT_some e with e | ⟨_, e, _⟩
    · exact s p o (by rw [← hH]; exact k.i p o (by rw [hF]; exact e))
    · exact e
  m := fun p o hp mb n => by
    cases e : addT F H' p with
    | none => rfl
    | some o2 =>
      rcases addT_some e with e | ⟨_, e, nm⟩
      · rw [n] at e; cases e
      · have := s p o hp
        rw [this] at e
        cases e
        exact (nm mb).elim
  w := fun p e => s.free e
  x := fun p hw n => by
    cases e : addT F H' p with
    | none => rfl
    | some o2 =>
      rcases addT_some e with e | ⟨_, e, nm⟩
      · rw [n] at e; cases e
      · obtain ⟨o, ho, mb⟩ := B.jm H' p (B.jl H H' (fun p hw => by
          cases e : H p with
          | none => exact absurd (by rw [hH]; exact e) (k.wa p hw)
          | some o => rw [s p o e]) (fun p φ z => s p _ z) (by rw [← hH]; exact k.wj)) hw
        rw [ho] at e
        cases e
        exact (nm mb).elim
  j := fun h => B.jl _ _ (fun p hw => by
    cases e : H p with
    | none => exact absurd (by rw [hH]; exact e) (k.wa p hw)
    | some o => rw [s p o e]) (fun p φ z => s p _ z) h
theorem SqT.addT {K : PySem.W.Frag} {F H : Hp} {p : Addr} {xs : List V} (i : Same F H) (h : SqT K H p xs) : SqT K (addT F H) p xs := by
  rcases h with (h | ⟨o, h⟩) | h
  · refine .inl (.inl ?_)
    unfold L2.addT
    cases e : F p with
    | some o => exact (i p o e).symm.trans h
    | none => show (match H p with | some (.tup xs) => some (HO.tup xs) | some (.frz o (.tup xs)) => some (HO.frz o (.tup xs)) | _ => none) = _; rw [h]
  · refine .inl (.inr ⟨o, ?_⟩)
    unfold L2.addT
    cases e : F p with
    | some o2 => exact (i p o2 e).symm.trans h
    | none => show (match H p with | some (.tup xs) => some (HO.tup xs) | some (.frz o (.tup xs)) => some (HO.frz o (.tup xs)) | _ => none) = _; rw [h]
  · exact .inr h
end L2
namespace L2
open PySem PySem.Spec PyProof.Rows
structure RowAt (B : Bk) (F H : Hp) (p a b : Addr) (ts us : List Tr) : Prop where
  sp : SqT B.K F p [.ref a, .ref b]
  oa : Ow B.K F H a (.lst ts)
  ob : Ow B.K F H b (.lst us)
  fa : F a = none
  fb : F b = none
  na : B.H0 a = none
  nb : B.H0 b = none
  ne : a ≠ b
abbrev SpR := Bk → List Ar → (List Tr → List Tr → Prop) → Prop
noncomputable def toSpR (K : PySem.W.Frag) (S : SpR) : Sp := fun vs H Q _ => ∃ B as Φ, B.K = K ∧ B.H0 = H ∧ BkOk B ∧ ArL B B.F0 vs as ∧ S B as Φ ∧ ∀ p a b F' H' ts us, Up B B.F0 H F' H' → RowAt B F' H' p a b ts us → Φ ts us → Q (.ref p) H'
theorem toSpR_len {K : PySem.W.Frag} {S : SpR} {n : Nat} (hn : ∀ B as Φ, S B as Φ → as.length = n) : ∀ vs H Q E, toSpR K S vs H Q E → vs.length = n := fun vs H Q E h => by
  obtain ⟨B, as, Φ, _, _, _, l, s, _⟩ := h
  rw [l.length]; exact hn B as Φ s
noncomputable def SVD (B : Bk) (D : Ends) (t : TS) (τ : TSt) : Prop := ∀ σ F H, Rp B F H σ τ → t D σ H
noncomputable def DRow (B : Bk) (D : Ends) (Φ : List Tr → List Tr → Prop) : Prop := ∀ p a b F' H' ts us, Up B B.F0 B.H0 F' H' → RowAt B F' H' p a b ts us → Φ ts us → D.rt (.ref p) H'
theorem toSpR_open {K : PySem.W.Frag} {S : SpR} {vs : List V} {H : Hp} {Q : VK} {E : XK} (h : toSpR K S vs H Q E) : ∃ B as Φ, B.K = K ∧ S B as Φ ∧ ∀ (N : List Str) (t : TS), (∀ D, DRow B D Φ → SVD B D t (startT N.length as)) → t { nx := fun _ H' => Q .non H', rt := Q } (start N vs) H := by
  obtain ⟨B, as, Φ, hK, rfl, k, l, s, q⟩ := h
  exact ⟨B, as, Φ, hK, s, fun N t sv => sv _ (fun p a b F' H' ts us u r φ => q p a b F' H' ts us u r φ) _ _ _ (rp_start k l)⟩
section
variable {B : Bk} {τ : TSt} {s1 s2 : TS} {D : Ends} {i j : Nat} {ts us : List Tr}
theorem d_seq (h : SV B s1 τ ⟨fun τ' => SVD B D s2 τ', fun _ => False, fun _ => False, fun _ => False⟩) : SVD B D (tSeq s1 s2) τ := fun σ F H r =>
  h σ F H _ r ⟨fun σ' F' H' τ' _ r' h' => h' σ' F' H' r', fun _ _ _ _ _ _ z => z.elim, fun _ _ _ _ _ _ z => z.elim, fun _ _ _ _ _ _ z => z.elim⟩
theorem d_sv {rt : Kd → Prop} (hD : ∀ v F' H' k, Up B B.F0 B.H0 F' H' → RetOk B F' H' v k → rt k → D.rt v H') (h : SV B s1 τ ⟨fun _ => False, rt, fun _ => False, fun _ => False⟩) : SVD B D s1 τ := fun σ F H r =>
  h σ F H _ r ⟨fun _ _ _ _ _ _ z => z.elim, hD, fun _ _ _ _ _ _ z => z.elim, fun _ _ _ _ _ _ z => z.elim⟩
theorem d_ret2 {Φ : List Tr → List Tr → Prop} (hD : DRow B D Φ) (g : Gt τ i (.own (.lst ts))) (g2 : Gt τ j (.own (.lst us))) (hij : i ≠ j) (φ : Φ ts us) : SVD B D (tRet (tTup (tCons (tVar i) (tCons (tVar j) tNil)))) τ := fun σ F H r => by
  obtain ⟨a, ea, oa, fa, na⟩ := r.ow i _ g.eq
  obtain ⟨b, eb, ob, fb, nb⟩ := r.ow j _ g2.eq
  have ne : a ≠ b := fun e => r.ap i j _ _ a g.eq g2.eq hij ea (by rw [e]; exact eb)
  refine ⟨.ref a, ea, .ref b, eb, show 2 ≤ sizeLine by decide, fun p hp => ?_⟩
  have u := r.tup (vs := [.ref a, .ref b]) hp
  obtain ⟨o1, h1, m1⟩ := oa.mb
  obtain ⟨o2, h2, m2⟩ := ob.mb
  exact hD p a b _ _ ts us (r.up.trans u) ⟨SqT.of upd_same, oa.to u.f (fun o => u.h a o fun hw => r.wa a hw na), ob.to u.f (fun o => u.h b o fun hw => r.wa b hw nb), u.m a o1 h1 m1 fa, u.m b o2 h2 m2 fb, na, nb, ne⟩ φ
end
noncomputable def bkL (K : PySem.W.Frag) (F H : Hp) (p : Addr) (l : List (Addr × List V)) : Bk where
  K := K
  F0 := F
  H0 := H
  W := fun q => ∃ vs, (q, vs) ∈ l
  J := fun H' => ∀ x ∈ l, H' x.1 = some (.lst x.2)
  rt := p
  jl := fun H H' e _ h x hx => by rw [← e x.1 ⟨x.2, hx⟩]; exact h x hx
  jm := fun H q h hw => by
    obtain ⟨vs, hx⟩ := hw
    exact ⟨_, h _ hx, trivial⟩
section
variable {B : Bk} {τ : TSt} {σ : St} {F H F' H' : Hp} {p : Addr} {l : List (Addr × List V)} {k : Nat}
theorem Rp.rebase (r : Rp B F H σ τ) (cl : ∀ i s, TAt τ i s → s = .no ∨ ∃ t, s = .fz t) (hl : ∀ x ∈ l, H x.1 = some (.lst x.2) ∧ F x.1 = none) : Rp (bkL B.K F H p l) F H (σ.set k (some (.ref p))) (τ.set k .wd) where
  up := Up.refl r.inc
  wa := fun q hw z => by
    obtain ⟨vs, hx⟩ := hw
    have e := (hl _ hx).1
    have z : H q = none := z
    rw [z] at e; cases e
  wf := fun q hw => by
    obtain ⟨vs, hx⟩ := hw
    exact (hl _ hx).2
  wj := fun x hx => (hl x hx).1
  wd := fun i e => by
    rcases tset e with ⟨rfl, _, hi⟩ | ⟨_, e⟩
    · exact ssetHere (by rw [r.len]; exact hi)
    · rcases cl i _ e with z | ⟨_, z⟩ <;> cases z
  len := by rw [List.length_set, List.length_set]; exact r.len
  fz := fun i t e => by
    rcases tset e with ⟨_, e, _⟩ | ⟨n, e⟩
    · cases e
    · obtain ⟨v, ev, h⟩ := r.fz i t e
      exact ⟨v, ssetNe n ev, h⟩
  ow := fun i t e => by
    rcases tset e with ⟨_, e, _⟩ | ⟨_, e⟩
    · cases e
    · rcases cl i _ e with z | ⟨_, z⟩ <;> cases z
  vw := fun i t e => by
    rcases tset e with ⟨_, e, _⟩ | ⟨_, e⟩
    · cases e
    · rcases cl i _ e with z | ⟨_, z⟩ <;> cases z
  ap := fun i j t u l e => by
    rcases tset e with ⟨_, e, _⟩ | ⟨_, e⟩
    · cases e
    · rcases cl i _ e with z | ⟨_, z⟩ <;> cases z
  av := fun i j t u l e => by
    rcases tset e with ⟨_, e, _⟩ | ⟨_, e⟩
    · cases e
    · rcases cl i _ e with z | ⟨_, z⟩ <;> cases z
theorem up_rebase (r : Rp B F H σ τ) (hl : ∀ x ∈ l, H x.1 = some (.lst x.2)) (n0 : ∀ x ∈ l, B.H0 x.1 = none) (u : Up (bkL B.K F H p l) F H F' H') : Up B B.F0 B.H0 F' H' := by
  have nw : ∀ q, B.H0 q ≠ none → ¬ (bkL B.K F H p l).W q := fun q h hw => by
    obtain ⟨vs, hx⟩ := hw
    exact h (n0 _ hx)
  have keep : ∀ q, B.W q → F q = none → F' q = none := fun q hw z => by
    obtain ⟨o, ho, mb⟩ := B.jm H q r.wj hw
    exact u.m q o ho mb z
  exact {
    f := r.up.f.trans u.f
    h := fun q o n z => u.h q o (nw q (by rw [z]; nofun)) (r.up.h q o n z)
    i := u.i
    m := fun q o z mb n => by
      by_cases hw : B.W q
      · exact keep q hw (r.up.x q hw n)
      · exact u.m q o (r.up.h q o hw z) mb (r.up.m q o z mb n)
    w := fun q z => r.up.w q (u.w q z)
    x := fun q hw n => keep q hw (r.up.x q hw n)
    j := fun hj => B.jl H H' (fun q hw => by
      obtain ⟨o, ho, mb⟩ := B.jm H q r.wj hw
      rw [ho, u.h q o (nw q (r.wa q hw)) ho]) (fun q φ z => u.h q _ (fun ⟨vs, hx⟩ => by have := hl _ hx; rw [show H q = some (.lst vs) from this] at z; cases z) z) r.wj }
noncomputable def ClB : TSt → Bool
  | [] => true
  | .no :: r => ClB r
  | .fz _ :: r => ClB r
  | _ :: _ => false
theorem cl_b : ∀ {τ : TSt}, ClB τ = true → ∀ i s, TAt τ i s → s = .no ∨ ∃ t, s = .fz t
  | [], _, i, s, h => by cases h
  | .no :: r, h, 0, s, e => by cases e; exact .inl rfl
  | .fz t :: r, h, 0, s, e => by cases e; exact .inr ⟨t, rfl⟩
  | .no :: r, h, i + 1, s, e => cl_b (τ := r) h i s e
  | .fz t :: r, h, i + 1, s, e => cl_b (τ := r) h i s e
structure RowB (B B' : Bk) (p a b : Addr) (vs ws : List V) (ts us : List Tr) : Prop where
  k : B'.K = B.K
  rt : B'.rt = p
  sp : SqT B.K B'.F0 p [.ref a, .ref b]
  lv : IsL B.K B'.F0 vs ts
  lw : IsL B.K B'.F0 ws us
  ha : B'.H0 a = some (.lst vs)
  hb : B'.H0 b = some (.lst ws)
  na : B.H0 a = none
  nb : B.H0 b = none
  ne : a ≠ b
  w : ∀ q, B'.W q ↔ q = a ∨ q = b
  j : ∀ H', B'.J H' ↔ H' a = some (.lst vs) ∧ H' b = some (.lst ws)
  up : ∀ F H, Up B' B'.F0 B'.H0 F H → Up B B.F0 B.H0 F H
variable {D : Ends} {s2 : TS}
theorem d_row {K : PySem.W.Frag} (hK : K = B.K) {S : SpR} {E : XK} {tA : TA} (h : EVW B tA τ fun as τ1 => (∀ i s, TAt τ1 i s → s = .no ∨ ∃ t, s = .fz t) ∧ ∀ F H, S (B.now F H) as fun ts us => ∀ F H p a b vs ws, RowB B (bkL B.K F H p [(a, vs), (b, ws)]) p a b vs ws ts us → SVD (bkL B.K F H p [(a, vs), (b, ws)]) D s2 (τ1.set k .wd)) : SVD B D (tSeq (tAsg (tCall (toSpR K S) [] E tA) (gName k)) s2) τ := fun σ F H r => by
  subst hK
  show tCall (toSpR B.K S) [] E tA σ H fun x H1 => s2 D (σ.set k (some x)) H1
  unfold tCall
  simp only [List.append_nil]
  refine h σ F H _ r fun vs0 F1 H1 as τ1 f1 r1 l1 ⟨cl, h1⟩ => ?_
  refine ⟨B.now F1 H1, as, _, rfl, rfl, r1.bkok, l1.now, h1 F1 H1, fun p a b F2 H2 ts us u row φ => ?_⟩
  have r2 := r1.go u.of_now
  have na : B.H0 a = none := r1.up.w a row.na
  have nb : B.H0 b = none := r1.up.w b row.nb
  cases row.oa with
  | lst ha lv =>
    cases row.ob with
    | lst hb lw =>
      rename_i vs ws
      have hl : ∀ x ∈ [(a, vs), (b, ws)], H2 x.1 = some (.lst x.2) ∧ F2 x.1 = none := fun x hx => by
        rcases List.mem_cons.mp hx with e | e
        · rw [e]; exact ⟨ha, row.fa⟩
        · rw [List.mem_singleton.mp e]; exact ⟨hb, row.fb⟩
      have hn : ∀ x ∈ [(a, vs), (b, ws)], B.H0 x.1 = none := fun x hx => by
        rcases List.mem_cons.mp hx with e | e
        · rw [e]; exact na
        · rw [List.mem_singleton.mp e]; exact nb
      refine φ F2 H2 p a b vs ws ⟨rfl, rfl, row.sp, lv, lw, ha, hb, na, nb, row.ne, fun q => ⟨fun ⟨z, hz⟩ => ?_, fun z => ?_⟩, fun H' => ⟨fun z => ⟨z _ List.mem_cons_self, z _ (List.mem_cons_of_mem _ List.mem_cons_self)⟩, fun z x hx => ?_⟩, fun F H u => up_rebase r2 (fun x hx => (hl x hx).1) hn u⟩ _ F2 H2 (r2.rebase cl hl)
      · rcases List.mem_cons.mp hz with e | e
        · cases e; exact .inl rfl
        · cases List.mem_singleton.mp e; exact .inr rfl
      · rcases z with rfl | rfl
        · exact ⟨_, List.mem_cons_self⟩
        · exact ⟨_, List.mem_cons_of_mem _ List.mem_cons_self⟩
      · rcases List.mem_cons.mp hx with e | e
        · rw [e]; exact z.1
        · rw [List.mem_singleton.mp e]; exact z.2
structure RowC (B B' : Bk) (p a b : Addr) (ws : List V) (ts us : List Tr) : Prop where
  k : B'.K = B.K
  rt : B'.rt = p
  sp : SqT B'.K B'.F0 p [.ref a, .ref b]
  ia : Is B'.K B'.F0 (.ref a) (.lst ts)
  lw : IsL B'.K B'.F0 ws us
  nb : B.H0 b = none
  w : ∀ q, B'.W q ↔ q = b
  j : ∀ H', B'.J H' ↔ H' b = some (.lst ws)
  u0 : Up B B.F0 B.H0 B'.F0 B'.H0
  up : ∀ F H, Up B' B'.F0 B'.H0 F H → Up B B.F0 B.H0 F H
theorem d_rowF {K : PySem.W.Frag} (hK : K = B.K) {S : SpR} {E : XK} {tA : TA} (h : EVW B tA τ fun as τ1 => (∀ i s, TAt τ1 i s → s = .no ∨ ∃ t, s = .fz t) ∧ ∀ F H, S (B.now F H) as fun ts us => ∀ F H p a b ws, RowC B (bkL B.K F H p [(b, ws)]) p a b ws ts us → SVD (bkL B.K F H p [(b, ws)]) D s2 (τ1.set k .wd)) : SVD B D (tSeq (tAsg (tCall (toSpR K S) [] E tA) (gName k)) s2) τ := fun σ F H r => by
  subst hK
  show tCall (toSpR B.K S) [] E tA σ H fun x H1 => s2 D (σ.set k (some x)) H1
  unfold tCall
  simp only [List.append_nil]
  refine h σ F H _ r fun vs0 F1 H1 as τ1 f1 r1 l1 ⟨cl, h1⟩ => ?_
  refine ⟨B.now F1 H1, as, _, rfl, rfl, r1.bkok, l1.now, h1 F1 H1, fun p a b F2 H2 ts us u row φ => ?_⟩
  have r2 := r1.go u.of_now
  have na : B.H0 a = none := r1.up.w a row.na
  have nb : B.H0 b = none := r1.up.w b row.nb
  cases row.oa with
  | lst ha lv =>
    cases row.ob with
    | lst hb lw =>
      rename_i vs ws
      have r3 := r2.fixA ha row.fa na (fun i t z => by
        rcases z with z | z
        · rcases cl i _ z with e | ⟨_, e⟩ <;> cases e
        · rcases cl i _ z with e | ⟨_, e⟩ <;> cases e)
      have s3 : Same F2 (upd F2 a (.lst vs)) := Same.new row.fa _
      have hl : ∀ x ∈ [(b, ws)], H2 x.1 = some (.lst x.2) ∧ (upd F2 a (.lst vs)) x.1 = none := fun x hx => by
        rw [List.mem_singleton.mp hx]
        exact ⟨hb, by rw [upd_ne (Ne.symm row.ne)]; exact row.fb⟩
      have hn : ∀ x ∈ [(b, ws)], B.H0 x.1 = none := fun x hx => by
        rw [List.mem_singleton.mp hx]; exact nb
      refine φ (upd F2 a (.lst vs)) H2 p a b ws ⟨rfl, rfl, s3.tup row.sp, .lst (SqL.of upd_same) (lv.same s3), lw.same s3, nb, fun q => ⟨fun ⟨z, hz⟩ => ?_, fun z => ?_⟩, fun H' => ⟨fun z => z _ List.mem_cons_self, fun z x hx => ?_⟩, r3.up, fun F H u => up_rebase r3 (fun x hx => (hl x hx).1) hn u⟩ _ _ H2 (r3.rebase cl hl)
      · cases List.mem_singleton.mp hz; rfl
      · subst z; exact ⟨_, List.mem_cons_self⟩
      · rw [List.mem_singleton.mp hx]; exact z
variable {B' : Bk} {a b : Addr} {ws : List V} {ts us ms : List Tr}
theorem e_ixW0 {K : PySem.W.Frag} {Φ : TK} (hK : K = B'.K) (rc : RowC B B' p a b ws ts us) (g : Gt τ k .wd) (q : Φ (.fz (.lst ts)) τ) : EV B' (tOp (rIxT K) (tVar k) (tC (.int 0))) τ Φ := fun σ F H Q r c => by
  subst hK
  have e := r.wd k g.eq
  rw [rc.rt] at e
  exact ⟨.ref p, e, p, [.ref a, .ref b], 0, .ref a, rfl, rfl, r.inc.tup (r.up.f.tup rc.sp), rfl, c.pl r (rc.ia.same r.up.f) q⟩
theorem d_retW {K : PySem.W.Frag} (hK : K = B'.K) {Φ : List Tr → List Tr → Prop} {m : Nat} (rc : RowC B B' p a b ws ts us) (hD : DRow B D Φ) (g : Gt τ k .wd) (g2 : Gt τ m (.own (.lst ms))) (φ : Φ ms us) : SVD B' D (tRet (tTup (tCons (tVar m) (tCons (tOp (rIxT K) (tVar k) (tC (.int 1))) tNil)))) τ := fun σ F H r => by
  subst hK
  have e := r.wd k g.eq
  rw [rc.rt] at e
  obtain ⟨a', ea, oa, fa, na⟩ := r.ow m _ g2.eq
  have hw : B'.W b := (rc.w b).mpr rfl
  have hb := (rc.j H).mp r.wj
  refine ⟨.ref a', ea, .ref p, e, p, [.ref a, .ref b], 1, .ref b, rfl, rfl, r.inc.tup (r.up.f.tup rc.sp), rfl, show 2 ≤ sizeLine by decide, fun q hq => ?_⟩
  have u := r.tup (vs := [.ref a', .ref b]) hq
  obtain ⟨o1, h1, m1⟩ := oa.mb
  have bq : b ≠ q := fun z => by rw [z, hq] at hb; cases hb
  have o2 := oa.to u.f (fun o => u.h a' o fun hw => r.wa a' hw na)
  have l2 := (rc.lw.same r.up.f).same u.f
  rw [rc.k] at o2 l2
  refine hD q a' b _ _ ms us (rc.up _ _ (r.up.trans u)) ⟨SqT.of upd_same, o2, .lst (by rw [upd_ne bq]; exact hb) l2, u.m a' o1 h1 m1 fa, u.x b hw (r.wf b hw), rc.u0.w a' na, rc.nb, fun z => r.wa b hw (by rw [← z]; exact na)⟩ φ
theorem e_callR {K : PySem.W.Frag} (hK : K = B.K) {S : SpR} {E : XK} {tA : TA} {Φ : TK} (h : EVW B tA τ fun as τ1 => ∀ F H, S (B.now F H) as fun ts us => Φ (.fz (.tup [.lst ts, .lst us])) τ1) : EV B (tCall (toSpR K S) [] E tA) τ Φ := fun σ F H Q rp c => by
  subst hK
  unfold tCall
  simp only [List.append_nil]
  refine h σ F H _ rp fun vs F1 H1 as τ1 f1 r1 l1 h1 => ?_
  refine ⟨B.now F1 H1, as, _, rfl, rfl, r1.bkok, l1.now, h1 F1 H1, fun p a b F2 H2 ts us u row φ => ?_⟩
  have r2 := r1.go u.of_now
  have na : B.H0 a = none := r1.up.w a row.na
  have nb : B.H0 b = none := r1.up.w b row.nb
  have own : ∀ l, H1 l = none → ∀ i t, TAt τ1 i (.own t) ∨ TAt τ1 i (.vw t) → ¬ SAt σ i (.ref l) := fun l hl i t z e => by
    rcases z with z | z
    · obtain ⟨l', e', g, _⟩ := r1.ow i t z
      obtain ⟨o, ho, _⟩ := g.mb
      cases sat_unique e' e
      rw [hl] at ho; cases ho
    · obtain ⟨l', e', g, _⟩ := r1.vw i t z
      obtain ⟨o, ho, _⟩ := g.mb
      cases sat_unique e' e
      rw [hl] at ho; cases ho
  cases row.oa with
  | lst ha lv =>
    cases row.ob with
    | lst hb lw =>
      rename_i vs ws
      have r3 := r2.fixA ha row.fa na (own a row.na)
      have s3 : Same F2 (upd F2 a (.lst vs)) := Same.new row.fa _
      have fb3 : (upd F2 a (.lst vs)) b = none := by rw [upd_ne (Ne.symm row.ne)]; exact row.fb
      have r4 := r3.fixA hb fb3 nb (own b row.nb)
      have s4 : Same (upd F2 a (.lst vs)) (upd (upd F2 a (.lst vs)) b (.lst ws)) := Same.new fb3 _
      have hh : ∀ q o, H1 q = some o → Mb o → F1 q = none → (upd (upd F2 a (.lst vs)) b (.lst ws)) q = none := fun q o z mb n => by
        have h1 : q ≠ a := fun e => by have := row.na; rw [← e] at this; rw [show H1 q = none from this] at z; cases z
        have h2 : q ≠ b := fun e => by have := row.nb; rw [← e] at this; rw [show H1 q = none from this] at z; cases z
        rw [upd_ne h2, upd_ne h1]
        exact u.m q o z mb n
      refine c.on f1 (.ref p) _ H2 (.fz (.tup [.lst ts, .lst us])) τ1 ⟨(u.f.trans s3).trans s4, fun q o z nw _ => ⟨u.h q o nw z, fun mb n => hh q o z mb n⟩, fun _ t h => ⟨t, h⟩, u.w⟩ r4 ?_ trivial φ
      exact .tup (s4.tup (s3.tup row.sp)) (.cons (.lst (SqL.of (by rw [upd_ne row.ne, upd_same])) ((lv.same s3).same s4)) (.cons (.lst (SqL.of upd_same) ((lw.same s3).same s4)) .nil))
theorem e_borrow {K : PySem.W.Frag} (hK : K = B'.K) {vs : List V} {t2 : Tr} {i : Nat} {S : SpT} {E : XK} {Φ : TK} (rb : RowB B B' p a b vs ws ts us) (g : Gt τ k .wd) (g2 : Gt τ i (.fz t2)) (h : ∀ B2, S B2 [.fz (.tup [.lst ts, .lst us]), .fz t2] (fun kd => ∃ x, kd = .fz (.bl x) ∧ Φ (.fz (.bl x)) τ) fun _ => False) : EV B' (tCall (toSp K S) [] E (tCons (tVar k) (tCons (tVar i) tNil))) τ Φ := fun σ F H Q r c => by
  subst hK
  have e := r.wd k g.eq
  rw [rb.rt] at e
  obtain ⟨v2, e2, i2⟩ := r.fz i t2 g2.eq
  obtain ⟨ja, jb⟩ := (rb.j H).mp r.wj
  have fa := r.wf a ((rb.w a).mpr (.inl rfl))
  have fb := r.wf b ((rb.w b).mpr (.inr rfl))
  have s3 : Same F (upd F a (.lst vs)) := Same.new fa _
  have fb3 : (upd F a (.lst vs)) b = none := by rw [upd_ne (Ne.symm rb.ne)]; exact fb
  have s4 : Same (upd F a (.lst vs)) (upd (upd F a (.lst vs)) b (.lst ws)) := Same.new fb3 _
  have s5 := s3.trans s4
  have inc : Same (upd (upd F a (.lst vs)) b (.lst ws)) H := fun q o z => by
    by_cases hb : q = b
    · rw [hb, upd_same] at z; rw [hb]; exact jb.trans z
    · rw [upd_ne hb] at z
      by_cases ha : q = a
      · rw [ha, upd_same] at z; rw [ha]; exact ja.trans z
      · rw [upd_ne ha] at z; exact r.inc q o z
  have lv := rb.lv
  have lw := rb.lw
  have sp := rb.sp
  rw [← rb.k] at lv lw sp
  refine ⟨.ref p, e, v2, e2, bkL B'.K (upd (upd F a (.lst vs)) b (.lst ws)) H p [], _, _, _, rfl, rfl, ⟨inc, fun q hw => ?_, fun q hw => ?_, fun x hx => absurd hx List.not_mem_nil⟩, .cons (a := .fz _) ?_ (.cons (a := .fz _) (i2.same s5) .nil), h _, fun v F' H' kd u ok hk => ?_, fun _ _ _ _ z => z.elim⟩
  · obtain ⟨_, hx⟩ := hw; exact absurd hx List.not_mem_nil
  · obtain ⟨_, hx⟩ := hw; exact absurd hx List.not_mem_nil
  · exact .tup (s5.tup (r.up.f.tup sp)) (.cons (.lst (SqL.of (by show (upd (upd F a (.lst vs)) b (.lst ws)) a = _; rw [upd_ne rb.ne, upd_same])) ((lv.same r.up.f).same s5)) (.cons (.lst (SqL.of upd_same) ((lw.same r.up.f).same s5)) .nil))
  · obtain ⟨x, rfl, φ⟩ := hk
    have nw : ∀ q, ¬ (bkL B'.K (upd (upd F a (.lst vs)) b (.lst ws)) H p []).W q := fun q hw => by obtain ⟨_, hx⟩ := hw; exact absurd hx List.not_mem_nil
    have ev : v = .bl x := by
      cases (show Is B'.K F' v (.bl x) from ok)
      rfl
    subst ev
    have U : Up B' F H F H' := ⟨Same.refl _, fun q o _ z => u.h q o (nw q) z, s5.trans (u.f.trans u.i), fun _ _ _ _ z => z, u.w, fun _ _ z => z, fun _ => (rb.j H').mpr ⟨u.h a _ (nw a) ja, u.h b _ (nw b) jb⟩⟩
    exact c (.bl x) F H' (.fz (.bl x)) τ (Fr.up U) (r.go U) .bl trivial φ
theorem Rp.plain {H3 : Hp} (r : Rp B F H σ τ) (cl : ∀ i s, TAt τ i s → s = .no ∨ ∃ t, s = .fz t) (s : Same F H3) : Rp (bkL B.K F H3 p []) F H3 σ τ where
  up := Up.refl s
  wa := fun q hw => by obtain ⟨_, hx⟩ := hw; exact absurd hx List.not_mem_nil
  wf := fun q hw => by obtain ⟨_, hx⟩ := hw; exact absurd hx List.not_mem_nil
  wj := fun x hx => absurd hx List.not_mem_nil
  wd := fun i e => by rcases cl i _ e with z | ⟨_, z⟩ <;> cases z
  len := r.len
  fz := r.fz
  ow := fun i t e => by rcases cl i _ e with z | ⟨_, z⟩ <;> cases z
  vw := fun i t e => by rcases cl i _ e with z | ⟨_, z⟩ <;> cases z
  ap := fun i j t u l e => by rcases cl i _ e with z | ⟨_, z⟩ <;> cases z
  av := fun i j t u l e => by rcases cl i _ e with z | ⟨_, z⟩ <;> cases z
theorem d_change {K : PySem.W.Frag} (hK : K = B'.K) {vs : List V} {τ' : TSt} (rb : RowB B B' p a b vs ws ts us) (g : Gt τ k .wd) (st : Sto τ k .no τ') (cl : ∀ i s, TAt τ' i s → s = .no ∨ ∃ t, s = .fz t) (hl : ts.length ≤ 10000) (h : ∀ F3 H3, SVD (bkL B'.K F3 H3 p []) D s2 τ') : SVD B' D (tSeq (tDrop (tBM K "list" rAppend (tOp (rIxT K) (tVar k) (tC (.int 0))) (tCons (tC .non) tNil))) (tSeq (tDrop (tBM0 K "list" rClear (tOp (rIxT K) (tVar k) (tC (.int 1))))) s2)) τ := fun σ F H r => by
  subst hK
  have e := r.wd k g.eq
  rw [rb.rt] at e
  obtain ⟨ja, jb⟩ := (rb.j H).mp r.wj
  have fa := r.wf a ((rb.w a).mpr (.inl rfl))
  have fb := r.wf b ((rb.w b).mpr (.inr rfl))
  have sp := rb.sp
  rw [← rb.k] at sp
  have spF := r.up.f.tup sp
  have s1 : Same F (upd H a (.lst (vs ++ [.non]))) := fun q o z => by
    have : q ≠ a := fun e => by rw [e, fa] at z; cases z
    rw [upd_ne this]; exact r.inc q o z
  have jb2 : (upd H a (.lst (vs ++ [.non]))) b = some (.lst ws) := by rw [upd_ne (Ne.symm rb.ne)]; exact jb
  have s2' : Same F (upd (upd H a (.lst (vs ++ [.non]))) b (.lst [])) := fun q o z => by
    have : q ≠ b := fun e => by rw [e, fb] at z; cases z
    rw [upd_ne this]; exact s1 q o z
  refine ⟨.ref p, e, p, [.ref a, .ref b], 0, .ref a, rfl, rfl, r.inc.tup spF, rfl, .inl ⟨rfl, vs, SqL.of ja⟩, a, vs, .non, rfl, rfl, ja, by rw [rb.lv.length]; exact Nat.lt_of_le_of_lt hl (by decide), ?_⟩
  refine ⟨.ref p, e, p, [.ref a, .ref b], 1, .ref b, rfl, rfl, s1.tup spF, rfl, .inl ⟨rfl, ws, SqL.of jb2⟩, b, ws, rfl, rfl, jb2, ?_⟩
  have rf := r.forget (i := k)
  rw [st.eq] at rf
  exact h F _ σ F _ (rf.plain cl s2')
theorem law_open {K : PySem.W.Frag} {H : Hp} {a : Addr} {ns : List Int} {Q : VK} (hS : SqL K H a (ns.map V.int)) (q : ∀ H', Q (.bl true) H') (N : List Str) (t : TS) (h : ∀ D : Ends, (∀ H', D.rt (.bl true) H') → SVD (bkL K H H a []) D t (startT N.length [.fz (.lst (ns.map Tr.int))])) : t { nx := fun _ H' => Q .non H', rt := Q } (start N [.ref a]) H :=
  h _ q _ H H (rp_start (B := bkL K H H a []) ⟨Same.refl _, fun q hw => (by obtain ⟨_, hx⟩ := hw; exact absurd hx List.not_mem_nil), fun q hw => (by obtain ⟨_, hx⟩ := hw; exact absurd hx List.not_mem_nil), fun x hx => absurd hx List.not_mem_nil⟩ (.cons (a := .fz _) (.lst hS (IsL.ofInts ns)) .nil))
theorem d_true {rt : Kd → Prop} {s1 : TS} (hD : ∀ H', D.rt (.bl true) H') (h : SV B s1 τ ⟨fun _ => False, fun k => k = .fz (.bl true), fun _ => False, fun _ => False⟩) : SVD B D s1 τ := d_sv (rt := fun k => k = .fz (.bl true)) (fun v F' H' k _ ok e => by
  subst e
  cases (show Is B.K F' v (.bl true) from ok)
  exact hD H') h
end
end L2
namespace L2
open PySem PySem.Spec PyProof.Rows
section
variable {B B' : Bk} {τ τ' : TSt} {D : Ends} {s2 : TS} {p a b : Addr} {vs ws : List V} {ts us : List Tr} {k : Nat}
end
end L2
namespace L2
open PySem PySem.Spec PyProof.Rows
noncomputable def VwB (B : Bk) (ts : List Tr) : Prop := ∃ vs, IsL B.K B.F0 vs ts ∧ ∀ H, B.J H → H B.rt = some (.lst vs)
theorem VwB.now {B : Bk} {ts : List Tr} {F H : Hp} (h : VwB B ts) (s : Same B.F0 F) : VwB (B.now F H) ts := by
  obtain ⟨vs, a, b⟩ := h
  exact ⟨vs, a.same s, b⟩
section
variable {B : Bk} {τ τ' : TSt} {k : Nat}
abbrev Bk.at (B : Bk) (l : Addr) : Bk := { B with rt := l }
theorem ArL.base {B1 B2 : Bk} {F : Hp} (hK : B1.K = B2.K) (hr : B1.rt = B2.rt) : ∀ {vs : List V} {as : List Ar}, ArL B1 F vs as → ArL B2 F vs as
  | _, _, .nil => .nil
  | _, _, .cons (a := .fz t) h g => .cons (a := .fz t) (by have h : Is B1.K F _ t := h; rw [hK] at h; exact h) (ArL.base hK hr g)
  | _, _, .cons (a := .wd) h g => .cons (a := .wd) (by have h : _ = V.ref B1.rt := h; rw [hr] at h; exact h) (ArL.base hK hr g)
end
end L2
namespace L2
end L2
set_option Elab.async false
set_option linter.all false
set_option maxRecDepth 100000
set_option maxHeartbeats 4000000
namespace MyLaw
open PySem L2
noncomputable def top (i : Nat) : Stmt := PySem.Challenge.pw_markscale_k36_dots.main.body.getD i (.Pass ⟨0, 0, 0, 0⟩)
noncomputable abbrev s_is_whole : Stmt := top 4
theorem sc_is_whole : FnScope ["thing"] ["thing"] (defScope s_is_whole) := ⟨rfl, rfl, rfl, by decide +kernel, rfl, by decide +kernel, by decide +kernel⟩
noncomputable abbrev s_divisor_of : Stmt := top 5
theorem sc_divisor_of : FnScope ["one", "other", "high", "low", "rest"] ["one", "other"] (defScope s_divisor_of) := ⟨rfl, rfl, rfl, by decide +kernel, rfl, by decide +kernel, by decide +kernel⟩
noncomputable abbrev s_number : Stmt := top 6
theorem sc_number : FnScope ["top", "bottom", "divisor"] ["top", "bottom"] (defScope s_number) := ⟨rfl, rfl, rfl, by decide +kernel, rfl, by decide +kernel, by decide +kernel⟩
noncomputable abbrev s_plus : Stmt := top 7
theorem sc_plus : FnScope ["one", "other"] ["one", "other"] (defScope s_plus) := ⟨rfl, rfl, rfl, by decide +kernel, rfl, by decide +kernel, by decide +kernel⟩
noncomputable abbrev s_minus : Stmt := top 8
theorem sc_minus : FnScope ["one", "other"] ["one", "other"] (defScope s_minus) := ⟨rfl, rfl, rfl, by decide +kernel, rfl, by decide +kernel, by decide +kernel⟩
noncomputable abbrev s_times : Stmt := top 9
theorem sc_times : FnScope ["one", "other"] ["one", "other"] (defScope s_times) := ⟨rfl, rfl, rfl, by decide +kernel, rfl, by decide +kernel, by decide +kernel⟩
noncomputable abbrev s_over : Stmt := top 10
theorem sc_over : FnScope ["one", "other"] ["one", "other"] (defScope s_over) := ⟨rfl, rfl, rfl, by decide +kernel, rfl, by decide +kernel, by decide +kernel⟩
noncomputable abbrev s_under : Stmt := top 11
theorem sc_under : FnScope ["one", "other"] ["one", "other"] (defScope s_under) := ⟨rfl, rfl, rfl, by decide +kernel, rfl, by decide +kernel, by decide +kernel⟩
noncomputable abbrev s_rounded : Stmt := top 12
theorem sc_rounded : FnScope ["one"] ["one"] (defScope s_rounded) := ⟨rfl, rfl, rfl, by decide +kernel, rfl, by decide +kernel, by decide +kernel⟩
noncomputable abbrev s_straight_place : Stmt := top 14
theorem sc_straight_place : FnScope ["one", "lo", "hi", "begin", "end", "part"] ["one", "lo", "hi", "begin", "end"] (defScope s_straight_place) := ⟨rfl, rfl, rfl, by decide +kernel, rfl, by decide +kernel, by decide +kernel⟩
noncomputable abbrev s_is_within : Stmt := top 15
theorem sc_is_within : FnScope ["one", "lo", "hi"] ["one", "lo", "hi"] (defScope s_is_within) := ⟨rfl, rfl, rfl, by decide +kernel, rfl, by decide +kernel, by decide +kernel⟩
noncomputable abbrev s_power_of : Stmt := top 16
theorem sc_power_of : FnScope ["base", "exponent", "product", "turn"] ["base", "exponent"] (defScope s_power_of) := ⟨rfl, rfl, rfl, by decide +kernel, rfl, by decide +kernel, by decide +kernel⟩
noncomputable abbrev s_power_below : Stmt := top 17
theorem sc_power_below : FnScope ["base", "one", "top", "bottom", "exponent"] ["base", "one"] (defScope s_power_below) := ⟨rfl, rfl, rfl, by decide +kernel, rfl, by decide +kernel, by decide +kernel⟩
noncomputable abbrev s_place_on_straight : Stmt := top 18
theorem sc_place_on_straight : FnScope ["scale", "cell"] ["scale", "cell"] (defScope s_place_on_straight) := ⟨rfl, rfl, rfl, by decide +kernel, rfl, by decide +kernel, by decide +kernel⟩
noncomputable abbrev s_place_on_turns : Stmt := top 19
theorem sc_place_on_turns : FnScope ["scale", "cell", "base", "exponent", "turns", "power", "part"] ["scale", "cell"] (defScope s_place_on_turns) := ⟨rfl, rfl, rfl, by decide +kernel, rfl, by decide +kernel, by decide +kernel⟩
noncomputable abbrev s_place_on_broken : Stmt := top 20
theorem sc_place_on_broken : FnScope ["scale", "cell", "pieces", "piece"] ["scale", "cell"] (defScope s_place_on_broken) := ⟨rfl, rfl, rfl, by decide +kernel, rfl, by decide +kernel, by decide +kernel⟩
noncomputable abbrev s_place_on_days : Stmt := top 21
theorem sc_place_on_days : FnScope ["scale", "cell"] ["scale", "cell"] (defScope s_place_on_days) := ⟨rfl, rfl, rfl, by decide +kernel, rfl, by decide +kernel, by decide +kernel⟩
noncomputable abbrev s_place_on_order : Stmt := top 22
theorem sc_place_on_order : FnScope ["scale", "cell"] ["scale", "cell"] (defScope s_place_on_order) := ⟨rfl, rfl, rfl, by decide +kernel, rfl, by decide +kernel, by decide +kernel⟩
noncomputable abbrev s_place_on : Stmt := top 23
theorem sc_place_on : FnScope ["scale", "cell"] ["scale", "cell"] (defScope s_place_on) := ⟨rfl, rfl, rfl, by decide +kernel, rfl, by decide +kernel, by decide +kernel⟩
noncomputable abbrev s_put_x : Stmt := top 25
theorem sc_put_x : FnScope ["field", "place"] ["field", "place"] (defScope s_put_x) := ⟨rfl, rfl, rfl, by decide +kernel, rfl, by decide +kernel, by decide +kernel⟩
noncomputable abbrev s_put_y : Stmt := top 26
theorem sc_put_y : FnScope ["field", "place"] ["field", "place"] (defScope s_put_y) := ⟨rfl, rfl, rfl, by decide +kernel, rfl, by decide +kernel, by decide +kernel⟩
noncomputable abbrev s_place_of : Stmt := top 27
theorem sc_place_of : FnScope ["field", "item", "channel"] ["field", "item", "channel"] (defScope s_place_of) := ⟨rfl, rfl, rfl, by decide +kernel, rfl, by decide +kernel, by decide +kernel⟩
noncomputable abbrev s_x_of : Stmt := top 28
theorem sc_x_of : FnScope ["field", "item"] ["field", "item"] (defScope s_x_of) := ⟨rfl, rfl, rfl, by decide +kernel, rfl, by decide +kernel, by decide +kernel⟩
noncomputable abbrev s_y_of : Stmt := top 29
theorem sc_y_of : FnScope ["field", "item"] ["field", "item"] (defScope s_y_of) := ⟨rfl, rfl, rfl, by decide +kernel, rfl, by decide +kernel, by decide +kernel⟩
noncomputable abbrev s_loss_of : Stmt := top 30
theorem sc_loss_of : FnScope ["field", "item", "channels", "channel", "place"] ["field", "item", "channels"] (defScope s_loss_of) := ⟨rfl, rfl, rfl, by decide +kernel, rfl, by decide +kernel, by decide +kernel⟩
noncomputable abbrev s_parted : Stmt := top 31
theorem sc_parted : FnScope ["field", "items", "channels", "standing", "lost", "item", "loss"] ["field", "items", "channels"] (defScope s_parted) := ⟨rfl, rfl, rfl, by decide +kernel, rfl, by decide +kernel, by decide +kernel⟩
noncomputable abbrev s_dots : Stmt := top 33
theorem sc_dots : FnScope ["field", "side", "items", "both", "marks", "item", "shape"] ["field", "side", "items"] (defScope s_dots) := ⟨rfl, rfl, rfl, by decide +kernel, rfl, by decide +kernel, by decide +kernel⟩
noncomputable abbrev s_l_draws : Stmt := top 35
theorem sc_l_draws : FnScope ["_law_cell_here", "_law_tops", "_law_found", "_law_left", "_law_mixed", "_law_k"] ["_law_cell_here", "_law_tops"] (defScope s_l_draws) := ⟨rfl, rfl, rfl, by decide +kernel, rfl, by decide +kernel, by decide +kernel⟩
noncomputable abbrev s_l_whole : Stmt := top 36
theorem sc_l_whole : FnScope ["_law_found"] ["_law_found"] (defScope s_l_whole) := ⟨rfl, rfl, rfl, by decide +kernel, rfl, by decide +kernel, by decide +kernel⟩
noncomputable abbrev s_l_divisor : Stmt := top 37
theorem sc_l_divisor : FnScope ["_law_one", "_law_other"] ["_law_one", "_law_other"] (defScope s_l_divisor) := ⟨rfl, rfl, rfl, by decide +kernel, rfl, by decide +kernel, by decide +kernel⟩
noncomputable abbrev s_l_number : Stmt := top 38
theorem sc_l_number : FnScope ["_law_d", "_law_top", "_law_bottom", "_law_share"] ["_law_d"] (defScope s_l_number) := ⟨rfl, rfl, rfl, by decide +kernel, rfl, by decide +kernel, by decide +kernel⟩
noncomputable abbrev s_l_low : Stmt := top 39
theorem sc_l_low : FnScope ["_law_top", "_law_bottom", "_law_share"] ["_law_top", "_law_bottom"] (defScope s_l_low) := ⟨rfl, rfl, rfl, by decide +kernel, rfl, by decide +kernel, by decide +kernel⟩
noncomputable abbrev s_l_plus : Stmt := top 40
theorem sc_l_plus : FnScope ["_law_one", "_law_other"] ["_law_one", "_law_other"] (defScope s_l_plus) := ⟨rfl, rfl, rfl, by decide +kernel, rfl, by decide +kernel, by decide +kernel⟩
noncomputable abbrev s_l_part : Stmt := top 41
theorem sc_l_part : FnScope ["_law_lo", "_law_hi", "_law_f", "_law_g", "_law_span"] ["_law_lo", "_law_hi", "_law_f", "_law_g"] (defScope s_l_part) := ⟨rfl, rfl, rfl, by decide +kernel, rfl, by decide +kernel, by decide +kernel⟩
noncomputable abbrev s_l_words : Stmt := top 42
theorem sc_l_words : FnScope ["_law_many", "_law_d", "_law_some", "_law_names", "_law_k", "_law_at", "_law_pair"] ["_law_many", "_law_d"] (defScope s_l_words) := ⟨rfl, rfl, rfl, by decide +kernel, rfl, by decide +kernel, by decide +kernel⟩
noncomputable abbrev s_l_broken : Stmt := top 43
theorem sc_l_broken : FnScope ["_law_d", "_law_pieces", "_law_lo", "_law_at", "_law_k", "_law_e", "_law_hi"] ["_law_d"] (defScope s_l_broken) := ⟨rfl, rfl, rfl, by decide +kernel, rfl, by decide +kernel, by decide +kernel⟩
noncomputable abbrev s_l_scale : Stmt := top 44
theorem sc_l_scale : FnScope ["_law_kind", "_law_d", "_law_length", "_law_lo", "_law_span", "_law_low_here"] ["_law_kind", "_law_d"] (defScope s_l_scale) := ⟨rfl, rfl, rfl, by decide +kernel, rfl, by decide +kernel, by decide +kernel⟩
noncomputable abbrev s_l_power : Stmt := top 45
theorem sc_l_power : FnScope ["_law_base", "_law_many", "_law_found", "_law_k"] ["_law_base", "_law_many"] (defScope s_l_power) := ⟨rfl, rfl, rfl, by decide +kernel, rfl, by decide +kernel, by decide +kernel⟩
noncomputable abbrev s_l_turn_cell : Stmt := top 46
theorem sc_l_turn_cell : FnScope ["_law_scale_here", "_law_e", "_law_f", "_law_g", "_law_base", "_law_at", "_law_cap", "_law_top"] ["_law_scale_here", "_law_e", "_law_f", "_law_g"] (defScope s_l_turn_cell) := ⟨rfl, rfl, rfl, by decide +kernel, rfl, by decide +kernel, by decide +kernel⟩
noncomputable abbrev s_l_cell : Stmt := top 47
theorem sc_l_cell : FnScope ["_law_scale_here", "_law_e", "_law_g", "_law_f", "_law_pieces", "_law_at"] ["_law_scale_here", "_law_e"] (defScope s_l_cell) := ⟨rfl, rfl, rfl, by decide +kernel, rfl, by decide +kernel, by decide +kernel⟩
noncomputable abbrev s_l_between : Stmt := top 48
theorem sc_l_between : FnScope ["_law_lo", "_law_hi", "_law_cell_here", "_law_start", "_law_stop", "_law_m", "_law_up"] ["_law_lo", "_law_hi", "_law_cell_here", "_law_start", "_law_stop"] (defScope s_l_between) := ⟨rfl, rfl, rfl, by decide +kernel, rfl, by decide +kernel, by decide +kernel⟩
noncomputable abbrev s_l_within : Stmt := top 49
theorem sc_l_within : FnScope ["_law_lo", "_law_hi", "_law_cell_here"] ["_law_lo", "_law_hi", "_law_cell_here"] (defScope s_l_within) := ⟨rfl, rfl, rfl, by decide +kernel, rfl, by decide +kernel, by decide +kernel⟩
noncomputable abbrev s_l_turn : Stmt := top 50
theorem sc_l_turn : FnScope ["_law_scale_here", "_law_cell_here", "_law_p", "_law_q", "_law_k", "_law_name", "_law_base", "_law_low_here", "_law_many", "_law_length", "_law_top", "_law_bottom"] ["_law_scale_here", "_law_cell_here"] (defScope s_l_turn) := ⟨rfl, rfl, rfl, by decide +kernel, rfl, by decide +kernel, by decide +kernel⟩
noncomputable abbrev s_l_place : Stmt := top 51
theorem sc_l_place : FnScope ["_law_scale_here", "_law_cell_here", "_law_pieces", "_law_lo", "_law_hi", "_law_start", "_law_stop"] ["_law_scale_here", "_law_cell_here"] (defScope s_l_place) := ⟨rfl, rfl, rfl, by decide +kernel, rfl, by decide +kernel, by decide +kernel⟩
noncomputable abbrev s_l_rounded : Stmt := top 52
theorem sc_l_rounded : FnScope ["_law_place_here"] ["_law_place_here"] (defScope s_l_rounded) := ⟨rfl, rfl, rfl, by decide +kernel, rfl, by decide +kernel, by decide +kernel⟩
noncomputable abbrev s_l_field : Stmt := top 53
theorem sc_l_field : FnScope ["_law_cell_here", "_law_one", "_law_d", "_law_x", "_law_y"] ["_law_cell_here"] (defScope s_l_field) := ⟨rfl, rfl, rfl, by decide +kernel, rfl, by decide +kernel, by decide +kernel⟩
noncomputable abbrev s_l_items : Stmt := top 54
theorem sc_l_items : FnScope ["_law_cells", "_law_field_here", "_law_items_here", "_law_own", "_law_cell_here", "_law_d", "_law_rank", "_law_colour", "_law_x", "_law_y", "_law_other"] ["_law_cells", "_law_field_here"] (defScope s_l_items) := ⟨rfl, rfl, rfl, by decide +kernel, rfl, by decide +kernel, by decide +kernel⟩
noncomputable abbrev s_l_same : Stmt := top 55
theorem sc_l_same : FnScope ["_law_found", "_law_due_here"] ["_law_found", "_law_due_here"] (defScope s_l_same) := ⟨rfl, rfl, rfl, by decide +kernel, rfl, by decide +kernel, by decide +kernel⟩
noncomputable abbrev s_l_due : Stmt := top 56
theorem sc_l_due : FnScope ["_law_field_here", "_law_side", "_law_items_here", "_law_marks", "_law_lost", "_law_own", "_law_x", "_law_y", "_law_other", "_law_rank", "_law_colour", "_law_size", "_law_along", "_law_up", "_law_spot"] ["_law_field_here", "_law_side", "_law_items_here"] (defScope s_l_due) := ⟨rfl, rfl, rfl, by decide +kernel, rfl, by decide +kernel, by decide +kernel⟩
noncomputable abbrev s_law : Stmt := top 57
theorem sc_law : FnScope ["_law_script", "_law_first", "_law_field_here", "_law_items_here", "_law_side", "_law_due_here", "_law_handed", "_law_found", "_law_other"] ["_law_script"] (defScope s_law) := ⟨rfl, rfl, rfl, by decide +kernel, rfl, by decide +kernel, by decide +kernel⟩
structure Adr where
  (f_is_whole : Addr) (d_is_whole : FuncData)
  (f_divisor_of : Addr) (d_divisor_of : FuncData)
  (f_number : Addr) (d_number : FuncData)
  (f_plus : Addr) (d_plus : FuncData)
  (f_minus : Addr) (d_minus : FuncData)
  (f_times : Addr) (d_times : FuncData)
  (f_over : Addr) (d_over : FuncData)
  (f_under : Addr) (d_under : FuncData)
  (f_rounded : Addr) (d_rounded : FuncData)
  (f_straight_place : Addr) (d_straight_place : FuncData)
  (f_is_within : Addr) (d_is_within : FuncData)
  (f_power_of : Addr) (d_power_of : FuncData)
  (f_power_below : Addr) (d_power_below : FuncData)
  (f_place_on_straight : Addr) (d_place_on_straight : FuncData)
  (f_place_on_turns : Addr) (d_place_on_turns : FuncData)
  (f_place_on_broken : Addr) (d_place_on_broken : FuncData)
  (f_place_on_days : Addr) (d_place_on_days : FuncData)
  (f_place_on_order : Addr) (d_place_on_order : FuncData)
  (f_place_on : Addr) (d_place_on : FuncData)
  (f_put_x : Addr) (d_put_x : FuncData)
  (f_put_y : Addr) (d_put_y : FuncData)
  (f_place_of : Addr) (d_place_of : FuncData)
  (f_x_of : Addr) (d_x_of : FuncData)
  (f_y_of : Addr) (d_y_of : FuncData)
  (f_loss_of : Addr) (d_loss_of : FuncData)
  (f_parted : Addr) (d_parted : FuncData)
  (f_dots : Addr) (d_dots : FuncData)
  (f_l_draws : Addr) (d_l_draws : FuncData)
  (f_l_whole : Addr) (d_l_whole : FuncData)
  (f_l_divisor : Addr) (d_l_divisor : FuncData)
  (f_l_number : Addr) (d_l_number : FuncData)
  (f_l_low : Addr) (d_l_low : FuncData)
  (f_l_plus : Addr) (d_l_plus : FuncData)
  (f_l_part : Addr) (d_l_part : FuncData)
  (f_l_words : Addr) (d_l_words : FuncData)
  (f_l_broken : Addr) (d_l_broken : FuncData)
  (f_l_scale : Addr) (d_l_scale : FuncData)
  (f_l_power : Addr) (d_l_power : FuncData)
  (f_l_turn_cell : Addr) (d_l_turn_cell : FuncData)
  (f_l_cell : Addr) (d_l_cell : FuncData)
  (f_l_between : Addr) (d_l_between : FuncData)
  (f_l_within : Addr) (d_l_within : FuncData)
  (f_l_turn : Addr) (d_l_turn : FuncData)
  (f_l_place : Addr) (d_l_place : FuncData)
  (f_l_rounded : Addr) (d_l_rounded : FuncData)
  (f_l_field : Addr) (d_l_field : FuncData)
  (f_l_items : Addr) (d_l_items : FuncData)
  (f_l_same : Addr) (d_l_same : FuncData)
  (f_l_due : Addr) (d_l_due : FuncData)
  (f_law : Addr) (d_law : FuncData)
  (c_NoNumber : Addr)
structure Txt (K : PySem.W.Frag) (mg : Str → Option Value) (t : Adr) : Prop where
  F_is_whole : Fun K "is_whole" "is_whole" s_is_whole t.f_is_whole t.d_is_whole
  m_is_whole : mg "is_whole" = some (.ref t.f_is_whole)
  k_is_whole : PySem.W.keepIn K (.ref t.f_is_whole) = true
  b_is_whole : Binds K t.d_is_whole ["thing"] []
  F_divisor_of : Fun K "divisor_of" "divisor_of" s_divisor_of t.f_divisor_of t.d_divisor_of
  m_divisor_of : mg "divisor_of" = some (.ref t.f_divisor_of)
  k_divisor_of : PySem.W.keepIn K (.ref t.f_divisor_of) = true
  b_divisor_of : Binds K t.d_divisor_of ["one", "other"] []
  F_number : FunD K "number" "number" s_number t.f_number t.d_number
  m_number : mg "number" = some (.ref t.f_number)
  k_number : PySem.W.keepIn K (.ref t.f_number) = true
  b_number : Binds K t.d_number ["top", "bottom"] []
  b_number1 : ∃ ds, Vals [V.int 1] ds ∧ Binds K t.d_number ["top", "bottom"] ds
  F_plus : Fun K "plus" "plus" s_plus t.f_plus t.d_plus
  m_plus : mg "plus" = some (.ref t.f_plus)
  k_plus : PySem.W.keepIn K (.ref t.f_plus) = true
  b_plus : Binds K t.d_plus ["one", "other"] []
  F_minus : Fun K "minus" "minus" s_minus t.f_minus t.d_minus
  m_minus : mg "minus" = some (.ref t.f_minus)
  k_minus : PySem.W.keepIn K (.ref t.f_minus) = true
  b_minus : Binds K t.d_minus ["one", "other"] []
  F_times : Fun K "times" "times" s_times t.f_times t.d_times
  m_times : mg "times" = some (.ref t.f_times)
  k_times : PySem.W.keepIn K (.ref t.f_times) = true
  b_times : Binds K t.d_times ["one", "other"] []
  F_over : Fun K "over" "over" s_over t.f_over t.d_over
  m_over : mg "over" = some (.ref t.f_over)
  k_over : PySem.W.keepIn K (.ref t.f_over) = true
  b_over : Binds K t.d_over ["one", "other"] []
  F_under : Fun K "under" "under" s_under t.f_under t.d_under
  m_under : mg "under" = some (.ref t.f_under)
  k_under : PySem.W.keepIn K (.ref t.f_under) = true
  b_under : Binds K t.d_under ["one", "other"] []
  F_rounded : Fun K "rounded" "rounded" s_rounded t.f_rounded t.d_rounded
  m_rounded : mg "rounded" = some (.ref t.f_rounded)
  k_rounded : PySem.W.keepIn K (.ref t.f_rounded) = true
  b_rounded : Binds K t.d_rounded ["one"] []
  F_straight_place : Fun K "straight_place" "straight_place" s_straight_place t.f_straight_place t.d_straight_place
  m_straight_place : mg "straight_place" = some (.ref t.f_straight_place)
  k_straight_place : PySem.W.keepIn K (.ref t.f_straight_place) = true
  b_straight_place : Binds K t.d_straight_place ["one", "lo", "hi", "begin", "end"] []
  F_is_within : Fun K "is_within" "is_within" s_is_within t.f_is_within t.d_is_within
  m_is_within : mg "is_within" = some (.ref t.f_is_within)
  k_is_within : PySem.W.keepIn K (.ref t.f_is_within) = true
  b_is_within : Binds K t.d_is_within ["one", "lo", "hi"] []
  F_power_of : Fun K "power_of" "power_of" s_power_of t.f_power_of t.d_power_of
  m_power_of : mg "power_of" = some (.ref t.f_power_of)
  k_power_of : PySem.W.keepIn K (.ref t.f_power_of) = true
  b_power_of : Binds K t.d_power_of ["base", "exponent"] []
  F_power_below : Fun K "power_below" "power_below" s_power_below t.f_power_below t.d_power_below
  m_power_below : mg "power_below" = some (.ref t.f_power_below)
  k_power_below : PySem.W.keepIn K (.ref t.f_power_below) = true
  b_power_below : Binds K t.d_power_below ["base", "one"] []
  F_place_on_straight : Fun K "place_on_straight" "place_on_straight" s_place_on_straight t.f_place_on_straight t.d_place_on_straight
  m_place_on_straight : mg "place_on_straight" = some (.ref t.f_place_on_straight)
  k_place_on_straight : PySem.W.keepIn K (.ref t.f_place_on_straight) = true
  b_place_on_straight : Binds K t.d_place_on_straight ["scale", "cell"] []
  F_place_on_turns : Fun K "place_on_turns" "place_on_turns" s_place_on_turns t.f_place_on_turns t.d_place_on_turns
  m_place_on_turns : mg "place_on_turns" = some (.ref t.f_place_on_turns)
  k_place_on_turns : PySem.W.keepIn K (.ref t.f_place_on_turns) = true
  b_place_on_turns : Binds K t.d_place_on_turns ["scale", "cell"] []
  F_place_on_broken : Fun K "place_on_broken" "place_on_broken" s_place_on_broken t.f_place_on_broken t.d_place_on_broken
  m_place_on_broken : mg "place_on_broken" = some (.ref t.f_place_on_broken)
  k_place_on_broken : PySem.W.keepIn K (.ref t.f_place_on_broken) = true
  b_place_on_broken : Binds K t.d_place_on_broken ["scale", "cell"] []
  F_place_on_days : Fun K "place_on_days" "place_on_days" s_place_on_days t.f_place_on_days t.d_place_on_days
  m_place_on_days : mg "place_on_days" = some (.ref t.f_place_on_days)
  k_place_on_days : PySem.W.keepIn K (.ref t.f_place_on_days) = true
  b_place_on_days : Binds K t.d_place_on_days ["scale", "cell"] []
  F_place_on_order : Fun K "place_on_order" "place_on_order" s_place_on_order t.f_place_on_order t.d_place_on_order
  m_place_on_order : mg "place_on_order" = some (.ref t.f_place_on_order)
  k_place_on_order : PySem.W.keepIn K (.ref t.f_place_on_order) = true
  b_place_on_order : Binds K t.d_place_on_order ["scale", "cell"] []
  F_place_on : Fun K "place_on" "place_on" s_place_on t.f_place_on t.d_place_on
  m_place_on : mg "place_on" = some (.ref t.f_place_on)
  k_place_on : PySem.W.keepIn K (.ref t.f_place_on) = true
  b_place_on : Binds K t.d_place_on ["scale", "cell"] []
  F_put_x : Fun K "put_x" "put_x" s_put_x t.f_put_x t.d_put_x
  m_put_x : mg "put_x" = some (.ref t.f_put_x)
  k_put_x : PySem.W.keepIn K (.ref t.f_put_x) = true
  b_put_x : Binds K t.d_put_x ["field", "place"] []
  F_put_y : Fun K "put_y" "put_y" s_put_y t.f_put_y t.d_put_y
  m_put_y : mg "put_y" = some (.ref t.f_put_y)
  k_put_y : PySem.W.keepIn K (.ref t.f_put_y) = true
  b_put_y : Binds K t.d_put_y ["field", "place"] []
  F_place_of : Fun K "place_of" "place_of" s_place_of t.f_place_of t.d_place_of
  m_place_of : mg "place_of" = some (.ref t.f_place_of)
  k_place_of : PySem.W.keepIn K (.ref t.f_place_of) = true
  b_place_of : Binds K t.d_place_of ["field", "item", "channel"] []
  F_x_of : Fun K "x_of" "x_of" s_x_of t.f_x_of t.d_x_of
  m_x_of : mg "x_of" = some (.ref t.f_x_of)
  k_x_of : PySem.W.keepIn K (.ref t.f_x_of) = true
  b_x_of : Binds K t.d_x_of ["field", "item"] []
  F_y_of : Fun K "y_of" "y_of" s_y_of t.f_y_of t.d_y_of
  m_y_of : mg "y_of" = some (.ref t.f_y_of)
  k_y_of : PySem.W.keepIn K (.ref t.f_y_of) = true
  b_y_of : Binds K t.d_y_of ["field", "item"] []
  F_loss_of : Fun K "loss_of" "loss_of" s_loss_of t.f_loss_of t.d_loss_of
  m_loss_of : mg "loss_of" = some (.ref t.f_loss_of)
  k_loss_of : PySem.W.keepIn K (.ref t.f_loss_of) = true
  b_loss_of : Binds K t.d_loss_of ["field", "item", "channels"] []
  F_parted : Fun K "parted" "parted" s_parted t.f_parted t.d_parted
  m_parted : mg "parted" = some (.ref t.f_parted)
  k_parted : PySem.W.keepIn K (.ref t.f_parted) = true
  b_parted : Binds K t.d_parted ["field", "items", "channels"] []
  F_dots : Fun K "dots" "dots" s_dots t.f_dots t.d_dots
  m_dots : mg "dots" = some (.ref t.f_dots)
  k_dots : PySem.W.keepIn K (.ref t.f_dots) = true
  b_dots : Binds K t.d_dots ["field", "side", "items"] []
  F_l_draws : Fun K "_law_draws" "_law_draws" s_l_draws t.f_l_draws t.d_l_draws
  m_l_draws : mg "_law_draws" = some (.ref t.f_l_draws)
  k_l_draws : PySem.W.keepIn K (.ref t.f_l_draws) = true
  b_l_draws : Binds K t.d_l_draws ["_law_cell_here", "_law_tops"] []
  F_l_whole : Fun K "_law_whole" "_law_whole" s_l_whole t.f_l_whole t.d_l_whole
  m_l_whole : mg "_law_whole" = some (.ref t.f_l_whole)
  k_l_whole : PySem.W.keepIn K (.ref t.f_l_whole) = true
  b_l_whole : Binds K t.d_l_whole ["_law_found"] []
  F_l_divisor : Fun K "_law_divisor" "_law_divisor" s_l_divisor t.f_l_divisor t.d_l_divisor
  m_l_divisor : mg "_law_divisor" = some (.ref t.f_l_divisor)
  k_l_divisor : PySem.W.keepIn K (.ref t.f_l_divisor) = true
  b_l_divisor : Binds K t.d_l_divisor ["_law_one", "_law_other"] []
  F_l_number : Fun K "_law_number" "_law_number" s_l_number t.f_l_number t.d_l_number
  m_l_number : mg "_law_number" = some (.ref t.f_l_number)
  k_l_number : PySem.W.keepIn K (.ref t.f_l_number) = true
  b_l_number : Binds K t.d_l_number ["_law_d"] []
  F_l_low : Fun K "_law_low" "_law_low" s_l_low t.f_l_low t.d_l_low
  m_l_low : mg "_law_low" = some (.ref t.f_l_low)
  k_l_low : PySem.W.keepIn K (.ref t.f_l_low) = true
  b_l_low : Binds K t.d_l_low ["_law_top", "_law_bottom"] []
  F_l_plus : Fun K "_law_plus" "_law_plus" s_l_plus t.f_l_plus t.d_l_plus
  m_l_plus : mg "_law_plus" = some (.ref t.f_l_plus)
  k_l_plus : PySem.W.keepIn K (.ref t.f_l_plus) = true
  b_l_plus : Binds K t.d_l_plus ["_law_one", "_law_other"] []
  F_l_part : Fun K "_law_part" "_law_part" s_l_part t.f_l_part t.d_l_part
  m_l_part : mg "_law_part" = some (.ref t.f_l_part)
  k_l_part : PySem.W.keepIn K (.ref t.f_l_part) = true
  b_l_part : Binds K t.d_l_part ["_law_lo", "_law_hi", "_law_f", "_law_g"] []
  F_l_words : Fun K "_law_words" "_law_words" s_l_words t.f_l_words t.d_l_words
  m_l_words : mg "_law_words" = some (.ref t.f_l_words)
  k_l_words : PySem.W.keepIn K (.ref t.f_l_words) = true
  b_l_words : Binds K t.d_l_words ["_law_many", "_law_d"] []
  F_l_broken : Fun K "_law_broken" "_law_broken" s_l_broken t.f_l_broken t.d_l_broken
  m_l_broken : mg "_law_broken" = some (.ref t.f_l_broken)
  k_l_broken : PySem.W.keepIn K (.ref t.f_l_broken) = true
  b_l_broken : Binds K t.d_l_broken ["_law_d"] []
  F_l_scale : Fun K "_law_scale" "_law_scale" s_l_scale t.f_l_scale t.d_l_scale
  m_l_scale : mg "_law_scale" = some (.ref t.f_l_scale)
  k_l_scale : PySem.W.keepIn K (.ref t.f_l_scale) = true
  b_l_scale : Binds K t.d_l_scale ["_law_kind", "_law_d"] []
  F_l_power : Fun K "_law_power" "_law_power" s_l_power t.f_l_power t.d_l_power
  m_l_power : mg "_law_power" = some (.ref t.f_l_power)
  k_l_power : PySem.W.keepIn K (.ref t.f_l_power) = true
  b_l_power : Binds K t.d_l_power ["_law_base", "_law_many"] []
  F_l_turn_cell : Fun K "_law_turn_cell" "_law_turn_cell" s_l_turn_cell t.f_l_turn_cell t.d_l_turn_cell
  m_l_turn_cell : mg "_law_turn_cell" = some (.ref t.f_l_turn_cell)
  k_l_turn_cell : PySem.W.keepIn K (.ref t.f_l_turn_cell) = true
  b_l_turn_cell : Binds K t.d_l_turn_cell ["_law_scale_here", "_law_e", "_law_f", "_law_g"] []
  F_l_cell : Fun K "_law_cell" "_law_cell" s_l_cell t.f_l_cell t.d_l_cell
  m_l_cell : mg "_law_cell" = some (.ref t.f_l_cell)
  k_l_cell : PySem.W.keepIn K (.ref t.f_l_cell) = true
  b_l_cell : Binds K t.d_l_cell ["_law_scale_here", "_law_e"] []
  F_l_between : Fun K "_law_between" "_law_between" s_l_between t.f_l_between t.d_l_between
  m_l_between : mg "_law_between" = some (.ref t.f_l_between)
  k_l_between : PySem.W.keepIn K (.ref t.f_l_between) = true
  b_l_between : Binds K t.d_l_between ["_law_lo", "_law_hi", "_law_cell_here", "_law_start", "_law_stop"] []
  F_l_within : Fun K "_law_within" "_law_within" s_l_within t.f_l_within t.d_l_within
  m_l_within : mg "_law_within" = some (.ref t.f_l_within)
  k_l_within : PySem.W.keepIn K (.ref t.f_l_within) = true
  b_l_within : Binds K t.d_l_within ["_law_lo", "_law_hi", "_law_cell_here"] []
  F_l_turn : Fun K "_law_turn" "_law_turn" s_l_turn t.f_l_turn t.d_l_turn
  m_l_turn : mg "_law_turn" = some (.ref t.f_l_turn)
  k_l_turn : PySem.W.keepIn K (.ref t.f_l_turn) = true
  b_l_turn : Binds K t.d_l_turn ["_law_scale_here", "_law_cell_here"] []
  F_l_place : Fun K "_law_place" "_law_place" s_l_place t.f_l_place t.d_l_place
  m_l_place : mg "_law_place" = some (.ref t.f_l_place)
  k_l_place : PySem.W.keepIn K (.ref t.f_l_place) = true
  b_l_place : Binds K t.d_l_place ["_law_scale_here", "_law_cell_here"] []
  F_l_rounded : Fun K "_law_rounded" "_law_rounded" s_l_rounded t.f_l_rounded t.d_l_rounded
  m_l_rounded : mg "_law_rounded" = some (.ref t.f_l_rounded)
  k_l_rounded : PySem.W.keepIn K (.ref t.f_l_rounded) = true
  b_l_rounded : Binds K t.d_l_rounded ["_law_place_here"] []
  F_l_field : Fun K "_law_field" "_law_field" s_l_field t.f_l_field t.d_l_field
  m_l_field : mg "_law_field" = some (.ref t.f_l_field)
  k_l_field : PySem.W.keepIn K (.ref t.f_l_field) = true
  b_l_field : Binds K t.d_l_field ["_law_cell_here"] []
  F_l_items : Fun K "_law_items" "_law_items" s_l_items t.f_l_items t.d_l_items
  m_l_items : mg "_law_items" = some (.ref t.f_l_items)
  k_l_items : PySem.W.keepIn K (.ref t.f_l_items) = true
  b_l_items : Binds K t.d_l_items ["_law_cells", "_law_field_here"] []
  F_l_same : Fun K "_law_same" "_law_same" s_l_same t.f_l_same t.d_l_same
  m_l_same : mg "_law_same" = some (.ref t.f_l_same)
  k_l_same : PySem.W.keepIn K (.ref t.f_l_same) = true
  b_l_same : Binds K t.d_l_same ["_law_found", "_law_due_here"] []
  F_l_due : Fun K "_law_due" "_law_due" s_l_due t.f_l_due t.d_l_due
  m_l_due : mg "_law_due" = some (.ref t.f_l_due)
  k_l_due : PySem.W.keepIn K (.ref t.f_l_due) = true
  b_l_due : Binds K t.d_l_due ["_law_field_here", "_law_side", "_law_items_here"] []
  F_law : Fun K "law" "law" s_law t.f_law t.d_law
  m_law : mg "law" = some (.ref t.f_law)
  k_law : PySem.W.keepIn K (.ref t.f_law) = true
  b_law : Binds K t.d_law ["_law_script"] []
  m_NoNumber : mg "NoNumber" = some (.ref t.c_NoNumber)
  n_NoNumber : PySem.W.nsIn K mainGlobals "NoNumber" = some (some (.ref t.c_NoNumber))
  x_NoNumber : PySem.W.excIn K t.c_NoNumber bmVE "ValueError.__new__" = true
  e_NoNumber : PySem.W.exmOne K (.ref t.c_NoNumber) (.ref t.c_NoNumber) = some true
  z_isinstance : mg "isinstance" = none
  z_int : mg "int" = none
  z_bool : mg "bool" = none
  z_tuple : mg "tuple" = none
  z_str : mg "str" = none
  z_list : mg "list" = none
  z_abs : mg "abs" = none
  z_len : mg "len" = none
  z_range : mg "range" = none
  z_max : mg "max" = none
  z_min : mg "min" = none
  z_zip : mg "zip" = none
  z_all : mg "all" = none
theorem at0 {α : Type} (x y : α) : atI [x, y] 0 = some x := rfl
theorem at1 {α : Type} (x y : α) : atI [x, y] 1 = some y := rfl
theorem iteBT {b : Bool} {A B : Prop} (hb : b = true) (h : A) : if b = true then A else B := by
  rw [if_pos hb]; exact h
theorem iteDF {c A B : Prop} [Decidable c] (hc : ¬ c) (h : B) : if decide c = true then A else B := by
  rw [decide_eq_false hc]; exact iteF h
theorem iteDT {c A B : Prop} [Decidable c] (hc : c) (h : A) : if decide c = true then A else B := by
  rw [decide_eq_true hc]; exact iteT h
theorem iteNF {c A B : Prop} [Decidable c] (hc : ¬ c) (h : A) : if (!decide c) = true then A else B := by
  rw [decide_eq_false hc]; exact iteT h
theorem midB {n : Int} (h1 : 0 ≤ n) (h2 : n < 1152921504606846976) : Mid n := (show My.Bd 60 n by unfold My.Bd; omega).mono (by decide)
noncomputable def sp_whole (K : PySem.W.Frag) : Sp := fun vs H Q _ => ∃ x g, vs = [x] ∧ tgIs K H x g ∧ Q (.bl (match g with | .int => true | _ => false)) H
noncomputable def sp_div : Sp := fun vs H Q _ => ∃ a b : Int, vs = [.int a, .int b] ∧ 0 ≤ b ∧ Q (.int ((Int.gcd a b : Nat) : Int)) H
noncomputable def sp_law (K : PySem.W.Frag) : Sp := fun vs H Q _ => ∃ (a : Addr) (ns : List Int), vs = [.ref a] ∧ SqL K H a (ns.map V.int) ∧ ns.length ≤ 63 ∧ ∀ H', Q (.bl true) H'
noncomputable def sp_gcd : Sp := fun vs H Q _ => ∃ a b : Int, vs = [.int a, .int b] ∧ Q (.int ((Int.gcd a b : Nat) : Int)) H
structure Pr (K : PySem.W.Frag) (H : Hp) (p : Addr) (a b : Int) (n : Nat) : Prop where
  s : SqT K H p [.int a, .int b]
  pos : 0 < b
  ba : My.Bd n a
  bb : My.Bd n b
theorem Pr.ne {K : PySem.W.Frag} {H : Hp} {p : Addr} {a b : Int} {n : Nat} (h : Pr K H p a b n) : b ≠ 0 := Int.ne_of_gt h.pos
theorem Pr.keep {K : PySem.W.Frag} {H H' : Hp} {p : Addr} {a b : Int} {n : Nat} (h : Pr K H p a b n) (e : Same H H') : Pr K H' p a b n := ⟨e.tup h.s, h.pos, h.ba, h.bb⟩
theorem Pr.up {K : PySem.W.Frag} {H : Hp} {p : Addr} {a b : Int} {n m : Nat} (h : Pr K H p a b n) (e : n ≤ m) : Pr K H p a b m := ⟨h.s, h.pos, h.ba.mono e, h.bb.mono e⟩
noncomputable def NewQ (K : PySem.W.Frag) (H : Hp) (Q : VK) (n : Nat) (v : Rat) : Prop := ∀ (p : Addr) (H' : Hp) (x y : Int), Same H H' → Pr K H' p x y n → Int.gcd x y = 1 → My.qv x y = v → Q (.ref p) H'
noncomputable def sp_number (K : PySem.W.Frag) : Sp := fun vs H Q _ => ∃ (t m : Int) (n : Nat), vs = [.int t, .int m] ∧ My.Bd n t ∧ My.Bd n m ∧ n ≤ 3900 ∧ m ≠ 0 ∧ NewQ K H Q n (My.qv t m)
noncomputable def sp_two (K : PySem.W.Frag) (f : Rat → Rat → Rat) (ok : Int → Prop) : Sp := fun vs H Q _ => ∃ (p r : Addr) (a b c d : Int) (n1 n2 : Nat), vs = [.ref p, .ref r] ∧ Pr K H p a b n1 ∧ Pr K H r c d n2 ∧ n1 + n2 + 1 ≤ 3900 ∧ ok c ∧ NewQ K H Q (n1 + n2 + 1) (f (My.qv a b) (My.qv c d))
noncomputable def sp_cmp (K : PySem.W.Frag) (f : Int → Int → Int → Int → V) : Sp := fun vs H Q _ => ∃ (p r : Addr) (a b c d : Int) (n1 n2 : Nat), vs = [.ref p, .ref r] ∧ Pr K H p a b n1 ∧ Pr K H r c d n2 ∧ n1 + n2 ≤ 3900 ∧ Q (f a b c d) H
section
variable {P : Program} {w : World} {K : PySem.W.Frag} {mg : Str → Option Value} {base : Heap} {t : Adr}
theorem ok_is_whole (T : Txt K mg t) : FnOk P w K mg base CX0 1 t.f_is_whole t.d_is_whole ["thing"] (sp_whole K) := by
  refine T.F_is_whole.ok sc_is_whole (fun vs H Q E h => ?_) (fun cdv A outer s H vs Q E hr h => ?_)
  · obtain ⟨x, g, rfl, _⟩ := h
    rfl
  obtain ⟨x, g, rfl, hg, q⟩ := h
  refine ⟨_, (pso (ps_ret (pe_and (pe_isi isi_int rfl rfl T.z_isinstance T.z_int bt_int (pv 0)) (pe_one (pe_not (pe_isi isi_bool rfl rfl T.z_isinstance T.z_bool bt_bool (pv 0))))))), ?_⟩
  refine ⟨_, rfl, _, g, rfl, hg, _, rfl, ?_⟩
  cases g with
  | int => exact iteT ⟨_, rfl, _, .int, rfl, hg, _, rfl, q⟩
  | bl => exact iteT ⟨_, rfl, _, .bl, rfl, hg, _, rfl, q⟩
  | non => exact iteF q
  | str => exact iteF q
  | tup => exact iteF q
  | lst => exact iteF q
  | dic => exact iteF q
theorem ok_l_divisor (T : Txt K mg t) : FnOk P w K mg base CX0 1 t.f_l_divisor t.d_l_divisor ["_law_one", "_law_other"] sp_div := by
  refine T.F_l_divisor.ok sc_l_divisor (fun vs H Q E h => ?_) (fun cdv A outer s H vs Q E hr h => ?_)
  · obtain ⟨a, b, rfl, _⟩ := h
    rfl
  obtain ⟨a, b, rfl, hb, q⟩ := h
  refine ⟨_, (psc (ps_while PassesOwn.never (pt_cmpR op_ne (pv 1) pei (nomark _)) (pso (ps_par (i := 0) (j := 1) rfl sc_l_divisor.nd rfl rfl (by decide) rfl rfl (pcn (pv 1) (pcn (pe_op op_mod (pv 0) (pv 1)) pnl)) rfl)))
  (pso (ps_ret (pe_callB call_abs rfl T.z_abs bt_abs (pcn (pv 0) pnl))))), ?_⟩
  refine while_by (fun σ H' => ∃ x y : Int, σ = [some (.int x), some (.int y)] ∧ H' = H ∧ 0 ≤ y ∧ Int.gcd x y = Int.gcd a b)
    (fun σ _ => match σ with | [_, some (.int y)] => y.toNat | _ => 0) ⟨a, b, rfl, rfl, hb, rfl⟩ ?_ ?_
  · rintro σ H' ⟨x, y, rfl, rfl, hy, hg⟩
    refine ⟨_, rfl, rfl, _, rfl, ?_⟩
    by_cases h0 : y = 0
    · subst h0
      refine iteNS rfl ?_
      have e : (if x < 0 then -x else x) = ((Int.gcd a b : Nat) : Int) := by
        rw [← hg, Int.gcd_zero_right]
        split <;> omega
      refine ⟨_, rfl, _, rfl, ?_⟩
      rw [e]
      exact q
    · rw [decide_eq_false (fun z => h0 (V.int.inj z))]
      refine iteT ?_
      have hp : 0 < y := by omega
      have h1 := Int.emod_nonneg x h0
      have h2 := Int.emod_lt_of_pos x hp
      refine ⟨_, rfl, _, rfl, _, rfl, _, _, rfl, rfl, hp, _, _, rfl, ⟨y, x % y, rfl, rfl, h1, ?_⟩, ?_⟩
      · rw [My.gcd_step, hg]
      · show (x % y).toNat < y.toNat
        omega
  · rintro σ H' Q1 Q2 hi ⟨v, e, hs, k, ek, q'⟩
    exact ⟨v, e, hs, k, ek, hi _ _ q'⟩
theorem gcd_abs (a b : Int) : Int.gcd (if a < 0 then -a else a) (if b < 0 then -b else b) = Int.gcd a b := by
  rw [My.natAbs_abs, My.natAbs_abs]
  rfl
theorem ok_divisor_of (T : Txt K mg t) : FnOk P w K mg base CX0 1 t.f_divisor_of t.d_divisor_of ["one", "other"] sp_gcd := by
  refine T.F_divisor_of.ok sc_divisor_of (fun vs H Q E h => ?_) (fun cdv A outer s H vs Q E hr h => ?_)
  · obtain ⟨a, b, rfl, _⟩ := h
    rfl
  obtain ⟨a, b, rfl, q⟩ := h
  refine ⟨_, (psc (ps_set (i := 2) sc_divisor_of.nd rfl (Or.inl rfl) (pe_callB call_abs rfl T.z_abs bt_abs (pcn (pv 0) pnl)))
  (psc (ps_set (i := 3) sc_divisor_of.nd rfl (Or.inl rfl) (pe_callB call_abs rfl T.z_abs bt_abs (pcn (pv 1) pnl)))
  (psc (ps_while PassesOwn.never (pt_truth (pv 3) (fun _ => rfl)) (psc (ps_set (i := 4) sc_divisor_of.nd rfl (Or.inl rfl) (pe_op op_mod (pv 2) (pv 3)))
  (psc (ps_set (i := 2) sc_divisor_of.nd rfl (Or.inl rfl) (pv 3))
  (pso (ps_set (i := 3) sc_divisor_of.nd rfl (Or.inl rfl) (pv 4))))))
  (pso (ps_ret (pv 2)))))), ?_⟩
  refine ⟨_, rfl, _, rfl, ?_⟩
  refine ⟨_, rfl, _, rfl, ?_⟩
  dsimp only [gName, tSeq]
  refine while_by (fun σ H' => ∃ (x y : Int) (r : Option V), σ = [some (.int a), some (.int b), some (.int x), some (.int y), r] ∧ H' = H ∧ 0 ≤ x ∧ 0 ≤ y ∧ Int.gcd x y = Int.gcd a b)
    (fun σ _ => match σ with | [_, _, _, some (.int y), _] => y.toNat | _ => 0) ⟨_, _, none, rfl, rfl, by split <;> omega, by split <;> omega, gcd_abs a b⟩ ?_ ?_
  · rintro σ H' ⟨x, y, r, rfl, rfl, hx, hy, hg⟩
    refine ⟨_, rfl, _, rfl, ?_⟩
    by_cases h0 : y = 0
    · subst h0
      refine iteF ?_
      have e : x = ((Int.gcd a b : Nat) : Int) := by
        rw [← hg, Int.gcd_zero_right]
        omega
      refine ⟨_, rfl, ?_⟩
      rw [e]
      exact q
    · have hb : (y != 0) = true := by simpa using h0
      refine iteBT hb ?_
      have hp : 0 < y := by omega
      have h1 := Int.emod_nonneg x h0
      have h2 := Int.emod_lt_of_pos x hp
      refine ⟨_, rfl, _, rfl, _, _, rfl, rfl, hp, _, rfl, _, rfl, ⟨y, x % y, _, rfl, rfl, hy, h1, ?_⟩, ?_⟩
      · rw [My.gcd_step, hg]
      · show (x % y).toNat < y.toNat
        omega
  · rintro σ H' Q1 Q2 hi ⟨v, e, k, tr, q'⟩
    exact ⟨v, e, k, tr, hi _ _ q'⟩
theorem ok_number (T : Txt K mg t) : FnOk P w K mg base (CXe P w) 2 t.f_number t.d_number ["top", "bottom"] (sp_number K) := by
  have G_is_whole := ok_is_whole (P := P) (w := w) (base := base) T
  have G_divisor_of := ok_divisor_of (P := P) (w := w) (base := base) T
  refine T.F_number.okE sc_number (fun vs H Q E h => ?_) (fun cdv A outer s H vs Q E hr h => ?_)
  · obtain ⟨a, b, n, rfl, _⟩ := h
    rfl
  obtain ⟨tp, m, n, rfl, bt, bm, hn, h0, hQ⟩ := h
  refine ⟨_, (psc (ps_if (PW.pt (pw_or (pt_not (pt_val (pe_call G_is_whole (hr.mono (by decide)) rfl T.m_is_whole T.k_is_whole T.b_is_whole .nil pass0 (pcn (pv 0) pnl)))) (pw_or1 (pt_not (pt_val (pe_call G_is_whole (hr.mono (by decide)) rfl T.m_is_whole T.k_is_whole T.b_is_whole .nil pass0 (pcn (pv 1) pnl))))))) (pso (ps_raise rfl T.x_NoNumber T.n_NoNumber T.m_NoNumber rfl raisesE (pcn pe_str pnl))) pss_nil)
  (psc (ps_if (pt_cmpR op_eq (pv 1) pei (nomark _)) (pso (ps_raise rfl T.x_NoNumber T.n_NoNumber T.m_NoNumber rfl raisesE (pcn pe_str pnl))) pss_nil)
  (psc (ps_set (i := 2) sc_number.nd rfl (Or.inl rfl) (pe_call G_divisor_of (hr.mono (by decide)) rfl T.m_divisor_of T.k_divisor_of T.b_divisor_of .nil pass0 (pcn (pv 0) (pcn (pv 1) pnl))))
  (psc (ps_if (pt_cmpR op_lt (pv 1) pei (nomark _)) (pso (ps_set (i := 2) sc_number.nd rfl (Or.inl rfl) (pe_un un_neg (pv 2)))) pss_nil)
  (pso (ps_ret (pe_tup (pcn (pe_op op_fdivNB (pv 0) (pv 2)) (pcn (pe_op op_fdivNB (pv 1) (pv 2)) pnl))))))))), ?_⟩
  refine ⟨_, rfl, _, .int, rfl, True.intro, _, rfl, ?_⟩
  refine iteF ?_
  refine ⟨_, rfl, _, .int, rfl, True.intro, _, rfl, ?_⟩
  refine iteF ?_
  refine ⟨_, rfl, rfl, _, rfl, ?_⟩
  refine iteDF (fun z => h0 (V.int.inj z)) ?_
  have M := My.made_of (t := tp) h0
  refine ⟨_, rfl, _, rfl, _, _, rfl, ?_⟩
  refine ⟨_, rfl, _, _, rfl, rfl, _, rfl, ?_⟩
  have hg : 0 < Int.gcd tp m := Int.gcd_pos_of_ne_zero_right tp h0
  have hm : Mid ((Int.gcd tp m : Nat) : Int) := (My.Bd.of_natAbs (x := ((Int.gcd tp m : Nat) : Int)) (y := m) (by
    rw [Int.natAbs_natCast]
    exact Nat.le_of_dvd (by omega) (Nat.gcd_dvd_right tp.natAbs m.natAbs)) bm).mono (by omega)
  by_cases hneg : m < 0
  · refine iteDT hneg ?_
    have e : My.sg tp m = -((Int.gcd tp m : Nat) : Int) := if_pos hneg
    refine ⟨_, rfl, _, rfl, ?_⟩
    refine ⟨_, rfl, _, rfl, _, _, rfl, rfl, ⟨by omega, hm.neg⟩, _, rfl, _, rfl, _, _, rfl, rfl, ⟨by omega, hm.neg⟩, (by show 2 ≤ sizeLine; decide), fun p hp => ?_⟩
    exact hQ p _ _ _ (Same.new hp _) ⟨SqT.of (by rw [e]; exact upd_same), M.pos, My.Bd.of_natAbs M.ba bt, My.Bd.of_natAbs M.bb bm⟩ M.low (My.qv_eq (Int.ne_of_gt M.pos) h0 M.same)
  · refine iteDF hneg ?_
    have e : My.sg tp m = ((Int.gcd tp m : Nat) : Int) := if_neg hneg
    refine ⟨_, rfl, _, rfl, _, _, rfl, rfl, ⟨by omega, hm⟩, _, rfl, _, rfl, _, _, rfl, rfl, ⟨by omega, hm⟩, (by show 2 ≤ sizeLine; decide), fun p hp => ?_⟩
    exact hQ p _ _ _ (Same.new hp _) ⟨SqT.of (by rw [e]; exact upd_same), M.pos, My.Bd.of_natAbs M.ba bt, My.Bd.of_natAbs M.bb bm⟩ M.low (My.qv_eq (Int.ne_of_gt M.pos) h0 M.same)
theorem prod_ne {b d : Int} (hb : 0 < b) (hd : 0 < d) : b * d ≠ 0 := Int.ne_of_gt (Int.mul_pos hb hd)
theorem ok_plus (T : Txt K mg t) : FnOk P w K mg base CX0 3 t.f_plus t.d_plus ["one", "other"] (sp_two K (fun x y => x + y) (fun _ => True)) := by
  have G_number := ok_number (P := P) (w := w) (base := base) T
  refine T.F_plus.ok sc_plus (fun vs H Q E h => ?_) (fun cdv A outer s H vs Q E hr h => ?_)
  · obtain ⟨p, r, a, b, c, d, n1, n2, rfl, _⟩ := h
    rfl
  obtain ⟨p, r, a, b, c, d, n1, n2, rfl, h1, h2, hn, hok, q⟩ := h
  have m1 : Mid a := h1.ba.mono (by omega)
  have m2 : Mid b := h1.bb.mono (by omega)
  have m3 : Mid c := h2.ba.mono (by omega)
  have m4 : Mid d := h2.bb.mono (by omega)
  refine ⟨_, (pso (ps_ret (pe_call G_number (hr.mono (by decide)) rfl T.m_number T.k_number T.b_number .nil passE0 (pcn (pe_op op_add (pe_op op_mulB (pe_ix ixt (pv 0) pei (fun _ _ => rfl)) (pe_ix ixt (pv 1) pei (fun _ _ => rfl))) (pe_op op_mulB (pe_ix ixt (pv 1) pei (fun _ _ => rfl)) (pe_ix ixt (pv 0) pei (fun _ _ => rfl)))) (pcn (pe_op op_mulB (pe_ix ixt (pv 0) pei (fun _ _ => rfl)) (pe_ix ixt (pv 1) pei (fun _ _ => rfl))) pnl))))), ?_⟩
  exact ⟨_, rfl, _, _, _, _, rfl, rfl, h1.s, at0 _ _, _, rfl, _, _, _, _, rfl, rfl, h2.s, at1 _ _, _, _, rfl, rfl, ⟨m1, m4⟩, _, rfl, _, _, _, _, rfl, rfl, h2.s, at0 _ _, _, rfl, _, _, _, _, rfl, rfl, h1.s, at1 _ _, _, _, rfl, rfl, ⟨m3, m2⟩, _, _, rfl, rfl, _, rfl, _, _, _, _, rfl, rfl, h1.s, at1 _ _, _, rfl, _, _, _, _, rfl, rfl, h2.s, at1 _ _, _, _, rfl, rfl, ⟨m2, m4⟩, _, _, n1 + n2 + 1, rfl, ((h1.ba.mul h2.bb).add ((h2.ba.mul h1.bb).mono (by omega))).mono (by omega), (h1.bb.mul h2.bb).mono (by omega), hn, prod_ne h1.pos h2.pos, fun p' H' x y s' P g e => q p' H' x y s' P g (e.trans (My.qv_plus h1.ne h2.ne))⟩
theorem ok_minus (T : Txt K mg t) : FnOk P w K mg base CX0 3 t.f_minus t.d_minus ["one", "other"] (sp_two K (fun x y => x - y) (fun _ => True)) := by
  have G_number := ok_number (P := P) (w := w) (base := base) T
  refine T.F_minus.ok sc_minus (fun vs H Q E h => ?_) (fun cdv A outer s H vs Q E hr h => ?_)
  · obtain ⟨p, r, a, b, c, d, n1, n2, rfl, _⟩ := h
    rfl
  obtain ⟨p, r, a, b, c, d, n1, n2, rfl, h1, h2, hn, hok, q⟩ := h
  have m1 : Mid a := h1.ba.mono (by omega)
  have m2 : Mid b := h1.bb.mono (by omega)
  have m3 : Mid c := h2.ba.mono (by omega)
  have m4 : Mid d := h2.bb.mono (by omega)
  refine ⟨_, (pso (ps_ret (pe_call G_number (hr.mono (by decide)) rfl T.m_number T.k_number T.b_number .nil passE0 (pcn (pe_op op_sub (pe_op op_mulB (pe_ix ixt (pv 0) pei (fun _ _ => rfl)) (pe_ix ixt (pv 1) pei (fun _ _ => rfl))) (pe_op op_mulB (pe_ix ixt (pv 1) pei (fun _ _ => rfl)) (pe_ix ixt (pv 0) pei (fun _ _ => rfl)))) (pcn (pe_op op_mulB (pe_ix ixt (pv 0) pei (fun _ _ => rfl)) (pe_ix ixt (pv 1) pei (fun _ _ => rfl))) pnl))))), ?_⟩
  exact ⟨_, rfl, _, _, _, _, rfl, rfl, h1.s, at0 _ _, _, rfl, _, _, _, _, rfl, rfl, h2.s, at1 _ _, _, _, rfl, rfl, ⟨m1, m4⟩, _, rfl, _, _, _, _, rfl, rfl, h2.s, at0 _ _, _, rfl, _, _, _, _, rfl, rfl, h1.s, at1 _ _, _, _, rfl, rfl, ⟨m3, m2⟩, _, _, rfl, rfl, _, rfl, _, _, _, _, rfl, rfl, h1.s, at1 _ _, _, rfl, _, _, _, _, rfl, rfl, h2.s, at1 _ _, _, _, rfl, rfl, ⟨m2, m4⟩, _, _, n1 + n2 + 1, rfl, ((h1.ba.mul h2.bb).sub ((h2.ba.mul h1.bb).mono (by omega))).mono (by omega), (h1.bb.mul h2.bb).mono (by omega), hn, prod_ne h1.pos h2.pos, fun p' H' x y s' P g e => q p' H' x y s' P g (e.trans (My.qv_minus h1.ne h2.ne))⟩
theorem ok_times (T : Txt K mg t) : FnOk P w K mg base CX0 3 t.f_times t.d_times ["one", "other"] (sp_two K (fun x y => x * y) (fun _ => True)) := by
  have G_number := ok_number (P := P) (w := w) (base := base) T
  refine T.F_times.ok sc_times (fun vs H Q E h => ?_) (fun cdv A outer s H vs Q E hr h => ?_)
  · obtain ⟨p, r, a, b, c, d, n1, n2, rfl, _⟩ := h
    rfl
  obtain ⟨p, r, a, b, c, d, n1, n2, rfl, h1, h2, hn, hok, q⟩ := h
  have m1 : Mid a := h1.ba.mono (by omega)
  have m2 : Mid b := h1.bb.mono (by omega)
  have m3 : Mid c := h2.ba.mono (by omega)
  have m4 : Mid d := h2.bb.mono (by omega)
  refine ⟨_, (pso (ps_ret (pe_call G_number (hr.mono (by decide)) rfl T.m_number T.k_number T.b_number .nil passE0 (pcn (pe_op op_mulB (pe_ix ixt (pv 0) pei (fun _ _ => rfl)) (pe_ix ixt (pv 1) pei (fun _ _ => rfl))) (pcn (pe_op op_mulB (pe_ix ixt (pv 0) pei (fun _ _ => rfl)) (pe_ix ixt (pv 1) pei (fun _ _ => rfl))) pnl))))), ?_⟩
  exact ⟨_, rfl, _, _, _, _, rfl, rfl, h1.s, at0 _ _, _, rfl, _, _, _, _, rfl, rfl, h2.s, at0 _ _, _, _, rfl, rfl, ⟨m1, m3⟩, _, rfl, _, _, _, _, rfl, rfl, h1.s, at1 _ _, _, rfl, _, _, _, _, rfl, rfl, h2.s, at1 _ _, _, _, rfl, rfl, ⟨m2, m4⟩, _, _, n1 + n2 + 1, rfl, (h1.ba.mul h2.ba).mono (by omega), (h1.bb.mul h2.bb).mono (by omega), hn, prod_ne h1.pos h2.pos, fun p' H' x y s' P g e => q p' H' x y s' P g (e.trans (My.qv_times h1.ne h2.ne))⟩
theorem ok_over (T : Txt K mg t) : FnOk P w K mg base CX0 3 t.f_over t.d_over ["one", "other"] (sp_two K (fun x y => x / y) (fun c => c ≠ 0)) := by
  have G_number := ok_number (P := P) (w := w) (base := base) T
  refine T.F_over.ok sc_over (fun vs H Q E h => ?_) (fun cdv A outer s H vs Q E hr h => ?_)
  · obtain ⟨p, r, a, b, c, d, n1, n2, rfl, _⟩ := h
    rfl
  obtain ⟨p, r, a, b, c, d, n1, n2, rfl, h1, h2, hn, hok, q⟩ := h
  have m1 : Mid a := h1.ba.mono (by omega)
  have m2 : Mid b := h1.bb.mono (by omega)
  have m3 : Mid c := h2.ba.mono (by omega)
  have m4 : Mid d := h2.bb.mono (by omega)
  refine ⟨_, (pso (ps_ret (pe_call G_number (hr.mono (by decide)) rfl T.m_number T.k_number T.b_number .nil passE0 (pcn (pe_op op_mulB (pe_ix ixt (pv 0) pei (fun _ _ => rfl)) (pe_ix ixt (pv 1) pei (fun _ _ => rfl))) (pcn (pe_op op_mulB (pe_ix ixt (pv 0) pei (fun _ _ => rfl)) (pe_ix ixt (pv 1) pei (fun _ _ => rfl))) pnl))))), ?_⟩
  exact ⟨_, rfl, _, _, _, _, rfl, rfl, h1.s, at0 _ _, _, rfl, _, _, _, _, rfl, rfl, h2.s, at1 _ _, _, _, rfl, rfl, ⟨m1, m4⟩, _, rfl, _, _, _, _, rfl, rfl, h1.s, at1 _ _, _, rfl, _, _, _, _, rfl, rfl, h2.s, at0 _ _, _, _, rfl, rfl, ⟨m2, m3⟩, _, _, n1 + n2 + 1, rfl, (h1.ba.mul h2.bb).mono (by omega), (h1.bb.mul h2.ba).mono (by omega), hn, Int.mul_ne_zero h1.ne hok, fun p' H' x y s' P g e => q p' H' x y s' P g (e.trans (My.qv_over h1.ne h2.ne hok))⟩
theorem ok_under (T : Txt K mg t) : FnOk P w K mg base CX0 1 t.f_under t.d_under ["one", "other"] (sp_cmp K fun a b c d => .bl (decide (a * d < c * b))) := by
  refine T.F_under.ok sc_under (fun vs H Q E h => ?_) (fun cdv A outer s H vs Q E hr h => ?_)
  · obtain ⟨p, r, a, b, c, d, n1, n2, rfl, _⟩ := h
    rfl
  obtain ⟨p, r, a, b, c, d, n1, n2, rfl, h1, h2, hn, q⟩ := h
  have m1 : Mid a := h1.ba.mono (by omega)
  have m2 : Mid b := h1.bb.mono (by omega)
  have m3 : Mid c := h2.ba.mono (by omega)
  have m4 : Mid d := h2.bb.mono (by omega)
  refine ⟨_, (pso (ps_ret (pe_cmpR op_lt (pe_op op_mulB (pe_ix ixt (pv 0) pei (fun _ _ => rfl)) (pe_ix ixt (pv 1) pei (fun _ _ => rfl))) (pe_op op_mulB (pe_ix ixt (pv 1) pei (fun _ _ => rfl)) (pe_ix ixt (pv 0) pei (fun _ _ => rfl))) (nomark _)))), ?_⟩
  exact ⟨_, rfl, _, _, _, _, rfl, rfl, h1.s, at0 _ _, _, rfl, _, _, _, _, rfl, rfl, h2.s, at1 _ _, _, _, rfl, rfl, ⟨m1, m4⟩, _, rfl, _, _, _, _, rfl, rfl, h2.s, at0 _ _, _, rfl, _, _, _, _, rfl, rfl, h1.s, at1 _ _, _, _, rfl, rfl, ⟨m3, m2⟩, _, _, rfl, rfl, q⟩
end
theorem Pr.kp {K : PySem.W.Frag} {H H' : Hp} {p : Addr} {a b : Int} {n : Nat} (e : Same H H') (h : Pr K H p a b n) : Pr K H' p a b n := h.keep e
section
variable {K : PySem.W.Frag} {H : Hp} {Q : VK} {E : XK} {p r : Addr} {a b c d t m : Int} {n1 n2 : Nat} {f : Rat → Rat → Rat} {ok : Int → Prop} {F : Int → Int → Int → Int → V}
theorem a_number (h1 : My.Bd n1 t) (h2 : My.Bd n2 m) (h3 : max n1 n2 ≤ 3900) (h4 : m ≠ 0) (q : ∀ p H' x y, Same H H' → Pr K H' p x y (max n1 n2) → Int.gcd x y = 1 → My.qv x y = My.qv t m → Q (.ref p) H') : sp_number K [.int t, .int m] H Q E :=
  ⟨t, m, max n1 n2, rfl, h1.mono (by omega), h2.mono (by omega), h3, h4, q⟩
theorem a_numberD (h1 : My.Bd n1 t) (h2 : My.Bd n2 m) (h3 : max n1 n2 ≤ 3900) (h4 : m ≠ 0) (q : ∀ p H' x y, Same H H' → Pr K H' p x y (max n1 n2) → Int.gcd x y = 1 → My.qv x y = My.qv t m → Q (.ref p) H') : sp_number K ([.int t] ++ [.int m]) H Q E := a_number h1 h2 h3 h4 q
theorem a_two (h1 : Pr K H p a b n1) (h2 : Pr K H r c d n2) (h3 : n1 + n2 + 1 ≤ 3900) (h4 : ok c) (q : ∀ p' H' x y, Same H H' → Pr K H' p' x y (n1 + n2 + 1) → Int.gcd x y = 1 → My.qv x y = f (My.qv a b) (My.qv c d) → Q (.ref p') H') : sp_two K f ok [.ref p, .ref r] H Q E :=
  ⟨p, r, a, b, c, d, n1, n2, rfl, h1, h2, h3, h4, q⟩
theorem a_cmp (h1 : Pr K H p a b n1) (h2 : Pr K H r c d n2) (h3 : n1 + n2 ≤ 3900) (q : Q (F a b c d) H) : sp_cmp K F [.ref p, .ref r] H Q E := ⟨p, r, a, b, c, d, n1, n2, rfl, h1, h2, h3, q⟩
end
local macro_rules | `(tactic| walk_at "get") => `(tactic| repeat (first | exact GetTo.here | apply GetTo.next))
local macro_rules | `(tactic| walk_at "set") => `(tactic| repeat (first | exact SetTo.here | apply SetTo.next))
local macro_rules | `(tactic| walk_at "tp") => `(tactic| first | assumption | exact SqT.of (by assumption) | ((apply Same.tup); (focus assumption); (walk_at "tp")) | ((apply But.tup); (focus assumption); (focus assumption); (walk_at "tp")))
local macro_rules | `(tactic| walk_at "lq") => `(tactic| first | assumption | exact SqL.of (by assumption) | ((apply Same.seq); (focus assumption); (walk_at "lq")) | ((apply But.seq); (focus assumption); (focus assumption); (walk_at "lq")))
local macro_rules | `(tactic| walk_at "hl") => `(tactic| first | assumption | exact (show Same _ _ by assumption) _ _ (by walk_at "hl") | exact (show But _ _ _ by assumption) _ _ (by assumption) (by walk_at "hl"))
local macro_rules | `(tactic| walk_at "sm") => `(tactic| first | assumption | exact Same.refl _ | ((apply sm2); (focus assumption); (walk_at "sm")))
local macro_rules | `(tactic| walk_at "isi") => `(tactic| ((with_reducible refine z_isi0 ?_); first | (with_reducible refine z_isI_int ?_) | (with_reducible refine z_isB_int ?_) | (with_reducible refine z_isS_int ?_) | (with_reducible refine z_isN_int ?_) | (with_reducible refine z_isI_bool ?_) | (with_reducible refine z_isB_bool ?_) | (with_reducible refine z_isS_bool ?_) | (with_reducible refine z_isN_bool ?_) | (with_reducible refine z_isI_str ?_) | (with_reducible refine z_isB_str ?_) | (with_reducible refine z_isS_str ?_) | (with_reducible refine z_isN_str ?_) | (with_reducible refine z_isI_tuple ?_) | (with_reducible refine z_isB_tuple ?_) | (with_reducible refine z_isS_tuple ?_) | (with_reducible refine z_isN_tuple ?_) | (with_reducible refine z_isI_list ?_) | (with_reducible refine z_isB_list ?_) | (with_reducible refine z_isS_list ?_) | (with_reducible refine z_isN_list ?_) | ((with_reducible apply z_isT_int); (focus (walk_at "tp"))) | ((with_reducible apply z_isL_int); (focus (walk_at "lq"))) | ((with_reducible apply z_isT_bool); (focus (walk_at "tp"))) | ((with_reducible apply z_isL_bool); (focus (walk_at "lq"))) | ((with_reducible apply z_isT_str); (focus (walk_at "tp"))) | ((with_reducible apply z_isL_str); (focus (walk_at "lq"))) | ((with_reducible apply z_isT_tuple); (focus (walk_at "tp"))) | ((with_reducible apply z_isL_tuple); (focus (walk_at "lq"))) | ((with_reducible apply z_isT_list); (focus (walk_at "tp"))) | ((with_reducible apply z_isL_list); (focus (walk_at "lq")))))
local macro_rules | `(tactic| walk_at "non") => `(tactic| with_reducible (first | refine z_nonR ?_ | refine z_notR ?_ | refine z_nonN ?_ | refine z_notN ?_ | refine z_nonI ?_ | refine z_notI ?_ | refine z_nonS ?_ | refine z_notS ?_))
local macro_rules | `(tactic| walk_at "z1") => `(tactic| (first | ((with_reducible apply z_var); (focus (walk_at "get"))) | with_reducible (first | refine z_c ?_ | refine z_op ?_ | refine z_I0 ?_ | refine z_asg ?_ | refine z_seq ?_ | refine z_EqI ?_ | refine z_NeI ?_ | refine z_EqS ?_ | refine z_NeS ?_ | refine z_test ?_ | refine z_tB ?_ | refine z_ebl ?_ | refine z_ifs ?_ | refine z_ret ?_ | refine z_cons ?_ | refine z_nil ?_ | refine z_call0 ?_ | refine z_callD ?_ | refine z_un ?_ | refine z_U ?_ | refine z_and ?_ | refine z_or ?_ | refine z_not ?_ | refine z_andV ?_ | refine z_orV ?_ | refine z_notV ?_ | refine z_if ?_ | refine z_chain ?_ | refine z_next ?_ | refine z_drop ?_ | refine z_par ?_ | refine z_cb ?_ | refine z_e1 ?_ | refine z_e2 ?_ | refine z_tup ?_ | refine iteT ?_ | refine iteF ?_ | refine z_iteNb ?_ | refine z_eint ?_ | refine z_gcons ?_ | refine z_gnil ?_ | refine z_sl ?_ | refine z_noP ?_ | refine z_part ?_ | refine z_lst ?_ | refine z_bm ?_ | refine z_for ?_ | refine z_iL ?_ | refine z_iT ?_ | refine z_iR1 ?_ | refine z_iR2 ?_ | refine z_iR3 ?_ | refine z_toI ?_ | refine z_toB ?_ | refine z_whN ?_) | ((with_reducible apply z_name); (focus (walk_at "set"))) | ((with_reducible apply z_par2); (focus (walk_at "set")); (focus (walk_at "set"))) | ((with_reducible apply z_mkt); (focus (exact Nat.le_of_ble_eq_true rfl)); (intro p H' n s e))))
local macro_rules | `(tactic| walk_at "z2") => `(tactic| first | ((with_reducible apply z_I); (focus (walk_at "cd"))) | ((with_reducible apply z_ixT); (focus (walk_at "tp")); (focus rfl)) | walk_at "isi" | walk_at "non" | ((with_reducible apply z_len); (focus (first | exact .inl (by walk_at "lq") | exact .inr (by walk_at "tp")))) | ((with_reducible apply z_gtup); (focus (walk_at "tp")); (focus rfl)) | ((with_reducible apply z_iL2); (focus (walk_at "lq"))) | ((with_reducible apply z_iT2); (focus (walk_at "tp"))) | ((with_reducible apply z_r1c); (focus (first | decide | omega)); (focus (first | decide | omega))) | ((with_reducible apply z_r2c); (focus (first | decide | omega)); (focus (first | decide | omega)); (focus (first | decide | omega)); (focus (first | decide | omega))))
local macro_rules | `(tactic| walk_at "bd") => `(tactic| first | assumption | exact Pr.ba (by assumption) | exact Pr.bb (by assumption) | exact (show My.Bd 64 _ by unfold My.Bd; decide) | ((with_reducible apply bd_mul) <;> (walk_at "bd")) | ((with_reducible apply bd_add) <;> (walk_at "bd")) | ((with_reducible apply bd_sub) <;> (walk_at "bd")) | ((with_reducible apply My.Bd.neg); (walk_at "bd")) | ((with_reducible apply My.Bd.mod); (focus (first | decide | omega | assumption)); (walk_at "bd")) | ((with_reducible apply My.Bd.div); (focus (first | decide | omega | assumption)); (walk_at "bd")) | exact bd_60 (by omega) (by omega) | exact (show My.Bd 256 _ by unfold My.Bd; decide))
local macro_rules | `(tactic| walk_at "mid") => `(tactic| first | assumption | ((apply My.Bd.mono); (focus (walk_at "bd")); (first | decide | omega)))
local macro_rules | `(tactic| walk_at "cd") => `(tactic| first | assumption | exact True.intro | decide | omega | exact ⟨by first | decide | omega, by first | decide | omega⟩ | exact ⟨by decide, by decide, by decide⟩ | exact .inl ⟨by first | decide | omega, by first | decide | omega⟩ | exact .inr ⟨by first | decide | omega, by first | decide | omega⟩ | exact ⟨by walk_at "mid", by walk_at "mid"⟩ | exact ⟨by first | decide | omega | assumption, by walk_at "mid"⟩)
local macro_rules | `(tactic| walk_at "pr") => `(tactic| first | assumption | ((apply Pr.kp); (focus assumption); (walk_at "pr")))
local macro_rules | `(tactic| walk_at "sp") => `(tactic| ((with_reducible apply a_number); (focus (walk_at "bd")); (focus (walk_at "bd")); (focus (first | decide | omega)); (focus (first | decide | omega)); (intro p H' x y s R g e)))
local macro_rules | `(tactic| walk_at "sp") => `(tactic| ((with_reducible apply a_numberD); (focus (walk_at "bd")); (focus (walk_at "bd")); (focus (first | decide | omega)); (focus (first | decide | omega)); (intro p H' x y s R g e)))
local macro_rules | `(tactic| walk_at "sp") => `(tactic| ((with_reducible apply a_two); (focus (walk_at "pr")); (focus (walk_at "pr")); (focus (first | decide | omega)); (focus (first | exact True.intro | assumption)); (intro p H' x y s R g e)))
local macro_rules | `(tactic| walk_at "sp") => `(tactic| ((with_reducible apply a_cmp); (focus (walk_at "pr")); (focus (walk_at "pr")); (focus (first | decide | omega))))
local macro_rules | `(tactic| walk_at "ji") => `(tactic| ((with_reducible apply z_joinI); (focus ((intro S q); (walk_at "run"); (exact q))); (focus ((intro hb S q); (walk_at "run"); (exact q))); (focus (walk_at "get")); (focus (walk_at "set"))))
local macro_rules | `(tactic| walk_at "run") => `(tactic| repeat (first | walk_at "ji" | walk_at "z1" | walk_at "z2" | walk_at "sp"))
local macro_rules | `(tactic| walk_at "bd6") => `(tactic| first | assumption | exact bd_60 (by omega) (by omega))
local macro_rules | `(tactic| walk_at "sp") => `(tactic| ((with_reducible apply a_cell); (focus (walk_at "lq")); (focus (first | decide | omega))))
section
variable {P : Program} {w : World} {K : PySem.W.Frag} {mg : Str → Option Value} {base : Heap} {t : Adr}
theorem qv_top {x y : Int} (h : My.qv x y ≠ 0) : x ≠ 0 := fun z => h (by unfold My.qv; rw [z]; grind)
theorem b60_1 : My.Bd 60 1 := by unfold My.Bd; decide
theorem b60_of {n : Int} (h1 : -1152921504606846976 < n) (h2 : n < 1152921504606846976) : My.Bd 60 n := by unfold My.Bd; omega
noncomputable def sp_splace (K : PySem.W.Frag) : Sp := fun vs H Q _ => ∃ (po pl ph : Addr) (e f a b c d bg en : Int) (n1 n : Nat), vs = [.ref po, .ref pl, .ref ph, .int bg, .int en] ∧ Pr K H po e f n1 ∧ Pr K H pl a b n ∧ Pr K H ph c d n ∧ n1 + 3 * n + 140 ≤ 3900 ∧ My.Bd 60 bg ∧ My.Bd 60 (en - bg) ∧ My.qv c d - My.qv a b ≠ 0 ∧
  NewQ K H Q (n1 + 3 * n + 140) ((bg : Rat) + (My.qv e f - My.qv a b) / (My.qv c d - My.qv a b) * ((en - bg : Int) : Rat))
theorem ok_straight_place (T : Txt K mg t) : FnOk P w K mg base CX0 4 t.f_straight_place t.d_straight_place ["one", "lo", "hi", "begin", "end"] (sp_splace K) := by
  have G_number := ok_number (P := P) (w := w) (base := base) T
  have G_minus := ok_minus (P := P) (w := w) (base := base) T
  have G_over := ok_over (P := P) (w := w) (base := base) T
  have G_times := ok_times (P := P) (w := w) (base := base) T
  have G_plus := ok_plus (P := P) (w := w) (base := base) T
  obtain ⟨ds1, DV_number, BD_number⟩ := T.b_number1
  refine T.F_straight_place.ok sc_straight_place (fun vs H Q E h => ?_) (fun cdv A outer s H vs Q E hr h => ?_)
  · obtain ⟨po, pl, ph, e, f, a, b, c, d, bg, en, n1, n, rfl, _⟩ := h
    rfl
  obtain ⟨po, pl, ph, e, f, a, b, c, d, bg, en, n1, n, rfl, P1, P2, P3, hn1, hb, hd, nz, q⟩ := h
  refine ⟨_, (psc (ps_set (i := 5) sc_straight_place.nd rfl (Or.inl rfl) (pe_call G_over (hr.mono (by decide)) rfl T.m_over T.k_over T.b_over .nil pass0 (pcn (pe_call G_minus (hr.mono (by decide)) rfl T.m_minus T.k_minus T.b_minus .nil pass0 (pcn (pv 0) (pcn (pv 1) pnl))) (pcn (pe_call G_minus (hr.mono (by decide)) rfl T.m_minus T.k_minus T.b_minus .nil pass0 (pcn (pv 2) (pcn (pv 1) pnl))) pnl))))
  (pso (ps_ret (pe_call G_plus (hr.mono (by decide)) rfl T.m_plus T.k_plus T.b_plus .nil pass0 (pcn (pe_call G_number (hr.mono (by decide)) rfl T.m_number T.k_number BD_number DV_number passE0 (pcn (pv 3) pnl)) (pcn (pe_call G_times (hr.mono (by decide)) rfl T.m_times T.k_times T.b_times .nil pass0 (pcn (pv 5) (pcn (pe_call G_number (hr.mono (by decide)) rfl T.m_number T.k_number BD_number DV_number passE0 (pcn (pe_op op_sub (pv 4) (pv 3)) pnl)) pnl))) pnl)))))), z_go (σ := [some _, some _, some _, some _, some _, none]) rfl ?_⟩
  walk_at "run"
  rename_i p1 H1 x1 y1 s1 R1 g1 v1 p2 H2 x2 y2 s2 R2 g2 v2
  have nx : x2 ≠ 0 := qv_top (by rw [v2]; exact nz)
  walk_at "run"
  rename_i p3 H3 x3 y3 s3 R3 g3 v3 p4 H4 x4 y4 s4 R4 g4 v4 p5 H5 x5 y5 s5 R5 g5 v5 p6 H6 x6 y6 s6 R6 g6 v6 p7 H7 x7 y7 s7 R7 g7 v7
  refine q p7 H7 x7 y7 (by walk_at "sm") (R7.up (by omega)) g7 ?_
  rw [v7, v4, v6, v5, v3, v1, v2, My.qv_int, My.qv_int]
noncomputable def inB (e f a b c d : Int) : Bool := !decide (e * b < a * f) && !decide (c * f < e * d)
noncomputable def sp_within (K : PySem.W.Frag) : Sp := fun vs H Q _ => ∃ (po pl ph : Addr) (e f a b c d : Int) (n1 n2 n3 : Nat), vs = [.ref po, .ref pl, .ref ph] ∧ Pr K H po e f n1 ∧ Pr K H pl a b n2 ∧ Pr K H ph c d n3 ∧ n1 + n2 ≤ 3900 ∧ n3 + n1 ≤ 3900 ∧ Q (.bl (inB e f a b c d)) H
theorem a_within {K : PySem.W.Frag} {H : Hp} {Q : VK} {E : XK} {po pl ph : Addr} {e f a b c d : Int} {n1 n2 n3 : Nat} (h1 : Pr K H po e f n1) (h2 : Pr K H pl a b n2) (h3 : Pr K H ph c d n3) (h4 : n1 + n2 ≤ 3900) (h5 : n3 + n1 ≤ 3900) (q : Q (.bl (inB e f a b c d)) H) : sp_within K [.ref po, .ref pl, .ref ph] H Q E := ⟨po, pl, ph, e, f, a, b, c, d, n1, n2, n3, rfl, h1, h2, h3, h4, h5, q⟩
theorem a_splace {K : PySem.W.Frag} {H : Hp} {Q : VK} {E : XK} {po pl ph : Addr} {e f a b c d bg en : Int} {n1 n : Nat} (h1 : Pr K H po e f n1) (h2 : Pr K H pl a b n) (h3 : Pr K H ph c d n) (h4 : n1 + 3 * n + 140 ≤ 3900) (h6 : My.Bd 60 bg) (h7 : My.Bd 60 (en - bg)) (h8 : My.qv c d - My.qv a b ≠ 0)
    (q : ∀ (p : Addr) (H' : Hp) (x y : Int), Same H H' → Pr K H' p x y (n1 + 3 * n + 140) → Int.gcd x y = 1 → My.qv x y = ((bg : Rat) + (My.qv e f - My.qv a b) / (My.qv c d - My.qv a b) * ((en - bg : Int) : Rat)) → Q (.ref p) H') : sp_splace K [.ref po, .ref pl, .ref ph, .int bg, .int en] H Q E := ⟨po, pl, ph, e, f, a, b, c, d, bg, en, n1, n, rfl, h1, h2, h3, h4, h6, h7, h8, q⟩
theorem ok_is_within (T : Txt K mg t) : FnOk P w K mg base CX0 2 t.f_is_within t.d_is_within ["one", "lo", "hi"] (sp_within K) := by
  have G_under := ok_under (P := P) (w := w) (base := base) T
  refine T.F_is_within.ok sc_is_within (fun vs H Q E h => ?_) (fun cdv A outer s H vs Q E hr h => ?_)
  · obtain ⟨po, pl, ph, e, f, a, b, c, d, n1, n2, n3, rfl, _⟩ := h
    rfl
  obtain ⟨po, pl, ph, e, f, a, b, c, d, n1, n2, n3, rfl, P1, P2, P3, hn, hn2, q⟩ := h
  refine ⟨_, (pso (ps_ret (pe_and (pe_not (pe_call G_under (hr.mono (by decide)) rfl T.m_under T.k_under T.b_under .nil pass0 (pcn (pv 0) (pcn (pv 1) pnl)))) (pe_one (pe_not (pe_call G_under (hr.mono (by decide)) rfl T.m_under T.k_under T.b_under .nil pass0 (pcn (pv 2) (pcn (pv 0) pnl)))))))), z_go (σ := [some _, some _, some _]) rfl ?_⟩
  unfold inB at q
  walk_at "run"
  refine z_iteD (fun h1 => ?_) (fun h1 => ?_)
  · rw [decide_eq_true h1] at q
    exact q
  · rw [decide_eq_false h1] at q
    walk_at "run"
    exact q
local macro_rules | `(tactic| walk_at "sp") => `(tactic| ((with_reducible apply a_within); (focus (walk_at "pr")); (focus (walk_at "pr")); (focus (walk_at "pr")); (focus (first | decide | omega)); (focus (first | decide | omega))))
local macro_rules | `(tactic| walk_at "sp") => `(tactic| ((with_reducible apply a_splace); (focus (walk_at "pr")); (focus (walk_at "pr")); (focus (walk_at "pr")); (focus (first | decide | omega)); (focus (walk_at "bd6")); (focus (walk_at "bd6")); (focus (assumption)); (intro p H' x y s R g e)))
local macro_rules | `(tactic| walk_at "sp") => `(tactic| ((with_reducible apply a_sback); (focus (walk_at "pr")); (focus (walk_at "pr")); (focus (walk_at "pr")); (focus (first | decide | omega)); (focus (walk_at "bd6")); (focus (walk_at "bd6")); (focus (omega)); (intro p H' x y s R g e)))
theorem zp_nat (b : Int) (n : Nat) : (b : Rat) ^ (n : Int) = ((b ^ n : Int) : Rat) := by
  induction n with
  | zero => simp
  | succ n ih =>
    by_cases hb : b = 0
    · subst hb
      rw [Int.pow_succ, Int.mul_zero]
      have e : ((0 : Int) : Rat) = 0 := rfl
      rw [e, Rat.zpow_natCast, Rat.pow_succ, Rat.mul_zero]
    · rw [show ((n + 1 : Nat) : Int) = (n : Int) + 1 by omega, Rat.zpow_add_one (My.cast_ne hb), ih, Int.pow_succ, Rat.intCast_mul]
theorem pow_bd {b : Int} (h0 : 2 ≤ b) (h1 : b ≤ 10) : ∀ n : Nat, 0 < b ^ n ∧ My.Bd (4 * n + 1) (b ^ n)
  | 0 => ⟨by simp, by unfold My.Bd; simp⟩
  | n + 1 => by
    obtain ⟨p, q⟩ := pow_bd h0 h1 n
    rw [Int.pow_succ]
    refine ⟨Int.mul_pos p (by omega), ?_⟩
    have hb : My.Bd 4 b := by unfold My.Bd; omega
    exact (q.mul hb).mono (by omega)
noncomputable def sp_power (K : PySem.W.Frag) : Sp := fun vs H Q _ => ∃ b e : Int, vs = [.int b, .int e] ∧ 2 ≤ b ∧ b ≤ 10 ∧ -900 ≤ e ∧ e ≤ 900 ∧ NewQ K H Q (4 * e.natAbs + 1) ((b : Rat) ^ e)
theorem ok_power_of (T : Txt K mg t) : FnOk P w K mg base CX0 3 t.f_power_of t.d_power_of ["base", "exponent"] (sp_power K) := by
  have G_number := ok_number (P := P) (w := w) (base := base) T
  obtain ⟨ds1, DV_number, BD_number⟩ := T.b_number1
  refine T.F_power_of.ok sc_power_of (fun vs H Q E h => ?_) (fun cdv A outer s H vs Q E hr h => ?_)
  · obtain ⟨b, e, rfl, _⟩ := h
    rfl
  obtain ⟨b, e, rfl, b2, b10, e0, e1, q⟩ := h
  have mb : Mid b := midB (by omega) (by omega)
  refine ⟨_, (psc (ps_set (i := 2) sc_power_of.nd rfl (Or.inl rfl) pei)
  (psc (ps_for PassesOwn.never rfl (pi_range1 rfl T.z_range (pcn (pe_callB call_abs rfl T.z_abs bt_abs (pcn (pv 1) pnl)) pnl)) (pg_name (i := 3) sc_power_of.nd rfl (Or.inl rfl)) (pso (ps_set (i := 2) sc_power_of.nd rfl (Or.inl rfl) (pe_op op_mulB (pv 2) (pv 0)))))
  (pso (ps_ret (pe_ifExp (pt_cmpR op_ge (pv 1) pei (nomark _)) (pe_call G_number (hr.mono (by decide)) rfl T.m_number T.k_number BD_number DV_number passE0 (pcn (pv 2) pnl)) (pe_call G_number (hr.mono (by decide)) rfl T.m_number T.k_number T.b_number .nil passE0 (pcn pei (pcn (pv 2) pnl)))))))), ?_⟩
  refine ⟨_, rfl, _, rfl, _, rfl, by split <;> omega, by split <;> omega, ?_⟩
  have en : (if e < 0 then -e else e).toNat = e.natAbs := by split <;> omega
  rw [en]
  refine for_range (fun i σ H2 => (∃ u, σ = [some (.int b), some (.int e), some (.int (b ^ i)), u]) ∧ H2 = H) ⟨⟨none, by rw [Int.pow_zero]; rfl⟩, rfl⟩ ?_ ?_
  · rintro i σ H2 hi ⟨⟨u, rfl⟩, rfl⟩
    have mp : Mid (b ^ i) := (pow_bd b2 b10 i).2.mono (by omega)
    refine ⟨_, rfl, _, rfl, _, _, rfl, rfl, ⟨mp, mb⟩, ?_⟩
    exact ⟨⟨_, by rw [Int.pow_succ]; rfl⟩, rfl⟩
  · rintro σ H2 ⟨⟨u, rfl⟩, rfl⟩
    obtain ⟨pp, pq⟩ := pow_bd b2 b10 e.natAbs
    refine ⟨_, rfl, _, _, rfl, rfl, _, rfl, ?_⟩
    by_cases hs : e ≥ 0
    · refine iteDT hs ?_
      refine ⟨_, rfl, _, _, 4 * e.natAbs + 1, rfl, pq, (show My.Bd 1 1 by unfold My.Bd; decide).mono (by omega), by omega, by decide, fun p H' x y s' R g v => q p H' x y s' R g (v.trans ?_)⟩
      rw [My.qv_int, ← zp_nat, show ((e.natAbs : Nat) : Int) = e by omega]
    · refine iteDF hs ?_
      refine ⟨_, rfl, _, _, 4 * e.natAbs + 1, rfl, (show My.Bd 1 1 by unfold My.Bd; decide).mono (by omega), pq, by omega, Int.ne_of_gt pp, fun p H' x y s' R g v => q p H' x y s' R g (v.trans ?_)⟩
      unfold My.qv
      rw [← zp_nat, show ((e.natAbs : Nat) : Int) = -e by omega, Rat.zpow_neg]
      grind
noncomputable def Below (p a b E : Int) : Prop := (0 ≤ E → b * p ^ E.toNat ≤ a ∧ a < b * p ^ (E.toNat + 1)) ∧ (E < 0 → b ≤ a * p ^ (-E).toNat ∧ a * p ^ (-E - 1).toNat < b)
noncomputable def sp_below (K : PySem.W.Frag) : Sp := fun vs H Q _ => ∃ (pr : Addr) (p a b : Int) (n : Nat), vs = [.int p, .ref pr] ∧ 2 ≤ p ∧ p ≤ 10 ∧ Pr K H pr a b n ∧ 0 < a ∧ n ≤ 800 ∧ ∀ E : Int, Below p a b E → -(n : Int) - 1 ≤ E → E ≤ n → Q (.int E) H
theorem two_pow_le {p : Int} (h : 2 ≤ p) : ∀ n : Nat, (2 : Int) ^ n ≤ p ^ n
  | 0 => by simp
  | n + 1 => by
    have ih := two_pow_le h n
    rw [Int.pow_succ, Int.pow_succ]
    have z : (0 : Int) ≤ 2 ^ n := Int.pow_nonneg (by decide)
    exact Int.mul_le_mul ih h (by decide) (Int.le_trans z ih)
theorem below_len {p a b : Int} {n k : Nat} (h2 : 2 ≤ p) (hb : 0 < b) (ha : My.Bd n a) (h : b * p ^ k ≤ a) : k ≤ n := by
  have e1 := two_pow_le h2 k
  have e0 : (0 : Int) ≤ p ^ k := Int.pow_nonneg (by omega)
  have e2 : p ^ k ≤ b * p ^ k := by
    have := Int.mul_le_mul_of_nonneg_right (show (1 : Int) ≤ b by omega) e0
    rw [Int.one_mul] at this
    exact this
  have e3 : (2 : Int) ^ k ≤ a := by omega
  unfold My.Bd at ha
  rcases Nat.lt_or_ge n k with z | z
  · have m : (2 : Nat) ^ n ≤ 2 ^ k := Nat.pow_le_pow_right (by decide) (by omega)
    have c : ((2 ^ k : Nat) : Int) = (2 : Int) ^ k := by simp
    omega
  · exact z
theorem below_end {p a b : Int} {n k j : Nat} (p2 : 2 ≤ p) (b0 : 0 < b) (a0 : 0 < a) (Ra : My.Bd n a) (Rb : My.Bd n b) (hle : ¬ b * p ^ k * p ≤ a) (hk : k = 0 ∨ b * p ^ k ≤ a) (hj : j = 0 ∨ (k = 0 ∧ a * p ^ (j - 1) < b)) (hlt : ¬ a * p ^ j < b * p ^ k) :
    Below p a b ((k : Int) - (j : Int)) ∧ -(n : Int) - 1 ≤ (k : Int) - (j : Int) ∧ (k : Int) - (j : Int) ≤ n := by
  by_cases j0 : j = 0
  · subst j0
    rw [Int.pow_zero, Int.mul_one] at hlt
    have e : (k : Int) - ((0 : Nat) : Int) = (k : Int) := by omega
    rw [e]
    have l := below_len (k := k) p2 b0 Ra (by omega)
    refine ⟨⟨fun _ => ?_, fun z => absurd z (by omega)⟩, by omega, by omega⟩
    rw [Int.toNat_natCast, Int.pow_succ, ← Int.mul_assoc]
    exact ⟨by omega, by omega⟩
  · rcases hj with z | ⟨k0, z⟩
    · exact absurd z j0
    · subst k0
      rw [Int.pow_zero, Int.mul_one] at hlt
      have l := below_len (k := j - 1) p2 a0 Rb (Int.le_of_lt z)
      refine ⟨⟨fun z => absurd z (by omega), fun _ => ?_⟩, by omega, by omega⟩
      have e1 : (-(((0 : Nat) : Int) - (j : Int))).toNat = j := by omega
      have e2 : (-(((0 : Nat) : Int) - (j : Int)) - 1).toNat = j - 1 := by omega
      rw [e1, e2]
      exact ⟨by omega, z⟩
theorem ok_power_below (T : Txt K mg t) : FnOk P w K mg base CX0 1 t.f_power_below t.d_power_below ["base", "one"] (sp_below K) := by
  refine T.F_power_below.ok sc_power_below (fun vs H Q E h => ?_) (fun cdv A outer s H vs Q E hr h => ?_)
  · obtain ⟨pr, p, a, b, n, rfl, _⟩ := h
    rfl
  obtain ⟨pr, p, a, b, n, rfl, p2, p10, R, a0, hn, q⟩ := h
  have b0 := R.pos
  have mp : Mid p := midB (by omega) (by omega)
  have bp4 : My.Bd 4 p := by unfold My.Bd; omega
  have ma : Mid a := R.ba.mono (by omega)
  refine ⟨_, (psc (ps_set (i := 2) sc_power_below.nd rfl (Or.inl rfl) (pe_ix ixt (pv 1) pei (fun _ _ => rfl)))
  (psc (ps_set (i := 3) sc_power_below.nd rfl (Or.inl rfl) (pe_ix ixt (pv 1) pei (fun _ _ => rfl)))
  (psc (ps_set (i := 4) sc_power_below.nd rfl (Or.inl rfl) pei)
  (psc (ps_while PassesOwn.never (pt_cmpR op_le (pe_op op_mulB (pv 3) (pv 0)) (pv 2) (nomark _)) (psc (ps_set (i := 3) sc_power_below.nd rfl (Or.inl rfl) (pe_op op_mulB (pv 3) (pv 0)))
  (pso (ps_aug (i := 4) sc_power_below.nd rfl (Or.inl rfl) pei ip_add))))
  (psc (ps_while PassesOwn.never (pt_cmpR op_lt (pv 2) (pv 3) (nomark _)) (psc (ps_set (i := 2) sc_power_below.nd rfl (Or.inl rfl) (pe_op op_mulB (pv 2) (pv 0)))
  (pso (ps_aug (i := 4) sc_power_below.nd rfl (Or.inl rfl) pei ip_sub))))
  (pso (ps_ret (pv 4)))))))), ?_⟩
  refine ⟨_, rfl, _, _, _, _, rfl, rfl, R.s, at0 _ _, ?_⟩
  refine ⟨_, rfl, _, _, _, _, rfl, rfl, R.s, at1 _ _, ?_⟩
  dsimp only [gName, tSeq]
  refine while_by (fun σ H' => ∃ k : Nat, σ = [some (.int p), some (.ref pr), some (.int a), some (.int (b * p ^ k)), some (.int (k : Int))] ∧ H' = H ∧ (k = 0 ∨ b * p ^ k ≤ a))
    (fun σ _ => match σ with | [_, _, _, some (.int y), _] => (a + b - y).toNat | _ => 0) ⟨0, by rw [Int.pow_zero, Int.mul_one]; rfl, rfl, .inl rfl⟩ ?_ ?_
  · rintro σ H' ⟨k, rfl, rfl, hk⟩
    have pk := (pow_bd p2 p10 k).1
    have bk0 : 0 < b * p ^ k := Int.mul_pos b0 pk
    have bdk : My.Bd 3000 (b * p ^ k) := by
      rcases hk with z | z
      · subst z
        simp only [Int.pow_zero, Int.mul_one]
        exact R.bb.mono (by omega)
      · exact (My.Bd.of_le R.ba (Int.le_of_lt bk0) z).mono (by omega)
    refine ⟨_, rfl, _, rfl, _, _, rfl, rfl, ⟨bdk.mono (by decide), mp⟩, _, rfl, _, _, rfl, rfl, _, rfl, ?_⟩
    have es : b * p ^ (k + 1) = b * p ^ k * p := by rw [Int.pow_succ, Int.mul_assoc]
    by_cases hle : b * p ^ k * p ≤ a
    · refine iteDT hle ?_
      refine ⟨_, rfl, _, rfl, _, _, rfl, rfl, ⟨bdk.mono (by decide), mp⟩, ?_⟩
      refine ⟨_, rfl, _, _, rfl, rfl, ⟨k + 1, ?_, rfl, .inr (by rw [es]; exact hle)⟩, ?_⟩
      · rw [es]
        rfl
      · show (a + b - b * p ^ k * p).toNat < (a + b - b * p ^ k).toNat
        have z : b * p ^ k * 2 ≤ b * p ^ k * p := Int.mul_le_mul_of_nonneg_left p2 (Int.le_of_lt bk0)
        omega
    · refine iteDF hle ?_
      dsimp only [gName, tSeq]
      refine while_by (fun σ H'' => ∃ j : Nat, σ = [some (.int p), some (.ref pr), some (.int (a * p ^ j)), some (.int (b * p ^ k)), some (.int ((k : Int) - (j : Int)))] ∧ H'' = H' ∧ (j = 0 ∨ (k = 0 ∧ a * p ^ (j - 1) < b)))
        (fun σ _ => match σ with | [_, _, some (.int x), some (.int y), _] => (y - x).toNat | _ => 0) ⟨0, by rw [Int.pow_zero, Int.mul_one]; simp, rfl, .inl rfl⟩ ?_ ?_
      · rintro σ H'' ⟨j, rfl, rfl, hj⟩
        have pj := (pow_bd p2 p10 j).1
        have aj0 : 0 < a * p ^ j := Int.mul_pos a0 pj
        have bdj : My.Bd 3000 (a * p ^ j) := by
          rcases hj with z | ⟨_, z⟩
          · subst z
            simp only [Int.pow_zero, Int.mul_one]
            exact R.ba.mono (by omega)
          · cases j with
            | zero =>
              simp only [Int.pow_zero, Int.mul_one]
              exact R.ba.mono (by omega)
            | succ i =>
              have z : a * p ^ i < b := z
              have pi := (pow_bd p2 p10 i).1
              have w : My.Bd n (a * p ^ i) := My.Bd.of_le R.bb (Int.le_of_lt (Int.mul_pos a0 pi)) (Int.le_of_lt z)
              rw [Int.pow_succ, ← Int.mul_assoc]
              exact (w.mul bp4).mono (by omega)
        refine ⟨_, rfl, _, rfl, _, _, rfl, rfl, _, rfl, ?_⟩
        by_cases hlt : a * p ^ j < b * p ^ k
        · refine iteDT hlt ?_
          have k0 : k = 0 := by
            rcases hk with z | z
            · exact z
            · rcases hj with z2 | z2
              · subst z2
                rw [Int.pow_zero, Int.mul_one] at hlt
                omega
              · exact z2.1
          refine ⟨_, rfl, _, rfl, _, _, rfl, rfl, ⟨bdj.mono (by decide), mp⟩, ?_⟩
          refine ⟨_, rfl, _, _, rfl, rfl, ⟨j + 1, ?_, rfl, .inr ⟨k0, ?_⟩⟩, ?_⟩
          · rw [show a * p ^ (j + 1) = a * p ^ j * p by rw [Int.pow_succ, Int.mul_assoc], show ((j + 1 : Nat) : Int) = (j : Int) + 1 by omega, show (k : Int) - ((j : Int) + 1) = (k : Int) - (j : Int) - 1 by omega]
            rfl
          · subst k0
            rw [Int.pow_zero, Int.mul_one] at hlt
            exact hlt
          · show (b * p ^ k - a * p ^ j * p).toNat < (b * p ^ k - a * p ^ j).toNat
            have z : a * p ^ j * 2 ≤ a * p ^ j * p := Int.mul_le_mul_of_nonneg_left p2 (Int.le_of_lt aj0)
            omega
        · refine iteDF hlt ?_
          obtain ⟨w1, w2, w3⟩ := below_end p2 b0 a0 R.ba R.bb hle hk hj hlt
          exact ⟨_, rfl, q _ w1 w2 w3⟩
      · rintro σ H'' Q1 Q2 hi ⟨v1, e1, v2, e2, i1, j1, e3, e4, kk, ek, q'⟩
        exact ⟨v1, e1, v2, e2, i1, j1, e3, e4, kk, ek, hi _ _ q'⟩
  · rintro σ H' Q1 Q2 hi ⟨v1, e1, v2, e2, i1, j1, e3, e4, hm, v3, e5, i2, j2, e6, e7, kk, ek, q'⟩
    exact ⟨v1, e1, v2, e2, i1, j1, e3, e4, hm, v3, e5, i2, j2, e6, e7, kk, ek, hi _ _ q'⟩
structure TurS (K : PySem.W.Frag) (H : Hp) (sc : Addr) (p low many len : Int) : Prop where
  s : SqT K H sc [.str "turns", .int p, .int low, .int many, .int len]
  p2 : 2 ≤ p
  p10 : p ≤ 10
  w1 : -200 ≤ low
  w2 : low ≤ 200
  m1 : 1 ≤ many
  m2 : many ≤ 400
  l1 : 1 ≤ len
  l2 : len ≤ 4000
theorem TurS.keep {K : PySem.W.Frag} {H H' : Hp} {sc : Addr} {p low many len : Int} (h : TurS K H sc p low many len) (e : Same H H') : TurS K H' sc p low many len := ⟨e.tup h.s, h.p2, h.p10, h.w1, h.w2, h.m1, h.m2, h.l1, h.l2⟩
theorem zp_ne {p : Int} (h : 2 ≤ p) (E : Int) : (p : Rat) ^ E ≠ 0 := by
  have hn : ∀ n : Nat, (p : Rat) ^ (n : Int) ≠ 0 := fun n => by
    rw [zp_nat]
    exact My.cast_ne (Int.ne_of_gt (Int.pow_pos (by omega)))
  rcases Int.le_total 0 E with z | z
  · rw [show E = ((E.toNat : Nat) : Int) by omega]
    exact hn _
  · rw [show E = -(((-E).toNat : Nat) : Int) by omega, Rat.zpow_neg]
    have := hn (-E).toNat
    grind
theorem qv_zero {x y : Int} (h : x = 0) : My.qv x y = 0 := by unfold My.qv; rw [h]; grind
noncomputable def partOf (p E : Int) (v : Rat) : Rat := (v - (p : Rat) ^ E) / ((p : Rat) ^ E * ((p - 1 : Int) : Rat))
noncomputable def sp_pturns (K : PySem.W.Frag) : Sp := fun vs H Q _ => ∃ (sc pc : Addr) (p low many len e f : Int) (n : Nat), vs = [.ref sc, .ref pc] ∧ TurS K H sc p low many len ∧ Pr K H pc e f n ∧ n ≤ 300 ∧ (e ≤ 0 → Q (.str "nought") H) ∧
  (0 < e → ∀ E : Int, Below p e f E → -(n : Int) - 1 ≤ E → E ≤ n →
    ((E < low ∨ low + many < E) → Q (.str "outside") H) ∧
    (low ≤ E → E = low + many → partOf p E (My.qv e f) ≠ 0 → ∀ H', Same H H' → Q (.str "outside") H') ∧
    (low ≤ E → E ≤ low + many → (E = low + many → partOf p E (My.qv e f) = 0) → NewQ K H Q (9 * n + 195) ((((E - low : Int) : Rat) + partOf p E (My.qv e f)) * My.qv len many)))
theorem ok_place_on_turns (T : Txt K mg t) : FnOk P w K mg base CX0 4 t.f_place_on_turns t.d_place_on_turns ["scale", "cell"] (sp_pturns K) := by
  have G_number := ok_number (P := P) (w := w) (base := base) T
  have G_minus := ok_minus (P := P) (w := w) (base := base) T
  have G_over := ok_over (P := P) (w := w) (base := base) T
  have G_times := ok_times (P := P) (w := w) (base := base) T
  have G_plus := ok_plus (P := P) (w := w) (base := base) T
  have G_power_of := ok_power_of (P := P) (w := w) (base := base) T
  have G_power_below := ok_power_below (P := P) (w := w) (base := base) T
  obtain ⟨ds1, DV_number, BD_number⟩ := T.b_number1
  refine T.F_place_on_turns.ok sc_place_on_turns (fun vs H Q E h => ?_) (fun cdv A outer s H vs Q E hr h => ?_)
  · obtain ⟨sc, pc, p, low, many, len, e, f, n, rfl, _⟩ := h
    rfl
  obtain ⟨sc, pc, p, low, many, len, e, f, n, rfl, S, R, hn, q0, q1⟩ := h
  have p2 := S.p2
  have p10 := S.p10
  have a1 := S.w1
  have a2 := S.w2
  have m1 := S.m1
  have m2 := S.m2
  have l1 := S.l1
  have l2 := S.l2
  refine ⟨_, (psc (ps_set (i := 2) sc_place_on_turns.nd rfl (Or.inl rfl) (pe_ix ixt (pv 0) pei (fun _ _ => rfl)))
  (psc (ps_if (pt_cmpR op_le (pe_ix ixt (pv 1) pei (fun _ _ => rfl)) pei (nomark _)) (pso (ps_ret pe_str)) pss_nil)
  (psc (ps_set (i := 3) sc_place_on_turns.nd rfl (Or.inl rfl) (pe_call G_power_below (hr.mono (by decide)) rfl T.m_power_below T.k_power_below T.b_power_below .nil pass0 (pcn (pv 2) (pcn (pv 1) pnl))))
  (psc (ps_set (i := 4) sc_place_on_turns.nd rfl (Or.inl rfl) (pe_op op_sub (pv 3) (pe_ix ixt (pv 0) pei (fun _ _ => rfl))))
  (psc (ps_if (PW.pt (pw_or (pt_cmpR op_lt (pv 4) pei (nomark _)) (pw_or1 (pt_cmpR op_gt (pv 4) (pe_ix ixt (pv 0) pei (fun _ _ => rfl)) (nomark _))))) (pso (ps_ret pe_str)) pss_nil)
  (psc (ps_set (i := 5) sc_place_on_turns.nd rfl (Or.inl rfl) (pe_call G_power_of (hr.mono (by decide)) rfl T.m_power_of T.k_power_of T.b_power_of .nil pass0 (pcn (pv 2) (pcn (pv 3) pnl))))
  (psc (ps_set (i := 6) sc_place_on_turns.nd rfl (Or.inl rfl) (pe_call G_over (hr.mono (by decide)) rfl T.m_over T.k_over T.b_over .nil pass0 (pcn (pe_call G_minus (hr.mono (by decide)) rfl T.m_minus T.k_minus T.b_minus .nil pass0 (pcn (pv 1) (pcn (pv 5) pnl))) (pcn (pe_call G_times (hr.mono (by decide)) rfl T.m_times T.k_times T.b_times .nil pass0 (pcn (pv 5) (pcn (pe_call G_number (hr.mono (by decide)) rfl T.m_number T.k_number BD_number DV_number passE0 (pcn (pe_op op_sub (pv 2) pei) pnl)) pnl))) pnl))))
  (psc (ps_if (PW.pt (pw_and (pt_cmpR op_eq (pv 4) (pe_ix ixt (pv 0) pei (fun _ _ => rfl)) (nomark _)) (pw_and1 (pt_cmpR op_ne (pe_ix ixt (pv 6) pei (fun _ _ => rfl)) pei (nomark _))))) (pso (ps_ret pe_str)) pss_nil)
  (pso (ps_ret (pe_call G_times (hr.mono (by decide)) rfl T.m_times T.k_times T.b_times .nil pass0 (pcn (pe_call G_plus (hr.mono (by decide)) rfl T.m_plus T.k_plus T.b_plus .nil pass0 (pcn (pe_call G_number (hr.mono (by decide)) rfl T.m_number T.k_number BD_number DV_number passE0 (pcn (pv 4) pnl)) (pcn (pv 6) pnl))) (pcn (pe_call G_number (hr.mono (by decide)) rfl T.m_number T.k_number T.b_number .nil passE0 (pcn (pe_ix ixt (pv 0) pei (fun _ _ => rfl)) (pcn (pe_ix ixt (pv 0) pei (fun _ _ => rfl)) pnl))) pnl))))))))))))), ?_⟩
  refine ⟨_, rfl, _, _, _, _, rfl, rfl, S.s, rfl, ?_⟩
  refine ⟨_, rfl, _, _, _, _, rfl, rfl, R.s, at0 _ _, _, _, rfl, rfl, _, rfl, ?_⟩
  by_cases he : e ≤ 0
  · exact iteDT he (q0 he)
  refine iteDF he ?_
  refine ⟨_, rfl, _, rfl, pc, p, e, f, n, rfl, p2, p10, R, by omega, by omega, fun E hB hE1 hE2 => ?_⟩
  obtain ⟨qo, qp, qi⟩ := q1 (by omega) E hB hE1 hE2
  refine ⟨_, rfl, _, rfl, _, _, _, _, rfl, rfl, S.s, rfl, _, _, rfl, rfl, ?_⟩
  refine ⟨_, rfl, _, _, rfl, rfl, _, rfl, ?_⟩
  by_cases t0 : E - low < 0
  · exact iteDT t0 (qo (.inl (by omega)))
  refine iteDF t0 ?_
  refine ⟨_, rfl, _, rfl, _, _, _, _, rfl, rfl, S.s, rfl, _, _, rfl, rfl, _, rfl, ?_⟩
  by_cases t1 : E - low > many
  · exact iteDT t1 (qo (.inr (by omega)))
  refine iteDF t1 ?_
  refine ⟨_, rfl, _, rfl, p, E, rfl, p2, p10, by omega, by omega, fun p1 H1 x1 y1 s1 R1 g1 v1 => ?_⟩
  refine ⟨_, rfl, _, rfl, _, _, _, _, _, _, _, _, rfl, R.keep s1, R1, by omega, True.intro, fun p2' H2 x2 y2 s2 R2 g2 v2 => ?_⟩
  refine ⟨_, rfl, _, rfl, _, _, rfl, rfl, _, _, 60, rfl, b60_of (by omega) (by omega), b60_1, by decide, by decide, fun p3 H3 x3 y3 s3 R3 g3 v3 => ?_⟩
  refine ⟨_, _, _, _, _, _, _, _, rfl, R1.keep (s2.trans s3), R3, by omega, True.intro, fun p4 H4 x4 y4 s4 R4 g4 v4 => ?_⟩
  have nz : x4 ≠ 0 := qv_top (by
    rw [v4, v1, v3, My.qv_int]
    exact fun z => by
      rcases Rat.mul_eq_zero.mp z with z | z
      · exact zp_ne p2 E z
      · exact My.cast_ne (show p - 1 ≠ 0 by omega) z)
  refine ⟨_, _, _, _, _, _, _, _, rfl, R2.keep (s3.trans s4), R4, by omega, nz, fun p5 H5 x5 y5 s5 R5 g5 v5 => ?_⟩
  have hpart : My.qv x5 y5 = partOf p E (My.qv e f) := by rw [v5, v2, v4, v1, v3, My.qv_int]; rfl
  have sA := s1.trans (s2.trans (s3.trans (s4.trans s5)))
  have fin : (E = low + many → partOf p E (My.qv e f) = 0) → NewQ K H Q (9 * n + 195) ((((E - low : Int) : Rat) + partOf p E (My.qv e f)) * My.qv len many) := fun z => qi (by omega) (by omega) z
  refine ⟨_, rfl, _, rfl, _, _, _, _, rfl, rfl, sA.tup S.s, rfl, rfl, _, rfl, ?_⟩
  by_cases te : E - low = many
  · refine iteDT (congrArg V.int te) ?_
    refine ⟨_, rfl, _, _, _, _, rfl, rfl, R5.s, at0 _ _, rfl, _, rfl, ?_⟩
    by_cases x0 : x5 = 0
    · refine iteNS (congrArg V.int x0) ?_
      have q := fin (fun _ => by rw [← hpart]; exact qv_zero x0)
      refine ⟨_, rfl, _, _, 60, rfl, b60_of (by omega) (by omega), b60_1, by decide, by decide, fun p6 H6 x6 y6 s6 R6 g6 v6 => ?_⟩
      refine ⟨_, rfl, _, _, _, _, _, _, _, _, rfl, R6, R5.keep s6, by omega, True.intro, fun p7 H7 x7 y7 s7 R7 g7 v7 => ?_⟩
      have sB := sA.trans (s6.trans s7)
      refine ⟨_, rfl, _, _, _, _, rfl, rfl, sB.tup S.s, rfl, _, rfl, _, _, _, _, rfl, rfl, sB.tup S.s, rfl, _, _, 60, rfl, b60_of (by omega) (by omega), b60_of (by omega) (by omega), by decide, by omega, fun p8 H8 x8 y8 s8 R8 g8 v8 => ?_⟩
      refine ⟨_, _, _, _, _, _, _, _, rfl, R7.keep s8, R8, by omega, True.intro, fun p9 H9 x9 y9 s9 R9 g9 v9 => ?_⟩
      exact q p9 H9 x9 y9 (sB.trans (s8.trans s9)) (R9.up (by omega)) g9 (by rw [v9, v7, v6, v8, hpart, My.qv_int])
    · refine iteNF (fun z => x0 (V.int.inj z)) ?_
      refine qp (by omega) (by omega) (fun z => x0 ?_) H5 sA
      have z2 : My.qv x5 y5 = 0 := hpart.trans z
      have z3 := My.eq_of_qv R5.ne (show (1 : Int) ≠ 0 by decide) (z2.trans (show (0 : Rat) = My.qv 0 1 from (qv_zero rfl).symm))
      omega
  · refine iteDF (fun z => te (V.int.inj z)) ?_
    refine iteF ?_
    have q := fin (fun z => absurd (show E - low = many by omega) te)
    refine ⟨_, rfl, _, _, 60, rfl, b60_of (by omega) (by omega), b60_1, by decide, by decide, fun p6 H6 x6 y6 s6 R6 g6 v6 => ?_⟩
    refine ⟨_, rfl, _, _, _, _, _, _, _, _, rfl, R6, R5.keep s6, by omega, True.intro, fun p7 H7 x7 y7 s7 R7 g7 v7 => ?_⟩
    have sB := sA.trans (s6.trans s7)
    refine ⟨_, rfl, _, _, _, _, rfl, rfl, sB.tup S.s, rfl, _, rfl, _, _, _, _, rfl, rfl, sB.tup S.s, rfl, _, _, 60, rfl, b60_of (by omega) (by omega), b60_of (by omega) (by omega), by decide, by omega, fun p8 H8 x8 y8 s8 R8 g8 v8 => ?_⟩
    refine ⟨_, _, _, _, _, _, _, _, rfl, R7.keep s8, R8, by omega, True.intro, fun p9 H9 x9 y9 s9 R9 g9 v9 => ?_⟩
    exact q p9 H9 x9 y9 (sB.trans (s8.trans s9)) (R9.up (by omega)) g9 (by rw [v9, v7, v6, v8, hpart, My.qv_int])
structure Pc where
  (ad pl ph : Addr)
  (a b c d f t : Int)
structure PcOk (K : PySem.W.Frag) (H : Hp) (n : Nat) (x : Pc) : Prop where
  s : SqT K H x.ad [.ref x.pl, .ref x.ph, .int x.f, .int x.t]
  lo : Pr K H x.pl x.a x.b n
  hi : Pr K H x.ph x.c x.d n
  lt : x.a * x.d < x.c * x.b
  f0 : 0 ≤ x.f
  ft : x.f < x.t
  t9 : x.t ≤ 4000
theorem PcOk.keep {K : PySem.W.Frag} {H H' : Hp} {n : Nat} {x : Pc} (h : PcOk K H n x) (e : Same H H') : PcOk K H' n x := ⟨e.tup h.s, h.lo.keep e, h.hi.keep e, h.lt, h.f0, h.ft, h.t9⟩
theorem span_ne {a b c d : Int} (hb : b ≠ 0) (hd : d ≠ 0) (h : a * d < c * b) : My.qv c d - My.qv a b ≠ 0 := fun z => by
  have z2 : My.qv c d = My.qv a b := by grind
  have z3 := My.eq_of_qv hd hb z2
  omega
theorem PcOk.span {K : PySem.W.Frag} {H : Hp} {n : Nat} {x : Pc} (h : PcOk K H n x) : My.qv x.c x.d - My.qv x.a x.b ≠ 0 := span_ne h.lo.ne h.hi.ne h.lt
structure BrkS (K : PySem.W.Frag) (H : Hp) (sc ps : Addr) (pcs : List Pc) (len : Int) (n : Nat) : Prop where
  s : SqT K H sc [.str "broken", .ref ps, .int len]
  l : SqL K H ps (pcs.map fun x => V.ref x.ad)
  ok : ∀ x ∈ pcs, PcOk K H n x
  ne : pcs ≠ []
  hn : n ≤ 300
theorem BrkS.keep {K : PySem.W.Frag} {H H' : Hp} {sc ps : Addr} {pcs : List Pc} {len : Int} {n : Nat} (h : BrkS K H sc ps pcs len n) (e : Same H H') : BrkS K H' sc ps pcs len n := ⟨e.tup h.s, e.seq h.l, fun x hx => (h.ok x hx).keep e, h.ne, h.hn⟩
noncomputable def win (e f : Int) (x : Pc) : Bool := inB e f x.a x.b x.c x.d
noncomputable def outw (e f : Int) (pcs : List Pc) : Bool := match pcs.head?, pcs.getLast? with
  | some x, some y => inB e f x.a x.b y.c y.d
  | _, _ => false
theorem list_first {α : Type} {xs : List α} (h : xs ≠ []) : ∃ x, xs.head? = some x ∧ xs[0]? = some x ∧ x ∈ xs := by
  cases xs with
  | nil => exact absurd rfl h
  | cons x r => exact ⟨x, rfl, rfl, List.mem_cons_self⟩
theorem list_last {α : Type} {xs : List α} (h : xs ≠ []) : ∃ x, xs.getLast? = some x ∧ xs[xs.length - 1]? = some x ∧ x ∈ xs := by
  refine ⟨xs.getLast h, List.getLast?_eq_some_getLast h, ?_, List.getLast_mem h⟩
  rw [← List.getLast?_eq_getElem?, List.getLast?_eq_some_getLast h]
theorem atI_first {α : Type} {xs : List α} {x : α} (h : xs[0]? = some x) : atI xs 0 = some x := atI_nat (j := 0) h
theorem atI_last {α : Type} {xs : List α} {x : α} (h : xs[xs.length - 1]? = some x) : atI xs (-1) = some x := by
  have hl : 0 < xs.length := by
    rcases Nat.eq_zero_or_pos xs.length with z | z
    · rw [List.getElem?_eq_none (by omega)] at h; cases h
    · exact z
  unfold atI ixN
  rw [if_neg (by decide), if_pos (by omega)]
  show xs[(-1 + (xs.length : Int)).toNat]? = some x
  rw [show (-1 + (xs.length : Int)).toNat = xs.length - 1 by omega]
  exact h
theorem map_at {α β : Type} {g : α → β} {xs : List α} {j : Nat} {x : α} (h : xs[j]? = some x) : (xs.map g)[j]? = some (g x) := by rw [List.getElem?_map, h]; rfl
theorem of_map_at {α β : Type} {g : α → β} {xs : List α} {j : Nat} {v : β} (h : (xs.map g)[j]? = some v) : ∃ x, xs[j]? = some x ∧ v = g x := by
  rw [List.getElem?_map] at h
  cases q : xs[j]? with
  | none => rw [q] at h; cases h
  | some x => rw [q] at h; exact ⟨x, rfl, (Option.some.inj h).symm⟩
theorem find_here {α : Type} {p : α → Bool} {xs : List α} {x : α} {i : Nat} (h : ∀ j y, j < i → xs[j]? = some y → p y = false) (hx : xs[i]? = some x) (hp : p x = true) : xs.find? p = some x := by
  induction xs generalizing i with
  | nil => simp at hx
  | cons y r ih =>
    cases i with
    | zero =>
      rw [List.getElem?_cons_zero] at hx
      cases hx
      rw [List.find?_cons, hp]
    | succ i =>
      rw [List.find?_cons, h 0 y (by omega) rfl]
      exact ih (i := i) (fun j z hj hz => h (j + 1) z (by omega) (by rw [List.getElem?_cons_succ]; exact hz)) (by rw [List.getElem?_cons_succ] at hx; exact hx)
theorem find_none {α : Type} {p : α → Bool} {xs : List α} (h : ∀ j y, j < xs.length → xs[j]? = some y → p y = false) : xs.find? p = none := by
  rw [List.find?_eq_none]
  intro y hy
  obtain ⟨j, hj, e⟩ := List.getElem_of_mem hy
  rw [h j y hj (by rw [List.getElem?_eq_getElem hj, e])]
  exact Bool.false_ne_true
noncomputable def sp_pbroken (K : PySem.W.Frag) : Sp := fun vs H Q _ => ∃ (sc ps pc : Addr) (pcs : List Pc) (len e f : Int) (n1 n : Nat), vs = [.ref sc, .ref pc] ∧ BrkS K H sc ps pcs len n ∧ Pr K H pc e f n1 ∧ n1 + 3 * n + 140 ≤ 3900 ∧
  (∀ x, pcs.find? (win e f) = some x → NewQ K H Q (n1 + 3 * n + 140) ((x.f : Rat) + (My.qv e f - My.qv x.a x.b) / (My.qv x.c x.d - My.qv x.a x.b) * ((x.t - x.f : Int) : Rat))) ∧
  (pcs.find? (win e f) = none → Q (.str (if outw e f pcs = true then "gap" else "outside")) H)
theorem ok_place_on_broken (T : Txt K mg t) : FnOk P w K mg base CX0 5 t.f_place_on_broken t.d_place_on_broken ["scale", "cell"] (sp_pbroken K) := by
  have G_is_within := ok_is_within (P := P) (w := w) (base := base) T
  have G_straight_place := ok_straight_place (P := P) (w := w) (base := base) T
  refine T.F_place_on_broken.ok sc_place_on_broken (fun vs H Q E h => ?_) (fun cdv A outer s H vs Q E hr h => ?_)
  · obtain ⟨sc, ps, pc, pcs, len, e, f, n1, n, rfl, _⟩ := h
    rfl
  obtain ⟨sc, ps, pc, pcs, len, e, f, n1, n, rfl, S, R, hn1, qi, qo⟩ := h
  have hS := S.s
  have hL := S.l
  have hn := S.hn
  refine ⟨_, (psc (ps_set (i := 2) sc_place_on_broken.nd rfl (Or.inl rfl) (pe_ix ixt (pv 0) pei (fun _ _ => rfl)))
  (psc (ps_for PassesOwn.never rfl (pi_list (pv 2)) (pg_name (i := 3) sc_place_on_broken.nd rfl (Or.inl rfl)) (pso (ps_if (pt_val (pe_call G_is_within (hr.mono (by decide)) rfl T.m_is_within T.k_is_within T.b_is_within .nil pass0 (pcn (pv 1) (pcn (pe_ix ixt (pv 3) pei (fun _ _ => rfl)) (pcn (pe_ix ixt (pv 3) pei (fun _ _ => rfl)) pnl))))) (pso (ps_ret (pe_call G_straight_place (hr.mono (by decide)) rfl T.m_straight_place T.k_straight_place T.b_straight_place .nil pass0 (pcn (pv 1) (pcn (pe_ix ixt (pv 3) pei (fun _ _ => rfl)) (pcn (pe_ix ixt (pv 3) pei (fun _ _ => rfl)) (pcn (pe_ix ixt (pv 3) pei (fun _ _ => rfl)) (pcn (pe_ix ixt (pv 3) pei (fun _ _ => rfl)) pnl)))))))) pss_nil)))
  (pso (ps_ret (pe_ifExp (pt_val (pe_call G_is_within (hr.mono (by decide)) rfl T.m_is_within T.k_is_within T.b_is_within .nil pass0 (pcn (pv 1) (pcn (pe_ix ixt (pe_ix ixl (pv 2) pei (fun _ _ => rfl)) pei (fun _ _ => rfl)) (pcn (pe_ix ixt (pe_ix ixl (pv 2) (pe_un un_neg pei) (fun _ _ => rfl)) pei (fun _ _ => rfl)) pnl))))) pe_str pe_str))))), z_go (σ := [some _, some _, none, none]) rfl ?_⟩
  walk_at "run"
  refine f_list (K := K) (xs := pcs.map fun x => V.ref x.ad) (fun i σ H2 => (∃ u, σ = [some (.ref sc), some (.ref pc), some (.ref ps), u]) ∧ H2 = H ∧ ∀ j y, j < i → pcs[j]? = some y → win e f y = false) ⟨⟨none, rfl⟩, rfl, fun j y hj => absurd hj (Nat.not_lt_zero _)⟩ (fun i σ H2 _ ⟨_, e2, _⟩ => by subst e2; exact hL) ?_ ?_
  · rintro i v σ H2 hi ⟨⟨u, rfl⟩, rfl, hw⟩
    obtain ⟨y, hy, rfl⟩ := of_map_at hi
    have OK := S.ok y (List.mem_of_getElem? hy)
    have k1 := OK.s
    have k2 := OK.lo
    have k3 := OK.hi
    have k4 := OK.f0
    have k5 := OK.ft
    have k6 := OK.t9
    have k7 := OK.span
    walk_at "run"
    refine z_ite2 (fun hb => ?_) (fun hb => ?_)
    · have q := qi y (find_here hw hy hb)
      walk_at "run"
      rename_i p1 H1 x1 y1 s1 R1 g1 v1
      exact q p1 H1 x1 y1 s1 R1 g1 v1
    · walk_at "run"
      refine ⟨⟨_, rfl⟩, rfl, fun j z hj hz => ?_⟩
      rcases Nat.lt_succ_iff_lt_or_eq.mp hj with h1 | h1
      · exact hw j z h1 hz
      · subst h1
        rw [hy] at hz
        cases hz
        exact hb
  · rintro σ H2 ⟨⟨u, rfl⟩, rfl, hw⟩
    have q := qo (find_none fun j y hj hy => hw j y (by rw [List.length_map]; exact hj) hy)
    obtain ⟨x, x1, x2, x3⟩ := list_first S.ne
    obtain ⟨z, z1, z2, z3⟩ := list_last S.ne
    have eo : outw e f pcs = inB e f x.a x.b z.c z.d := by unfold outw; rw [x1, z1]
    rw [eo] at q
    have ox := S.ok x x3
    have oz := S.ok z z3
    have k1 := ox.s
    have k2 := ox.lo
    have k3 := oz.s
    have k4 := oz.hi
    have a0 : atI (pcs.map fun x => V.ref x.ad) 0 = some (.ref x.ad) := atI_first (map_at x2)
    have a1 : atI (pcs.map fun x => V.ref x.ad) (-1) = some (.ref z.ad) := atI_last (by rw [List.length_map]; exact map_at z2)
    walk_at "run"
    refine z_ixL hL a0 ?_
    walk_at "run"
    refine z_ixL hL a1 ?_
    walk_at "run"
    refine z_ite2 (fun hb => ?_) (fun hb => ?_)
    · rw [hb] at q
      exact q
    · rw [hb] at q
      exact q
structure StrS (K : PySem.W.Frag) (H : Hp) (sc pl ph : Addr) (a b c d len : Int) (n : Nat) : Prop where
  s : SqT K H sc [.str "straight", .ref pl, .ref ph, .int len]
  lo : Pr K H pl a b n
  hi : Pr K H ph c d n
  hn : n ≤ 300
  l1 : 1 ≤ len
  l2 : len ≤ 4000
  lt : a * d < c * b
structure DayS (K : PySem.W.Frag) (H : Hp) (sc : Addr) (f l len : Int) : Prop where
  s : SqT K H sc [.str "days", .int f, .int l, .int len]
  f0 : 0 ≤ f
  lt : f < l
  l9 : l ≤ 4000000
  l1 : 1 ≤ len
  l2 : len ≤ 4000
theorem StrS.keep {K : PySem.W.Frag} {H H' : Hp} {sc pl ph : Addr} {a b c d len : Int} {n : Nat} (h : StrS K H sc pl ph a b c d len n) (e : Same H H') : StrS K H' sc pl ph a b c d len n := ⟨e.tup h.s, h.lo.keep e, h.hi.keep e, h.hn, h.l1, h.l2, h.lt⟩
theorem DayS.keep {K : PySem.W.Frag} {H H' : Hp} {sc : Addr} {f l len : Int} (h : DayS K H sc f l len) (e : Same H H') : DayS K H' sc f l len := ⟨e.tup h.s, h.f0, h.lt, h.l9, h.l1, h.l2⟩
noncomputable def sp_pstraight (K : PySem.W.Frag) : Sp := fun vs H Q _ => ∃ (sc pl ph pc : Addr) (a b c d e f len : Int) (n1 n : Nat), vs = [.ref sc, .ref pc] ∧ StrS K H sc pl ph a b c d len n ∧ Pr K H pc e f n1 ∧ n1 + 3 * n + 140 ≤ 3900 ∧ (inB e f a b c d = false → Q (.str "outside") H) ∧
  (inB e f a b c d = true → NewQ K H Q (n1 + 3 * n + 140) ((My.qv e f - My.qv a b) / (My.qv c d - My.qv a b) * (len : Rat)))
noncomputable def sp_pdays (K : PySem.W.Frag) : Sp := fun vs H Q _ => ∃ (sc : Addr) (f l len c : Int), vs = [.ref sc, .int c] ∧ DayS K H sc f l len ∧ 0 ≤ c ∧ c ≤ 4000000 ∧ (¬ (f ≤ c ∧ c ≤ l) → Q (.str "outside") H) ∧ (f ≤ c → c ≤ l → NewQ K H Q 130 (My.qv ((c - f) * len) (l - f)))
theorem ok_place_on_straight (T : Txt K mg t) : FnOk P w K mg base CX0 5 t.f_place_on_straight t.d_place_on_straight ["scale", "cell"] (sp_pstraight K) := by
  have G_is_within := ok_is_within (P := P) (w := w) (base := base) T
  have G_straight_place := ok_straight_place (P := P) (w := w) (base := base) T
  refine T.F_place_on_straight.ok sc_place_on_straight (fun vs H Q E h => ?_) (fun cdv A outer s H vs Q E hr h => ?_)
  · obtain ⟨sc, pl, ph, pc, a, b, c, d, e, f, len, n1, n, rfl, _⟩ := h
    rfl
  obtain ⟨sc, pl, ph, pc, a, b, c, d, e, f, len, n1, n, rfl, S, P1, hn1, qo, qi⟩ := h
  have l1 := S.l1
  have l2 := S.l2
  have k1 := S.s
  have k2 := S.lo
  have k3 := S.hi
  have hn := S.hn
  have k4 := span_ne S.lo.ne S.hi.ne S.lt
  refine ⟨_, (psc (ps_if (pt_not (pt_val (pe_call G_is_within (hr.mono (by decide)) rfl T.m_is_within T.k_is_within T.b_is_within .nil pass0 (pcn (pv 1) (pcn (pe_ix ixt (pv 0) pei (fun _ _ => rfl)) (pcn (pe_ix ixt (pv 0) pei (fun _ _ => rfl)) pnl)))))) (pso (ps_ret pe_str)) pss_nil)
  (pso (ps_ret (pe_call G_straight_place (hr.mono (by decide)) rfl T.m_straight_place T.k_straight_place T.b_straight_place .nil pass0 (pcn (pv 1) (pcn (pe_ix ixt (pv 0) pei (fun _ _ => rfl)) (pcn (pe_ix ixt (pv 0) pei (fun _ _ => rfl)) (pcn pei (pcn (pe_ix ixt (pv 0) pei (fun _ _ => rfl)) pnl))))))))), z_go (σ := [some _, some _]) rfl ?_⟩
  walk_at "run"
  refine z_ite2 (fun hb => ?_) (fun hb => ?_)
  · have q := qi hb
    walk_at "run"
    rename_i p1 H1 x1 y1 s1 R1 g1 v1
    refine q p1 H1 x1 y1 s1 R1 g1 (v1.trans ?_)
    rw [Int.sub_zero]
    grind
  · have q := qo hb
    walk_at "run"
    exact q
theorem ok_place_on_days (T : Txt K mg t) : FnOk P w K mg base CX0 3 t.f_place_on_days t.d_place_on_days ["scale", "cell"] (sp_pdays K) := by
  have G_number := ok_number (P := P) (w := w) (base := base) T
  refine T.F_place_on_days.ok sc_place_on_days (fun vs H Q E h => ?_) (fun cdv A outer s H vs Q E hr h => ?_)
  · obtain ⟨sc, f, l, len, c, rfl, _⟩ := h
    rfl
  obtain ⟨sc, f, l, len, c, rfl, S, c0, c9, qo, qi⟩ := h
  have l1 := S.l1
  have l2 := S.l2
  have f0 := S.f0
  have lt := S.lt
  have l9 := S.l9
  have k1 := S.s
  refine ⟨_, (psc (ps_if (pt_not (pt_chain op_le op_le (pe_ix ixt (pv 0) pei (fun _ _ => rfl)) (pv 1) (pe_ix ixt (pv 0) pei (fun _ _ => rfl)))) (pso (ps_ret pe_str)) pss_nil)
  (pso (ps_ret (pe_call G_number (hr.mono (by decide)) rfl T.m_number T.k_number T.b_number .nil passE0 (pcn (pe_op op_mulB (pe_op op_sub (pv 1) (pe_ix ixt (pv 0) pei (fun _ _ => rfl))) (pe_ix ixt (pv 0) pei (fun _ _ => rfl))) (pcn (pe_op op_sub (pe_ix ixt (pv 0) pei (fun _ _ => rfl)) (pe_ix ixt (pv 0) pei (fun _ _ => rfl))) pnl)))))), z_go (σ := [some _, some _]) rfl ?_⟩
  walk_at "run"
  refine z_iteD (fun h1 => ?_) (fun h1 => ?_)
  · walk_at "run"
    refine z_iteD (fun h2 => ?_) (fun h2 => ?_)
    rotate_left
    · walk_at "run"
      exact qo fun z => h2 z.2
    · have q := qi h1 h2
      walk_at "run"
      rename_i p1 H1 x1 y1 s1 R1 g1 v1
      exact q p1 H1 x1 y1 s1 (R1.up (by decide)) g1 v1
  · walk_at "run"
    exact qo fun z => h1 z.1
structure OrdS (K : PySem.W.Frag) (H : Hp) (sc ps : Addr) (ws : List Str) (len : Int) : Prop where
  s : SqT K H sc [.str "order", .ref ps, .int len]
  l : SqL K H ps (ws.map V.str)
  n1 : 1 ≤ ws.length
  n2 : ws.length ≤ 60
  l1 : 1 ≤ len
  l2 : len ≤ 4000
noncomputable def sp_pord (K : PySem.W.Frag) : Sp := fun vs H Q _ => ∃ (sc ps : Addr) (ws : List Str) (len : Int) (z : Str), vs = [.ref sc, .str z] ∧ OrdS K H sc ps ws len ∧ (z ∉ ws → Q (.str "unknown") H) ∧ (∀ j : Nat, ixS ws z = some j → NewQ K H Q 400 (My.qv ((2 * (j : Int) + 1) * len) (2 * (ws.length : Int))))
theorem z_idxS {K : PySem.W.Frag} {H : Hp} {Q : VK} {p : Addr} {ws : List Str} {z : Str} {j : Nat} (h : SqL K H p (ws.map V.str)) (hj : ixS ws z = some j) (k : Q (.int (j : Nat)) H) : rIndex K (.ref p) [.str z] H Q := by
  obtain ⟨e1, e2⟩ := ixS_is hj
  refine z_index (z := .str z) h rfl flat_str (by rw [List.getElem?_map, e1]; rfl) (show (z == z) = true from beq_self_eq_true z) (fun i u hi hu => ?_) k
  rw [List.getElem?_map] at hu
  cases e : ws[i]? with
  | none => rw [e] at hu; cases hu
  | some x =>
    rw [e] at hu
    cases hu
    have := e2 i x hi e
    show (x == z) = false
    simpa using this
theorem z_notinS {K : PySem.W.Frag} {H : Hp} {Q : VK} {p : Addr} {ws : List Str} {z : Str} (h : SqL K H p (ws.map V.str)) (k : Q (.bl (!decide (z ∈ ws))) H) : rIn K true (.str z) (.ref p) H Q := z_in h rfl flat_str (by rw [inV_str]; exact k)
theorem ok_place_on_order (T : Txt K mg t) : FnOk P w K mg base CX0 3 t.f_place_on_order t.d_place_on_order ["scale", "cell"] (sp_pord K) := by
  have G_number := ok_number (P := P) (w := w) (base := base) T
  refine T.F_place_on_order.ok sc_place_on_order (fun vs H Q E h => ?_) (fun cdv A outer s H vs Q E hr h => ?_)
  · obtain ⟨sc, ps, ws, len, z, rfl, _⟩ := h
    rfl
  obtain ⟨sc, ps, ws, len, z, rfl, S, qo, qi⟩ := h
  have k1 := S.s
  have k2 : SqL K H ps (ws.map V.str) := S.l
  have l1 := S.l1
  have l2 := S.l2
  have n1 := S.n1
  have n2 := S.n2
  refine ⟨_, (psc (ps_if (pt_cmpR op_notIn_seq (pv 1) (pe_ix ixt (pv 0) pei (fun _ _ => rfl)) rfl) (pso (ps_ret pe_str)) pss_nil)
  (pso (ps_ret (pe_call G_number (hr.mono (by decide)) rfl T.m_number T.k_number T.b_number .nil passE0 (pcn (pe_op op_mulB (pe_op op_add (pe_op op_mulB pei (pe_bm PySem.F.plainAttrs_list PySem.F.slot_list_index PySem.F.type_list_index mt_index (pe_ix ixt (pv 0) pei (fun _ _ => rfl)) (pcn (pv 1) pnl))) pei) (pe_ix ixt (pv 0) pei (fun _ _ => rfl))) (pcn (pe_op op_mulB pei (pe_callB call_len_seq rfl T.z_len PySem.boot_len (pcn (pe_ix ixt (pv 0) pei (fun _ _ => rfl)) pnl))) pnl)))))), z_go (σ := [some _, some _]) rfl ?_⟩
  walk_at "run"
  refine z_notinS k2 ?_
  walk_at "run"
  refine z_iteD (fun h1 => ?_) (fun h1 => ?_)
  rotate_left
  · walk_at "run"
    exact qo h1
  · obtain ⟨j, hj⟩ := ixS_mem h1
    have hl : j < ws.length := (List.getElem?_eq_some_iff.mp (ixS_is hj).1).1
    have hm : (ws.map V.str).length = ws.length := List.length_map ..
    walk_at "run"
    refine z_tyL k2 ?_
    walk_at "run"
    refine z_idxS k2 hj ?_
    walk_at "run"
    rename_i p1 H1 x1 y1 s1 R1 g1 v1
    exact qi j hj p1 H1 x1 y1 s1 (R1.up (by decide)) g1 (by rw [v1, hm])
noncomputable def sp_placeon (K : PySem.W.Frag) : Sp := fun vs H Q E => (∃ sc : Addr, vs = [.ref sc, .non] ∧ Q (.str "nothing") H) ∨ sp_pstraight K vs H Q E ∨ sp_pturns K vs H Q E ∨ sp_pbroken K vs H Q E ∨ sp_pdays K vs H Q E ∨ sp_pord K vs H Q E
theorem ok_place_on (T : Txt K mg t) : FnOk P w K mg base CX0 6 t.f_place_on t.d_place_on ["scale", "cell"] (sp_placeon K) := by
  have G_place_on_straight := ok_place_on_straight (P := P) (w := w) (base := base) T
  have G_place_on_turns := ok_place_on_turns (P := P) (w := w) (base := base) T
  have G_place_on_broken := ok_place_on_broken (P := P) (w := w) (base := base) T
  have G_place_on_days := ok_place_on_days (P := P) (w := w) (base := base) T
  have G_place_on_order := ok_place_on_order (P := P) (w := w) (base := base) T
  refine T.F_place_on.ok sc_place_on (fun vs H Q E h => ?_) (fun cdv A outer s H vs Q E hr h => ?_)
  · rcases h with ⟨sc, rfl, _⟩ | ⟨sc, pl, ph, pc, a, b, c, d, e, f, len, n1, n, rfl, _⟩ | ⟨sc, pc, p, low, many, len, e, f, n, rfl, _⟩ | ⟨sc, ps, pc, pcs, len, e, f, n1, n, rfl, _⟩ | ⟨sc, f, l, len, c, rfl, _⟩ | ⟨sc, ps, ws, len, z, rfl, _⟩ <;> rfl
  rcases h with ⟨sc, rfl, q⟩ | h | h | h | h | h
  · refine ⟨_, (psc (ps_if (pt_cmpR op_isN' (pv 1) pe_non (nomark _)) (pso (ps_ret pe_str)) pss_nil)
  (psc (ps_if (pt_cmpR op_eq (pe_ix ixt (pv 0) pei (fun _ _ => rfl)) pe_str (nomark _)) (pso (ps_ret (pe_call G_place_on_straight (hr.mono (by decide)) rfl T.m_place_on_straight T.k_place_on_straight T.b_place_on_straight .nil pass0 (pcn (pv 0) (pcn (pv 1) pnl))))) pss_nil)
  (psc (ps_if (pt_cmpR op_eq (pe_ix ixt (pv 0) pei (fun _ _ => rfl)) pe_str (nomark _)) (pso (ps_ret (pe_call G_place_on_turns (hr.mono (by decide)) rfl T.m_place_on_turns T.k_place_on_turns T.b_place_on_turns .nil pass0 (pcn (pv 0) (pcn (pv 1) pnl))))) pss_nil)
  (psc (ps_if (pt_cmpR op_eq (pe_ix ixt (pv 0) pei (fun _ _ => rfl)) pe_str (nomark _)) (pso (ps_ret (pe_call G_place_on_broken (hr.mono (by decide)) rfl T.m_place_on_broken T.k_place_on_broken T.b_place_on_broken .nil pass0 (pcn (pv 0) (pcn (pv 1) pnl))))) pss_nil)
  (psc (ps_if (pt_cmpR op_eq (pe_ix ixt (pv 0) pei (fun _ _ => rfl)) pe_str (nomark _)) (pso (ps_ret (pe_call G_place_on_days (hr.mono (by decide)) rfl T.m_place_on_days T.k_place_on_days T.b_place_on_days .nil pass0 (pcn (pv 0) (pcn (pv 1) pnl))))) pss_nil)
  (pso (ps_ret (pe_call G_place_on_order (hr.mono (by decide)) rfl T.m_place_on_order T.k_place_on_order T.b_place_on_order .nil pass0 (pcn (pv 0) (pcn (pv 1) pnl)))))))))), z_go (σ := [some _, some _]) rfl ?_⟩
    walk_at "run"
    exact q
  · obtain ⟨sc, pl, ph, pc, a, b, c, d, e, f, len, n1, n, rfl, S, rest⟩ := h
    have k1 := S.s
    refine ⟨_, (psc (ps_if (pt_cmpR op_isN' (pv 1) pe_non (nomark _)) (pso (ps_ret pe_str)) pss_nil)
  (psc (ps_if (pt_cmpR op_eq (pe_ix ixt (pv 0) pei (fun _ _ => rfl)) pe_str (nomark _)) (pso (ps_ret (pe_call G_place_on_straight (hr.mono (by decide)) rfl T.m_place_on_straight T.k_place_on_straight T.b_place_on_straight .nil pass0 (pcn (pv 0) (pcn (pv 1) pnl))))) pss_nil)
  (psc (ps_if (pt_cmpR op_eq (pe_ix ixt (pv 0) pei (fun _ _ => rfl)) pe_str (nomark _)) (pso (ps_ret (pe_call G_place_on_turns (hr.mono (by decide)) rfl T.m_place_on_turns T.k_place_on_turns T.b_place_on_turns .nil pass0 (pcn (pv 0) (pcn (pv 1) pnl))))) pss_nil)
  (psc (ps_if (pt_cmpR op_eq (pe_ix ixt (pv 0) pei (fun _ _ => rfl)) pe_str (nomark _)) (pso (ps_ret (pe_call G_place_on_broken (hr.mono (by decide)) rfl T.m_place_on_broken T.k_place_on_broken T.b_place_on_broken .nil pass0 (pcn (pv 0) (pcn (pv 1) pnl))))) pss_nil)
  (psc (ps_if (pt_cmpR op_eq (pe_ix ixt (pv 0) pei (fun _ _ => rfl)) pe_str (nomark _)) (pso (ps_ret (pe_call G_place_on_days (hr.mono (by decide)) rfl T.m_place_on_days T.k_place_on_days T.b_place_on_days .nil pass0 (pcn (pv 0) (pcn (pv 1) pnl))))) pss_nil)
  (pso (ps_ret (pe_call G_place_on_order (hr.mono (by decide)) rfl T.m_place_on_order T.k_place_on_order T.b_place_on_order .nil pass0 (pcn (pv 0) (pcn (pv 1) pnl)))))))))), z_go (σ := [some _, some _]) rfl ?_⟩
    walk_at "run"
    refine z_iteD (fun _ => ?_) (fun z => absurd rfl z)
    walk_at "run"
    exact ⟨sc, pl, ph, pc, a, b, c, d, e, f, len, n1, n, rfl, S, rest⟩
  · obtain ⟨sc, pc, p, low, many, len, e, f, n, rfl, S, rest⟩ := h
    have k1 := S.s
    refine ⟨_, (psc (ps_if (pt_cmpR op_isN' (pv 1) pe_non (nomark _)) (pso (ps_ret pe_str)) pss_nil)
  (psc (ps_if (pt_cmpR op_eq (pe_ix ixt (pv 0) pei (fun _ _ => rfl)) pe_str (nomark _)) (pso (ps_ret (pe_call G_place_on_straight (hr.mono (by decide)) rfl T.m_place_on_straight T.k_place_on_straight T.b_place_on_straight .nil pass0 (pcn (pv 0) (pcn (pv 1) pnl))))) pss_nil)
  (psc (ps_if (pt_cmpR op_eq (pe_ix ixt (pv 0) pei (fun _ _ => rfl)) pe_str (nomark _)) (pso (ps_ret (pe_call G_place_on_turns (hr.mono (by decide)) rfl T.m_place_on_turns T.k_place_on_turns T.b_place_on_turns .nil pass0 (pcn (pv 0) (pcn (pv 1) pnl))))) pss_nil)
  (psc (ps_if (pt_cmpR op_eq (pe_ix ixt (pv 0) pei (fun _ _ => rfl)) pe_str (nomark _)) (pso (ps_ret (pe_call G_place_on_broken (hr.mono (by decide)) rfl T.m_place_on_broken T.k_place_on_broken T.b_place_on_broken .nil pass0 (pcn (pv 0) (pcn (pv 1) pnl))))) pss_nil)
  (psc (ps_if (pt_cmpR op_eq (pe_ix ixt (pv 0) pei (fun _ _ => rfl)) pe_str (nomark _)) (pso (ps_ret (pe_call G_place_on_days (hr.mono (by decide)) rfl T.m_place_on_days T.k_place_on_days T.b_place_on_days .nil pass0 (pcn (pv 0) (pcn (pv 1) pnl))))) pss_nil)
  (pso (ps_ret (pe_call G_place_on_order (hr.mono (by decide)) rfl T.m_place_on_order T.k_place_on_order T.b_place_on_order .nil pass0 (pcn (pv 0) (pcn (pv 1) pnl)))))))))), z_go (σ := [some _, some _]) rfl ?_⟩
    walk_at "run"
    refine z_iteD (fun z => absurd z (by decide)) (fun _ => ?_)
    walk_at "run"
    refine z_iteD (fun _ => ?_) (fun z => absurd rfl z)
    walk_at "run"
    exact ⟨sc, pc, p, low, many, len, e, f, n, rfl, S, rest⟩
  · obtain ⟨sc, ps, pc, pcs, len, e, f, n1, n, rfl, S, rest⟩ := h
    have k1 := S.s
    refine ⟨_, (psc (ps_if (pt_cmpR op_isN' (pv 1) pe_non (nomark _)) (pso (ps_ret pe_str)) pss_nil)
  (psc (ps_if (pt_cmpR op_eq (pe_ix ixt (pv 0) pei (fun _ _ => rfl)) pe_str (nomark _)) (pso (ps_ret (pe_call G_place_on_straight (hr.mono (by decide)) rfl T.m_place_on_straight T.k_place_on_straight T.b_place_on_straight .nil pass0 (pcn (pv 0) (pcn (pv 1) pnl))))) pss_nil)
  (psc (ps_if (pt_cmpR op_eq (pe_ix ixt (pv 0) pei (fun _ _ => rfl)) pe_str (nomark _)) (pso (ps_ret (pe_call G_place_on_turns (hr.mono (by decide)) rfl T.m_place_on_turns T.k_place_on_turns T.b_place_on_turns .nil pass0 (pcn (pv 0) (pcn (pv 1) pnl))))) pss_nil)
  (psc (ps_if (pt_cmpR op_eq (pe_ix ixt (pv 0) pei (fun _ _ => rfl)) pe_str (nomark _)) (pso (ps_ret (pe_call G_place_on_broken (hr.mono (by decide)) rfl T.m_place_on_broken T.k_place_on_broken T.b_place_on_broken .nil pass0 (pcn (pv 0) (pcn (pv 1) pnl))))) pss_nil)
  (psc (ps_if (pt_cmpR op_eq (pe_ix ixt (pv 0) pei (fun _ _ => rfl)) pe_str (nomark _)) (pso (ps_ret (pe_call G_place_on_days (hr.mono (by decide)) rfl T.m_place_on_days T.k_place_on_days T.b_place_on_days .nil pass0 (pcn (pv 0) (pcn (pv 1) pnl))))) pss_nil)
  (pso (ps_ret (pe_call G_place_on_order (hr.mono (by decide)) rfl T.m_place_on_order T.k_place_on_order T.b_place_on_order .nil pass0 (pcn (pv 0) (pcn (pv 1) pnl)))))))))), z_go (σ := [some _, some _]) rfl ?_⟩
    walk_at "run"
    refine z_iteD (fun z => absurd z (by decide)) (fun _ => ?_)
    walk_at "run"
    refine z_iteD (fun z => absurd z (by decide)) (fun _ => ?_)
    walk_at "run"
    refine z_iteD (fun _ => ?_) (fun z => absurd rfl z)
    walk_at "run"
    exact ⟨sc, ps, pc, pcs, len, e, f, n1, n, rfl, S, rest⟩
  · obtain ⟨sc, f, l, len, c, rfl, S, rest⟩ := h
    have k1 := S.s
    refine ⟨_, (psc (ps_if (pt_cmpR op_isN' (pv 1) pe_non (nomark _)) (pso (ps_ret pe_str)) pss_nil)
  (psc (ps_if (pt_cmpR op_eq (pe_ix ixt (pv 0) pei (fun _ _ => rfl)) pe_str (nomark _)) (pso (ps_ret (pe_call G_place_on_straight (hr.mono (by decide)) rfl T.m_place_on_straight T.k_place_on_straight T.b_place_on_straight .nil pass0 (pcn (pv 0) (pcn (pv 1) pnl))))) pss_nil)
  (psc (ps_if (pt_cmpR op_eq (pe_ix ixt (pv 0) pei (fun _ _ => rfl)) pe_str (nomark _)) (pso (ps_ret (pe_call G_place_on_turns (hr.mono (by decide)) rfl T.m_place_on_turns T.k_place_on_turns T.b_place_on_turns .nil pass0 (pcn (pv 0) (pcn (pv 1) pnl))))) pss_nil)
  (psc (ps_if (pt_cmpR op_eq (pe_ix ixt (pv 0) pei (fun _ _ => rfl)) pe_str (nomark _)) (pso (ps_ret (pe_call G_place_on_broken (hr.mono (by decide)) rfl T.m_place_on_broken T.k_place_on_broken T.b_place_on_broken .nil pass0 (pcn (pv 0) (pcn (pv 1) pnl))))) pss_nil)
  (psc (ps_if (pt_cmpR op_eq (pe_ix ixt (pv 0) pei (fun _ _ => rfl)) pe_str (nomark _)) (pso (ps_ret (pe_call G_place_on_days (hr.mono (by decide)) rfl T.m_place_on_days T.k_place_on_days T.b_place_on_days .nil pass0 (pcn (pv 0) (pcn (pv 1) pnl))))) pss_nil)
  (pso (ps_ret (pe_call G_place_on_order (hr.mono (by decide)) rfl T.m_place_on_order T.k_place_on_order T.b_place_on_order .nil pass0 (pcn (pv 0) (pcn (pv 1) pnl)))))))))), z_go (σ := [some _, some _]) rfl ?_⟩
    walk_at "run"
    refine z_iteD (fun z => absurd z (by decide)) (fun _ => ?_)
    walk_at "run"
    refine z_iteD (fun z => absurd z (by decide)) (fun _ => ?_)
    walk_at "run"
    refine z_iteD (fun z => absurd z (by decide)) (fun _ => ?_)
    walk_at "run"
    refine z_iteD (fun _ => ?_) (fun z => absurd rfl z)
    walk_at "run"
    exact ⟨sc, f, l, len, c, rfl, S, rest⟩
  · obtain ⟨sc, ps, ws, len, z, rfl, S, rest⟩ := h
    have k1 := S.s
    refine ⟨_, (psc (ps_if (pt_cmpR op_isN' (pv 1) pe_non (nomark _)) (pso (ps_ret pe_str)) pss_nil)
  (psc (ps_if (pt_cmpR op_eq (pe_ix ixt (pv 0) pei (fun _ _ => rfl)) pe_str (nomark _)) (pso (ps_ret (pe_call G_place_on_straight (hr.mono (by decide)) rfl T.m_place_on_straight T.k_place_on_straight T.b_place_on_straight .nil pass0 (pcn (pv 0) (pcn (pv 1) pnl))))) pss_nil)
  (psc (ps_if (pt_cmpR op_eq (pe_ix ixt (pv 0) pei (fun _ _ => rfl)) pe_str (nomark _)) (pso (ps_ret (pe_call G_place_on_turns (hr.mono (by decide)) rfl T.m_place_on_turns T.k_place_on_turns T.b_place_on_turns .nil pass0 (pcn (pv 0) (pcn (pv 1) pnl))))) pss_nil)
  (psc (ps_if (pt_cmpR op_eq (pe_ix ixt (pv 0) pei (fun _ _ => rfl)) pe_str (nomark _)) (pso (ps_ret (pe_call G_place_on_broken (hr.mono (by decide)) rfl T.m_place_on_broken T.k_place_on_broken T.b_place_on_broken .nil pass0 (pcn (pv 0) (pcn (pv 1) pnl))))) pss_nil)
  (psc (ps_if (pt_cmpR op_eq (pe_ix ixt (pv 0) pei (fun _ _ => rfl)) pe_str (nomark _)) (pso (ps_ret (pe_call G_place_on_days (hr.mono (by decide)) rfl T.m_place_on_days T.k_place_on_days T.b_place_on_days .nil pass0 (pcn (pv 0) (pcn (pv 1) pnl))))) pss_nil)
  (pso (ps_ret (pe_call G_place_on_order (hr.mono (by decide)) rfl T.m_place_on_order T.k_place_on_order T.b_place_on_order .nil pass0 (pcn (pv 0) (pcn (pv 1) pnl)))))))))), z_go (σ := [some _, some _]) rfl ?_⟩
    walk_at "run"
    refine z_iteD (fun z => absurd z (by decide)) (fun _ => ?_)
    walk_at "run"
    refine z_iteD (fun z => absurd z (by decide)) (fun _ => ?_)
    walk_at "run"
    refine z_iteD (fun z => absurd z (by decide)) (fun _ => ?_)
    walk_at "run"
    refine z_iteD (fun z => absurd z (by decide)) (fun _ => ?_)
    walk_at "run"
    exact ⟨sc, ps, ws, len, z, rfl, S, rest⟩
local macro_rules | `(tactic| walk_at "tg") => `(tactic| repeat (first | exact Gt.here | apply Gt.next))
local macro_rules | `(tactic| walk_at "ts") => `(tactic| repeat (first | exact Sto.here | apply Sto.next))
local macro_rules | `(tactic| walk_at "rk") => `(tactic| first | exact Rk.fz | ((with_reducible apply Rk.own); (focus ((walk_at "tg"); done))) | ((with_reducible apply Rk.sfz); (focus ((walk_at "tg"); done))) | ((with_reducible apply Rk.vw); (focus ((walk_at "tg"); done))))
local macro_rules | `(tactic| walk_at "tvar") => `(tactic| first | ((with_reducible apply e_var); (focus ((walk_at "tg"); done))) | ((with_reducible apply e_varO); (focus ((walk_at "tg"); done))) | ((with_reducible apply e_varV); (focus ((walk_at "tg"); done))) | ((with_reducible apply e_varW); (focus ((walk_at "tg"); done))))
local macro_rules | `(tactic| walk_at "t1I") => `(tactic| first | walk_at "tvar" | with_reducible (first | refine p_fz ?_ | refine p_nw ?_ | refine p_sl ?_ | refine as_fz ?_ | refine as_nw ?_ | refine aa_fz ?_ | refine aa_nw ?_ | refine aa_wd ?_ | refine e_cI ?_ | refine e_cB ?_ | refine e_cN ?_ | refine e_cS ?_ | refine e_cT ?_ | refine e_cb1 ?_ | refine e_cb2 ?_ | refine e_un ?_ | refine e_andV ?_ | refine e_orV ?_ | refine e_notV ?_ | refine e_if ?_ | refine e_chain ?_ | refine t_test ?_ | refine t_B ?_ | refine t_ebl ?_ | refine t_and ?_ | refine t_or ?_ | refine t_not ?_ | refine t_eint ?_ | refine t_lst ?_ | refine t_tup ?_ | refine a_nil ?_ | refine a_cons ?_ | refine a_ints ?_ | refine w_nil ?_ | refine w_cons ?_ | refine e_tup ?_ | refine e_lst ?_ | refine e_sl ?_ | refine o_no ?_ | refine o_part ?_ | refine s_seq ?_ | refine s_next ?_ | refine s_drop ?_ | refine s_ret ?_ | refine s_asg ?_ | refine s_par ?_ | refine s_for ?_ | refine s_setlc ?_ | refine t_yes ?_ | refine i_rng1 ?_ | refine i_rng2 ?_ | refine iteT ?_ | refine iteF ?_ | refine z_iteNb ?_ | refine gs_nil ?_ | refine gs_cons ?_ | refine rt_fz ?_) | ((with_reducible apply as_own); (focus ((walk_at "tg"); done)); (focus ((walk_at "ts"); done))) | ((with_reducible apply as_sfz); (focus ((walk_at "tg"); done))) | ((with_reducible apply aa_own); (focus ((walk_at "tg"); done)); (focus ((walk_at "ts"); done))) | ((with_reducible apply aa_sfz); (focus ((walk_at "tg"); done))) | ((with_reducible apply g_fz); (focus ((walk_at "ts"); done))) | ((with_reducible apply g_nw); (focus ((walk_at "ts"); done))) | ((with_reducible apply g_sl); (focus ((walk_at "tg"); done)); (focus ((walk_at "ts"); done)); (focus ((walk_at "ts"); done))) | ((with_reducible apply sto2); (focus ((walk_at "ts"); done))) | ((with_reducible apply par2); (focus ((walk_at "ts"); done)); (focus ((walk_at "ts"); done))) | ((with_reducible apply t_len); (focus (exact Nat.le_of_ble_eq_true rfl))) | ((with_reducible apply i_list); (focus rfl)) | ((with_reducible apply i_tup); (focus rfl)) | ((with_reducible apply i_enum); (focus rfl)) | ((with_reducible apply e_bm); (focus rfl)) | ((with_reducible apply e_bm0); (focus rfl)) | ((with_reducible apply g_tup); (focus rfl); (focus rfl)) | ((with_reducible apply e_isiTL); (focus rfl)))
local macro_rules | `(tactic| walk_at "t1") => `(tactic| first | walk_at "t1I" | (with_reducible refine s_ifs ?_))
local macro_rules | `(tactic| walk_at "t2") => `(tactic| first | ((with_reducible apply e_repLit); (focus decide); (focus decide)) | (with_reducible refine e_op ?_) | ((with_reducible apply ro_I); (focus (walk_at "cd"))) | ((with_reducible apply ro_IB); (focus (walk_at "cd"))) | with_reducible (first | refine ro_I0 ?_ | refine ro_I0B ?_ | refine ru_U ?_ | refine ro_EqI ?_ | refine ro_NeI ?_ | refine ro_EqS ?_ | refine ro_NeS ?_ | refine ro_EqB ?_ | refine ro_NeB ?_ | refine ro_isB ?_ | refine ro_notB ?_ | refine ru_abs ?_ | refine ru_toI ?_ | refine ru_toB ?_ | refine ro_max2 ?_ | refine ro_min2 ?_ | refine ru_lenK ?_) | ((with_reducible apply ro_isNT); (focus rfl)) | ((with_reducible apply ro_isNF); (focus rfl)) | ((with_reducible apply ro_notNT); (focus rfl)) | ((with_reducible apply ro_notNF); (focus rfl)) | ((with_reducible apply ro_ixL); (focus rfl); (focus (walk_at "rk")); (focus rfl)) | ((with_reducible apply ro_ixT); (focus rfl); (focus (walk_at "rk")); (focus rfl)) | ((with_reducible apply ru_len); (focus rfl); (focus (walk_at "rk"))) | ((with_reducible apply ru_lenT); (focus rfl); (focus (walk_at "rk"))) | ((with_reducible apply ro_isiT); (focus rfl); (focus rfl); (focus rfl)) | ((with_reducible apply ro_isiF); (focus rfl); (focus rfl); (focus rfl)) | ((with_reducible apply t_efzT); (focus rfl); (focus rfl)) | ((with_reducible apply t_efzF); (focus rfl); (focus rfl)) | ((with_reducible apply ru_list); (focus rfl); (focus (walk_at "rk"))) | ((with_reducible apply ru_listT); (focus rfl); (focus (walk_at "rk"))) | ((with_reducible apply ru_tup); (focus rfl); (focus (walk_at "rk"))) | ((with_reducible apply rs_L); (focus rfl); (focus (walk_at "rk"))) | ((with_reducible apply ty_list); (focus (walk_at "rk"))) | (with_reducible refine ty_str ?_) | ((with_reducible apply rm_append); (focus ((walk_at "tg"); done)); (focus (walk_at "tl")); (focus ((walk_at "ts"); done))) | ((with_reducible apply rm_clear); (focus ((walk_at "tg"); done)); (focus ((walk_at "ts"); done))) | ((with_reducible apply rm_reverse); (focus ((walk_at "tg"); done)); (focus ((walk_at "ts"); done))) | ((with_reducible apply e_call); (focus rfl)) | ((with_reducible apply e_callD0); (focus rfl)))
local macro_rules | `(tactic| walk_at "tl") => `(tactic| first | (exact Nat.le_of_ble_eq_true rfl) | omega | (simp; omega))
local macro_rules | `(tactic| walk_at "trun") => `(tactic| repeat (first | walk_at "t1" | walk_at "t2" | walk_at "tsp"))
local macro_rules | `(tactic| walk_at "tsp") => `(tactic| fail)
local macro_rules | `(tactic| walk_at "trunI") => `(tactic| repeat (first | walk_at "t1I" | walk_at "t2" | walk_at "tsp"))
noncomputable def N2 (a b : Int) : Tr := .tup [.int a, .int b]
noncomputable def st_whole : SpT := fun _ as Φ _ => ∃ t g, as = [.fz t] ∧ tgT t = some g ∧ Φ (.fz (.bl (match g with | .int => true | _ => false)))
theorem ok_l_whole (T : Txt K mg t) : FnOk P w K mg base CX0 1 t.f_l_whole t.d_l_whole ["_law_found"] (toSp K st_whole) := by
  refine T.F_l_whole.ok sc_l_whole (toSp_len (fun B as Φ Ψ h => by obtain ⟨_, _, rfl, _⟩ := h; rfl)) (fun cdv A outer s H vs Q E hr h => ?_)
  obtain ⟨B, as, Φ, Ψ, rfl, hS, hx, go⟩ := toSp_open h
  obtain ⟨t, g, rfl, hg, q⟩ := hS
  refine ⟨_, (pso (ps_ret (pe_and (pe_isi isi_int rfl rfl T.z_isinstance T.z_int bt_int (pv 0)) (pe_one (pe_not (pe_isi isi_bool rfl rfl T.z_isinstance T.z_bool bt_bool (pv 0))))))), go _ _ (s_go (τ := [.fz _]) rfl ?_)⟩
  walk_at "trun"
  refine ro_isi rfl hg ?_
  walk_at "trun"
  cases g with
  | int => refine iteT ?_; walk_at "trun"; refine ro_isi rfl hg ?_; walk_at "trun"; exact q
  | bl => refine iteT ?_; walk_at "trun"; refine ro_isi rfl hg ?_; walk_at "trun"; exact q
  | _ => refine iteF ?_; walk_at "trun"; exact q
noncomputable def Ge (p e f k : Int) : Prop := f * p ^ k.toNat ≤ e * p ^ (-k).toNat
theorem ge_step {p e f k : Int} (p2 : 2 ≤ p) (hf : 0 < f) (he : 0 < e) (h : Ge p e f (k + 1)) : Ge p e f k ∧ f * p ^ k.toNat < e * p ^ (-k).toNat := by
  unfold Ge at *
  rcases (show 0 ≤ k ∨ k < 0 by omega) with z | z
  · have a1 : (k + 1).toNat = k.toNat + 1 := by omega
    have a2 : (-(k + 1)).toNat = 0 := by omega
    have a3 : (-k).toNat = 0 := by omega
    rw [a1, a2, Int.pow_zero, Int.mul_one, Int.pow_succ, ← Int.mul_assoc] at h
    rw [a3, Int.pow_zero, Int.mul_one]
    have w : 0 < f * p ^ k.toNat := Int.mul_pos hf (Int.pow_pos (by omega))
    have w2 : f * p ^ k.toNat * 2 ≤ f * p ^ k.toNat * p := Int.mul_le_mul_of_nonneg_left p2 (Int.le_of_lt w)
    constructor <;> omega
  · have a1 : (k + 1).toNat = 0 := by omega
    have a2 : k.toNat = 0 := by omega
    have a3 : (-k).toNat = (-(k + 1)).toNat + 1 := by omega
    rw [a1, Int.pow_zero, Int.mul_one] at h
    rw [a2, a3, Int.pow_zero, Int.mul_one, Int.pow_succ, ← Int.mul_assoc]
    have w : 0 < e * p ^ (-(k + 1)).toNat := Int.mul_pos he (Int.pow_pos (by omega))
    have w2 : e * p ^ (-(k + 1)).toNat * 2 ≤ e * p ^ (-(k + 1)).toNat * p := Int.mul_le_mul_of_nonneg_left p2 (Int.le_of_lt w)
    constructor <;> omega
theorem ge_down {p e f : Int} (p2 : 2 ≤ p) (hf : 0 < f) (he : 0 < e) : ∀ (n : Nat) (k : Int), Ge p e f (k + n) → Ge p e f k
  | 0, k, h => by simpa using h
  | n + 1, k, h => ge_down p2 hf he n k (ge_step p2 hf he (by rw [show k + (n : Int) + 1 = k + ((n + 1 : Nat) : Int) by omega]; exact h)).1
theorem below_ge {p e f E : Int} (h : Below p e f E) : Ge p e f E ∧ ¬ Ge p e f (E + 1) := by
  obtain ⟨h1, h2⟩ := h
  unfold Ge
  rcases (show 0 ≤ E ∨ E < 0 by omega) with z | z
  · obtain ⟨a1, a2⟩ := h1 z
    have b1 : (-E).toNat = 0 := by omega
    have b2 : (-(E + 1)).toNat = 0 := by omega
    have b3 : (E + 1).toNat = E.toNat + 1 := by omega
    rw [b1, b2, b3, Int.pow_zero, Int.mul_one]
    exact ⟨a1, by omega⟩
  · obtain ⟨a1, a2⟩ := h2 z
    have b1 : E.toNat = 0 := by omega
    have b2 : (E + 1).toNat = 0 := by omega
    have b3 : (-(E + 1)).toNat = (-E - 1).toNat := by omega
    rw [b1, b2, b3, Int.pow_zero, Int.mul_one]
    exact ⟨a1, by omega⟩
theorem below_one {p e f E E' : Int} (p2 : 2 ≤ p) (hf : 0 < f) (he : 0 < e) (h : Below p e f E) (h' : Below p e f E') : E = E' := by
  obtain ⟨g1, g2⟩ := below_ge h
  obtain ⟨g3, g4⟩ := below_ge h'
  rcases Int.lt_trichotomy E E' with w | w | w
  · exact absurd (ge_down p2 hf he (E' - (E + 1)).toNat (E + 1) (by rw [show E + 1 + ((E' - (E + 1)).toNat : Int) = E' by omega]; exact g3)) g2
  · exact w
  · exact absurd (ge_down p2 hf he (E - (E' + 1)).toNat (E' + 1) (by rw [show E' + 1 + ((E - (E' + 1)).toNat : Int) = E by omega]; exact g1)) g4
abbrev Pi6 := Int × Int × Int × Int × Int × Int
inductive Sc where
  | str (a b c d len : Int) | tur (p low many len : Int) | brk (ps : List Pi6) (len : Int) | day (f l len : Int) | ord (ws : List Str) (len : Int)
inductive Ce where
  | no | num (e f : Int) | day (c : Int) | wd (z : Str)
noncomputable def pcT (x : Pi6) : Tr := .tup [N2 x.1 x.2.1, N2 x.2.2.1 x.2.2.2.1, .int x.2.2.2.2.1, .int x.2.2.2.2.2]
noncomputable def Sc.tr : Sc → Tr
  | .str a b c d len => .tup [.str "straight", N2 a b, N2 c d, .int len]
  | .tur p low many len => .tup [.str "turns", .int p, .int low, .int many, .int len]
  | .brk ps len => .tup [.str "broken", .lst (ps.map pcT), .int len]
  | .day f l len => .tup [.str "days", .int f, .int l, .int len]
  | .ord ws len => .tup [.str "order", .lst (ws.map Tr.str), .int len]
noncomputable def Ce.tr : Ce → Tr
  | .no => .non
  | .num e f => N2 e f
  | .day c => .int c
  | .wd z => .str z
structure NumOk (a b : Int) : Prop where
  pos : 0 < b
  ba : My.Bd 260 a
  bb : My.Bd 260 b
noncomputable def ScOk : Sc → Prop
  | .str a b c d len => NumOk a b ∧ NumOk c d ∧ a * d < c * b ∧ 1 ≤ len ∧ len ≤ 4000
  | .tur p low many len => 2 ≤ p ∧ p ≤ 10 ∧ -200 ≤ low ∧ low ≤ 200 ∧ 1 ≤ many ∧ many ≤ 400 ∧ 1 ≤ len ∧ len ≤ 4000
  | .brk ps len => ps ≠ [] ∧ ps.length ≤ 100 ∧ (∀ x ∈ ps, NumOk x.1 x.2.1 ∧ NumOk x.2.2.1 x.2.2.2.1 ∧ x.1 * x.2.2.2.1 < x.2.2.1 * x.2.1 ∧ 0 ≤ x.2.2.2.2.1 ∧ x.2.2.2.2.1 < x.2.2.2.2.2 ∧ x.2.2.2.2.2 ≤ 4000) ∧ 1 ≤ len ∧ len ≤ 4000
  | .day f l len => 0 ≤ f ∧ f < l ∧ l ≤ 4000000 ∧ 1 ≤ len ∧ len ≤ 4000
  | .ord ws len => 1 ≤ ws.length ∧ ws.length ≤ 60 ∧ 1 ≤ len ∧ len ≤ 4000
noncomputable def Fit : Sc → Ce → Prop
  | _, .no => True
  | .str _ _ _ _ _, .num e f => NumOk e f
  | .tur _ _ _ _, .num e f => NumOk e f
  | .brk _ _, .num e f => NumOk e f
  | .day _ _ _, .day c => 0 ≤ c ∧ c ≤ 4000000
  | .ord _ _, .wd _ => True
  | _, _ => False
inductive Pl where
  | tx (z : Str) | at (q : Rat)
noncomputable def win6 (e f : Int) (x : Pi6) : Bool := inB e f x.1 x.2.1 x.2.2.1 x.2.2.2.1
noncomputable def out6 (e f : Int) (ps : List Pi6) : Bool := match ps.head?, ps.getLast? with
  | some x, some y => inB e f x.1 x.2.1 y.2.2.1 y.2.2.2.1
  | _, _ => false
noncomputable def along (e f : Int) (x : Pi6) : Rat := (x.2.2.2.2.1 : Rat) + (My.qv e f - My.qv x.1 x.2.1) / (My.qv x.2.2.1 x.2.2.2.1 - My.qv x.1 x.2.1) * ((x.2.2.2.2.2 - x.2.2.2.2.1 : Int) : Rat)
noncomputable def tvE (p low many len e f E : Int) : Pl :=
  if E < low ∨ low + many < E then .tx "outside" else if E = low + many ∧ partOf p E (My.qv e f) ≠ 0 then .tx "outside" else .at ((((E - low : Int) : Rat) + partOf p E (My.qv e f)) * My.qv len many)
noncomputable def Pls : Sc → Ce → Pl → Prop
  | _, .no, r => r = .tx "nothing"
  | .str a b c d len, .num e f, r => r = if inB e f a b c d = true then .at ((My.qv e f - My.qv a b) / (My.qv c d - My.qv a b) * (len : Rat)) else .tx "outside"
  | .tur p low many len, .num e f, r => (e ≤ 0 → r = .tx "nought") ∧ (0 < e → ∃ E, Below p e f E ∧ r = tvE p low many len e f E)
  | .brk ps _, .num e f, r => r = match ps.find? (win6 e f) with
    | some x => .at (along e f x)
    | none => .tx (if out6 e f ps = true then "gap" else "outside")
  | .day f l len, .day c, r => r = if f ≤ c ∧ c ≤ l then .at (My.qv ((c - f) * len) (l - f)) else .tx "outside"
  | .ord ws len, .wd z, r => r = match ixS ws z with
    | some j => .at (My.qv ((2 * (j : Int) + 1) * len) (2 * (ws.length : Int)))
    | none => .tx "unknown"
  | _, _, _ => False
theorem Pls.one {s : Sc} {c : Ce} {r r' : Pl} (hs : ScOk s) (hc : Fit s c) (h : Pls s c r) (h' : Pls s c r') : r = r' := by
  cases c with
  | no => cases s <;> exact h.trans h'.symm
  | num e f =>
    cases s with
    | str a b c d len => exact h.trans h'.symm
    | brk ps len => exact h.trans h'.symm
    | tur p low many len =>
      rcases (show e ≤ 0 ∨ 0 < e by omega) with z | z
      · rw [h.1 z, h'.1 z]
      · obtain ⟨E, b1, e1⟩ := h.2 z
        obtain ⟨E', b2, e2⟩ := h'.2 z
        have := below_one hs.1 hc.pos z b1 b2
        rw [e1, e2, this]
    | day f l len => exact hc.elim
    | ord ws len => exact hc.elim
  | day c =>
    cases s with
    | day f l len => exact h.trans h'.symm
    | _ => exact hc.elim
  | wd z =>
    cases s with
    | ord ws len => exact h.trans h'.symm
    | _ => exact hc.elim
noncomputable def numT (q : Rat) : Tr := N2 q.num q.den
noncomputable def plT : Pl → Tr
  | .tx z => .str z
  | .at q => numT q
structure QB (q : Rat) : Prop where
  n : My.Bd 3000 q.num
  d : My.Bd 3000 (q.den : Int)
noncomputable def PB : Pl → Prop
  | .tx _ => True
  | .at q => QB q
theorem qv_num {x y : Int} {q : Rat} (hy : 0 < y) (g : Int.gcd x y = 1) (e : My.qv x y = q) : x = q.num ∧ y = (q.den : Int) := by
  have hd : (0 : Int) < (q.den : Int) := Int.natCast_pos.mpr q.den_pos
  have e2 : My.qv q.num q.den = q := by
    show (q.num : Rat) / ((q.den : Int) : Rat) = q
    rw [← Rat.divInt_eq_div]
    exact Rat.num_divInt_den q
  refine My.low_unique hy hd g ?_ (My.eq_of_qv (by omega) (by omega) (e.trans e2.symm))
  have := q.reduced
  show Nat.gcd q.num.natAbs (q.den : Int).natAbs = 1
  exact this
noncomputable def st_place : SpT := fun _ as Φ _ => ∃ s c, as = [.fz s.tr, .fz c.tr] ∧ ScOk s ∧ Fit s c ∧ ∀ r, Pls s c r → PB r → Φ (.fz (plT r))
theorem isN2 {K : PySem.W.Frag} {F : Hp} {v : V} {a b : Int} (h : Is K F v (N2 a b)) : ∃ p, v = .ref p ∧ SqT K F p [.int a, .int b] := by
  cases h with
  | tup s l =>
    obtain ⟨v1, v2, rfl, h1, h2⟩ := isl2 l
    cases h1
    cases h2
    exact ⟨_, rfl, s⟩
theorem isl3 {K : PySem.W.Frag} {F : Hp} {vs : List V} {t u x : Tr} (h : IsL K F vs [t, u, x]) : ∃ a b c, vs = [a, b, c] ∧ Is K F a t ∧ Is K F b u ∧ Is K F c x := by
  cases h with
  | cons a b => obtain ⟨_, _, rfl, h1, h2⟩ := isl2 b; exact ⟨_, _, _, rfl, a, h1, h2⟩
theorem isl4 {K : PySem.W.Frag} {F : Hp} {vs : List V} {t u x y : Tr} (h : IsL K F vs [t, u, x, y]) : ∃ a b c d, vs = [a, b, c, d] ∧ Is K F a t ∧ Is K F b u ∧ Is K F c x ∧ Is K F d y := by
  cases h with
  | cons a b => obtain ⟨_, _, _, rfl, h1, h2, h3⟩ := isl3 b; exact ⟨_, _, _, _, rfl, a, h1, h2, h3⟩
theorem isl5 {K : PySem.W.Frag} {F : Hp} {vs : List V} {t u x y z : Tr} (h : IsL K F vs [t, u, x, y, z]) : ∃ a b c d e, vs = [a, b, c, d, e] ∧ Is K F a t ∧ Is K F b u ∧ Is K F c x ∧ Is K F d y ∧ Is K F e z := by
  cases h with
  | cons a b => obtain ⟨_, _, _, _, rfl, h1, h2, h3, h4⟩ := isl4 b; exact ⟨_, _, _, _, _, rfl, a, h1, h2, h3, h4⟩
theorem NumOk.pr {K : PySem.W.Frag} {H : Hp} {p : Addr} {a b : Int} (h : NumOk a b) (s : SqT K H p [.int a, .int b]) : Pr K H p a b 260 := ⟨s, h.pos, h.ba, h.bb⟩
theorem pcs_of {K : PySem.W.Frag} {F H : Hp} (i : Same F H) : ∀ {ps : List Pi6} {vs : List V}, IsL K F vs (ps.map pcT) → (∀ x ∈ ps, NumOk x.1 x.2.1 ∧ NumOk x.2.2.1 x.2.2.2.1 ∧ x.1 * x.2.2.2.1 < x.2.2.1 * x.2.1 ∧ 0 ≤ x.2.2.2.2.1 ∧ x.2.2.2.2.1 < x.2.2.2.2.2 ∧ x.2.2.2.2.2 ≤ 4000) →
    ∃ pcs : List Pc, vs = pcs.map (fun x => V.ref x.ad) ∧ (∀ x ∈ pcs, PcOk K H 260 x) ∧ pcs.map (fun x => ((x.a, x.b, x.c, x.d, x.f, x.t) : Pi6)) = ps
  | [], _, .nil, _ => ⟨[], rfl, fun _ h => absurd h List.not_mem_nil, rfl⟩
  | (a, b, c, d, f, t) :: r, _, .cons h g, ok => by
    obtain ⟨pcs, e1, e2, e3⟩ := pcs_of i g (fun x hx => ok x (List.mem_cons_of_mem _ hx))
    obtain ⟨k1, k2, k3, k4, k5, k6⟩ := ok _ List.mem_cons_self
    cases h with
    | tup s l =>
      obtain ⟨v1, v2, v3, v4, rfl, h1, h2, h3, h4⟩ := isl4 l
      obtain ⟨p1, rfl, s1⟩ := isN2 h1
      obtain ⟨p2, rfl, s2⟩ := isN2 h2
      cases h3
      cases h4
      refine ⟨⟨_, p1, p2, a, b, c, d, f, t⟩ :: pcs, by rw [e1]; rfl, List.forall_mem_cons.mpr ⟨⟨i.tup s, k1.pr (i.tup s1), k2.pr (i.tup s2), k3, k4, k5, k6⟩, e2⟩, by rw [List.map_cons, e3]⟩
theorem find_map {α β : Type} (g : α → β) (q : β → Bool) : ∀ xs : List α, (xs.map g).find? q = (xs.find? fun x => q (g x)).map g
  | [] => rfl
  | x :: r => by
    rw [List.map_cons, List.find?_cons, List.find?_cons, find_map g q r]
    cases q (g x) <;> rfl
theorem okT_place_on (T : Txt K mg t) : FnOk P w K mg base CX0 6 t.f_place_on t.d_place_on ["scale", "cell"] (toSp K st_place) := by
  refine (ok_place_on (P := P) (w := w) (base := base) T).imp fun vs H Q E h => ?_
  obtain ⟨B, as, Φ, Ψ, rfl, rfl, bk, la, ⟨s, c, rfl, hs, hc, φ⟩, q, _⟩ := h
  obtain ⟨v, w', rfl, iv, iw⟩ := arl2 la
  have i := bk.i
  -- a text comes back
  have tx : ∀ z H', Same B.H0 H' → Pls s c (.tx z) → Q (.str z) H' := fun z H' sH hz => q (.str z) _ H' (.fz (.str z)) (upT bk rfl rfl sH) .str (φ _ hz trivial)
  -- a number comes back
  have nm : ∀ n v, n ≤ 3000 → Pls s c (.at v) → NewQ B.K B.H0 Q n v := fun n v hn hz p H' x y sH r g e => by
    obtain ⟨e1, e2⟩ := qv_num r.pos g e
    have u := upT bk rfl rfl sH
    refine q (.ref p) _ H' (.fz (numT v)) u ?_ (φ _ hz ⟨by rw [← e1]; exact r.ba.mono hn, by rw [← e2]; exact r.bb.mono hn⟩)
    show Is B.K _ (.ref p) (N2 v.num v.den)
    rw [← e1, ← e2]
    exact .tup (SqT.addT (i.trans sH) r.s) (.cons .int (.cons .int .nil))
  cases c with
  | no =>
    cases iw
    have : ∃ sc, v = .ref sc := by cases s <;> (cases iv; exact ⟨_, rfl⟩)
    obtain ⟨sc, rfl⟩ := this
    exact .inl ⟨sc, rfl, tx _ _ (Same.refl _) (by cases s <;> rfl)⟩
  | num e f =>
    obtain ⟨pc, rfl, sp⟩ := isN2 iw
    cases s with
    | str a b c d len =>
      obtain ⟨k1, k2, k3, k4, k5⟩ := hs
      cases iv with
      | tup s0 l =>
        obtain ⟨v1, v2, v3, v4, rfl, h1, h2, h3, h4⟩ := isl4 l
        cases h1
        obtain ⟨p1, rfl, s1⟩ := isN2 h2
        obtain ⟨p2, rfl, s2⟩ := isN2 h3
        cases h4
        refine .inr (.inl ⟨_, p1, p2, pc, a, b, c, d, e, f, len, 260, 260, rfl, ⟨i.tup s0, k1.pr (i.tup s1), k2.pr (i.tup s2), by decide, k4, k5, k3⟩, hc.pr (i.tup sp), by decide, fun hb => tx _ _ (Same.refl _) ?_, fun hb => nm _ _ (by decide) ?_⟩)
        · show _ = _; rw [hb]; rfl
        · show _ = _; rw [hb]; rfl
    | tur p low many len =>
      obtain ⟨k1, k2, k3, k4, k5, k6, k7, k8⟩ := hs
      cases iv with
      | tup s0 l =>
        obtain ⟨v1, v2, v3, v4, v5, rfl, h1, h2, h3, h4, h5⟩ := isl5 l
        cases h1; cases h2; cases h3; cases h4; cases h5
        refine .inr (.inr (.inl ⟨_, pc, p, low, many, len, e, f, 260, rfl, ⟨i.tup s0, k1, k2, k3, k4, k5, k6, k7, k8⟩, hc.pr (i.tup sp), by decide, fun he => tx _ _ (Same.refl _) ⟨fun _ => rfl, fun z => by omega⟩, fun he E hE _ _ => ⟨fun z => tx _ _ (Same.refl _) ⟨fun z => by omega, fun _ => ⟨E, hE, ?_⟩⟩, fun z1 z2 z3 H' sH => tx _ _ sH ⟨fun z => by omega, fun _ => ⟨E, hE, ?_⟩⟩, fun z1 z2 z3 => nm _ _ (by decide) ⟨fun z => by omega, fun _ => ⟨E, hE, ?_⟩⟩⟩⟩))
        · unfold tvE; rw [if_pos z]
        · unfold tvE; rw [if_neg (by omega), if_pos ⟨z2, z3⟩]
        · unfold tvE; rw [if_neg (by omega), if_neg fun y => y.2 (z3 y.1)]
    | brk ps len =>
      obtain ⟨k0, _, k1, k2, k3⟩ := hs
      cases iv with
      | tup s0 l =>
        obtain ⟨v1, v2, v3, rfl, h1, h2, h3⟩ := isl3 l
        cases h1; cases h3
        cases h2 with
        | lst s1 l1 =>
          obtain ⟨pcs, rfl, e2, e3⟩ := pcs_of i l1 k1
          have fe : ps.find? (win6 e f) = (pcs.find? (win e f)).map (fun x => ((x.a, x.b, x.c, x.d, x.f, x.t) : Pi6)) := by rw [← e3, find_map]; rfl
          refine .inr (.inr (.inr (.inl ⟨_, _, pc, pcs, len, e, f, 260, 260, rfl, ⟨i.tup s0, i.seq s1, e2, fun z => k0 (by rw [← e3, z]; rfl), by decide⟩, hc.pr (i.tup sp), by decide, fun x hx => nm _ _ (by decide) ?_, fun hx => tx _ _ (Same.refl _) ?_⟩)))
          · show _ = _
            rw [fe, hx]; rfl
          · show _ = _
            rw [fe, hx]
            show Pl.tx _ = .tx _
            have : out6 e f ps = outw e f pcs := by
              unfold out6 outw
              rw [← e3, List.head?_map, List.getLast?_map]
              cases pcs.head? <;> cases pcs.getLast? <;> rfl
            rw [this]
    | day f l len => exact hc.elim
    | ord ws len => exact hc.elim
  | day c =>
    cases s with
    | day f l len =>
      obtain ⟨k1, k2, k3, k4, k5⟩ := hs
      cases iw
      cases iv with
      | tup s0 l0 =>
        obtain ⟨v1, v2, v3, v4, rfl, h1, h2, h3, h4⟩ := isl4 l0
        cases h1; cases h2; cases h3; cases h4
        refine .inr (.inr (.inr (.inr (.inl ⟨_, f, l, len, c, rfl, ⟨i.tup s0, k1, k2, k3, k4, k5⟩, hc.1, hc.2, fun z => tx _ _ (Same.refl _) ?_, fun z1 z2 => nm _ _ (by decide) ?_⟩))))
        · show _ = _; rw [if_neg z]
        · show _ = _; rw [if_pos ⟨z1, z2⟩]
    | _ => exact hc.elim
  | wd z =>
    cases s with
    | ord ws len =>
      obtain ⟨k1, k2, k4, k5⟩ := hs
      cases iw
      cases iv with
      | tup s0 l0 =>
        obtain ⟨v1, v2, v3, rfl, h1, h2, h3⟩ := isl3 l0
        cases h1; cases h3
        cases h2 with
        | lst s1 l1 =>
          rw [l1.strs] at s1
          refine .inr (.inr (.inr (.inr (.inr ⟨_, _, ws, len, z, rfl, ⟨i.tup s0, i.seq s1, k1, k2, k4, k5⟩, fun hz => tx _ _ (Same.refl _) ?_, fun j hj => nm _ _ (by decide) ?_⟩))))
          · show _ = _
            have : ixS ws z = none := by
              cases e : ixS ws z with
              | none => rfl
              | some j => exact absurd (List.mem_of_getElem? (ixS_is e).1) hz
            rw [this]
          · show _ = _; rw [hj]
    | _ => exact hc.elim
noncomputable def plD : Pl := .tx ""
noncomputable def pvl (s : Sc) (c : Ce) : Pl := @Classical.epsilon Pl ⟨plD⟩ (Pls s c)
theorem pvl_is {s : Sc} {c : Ce} {r : Pl} (hs : ScOk s) (hc : Fit s c) (h : Pls s c r) : pvl s c = r := Pls.one hs hc (@Classical.epsilon_spec_aux Pl ⟨plD⟩ (Pls s c) ⟨r, h⟩) h
theorem pvl_ok {s : Sc} {c : Ce} {r : Pl} (h : Pls s c r) : Pls s c (pvl s c) := @Classical.epsilon_spec_aux Pl ⟨plD⟩ (Pls s c) ⟨r, h⟩
theorem a_place {B : Bk} {s : Sc} {c : Ce} {Φ : Kd → Prop} {Ψ : Addr → Prop} (hs : ScOk s) (hc : Fit s c) (q : PB (pvl s c) → Φ (.fz (plT (pvl s c)))) : st_place B [.fz s.tr, .fz c.tr] Φ Ψ :=
  ⟨s, c, rfl, hs, hc, fun r hr hb => by rw [← pvl_is hs hc hr] at hb ⊢; exact q hb⟩
noncomputable def rnd (q : Rat) : Int := (2 * q.num + (q.den : Int)) / (2 * (q.den : Int))
noncomputable def st_round : SpT := fun _ as Φ _ => ∃ q : Rat, as = [.fz (numT q)] ∧ QB q ∧ Φ (.fz (.int (rnd q)))
theorem okT_rounded (T : Txt K mg t) : FnOk P w K mg base CX0 1 t.f_rounded t.d_rounded ["one"] (toSp K st_round) := by
  refine T.F_rounded.ok sc_rounded (toSp_len (fun B as Φ Ψ h => by obtain ⟨_, rfl, _⟩ := h; rfl)) (fun cdv A outer s H vs Q E hr h => ?_)
  obtain ⟨B, as, Φ, Ψ, rfl, hS, hx, go⟩ := toSp_open h
  obtain ⟨q, rfl, hq, φ⟩ := hS
  have hd : (0 : Int) < (q.den : Int) := Int.natCast_pos.mpr q.den_pos
  have b1 := hq.n
  have b2 := hq.d
  unfold numT N2 at *
  refine ⟨_, (pso (ps_ret (pe_op op_fdivB (pe_op op_add (pe_op op_mulB pei (pe_ix ixt (pv 0) pei (fun _ _ => rfl))) (pe_ix ixt (pv 0) pei (fun _ _ => rfl))) (pe_op op_mulB pei (pe_ix ixt (pv 0) pei (fun _ _ => rfl)))))), go _ _ (s_go (τ := [.fz _]) rfl ?_)⟩
  walk_at "trun"
  exact φ
theorem a_round {B : Bk} {q : Rat} {Φ : Kd → Prop} {Ψ : Addr → Prop} (h : QB q) (k : Φ (.fz (.int (rnd q)))) : st_round B [.fz (numT q)] Φ Ψ := ⟨q, rfl, h, k⟩
structure Fd where
  (sx sy : Sc)
  (x0 y0 w h : Int)
noncomputable def Fd.tr (f : Fd) : Tr := .tup [f.sx.tr, f.sy.tr, .int f.x0, .int f.y0, .int f.w, .int f.h]
structure Itm where
  own : Int
  (x y o : Ce)
  (rank col siz : Int)
noncomputable def Itm.tr (i : Itm) : Tr := .tup [.int i.own, i.x.tr, i.y.tr, i.o.tr, .int i.rank, .int i.col, .int i.siz]
structure FdOk (f : Fd) : Prop where
  x : ScOk f.sx
  y : ScOk f.sy
structure ItOkF (f : Fd) (i : Itm) : Prop where
  x : Fit f.sx i.x
  y : Fit f.sy i.y
noncomputable def st_putx : SpT := fun _ as Φ _ => ∃ (f : Fd) (q : Rat), as = [.fz f.tr, .fz (numT q)] ∧ QB q ∧ Φ (.fz (.int (f.x0 + rnd q)))
theorem okT_put_x (T : Txt K mg t) : FnOk P w K mg base CX0 2 t.f_put_x t.d_put_x ["field", "place"] (toSp K st_putx) := by
  have G_rounded := okT_rounded (P := P) (w := w) (base := base) T
  refine T.F_put_x.ok sc_put_x (toSp_len (fun B as Φ Ψ h => by obtain ⟨_, _, rfl, _⟩ := h; rfl)) (fun cdv A outer s H vs Q E hr h => ?_)
  obtain ⟨B, as, Φ, Ψ, rfl, hS, hx, go⟩ := toSp_open h
  obtain ⟨f, q, rfl, hq, φ⟩ := hS
  unfold Fd.tr at *
  refine ⟨_, (pso (ps_ret (pe_op op_add (pe_ix ixt (pv 0) pei (fun _ _ => rfl)) (pe_call G_rounded (hr.mono (by decide)) rfl T.m_rounded T.k_rounded T.b_rounded .nil pass0 (pcn (pv 1) pnl))))), go _ _ (s_go (τ := [.fz _, .fz _]) rfl ?_)⟩
  walk_at "trun"
  intro _ _
  refine a_round hq ?_
  walk_at "trun"
  exact φ
noncomputable def st_puty : SpT := fun _ as Φ _ => ∃ (f : Fd) (q : Rat), as = [.fz f.tr, .fz (numT q)] ∧ QB q ∧ Φ (.fz (.int (f.y0 + f.h - rnd q)))
theorem okT_put_y (T : Txt K mg t) : FnOk P w K mg base CX0 2 t.f_put_y t.d_put_y ["field", "place"] (toSp K st_puty) := by
  have G_rounded := okT_rounded (P := P) (w := w) (base := base) T
  refine T.F_put_y.ok sc_put_y (toSp_len (fun B as Φ Ψ h => by obtain ⟨_, _, rfl, _⟩ := h; rfl)) (fun cdv A outer s H vs Q E hr h => ?_)
  obtain ⟨B, as, Φ, Ψ, rfl, hS, hx, go⟩ := toSp_open h
  obtain ⟨f, q, rfl, hq, φ⟩ := hS
  unfold Fd.tr at *
  refine ⟨_, (pso (ps_ret (pe_op op_sub (pe_op op_add (pe_ix ixt (pv 0) pei (fun _ _ => rfl)) (pe_ix ixt (pv 0) pei (fun _ _ => rfl))) (pe_call G_rounded (hr.mono (by decide)) rfl T.m_rounded T.k_rounded T.b_rounded .nil pass0 (pcn (pv 1) pnl))))), go _ _ (s_go (τ := [.fz _, .fz _]) rfl ?_)⟩
  walk_at "trun"
  intro _ _
  refine a_round hq ?_
  walk_at "trun"
  exact φ
noncomputable def chV (f : Fd) (i : Itm) (ch : Str) : Pl := if ch = "x" then pvl f.sx i.x else pvl f.sy i.y
noncomputable def st_placeof : SpT := fun _ as Φ _ => ∃ (f : Fd) (i : Itm) (ch : Str), as = [.fz f.tr, .fz i.tr, .fz (.str ch)] ∧ FdOk f ∧ ItOkF f i ∧ (ch = "x" ∨ ch = "y") ∧ (PB (chV f i ch) → Φ (.fz (plT (chV f i ch))))
theorem okT_place_of (T : Txt K mg t) : FnOk P w K mg base CX0 7 t.f_place_of t.d_place_of ["field", "item", "channel"] (toSp K st_placeof) := by
  have G_place_on := okT_place_on (P := P) (w := w) (base := base) T
  refine T.F_place_of.ok sc_place_of (toSp_len (fun B as Φ Ψ h => by obtain ⟨_, _, _, rfl, _⟩ := h; rfl)) (fun cdv A outer s H vs Q E hr h => ?_)
  obtain ⟨B, as, Φ, Ψ, rfl, hS, hx, go⟩ := toSp_open h
  obtain ⟨f, i, ch, rfl, hf, hi, hch, φ⟩ := hS
  unfold Fd.tr Itm.tr at *
  refine ⟨_, (psc (ps_if (pt_cmpR op_eq (pv 2) pe_str (nomark _)) (pso (ps_ret (pe_call G_place_on (hr.mono (by decide)) rfl T.m_place_on T.k_place_on T.b_place_on .nil pass0 (pcn (pe_ix ixt (pv 0) pei (fun _ _ => rfl)) (pcn (pe_ix ixt (pv 1) pei (fun _ _ => rfl)) pnl))))) pss_nil)
  (pso (ps_ret (pe_call G_place_on (hr.mono (by decide)) rfl T.m_place_on T.k_place_on T.b_place_on .nil pass0 (pcn (pe_ix ixt (pv 0) pei (fun _ _ => rfl)) (pcn (pe_ifExp (pt_cmpR op_eq (pv 2) pe_str (nomark _)) (pe_ix ixt (pv 1) pei (fun _ _ => rfl)) (pe_ix ixt (pv 1) pei (fun _ _ => rfl))) pnl)))))), go _ _ (s_go (τ := [.fz _, .fz _, .fz _]) rfl ?_)⟩
  unfold chV at φ
  walk_at "trun"
  refine z_iteD (fun h => ?_) (fun h => ?_)
  · rw [if_pos h] at φ
    walk_at "trun"
    intro _ _
    exact a_place hf.x hi.x φ
  · rw [if_neg h] at φ
    have hy : ch = "y" := hch.elim (fun z => absurd z h) id
    walk_at "trun"
    refine z_iteD (fun h2 => ?_) (fun h2 => absurd hy h2)
    walk_at "trun"
    intro _ _
    exact a_place hf.y hi.y φ
theorem a_placeof {B : Bk} {f : Fd} {i : Itm} {ch : Str} {Φ : Kd → Prop} {Ψ : Addr → Prop} (hf : FdOk f) (hi : ItOkF f i) (hc : ch = "x" ∨ ch = "y") (q : PB (chV f i ch) → Φ (.fz (plT (chV f i ch)))) : st_placeof B [.fz f.tr, .fz i.tr, .fz (.str ch)] Φ Ψ := ⟨f, i, ch, rfl, hf, hi, hc, q⟩
noncomputable def st_xof : SpT := fun _ as Φ _ => ∃ (f : Fd) (i : Itm) (q : Rat), as = [.fz f.tr, .fz i.tr] ∧ FdOk f ∧ ItOkF f i ∧ pvl f.sx i.x = .at q ∧ Φ (.fz (.int (f.x0 + rnd q)))
theorem okT_x_of (T : Txt K mg t) : FnOk P w K mg base CX0 8 t.f_x_of t.d_x_of ["field", "item"] (toSp K st_xof) := by
  have G_place_of := okT_place_of (P := P) (w := w) (base := base) T
  have G_put_x := okT_put_x (P := P) (w := w) (base := base) T
  refine T.F_x_of.ok sc_x_of (toSp_len (fun B as Φ Ψ h => by obtain ⟨_, _, _, rfl, _⟩ := h; rfl)) (fun cdv A outer s H vs Q E hr h => ?_)
  obtain ⟨B, as, Φ, Ψ, rfl, hS, hx, go⟩ := toSp_open h
  obtain ⟨f, i, q, rfl, hf, hi, hq, φ⟩ := hS
  refine ⟨_, (pso (ps_ret (pe_call G_put_x (hr.mono (by decide)) rfl T.m_put_x T.k_put_x T.b_put_x .nil pass0 (pcn (pv 0) (pcn (pe_call G_place_of (hr.mono (by decide)) rfl T.m_place_of T.k_place_of T.b_place_of .nil pass0 (pcn (pv 0) (pcn (pv 1) (pcn pe_str pnl)))) pnl))))), go _ _ (s_go (τ := [.fz _, .fz _]) rfl ?_)⟩
  walk_at "trun"
  intro _ _
  refine a_placeof hf hi (.inl rfl) ?_
  have e : chV f i "x" = .at q := by unfold chV; rw [if_pos rfl, hq]
  rw [e]
  intro hb
  show AsA (.fz (numT q)) _ _
  walk_at "trun"
  intro _ _
  refine ⟨f, q, rfl, hb, ?_⟩
  walk_at "trun"
  exact φ
noncomputable def st_yof : SpT := fun _ as Φ _ => ∃ (f : Fd) (i : Itm) (q : Rat), as = [.fz f.tr, .fz i.tr] ∧ FdOk f ∧ ItOkF f i ∧ pvl f.sy i.y = .at q ∧ Φ (.fz (.int (f.y0 + f.h - rnd q)))
theorem okT_y_of (T : Txt K mg t) : FnOk P w K mg base CX0 8 t.f_y_of t.d_y_of ["field", "item"] (toSp K st_yof) := by
  have G_place_of := okT_place_of (P := P) (w := w) (base := base) T
  have G_put_y := okT_put_y (P := P) (w := w) (base := base) T
  refine T.F_y_of.ok sc_y_of (toSp_len (fun B as Φ Ψ h => by obtain ⟨_, _, _, rfl, _⟩ := h; rfl)) (fun cdv A outer s H vs Q E hr h => ?_)
  obtain ⟨B, as, Φ, Ψ, rfl, hS, hx, go⟩ := toSp_open h
  obtain ⟨f, i, q, rfl, hf, hi, hq, φ⟩ := hS
  refine ⟨_, (pso (ps_ret (pe_call G_put_y (hr.mono (by decide)) rfl T.m_put_y T.k_put_y T.b_put_y .nil pass0 (pcn (pv 0) (pcn (pe_call G_place_of (hr.mono (by decide)) rfl T.m_place_of T.k_place_of T.b_place_of .nil pass0 (pcn (pv 0) (pcn (pv 1) (pcn pe_str pnl)))) pnl))))), go _ _ (s_go (τ := [.fz _, .fz _]) rfl ?_)⟩
  walk_at "trun"
  intro _ _
  refine a_placeof hf hi (.inr rfl) ?_
  have e : chV f i "y" = .at q := by unfold chV; rw [if_neg (by decide), hq]
  rw [e]
  intro hb
  show AsA (.fz (numT q)) _ _
  walk_at "trun"
  intro _ _
  refine ⟨f, q, rfl, hb, ?_⟩
  walk_at "trun"
  exact φ
noncomputable def lossV (f : Fd) (i : Itm) : List Str → Option Tr
  | [] => none
  | ch :: r => match chV f i ch with
    | .tx z => some (.tup [.int i.own, .str ch, .str z])
    | .at _ => lossV f i r
noncomputable def optT : Option Tr → Tr
  | none => .non
  | some t => t
noncomputable def st_loss : SpT := fun _ as Φ _ => ∃ (f : Fd) (i : Itm) (chs : List Str), as = [.fz f.tr, .fz i.tr, .fz (.tup (chs.map Tr.str))] ∧ FdOk f ∧ ItOkF f i ∧ (∀ ch ∈ chs, ch = "x" ∨ ch = "y") ∧ Φ (.fz (optT (lossV f i chs)))
theorem lossV_skip {f : Fd} {i : Itm} : ∀ {chs : List Str} {j : Nat}, (∀ k ch, k < j → chs[k]? = some ch → ∃ q, chV f i ch = .at q) → lossV f i chs = lossV f i (chs.drop j)
  | chs, 0, _ => rfl
  | [], j + 1, _ => rfl
  | ch :: r, j + 1, h => by
    obtain ⟨q, e⟩ := h 0 ch (by omega) rfl
    have e1 : lossV f i (ch :: r) = lossV f i r := by simp only [lossV, e]
    rw [e1]
    exact lossV_skip (chs := r) (j := j) fun k c hk hc => h (k + 1) c (by omega) hc
theorem okT_loss_of (T : Txt K mg t) : FnOk P w K mg base CX0 8 t.f_loss_of t.d_loss_of ["field", "item", "channels"] (toSp K st_loss) := by
  have G_place_of := okT_place_of (P := P) (w := w) (base := base) T
  refine T.F_loss_of.ok sc_loss_of (toSp_len (fun B as Φ Ψ h => by obtain ⟨_, _, _, rfl, _⟩ := h; rfl)) (fun cdv A outer s H vs Q E hr h => ?_)
  obtain ⟨B, as, Φ, Ψ, rfl, hS, hx, go⟩ := toSp_open h
  obtain ⟨f, i, chs, rfl, hf, hi, hch, φ⟩ := hS
  refine ⟨_, (psc (ps_for PassesOwn.never rfl (pi_tup (pv 2)) (pg_name (i := 3) sc_loss_of.nd rfl (Or.inl rfl)) (psc (ps_set (i := 4) sc_loss_of.nd rfl (Or.inl rfl) (pe_call G_place_of (hr.mono (by decide)) rfl T.m_place_of T.k_place_of T.b_place_of .nil pass0 (pcn (pv 0) (pcn (pv 1) (pcn (pv 3) pnl)))))
  (pso (ps_if (pt_val (pe_isi isi_str rfl rfl T.z_isinstance T.z_str bt_str (pv 4))) (pso (ps_ret (pe_tup (pcn (pe_ix ixt (pv 1) pei (fun _ _ => rfl)) (pcn (pv 3) (pcn (pv 4) pnl)))))) pss_nil))))
  (pso (ps_ret pe_non))), go _ _ (s_go (τ := [.fz _, .fz _, .fz _, .no, .no]) rfl ?_)⟩
  walk_at "trun"
  refine ⟨fun j τ => (∃ u v : Sl, τ = [.fz f.tr, .fz i.tr, .fz (.tup (chs.map Tr.str)), u, v]) ∧ ∀ k ch, k < j → chs[k]? = some ch → ∃ q, chV f i ch = .at q, ⟨⟨_, _, rfl⟩, fun k ch hk => by omega⟩, ?_, ?_⟩
  · rintro j tt τ hj ⟨⟨u, v, rfl⟩, hk⟩
    obtain ⟨ch, ech, rfl⟩ : ∃ ch, chs[j]? = some ch ∧ tt = .str ch := by
      rw [List.getElem?_map] at hj
      cases e : chs[j]? with
      | none => rw [e] at hj; cases hj
      | some c => rw [e] at hj; cases hj; exact ⟨c, rfl, rfl⟩
    walk_at "trun"
    intro _ _
    refine a_placeof hf hi (hch ch (List.mem_of_getElem? ech)) ?_
    intro hb
    cases e : chV f i ch with
    | tx z =>
      show GA B _ (.fz (.str z)) _ _
      walk_at "trun"
      have : lossV f i chs = some (.tup [.int i.own, .str ch, .str z]) := by
        rw [lossV_skip hk]
        have hd : chs.drop j = ch :: chs.drop (j + 1) := by
          obtain ⟨hl, e⟩ := List.getElem?_eq_some_iff.mp ech
          rw [List.drop_eq_getElem_cons hl, e]
        rw [hd]
        simp only [lossV, e]
      rw [this] at φ
      exact φ
    | «at» q =>
      show GA B _ (.fz (.tup [.int q.num, .int q.den])) _ _
      walk_at "trun"
      refine ⟨⟨_, _, rfl⟩, fun k c hkk hc => ?_⟩
      rcases (show k < j ∨ k = j by omega) with z | z
      · exact hk k c z hc
      · subst z
        rw [ech] at hc
        cases hc
        exact ⟨q, e⟩
  · rintro τ ⟨⟨u, v, rfl⟩, hk⟩
    walk_at "trun"
    have : lossV f i chs = none := by
      rw [lossV_skip hk, List.length_map, List.drop_length]; rfl
    rw [this] at φ
    exact φ
noncomputable def dAux (big : Bool) : Int → Int → Nat → List Int → List Int
  | _, _, _, [] => []
  | left, mixed, k, t :: r => if big = true then left % t :: dAux big (left / t) mixed (k + 1) r
    else ((mixed * mixed + 69621 * mixed + 7919 * (k : Int) + 11) % 2147483647 * 16807 % 2147483629 % t) :: dAux big left ((mixed * mixed + 69621 * mixed + 7919 * (k : Int) + 11) % 2147483647) (k + 1) r
noncomputable def absI (c : Int) : Int := if c < 0 then -c else c
noncomputable def big18 (c : Int) : Bool := decide ((10 : Int) ^ (18 : Int).toNat ≤ absI c)
noncomputable def drawsV (c : Int) (tops : List Int) : List Int := dAux (big18 c) (absI c) (c * 48271 % 2147483647) 0 tops
theorem dAux_len (big : Bool) : ∀ (tops : List Int) (l m : Int) (k : Nat), (dAux big l m k tops).length = tops.length
  | [], _, _, _ => rfl
  | t :: r, l, m, k => by
    unfold dAux
    split <;> rw [List.length_cons, List.length_cons, dAux_len big r]
theorem dAux_bd (big : Bool) : ∀ (tops : List Int) (l m : Int) (k i : Nat) (d t : Int), (dAux big l m k tops)[i]? = some d → tops[i]? = some t → 0 < t → 0 ≤ d ∧ d < t
  | [], _, _, _, _, _, _, h, _, _ => by simp [dAux] at h
  | t0 :: r, l, m, k, i, d, t, h, ht, hp => by
    unfold dAux at h
    cases i with
    | zero =>
      cases ht
      split at h
      · cases h; exact ⟨Int.emod_nonneg _ (by omega), Int.emod_lt_of_pos _ hp⟩
      · cases h; exact ⟨Int.emod_nonneg _ (by omega), Int.emod_lt_of_pos _ hp⟩
    | succ i =>
      split at h
      · exact dAux_bd big r _ _ _ i d t h ht hp
      · exact dAux_bd big r _ _ _ i d t h ht hp
noncomputable def st_draws : SpT := fun _ as Φ _ => ∃ (c : Int) (tops : List Int), as = [.fz (.int c), .fz (.lst (tops.map Tr.int))] ∧ tops.length ≤ 100 ∧ (∀ t ∈ tops, 0 < t ∧ t ≤ 1000000000) ∧ Φ (.nw (.lst ((drawsV c tops).map Tr.int)))
theorem mapAt {α β : Type} {g : α → β} {xs : List α} {i : Nat} {x : α} (h : xs[i]? = some x) : (xs.map g)[i]? = some (g x) := by rw [List.getElem?_map, h]; rfl
theorem dropAt {α : Type} {xs : List α} {i : Nat} {x : α} (h : xs[i]? = some x) : xs.drop i = x :: xs.drop (i + 1) := by
  obtain ⟨hl, e⟩ := List.getElem?_eq_some_iff.mp h
  rw [List.drop_eq_getElem_cons hl, e]
theorem atI_natT {α : Type} {xs : List α} {i : Nat} {x : α} (h : xs[i]? = some x) : atI xs (0 + (i : Int)) = some x := by rw [Int.zero_add]; exact atI_nat h
theorem okT_l_draws (T : Txt K mg t) : FnOk P w K mg base CX0 1 t.f_l_draws t.d_l_draws ["_law_cell_here", "_law_tops"] (toSp K st_draws) := by
  refine T.F_l_draws.ok sc_l_draws (toSp_len (fun B as Φ Ψ h => by obtain ⟨_, _, rfl, _⟩ := h; rfl)) (fun cdv A outer s H vs Q E hr h => ?_)
  obtain ⟨B, as, Φ, Ψ, rfl, hS, hx, go⟩ := toSp_open h
  obtain ⟨c, tops, rfl, hl, ht, φ⟩ := hS
  refine ⟨_, (psc (ps_set (i := 2) sc_l_draws.nd rfl (Or.inl rfl) (pe_lst pnl))
  (psc (ps_set (i := 3) sc_l_draws.nd rfl (Or.inl rfl) (pe_callB call_abs rfl T.z_abs bt_abs (pcn (pv 0) pnl)))
  (psc (ps_set (i := 4) sc_l_draws.nd rfl (Or.inl rfl) (pe_op op_mod (pe_op op_mul (pv 0) pei) pei))
  (psc (ps_for PassesOwn.never rfl (pi_range1 rfl T.z_range (pcn (pe_callB call_len_seq rfl T.z_len PySem.boot_len (pcn (pv 1) pnl)) pnl)) (pg_name (i := 5) sc_l_draws.nd rfl (Or.inl rfl)) (pso (ps_if (pt_cmpR op_ge (pe_callB call_abs rfl T.z_abs bt_abs (pcn (pv 0) pnl)) (pe_op op_pow pei pei) (nomark _)) (psc (ps_expr (pe_bm PySem.F.plainAttrs_list PySem.F.slot_list_append PySem.F.type_list_append mt_append (pv 2) (pcn (pe_op op_mod (pv 3) (pe_ix ixl (pv 1) (pv 5) (fun _ _ => rfl))) pnl)))
  (pso (ps_set (i := 3) sc_l_draws.nd rfl (Or.inl rfl) (pe_op op_fdivB (pv 3) (pe_ix ixl (pv 1) (pv 5) (fun _ _ => rfl)))))) (psc (ps_set (i := 4) sc_l_draws.nd rfl (Or.inl rfl) (pe_op op_mod (pe_op op_add (pe_op op_add (pe_op op_add (pe_op op_mul (pv 4) (pv 4)) (pe_op op_mul pei (pv 4))) (pe_op op_mul pei (pv 5))) pei) pei))
  (pso (ps_expr (pe_bm PySem.F.plainAttrs_list PySem.F.slot_list_append PySem.F.type_list_append mt_append (pv 2) (pcn (pe_op op_mod (pe_op op_mod (pe_op op_mul (pv 4) pei) pei) (pe_ix ixl (pv 1) (pv 5) (fun _ _ => rfl))) pnl))))))))
  (pso (ps_ret (pv 2))))))), go _ _ (s_go (τ := [.fz _, .fz _, .no, .no, .no, .no]) rfl ?_)⟩
  walk_at "trun"
  have m0 : 0 ≤ c * 48271 % 2147483647 := Int.emod_nonneg _ (by decide)
  have m1 : c * 48271 % 2147483647 < 2147483647 := Int.emod_lt_of_pos _ (by decide)
  refine ⟨⟨by rw [List.length_map]; omega, by rw [List.length_map]; omega⟩, ?_⟩
  refine ⟨fun i τ => ∃ (left mixed : Int) (fs : List Int) (u : Sl), τ = [.fz (.int c), .fz (.lst (tops.map Tr.int)), .own (.lst (fs.map Tr.int)), .fz (.int left), .fz (.int mixed), u] ∧ fs.length = i ∧ 0 ≤ mixed ∧ mixed < 2147483647 ∧ drawsV c tops = fs ++ dAux (big18 c) left mixed i (tops.drop i), ⟨_, _, [], _, rfl, rfl, m0, m1, rfl⟩, ?_, ?_⟩
  · rintro i tt τ hi ⟨left, mixed, fs, u, rfl, hf, b0, b1, e⟩
    obtain ⟨hin, rfl⟩ := rangeT_at hi
    rw [List.length_map] at hin
    have hin : i < tops.length := by omega
    have hti : tops[i]? = some tops[i] := List.getElem?_eq_getElem hin
    obtain ⟨t0, t1⟩ := ht _ (List.getElem_mem hin)
    generalize tops[i] = tp at *
    have hat : atI (tops.map Tr.int) (0 + (i : Int)) = some (.int tp) := atI_natT (mapAt hti)
    rw [dropAt hti] at e
    have fl : (fs.map Tr.int).length ≤ 10000 := by rw [List.length_map]; omega
    walk_at "trun"
    refine z_iteD (fun hb => ?_) (fun hb => ?_)
    · have hbig : big18 c = true := decide_eq_true hb
      walk_at "trun"
      refine ro_ixL rfl Rk.fz hat ?_
      walk_at "trun"
      refine ro_ixL rfl Rk.fz hat ?_
      walk_at "trun"
      refine ⟨_, _, fs ++ [left % tp], _, by rw [List.map_append]; rfl, by rw [List.length_append, hf]; rfl, b0, b1, ?_⟩
      rw [e, List.append_assoc, hbig]
      rfl
    · have hbig : big18 c = false := decide_eq_false hb
      walk_at "trun"
      generalize hm : (mixed * mixed + 69621 * mixed + 7919 * (0 + (i : Int)) + 11) % 2147483647 = m2
      have b20 : 0 ≤ m2 := by rw [← hm]; exact Int.emod_nonneg _ (by decide)
      have b21 : m2 < 2147483647 := by rw [← hm]; exact Int.emod_lt_of_pos _ (by decide)
      walk_at "trun"
      refine ro_ixL rfl Rk.fz hat ?_
      walk_at "trun"
      refine ⟨_, _, fs ++ [m2 * 16807 % 2147483629 % tp], _, by rw [List.map_append]; rfl, by rw [List.length_append, hf]; rfl, b20, b21, ?_⟩
      rw [e, List.append_assoc, hbig, ← hm, Int.zero_add]
      rfl
  · rintro τ ⟨left, mixed, fs, u, rfl, hf, b0, b1, e⟩
    walk_at "trun"
    have : drawsV c tops = fs := by
      rw [e, rangeT_len, List.length_map]
      rw [show ((tops.length : Nat) : Int).toNat = tops.length by omega, List.drop_length]
      simp [dAux]
    rw [this] at φ
    exact rt_sl (by walk_at "tg") φ
noncomputable def dg (ds : List Int) (k : Int) : Int := ds.getD k.toNat 0
theorem atD {ds : List Int} {k : Int} (h0 : 0 ≤ k) (h1 : k < (ds.length : Int)) : atI (ds.map Tr.int) k = some (.int (dg ds k)) := by
  have hk : k.toNat < ds.length := by omega
  have e : k = ((k.toNat : Nat) : Int) := by omega
  have h : (ds.map Tr.int)[k.toNat]? = some (.int (dg ds k)) := by
    rw [List.getElem?_map, List.getElem?_eq_getElem hk]
    unfold dg
    rw [List.getD_eq_getElem?_getD, List.getElem?_eq_getElem hk]
    rfl
  have := atI_nat h
  rw [← e] at this
  exact this
structure Tops (ds tops : List Int) : Prop where
  l : ds.length = tops.length
  b : ∀ (i : Nat) (d t : Int), ds[i]? = some d → tops[i]? = some t → 0 ≤ d ∧ d < t
theorem Tops.at {ds tops : List Int} (h : Tops ds tops) {k t : Int} (h0 : 0 ≤ k) (e : tops[k.toNat]? = some t) : 0 ≤ dg ds k ∧ dg ds k < t := by
  have hl : k.toNat < ds.length := by rw [h.l]; exact (List.getElem?_eq_some_iff.mp e).1
  have := h.b k.toNat ds[k.toNat] t (List.getElem?_eq_getElem hl) e
  unfold dg
  rw [List.getD_eq_getElem?_getD, List.getElem?_eq_getElem hl]
  exact this
theorem Tops.drop {ds tops : List Int} (h : Tops ds tops) (n : Nat) : Tops (ds.drop n) (tops.drop n) := ⟨by rw [List.length_drop, List.length_drop, h.l], fun i d t h1 h2 => h.b (n + i) d t (by rw [List.getElem?_drop] at h1; exact h1) (by rw [List.getElem?_drop] at h2; exact h2)⟩
theorem Tops.take {ds tops : List Int} (h : Tops ds tops) (n : Nat) : Tops (ds.take n) (tops.take n) := ⟨by rw [List.length_take, List.length_take, h.l], fun i d t h1 h2 => by
  rw [List.getElem?_take] at h1 h2
  split at h1
  · rw [if_pos (by assumption)] at h2; exact h.b i d t h1 h2
  · cases h1⟩
theorem drawsV_tops {c : Int} {tops : List Int} (h : ∀ t ∈ tops, 0 < t ∧ t ≤ 1000000000) : Tops (drawsV c tops) tops := ⟨dAux_len _ _ _ _ _, fun i d t h1 h2 => dAux_bd _ tops _ _ _ i d t h1 h2 (h t (List.mem_of_getElem? h2)).1⟩
theorem cut_map (ds : List Int) (a b : Nat) : cutT (ds.map Tr.int) (some (a : Int)) (some (b : Int)) = ((ds.drop a).take (b - a)).map Tr.int := by
  unfold cutT
  rw [HT.sIx_nat, HT.sIx_nat, List.length_map, List.map_take, List.map_drop]
  by_cases h : a ≤ ds.length
  · rw [Nat.min_eq_left h]
    by_cases g : b ≤ ds.length
    · rw [Nat.min_eq_left g]
    · rw [Nat.min_eq_right (by omega), List.take_of_length_le (by rw [List.length_drop, List.length_map]; omega), List.take_of_length_le (by rw [List.length_drop, List.length_map]; omega)]
  · rw [List.drop_of_length_le (by rw [List.length_map]; omega), List.drop_of_length_le (by rw [List.length_map]; omega), List.take_nil, List.take_nil]
noncomputable def pk2 {α : Type} (k : Int) (a b : α) : α := if k = 0 then a else b
noncomputable def pk3 {α : Type} (k : Int) (a b c : α) : α := if k = 0 then a else if k = 1 then b else c
noncomputable def pk4 {α : Type} (k : Int) (a b c d : α) : α := if k = 0 then a else if k = 1 then b else if k = 2 then c else d
theorem atP2 {α : Type} {k : Int} {a b : α} (h0 : 0 ≤ k) (h1 : k < 2) : atI [a, b] k = some (pk2 k a b) := by
  rcases (show k = 0 ∨ k = 1 by omega) with z | z <;> subst z <;> rfl
theorem atP3 {α : Type} {k : Int} {a b c : α} (h0 : 0 ≤ k) (h1 : k < 3) : atI [a, b, c] k = some (pk3 k a b c) := by
  rcases (show k = 0 ∨ k = 1 ∨ k = 2 by omega) with z | z | z <;> subst z <;> rfl
theorem atP4 {α : Type} {k : Int} {a b c d : α} (h0 : 0 ≤ k) (h1 : k < 4) : atI [a, b, c, d] k = some (pk4 k a b c d) := by
  rcases (show k = 0 ∨ k = 1 ∨ k = 2 ∨ k = 3 by omega) with z | z | z | z <;> subst z <;> rfl
theorem pk2_int {k a b : Int} : pk2 k (Tr.int a) (.int b) = .int (pk2 k a b) := by unfold pk2; split <;> rfl
theorem pk3_int {k a b c : Int} : pk3 k (Tr.int a) (.int b) (.int c) = .int (pk3 k a b c) := by unfold pk3; split; rfl; split <;> rfl
theorem pk4_int {k a b c d : Int} : pk4 k (Tr.int a) (.int b) (.int c) (.int d) = .int (pk4 k a b c d) := by unfold pk4; split; rfl; split; rfl; split <;> rfl
theorem atB2 {α : Type} {b : Bool} {x y : α} : atI [x, y] (if b = true then (1 : Int) else 0) = some (if b = true then y else x) := by cases b <;> rfl
theorem ifI {b : Bool} {x y : Int} : (if b = true then Tr.int x else Tr.int y) = .int (if b = true then x else y) := by cases b <;> rfl
noncomputable def st_div : SpT := fun _ as Φ _ => ∃ a b : Int, as = [.fz (.int a), .fz (.int b)] ∧ 0 ≤ b ∧ Φ (.fz (.int ((Int.gcd a b : Nat) : Int)))
theorem okT_l_divisor (T : Txt K mg t) : FnOk P w K mg base CX0 1 t.f_l_divisor t.d_l_divisor ["_law_one", "_law_other"] (toSp K st_div) := by
  refine (ok_l_divisor (P := P) (w := w) (base := base) T).imp fun vs H Q E h => ?_
  obtain ⟨B, as, Φ, Ψ, rfl, rfl, bk, la, ⟨a, b, rfl, hb, φ⟩, q, _⟩ := h
  obtain ⟨v, w', rfl, iv, iw⟩ := arl2 la
  cases iv
  cases iw
  exact ⟨a, b, rfl, hb, q _ _ _ (.fz (.int _)) (Up.refl bk.i) .int φ⟩
noncomputable def lowT (t b : Int) : Int := t / ((Int.gcd t b : Nat) : Int)
noncomputable def lowB (t b : Int) : Int := b / ((Int.gcd t b : Nat) : Int)
theorem gcd_posI {t b : Int} (hb : 0 < b) : (0 : Int) < ((Int.gcd t b : Nat) : Int) := Int.natCast_pos.mpr (Int.gcd_pos_of_ne_zero_right _ (by omega))
theorem gcd_leI {t b : Int} (hb : 0 < b) : ((Int.gcd t b : Nat) : Int) ≤ b := Int.le_of_dvd hb (Int.gcd_dvd_right ..)
theorem low_mul (t b : Int) : lowT t b * ((Int.gcd t b : Nat) : Int) = t := Int.ediv_mul_cancel (Int.gcd_dvd_left ..)
theorem lowB_mul (t b : Int) : lowB t b * ((Int.gcd t b : Nat) : Int) = b := Int.ediv_mul_cancel (Int.gcd_dvd_right ..)
theorem lowB_pos {t b : Int} (hb : 0 < b) : 0 < lowB t b := by
  have h1 := gcd_posI (t := t) hb
  have h2 := lowB_mul t b
  rcases Int.lt_trichotomy (lowB t b) 0 with z | z | z
  · have := Int.mul_neg_of_neg_of_pos z h1; omega
  · rw [z, Int.zero_mul] at h2; omega
  · exact z
theorem low_qv {t b : Int} (hb : 0 < b) : My.qv (lowT t b) (lowB t b) = My.qv t b := by
  have h1 := gcd_posI (t := t) hb
  refine My.qv_eq (by have := lowB_pos (t := t) hb; omega) (by omega) ?_
  have e1 := low_mul t b
  have e2 := lowB_mul t b
  generalize ((Int.gcd t b : Nat) : Int) = g at *
  calc lowT t b * b = lowT t b * (lowB t b * g) := by rw [e2]
    _ = lowT t b * g * lowB t b := by rw [Int.mul_comm (lowB t b) g, Int.mul_assoc]
    _ = t * lowB t b := by rw [e1]
theorem bd_le {n : Nat} {x y : Int} (h : My.Bd n y) (hx : x.natAbs ≤ y.natAbs) : My.Bd n x := My.Bd.of_natAbs hx h
theorem low_bd {n : Nat} {t b : Int} (hb : 0 < b) (h : My.Bd n t) : My.Bd n (lowT t b) := bd_le h (by
  have e := low_mul t b
  have h1 := gcd_posI (t := t) hb
  have : t.natAbs = (lowT t b).natAbs * (Int.gcd t b) := by rw [← e, Int.natAbs_mul]; rw [e]; rfl
  rw [this]
  exact Nat.le_mul_of_pos_right _ (by omega))
theorem lowB_bd {n : Nat} {t b : Int} (hb : 0 < b) (h : My.Bd n b) : My.Bd n (lowB t b) := bd_le h (by
  have e := lowB_mul t b
  have h1 := gcd_posI (t := t) hb
  have : b.natAbs = (lowB t b).natAbs * (Int.gcd t b) := by rw [← e, Int.natAbs_mul]; rw [e]; rfl
  rw [this]
  exact Nat.le_mul_of_pos_right _ (by omega))
noncomputable def st_low : SpT := fun _ as Φ _ => ∃ t b : Int, as = [.fz (.int t), .fz (.int b)] ∧ 0 < b ∧ Mid b ∧ Φ (.fz (N2 (lowT t b) (lowB t b)))
theorem okT_l_low (T : Txt K mg t) : FnOk P w K mg base CX0 2 t.f_l_low t.d_l_low ["_law_top", "_law_bottom"] (toSp K st_low) := by
  have G_l_divisor := okT_l_divisor (P := P) (w := w) (base := base) T
  refine T.F_l_low.ok sc_l_low (toSp_len (fun B as Φ Ψ h => by obtain ⟨_, _, rfl, _⟩ := h; rfl)) (fun cdv A outer s H vs Q E hr h => ?_)
  obtain ⟨B, as, Φ, Ψ, rfl, hS, hx, go⟩ := toSp_open h
  obtain ⟨tp, b, rfl, hb, mb, φ⟩ := hS
  have h1 := gcd_posI (t := tp) hb
  have h2 : Mid ((Int.gcd tp b : Nat) : Int) := bd_le mb (by have := gcd_leI (t := tp) hb; omega)
  refine ⟨_, (psc (ps_set (i := 2) sc_l_low.nd rfl (Or.inl rfl) (pe_call G_l_divisor (hr.mono (by decide)) rfl T.m_l_divisor T.k_l_divisor T.b_l_divisor .nil pass0 (pcn (pv 0) (pcn (pv 1) pnl))))
  (pso (ps_ret (pe_tup (pcn (pe_op op_fdivB (pv 0) (pv 2)) (pcn (pe_op op_fdivB (pv 1) (pv 2)) pnl)))))), go _ _ (s_go (τ := [.fz _, .fz _, .no]) rfl ?_)⟩
  walk_at "trun"
  intro _ _
  refine ⟨tp, b, rfl, by omega, ?_⟩
  walk_at "trun"
  exact φ
theorem a_low {B : Bk} {t b : Int} {Φ : Kd → Prop} {Ψ : Addr → Prop} (hb : 0 < b) (mb : Mid b) (q : Φ (.fz (N2 (lowT t b) (lowB t b)))) : st_low B [.fz (.int t), .fz (.int b)] Φ Ψ := ⟨t, b, rfl, hb, mb, q⟩
noncomputable def topV (ds : List Int) : Int := pk4 (dg ds 1) (dg ds 2 % 10) (dg ds 2 % 1000) (dg ds 2) (dg ds 2 * 1000000000 + dg ds 3)
noncomputable def botV (ds : List Int) : Int := if decide (60 ≤ dg ds 4) = true then 1 else dg ds 4 + 1
noncomputable def numA (ds : List Int) : Int := (1 - 2 * dg ds 0) * topV ds / ((Int.gcd (topV ds) (botV ds) : Nat) : Int)
noncomputable def numB (ds : List Int) : Int := botV ds / ((Int.gcd (topV ds) (botV ds) : Nat) : Int)
noncomputable def tops5 : List Int := [2, 4, 1000000000, 1000000000, 90]
noncomputable def st_num : SpT := fun _ as Φ _ => ∃ ds : List Int, as = [.fz (.lst (ds.map Tr.int))] ∧ Tops ds tops5 ∧ Φ (.fz (N2 (numA ds) (numB ds)))
theorem p9 : (10 : Int) ^ (9 : Int).toNat = 1000000000 := by decide
local macro_rules | `(tactic| walk_at "t2") => `(tactic| ((with_reducible apply ro_ixL); (focus rfl); (focus (walk_at "rk")); (focus (exact atD (by first | decide | omega) (by first | decide | omega)))))
theorem okT_l_number (T : Txt K mg t) : FnOk P w K mg base CX0 2 t.f_l_number t.d_l_number ["_law_d"] (toSp K st_num) := by
  have G_l_divisor := okT_l_divisor (P := P) (w := w) (base := base) T
  refine T.F_l_number.ok sc_l_number (toSp_len (fun B as Φ Ψ h => by obtain ⟨_, rfl, _⟩ := h; rfl)) (fun cdv A outer s H vs Q E hr h => ?_)
  obtain ⟨B, as, Φ, Ψ, rfl, hS, hx, go⟩ := toSp_open h
  obtain ⟨ds, rfl, tp, φ⟩ := hS
  have hl : ds.length = 5 := tp.l
  have b0 := tp.at (k := 0) (by decide) rfl
  have b1 := tp.at (k := 1) (by decide) rfl
  have b2 := tp.at (k := 2) (by decide) rfl
  have b3 := tp.at (k := 3) (by decide) rfl
  have b4 := tp.at (k := 4) (by decide) rfl
  refine ⟨_, (psc (ps_set (i := 1) sc_l_number.nd rfl (Or.inl rfl) (pe_ix ixl (pe_lst (pcn (pe_op op_mod (pe_ix ixl (pv 0) pei (fun _ _ => rfl)) pei) (pcn (pe_op op_mod (pe_ix ixl (pv 0) pei (fun _ _ => rfl)) pei) (pcn (pe_ix ixl (pv 0) pei (fun _ _ => rfl)) (pcn (pe_op op_add (pe_op op_mul (pe_ix ixl (pv 0) pei (fun _ _ => rfl)) (pe_op op_pow pei pei)) (pe_ix ixl (pv 0) pei (fun _ _ => rfl))) pnl))))) (pe_ix ixl (pv 0) pei (fun _ _ => rfl)) (fun _ _ => rfl)))
  (psc (ps_set (i := 2) sc_l_number.nd rfl (Or.inl rfl) (pe_ix ixl (pe_lst (pcn (pe_op op_add (pe_ix ixl (pv 0) pei (fun _ _ => rfl)) pei) (pcn pei pnl))) (pe_callTy call_int1 rfl T.z_int bt_int (pcn (pe_cmpR op_ge (pe_ix ixl (pv 0) pei (fun _ _ => rfl)) pei (nomark _)) pnl)) (fun _ _ => rfl)))
  (psc (ps_set (i := 3) sc_l_number.nd rfl (Or.inl rfl) (pe_call G_l_divisor (hr.mono (by decide)) rfl T.m_l_divisor T.k_l_divisor T.b_l_divisor .nil pass0 (pcn (pv 1) (pcn (pv 2) pnl))))
  (pso (ps_ret (pe_tup (pcn (pe_op op_fdivB (pe_op op_mul (pe_op op_sub pei (pe_op op_mul pei (pe_ix ixl (pv 0) pei (fun _ _ => rfl)))) (pv 1)) (pv 3)) (pcn (pe_op op_fdivB (pv 2) (pv 3)) pnl)))))))), go _ _ (s_go (τ := [.fz _, .no, .no, .no]) rfl ?_)⟩
  walk_at "trun"
  rw [p9]
  refine ro_ixL rfl Rk.fz (atP4 b1.1 b1.2) ?_
  rw [pk4_int]
  walk_at "trun"
  refine ro_ixL rfl Rk.fz atB2 ?_
  rw [ifI]
  have hb : 0 < botV ds := by unfold botV; split <;> omega
  have mb : Mid (botV ds) := by
    have : botV ds ≤ 100 := by unfold botV; split <;> omega
    exact (bd_60 (by omega) (by omega)).mono (by decide)
  have h1 := gcd_posI (t := topV ds) hb
  have h2 : Mid ((Int.gcd (topV ds) (botV ds) : Nat) : Int) := bd_le mb (by have := gcd_leI (t := topV ds) hb; omega)
  change GA B _ (.fz (.int (botV ds))) [_, .fz (.int (topV ds)), _, _] _
  have ht : -1152921504606846976 < topV ds ∧ topV ds < 1152921504606846976 := by
    unfold topV pk4
    split
    · omega
    split
    · omega
    split <;> omega
  have hm : 0 < numB ds ∧ True := ⟨lowB_pos hb, trivial⟩
  unfold numA numB at *
  generalize botV ds = bt at *
  generalize topV ds = tpv at *
  walk_at "trun"
  intro _ _
  refine ⟨_, _, rfl, by omega, ?_⟩
  walk_at "trun"
  exact φ
theorem num_ok {ds : List Int} (tp : Tops ds tops5) : 0 < numB ds ∧ My.Bd 60 (numA ds) ∧ My.Bd 60 (numB ds) := by
  have b0 := tp.at (k := 0) (by decide) rfl
  have b1 := tp.at (k := 1) (by decide) rfl
  have b2 := tp.at (k := 2) (by decide) rfl
  have b3 := tp.at (k := 3) (by decide) rfl
  have b4 := tp.at (k := 4) (by decide) rfl
  have hb : 0 < botV ds := by unfold botV; split <;> omega
  have hb2 : botV ds ≤ 100 := by unfold botV; split <;> omega
  have ht : -1152921504606846976 < topV ds ∧ topV ds < 1152921504606846976 := by
    unfold topV pk4
    split
    · omega
    split
    · omega
    split <;> omega
  refine ⟨lowB_pos hb, ?_, lowB_bd hb (bd_60 (by omega) (by omega))⟩
  unfold numA
  refine My.Bd.div (gcd_posI hb) ?_
  rcases (show dg ds 0 = 0 ∨ dg ds 0 = 1 by omega) with z | z <;> rw [z]
  · exact bd_60 (by omega) (by omega)
  · exact bd_60 (by omega) (by omega)
abbrev NP := Int × Int
noncomputable def nT (x : NP) : Tr := N2 x.1 x.2
structure NB (n : Nat) (x : NP) : Prop where
  pos : 0 < x.2
  ba : My.Bd n x.1
  bb : My.Bd n x.2
noncomputable def plusP (x y : NP) : NP := (lowT (x.1 * y.2 + y.1 * x.2) (x.2 * y.2), lowB (x.1 * y.2 + y.1 * x.2) (x.2 * y.2))
noncomputable def lowP (t b : Int) : NP := (lowT t b, lowB t b)
noncomputable def qp (x : NP) : Rat := My.qv x.1 x.2
theorem plusP_nb {n m : Nat} {x y : NP} (h : NB n x) (g : NB m y) : NB (n + m + 1) (plusP x y) := by
  have hp : 0 < x.2 * y.2 := Int.mul_pos h.pos g.pos
  refine ⟨lowB_pos hp, low_bd hp ?_, lowB_bd hp ?_⟩
  · exact ((h.ba.mul g.bb).add ((g.ba.mul h.bb).mono (by omega))).mono (by omega)
  · exact (h.bb.mul g.bb).mono (by omega)
theorem plusP_qp {n m : Nat} {x y : NP} (h : NB n x) (g : NB m y) : qp (plusP x y) = qp x + qp y := by
  have hp : 0 < x.2 * y.2 := Int.mul_pos h.pos g.pos
  unfold qp plusP
  rw [low_qv hp, My.qv_plus (by have := h.pos; omega) (by have := g.pos; omega)]
theorem lowP_nb {n : Nat} {t b : Int} (hb : 0 < b) (h1 : My.Bd n t) (h2 : My.Bd n b) : NB n (lowP t b) := ⟨lowB_pos hb, low_bd hb h1, lowB_bd hb h2⟩
noncomputable def st_plus : SpT := fun _ as Φ _ => ∃ (x y : NP) (n m : Nat), as = [.fz (nT x), .fz (nT y)] ∧ NB n x ∧ NB m y ∧ n + m + 1 ≤ 3900 ∧ Φ (.fz (nT (plusP x y)))
theorem okT_l_plus (T : Txt K mg t) : FnOk P w K mg base CX0 3 t.f_l_plus t.d_l_plus ["_law_one", "_law_other"] (toSp K st_plus) := by
  have G_l_low := okT_l_low (P := P) (w := w) (base := base) T
  refine T.F_l_plus.ok sc_l_plus (toSp_len (fun B as Φ Ψ h => by obtain ⟨_, _, _, _, rfl, _⟩ := h; rfl)) (fun cdv A outer s H vs Q E hr h => ?_)
  obtain ⟨B, as, Φ, Ψ, rfl, hS, hx, go⟩ := toSp_open h
  obtain ⟨⟨a, b⟩, ⟨c, d⟩, n, m, rfl, h1, h2, hn, φ⟩ := hS
  have p1 : 0 < b := h1.pos
  have p2 : 0 < d := h2.pos
  have ba : My.Bd n a := h1.ba
  have bb : My.Bd n b := h1.bb
  have bc : My.Bd m c := h2.ba
  have bd : My.Bd m d := h2.bb
  have ma : Mid a := ba.mono (by omega)
  have mb : Mid b := bb.mono (by omega)
  have mc : Mid c := bc.mono (by omega)
  have md : Mid d := bd.mono (by omega)
  unfold nT N2 at *
  refine ⟨_, (pso (ps_ret (pe_call G_l_low (hr.mono (by decide)) rfl T.m_l_low T.k_l_low T.b_l_low .nil pass0 (pcn (pe_op op_add (pe_op op_mulB (pe_ix ixt (pv 0) pei (fun _ _ => rfl)) (pe_ix ixt (pv 1) pei (fun _ _ => rfl))) (pe_op op_mulB (pe_ix ixt (pv 1) pei (fun _ _ => rfl)) (pe_ix ixt (pv 0) pei (fun _ _ => rfl)))) (pcn (pe_op op_mulB (pe_ix ixt (pv 0) pei (fun _ _ => rfl)) (pe_ix ixt (pv 1) pei (fun _ _ => rfl))) pnl))))), go _ _ (s_go (τ := [.fz _, .fz _]) rfl ?_)⟩
  walk_at "trun"
  intro _ _
  refine a_low (Int.mul_pos p1 p2) ((bb.mul bd).mono (by omega)) ?_
  walk_at "trun"
  exact φ
theorem a_plus {B : Bk} {x y : NP} {n m : Nat} {Φ : Kd → Prop} {Ψ : Addr → Prop} (h1 : NB n x) (h2 : NB m y) (hn : n + m + 1 ≤ 3900) (q : Φ (.fz (nT (plusP x y)))) : st_plus B [.fz (nT x), .fz (nT y)] Φ Ψ := ⟨x, y, n, m, rfl, h1, h2, hn, q⟩
noncomputable def negP (x : NP) : NP := (-x.1, x.2)
theorem negP_nb {n : Nat} {x : NP} (h : NB n x) : NB n (negP x) := ⟨h.pos, h.ba.neg, h.bb⟩
noncomputable def partP (lo hi : NP) (f g : Int) : NP := plusP lo (lowP ((plusP hi (negP lo)).1 * f) ((plusP hi (negP lo)).2 * g))
noncomputable def st_part : SpT := fun _ as Φ _ => ∃ (lo hi : NP) (f g : Int) (n k : Nat), as = [.fz (nT lo), .fz (nT hi), .fz (.int f), .fz (.int g)] ∧ NB n lo ∧ NB n hi ∧ 0 < g ∧ My.Bd k f ∧ My.Bd k g ∧ 3 * n + k + 2 ≤ 3900 ∧ Φ (.fz (nT (partP lo hi f g)))
theorem okT_l_part (T : Txt K mg t) : FnOk P w K mg base CX0 4 t.f_l_part t.d_l_part ["_law_lo", "_law_hi", "_law_f", "_law_g"] (toSp K st_part) := by
  have G_l_low := okT_l_low (P := P) (w := w) (base := base) T
  have G_l_plus := okT_l_plus (P := P) (w := w) (base := base) T
  refine T.F_l_part.ok sc_l_part (toSp_len (fun B as Φ Ψ h => by obtain ⟨_, _, _, _, _, _, rfl, _⟩ := h; rfl)) (fun cdv A outer s H vs Q E hr h => ?_)
  obtain ⟨B, as, Φ, Ψ, rfl, hS, hx, go⟩ := toSp_open h
  obtain ⟨lo, hi, f, g, n, k, rfl, h1, h2, hg, hf, hgb, hn, φ⟩ := hS
  have s := plusP_nb h2 (negP_nb h1)
  have m1 : Mid (plusP hi (negP lo)).1 := s.ba.mono (by omega)
  have m2 : Mid (plusP hi (negP lo)).2 := s.bb.mono (by omega)
  have mf : Mid f := hf.mono (by omega)
  have mg2 : Mid g := hgb.mono (by omega)
  have l : NB (n + n + 1 + k) (lowP ((plusP hi (negP lo)).1 * f) ((plusP hi (negP lo)).2 * g)) := lowP_nb (Int.mul_pos s.pos hg) (s.ba.mul hf) (s.bb.mul hgb)
  refine ⟨_, (psc (ps_set (i := 4) sc_l_part.nd rfl (Or.inl rfl) (pe_call G_l_plus (hr.mono (by decide)) rfl T.m_l_plus T.k_l_plus T.b_l_plus .nil pass0 (pcn (pv 1) (pcn (pe_tup (pcn (pe_un un_neg (pe_ix ixt (pv 0) pei (fun _ _ => rfl))) (pcn (pe_ix ixt (pv 0) pei (fun _ _ => rfl)) pnl))) pnl))))
  (pso (ps_ret (pe_call G_l_plus (hr.mono (by decide)) rfl T.m_l_plus T.k_l_plus T.b_l_plus .nil pass0 (pcn (pv 0) (pcn (pe_call G_l_low (hr.mono (by decide)) rfl T.m_l_low T.k_l_low T.b_l_low .nil pass0 (pcn (pe_op op_mulB (pe_ix ixt (pv 4) pei (fun _ _ => rfl)) (pv 2)) (pcn (pe_op op_mulB (pe_ix ixt (pv 4) pei (fun _ _ => rfl)) (pv 3)) pnl))) pnl)))))), go _ _ (s_go (τ := [.fz _, .fz _, .fz _, .fz _, .no]) rfl ?_)⟩
  walk_at "trun"
  intro _ _
  refine a_plus (y := negP lo) h2 (negP_nb h1) (by omega) ?_
  walk_at "trun"
  intro _ _
  refine a_low (Int.mul_pos s.pos hg) ((s.bb.mul hgb).mono (by omega)) ?_
  walk_at "trun"
  intro _ _
  refine a_plus (y := lowP _ _) h1 l (by omega) ?_
  walk_at "trun"
  exact φ
noncomputable def lett : Str := "abcdefghijklmnopqrstuvwxyz"
noncomputable def chS (i : Int) : Str := ⟨#[lett.cps.toList.getD i.toNat 0]⟩
theorem at26S {i : Int} (h0 : 0 ≤ i) (h1 : i < 26) : atI ("abcdefghijklmnopqrstuvwxyz" : Str).cps.toList i = some (lett.cps.toList.getD i.toNat 0) := by
  have hl : lett.cps.toList.length = 26 := by decide
  have e : i = ((i.toNat : Nat) : Int) := by omega
  have hk : i.toNat < lett.cps.toList.length := by omega
  have h : lett.cps.toList[i.toNat]? = some (lett.cps.toList.getD i.toNat 0) := by
    rw [List.getD_eq_getElem?_getD, List.getElem?_eq_getElem hk]; rfl
  have := atI_nat h
  rw [← e] at this
  exact this
theorem chS_len (i : Int) : (chS i).length = 1 := rfl
theorem ro_let {B : Bk} {τ : TSt} {Φ : TK} {i : Int} (h0 : 0 ≤ i) (h1 : i < 26) (q : Φ (.fz (.str (chS i))) τ) : RO B rIxS (.fz (.str "abcdefghijklmnopqrstuvwxyz")) (.fz (.int i)) τ Φ := ro_ixS (by decide) (at26S h0 h1) q
theorem ro_addL {B : Bk} {τ : TSt} {Φ : TK} {z u : Str} {n m : Nat} (h : z.length ≤ n) (g : u.length ≤ m) (hl : n + m ≤ 10000) (q : Φ (.fz (.str (z ++ u))) τ) : RO B rAddS (.fz (.str z)) (.fz (.str u)) τ Φ := ro_addS (Nat.le_trans (show z.length + u.length ≤ 10000 by omega) (by decide)) q
theorem len_app {a b : Str} {n m : Nat} (h : a.length ≤ n) (g : b.length ≤ m) : (a ++ b).length ≤ n + m := by rw [Str.length_append]; omega
noncomputable def pairV (ds : List Int) (k : Int) : Str := chS ((7 * k + dg ds 3) % 676 / 26) ++ chS ((7 * k + dg ds 3) % 676 % 26)
noncomputable def wordV (ds : List Int) (k : Int) : Str := if decide (0 < (k + dg ds 7) % 3) = true then repS (chS (dg ds 8 % 26)) (dg ds 2) ++ pairV ds k ++ repS (chS (dg ds 9 % 26)) (dg ds 6) else pairV ds k
noncomputable def wordsV (n : Nat) (ds : List Int) : List Str := (List.range n).map fun (i : Nat) => wordV ds (0 + (i : Int))
noncomputable def tops26 : List Int := [4000, 2, 4, 1000000000, 1000000000, 90, 3, 1000000000, 60, 60, 900, 50, 1000, 1000, 900, 50, 1000, 1000, 900, 50, 1000, 1000, 900, 50, 1000, 1000]
noncomputable def st_words : SpT := fun _ as Φ _ => ∃ (n : Int) (ds : List Int), as = [.fz (.int n), .fz (.lst (ds.map Tr.int))] ∧ 0 ≤ n ∧ n ≤ 100 ∧ Tops ds tops26 ∧ Φ (.nw (.lst ((wordsV n.toNat ds).map Tr.str)))
theorem okT_l_words (T : Txt K mg t) : FnOk P w K mg base CX0 1 t.f_l_words t.d_l_words ["_law_many", "_law_d"] (toSp K st_words) := by
  refine T.F_l_words.ok sc_l_words (toSp_len (fun B as Φ Ψ h => by obtain ⟨_, _, rfl, _⟩ := h; rfl)) (fun cdv A outer s H vs Q E hr h => ?_)
  obtain ⟨B, as, Φ, Ψ, rfl, hS, hx, go⟩ := toSp_open h
  obtain ⟨n, ds, rfl, n0, n1, tp, φ⟩ := hS
  have hl : ds.length = 26 := tp.l
  have b2 := tp.at (k := 2) (by decide) rfl
  have b6 := tp.at (k := 6) (by decide) rfl
  refine ⟨_, (psc (ps_set (i := 2) sc_l_words.nd rfl (Or.inl rfl) pe_str)
  (psc (ps_set (i := 3) sc_l_words.nd rfl (Or.inl rfl) (pe_lst pnl))
  (psc (ps_for PassesOwn.never rfl (pi_range1 rfl T.z_range (pcn (pv 0) pnl)) (pg_name (i := 4) sc_l_words.nd rfl (Or.inl rfl)) (psc (ps_set (i := 5) sc_l_words.nd rfl (Or.inl rfl) (pe_op op_mod (pe_op op_add (pe_op op_mulB pei (pv 4)) (pe_ix ixl (pv 1) pei (fun _ _ => rfl))) pei))
  (psc (ps_set (i := 6) sc_l_words.nd rfl (Or.inl rfl) (pe_op op_addS (pe_ix ix_str (pv 2) (pe_op op_fdivB (pv 5) pei) (fun _ _ => rfl)) (pe_ix ix_str (pv 2) (pe_op op_mod (pv 5) pei) (fun _ _ => rfl))))
  (psc (ps_if (pt_cmpR op_gt (pe_op op_mod (pe_op op_add (pv 4) (pe_ix ixl (pv 1) pei (fun _ _ => rfl))) pei) pei (nomark _)) (pso (ps_set (i := 6) sc_l_words.nd rfl (Or.inl rfl) (pe_op op_addS (pe_op op_addS (pe_op op_repS (pe_ix ix_str (pv 2) (pe_op op_mod (pe_ix ixl (pv 1) pei (fun _ _ => rfl)) pei) (fun _ _ => rfl)) (pe_ix ixl (pv 1) pei (fun _ _ => rfl))) (pv 6)) (pe_op op_repS (pe_ix ix_str (pv 2) (pe_op op_mod (pe_ix ixl (pv 1) pei (fun _ _ => rfl)) pei) (fun _ _ => rfl)) (pe_ix ixl (pv 1) pei (fun _ _ => rfl)))))) pss_nil)
  (pso (ps_expr (pe_bm PySem.F.plainAttrs_list PySem.F.slot_list_append PySem.F.type_list_append mt_append (pv 3) (pcn (pv 6) pnl))))))))
  (pso (ps_ret (pv 3)))))), go _ _ (s_go (τ := [.fz _, .fz _, .no, .no, .no, .no, .no]) rfl ?_)⟩
  walk_at "trun"
  refine ⟨⟨by omega, by omega⟩, ?_⟩
  refine ⟨fun i τ => ∃ (u v x : Sl), τ = [.fz (.int n), .fz (.lst (ds.map Tr.int)), .fz (.str "abcdefghijklmnopqrstuvwxyz"), .own (.lst ((wordsV i ds).map Tr.str)), u, v, x], ⟨_, _, _, rfl⟩, ?_, ?_⟩
  · rintro i tt τ hi ⟨u, v, x, rfl⟩
    obtain ⟨hin, rfl⟩ := rangeT_at hi
    walk_at "trun"
    generalize hat : (7 * (0 + (i : Int)) + dg ds 3) % 676 = av
    have a0 : 0 ≤ av := by rw [← hat]; exact Int.emod_nonneg _ (by decide)
    have a1 : av < 676 := by rw [← hat]; exact Int.emod_lt_of_pos _ (by decide)
    refine ro_let (by omega) (by omega) ?_
    walk_at "trun"
    refine ro_let (by omega) (by omega) ?_
    walk_at "trun"
    refine ro_addL (Nat.le_of_eq (chS_len _)) (Nat.le_of_eq (chS_len _)) (by decide) ?_
    have pe : chS (av / 26) ++ chS (av % 26) = pairV ds (0 + (i : Int)) := by unfold pairV; rw [hat]
    rw [pe]
    have pl : (pairV ds (0 + (i : Int))).length ≤ 2 := len_app (Nat.le_of_eq (chS_len _)) (Nat.le_of_eq (chS_len _))
    walk_at "trunI"
    refine s_cut (fun τ' => ∃ u : Sl, τ' = [.fz (.int n), .fz (.lst (ds.map Tr.int)), .fz (.str "abcdefghijklmnopqrstuvwxyz"), .own (.lst ((wordsV i ds).map Tr.str)), .fz (.int (0 + (i : Int))), u, .fz (.str (wordV ds (0 + (i : Int))))]) ?_ ?_
    · walk_at "trun"
      refine z_iteD (fun hc => ?_) (fun hc => ?_)
      · walk_at "trun"
        refine ro_let (Int.emod_nonneg _ (by decide)) (Int.emod_lt_of_pos _ (by decide)) ?_
        walk_at "trun"
        refine ro_repS (by omega) (by omega) (by rw [chS_len]; decide) ?_
        walk_at "trun"
        have r1 : (repS (chS (dg ds 8 % 26)) (dg ds 2)).length ≤ 10 := by rw [repS_len, chS_len]; omega
        have r2 : (repS (chS (dg ds 9 % 26)) (dg ds 6)).length ≤ 10 := by rw [repS_len, chS_len]; omega
        refine ro_addL r1 pl (by decide) ?_
        walk_at "trun"
        refine ro_let (Int.emod_nonneg _ (by decide)) (Int.emod_lt_of_pos _ (by decide)) ?_
        walk_at "trun"
        refine ro_repS (by omega) (by omega) (by rw [chS_len]; decide) ?_
        walk_at "trun"
        refine ro_addL (len_app r1 pl) r2 (by decide) ?_
        walk_at "trun"
        refine ⟨.fz (.int av), ?_⟩
        unfold wordV
        rw [decide_eq_true hc, if_pos rfl]
      · walk_at "trun"
        refine ⟨.fz (.int av), ?_⟩
        unfold wordV
        rw [decide_eq_false hc, if_neg Bool.false_ne_true]
    · rintro τ' ⟨u', rfl⟩
      have wl : ((wordsV i ds).map Tr.str).length ≤ 10000 := by unfold wordsV; rw [List.length_map, List.length_map, List.length_range]; omega
      walk_at "trun"
      refine ⟨.fz (.int (0 + (i : Int))), u', .fz (.str (wordV ds (0 + (i : Int)))), ?_⟩
      unfold wordsV
      rw [List.range_succ, List.map_append, List.map_append]
      rfl
  · rintro τ ⟨u, v, x, rfl⟩
    walk_at "trun"
    rw [rangeT_len]
    exact rt_sl (by walk_at "tg") φ
noncomputable def e4 (ds : List Int) (k : Nat) : List Int := (ds.drop (10 + 4 * k)).take 4
noncomputable def hiP (ds : List Int) (k : Nat) (lo : NP) : NP := plusP lo (lowP (1 + dg (e4 ds k) 2) (1 + dg ds 8))
noncomputable def nxP (ds : List Int) (k : Nat) (lo : NP) : NP := plusP (hiP ds k lo) (lowP (1 + dg (e4 ds k) 3) (1 + dg ds 9))
noncomputable def brkAux (ds : List Int) : Nat → NP → Int → Nat → List Pi6
  | _, _, _, 0 => []
  | k, lo, p, n + 1 => (lo.1, lo.2, (hiP ds k lo).1, (hiP ds k lo).2, p, p + 1 + dg (e4 ds k) 0) :: brkAux ds (k + 1) (nxP ds k lo) (p + 2 + dg (e4 ds k) 0 + dg (e4 ds k) 1) n
noncomputable def numP (ds : List Int) : NP := (numA ds, numB ds)
noncomputable def loP (ds : List Int) : NP := numP ((ds.drop 1).take 5)
noncomputable def pcsV (ds : List Int) : List Pi6 := brkAux ds 0 (loP ds) 0 (2 + dg ds 6).toNat
theorem e4_tops {ds : List Int} (tp : Tops ds tops26) {k : Nat} (hk : k < 4) : Tops (e4 ds k) [900, 50, 1000, 1000] := by
  have := (tp.drop (10 + 4 * k)).take 4
  rcases (show k = 0 ∨ k = 1 ∨ k = 2 ∨ k = 3 by omega) with z | z | z | z <;> subst z <;> exact this
theorem loP_nb {ds : List Int} (tp : Tops ds tops26) : Tops ((ds.drop 1).take 5) tops5 ∧ NB 60 (loP ds) := by
  have h : Tops ((ds.drop 1).take 5) tops5 := (tp.drop 1).take 5
  obtain ⟨a, b, c⟩ := num_ok h
  exact ⟨h, a, b, c⟩
theorem small_nb {a b : Int} (ha : 0 ≤ a) (ha' : a ≤ 1000000000) (hb : 0 < b) (hb' : b ≤ 1000000) : NB 31 (lowP a b) := lowP_nb hb (by unfold My.Bd; omega) (by unfold My.Bd; omega)
theorem small_nb11 {a b : Int} (ha : 0 ≤ a) (ha' : a ≤ 1000) (hb : 0 < b) (hb' : b ≤ 1000) : NB 11 (lowP a b) := lowP_nb hb (by unfold My.Bd; omega) (by unfold My.Bd; omega)
theorem lt_plus {n m : Nat} {x y : NP} (h : NB n x) (g : NB m y) (hy : 0 < y.1) : x.1 * (plusP x y).2 < (plusP x y).1 * x.2 := by
  have e := plusP_qp h g
  have p := plusP_nb h g
  refine (My.lt_qv h.pos p.pos).mp ?_
  show qp x < qp (plusP x y)
  rw [e]
  have : 0 < qp y := by
    have h0 : qp (0, 1) < qp y := (My.lt_qv (by decide) g.pos).mpr (by show (0 : Int) * y.2 < y.1 * 1; omega)
    have z : qp (0, 1) = 0 := by show My.qv 0 1 = 0; rw [My.qv_int]; rfl
    rw [z] at h0
    exact h0
  grind
theorem lowP_pos {a b : Int} (ha : 0 < a) (hb : 0 < b) : 0 < (lowP a b).1 := by
  show 0 < lowT a b
  have h1 := gcd_posI (t := a) hb
  have h2 := low_mul a b
  rcases Int.lt_trichotomy (lowT a b) 0 with z | z | z
  · have := Int.mul_neg_of_neg_of_pos z h1; omega
  · rw [z, Int.zero_mul] at h2; omega
  · exact z
noncomputable def PcGood (x : Pi6) : Prop := NumOk x.1 x.2.1 ∧ NumOk x.2.2.1 x.2.2.2.1 ∧ x.1 * x.2.2.2.1 < x.2.2.1 * x.2.1 ∧ 0 ≤ x.2.2.2.2.1 ∧ x.2.2.2.2.1 < x.2.2.2.2.2 ∧ x.2.2.2.2.2 ≤ 4000
theorem hiP_nb {ds : List Int} (tp : Tops ds tops26) {k n : Nat} (hk : k < 4) {lo : NP} (h : NB n lo) : NB (n + 12) (hiP ds k lo) ∧ lo.1 * (hiP ds k lo).2 < (hiP ds k lo).1 * lo.2 ∧ NB (n + 24) (nxP ds k lo) := by
  have t4 := e4_tops tp hk
  have c2 := t4.at (k := 2) (by decide) rfl
  have c3 := t4.at (k := 3) (by decide) rfl
  have b8 := tp.at (k := 8) (by decide) rfl
  have b9 := tp.at (k := 9) (by decide) rfl
  have s1 := small_nb11 (a := 1 + dg (e4 ds k) 2) (b := 1 + dg ds 8) (by omega) (by omega) (by omega) (by omega)
  have s2 := small_nb11 (a := 1 + dg (e4 ds k) 3) (b := 1 + dg ds 9) (by omega) (by omega) (by omega) (by omega)
  have h1 : NB (n + 12) (hiP ds k lo) := plusP_nb h s1
  have h2 := plusP_nb h1 s2
  exact ⟨h1, lt_plus h s1 (lowP_pos (by omega) (by omega)), h2.pos, h2.ba.mono (by omega), h2.bb.mono (by omega)⟩
theorem brk_ok {ds : List Int} (tp : Tops ds tops26) : ∀ (n k : Nat) (lo : NP) (p : Int), k + n ≤ 4 → NB (60 + 24 * k) lo → 0 ≤ p → p ≤ 951 * k → ∀ x ∈ brkAux ds k lo p n, PcGood x
  | 0, _, _, _, _, _, _, _, x, h => absurd h List.not_mem_nil
  | n + 1, k, lo, p, hk, h, p0, p1, x, hx => by
    have t4 := e4_tops tp (show k < 4 by omega)
    have c0 := t4.at (k := 0) (by decide) rfl
    have c1 := t4.at (k := 1) (by decide) rfl
    obtain ⟨h1, h2, h3⟩ := hiP_nb tp (show k < 4 by omega) h
    rcases List.mem_cons.mp hx with e | e
    · subst e
      exact ⟨⟨h.pos, h.ba.mono (by omega), h.bb.mono (by omega)⟩, ⟨h1.pos, h1.ba.mono (by omega), h1.bb.mono (by omega)⟩, h2, p0, by show p < p + 1 + dg (e4 ds k) 0; omega, by show p + 1 + dg (e4 ds k) 0 ≤ 4000; omega⟩
    · exact brk_ok tp n (k + 1) _ _ (by omega) (by have := h3; exact ⟨this.pos, this.ba.mono (by omega), this.bb.mono (by omega)⟩) (by omega) (by omega) x e
theorem brk_len (ds : List Int) : ∀ (n k : Nat) (lo : NP) (p : Int), (brkAux ds k lo p n).length = n
  | 0, _, _, _ => rfl
  | n + 1, k, lo, p => by unfold brkAux; rw [List.length_cons, brk_len ds n]
noncomputable def lastT (ps : List Pi6) : Int := match ps.getLast? with
  | some x => x.2.2.2.2.2
  | none => 0
noncomputable def brkV (ds : List Int) : Sc := .brk (pcsV ds) (lastT (pcsV ds))
noncomputable def st_broken : SpT := fun _ as Φ _ => ∃ ds : List Int, as = [.fz (.lst (ds.map Tr.int))] ∧ Tops ds tops26 ∧ Φ (.fz (brkV ds).tr)
theorem okT_l_broken (T : Txt K mg t) : FnOk P w K mg base CX0 4 t.f_l_broken t.d_l_broken ["_law_d"] (toSp K st_broken) := by
  have G_l_number := okT_l_number (P := P) (w := w) (base := base) T
  have G_l_low := okT_l_low (P := P) (w := w) (base := base) T
  have G_l_plus := okT_l_plus (P := P) (w := w) (base := base) T
  refine T.F_l_broken.ok sc_l_broken (toSp_len (fun B as Φ Ψ h => by obtain ⟨_, rfl, _⟩ := h; rfl)) (fun cdv A outer s H vs Q E hr h => ?_)
  obtain ⟨B, as, Φ, Ψ, rfl, hS, hx, go⟩ := toSp_open h
  obtain ⟨ds, rfl, tp, φ⟩ := hS
  have hl : ds.length = 26 := tp.l
  have b6 := tp.at (k := 6) (by decide) rfl
  have b8 := tp.at (k := 8) (by decide) rfl
  have b9 := tp.at (k := 9) (by decide) rfl
  obtain ⟨l1, l2⟩ := loP_nb tp
  refine ⟨_, (psc (ps_set (i := 1) sc_l_broken.nd rfl (Or.inl rfl) (pe_lst pnl))
  (psc (ps_set (i := 2) sc_l_broken.nd rfl (Or.inl rfl) (pe_call G_l_number (hr.mono (by decide)) rfl T.m_l_number T.k_l_number T.b_l_number .nil pass0 (pcn (pe_slice sl_list (pv 0) (po_some pei) (po_some pei)) pnl)))
  (psc (ps_set (i := 3) sc_l_broken.nd rfl (Or.inl rfl) pei)
  (psc (ps_for PassesOwn.never rfl (pi_range1 rfl T.z_range (pcn (pe_op op_add pei (pe_ix ixl (pv 0) pei (fun _ _ => rfl))) pnl)) (pg_name (i := 4) sc_l_broken.nd rfl (Or.inl rfl)) (psc (ps_set (i := 5) sc_l_broken.nd rfl (Or.inl rfl) (pe_slice sl_list (pv 0) (po_some (pe_op op_add pei (pe_op op_mulB pei (pv 4)))) (po_some (pe_op op_add pei (pe_op op_mulB pei (pv 4))))))
  (psc (ps_set (i := 6) sc_l_broken.nd rfl (Or.inl rfl) (pe_call G_l_plus (hr.mono (by decide)) rfl T.m_l_plus T.k_l_plus T.b_l_plus .nil pass0 (pcn (pv 2) (pcn (pe_call G_l_low (hr.mono (by decide)) rfl T.m_l_low T.k_l_low T.b_l_low .nil pass0 (pcn (pe_op op_add pei (pe_ix ixl (pv 5) pei (fun _ _ => rfl))) (pcn (pe_op op_add pei (pe_ix ixl (pv 0) pei (fun _ _ => rfl))) pnl))) pnl))))
  (psc (ps_expr (pe_bm PySem.F.plainAttrs_list PySem.F.slot_list_append PySem.F.type_list_append mt_append (pv 1) (pcn (pe_tup (pcn (pv 2) (pcn (pv 6) (pcn (pv 3) (pcn (pe_op op_add (pe_op op_add (pv 3) pei) (pe_ix ixl (pv 5) pei (fun _ _ => rfl))) pnl))))) pnl)))
  (psc (ps_set (i := 2) sc_l_broken.nd rfl (Or.inl rfl) (pe_call G_l_plus (hr.mono (by decide)) rfl T.m_l_plus T.k_l_plus T.b_l_plus .nil pass0 (pcn (pv 6) (pcn (pe_call G_l_low (hr.mono (by decide)) rfl T.m_l_low T.k_l_low T.b_l_low .nil pass0 (pcn (pe_op op_add pei (pe_ix ixl (pv 5) pei (fun _ _ => rfl))) (pcn (pe_op op_add pei (pe_ix ixl (pv 0) pei (fun _ _ => rfl))) pnl))) pnl))))
  (pso (ps_set (i := 3) sc_l_broken.nd rfl (Or.inl rfl) (pe_op op_add (pe_op op_add (pe_op op_add (pv 3) pei) (pe_ix ixl (pv 5) pei (fun _ _ => rfl))) (pe_ix ixl (pv 5) pei (fun _ _ => rfl))))))))))
  (pso (ps_ret (pe_tup (pcn pe_str (pcn (pv 1) (pcn (pe_ix ixt (pe_ix ixl (pv 1) (pe_un un_neg pei) (fun _ _ => rfl)) pei (fun _ _ => rfl)) pnl)))))))))), go _ _ (s_go (τ := [.fz _, .no, .no, .no, .no, .no, .no]) rfl ?_)⟩
  walk_at "trun"
  intro _ _
  rw [show cutT (ds.map Tr.int) (some 1) (some 6) = ((ds.drop 1).take 5).map Tr.int from cut_map ds 1 6]
  refine ⟨_, rfl, l1, ?_⟩
  walk_at "trun"
  refine ⟨⟨by omega, by omega⟩, ?_⟩
  refine ⟨fun i τ => ∃ (lo : NP) (p : Int) (ps : List Pi6) (u v x : Sl), τ = [.fz (.lst (ds.map Tr.int)), .own (.lst (ps.map pcT)), .fz (nT lo), .fz (.int p), u, v, x] ∧ i ≤ (2 + dg ds 6).toNat ∧ NB (60 + 24 * i) lo ∧ 0 ≤ p ∧ p ≤ 951 * i ∧ ps.length = i ∧ pcsV ds = ps ++ brkAux ds i lo p ((2 + dg ds 6).toNat - i), ⟨loP ds, 0, [], _, _, _, rfl, by omega, l2, by omega, by omega, rfl, rfl⟩, ?_, ?_⟩
  · rintro i tt τ hi ⟨lo, p, ps, u, v, x, rfl, hil, nb, p0, p1, pl, e⟩
    obtain ⟨hin, rfl⟩ := rangeT_at hi
    have hk : i < 4 := by omega
    have t4 := e4_tops tp hk
    have e4l : (e4 ds i).length = 4 := t4.l
    have c0 := t4.at (k := 0) (by decide) rfl
    have c1 := t4.at (k := 1) (by decide) rfl
    have c2 := t4.at (k := 2) (by decide) rfl
    have c3 := t4.at (k := 3) (by decide) rfl
    obtain ⟨h1, h2, h3⟩ := hiP_nb tp hk nb
    have s1 := small_nb11 (a := 1 + dg (e4 ds i) 2) (b := 1 + dg ds 8) (by omega) (by omega) (by omega) (by omega)
    have s2 := small_nb11 (a := 1 + dg (e4 ds i) 3) (b := 1 + dg ds 9) (by omega) (by omega) (by omega) (by omega)
    have mb8 : Mid (1 + dg ds 8) := midB (by omega) (by omega)
    have mb9 : Mid (1 + dg ds 9) := midB (by omega) (by omega)
    have cutE : cutT (ds.map Tr.int) (some (10 + 4 * (0 + (i : Int)))) (some (14 + 4 * (0 + (i : Int)))) = (e4 ds i).map Tr.int := by
      have := cut_map ds (10 + 4 * i) (14 + 4 * i)
      rw [show ((10 + 4 * i : Nat) : Int) = 10 + 4 * (0 + (i : Int)) by omega, show ((14 + 4 * i : Nat) : Int) = 14 + 4 * (0 + (i : Int)) by omega, show 14 + 4 * i - (10 + 4 * i) = 4 by omega] at this
      exact this
    have fl : (ps.map pcT).length ≤ 10000 := by rw [List.length_map]; omega
    walk_at "trun"
    rw [cutE]
    walk_at "trun"
    intro _ _
    refine a_low (by omega) mb8 ?_
    walk_at "trun"
    intro _ _
    refine a_plus (y := lowP _ _) nb s1 (by omega) ?_
    walk_at "trun"
    intro _ _
    refine a_low (by omega) mb9 ?_
    walk_at "trun"
    intro _ _
    refine a_plus (x := hiP ds i lo) (y := lowP _ _) h1 s2 (by omega) ?_
    walk_at "trun"
    refine ⟨nxP ds i lo, p + 2 + dg (e4 ds i) 0 + dg (e4 ds i) 1, ps ++ [(lo.1, lo.2, (hiP ds i lo).1, (hiP ds i lo).2, p, p + 1 + dg (e4 ds i) 0)], .fz (.int (0 + (i : Int))), .own (.lst ((e4 ds i).map Tr.int)), .fz (nT (hiP ds i lo)), ?_, by omega, ⟨h3.pos, h3.ba.mono (by omega), h3.bb.mono (by omega)⟩, ?_, ?_, by rw [List.length_append, pl]; rfl, ?_⟩
    · rw [List.map_append]; rfl
    · omega
    · omega
    · rw [e, show (2 + dg ds 6).toNat - i = ((2 + dg ds 6).toNat - (i + 1)) + 1 by omega, List.append_assoc]
      rfl
  · rintro τ ⟨lo, p, ps, u, v, x, rfl, hil, nb, p0, p1, pl, e⟩
    rw [rangeT_len] at pl e
    rw [Nat.sub_self] at e
    have e : pcsV ds = ps := by rw [e]; simp [brkAux]
    subst e
    have ne : pcsV ds ≠ [] := fun z => by
      have := congrArg List.length z
      rw [pl] at this
      simp at this
      omega
    obtain ⟨y, y1, y2, y3⟩ := list_last ne
    have hat : atI ((pcsV ds).map pcT) (-1) = some (pcT y) := atI_last (by rw [List.length_map, List.getElem?_map, y2]; rfl)
    walk_at "trun"
    refine ro_ixL rfl (by walk_at "rk") hat ?_
    walk_at "trun"
    have e5 : lastT (pcsV ds) = y.2.2.2.2.2 := by unfold lastT; rw [y1]
    unfold brkV at φ
    rw [e5] at φ
    exact φ
noncomputable def spanV (ds : List Int) : Int := 1 + dg ds 7 % pk3 (dg ds 6) 10 1000 1000000000
noncomputable def strHi (ds : List Int) : NP := plusP (loP ds) (lowP (spanV ds) (1 + dg ds 8))
noncomputable def turLow (ds : List Int) : Int := if decide (dg ds 2 = 3) = true then dg ds 3 % 401 - 200 else dg ds 3 % 81 - 40
noncomputable def turMany (ds : List Int) : Int := 1 + dg ds 7 % pk3 (dg ds 6) 6 40 400
noncomputable def dayLo (ds : List Int) : Int := 364877 + dg ds 3 % 2921939
noncomputable def ordN (ds : List Int) : Int := 1 + dg ds 7 % pk3 (dg ds 6) 4 12 60
noncomputable def scaleV (k : Int) (ds : List Int) : Sc :=
  if k = 0 then .str (loP ds).1 (loP ds).2 (strHi ds).1 (strHi ds).2 (1 + dg ds 0)
  else if k = 1 then .tur (pk2 (dg ds 1) 2 10) (turLow ds) (turMany ds) (1 + dg ds 0)
  else if k = 2 then brkV ds
  else if k = 3 then .day (dayLo ds) (dayLo ds + 1 + dg ds 4 % (3286816 - dayLo ds)) (1 + dg ds 0)
  else .ord (wordsV (ordN ds).toNat ds) (1 + dg ds 0)
noncomputable def st_scale : SpT := fun _ as Φ _ => ∃ (k : Int) (ds : List Int), as = [.fz (.int k), .fz (.lst (ds.map Tr.int))] ∧ 0 ≤ k ∧ k < 5 ∧ Tops ds tops26 ∧ Φ (.fz (scaleV k ds).tr)
theorem pk3_b {k a b c m : Int} (ha : 0 < a ∧ a ≤ m) (hb : 0 < b ∧ b ≤ m) (hc : 0 < c ∧ c ≤ m) : 0 < pk3 k a b c ∧ pk3 k a b c ≤ m := by unfold pk3; split; exact ha; split; exact hb; exact hc
theorem okT_l_scale (T : Txt K mg t) : FnOk P w K mg base CX0 5 t.f_l_scale t.d_l_scale ["_law_kind", "_law_d"] (toSp K st_scale) := by
  have G_l_number := okT_l_number (P := P) (w := w) (base := base) T
  have G_l_low := okT_l_low (P := P) (w := w) (base := base) T
  have G_l_plus := okT_l_plus (P := P) (w := w) (base := base) T
  have G_l_broken := okT_l_broken (P := P) (w := w) (base := base) T
  have G_l_words := okT_l_words (P := P) (w := w) (base := base) T
  refine T.F_l_scale.ok sc_l_scale (toSp_len (fun B as Φ Ψ h => by obtain ⟨_, _, rfl, _⟩ := h; rfl)) (fun cdv A outer s H vs Q E hr h => ?_)
  obtain ⟨B, as, Φ, Ψ, rfl, hS, hx, go⟩ := toSp_open h
  obtain ⟨k, ds, rfl, k0, k1, tp, φ⟩ := hS
  have hl : ds.length = 26 := tp.l
  have b0 := tp.at (k := 0) (by decide) rfl
  have b1 := tp.at (k := 1) (by decide) rfl
  have b2 := tp.at (k := 2) (by decide) rfl
  have b3 := tp.at (k := 3) (by decide) rfl
  have b4 := tp.at (k := 4) (by decide) rfl
  have b6 := tp.at (k := 6) (by decide) rfl
  have b7 := tp.at (k := 7) (by decide) rfl
  have b8 := tp.at (k := 8) (by decide) rfl
  obtain ⟨l1, l2⟩ := loP_nb tp
  refine ⟨_, (psc (ps_set (i := 2) sc_l_scale.nd rfl (Or.inl rfl) (pe_op op_add pei (pe_ix ixl (pv 1) pei (fun _ _ => rfl))))
  (psc (ps_if (pt_cmpR op_eq (pv 0) pei (nomark _)) (psc (ps_set (i := 3) sc_l_scale.nd rfl (Or.inl rfl) (pe_call G_l_number (hr.mono (by decide)) rfl T.m_l_number T.k_l_number T.b_l_number .nil pass0 (pcn (pe_slice sl_list (pv 1) (po_some pei) (po_some pei)) pnl)))
  (psc (ps_set (i := 4) sc_l_scale.nd rfl (Or.inl rfl) (pe_op op_add pei (pe_op op_mod (pe_ix ixl (pv 1) pei (fun _ _ => rfl)) (pe_ix ixl (pe_lst (pcn pei (pcn pei (pcn (pe_op op_pow pei pei) pnl)))) (pe_ix ixl (pv 1) pei (fun _ _ => rfl)) (fun _ _ => rfl)))))
  (pso (ps_ret (pe_tup (pcn pe_str (pcn (pv 3) (pcn (pe_call G_l_plus (hr.mono (by decide)) rfl T.m_l_plus T.k_l_plus T.b_l_plus .nil pass0 (pcn (pv 3) (pcn (pe_call G_l_low (hr.mono (by decide)) rfl T.m_l_low T.k_l_low T.b_l_low .nil pass0 (pcn (pv 4) (pcn (pe_op op_add pei (pe_ix ixl (pv 1) pei (fun _ _ => rfl))) pnl))) pnl))) (pcn (pv 2) pnl))))))))) pss_nil)
  (psc (ps_if (pt_cmpR op_eq (pv 0) pei (nomark _)) (psc (ps_set (i := 5) sc_l_scale.nd rfl (Or.inl rfl) (pe_op op_sub (pe_op op_mod (pe_ix ixl (pv 1) pei (fun _ _ => rfl)) pei) pei))
  (psc (ps_if (pt_cmpR op_eq (pe_ix ixl (pv 1) pei (fun _ _ => rfl)) pei (nomark _)) (pso (ps_set (i := 5) sc_l_scale.nd rfl (Or.inl rfl) (pe_op op_sub (pe_op op_mod (pe_ix ixl (pv 1) pei (fun _ _ => rfl)) pei) pei))) pss_nil)
  (pso (ps_ret (pe_tup (pcn pe_str (pcn (pe_ix ixl (pe_lst (pcn pei (pcn pei pnl))) (pe_ix ixl (pv 1) pei (fun _ _ => rfl)) (fun _ _ => rfl)) (pcn (pv 5) (pcn (pe_op op_add pei (pe_op op_mod (pe_ix ixl (pv 1) pei (fun _ _ => rfl)) (pe_ix ixl (pe_lst (pcn pei (pcn pei (pcn pei pnl)))) (pe_ix ixl (pv 1) pei (fun _ _ => rfl)) (fun _ _ => rfl)))) (pcn (pv 2) pnl)))))))))) pss_nil)
  (psc (ps_if (pt_cmpR op_eq (pv 0) pei (nomark _)) (pso (ps_ret (pe_call G_l_broken (hr.mono (by decide)) rfl T.m_l_broken T.k_l_broken T.b_l_broken .nil pass0 (pcn (pv 1) pnl)))) pss_nil)
  (psc (ps_if (pt_cmpR op_eq (pv 0) pei (nomark _)) (psc (ps_set (i := 3) sc_l_scale.nd rfl (Or.inl rfl) (pe_op op_add pei (pe_op op_mod (pe_ix ixl (pv 1) pei (fun _ _ => rfl)) pei)))
  (pso (ps_ret (pe_tup (pcn pe_str (pcn (pv 3) (pcn (pe_op op_add (pe_op op_add (pv 3) pei) (pe_op op_mod (pe_ix ixl (pv 1) pei (fun _ _ => rfl)) (pe_op op_sub pei (pv 3)))) (pcn (pv 2) pnl)))))))) pss_nil)
  (pso (ps_ret (pe_tup (pcn pe_str (pcn (pe_call G_l_words (hr.mono (by decide)) rfl T.m_l_words T.k_l_words T.b_l_words .nil pass0 (pcn (pe_op op_add pei (pe_op op_mod (pe_ix ixl (pv 1) pei (fun _ _ => rfl)) (pe_ix ixl (pe_lst (pcn pei (pcn pei (pcn pei pnl)))) (pe_ix ixl (pv 1) pei (fun _ _ => rfl)) (fun _ _ => rfl)))) (pcn (pv 1) pnl))) (pcn (pv 2) pnl))))))))))), go _ _ (s_go (τ := [.fz _, .fz _, .no, .no, .no, .no]) rfl ?_)⟩
  unfold scaleV at φ
  walk_at "trun"
  refine z_iteD (fun z => ?_) (fun z => ?_)
  · rw [if_pos z] at φ
    walk_at "trun"
    intro _ _
    rw [show cutT (ds.map Tr.int) (some 1) (some 6) = ((ds.drop 1).take 5).map Tr.int from cut_map ds 1 6]
    refine ⟨_, rfl, l1, ?_⟩
    walk_at "trun"
    rw [p9]
    refine ro_ixL rfl Rk.fz (atP3 b6.1 b6.2) ?_
    rw [pk3_int]
    have pb := pk3_b (k := dg ds 6) (a := 10) (b := 1000) (c := 1000000000) (m := 1000000000) (by decide) (by decide) (by decide)
    have sp0 : 0 < spanV ds := by have := Int.emod_nonneg (dg ds 7) (show pk3 (dg ds 6) 10 1000 1000000000 ≠ 0 by omega); unfold spanV; omega
    have sp1 : spanV ds ≤ 1000000000 := by have := Int.emod_lt_of_pos (dg ds 7) pb.1; unfold spanV; omega
    have nb := small_nb (a := spanV ds) (b := 1 + dg ds 8) (by omega) (by omega) (by omega) (by omega)
    walk_at "trun"
    intro _ _
    refine a_low (by omega) (midB (by omega) (by omega)) ?_
    walk_at "trun"
    intro _ _
    refine a_plus (x := loP ds) (y := lowP (spanV ds) (1 + dg ds 8)) l2 nb (by decide) ?_
    walk_at "trun"
    exact φ
  rw [if_neg z] at φ
  walk_at "trun"
  refine z_iteD (fun z1 => ?_) (fun z1 => ?_)
  · rw [if_pos z1] at φ
    walk_at "trunI"
    refine s_cut (fun τ' => ∃ u v : Sl, τ' = [.fz (.int k), .fz (.lst (ds.map Tr.int)), .fz (.int (1 + dg ds 0)), u, v, .fz (.int (turLow ds))]) ?_ ?_
    · walk_at "trun"
      refine z_iteD (fun hc => ?_) (fun hc => ?_)
      · walk_at "trun"
        refine ⟨.no, .no, ?_⟩
        unfold turLow
        rw [decide_eq_true hc, if_pos rfl]
      · walk_at "trun"
        refine ⟨.no, .no, ?_⟩
        unfold turLow
        rw [decide_eq_false hc, if_neg Bool.false_ne_true]
    · rintro τ' ⟨u, v, rfl⟩
      walk_at "trun"
      refine ro_ixL rfl Rk.fz (atP2 b1.1 b1.2) ?_
      rw [pk2_int]
      walk_at "trun"
      refine ro_ixL rfl Rk.fz (atP3 b6.1 b6.2) ?_
      rw [pk3_int]
      have pb := pk3_b (k := dg ds 6) (a := 6) (b := 40) (c := 400) (m := 400) (by decide) (by decide) (by decide)
      walk_at "trun"
      exact φ
  rw [if_neg z1] at φ
  walk_at "trun"
  refine z_iteD (fun z2 => ?_) (fun z2 => ?_)
  · rw [if_pos z2] at φ
    walk_at "trun"
    intro _ _
    refine ⟨ds, rfl, tp, ?_⟩
    walk_at "trun"
    exact φ
  rw [if_neg z2] at φ
  walk_at "trun"
  refine z_iteD (fun z3 => ?_) (fun z3 => ?_)
  · rw [if_pos z3] at φ
    have d0 : 0 ≤ dg ds 3 % 2921939 := Int.emod_nonneg _ (by decide)
    have d1 : dg ds 3 % 2921939 < 2921939 := Int.emod_lt_of_pos _ (by decide)
    walk_at "trun"
    exact φ
  rw [if_neg z3] at φ
  walk_at "trun"
  refine ro_ixL rfl Rk.fz (atP3 b6.1 b6.2) ?_
  rw [pk3_int]
  have pb := pk3_b (k := dg ds 6) (a := 4) (b := 12) (c := 60) (m := 60) (by decide) (by decide) (by decide)
  have o0 := Int.emod_nonneg (dg ds 7) (show pk3 (dg ds 6) 4 12 60 ≠ 0 by omega)
  have o1 := Int.emod_lt_of_pos (dg ds 7) pb.1
  walk_at "trun"
  intro _ _
  refine ⟨_, ds, rfl, by omega, by omega, tp, ?_⟩
  walk_at "trun"
  exact φ
theorem scale_ok {k : Int} {ds : List Int} (h0 : 0 ≤ k) (h1 : k < 5) (tp : Tops ds tops26) : ScOk (scaleV k ds) := by
  have b0 := tp.at (k := 0) (by decide) rfl
  have b1 := tp.at (k := 1) (by decide) rfl
  have b2 := tp.at (k := 2) (by decide) rfl
  have b3 := tp.at (k := 3) (by decide) rfl
  have b4 := tp.at (k := 4) (by decide) rfl
  have b6 := tp.at (k := 6) (by decide) rfl
  have b7 := tp.at (k := 7) (by decide) rfl
  have b8 := tp.at (k := 8) (by decide) rfl
  obtain ⟨l1, l2⟩ := loP_nb tp
  unfold scaleV
  split
  · have pb := pk3_b (k := dg ds 6) (a := 10) (b := 1000) (c := 1000000000) (m := 1000000000) (by decide) (by decide) (by decide)
    have sp0 : 0 < spanV ds := by have := Int.emod_nonneg (dg ds 7) (show pk3 (dg ds 6) 10 1000 1000000000 ≠ 0 by omega); unfold spanV; omega
    have sp1 : spanV ds ≤ 1000000000 := by have := Int.emod_lt_of_pos (dg ds 7) pb.1; unfold spanV; omega
    have nb := small_nb (a := spanV ds) (b := 1 + dg ds 8) (by omega) (by omega) (by omega) (by omega)
    have hh := plusP_nb l2 nb
    exact ⟨⟨l2.pos, l2.ba.mono (by decide), l2.bb.mono (by decide)⟩, ⟨hh.pos, hh.ba.mono (by decide), hh.bb.mono (by decide)⟩, lt_plus l2 nb (lowP_pos sp0 (by omega)), by omega, by omega⟩
  split
  · have pb := pk3_b (k := dg ds 6) (a := 6) (b := 40) (c := 400) (m := 400) (by decide) (by decide) (by decide)
    have o0 := Int.emod_nonneg (dg ds 7) (show pk3 (dg ds 6) 6 40 400 ≠ 0 by omega)
    have o1 := Int.emod_lt_of_pos (dg ds 7) pb.1
    have hp : pk2 (dg ds 1) (2 : Int) 10 = 2 ∨ pk2 (dg ds 1) (2 : Int) 10 = 10 := by unfold pk2; split; exact .inl rfl; exact .inr rfl
    have hlw : -200 ≤ turLow ds ∧ turLow ds ≤ 200 := by unfold turLow; split <;> omega
    refine ⟨by omega, by omega, hlw.1, hlw.2, ?_, ?_, by omega, by omega⟩
    · unfold turMany; omega
    · unfold turMany; omega
  split
  · have hlen := brk_len ds (2 + dg ds 6).toNat 0 (loP ds) 0
    have hok := brk_ok tp (2 + dg ds 6).toNat 0 (loP ds) 0 (by omega) l2 (by omega) (by omega)
    have ne : pcsV ds ≠ [] := fun z => by
      have := congrArg List.length z
      unfold pcsV at this
      rw [hlen] at this
      simp at this
      omega
    obtain ⟨y, y1, y2, y3⟩ := list_last ne
    have hy := hok y y3
    refine ⟨ne, by show (pcsV ds).length ≤ 100; unfold pcsV; rw [hlen]; omega, hok, ?_, ?_⟩
    · have := hy.2.2.2; unfold lastT; rw [y1]; show 1 ≤ y.2.2.2.2.2; omega
    · have := hy.2.2.2; unfold lastT; rw [y1]; show y.2.2.2.2.2 ≤ 4000; omega
  split
  · have d0 : 0 ≤ dg ds 3 % 2921939 := Int.emod_nonneg _ (by decide)
    have d1 : dg ds 3 % 2921939 < 2921939 := Int.emod_lt_of_pos _ (by decide)
    have d2 := Int.emod_nonneg (dg ds 4) (show 3286816 - dayLo ds ≠ 0 by unfold dayLo; omega)
    have d3 := Int.emod_lt_of_pos (dg ds 4) (show 0 < 3286816 - dayLo ds by unfold dayLo; omega)
    have d4 : dayLo ds = 364877 + dg ds 3 % 2921939 := rfl
    exact ⟨by omega, by omega, by omega, by omega, by omega⟩
  · have pb := pk3_b (k := dg ds 6) (a := 4) (b := 12) (c := 60) (m := 60) (by decide) (by decide) (by decide)
    have o0 := Int.emod_nonneg (dg ds 7) (show pk3 (dg ds 6) 4 12 60 ≠ 0 by omega)
    have o1 := Int.emod_lt_of_pos (dg ds 7) pb.1
    have hw : (wordsV (ordN ds).toNat ds).length = (ordN ds).toNat := by unfold wordsV; rw [List.length_map, List.length_range]
    have ho : ordN ds = 1 + dg ds 7 % pk3 (dg ds 6) 4 12 60 := rfl
    refine ⟨by rw [hw]; omega, by rw [hw]; omega, by omega, by omega⟩
noncomputable def tops56 : List Int := [5, 5, 1999999, 1999999] ++ tops26 ++ tops26
noncomputable def scL : Sc → List Tr
  | .str a b c d len => [.str "straight", N2 a b, N2 c d, .int len]
  | .tur p low many len => [.str "turns", .int p, .int low, .int many, .int len]
  | .brk ps len => [.str "broken", .lst (ps.map pcT), .int len]
  | .day f l len => [.str "days", .int f, .int l, .int len]
  | .ord ws len => [.str "order", .lst (ws.map Tr.str), .int len]
noncomputable def Sc.len : Sc → Int
  | .str _ _ _ _ len => len
  | .tur _ _ _ len => len
  | .brk _ len => len
  | .day _ _ len => len
  | .ord _ len => len
theorem tr_tup (s : Sc) : s.tr = .tup (scL s) := by cases s <;> rfl
theorem scL_last (s : Sc) : atI (scL s) (-1) = some (.int s.len) := by cases s <;> rfl
noncomputable def fieldV (c : Int) : Fd :=
  ⟨scaleV (dg (drawsV c tops56) 0) (((drawsV c tops56).drop 4).take 26), scaleV (dg (drawsV c tops56) 1) (((drawsV c tops56).drop 30).take 26), dg (drawsV c tops56) 2 - 999999, dg (drawsV c tops56) 3 - 999999,
    (scaleV (dg (drawsV c tops56) 0) (((drawsV c tops56).drop 4).take 26)).len, (scaleV (dg (drawsV c tops56) 1) (((drawsV c tops56).drop 30).take 26)).len⟩
theorem tops56_b : ∀ t ∈ tops56, 0 < t ∧ t ≤ 1000000000 := by decide
theorem field_tops (c : Int) : Tops (drawsV c tops56) tops56 ∧ Tops (((drawsV c tops56).drop 4).take 26) tops26 ∧ Tops (((drawsV c tops56).drop 30).take 26) tops26 := by
  have h := drawsV_tops (c := c) tops56_b
  exact ⟨h, (h.drop 4).take 26, (h.drop 30).take 26⟩
theorem field_ok (c : Int) : FdOk (fieldV c) := by
  obtain ⟨h, h1, h2⟩ := field_tops c
  have b0 := h.at (k := 0) (by decide) rfl
  have b1 := h.at (k := 1) (by decide) rfl
  exact ⟨scale_ok b0.1 b0.2 h1, scale_ok b1.1 b1.2 h2⟩
noncomputable def st_field : SpT := fun _ as Φ _ => ∃ c : Int, as = [.fz (.int c)] ∧ Φ (.fz (fieldV c).tr)
theorem okT_l_field (T : Txt K mg t) : FnOk P w K mg base CX0 6 t.f_l_field t.d_l_field ["_law_cell_here"] (toSp K st_field) := by
  have G_l_draws := okT_l_draws (P := P) (w := w) (base := base) T
  have G_l_scale := okT_l_scale (P := P) (w := w) (base := base) T
  refine T.F_l_field.ok sc_l_field (toSp_len (fun B as Φ Ψ h => by obtain ⟨_, rfl, _⟩ := h; rfl)) (fun cdv A outer s H vs Q E hr h => ?_)
  obtain ⟨B, as, Φ, Ψ, rfl, hS, hx, go⟩ := toSp_open h
  obtain ⟨c, rfl, φ⟩ := hS
  obtain ⟨h, h1, h2⟩ := field_tops c
  have hl : (drawsV c tops56).length = 56 := h.l
  have b0 := h.at (k := 0) (by decide) rfl
  have b1 := h.at (k := 1) (by decide) rfl
  refine ⟨_, (psc (ps_set (i := 1) sc_l_field.nd rfl (Or.inl rfl) (pe_op op_catL (pe_lst (pcn pei (pcn pei (pcn pei (pcn (pe_op op_pow pei pei) (pcn (pe_op op_pow pei pei) (pcn pei (pcn pei (pcn (pe_op op_pow pei pei) (pcn pei (pcn pei pnl))))))))))) (pe_op op_rep (pe_lst (pa_ints [900, 50, 1000, 1000] rfl)) pei)))
  (psc (ps_set (i := 2) sc_l_field.nd rfl (Or.inl rfl) (pe_call G_l_draws (hr.mono (by decide)) rfl T.m_l_draws T.k_l_draws T.b_l_draws .nil pass0 (pcn (pv 0) (pcn (pe_op op_catL (pe_op op_catL (pe_lst (pa_ints [5, 5, 1999999, 1999999] rfl)) (pv 1)) (pv 1)) pnl))))
  (psc (ps_set (i := 3) sc_l_field.nd rfl (Or.inl rfl) (pe_call G_l_scale (hr.mono (by decide)) rfl T.m_l_scale T.k_l_scale T.b_l_scale .nil pass0 (pcn (pe_ix ixl (pv 2) pei (fun _ _ => rfl)) (pcn (pe_slice sl_list (pv 2) (po_some pei) (po_some pei)) pnl))))
  (psc (ps_set (i := 4) sc_l_field.nd rfl (Or.inl rfl) (pe_call G_l_scale (hr.mono (by decide)) rfl T.m_l_scale T.k_l_scale T.b_l_scale .nil pass0 (pcn (pe_ix ixl (pv 2) pei (fun _ _ => rfl)) (pcn (pe_slice sl_list (pv 2) (po_some pei) (po_some pei)) pnl))))
  (pso (ps_ret (pe_tup (pcn (pv 3) (pcn (pv 4) (pcn (pe_op op_sub (pe_ix ixl (pv 2) pei (fun _ _ => rfl)) pei) (pcn (pe_op op_sub (pe_ix ixl (pv 2) pei (fun _ _ => rfl)) pei) (pcn (pe_ix ixt (pv 3) (pe_un un_neg pei) (fun _ _ => rfl)) (pcn (pe_ix ixt (pv 4) (pe_un un_neg pei) (fun _ _ => rfl)) pnl))))))))))))), go _ _ (s_go (τ := [.fz _, .no, .no, .no, .no]) rfl ?_)⟩
  walk_at "trun"
  refine ro_catL rfl Rk.fz Rk.fz (by decide) ?_
  change GA B _ (.nw (.lst (tops26.map Tr.int))) _ _
  walk_at "trun"
  refine ro_catL rfl Rk.fz (by walk_at "rk") (by decide) ?_
  walk_at "trun"
  refine ro_catL rfl Rk.fz (by walk_at "rk") (by decide) ?_
  walk_at "trun"
  intro _ _
  change st_draws _ [.fz (.int c), .fz (.lst (tops56.map Tr.int))] _ _
  refine ⟨c, tops56, rfl, by decide, tops56_b, ?_⟩
  walk_at "trun"
  intro _ _
  rw [show cutT ((drawsV c tops56).map Tr.int) (some 4) (some 30) = (((drawsV c tops56).drop 4).take 26).map Tr.int from cut_map _ 4 30]
  refine ⟨_, _, rfl, b0.1, b0.2, h1, ?_⟩
  walk_at "trun"
  intro _ _
  rw [show cutT ((drawsV c tops56).map Tr.int) (some 30) (some 56) = (((drawsV c tops56).drop 30).take 26).map Tr.int from cut_map _ 30 56]
  refine ⟨_, _, rfl, b1.1, b1.2, h2, ?_⟩
  walk_at "trun"
  rw [tr_tup (scaleV (dg (drawsV c tops56) 0) _)]
  refine ro_ixT rfl (by walk_at "rk") (scL_last _) ?_
  walk_at "trun"
  rw [tr_tup (scaleV (dg (drawsV c tops56) 1) _)]
  refine ro_ixT rfl (by walk_at "rk") (scL_last _) ?_
  walk_at "trun"
  unfold fieldV Fd.tr at φ
  rw [tr_tup, tr_tup] at φ
  exact φ
theorem s_joinI {B : Bk} {τ τ' : TSt} {c : TT} {te : TE} {k : Nat} {nx bk ct : TSt → Prop} {rt : Kd → Prop} {b : Bool} {i1 i2 : Int} (hc : TV B c τ fun b' τ1 => b' = b ∧ τ1 = τ) (h1 : b = true → EV B te τ fun x τ1 => x = .fz (.int i1) ∧ τ1 = τ) (hg : Gt τ k (.fz (.int i2))) (st : Sto τ k (.fz (.int (if b = true then i1 else i2))) τ') (q : nx τ') :
    SV B (tIfS c (tAsg te (gName k)) tNext) τ ⟨nx, rt, bk, ct⟩ := by
  refine s_ifs fun σ F H Q r c2 => hc σ F H Q r fun b' F' H' τ1 f r' h => c2 b' F' H' τ1 f r' ?_
  obtain ⟨rfl, rfl⟩ := h
  cases b' with
  | true =>
    rw [if_pos rfl] at st ⊢
    refine s_asg fun σ F H Q r c2 => h1 rfl σ F H Q r fun v F' H' kd τ2 f r' ok n h => c2 v F' H' kd τ2 f r' ok n ?_
    obtain ⟨rfl, rfl⟩ := h
    exact g_fz st q
  | false =>
    rw [if_neg Bool.false_ne_true] at st ⊢
    refine s_next ?_
    have e1 := st.eq
    have e2 : τ1.set k (.fz (.int i2)) = τ1 := by
      apply List.ext_getElem?
      intro j
      rw [List.getElem?_set]
      by_cases e : k = j
      · subst e
        rw [if_pos rfl, if_pos (List.getElem?_eq_some_iff.mp hg.eq).1]; exact hg.eq.symm
      · rw [if_neg e]
    rw [← e1, e2] at q
    exact q
local macro_rules | `(tactic| walk_at "tji") => `(tactic| ((apply s_joinI); (focus ((walk_at "trun"); (exact ⟨rfl, rfl⟩))); (focus ((intro hb); (walk_at "trun"); (exact ⟨rfl, rfl⟩))); (focus (walk_at "tg")); (focus (walk_at "ts"))))
noncomputable def st_lpow : SpT := fun _ as Φ _ => ∃ p k : Int, as = [.fz (.int p), .fz (.int k)] ∧ 2 ≤ p ∧ p ≤ 10 ∧ -900 ≤ k ∧ k ≤ 900 ∧ Φ (.fz (.int (p ^ k.toNat)))
theorem okT_l_power (T : Txt K mg t) : FnOk P w K mg base CX0 1 t.f_l_power t.d_l_power ["_law_base", "_law_many"] (toSp K st_lpow) := by
  refine T.F_l_power.ok sc_l_power (toSp_len (fun B as Φ Ψ h => by obtain ⟨_, _, rfl, _⟩ := h; rfl)) (fun cdv A outer s H vs Q E hr h => ?_)
  obtain ⟨B, as, Φ, Ψ, rfl, hS, hx, go⟩ := toSp_open h
  obtain ⟨p, k, rfl, p2, p10, k0, k1, φ⟩ := hS
  have mp : Mid p := midB (by omega) (by omega)
  refine ⟨_, (psc (ps_set (i := 2) sc_l_power.nd rfl (Or.inl rfl) pei)
  (psc (ps_for PassesOwn.never rfl (pi_range1 rfl T.z_range (pcn (pv 1) pnl)) (pg_name (i := 3) sc_l_power.nd rfl (Or.inl rfl)) (pso (ps_set (i := 2) sc_l_power.nd rfl (Or.inl rfl) (pe_op op_mulB (pv 2) (pv 0)))))
  (pso (ps_ret (pv 2))))), go _ _ (s_go (τ := [.fz _, .fz _, .no, .no]) rfl ?_)⟩
  walk_at "trun"
  refine ⟨⟨by omega, by omega⟩, ?_⟩
  refine ⟨fun i τ => ∃ u : Sl, τ = [.fz (.int p), .fz (.int k), .fz (.int (p ^ i)), u], ⟨.no, by rw [Int.pow_zero]⟩, ?_, ?_⟩
  · rintro i tt τ hi ⟨u, rfl⟩
    obtain ⟨hin, rfl⟩ := rangeT_at hi
    have mq : Mid (p ^ i) := (pow_bd p2 p10 i).2.mono (by omega)
    walk_at "trun"
    exact ⟨_, by rw [Int.pow_succ]⟩
  · rintro τ ⟨u, rfl⟩
    rw [rangeT_len]
    walk_at "trun"
    exact φ
theorem a_lpow {B : Bk} {p k : Int} {Φ : Kd → Prop} {Ψ : Addr → Prop} (p2 : 2 ≤ p) (p10 : p ≤ 10) (k0 : -900 ≤ k) (k1 : k ≤ 900) (q : Φ (.fz (.int (p ^ k.toNat)))) : st_lpow B [.fz (.int p), .fz (.int k)] Φ Ψ := ⟨p, k, rfl, p2, p10, k0, k1, q⟩
noncomputable def tops5c : List Int := [14, 1000000000, 4, 1000000000, 60]
noncomputable def capV (p : Int) : Int := if p = 2 then 130 else 40
noncomputable def tatV (p low many : Int) (e : List Int) : Int := if dg e 0 = 2 then low - 1 else if dg e 0 = 1 then low + many else low + dg e 3 % many
noncomputable def clampV (a c : Int) : Int := if -c > (if c < a then c else a) then -c else (if c < a then c else a)
noncomputable def tcellV (p low many : Int) (e : List Int) (f g : Int) : NP :=
  if dg e 0 = 3 then lowP (-f) g else lowP ((g + (p - 1) * f) * p ^ (clampV (tatV p low many e) (capV p)).toNat) (g * p ^ (-(clampV (tatV p low many e) (capV p))).toNat)
noncomputable def st_tcell : SpT := fun _ as Φ _ => ∃ (p low many len : Int) (e : List Int) (f g : Int), as = [.fz (Sc.tur p low many len).tr, .fz (.lst (e.map Tr.int)), .fz (.int f), .fz (.int g)] ∧ (p = 2 ∨ p = 10) ∧ -200 ≤ low ∧ low ≤ 200 ∧ 1 ≤ many ∧ many ≤ 400 ∧ Tops e tops5c ∧ 0 ≤ f ∧ f ≤ g ∧ 0 < g ∧ g ≤ 100000 ∧ Φ (.fz (nT (tcellV p low many e f g)))
theorem clamp_b {a c : Int} (h : 0 ≤ c) : -c ≤ clampV a c ∧ clampV a c ≤ c := by unfold clampV; split <;> split <;> constructor <;> omega
noncomputable def listI5 : List Stmt → List Expr
  | [_, _, _, _, _, .Assign _ (.Subscript (.List es _) _ _) _, _, _, _] => es
  | _ => []
noncomputable def putI5 (es : List Expr) : List Stmt → List Stmt
  | [a, b, c, d, e, .Assign x (.Subscript (.List _ p) i q) r, f, g, h] => [a, b, c, d, e, .Assign x (.Subscript (.List es p) i q) r, f, g, h]
  | b => b
theorem okT_l_turn_cell (T : Txt K mg t) : FnOk P w K mg base CX0 3 t.f_l_turn_cell t.d_l_turn_cell ["_law_scale_here", "_law_e", "_law_f", "_law_g"] (toSp K st_tcell) := by
  have G_l_low := okT_l_low (P := P) (w := w) (base := base) T
  have G_l_power := okT_l_power (P := P) (w := w) (base := base) T
  refine T.F_l_turn_cell.ok sc_l_turn_cell (toSp_len (fun B as Φ Ψ h => by obtain ⟨_, _, _, _, _, _, _, rfl, _⟩ := h; rfl)) (fun cdv A outer s H vs Q E hr h => ?_)
  obtain ⟨B, as, Φ, Ψ, rfl, hS, hx, go⟩ := toSp_open h
  obtain ⟨p, low, many, len, e, f, g, rfl, hp, w1, w2, m1, m2, tp, f0, f1, g0, g1, φ⟩ := hS
  have el : e.length = 5 := tp.l
  have b0 := tp.at (k := 0) (by decide) rfl
  have p2 : 2 ≤ p := by omega
  have p10 : p ≤ 10 := by omega
  unfold Sc.tr at *
  have hes : intsOf (listI5 (defBody s_l_turn_cell)) = some [0, 0, 130, 0, 0, 0, 0, 0, 0, 0, 40] := rfl
  have eb : defBody s_l_turn_cell = putI5 (listI5 (defBody s_l_turn_cell)) (defBody s_l_turn_cell) := rfl
  rw [eb]
  generalize listI5 (defBody s_l_turn_cell) = es at hes ⊢
  refine ⟨_, (psc (ps_set (i := 4) sc_l_turn_cell.nd rfl (Or.inl rfl) (pe_ix ixt (pv 0) pei (fun _ _ => rfl)))
  (psc (ps_set (i := 5) sc_l_turn_cell.nd rfl (Or.inl rfl) (pe_op op_add (pe_ix ixt (pv 0) pei (fun _ _ => rfl)) (pe_op op_mod (pe_ix ixl (pv 1) pei (fun _ _ => rfl)) (pe_ix ixt (pv 0) pei (fun _ _ => rfl)))))
  (psc (ps_if (pt_cmpR op_eq (pe_ix ixl (pv 1) pei (fun _ _ => rfl)) pei (nomark _)) (pso (ps_set (i := 5) sc_l_turn_cell.nd rfl (Or.inl rfl) (pe_op op_add (pe_ix ixt (pv 0) pei (fun _ _ => rfl)) (pe_ix ixt (pv 0) pei (fun _ _ => rfl))))) pss_nil)
  (psc (ps_if (pt_cmpR op_eq (pe_ix ixl (pv 1) pei (fun _ _ => rfl)) pei (nomark _)) (pso (ps_set (i := 5) sc_l_turn_cell.nd rfl (Or.inl rfl) (pe_op op_sub (pe_ix ixt (pv 0) pei (fun _ _ => rfl)) pei))) pss_nil)
  (psc (ps_if (pt_cmpR op_eq (pe_ix ixl (pv 1) pei (fun _ _ => rfl)) pei (nomark _)) (pso (ps_ret (pe_call G_l_low (hr.mono (by decide)) rfl T.m_l_low T.k_l_low T.b_l_low .nil pass0 (pcn (pe_un un_neg (pv 2)) (pcn (pv 3) pnl))))) pss_nil)
  (psc (ps_set (i := 6) sc_l_turn_cell.nd rfl (Or.inl rfl) (pe_ix ixl (pe_lst (pa_ints [0, 0, 130, 0, 0, 0, 0, 0, 0, 0, 40] hes)) (pv 4) (fun _ _ => rfl)))
  (psc (ps_set (i := 5) sc_l_turn_cell.nd rfl (Or.inl rfl) (pe_callB (call_max2 rfl) rfl T.z_max bt_max (pcn (pe_callB (call_min2 rfl) rfl T.z_min bt_min (pcn (pv 5) (pcn (pv 6) pnl))) (pcn (pe_un un_neg (pv 6)) pnl))))
  (psc (ps_set (i := 7) sc_l_turn_cell.nd rfl (Or.inl rfl) (pe_op op_mulB (pe_op op_add (pv 3) (pe_op op_mulB (pe_op op_sub (pv 4) pei) (pv 2))) (pe_call G_l_power (hr.mono (by decide)) rfl T.m_l_power T.k_l_power T.b_l_power .nil pass0 (pcn (pv 4) (pcn (pv 5) pnl)))))
  (pso (ps_ret (pe_call G_l_low (hr.mono (by decide)) rfl T.m_l_low T.k_l_low T.b_l_low .nil pass0 (pcn (pv 7) (pcn (pe_op op_mulB (pv 3) (pe_call G_l_power (hr.mono (by decide)) rfl T.m_l_power T.k_l_power T.b_l_power .nil pass0 (pcn (pv 4) (pcn (pe_un un_neg (pv 5)) pnl)))) pnl))))))))))))), go _ _ (s_go (τ := [.fz _, .fz _, .fz _, .fz _, .no, .no, .no, .no]) rfl ?_)⟩
  walk_at "trunI"
  walk_at "tji"
  walk_at "trunI"
  walk_at "tji"
  have ha : (if decide (dg e 0 = 2) = true then low - 1 else if decide (dg e 0 = 1) = true then low + many else low + dg e 3 % many) = tatV p low many e := by
    unfold tatV
    by_cases z2 : dg e 0 = 2
    · rw [decide_eq_true z2, if_pos rfl, if_pos z2]
    · rw [decide_eq_false z2, if_neg Bool.false_ne_true, if_neg z2]
      by_cases z1 : dg e 0 = 1
      · rw [decide_eq_true z1, if_pos rfl, if_pos z1]
      · rw [decide_eq_false z1, if_neg Bool.false_ne_true, if_neg z1]
  rw [ha]
  unfold tcellV at φ
  have mg1 : Mid g := midB (by omega) (by omega)
  walk_at "trun"
  refine z_iteD (fun z3 => ?_) (fun z3 => ?_)
  · rw [if_pos z3] at φ
    walk_at "trun"
    intro _ _
    refine a_low g0 mg1 ?_
    walk_at "trun"
    exact φ
  · rw [if_neg z3] at φ
    have hcap : atI (([0, 0, 130, 0, 0, 0, 0, 0, 0, 0, 40] : List Int).map Tr.int) p = some (.int (capV p)) := by rcases hp with rfl | rfl <;> rfl
    have cb := clamp_b (a := tatV p low many e) (c := capV p) (by unfold capV; split <;> omega)
    have cc : capV p ≤ 130 := by unfold capV; split <;> omega
    walk_at "trun"
    refine ro_ixL rfl Rk.fz hcap ?_
    walk_at "trun"
    generalize hcl : clampV (tatV p low many e) (capV p) = cl at *
    have ecl : (if -capV p > (if capV p < tatV p low many e then capV p else tatV p low many e) then -capV p else (if capV p < tatV p low many e then capV p else tatV p low many e)) = cl := hcl
    rw [ecl]
    have q1 := pow_bd p2 p10 cl.toNat
    have q2 := pow_bd p2 p10 (-cl).toNat
    have mq1 : Mid (p ^ cl.toNat) := q1.2.mono (by omega)
    have mq2 : Mid (p ^ (-cl).toNat) := q2.2.mono (by omega)
    have mtop : Mid (g + (p - 1) * f) := by
      have h1 : (p - 1) * f ≤ 9 * 100000 := Int.le_trans (Int.mul_le_mul_of_nonneg_right (show p - 1 ≤ 9 by omega) f0) (by omega)
      have h2 : 0 ≤ (p - 1) * f := Int.mul_nonneg (by omega) f0
      exact midB (by omega) (by omega)
    intro _ _
    refine a_lpow (k := cl) p2 p10 (by omega) (by omega) ?_
    walk_at "trun"
    intro _ _
    refine a_lpow (k := -cl) p2 p10 (by omega) (by omega) ?_
    walk_at "trun"
    intro _ _
    refine a_low (Int.mul_pos g0 q2.1) (((bd_60 (by omega) (by omega)).mul q2.2).mono (by omega)) ?_
    walk_at "trun"
    exact φ
theorem tcell_nb {p low many : Int} {e : List Int} {f g : Int} (hp : p = 2 ∨ p = 10) (f0 : 0 ≤ f) (f1 : f ≤ g) (g0 : 0 < g) (g1 : g ≤ 100000) : NumOk (tcellV p low many e f g).1 (tcellV p low many e f g).2 := by
  have p2 : 2 ≤ p := by omega
  have p10 : p ≤ 10 := by omega
  unfold tcellV
  split
  · have := lowP_nb (t := -f) (b := g) (n := 60) g0 (bd_60 (by omega) (by omega)) (bd_60 (by omega) (by omega))
    exact ⟨this.pos, this.ba.mono (by decide), this.bb.mono (by decide)⟩
  · have cb := clamp_b (a := tatV p low many e) (c := capV p) (by unfold capV; split <;> omega)
    generalize clampV (tatV p low many e) (capV p) = cl at *
    have hb : (p = 2 ∧ -130 ≤ cl ∧ cl ≤ 130) ∨ (p = 10 ∧ -40 ≤ cl ∧ cl ≤ 40) := by
      rcases hp with z | z
      · have : capV p = 130 := by unfold capV; rw [if_pos z]
        exact .inl ⟨z, by omega, by omega⟩
      · have : capV p = 40 := by unfold capV; rw [if_neg (by omega)]
        exact .inr ⟨z, by omega, by omega⟩
    have pw : ∀ n : Nat, (p = 2 ∧ n ≤ 130) ∨ (p = 10 ∧ n ≤ 40) → My.Bd 165 (p ^ n) := fun n hn => by
      rcases hn with ⟨rfl, hn⟩ | ⟨rfl, hn⟩
      · unfold My.Bd
        rw [Int.natAbs_pow]
        exact Nat.lt_of_lt_of_le (Nat.pow_lt_pow_right (by decide) (show n < 165 by omega)) (Nat.le_refl _)
      · exact (pow_bd (b := 10) (by decide) (by decide) n).2.mono (by omega)
    have g2 := pow_bd p2 p10 (-cl).toNat
    have t : My.Bd 30 (g + (p - 1) * f) := by
      have h1 : (p - 1) * f ≤ 9 * 100000 := Int.le_trans (Int.mul_le_mul_of_nonneg_right (show p - 1 ≤ 9 by omega) f0) (by omega)
      have h2 : 0 ≤ (p - 1) * f := Int.mul_nonneg (by omega) f0
      unfold My.Bd
      omega
    have gb : My.Bd 30 g := by unfold My.Bd; omega
    have := lowP_nb (t := (g + (p - 1) * f) * p ^ cl.toNat) (b := g * p ^ (-cl).toNat) (n := 195) (Int.mul_pos g0 g2.1) ((t.mul (pw _ (by omega))).mono (by decide)) ((gb.mul (pw _ (by omega))).mono (by decide))
    exact ⟨this.pos, this.ba.mono (by decide), this.bb.mono (by decide)⟩
noncomputable def ceF (s : Sc) (e : List Int) : Int × Int :=
  let g := pk4 (dg e 2) (1 + dg e 3 % 12) (2 * s.len) (1 + dg e 3 % 1000) 2
  (dg e 1 % (g + 1), g)
noncomputable def ceF2 (s : Sc) (e : List Int) : Int := if decide (dg e 0 = 2) = true then -1 - (if decide (dg e 0 = 1) = true then (ceF s e).2 + 1 + (ceF s e).1 else (ceF s e).1) else if decide (dg e 0 = 1) = true then (ceF s e).2 + 1 + (ceF s e).1 else (ceF s e).1
noncomputable def pcAt (ps : List Pi6) (k : Int) : Pi6 := ps.getD k.toNat (0, 1, 0, 1, 0, 0)
noncomputable def cellN (x : NP) : Ce := .num x.1 x.2
noncomputable def cellV (s : Sc) (e : List Int) : Ce :=
  if dg e 0 = 0 then .no else match s with
  | .ord ws _ => if dg e 0 = 1 then .wd (chS (dg e 1 % 26)) else .wd (ws.getD (dg e 1 % (ws.length : Int)).toNat "")
  | .tur p low many _ => cellN (tcellV p low many e (ceF s e).1 (ceF s e).2)
  | .day f l _ => .day (clampD (f + (l - f) * ceF2 s e / (ceF s e).2))
  | .str a b c d _ => cellN (partP (a, b) (c, d) (ceF2 s e) (ceF s e).2)
  | .brk ps _ =>
    let at_ := dg e 4 % (ps.length : Int)
    if dg e 0 = 3 ∧ 0 < at_ then cellN (partP ((pcAt ps (at_ - 1)).2.2.1, (pcAt ps (at_ - 1)).2.2.2.1) ((pcAt ps at_).1, (pcAt ps at_).2.1) (ceF2 s e) (ceF s e).2)
    else cellN (partP ((pcAt ps at_).1, (pcAt ps at_).2.1) ((pcAt ps at_).2.2.1, (pcAt ps at_).2.2.2.1) (ceF2 s e) (ceF s e).2)
where clampD (d : Int) : Int := if (if d < 3286816 then d else 3286816) > 364877 then (if d < 3286816 then d else 3286816) else 364877
theorem atS {ws : List Str} {k : Int} (h0 : 0 ≤ k) (h1 : k < (ws.length : Int)) : atI (ws.map Tr.str) k = some (.str (ws.getD k.toNat "")) := by
  have hk : k.toNat < ws.length := by omega
  have e : k = ((k.toNat : Nat) : Int) := by omega
  have h : (ws.map Tr.str)[k.toNat]? = some (.str (ws.getD k.toNat "")) := by
    rw [List.getElem?_map, List.getElem?_eq_getElem hk, List.getD_eq_getElem?_getD, List.getElem?_eq_getElem hk]
    rfl
  have := atI_nat h
  rw [← e] at this
  exact this
theorem atPc {ps : List Pi6} {k : Int} (h0 : 0 ≤ k) (h1 : k < (ps.length : Int)) : atI (ps.map pcT) k = some (pcT (pcAt ps k)) ∧ pcAt ps k ∈ ps := by
  have hk : k.toNat < ps.length := by omega
  have e : k = ((k.toNat : Nat) : Int) := by omega
  have hd : pcAt ps k = ps[k.toNat] := by unfold pcAt; rw [List.getD_eq_getElem?_getD, List.getElem?_eq_getElem hk]; rfl
  have h : (ps.map pcT)[k.toNat]? = some (pcT (pcAt ps k)) := by
    rw [List.getElem?_map, List.getElem?_eq_getElem hk, hd]; rfl
  have := atI_nat h
  rw [← e] at this
  exact ⟨this, by rw [hd]; exact List.getElem_mem hk⟩
noncomputable def st_cell : SpT := fun _ as Φ _ => ∃ (s : Sc) (e : List Int), as = [.fz s.tr, .fz (.lst (e.map Tr.int))] ∧ ScOk s ∧ (∀ p low many len, s = .tur p low many len → p = 2 ∨ p = 10) ∧ Tops e tops5c ∧ Φ (.fz (cellV s e).tr)
theorem okT_l_cell (T : Txt K mg t) : FnOk P w K mg base CX0 5 t.f_l_cell t.d_l_cell ["_law_scale_here", "_law_e"] (toSp K st_cell) := by
  have G_l_turn_cell := okT_l_turn_cell (P := P) (w := w) (base := base) T
  have G_l_part := okT_l_part (P := P) (w := w) (base := base) T
  refine T.F_l_cell.ok sc_l_cell (toSp_len (fun B as Φ Ψ h => by obtain ⟨_, _, rfl, _⟩ := h; rfl)) (fun cdv A outer s H vs Q E hr h => ?_)
  obtain ⟨B, as, Φ, Ψ, rfl, hS, hx, go⟩ := toSp_open h
  obtain ⟨sc, e, rfl, hs, ht, tp, φ⟩ := hS
  have el : e.length = 5 := tp.l
  have b0 := tp.at (k := 0) (by decide) rfl
  have b1 := tp.at (k := 1) (by decide) rfl
  have b2 := tp.at (k := 2) (by decide) rfl
  have b3 := tp.at (k := 3) (by decide) rfl
  have b4 := tp.at (k := 4) (by decide) rfl
  have len4 : 1 ≤ sc.len ∧ sc.len ≤ 4000 := by
    cases sc with
    | str a b c d len => exact ⟨hs.2.2.2.1, hs.2.2.2.2⟩
    | tur p low many len => exact ⟨hs.2.2.2.2.2.2.1, hs.2.2.2.2.2.2.2⟩
    | brk ps len => exact ⟨hs.2.2.2.1, hs.2.2.2.2⟩
    | day f l len => exact ⟨hs.2.2.2.1, hs.2.2.2.2⟩
    | ord ws len => exact ⟨hs.2.2.1, hs.2.2.2⟩
  have g0 : 0 < (ceF sc e).2 ∧ (ceF sc e).2 ≤ 8000 := by
    show 0 < pk4 (dg e 2) (1 + dg e 3 % 12) (2 * sc.len) (1 + dg e 3 % 1000) 2 ∧ pk4 (dg e 2) (1 + dg e 3 % 12) (2 * sc.len) (1 + dg e 3 % 1000) 2 ≤ 8000
    unfold pk4
    split
    · omega
    split
    · omega
    split <;> omega
  have f0 : 0 ≤ (ceF sc e).1 ∧ (ceF sc e).1 ≤ (ceF sc e).2 := by
    have h1 := Int.emod_nonneg (dg e 1) (show (ceF sc e).2 + 1 ≠ 0 by omega)
    have h2 := Int.emod_lt_of_pos (dg e 1) (show 0 < (ceF sc e).2 + 1 by omega)
    show 0 ≤ dg e 1 % ((ceF sc e).2 + 1) ∧ dg e 1 % ((ceF sc e).2 + 1) ≤ (ceF sc e).2
    omega
  have f2 : -20000 ≤ ceF2 sc e ∧ ceF2 sc e ≤ 20000 := by unfold ceF2; split <;> split <;> omega
  refine ⟨_, (psc (ps_if (pt_cmpR op_eq (pe_ix ixl (pv 1) pei (fun _ _ => rfl)) pei (nomark _)) (pso (ps_ret pe_non)) pss_nil)
  (psc (ps_if (pt_cmpR op_eq (pe_ix ixt (pv 0) pei (fun _ _ => rfl)) pe_str (nomark _)) (psc (ps_if (pt_cmpR op_eq (pe_ix ixl (pv 1) pei (fun _ _ => rfl)) pei (nomark _)) (pso (ps_ret (pe_ix ix_str pe_str (pe_op op_mod (pe_ix ixl (pv 1) pei (fun _ _ => rfl)) pei) (fun _ _ => rfl)))) pss_nil)
  (pso (ps_ret (pe_ix ixl (pe_ix ixt (pv 0) pei (fun _ _ => rfl)) (pe_op op_mod (pe_ix ixl (pv 1) pei (fun _ _ => rfl)) (pe_callB call_len_seq rfl T.z_len PySem.boot_len (pcn (pe_ix ixt (pv 0) pei (fun _ _ => rfl)) pnl))) (fun _ _ => rfl))))) pss_nil)
  (psc (ps_set (i := 2) sc_l_cell.nd rfl (Or.inl rfl) (pe_ix ixl (pe_lst (pcn (pe_op op_add pei (pe_op op_mod (pe_ix ixl (pv 1) pei (fun _ _ => rfl)) pei)) (pcn (pe_op op_mulB pei (pe_ix ixt (pv 0) (pe_un un_neg pei) (fun _ _ => rfl))) (pcn (pe_op op_add pei (pe_op op_mod (pe_ix ixl (pv 1) pei (fun _ _ => rfl)) pei)) (pcn pei pnl))))) (pe_ix ixl (pv 1) pei (fun _ _ => rfl)) (fun _ _ => rfl)))
  (psc (ps_set (i := 3) sc_l_cell.nd rfl (Or.inl rfl) (pe_op op_mod (pe_ix ixl (pv 1) pei (fun _ _ => rfl)) (pe_op op_add (pv 2) pei)))
  (psc (ps_if (pt_cmpR op_eq (pe_ix ixt (pv 0) pei (fun _ _ => rfl)) pe_str (nomark _)) (pso (ps_ret (pe_call G_l_turn_cell (hr.mono (by decide)) rfl T.m_l_turn_cell T.k_l_turn_cell T.b_l_turn_cell .nil pass0 (pcn (pv 0) (pcn (pv 1) (pcn (pv 3) (pcn (pv 2) pnl))))))) pss_nil)
  (psc (ps_if (pt_cmpR op_eq (pe_ix ixl (pv 1) pei (fun _ _ => rfl)) pei (nomark _)) (pso (ps_set (i := 3) sc_l_cell.nd rfl (Or.inl rfl) (pe_op op_add (pe_op op_add (pv 2) pei) (pv 3)))) pss_nil)
  (psc (ps_if (pt_cmpR op_eq (pe_ix ixl (pv 1) pei (fun _ _ => rfl)) pei (nomark _)) (pso (ps_set (i := 3) sc_l_cell.nd rfl (Or.inl rfl) (pe_op op_sub (pe_un un_neg pei) (pv 3)))) pss_nil)
  (psc (ps_if (pt_cmpR op_eq (pe_ix ixt (pv 0) pei (fun _ _ => rfl)) pe_str (nomark _)) (pso (ps_ret (pe_callB (call_max2 rfl) rfl T.z_max bt_max (pcn pei (pcn (pe_callB (call_min2 rfl) rfl T.z_min bt_min (pcn pei (pcn (pe_op op_add (pe_ix ixt (pv 0) pei (fun _ _ => rfl)) (pe_op op_fdivB (pe_op op_mulB (pe_op op_sub (pe_ix ixt (pv 0) pei (fun _ _ => rfl)) (pe_ix ixt (pv 0) pei (fun _ _ => rfl))) (pv 3)) (pv 2))) pnl))) pnl))))) pss_nil)
  (psc (ps_if (pt_cmpR op_eq (pe_ix ixt (pv 0) pei (fun _ _ => rfl)) pe_str (nomark _)) (pso (ps_ret (pe_call G_l_part (hr.mono (by decide)) rfl T.m_l_part T.k_l_part T.b_l_part .nil pass0 (pcn (pe_ix ixt (pv 0) pei (fun _ _ => rfl)) (pcn (pe_ix ixt (pv 0) pei (fun _ _ => rfl)) (pcn (pv 3) (pcn (pv 2) pnl))))))) pss_nil)
  (psc (ps_set (i := 4) sc_l_cell.nd rfl (Or.inl rfl) (pe_ix ixt (pv 0) pei (fun _ _ => rfl)))
  (psc (ps_set (i := 5) sc_l_cell.nd rfl (Or.inl rfl) (pe_op op_mod (pe_ix ixl (pv 1) pei (fun _ _ => rfl)) (pe_callB call_len_seq rfl T.z_len PySem.boot_len (pcn (pv 4) pnl))))
  (psc (ps_if (PW.pt (pw_and (pt_cmpR op_eq (pe_ix ixl (pv 1) pei (fun _ _ => rfl)) pei (nomark _)) (pw_and1 (pt_cmpR op_gt (pv 5) pei (nomark _))))) (pso (ps_ret (pe_call G_l_part (hr.mono (by decide)) rfl T.m_l_part T.k_l_part T.b_l_part .nil pass0 (pcn (pe_ix ixt (pe_ix ixl (pv 4) (pe_op op_sub (pv 5) pei) (fun _ _ => rfl)) pei (fun _ _ => rfl)) (pcn (pe_ix ixt (pe_ix ixl (pv 4) (pv 5) (fun _ _ => rfl)) pei (fun _ _ => rfl)) (pcn (pv 3) (pcn (pv 2) pnl))))))) pss_nil)
  (pso (ps_ret (pe_call G_l_part (hr.mono (by decide)) rfl T.m_l_part T.k_l_part T.b_l_part .nil pass0 (pcn (pe_ix ixt (pe_ix ixl (pv 4) (pv 5) (fun _ _ => rfl)) pei (fun _ _ => rfl)) (pcn (pe_ix ixt (pe_ix ixl (pv 4) (pv 5) (fun _ _ => rfl)) pei (fun _ _ => rfl)) (pcn (pv 3) (pcn (pv 2) pnl))))))))))))))))))), go _ _ (s_go (τ := [.fz _, .fz _, .no, .no, .no, .no]) rfl ?_)⟩
  unfold cellV at φ
  walk_at "trun"
  refine z_iteD (fun z => ?_) (fun z => ?_)
  · rw [if_pos z] at φ
    walk_at "trun"
    exact φ
  rw [if_neg z] at φ
  cases sc with
  | ord ws len =>
    obtain ⟨k1, k2, k4, k5⟩ := hs
    walk_at "trun"
    refine z_iteD (fun _ => ?_) (fun y => absurd rfl y)
    walk_at "trun"
    refine z_iteD (fun z1 => ?_) (fun z1 => ?_)
    · have φ : Φ (.fz (Ce.tr (if dg e 0 = 1 then .wd (chS (dg e 1 % 26)) else .wd (ws.getD (dg e 1 % (ws.length : Int)).toNat "")))) := φ
      rw [if_pos z1] at φ
      walk_at "trun"
      refine ro_let (Int.emod_nonneg _ (by decide)) (Int.emod_lt_of_pos _ (by decide)) ?_
      walk_at "trun"
      exact φ
    · have φ : Φ (.fz (Ce.tr (if dg e 0 = 1 then .wd (chS (dg e 1 % 26)) else .wd (ws.getD (dg e 1 % (ws.length : Int)).toNat "")))) := φ
      rw [if_neg z1] at φ
      have hm : ((ws.map Tr.str).length : Int) = (ws.length : Int) := by rw [List.length_map]
      have e0 := Int.emod_nonneg (dg e 1) (show (ws.length : Int) ≠ 0 by omega)
      have e1 := Int.emod_lt_of_pos (dg e 1) (show 0 < (ws.length : Int) by omega)
      walk_at "trun"
      rw [hm]
      walk_at "trun"
      refine ro_ixL rfl Rk.fz (atS e0 e1) ?_
      walk_at "trun"
      exact φ
  | tur p low many len =>
    have hp := ht _ _ _ _ rfl
    obtain ⟨_, _, k3, k4, k5, k6, _⟩ := hs
    walk_at "trun"
    refine z_iteD (fun y => absurd y (by decide)) (fun _ => ?_)
    walk_at "trun"
    refine ro_ixL rfl Rk.fz (atP4 b2.1 b2.2) ?_
    rw [pk4_int]
    change GA B _ (.fz (.int (ceF (Sc.tur p low many len) e).2)) _ _
    walk_at "trun"
    refine z_iteD (fun _ => ?_) (fun y => absurd rfl y)
    walk_at "trun"
    intro _ _
    refine ⟨p, low, many, len, e, _, _, rfl, hp, k3, k4, k5, k6, tp, f0.1, f0.2, g0.1, by omega, ?_⟩
    walk_at "trun"
    exact φ
  | day f l len =>
    obtain ⟨k1, k2, k3, k4, k5⟩ := hs
    have φ : Φ (.fz (.int (cellV.clampD (f + (l - f) * ceF2 (Sc.day f l len) e / (ceF (Sc.day f l len) e).2)))) := φ
    walk_at "trun"
    refine z_iteD (fun y => absurd y (by decide)) (fun _ => ?_)
    walk_at "trun"
    refine ro_ixL rfl Rk.fz (atP4 b2.1 b2.2) ?_
    rw [pk4_int]
    change GA B _ (.fz (.int (ceF (Sc.day f l len) e).2)) _ _
    walk_at "trun"
    refine z_iteD (fun y => absurd y (by decide)) (fun _ => ?_)
    walk_at "trunI"
    walk_at "tji"
    walk_at "trunI"
    walk_at "tji"
    change SV B _ [_, _, _, .fz (.int (ceF2 (Sc.day f l len) e)), _, _] _
    walk_at "trun"
    refine z_iteD (fun _ => ?_) (fun y => absurd rfl y)
    have m1 : Mid (l - f) := midB (by omega) (by omega)
    have m2 : Mid (ceF2 (Sc.day f l len) e) := (bd_60 (by omega) (by omega)).mono (by decide)
    have m3 : Mid (ceF (Sc.day f l len) e).2 := midB (by omega) (by omega)
    walk_at "trun"
    exact φ
  | str a b c d len =>
    obtain ⟨k1, k2, k3, k4, k5⟩ := hs
    have n1 : NB 260 (a, b) := ⟨k1.pos, k1.ba, k1.bb⟩
    have n2 : NB 260 (c, d) := ⟨k2.pos, k2.ba, k2.bb⟩
    have φ : Φ (.fz (nT (partP (a, b) (c, d) (ceF2 (Sc.str a b c d len) e) (ceF (Sc.str a b c d len) e).2))) := φ
    walk_at "trun"
    refine z_iteD (fun y => absurd y (by decide)) (fun _ => ?_)
    walk_at "trun"
    refine ro_ixL rfl Rk.fz (atP4 b2.1 b2.2) ?_
    rw [pk4_int]
    change GA B _ (.fz (.int (ceF (Sc.str a b c d len) e).2)) _ _
    walk_at "trun"
    refine z_iteD (fun y => absurd y (by decide)) (fun _ => ?_)
    walk_at "trunI"
    walk_at "tji"
    walk_at "trunI"
    walk_at "tji"
    change SV B _ [_, _, _, .fz (.int (ceF2 (Sc.str a b c d len) e)), _, _] _
    walk_at "trun"
    refine z_iteD (fun y => absurd y (by decide)) (fun _ => ?_)
    walk_at "trun"
    refine z_iteD (fun _ => ?_) (fun y => absurd rfl y)
    walk_at "trun"
    intro _ _
    refine ⟨(a, b), (c, d), _, _, 260, 60, rfl, n1, n2, g0.1, bd_60 (by omega) (by omega), bd_60 (by omega) (by omega), by decide, ?_⟩
    walk_at "trun"
    exact φ
  | brk ps len =>
    obtain ⟨k0, kl, k1, k2, k3⟩ := hs
    have hpl : 0 < ps.length := List.length_pos_iff.mpr k0
    have a0 := Int.emod_nonneg (dg e 4) (show (ps.length : Int) ≠ 0 by omega)
    have a1 := Int.emod_lt_of_pos (dg e 4) (show 0 < (ps.length : Int) by omega)
    have hm : ((ps.map pcT).length : Int) = (ps.length : Int) := by rw [List.length_map]
    walk_at "trun"
    refine z_iteD (fun y => absurd y (by decide)) (fun _ => ?_)
    walk_at "trun"
    refine ro_ixL rfl Rk.fz (atP4 b2.1 b2.2) ?_
    rw [pk4_int]
    change GA B _ (.fz (.int (ceF (Sc.brk ps len) e).2)) _ _
    walk_at "trun"
    refine z_iteD (fun y => absurd y (by decide)) (fun _ => ?_)
    walk_at "trunI"
    walk_at "tji"
    walk_at "trunI"
    walk_at "tji"
    change SV B _ [_, _, _, .fz (.int (ceF2 (Sc.brk ps len) e)), _, _] _
    walk_at "trun"
    refine z_iteD (fun y => absurd y (by decide)) (fun _ => ?_)
    walk_at "trun"
    refine z_iteD (fun y => absurd y (by decide)) (fun _ => ?_)
    walk_at "trun"
    rw [hm]
    walk_at "trun"
    generalize hav : dg e 4 % (ps.length : Int) = av at *
    have φ : Φ (.fz (Ce.tr (if dg e 0 = 3 ∧ 0 < av then cellN (partP ((pcAt ps (av - 1)).2.2.1, (pcAt ps (av - 1)).2.2.2.1) ((pcAt ps av).1, (pcAt ps av).2.1) (ceF2 (Sc.brk ps len) e) (ceF (Sc.brk ps len) e).2) else cellN (partP ((pcAt ps av).1, (pcAt ps av).2.1) ((pcAt ps av).2.2.1, (pcAt ps av).2.2.2.1) (ceF2 (Sc.brk ps len) e) (ceF (Sc.brk ps len) e).2)))) := by rw [← hav]; exact φ
    obtain ⟨x1, x2⟩ := atPc a0 a1
    obtain ⟨g1, g2, _⟩ := k1 _ x2
    have n1 : NB 260 ((pcAt ps av).1, (pcAt ps av).2.1) := ⟨g1.pos, g1.ba, g1.bb⟩
    have n2 : NB 260 ((pcAt ps av).2.2.1, (pcAt ps av).2.2.2.1) := ⟨g2.pos, g2.ba, g2.bb⟩
    have last : ∀ φ : Φ (.fz (nT (partP ((pcAt ps av).1, (pcAt ps av).2.1) ((pcAt ps av).2.2.1, (pcAt ps av).2.2.2.1) (ceF2 (Sc.brk ps len) e) (ceF (Sc.brk ps len) e).2))), SV B (tRet (tCall (toSp B.K st_part) [] E0 (tCons (tOp (rIxT B.K) (tOp (rIxL B.K) (tVar 4) (tVar 5)) (tC (V.int 0))) (tCons (tOp (rIxT B.K) (tOp (rIxL B.K) (tVar 4) (tVar 5)) (tC (V.int 1))) (tCons (tVar 3) (tCons (tVar 2) tNil)))))) [Sl.fz (Sc.brk ps len).tr, Sl.fz (Tr.lst (List.map Tr.int e)), Sl.fz (Tr.int (ceF (Sc.brk ps len) e).snd), Sl.fz (Tr.int (ceF2 (Sc.brk ps len) e)), Sl.fz (Tr.lst (List.map pcT ps)), Sl.fz (Tr.int av)] ⟨fun _ => Φ (.fz .non), Φ, fun _ => False, fun _ => False⟩ := fun φ => by
      walk_at "trun"
      refine ro_ixL rfl Rk.fz x1 ?_
      walk_at "trun"
      refine ro_ixL rfl Rk.fz x1 ?_
      walk_at "trun"
      intro _ _
      refine ⟨((pcAt ps av).1, (pcAt ps av).2.1), ((pcAt ps av).2.2.1, (pcAt ps av).2.2.2.1), _, _, 260, 60, rfl, n1, n2, g0.1, bd_60 (by omega) (by omega), bd_60 (by omega) (by omega), by decide, ?_⟩
      walk_at "trun"
      exact φ
    refine z_iteD (fun z3 => ?_) (fun z3 => ?_)
    · walk_at "trun"
      refine z_iteD (fun z4 => ?_) (fun z4 => ?_)
      · rw [if_pos ⟨z3, z4⟩] at φ
        obtain ⟨y1, y2⟩ := atPc (ps := ps) (k := av - 1) (by omega) (by omega)
        obtain ⟨_, g4, _⟩ := k1 _ y2
        have n3 : NB 260 ((pcAt ps (av - 1)).2.2.1, (pcAt ps (av - 1)).2.2.2.1) := ⟨g4.pos, g4.ba, g4.bb⟩
        walk_at "trun"
        refine ro_ixL rfl Rk.fz y1 ?_
        walk_at "trun"
        refine ro_ixL rfl Rk.fz x1 ?_
        walk_at "trun"
        intro _ _
        refine ⟨((pcAt ps (av - 1)).2.2.1, (pcAt ps (av - 1)).2.2.2.1), ((pcAt ps av).1, (pcAt ps av).2.1), _, _, 260, 60, rfl, n3, n1, g0.1, bd_60 (by omega) (by omega), bd_60 (by omega) (by omega), by decide, ?_⟩
        walk_at "trun"
        exact φ
      · rw [if_neg fun y => z4 y.2] at φ
        refine s_next ?_
        exact last φ
    · rw [if_neg fun y => z3 y.1] at φ
      refine s_next ?_
      exact last φ
noncomputable def st_between : SpT := fun _ as Φ _ => ∃ (lo hi c : NP) (s e : Int) (nt nb : Nat), as = [.fz (nT lo), .fz (nT hi), .fz (nT c), .fz (.int s), .fz (.int e)] ∧ (My.Bd nt lo.1 ∧ My.Bd nb lo.2) ∧ (My.Bd nt hi.1 ∧ My.Bd nb hi.2) ∧ NB 300 c ∧ My.Bd 60 s ∧ My.Bd 60 e ∧ nt + 2 * nb + 420 ≤ 3900 ∧ Φ (.fz (.tup [.int (s * (c.2 * (hi.1 * lo.2 - lo.1 * hi.2)) + (c.1 * lo.2 - lo.1 * c.2) * hi.2 * (e - s)), .int (c.2 * (hi.1 * lo.2 - lo.1 * hi.2))]))
theorem okT_l_between (T : Txt K mg t) : FnOk P w K mg base CX0 1 t.f_l_between t.d_l_between ["_law_lo", "_law_hi", "_law_cell_here", "_law_start", "_law_stop"] (toSp K st_between) := by
  refine T.F_l_between.ok sc_l_between (toSp_len (fun B as Φ Ψ h => by obtain ⟨_, _, _, _, _, _, _, rfl, _⟩ := h; rfl)) (fun cdv A outer s H vs Q E hr h => ?_)
  obtain ⟨B, as, Φ, Ψ, rfl, hS, hx, go⟩ := toSp_open h
  obtain ⟨⟨a, b⟩, ⟨c, d⟩, ⟨x, y⟩, s0, e0, nt, nb, rfl, h1, h2, h3, hs, he, hn, φ⟩ := hS
  have ba : My.Bd nt a := h1.1
  have bb : My.Bd nb b := h1.2
  have bc : My.Bd nt c := h2.1
  have bd : My.Bd nb d := h2.2
  have bx : My.Bd 300 x := h3.ba
  have bY : My.Bd 300 y := h3.bb
  unfold nT N2 at *
  refine ⟨_, (psc (ps_set (i := 5) sc_l_between.nd rfl (Or.inl rfl) (pe_op op_mulB (pe_ix ixt (pv 2) pei (fun _ _ => rfl)) (pe_op op_sub (pe_op op_mulB (pe_ix ixt (pv 1) pei (fun _ _ => rfl)) (pe_ix ixt (pv 0) pei (fun _ _ => rfl))) (pe_op op_mulB (pe_ix ixt (pv 0) pei (fun _ _ => rfl)) (pe_ix ixt (pv 1) pei (fun _ _ => rfl))))))
  (psc (ps_set (i := 6) sc_l_between.nd rfl (Or.inl rfl) (pe_op op_mulB (pe_op op_sub (pe_op op_mulB (pe_ix ixt (pv 2) pei (fun _ _ => rfl)) (pe_ix ixt (pv 0) pei (fun _ _ => rfl))) (pe_op op_mulB (pe_ix ixt (pv 0) pei (fun _ _ => rfl)) (pe_ix ixt (pv 2) pei (fun _ _ => rfl)))) (pe_ix ixt (pv 1) pei (fun _ _ => rfl))))
  (pso (ps_ret (pe_tup (pcn (pe_op op_add (pe_op op_mulB (pv 3) (pv 5)) (pe_op op_mulB (pv 6) (pe_op op_sub (pv 4) (pv 3)))) (pcn (pv 5) pnl))))))), go _ _ (s_go (τ := [.fz _, .fz _, .fz _, .fz _, .fz _, .no, .no]) rfl ?_)⟩
  walk_at "trun"
  exact φ
noncomputable def st_lwithin : SpT := fun _ as Φ _ => ∃ lo hi c : NP, as = [.fz (nT lo), .fz (nT hi), .fz (nT c)] ∧ NB 3000 lo ∧ NB 3000 hi ∧ NB 300 c ∧ Φ (.fz (.bl (inB c.1 c.2 lo.1 lo.2 hi.1 hi.2)))
theorem okT_l_within (T : Txt K mg t) : FnOk P w K mg base CX0 1 t.f_l_within t.d_l_within ["_law_lo", "_law_hi", "_law_cell_here"] (toSp K st_lwithin) := by
  refine T.F_l_within.ok sc_l_within (toSp_len (fun B as Φ Ψ h => by obtain ⟨_, _, _, rfl, _⟩ := h; rfl)) (fun cdv A outer s H vs Q E hr h => ?_)
  obtain ⟨B, as, Φ, Ψ, rfl, hS, hx, go⟩ := toSp_open h
  obtain ⟨⟨a, b⟩, ⟨c, d⟩, ⟨x, y⟩, rfl, h1, h2, h3, φ⟩ := hS
  have ba : My.Bd 3000 a := h1.ba
  have bb : My.Bd 3000 b := h1.bb
  have bc : My.Bd 3000 c := h2.ba
  have bd : My.Bd 3000 d := h2.bb
  have bx : My.Bd 300 x := h3.ba
  have bY : My.Bd 300 y := h3.bb
  unfold nT N2 at *
  refine ⟨_, (pso (ps_ret (pe_and (pe_cmpR op_le (pe_op op_mulB (pe_ix ixt (pv 0) pei (fun _ _ => rfl)) (pe_ix ixt (pv 2) pei (fun _ _ => rfl))) (pe_op op_mulB (pe_ix ixt (pv 2) pei (fun _ _ => rfl)) (pe_ix ixt (pv 0) pei (fun _ _ => rfl))) (nomark _)) (pe_one (pe_cmpR op_le (pe_op op_mulB (pe_ix ixt (pv 2) pei (fun _ _ => rfl)) (pe_ix ixt (pv 1) pei (fun _ _ => rfl))) (pe_op op_mulB (pe_ix ixt (pv 1) pei (fun _ _ => rfl)) (pe_ix ixt (pv 2) pei (fun _ _ => rfl))) (nomark _)))))), go _ _ (s_go (τ := [.fz _, .fz _, .fz _]) rfl ?_)⟩
  have φ : Φ (.fz (.bl (!decide (x * b < a * y) && !decide (c * y < x * d)))) := φ
  walk_at "trun"
  refine z_iteD (fun h => ?_) (fun h => ?_)
  · walk_at "trun"
    have h : a * y ≤ x * b := h
    have e : (!decide (x * b < a * y) && !decide (c * y < x * d)) = decide (x * d ≤ c * y) := by
      rw [decide_eq_false (by omega)]
      by_cases g : c * y < x * d
      · rw [decide_eq_true g, decide_eq_false (by omega)]; rfl
      · rw [decide_eq_false g, decide_eq_true (by omega)]; rfl
    rw [e] at φ
    exact φ
  · walk_at "trun"
    have h : ¬ a * y ≤ x * b := h
    rw [decide_eq_true (show x * b < a * y by omega)] at φ
    exact φ
noncomputable def st_lround : SpT := fun _ as Φ _ => ∃ x y : Int, as = [.fz (.tup [.int x, .int y])] ∧ 0 < y ∧ My.Bd 3900 y ∧ Φ (.fz (.int ((2 * x + y) / (2 * y))))
theorem okT_l_rounded (T : Txt K mg t) : FnOk P w K mg base CX0 1 t.f_l_rounded t.d_l_rounded ["_law_place_here"] (toSp K st_lround) := by
  refine T.F_l_rounded.ok sc_l_rounded (toSp_len (fun B as Φ Ψ h => by obtain ⟨_, _, rfl, _⟩ := h; rfl)) (fun cdv A outer s H vs Q E hr h => ?_)
  obtain ⟨B, as, Φ, Ψ, rfl, hS, hx, go⟩ := toSp_open h
  obtain ⟨x, y, rfl, hy, by_, φ⟩ := hS
  refine ⟨_, (pso (ps_ret (pe_op op_fdivB (pe_op op_add (pe_op op_mul pei (pe_ix ixt (pv 0) pei (fun _ _ => rfl))) (pe_ix ixt (pv 0) pei (fun _ _ => rfl))) (pe_op op_mul pei (pe_ix ixt (pv 0) pei (fun _ _ => rfl)))))), go _ _ (s_go (τ := [.fz _]) rfl ?_)⟩
  have m2 : Mid (2 * y) := ((show My.Bd 2 2 by unfold My.Bd; decide).mul by_).mono (by decide)
  walk_at "trun"
  exact φ
inductive Lp where
  | tx (z : Str) | at (x y : Int)
noncomputable def Lp.tr : Lp → Tr
  | .tx z => .str z
  | .at x y => .tup [.int x, .int y]
noncomputable def LpIs : Lp → Pl → Prop
  | .tx z, .tx u => z = u
  | .at x y, .at q => 0 < y ∧ My.Bd 3900 y ∧ My.qv x y = q
  | _, _ => False
theorem rnd_of {x y : Int} {q : Rat} (hy : 0 < y) (e : My.qv x y = q) : (2 * x + y) / (2 * y) = rnd q := by
  have hd : (0 : Int) < (q.den : Int) := Int.natCast_pos.mpr q.den_pos
  have e2 : My.qv q.num q.den = q := by
    show (q.num : Rat) / ((q.den : Int) : Rat) = q
    rw [← Rat.divInt_eq_div]
    exact Rat.num_divInt_den q
  have h := My.eq_of_qv (by omega) (by omega) (e.trans e2.symm)
  unfold rnd
  generalize q.num = n at *
  generalize (q.den : Int) = d at *
  have k1 : (2 * x + y) / (2 * y) = ((2 * x + y) * d) / ((2 * y) * d) := (Int.mul_ediv_mul_of_pos_left _ _ hd).symm
  have k2 : (2 * n + d) / (2 * d) = ((2 * n + d) * y) / ((2 * d) * y) := (Int.mul_ediv_mul_of_pos_left _ _ hy).symm
  rw [k1, k2]
  have a1 : (2 * x + y) * d = (2 * n + d) * y := by
    rw [Int.add_mul, Int.add_mul, Int.mul_assoc, Int.mul_assoc, h, Int.mul_comm y d]
  have a2 : 2 * y * d = 2 * d * y := by rw [Int.mul_assoc, Int.mul_assoc, Int.mul_comm y d]
  rw [a1, a2]
theorem ge_pq {p e f j P Q : Int} (p2 : 2 ≤ p) (hQ : 0 < Q) (h : P * p ^ (-j).toNat = p ^ j.toNat * Q) : Ge p e f j ↔ f * P ≤ e * Q := by
  unfold Ge
  have hY : 0 < p ^ (-j).toNat := Int.pow_pos (by omega)
  generalize p ^ (-j).toNat = Y at *
  generalize p ^ j.toNat = X at *
  have e1 : f * X * Q = f * P * Y := by rw [Int.mul_assoc, ← h, Int.mul_assoc]
  have e2 : e * Y * Q = e * Q * Y := by rw [Int.mul_assoc, Int.mul_comm Y Q, ← Int.mul_assoc]
  constructor
  · intro g
    have := Int.mul_le_mul_of_nonneg_right g (Int.le_of_lt hQ)
    rw [e1, e2] at this
    exact Int.le_of_mul_le_mul_right this hY
  · intro g
    have := Int.mul_le_mul_of_nonneg_right g (Int.le_of_lt hY)
    rw [← e1, ← e2] at this
    exact Int.le_of_mul_le_mul_right this hQ
theorem below_at {p e f E j : Int} (p2 : 2 ≤ p) (hf : 0 < f) (he : 0 < e) (h : Below p e f E) : (Ge p e f j ↔ j ≤ E) := by
  obtain ⟨g1, g2⟩ := below_ge h
  constructor
  · intro g
    rcases (show j ≤ E ∨ E < j by omega) with z | z
    · exact z
    · exact absurd (ge_down p2 hf he (j - (E + 1)).toNat (E + 1) (by rw [show E + 1 + ((j - (E + 1)).toNat : Int) = j by omega]; exact g)) g2
  · intro g
    exact ge_down p2 hf he (E - j).toNat j (by rw [show j + ((E - j).toNat : Int) = E by omega]; exact g1)
theorem zp_pq {p j P Q : Int} (p2 : 2 ≤ p) (hQ : 0 < Q) (h : P * p ^ (-j).toNat = p ^ j.toNat * Q) : (p : Rat) ^ j = My.qv P Q := by
  have hY : 0 < p ^ (-j).toNat := Int.pow_pos (by omega)
  have e : (p : Rat) ^ j = My.qv (p ^ j.toNat) (p ^ (-j).toNat) := by
    rcases (show 0 ≤ j ∨ j < 0 by omega) with z | z
    · rw [show (-j).toNat = 0 by omega, Int.pow_zero, My.qv_int, ← zp_nat, show ((j.toNat : Nat) : Int) = j by omega]
    · rw [show j.toNat = 0 by omega, Int.pow_zero]
      have : (p : Rat) ^ j = ((p : Rat) ^ (((-j).toNat : Nat) : Int))⁻¹ := by rw [← Rat.zpow_neg, show -(((-j).toNat : Nat) : Int) = j by omega]
      rw [this, zp_nat]
      unfold My.qv
      have h0 := My.cast_ne (Int.ne_of_gt hY)
      have h1 : ((1 : Int) : Rat) = 1 := rfl
      rw [h1]
      grind
  rw [e]
  exact My.qv_eq (by omega) (by omega) (by rw [h])
theorem part_eq {p E : Int} {v : Rat} : partOf p E v = (v - (p : Rat) ^ E) / ((p : Rat) ^ E * ((p : Rat) - 1)) := by
  unfold partOf
  rw [Rat.intCast_sub]
  rfl
theorem turn_out {p low many len e f E P Q : Int} {k : Nat} (p2 : 2 ≤ p) (hf : 0 < f) (hQ : 0 < Q) (hP : 0 < P) (hin : inB e f P Q (P * p) Q = false) (hk : (k : Int) ≤ many - 1) (hst : k = 0 ∨ P * f < e * Q) (hex : (k : Int) = many - 1 ∨ ¬ P * p * f < e * Q) (gA : f * P ≤ e * Q ↔ low + (k : Int) ≤ E) (gB : f * (P * p) ≤ e * Q ↔ low + (k : Int) + 1 ≤ E) (zB : (p : Rat) ^ (low + (k : Int) + 1) = My.qv (P * p) Q) : tvE p low many len e f E = .tx "outside" := by
  have h : e * Q < P * f ∨ P * p * f < e * Q := by
    unfold inB at hin
    by_cases z : e * Q < P * f
    · exact .inl z
    · by_cases z2 : P * p * f < e * Q
      · exact .inr z2
      · rw [decide_eq_false z, decide_eq_false z2] at hin
        cases hin
  have c1 : f * P = P * f := Int.mul_comm _ _
  have c2 : f * (P * p) = P * p * f := Int.mul_comm _ _
  unfold tvE
  rcases h with h | h
  · have h0 : k = 0 := hst.resolve_right (by omega)
    have : ¬ low + (k : Int) ≤ E := fun z => by have := gA.mpr z; omega
    rw [if_pos (.inl (by omega))]
  · have h0 : (k : Int) = many - 1 := hex.resolve_right (by omega)
    have := gB.mp (by omega)
    rcases (show low + many < E ∨ E = low + many by omega) with z | z
    · rw [if_pos (.inr z)]
    · suffices hh : partOf p E (My.qv e f) ≠ 0 by rw [if_neg (by omega), if_pos ⟨z, hh⟩]
      rw [part_eq, show E = low + (k : Int) + 1 by omega, zB]
      intro y
      have hpp : 0 < P * p := Int.mul_pos hP (by omega)
      have n1 := My.cast_ne (Int.ne_of_gt hf)
      have n2 := My.cast_ne (Int.ne_of_gt hQ)
      have n3 := My.cast_ne (Int.ne_of_gt hpp)
      have n4 := My.cast_ne (show p - 1 ≠ 0 by omega)
      rw [Rat.intCast_sub, show ((1 : Int) : Rat) = 1 from rfl] at n4
      have : My.qv e f = My.qv (P * p) Q := by
        unfold My.qv at *
        generalize ((P * p : Int) : Rat) = A at *
        grind
      have := My.eq_of_qv (by omega) (by omega) this
      omega
theorem rq1 {k f P Q p e m L : Rat} (hf : f ≠ 0) (hQ : Q ≠ 0) (hP : P ≠ 0) (hp : p - 1 ≠ 0) (hm : m ≠ 0) : ((k * (f * (P * p * Q - P * Q)) + (e * Q - P * f) * Q * 1) * L) / (f * (P * p * Q - P * Q) * m) = (k + (e / f - P / Q) / (P / Q * (p - 1))) * (L / m) := by
  have h1 : (e / f - P / Q) / (P / Q * (p - 1)) = (e * Q - P * f) / (f * P * (p - 1)) := by grind
  have h2 : f * (P * p * Q - P * Q) = f * P * (p - 1) * Q := by grind
  rw [h1, h2]
  generalize p - 1 = r at *
  generalize e * Q - P * f = u at *
  have h3 : f * P * r ≠ 0 := by grind
  clear h1 h2
  generalize f * P * r = D at *
  have h5 : D * Q ≠ 0 := by grind
  have h6 : D * Q * m ≠ 0 := by grind
  grind
theorem rq2 {k f P Q p m L : Rat} (hf : f ≠ 0) (hQ : Q ≠ 0) (hP : P ≠ 0) (hp : p - 1 ≠ 0) (hm : m ≠ 0) : ((k * (f * (P * p * Q - P * Q)) + (P * p * f - P * f) * Q * 1) * L) / (f * (P * p * Q - P * Q) * m) = (k + 1 + 0) * (L / m) := by
  have h2 : f * (P * p * Q - P * Q) = f * P * (p - 1) * Q := by grind
  have h4 : P * p * f - P * f = f * P * (p - 1) := by grind
  rw [h2, h4]
  have h3 : f * P * (p - 1) ≠ 0 := by grind
  generalize f * P * (p - 1) = D at *
  grind
theorem turn_in {p low many len e f E P Q : Int} {k : Nat} (p2 : 2 ≤ p) (hf : 0 < f) (hQ : 0 < Q) (hP : 0 < P) (hm : 0 < many) (hin : inB e f P Q (P * p) Q = true) (hk : (k : Int) ≤ many - 1) (gA : f * P ≤ e * Q ↔ low + (k : Int) ≤ E) (gB : f * (P * p) ≤ e * Q ↔ low + (k : Int) + 1 ≤ E) (gC : f * (P * p * p) ≤ e * Q ↔ low + (k : Int) + 2 ≤ E) (zA : (p : Rat) ^ (low + (k : Int)) = My.qv P Q) (zB : (p : Rat) ^ (low + (k : Int) + 1) = My.qv (P * p) Q) :
    0 < f * (P * p * Q - P * Q) ∧ ∃ q, tvE p low many len e f E = .at q ∧ My.qv ((k * (f * (P * p * Q - P * Q)) + (e * Q - P * f) * Q * ((k : Int) + 1 - k)) * len) (f * (P * p * Q - P * Q) * many) = q := by
  have hpq : 0 < P * Q := Int.mul_pos hP hQ
  have hpp : 0 < P * p := Int.mul_pos hP (by omega)
  have e0 : P * p * Q - P * Q = P * Q * (p - 1) := by rw [Int.mul_sub, Int.mul_one, Int.mul_assoc, Int.mul_comm p Q, ← Int.mul_assoc]
  have hb : 0 < f * (P * p * Q - P * Q) := by rw [e0]; exact Int.mul_pos hf (Int.mul_pos hpq (by omega))
  refine ⟨hb, ?_⟩
  have h1 : ¬ e * Q < P * f ∧ ¬ P * p * f < e * Q := by
    unfold inB at hin
    constructor
    · intro z; rw [decide_eq_true z] at hin; cases hin
    · intro z; rw [decide_eq_true z, Bool.not_true, Bool.and_false] at hin; cases hin
  have c1 : f * P = P * f := Int.mul_comm _ _
  have c2 : f * (P * p) = P * p * f := Int.mul_comm _ _
  have a1 := gA.mp (by omega)
  have c3 : f * (P * p) < f * (P * p * p) := Int.mul_lt_mul_of_pos_left (by have := Int.mul_le_mul_of_nonneg_left p2 (Int.le_of_lt hpp); omega) hf
  have a3 : ¬ low + (k : Int) + 2 ≤ E := fun z => by have := gC.mpr z; omega
  have n1 := My.cast_ne (Int.ne_of_gt hf)
  have n2 := My.cast_ne (Int.ne_of_gt hQ)
  have n3 := My.cast_ne (Int.ne_of_gt hP)
  have n4 := My.cast_ne (show p - 1 ≠ 0 by omega)
  have n5 := My.cast_ne (Int.ne_of_gt hm)
  have one : ((1 : Int) : Rat) = 1 := rfl
  rw [Rat.intCast_sub, one] at n4
  unfold tvE
  rcases (show E = low + (k : Int) ∨ E = low + (k : Int) + 1 by omega) with z | z
  · refine ⟨_, by rw [if_neg (by omega), if_neg (by omega)], ?_⟩
    rw [part_eq, z, zA, show low + (k : Int) - low = (k : Int) by omega]
    unfold My.qv
    rw [show (k : Int) + 1 - k = 1 by omega]
    simp only [Rat.intCast_mul, Rat.intCast_add, Rat.intCast_sub, one]
    exact rq1 n1 n2 n3 n4 n5
  · have g : e * Q = P * p * f := by have := gB.mpr (by omega); omega
    have hv : My.qv e f = My.qv (P * p) Q := My.qv_eq (by omega) (by omega) g
    have hp0 : partOf p E (My.qv e f) = 0 := by
      rw [part_eq, z, zB, hv]
      grind
    refine ⟨_, by rw [if_neg (by omega), if_neg (by intro y; exact y.2 hp0)], ?_⟩
    rw [hp0, show E - low = (k : Int) + 1 by omega, g, show (k : Int) + 1 - k = 1 by omega]
    unfold My.qv
    simp only [Rat.intCast_mul, Rat.intCast_add, Rat.intCast_sub, one]
    exact rq2 n1 n2 n3 n4 n5
theorem bd60 {x : Int} (h : -1000000 ≤ x) (h2 : x ≤ 1000000) : My.Bd 60 x := by
  have : My.Bd 20 x := by unfold My.Bd; omega
  exact this.mono (by decide)
noncomputable def st_turn : SpT := fun _ as Φ _ => ∃ (p low many len e f : Int), as = [.fz (Sc.tur p low many len).tr, .fz (N2 e f)] ∧ ScOk (.tur p low many len) ∧ NumOk e f ∧ ∀ lp : Lp, (∀ r, Pls (.tur p low many len) (.num e f) r → LpIs lp r) → Φ (.fz lp.tr)
theorem okT_l_turn (T : Txt K mg t) : FnOk P w K mg base CX0 2 t.f_l_turn t.d_l_turn ["_law_scale_here", "_law_cell_here"] (toSp K st_turn) := by
  have G_l_power := okT_l_power (P := P) (w := w) (base := base) T
  have G_l_within := okT_l_within (P := P) (w := w) (base := base) T
  have G_l_between := okT_l_between (P := P) (w := w) (base := base) T
  refine T.F_l_turn.ok sc_l_turn (toSp_len (fun B as Φ Ψ h => by obtain ⟨_, _, _, _, _, _, rfl, _⟩ := h; rfl)) (fun cdv A outer s H vs Q E hr h => ?_)
  obtain ⟨B, as, Φ, Ψ, rfl, hS, hx, go⟩ := toSp_open h
  obtain ⟨p, low, many, len, e, f, rfl, ⟨k1, k2, k3, k4, k5, k6, k7, k8⟩, hc, φ⟩ := hS
  have hf := hc.pos
  have be := hc.ba
  have bf := hc.bb
  unfold Sc.tr N2 at *
  refine ⟨_, (psc (ps_asg (pv 0) (pg_tup rfl (pgs_cons (pg_name (i := 5) sc_l_turn.nd rfl (Or.inl rfl)) (pgs_cons (pg_name (i := 6) sc_l_turn.nd rfl (Or.inl rfl)) (pgs_cons (pg_name (i := 7) sc_l_turn.nd rfl (Or.inl rfl)) (pgs_cons (pg_name (i := 8) sc_l_turn.nd rfl (Or.inl rfl)) (pgs_cons (pg_name (i := 9) sc_l_turn.nd rfl (Or.inl rfl)) pgs_nil)))))))
  (psc (ps_if (pt_cmpR op_le (pe_ix ixt (pv 1) pei (fun _ _ => rfl)) pei (nomark _)) (pso (ps_ret pe_str)) pss_nil)
  (psc (ps_set (i := 2) sc_l_turn.nd rfl (Or.inl rfl) (pe_call G_l_power (hr.mono (by decide)) rfl T.m_l_power T.k_l_power T.b_l_power .nil pass0 (pcn (pv 6) (pcn (pv 7) pnl))))
  (psc (ps_set (i := 3) sc_l_turn.nd rfl (Or.inl rfl) (pe_call G_l_power (hr.mono (by decide)) rfl T.m_l_power T.k_l_power T.b_l_power .nil pass0 (pcn (pv 6) (pcn (pe_un un_neg (pv 7)) pnl))))
  (psc (ps_set (i := 4) sc_l_turn.nd rfl (Or.inl rfl) pei)
  (psc (ps_while PassesOwn.never (PW.pt (pw_and (pt_cmpR op_lt (pv 4) (pe_op op_sub (pv 8) pei) (nomark _)) (pw_and1 (pt_cmpR op_lt (pe_op op_mulB (pe_op op_mulB (pv 2) (pv 6)) (pe_ix ixt (pv 1) pei (fun _ _ => rfl))) (pe_op op_mulB (pe_ix ixt (pv 1) pei (fun _ _ => rfl)) (pv 3)) (nomark _))))) (psc (ps_set (i := 2) sc_l_turn.nd rfl (Or.inl rfl) (pe_op op_mulB (pv 2) (pv 6)))
  (pso (ps_set (i := 4) sc_l_turn.nd rfl (Or.inl rfl) (pe_op op_add (pv 4) pei)))))
  (psc (ps_if (pt_not (pt_val (pe_call G_l_within (hr.mono (by decide)) rfl T.m_l_within T.k_l_within T.b_l_within .nil pass0 (pcn (pe_tup (pcn (pv 2) (pcn (pv 3) pnl))) (pcn (pe_tup (pcn (pe_op op_mulB (pv 2) (pv 6)) (pcn (pv 3) pnl))) (pcn (pv 1) pnl)))))) (pso (ps_ret pe_str)) pss_nil)
  (psc (ps_asg (pe_call G_l_between (hr.mono (by decide)) rfl T.m_l_between T.k_l_between T.b_l_between .nil pass0 (pcn (pe_tup (pcn (pv 2) (pcn (pv 3) pnl))) (pcn (pe_tup (pcn (pe_op op_mulB (pv 2) (pv 6)) (pcn (pv 3) pnl))) (pcn (pv 1) (pcn (pv 4) (pcn (pe_op op_add (pv 4) pei) pnl)))))) (pg_tup rfl (pgs_cons (pg_name (i := 10) sc_l_turn.nd rfl (Or.inl rfl)) (pgs_cons (pg_name (i := 11) sc_l_turn.nd rfl (Or.inl rfl)) pgs_nil))))
  (pso (ps_ret (pe_tup (pcn (pe_op op_mulB (pv 10) (pv 9)) (pcn (pe_op op_mulB (pv 11) (pv 8)) pnl))))))))))))), go _ _ (s_go (τ := [.fz _, .fz _, .no, .no, .no, .no, .no, .no, .no, .no, .no, .no]) rfl ?_)⟩
  walk_at "trun"
  refine z_iteD (fun z => ?_) (fun z => ?_)
  · walk_at "trun"
    refine φ (.tx "nought") fun r hr => ?_
    rw [hr.1 z]
    rfl
  have he : 0 < e := by omega
  have q0 := pow_bd k1 k2 (-low).toNat
  have mq : Mid (p ^ (-low).toNat) := q0.2.mono (by omega)
  have m0 : Mid e := be.mono (by decide)
  have mf : Mid f := bf.mono (by decide)
  have mp : Mid p := midB (by omega) (by omega)
  walk_at "trun"
  intro _ _
  refine a_lpow (k := low) k1 k2 (by omega) (by omega) ?_
  walk_at "trun"
  intro _ _
  refine a_lpow (k := -low) k1 k2 (by omega) (by omega) ?_
  walk_at "trun"
  have shp : ∀ k : Nat, ∀ u v : Sl, ∃ x, x = [Sl.fz (.tup [.str "turns", .int p, .int low, .int many, .int len]), .fz (.tup [.int e, .int f]), .fz (.int (p ^ (low.toNat + k))), .fz (.int (p ^ (-low).toNat)), .fz (.int (k : Int)), .fz (.str "turns"), .fz (.int p), .fz (.int low), .fz (.int many), .fz (.int len), u, v] := fun k u v => ⟨_, rfl⟩
  clear shp
  refine s_cut (fun τ => ∃ k : Nat, (∃ u v : Sl, τ = [.fz (.tup [.str "turns", .int p, .int low, .int many, .int len]), .fz (.tup [.int e, .int f]), .fz (.int (p ^ (low.toNat + k))), .fz (.int (p ^ (-low).toNat)), .fz (.int (k : Int)), .fz (.str "turns"), .fz (.int p), .fz (.int low), .fz (.int many), .fz (.int len), u, v]) ∧ (k : Int) ≤ many - 1 ∧ (k = 0 ∨ p ^ (low.toNat + k) * f < e * p ^ (-low).toNat) ∧ ((k : Int) = many - 1 ∨ ¬ p ^ (low.toNat + k) * p * f < e * p ^ (-low).toNat)) ?_ ?_
  · refine s_while (fun m τ => ∃ k : Nat, (∃ u v : Sl, τ = [.fz (.tup [.str "turns", .int p, .int low, .int many, .int len]), .fz (.tup [.int e, .int f]), .fz (.int (p ^ (low.toNat + k))), .fz (.int (p ^ (-low).toNat)), .fz (.int (k : Int)), .fz (.str "turns"), .fz (.int p), .fz (.int low), .fz (.int many), .fz (.int len), u, v]) ∧ m = many.toNat - k ∧ (k : Int) ≤ many - 1 ∧ (k = 0 ∨ p ^ (low.toNat + k) * f < e * p ^ (-low).toNat)) _ ⟨0, ⟨_, _, rfl⟩, rfl, by omega, .inl rfl⟩ ?_
    rintro m τ ⟨k, ⟨u, v, rfl⟩, rfl, hk, hst⟩
    have pk := pow_bd k1 k2 (low.toNat + k)
    have mP : Mid (p ^ (low.toNat + k)) := pk.2.mono (by omega)
    have mPp : Mid (p ^ (low.toNat + k) * p) := (pk.2.mul (show My.Bd 4 p by unfold My.Bd; omega)).mono (by omega)
    walk_at "trun"
    refine z_iteD (fun h1 => ?_) (fun h1 => ?_)
    · walk_at "trun"
      refine z_iteD (fun h2 => ?_) (fun h2 => ?_)
      · walk_at "trun"
        refine ⟨many.toNat - (k + 1), by omega, k + 1, ⟨u, v, ?_⟩, rfl, by omega, .inr ?_⟩
        rotate_left
        · rw [show low.toNat + (k + 1) = low.toNat + k + 1 by omega, Int.pow_succ]
          exact h2
        · rw [show low.toNat + (k + 1) = low.toNat + k + 1 by omega, Int.pow_succ]
          rfl
      · walk_at "trun"
        exact ⟨k, ⟨_, _, rfl⟩, hk, hst, .inr h2⟩
    · walk_at "trun"
      exact ⟨k, ⟨_, _, rfl⟩, hk, hst, .inl (by omega)⟩
  rintro τ ⟨k, ⟨u, v, rfl⟩, hk, hst, hex⟩
  have pk := pow_bd k1 k2 (low.toNat + k)
  have bP : My.Bd 2400 (p ^ (low.toNat + k)) := pk.2.mono (by omega)
  have hPp : 0 < p ^ (low.toNat + k) * p := Int.mul_pos pk.1 (by omega)
  have bPp : My.Bd 2404 (p ^ (low.toNat + k) * p) := bP.mul (show My.Bd 4 p by unfold My.Bd; omega)
  have mP : Mid (p ^ (low.toNat + k)) := bP.mono (by decide)
  have bQ : My.Bd 810 (p ^ (-low).toNat) := q0.2.mono (by omega)
  have relA : p ^ (low.toNat + k) * p ^ (-(low + (k : Int))).toNat = p ^ (low + (k : Int)).toNat * p ^ (-low).toNat := by
    rw [← Int.pow_add, ← Int.pow_add]
    congr 1
    omega
  have relB : p ^ (low.toNat + k) * p * p ^ (-(low + (k : Int) + 1)).toNat = p ^ (low + (k : Int) + 1).toNat * p ^ (-low).toNat := by
    rw [← Int.pow_succ, ← Int.pow_add, ← Int.pow_add]
    congr 1
    omega
  have relC : p ^ (low.toNat + k) * p * p * p ^ (-(low + (k : Int) + 2)).toNat = p ^ (low + (k : Int) + 2).toNat * p ^ (-low).toNat := by
    rw [← Int.pow_succ, ← Int.pow_succ, ← Int.pow_add, ← Int.pow_add]
    congr 1
    omega
  have gA := ge_pq (e := e) (f := f) k1 q0.1 relA
  have gC := ge_pq (e := e) (f := f) k1 q0.1 relC
  have gB := ge_pq (e := e) (f := f) k1 q0.1 relB
  have zA := zp_pq k1 q0.1 relA
  have zB := zp_pq k1 q0.1 relB
  generalize hP : p ^ (low.toNat + k) = P at *
  generalize hQ : p ^ (-low).toNat = Q at *
  have hb300 : NB 300 (e, f) := ⟨hf, be.mono (by decide), bf.mono (by decide)⟩
  walk_at "trun"
  intro _ _
  refine ⟨(P, Q), (P * p, Q), (e, f), rfl, ⟨q0.1, bP.mono (by decide), bQ.mono (by decide)⟩, ⟨q0.1, bPp.mono (by decide), bQ.mono (by decide)⟩, hb300, ?_⟩
  walk_at "trun"
  refine z_ite2 (fun hin => ?_) (fun hin => ?_)
  rotate_left
  · walk_at "trun"
    refine φ (.tx "outside") fun r hr => ?_
    obtain ⟨E, hE, rfl⟩ := hr.2 he
    have b1 := below_at (j := low + (k : Int)) k1 hf he hE
    have b2 := below_at (j := low + (k : Int) + 1) k1 hf he hE
    have := turn_out (len := len) k1 hf q0.1 pk.1 hin hk hst hex (gA.symm.trans b1) (gB.symm.trans b2) zB
    rw [this]
    rfl
  · have bdk : My.Bd 60 (k : Int) := bd60 (by omega) (by omega)
    walk_at "trun"
    intro _ _
    refine ⟨(P, Q), (P * p, Q), (e, f), k, k + 1, 4 * (low.toNat + k) + 5, 4 * (-low).toNat + 1, rfl, ⟨pk.2.mono (by omega), q0.2⟩, ⟨(pk.2.mul (show My.Bd 4 p by unfold My.Bd; omega)).mono (by omega), q0.2⟩, hb300, bdk, bd60 (by omega) (by omega), by omega, ?_⟩
    have t1 : My.Bd (4 * (low.toNat + k) + 4 * (-low).toNat + 7) (P * p * Q - P * Q) := (((pk.2.mul (show My.Bd 4 p by unfold My.Bd; omega)).mul q0.2).sub ((pk.2.mul q0.2).mono (by omega))).mono (by omega)
    have t2 : My.Bd 3500 (f * (P * p * Q - P * Q)) := (bf.mul t1).mono (by omega)
    have t3 : My.Bd (4 * (low.toNat + k) + 4 * (-low).toNat + 300) (e * Q - P * f) := (((be.mul q0.2).mono (show _ ≤ 4 * (low.toNat + k) + 4 * (-low).toNat + 262 by omega)).sub ((pk.2.mul bf).mono (by omega))).mono (by omega)
    have t4 : My.Bd 3900 ((k : Int) * (f * (P * p * Q - P * Q)) + (e * Q - P * f) * Q * ((k : Int) + 1 - k)) := by
      rw [show (k : Int) + 1 - k = 1 by omega, Int.mul_one]
      exact (((bdk.mul t2).mono (show _ ≤ 3700 by omega)).add ((t3.mul q0.2).mono (by omega))).mono (by decide)
    have fin : ∀ r, Pls (.tur p low many len) (.num e f) r → LpIs (.at (((k : Int) * (f * (P * p * Q - P * Q)) + (e * Q - P * f) * Q * ((k : Int) + 1 - k)) * len) (f * (P * p * Q - P * Q) * many)) r := by
      intro r hr
      obtain ⟨E, hE, rfl⟩ := hr.2 he
      have b1 := below_at (j := low + (k : Int)) k1 hf he hE
      have b2 := below_at (j := low + (k : Int) + 1) k1 hf he hE
      have b3 := below_at (j := low + (k : Int) + 2) k1 hf he hE
      obtain ⟨g0, q, g1, g2⟩ := turn_in (len := len) k1 hf q0.1 pk.1 (show 0 < many by omega) hin hk (gA.symm.trans b1) (gB.symm.trans b2) (gC.symm.trans b3) zA zB
      rw [g1]
      exact ⟨Int.mul_pos g0 (by omega), (t2.mul (show My.Bd 9 many by unfold My.Bd; omega)).mono (by decide), g2⟩
    have m1 : Mid (f * (P * p * Q - P * Q)) := t2.mono (by decide)
    have m2 : Mid ((k : Int) * (f * (P * p * Q - P * Q)) + (e * Q - P * f) * Q * ((k : Int) + 1 - k)) := t4.mono (by decide)
    have φ := φ _ fin
    generalize (k : Int) * (f * (P * p * Q - P * Q)) + (e * Q - P * f) * Q * ((k : Int) + 1 - k) = X at *
    generalize f * (P * p * Q - P * Q) = Y at *
    have φ : Φ (.fz (.tup [.int (X * len), .int (Y * many)])) := φ
    walk_at "trun"
    exact φ
theorem btw_qv {a b c d s t e f : Int} (hb : 0 < b) (hd : 0 < d) (hf : 0 < f) (h : a * d < c * b) : 0 < f * (c * b - a * d) ∧ My.qv (s * (f * (c * b - a * d)) + (e * b - a * f) * d * (t - s)) (f * (c * b - a * d)) = (s : Rat) + (My.qv e f - My.qv a b) / (My.qv c d - My.qv a b) * ((t - s : Int) : Rat) := by
  have h0 : 0 < c * b - a * d := by omega
  have n0 := My.cast_ne (Int.ne_of_gt h0)
  have n1 := My.cast_ne (Int.ne_of_gt hf)
  have n2 := My.cast_ne (Int.ne_of_gt hb)
  have n3 := My.cast_ne (Int.ne_of_gt hd)
  refine ⟨Int.mul_pos hf h0, ?_⟩
  have e1 : My.qv c d - My.qv a b = ((c * b - a * d : Int) : Rat) / ((d : Rat) * (b : Rat)) := by
    rw [Rat.intCast_sub, Rat.intCast_mul, Rat.intCast_mul]
    unfold My.qv
    grind
  have e2 : My.qv e f - My.qv a b = ((e * b - a * f : Int) : Rat) / ((f : Rat) * (b : Rat)) := by
    rw [Rat.intCast_sub, Rat.intCast_mul, Rat.intCast_mul]
    unfold My.qv
    grind
  rw [e1, e2]
  unfold My.qv
  rw [Rat.intCast_add, Rat.intCast_mul, Rat.intCast_mul, Rat.intCast_mul, Rat.intCast_mul]
  generalize ((c * b - a * d : Int) : Rat) = M at *
  generalize ((e * b - a * f : Int) : Rat) = U at *
  generalize ((t - s : Int) : Rat) = W at *
  have n4 : (f : Rat) * M ≠ 0 := by grind
  have n5 : (f : Rat) * (b : Rat) ≠ 0 := by grind
  have n6 : (d : Rat) * (b : Rat) ≠ 0 := by grind
  grind
theorem find_at {α : Type} {q : α → Bool} : ∀ {xs : List α} {j : Nat} {x : α}, (∀ k y, k < j → xs[k]? = some y → q y = false) → xs[j]? = some x → q x = true → xs.find? q = some x
  | [], j, x, _, h, _ => by cases j <;> cases h
  | y :: r, 0, x, _, h, hq => by
    have h : some y = some x := h
    cases h
    rw [List.find?_cons, hq]
  | y :: r, j + 1, x, ha, h, hq => by
    rw [List.find?_cons, ha 0 y (by omega) rfl]
    exact find_at (xs := r) (j := j) (fun k z hk hz => ha (k + 1) z (by omega) hz) h hq
theorem find_no {α : Type} {q : α → Bool} {xs : List α} (h : ∀ k y, k < xs.length → xs[k]? = some y → q y = false) : xs.find? q = none := by
  rw [List.find?_eq_none]
  intro x hx
  obtain ⟨k, hk, e⟩ := List.getElem_of_mem hx
  rw [h k x hk (by rw [List.getElem?_eq_getElem hk, e])]
  nofun
theorem pcs_ends {ps : List Pi6} (h : ps ≠ []) : ∃ x y, ps.head? = some x ∧ ps.getLast? = some y ∧ x ∈ ps ∧ y ∈ ps ∧ atI (ps.map pcT) 0 = some (pcT x) ∧ atI (ps.map pcT) (-1) = some (pcT y) := by
  cases ps with
  | nil => exact absurd rfl h
  | cons x r =>
    refine ⟨x, (x :: r).getLast h, rfl, List.getLast?_eq_some_getLast h, List.mem_cons_self, List.getLast_mem h, atI_nat (j := 0) rfl, ?_⟩
    refine atI_last ?_
    rw [List.length_map, List.getElem?_map, ← List.getLast?_eq_getElem?, List.getLast?_eq_some_getLast h]
    rfl
noncomputable def lpAt (e f : Int) (x : Pi6) : Lp := .at (x.2.2.2.2.1 * (f * (x.2.2.1 * x.2.1 - x.1 * x.2.2.2.1)) + (e * x.2.1 - x.1 * f) * x.2.2.2.1 * (x.2.2.2.2.2 - x.2.2.2.2.1)) (f * (x.2.2.1 * x.2.1 - x.1 * x.2.2.2.1))
theorem lpAt_is {e f : Int} {x : Pi6} (hc : NumOk e f) (hx : PcGood x) : LpIs (lpAt e f x) (.at (along e f x)) := by
  obtain ⟨k1, k2, k3, k4, k5, k6⟩ := hx
  have := btw_qv (e := e) (s := x.2.2.2.2.1) (t := x.2.2.2.2.2) k1.pos k2.pos hc.pos k3
  refine ⟨this.1, (hc.bb.mul (((k2.ba.mul k1.bb).sub (k1.ba.mul k2.bb)))).mono (by decide), this.2⟩
noncomputable def st_lplace : SpT := fun _ as Φ _ => ∃ s c, as = [.fz s.tr, .fz c.tr] ∧ ScOk s ∧ Fit s c ∧ ∀ lp : Lp, (∀ r, Pls s c r → LpIs lp r) → Φ (.fz lp.tr)
theorem okT_l_place (T : Txt K mg t) : FnOk P w K mg base CX0 3 t.f_l_place t.d_l_place ["_law_scale_here", "_law_cell_here"] (toSp K st_lplace) := by
  have G_l_turn := okT_l_turn (P := P) (w := w) (base := base) T
  have G_l_within := okT_l_within (P := P) (w := w) (base := base) T
  have G_l_between := okT_l_between (P := P) (w := w) (base := base) T
  refine T.F_l_place.ok sc_l_place (toSp_len (fun B as Φ Ψ h => by obtain ⟨_, _, rfl, _⟩ := h; rfl)) (fun cdv A outer s H vs Q E hr h => ?_)
  obtain ⟨B, as, Φ, Ψ, rfl, hS, hx, go⟩ := toSp_open h
  obtain ⟨sc, c, rfl, hs, hc, φ⟩ := hS
  refine ⟨_, (psc (ps_if (pt_cmpR op_isN' (pv 1) pe_non (nomark _)) (pso (ps_ret pe_str)) pss_nil)
  (psc (ps_if (pt_cmpR op_eq (pe_ix ixt (pv 0) pei (fun _ _ => rfl)) pe_str (nomark _)) (psc (ps_if (pt_cmpR op_notIn_seq (pv 1) (pe_ix ixt (pv 0) pei (fun _ _ => rfl)) rfl) (pso (ps_ret pe_str)) pss_nil)
  (pso (ps_ret (pe_tup (pcn (pe_op op_mulB (pe_op op_add (pe_op op_mulB pei (pe_bm PySem.F.plainAttrs_list PySem.F.slot_list_index PySem.F.type_list_index mt_index (pe_ix ixt (pv 0) pei (fun _ _ => rfl)) (pcn (pv 1) pnl))) pei) (pe_ix ixt (pv 0) pei (fun _ _ => rfl))) (pcn (pe_op op_mulB pei (pe_callB call_len_seq rfl T.z_len PySem.boot_len (pcn (pe_ix ixt (pv 0) pei (fun _ _ => rfl)) pnl))) pnl)))))) pss_nil)
  (psc (ps_if (pt_cmpR op_eq (pe_ix ixt (pv 0) pei (fun _ _ => rfl)) pe_str (nomark _)) (pso (ps_ret (pe_call G_l_turn (hr.mono (by decide)) rfl T.m_l_turn T.k_l_turn T.b_l_turn .nil pass0 (pcn (pv 0) (pcn (pv 1) pnl))))) pss_nil)
  (psc (ps_if (pt_cmpR op_eq (pe_ix ixt (pv 0) pei (fun _ _ => rfl)) pe_str (nomark _)) (psc (ps_if (PW.pt (pw_or (pt_cmpR op_lt (pv 1) (pe_ix ixt (pv 0) pei (fun _ _ => rfl)) (nomark _)) (pw_or1 (pt_cmpR op_gt (pv 1) (pe_ix ixt (pv 0) pei (fun _ _ => rfl)) (nomark _))))) (pso (ps_ret pe_str)) pss_nil)
  (pso (ps_ret (pe_tup (pcn (pe_op op_mulB (pe_op op_sub (pv 1) (pe_ix ixt (pv 0) pei (fun _ _ => rfl))) (pe_ix ixt (pv 0) pei (fun _ _ => rfl))) (pcn (pe_op op_sub (pe_ix ixt (pv 0) pei (fun _ _ => rfl)) (pe_ix ixt (pv 0) pei (fun _ _ => rfl))) pnl)))))) pss_nil)
  (psc (ps_set (i := 2) sc_l_place.nd rfl (Or.inl rfl) (pe_lst (pcn (pe_op op_catT (pe_slice sl_tup (pv 0) (po_some pei) (po_some pei)) (pe_tup (pcn pei (pcn (pe_ix ixt (pv 0) (pe_un un_neg pei) (fun _ _ => rfl)) pnl)))) pnl)))
  (psc (ps_if (pt_cmpR op_eq (pe_ix ixt (pv 0) pei (fun _ _ => rfl)) pe_str (nomark _)) (pso (ps_set (i := 2) sc_l_place.nd rfl (Or.inl rfl) (pe_ix ixt (pv 0) pei (fun _ _ => rfl)))) pss_nil)
  (psc (ps_for PassesOwn.never rfl (pi_list (pv 2)) (pg_tup rfl (pgs_cons (pg_name (i := 3) sc_l_place.nd rfl (Or.inl rfl)) (pgs_cons (pg_name (i := 4) sc_l_place.nd rfl (Or.inl rfl)) (pgs_cons (pg_name (i := 5) sc_l_place.nd rfl (Or.inl rfl)) (pgs_cons (pg_name (i := 6) sc_l_place.nd rfl (Or.inl rfl)) pgs_nil))))) (pso (ps_if (pt_val (pe_call G_l_within (hr.mono (by decide)) rfl T.m_l_within T.k_l_within T.b_l_within .nil pass0 (pcn (pv 3) (pcn (pv 4) (pcn (pv 1) pnl))))) (pso (ps_ret (pe_call G_l_between (hr.mono (by decide)) rfl T.m_l_between T.k_l_between T.b_l_between .nil pass0 (pcn (pv 3) (pcn (pv 4) (pcn (pv 1) (pcn (pv 5) (pcn (pv 6) pnl)))))))) pss_nil)))
  (psc (ps_if (PW.pt (pw_and (pt_cmpR op_gt (pe_callB call_len_seq rfl T.z_len PySem.boot_len (pcn (pv 2) pnl)) pei (nomark _)) (pw_and1 (pt_val (pe_call G_l_within (hr.mono (by decide)) rfl T.m_l_within T.k_l_within T.b_l_within .nil pass0 (pcn (pe_ix ixt (pe_ix ixl (pv 2) pei (fun _ _ => rfl)) pei (fun _ _ => rfl)) (pcn (pe_ix ixt (pe_ix ixl (pv 2) (pe_un un_neg pei) (fun _ _ => rfl)) pei (fun _ _ => rfl)) (pcn (pv 1) pnl)))))))) (pso (ps_ret pe_str)) pss_nil)
  (pso (ps_ret pe_str)))))))))), go _ _ (s_go (τ := [.fz _, .fz _, .no, .no, .no, .no, .no]) rfl ?_)⟩
  cases c with
  | no =>
    walk_at "trun"
    refine φ (.tx "nothing") fun r hr => ?_
    have : r = .tx "nothing" := by cases sc <;> exact hr
    rw [this]
    rfl
  | wd z =>
    cases sc with
    | ord ws len =>
      unfold Sc.tr Ce.tr at *
      obtain ⟨k1, k2, k4, k5⟩ := hs
      walk_at "trun"
      refine z_iteD (fun _ => ?_) (fun y => absurd rfl y)
      walk_at "trun"
      refine ro_notin rfl Rk.fz ?_
      walk_at "trun"
      refine z_ite2 (fun hz => ?_) (fun hz => ?_)
      · have hm : z ∈ ws := of_decide_eq_true hz
        obtain ⟨j, ej⟩ := ixS_mem hm
        have hj : j < ws.length := (List.getElem?_eq_some_iff.mp (ixS_is ej).1).1
        have φ2 := φ (.at ((2 * (j : Int) + 1) * len) (2 * (ws.length : Int))) fun r hr => by
          have hr : r = match ixS ws z with
            | some j => .at (My.qv ((2 * (j : Int) + 1) * len) (2 * (ws.length : Int)))
            | none => .tx "unknown" := hr
          rw [hr, ej]
          exact ⟨by omega, (show My.Bd 40 (2 * (ws.length : Int)) by unfold My.Bd; omega).mono (by decide), rfl⟩
        have hm2 : ((ws.map Tr.str).length : Int) = (ws.length : Int) := by rw [List.length_map]
        walk_at "trun"
        refine rm_index rfl Rk.fz ej ?_
        walk_at "trun"
        rw [hm2]
        walk_at "trun"
        exact φ2
      · walk_at "trun"
        refine φ (.tx "unknown") fun r hr => ?_
        have e0 : ixS ws z = none := by
          cases e : ixS ws z with
          | none => rfl
          | some j => exact absurd (List.mem_of_getElem? (ixS_is e).1) (of_decide_eq_false hz)
        have hr : r = match ixS ws z with
          | some j => .at (My.qv ((2 * (j : Int) + 1) * len) (2 * (ws.length : Int)))
          | none => .tx "unknown" := hr
        rw [hr, e0]
        rfl
    | _ => exact hc.elim
  | day x =>
    cases sc with
    | day f l len =>
      unfold Sc.tr Ce.tr at *
      obtain ⟨k1, k2, k3, k4, k5⟩ := hs
      obtain ⟨x0, x1⟩ := (show 0 ≤ x ∧ x ≤ 4000000 from hc)
      have φ1 : (x < f ∨ l < x) → Φ (.fz (.str "outside")) := fun z => φ (.tx "outside") fun r hr => by
        have hr : r = if f ≤ x ∧ x ≤ l then .at (My.qv ((x - f) * len) (l - f)) else .tx "outside" := hr
        rw [hr, if_neg (by omega)]
        rfl
      walk_at "trun"
      refine z_iteD (fun y => absurd y (by decide)) (fun _ => ?_)
      walk_at "trun"
      refine z_iteD (fun y => absurd y (by decide)) (fun _ => ?_)
      walk_at "trun"
      refine z_iteD (fun _ => ?_) (fun y => absurd rfl y)
      walk_at "trun"
      refine z_iteD (fun y1 => ?_) (fun y1 => ?_)
      · walk_at "trun"
        exact φ1 (.inl y1)
      walk_at "trun"
      refine z_iteD (fun y2 => ?_) (fun y2 => ?_)
      · walk_at "trun"
        exact φ1 (.inr y2)
      have φ2 := φ (.at ((x - f) * len) (l - f)) fun r hr => by
        have hr : r = if f ≤ x ∧ x ≤ l then .at (My.qv ((x - f) * len) (l - f)) else .tx "outside" := hr
        rw [hr, if_pos (by omega)]
        exact ⟨by omega, (show My.Bd 40 (l - f) by unfold My.Bd; omega).mono (by decide), rfl⟩
      walk_at "trun"
      exact φ2
    | _ => exact hc.elim
  | num e f =>
    have c3 : NumOk e f := by cases sc <;> first | exact hc | exact hc.elim
    have hb300 : NB 300 (e, f) := ⟨c3.pos, c3.ba.mono (by decide), c3.bb.mono (by decide)⟩
    cases sc with
    | tur p low many len =>
      unfold Ce.tr at *
      walk_at "trun"
      refine z_iteD (fun y => absurd y (by decide)) (fun _ => ?_)
      walk_at "trun"
      refine z_iteD (fun _ => ?_) (fun y => absurd rfl y)
      walk_at "trun"
      intro _ _
      refine ⟨p, low, many, len, e, f, rfl, hs, hc, fun lp hl => ?_⟩
      have := φ lp hl
      walk_at "trun"
      exact this
    | str a b c d len =>
      unfold Sc.tr Ce.tr N2 at *
      obtain ⟨k1, k2, k3, k4, k5⟩ := hs
      walk_at "trun"
      refine z_iteD (fun y => absurd y (by decide)) (fun _ => ?_)
      walk_at "trun"
      refine z_iteD (fun y => absurd y (by decide)) (fun _ => ?_)
      walk_at "trun"
      refine z_iteD (fun y => absurd y (by decide)) (fun _ => ?_)
      walk_at "trun"
      refine rs_T (ts := [.str "straight", .tup [.int a, .int b], .tup [.int c, .int d], .int len]) rfl Rk.fz (show ¬ (HT.sIx 4 0 (some 1) = 0 ∧ HT.sIx 4 4 (some 3) = 4) by decide) ?_
      walk_at "trun"
      refine ro_catT (ts := [.tup [.int a, .int b], .tup [.int c, .int d]]) (us := [.int 0, .int len]) rfl Rk.fz Rk.fz (by nofun) (show (4 : Nat) ≤ 100000 by decide) ?_
      walk_at "trun"
      refine z_iteD (fun y => absurd y (by decide)) (fun _ => ?_)
      walk_at "trun"
      have k0 : ([(a, b, c, d, 0, len)] : List Pi6) ≠ [] := by nofun
      have hp : ∀ x ∈ ([(a, b, c, d, 0, len)] : List Pi6), PcGood x := fun x hx => by
        cases List.mem_singleton.mp hx
        exact ⟨k1, k2, k3, Int.le_refl 0, by show (0 : Int) < len; omega, k5⟩
      have pl : ∀ r, Pls (.str a b c d len) (.num e f) r → r = if inB e f a b c d = true then .at (along e f (a, b, c, d, 0, len)) else .tx "outside" := fun r hr => by
        have hr : r = if inB e f a b c d = true then .at ((My.qv e f - My.qv a b) / (My.qv c d - My.qv a b) * (len : Rat)) else .tx "outside" := hr
        rw [hr]
        have e1 : along e f (a, b, c, d, 0, len) = (My.qv e f - My.qv a b) / (My.qv c d - My.qv a b) * (len : Rat) := by
          show ((0 : Int) : Rat) + (My.qv e f - My.qv a b) / (My.qv c d - My.qv a b) * ((len - 0 : Int) : Rat) = _
          rw [Int.sub_zero, show ((0 : Int) : Rat) = 0 from rfl, Rat.zero_add]
        rw [e1]
      have φA : ∀ x, ([(a, b, c, d, 0, len)] : List Pi6).find? (win6 e f) = some x → Φ (.fz (lpAt e f x).tr) := fun x hx => φ (lpAt e f x) fun r hr => by
        have mx := List.mem_of_find?_eq_some hx
        have hw := List.find?_some hx
        have gx := hp x mx
        cases List.mem_singleton.mp mx
        have hw : inB e f a b c d = true := hw
        rw [pl r hr, if_pos hw]
        exact lpAt_is c3 gx
      have φO : ([(a, b, c, d, 0, len)] : List Pi6).find? (win6 e f) = none → out6 e f [(a, b, c, d, 0, len)] = false → Φ (.fz (.str "outside")) := fun hn _ => φ (.tx "outside") fun r hr => by
        have hw : ¬ inB e f a b c d = true := List.find?_eq_none.mp hn _ List.mem_cons_self
        rw [pl r hr, if_neg hw]
        rfl
      have φG : ([(a, b, c, d, 0, len)] : List Pi6).find? (win6 e f) = none → out6 e f [(a, b, c, d, 0, len)] = true → Φ (.fz (.str "gap")) := fun hn ho => by
        have hw : ¬ inB e f a b c d = true := List.find?_eq_none.mp hn _ List.mem_cons_self
        exact absurd ho hw
      generalize hps : ([(a, b, c, d, 0, len)] : List Pi6) = ps at *
      have hpt : Tr.lst [Tr.tup ([Tr.tup [Tr.int a, Tr.int b], Tr.tup [Tr.int c, Tr.int d]] ++ [Tr.int 0, Tr.int len])] = .lst (ps.map pcT) := by rw [← hps]; rfl
      change ∃ I : Nat → TSt → Prop, I 0 [_, _, .fz (.lst _), _, _, _, _] ∧ (∀ (i : Nat) t1 τ2, _ → _) ∧ _
      rw [show [Tr.tup ([Tr.tup [Tr.int a, Tr.int b], Tr.tup [Tr.int c, Tr.int d]] ++ [Tr.int 0, Tr.int len])] = ps.map pcT by rw [← hps]; rfl]
      refine ⟨fun j τ => (∃ u1 u2 u3 u4 : Sl, τ = [.fz (.tup [.str "straight", .tup [.int a, .int b], .tup [.int c, .int d], .int len]), .fz (.tup [.int e, .int f]), .fz (.lst (ps.map pcT)), u1, u2, u3, u4]) ∧ ∀ k x, k < j → ps[k]? = some x → win6 e f x = false, ⟨⟨_, _, _, _, rfl⟩, fun k ch hk => by omega⟩, ?_, ?_⟩
      · rintro j tt τ hj ⟨⟨u1, u2, u3, u4, rfl⟩, hk⟩
        have hj : (ps.map pcT)[j]? = some tt := hj
        obtain ⟨x, ex, rfl⟩ : ∃ x, ps[j]? = some x ∧ tt = pcT x := by
          rw [List.getElem?_map] at hj
          cases e : ps[j]? with
          | none => rw [e] at hj; cases hj
          | some c => rw [e] at hj; cases hj; exact ⟨c, rfl, rfl⟩
        have gx := hp x (List.mem_of_getElem? ex)
        have fx : win6 e f x = true → ps.find? (win6 e f) = some x := fun z => find_at hk ex z
        obtain ⟨a1, b1, c1, d1, s1, t1⟩ := x
        obtain ⟨x1, x2, x3, x4, x5, x6⟩ := gx
        have x4 : 0 ≤ s1 := x4
        have x5 : s1 < t1 := x5
        have x6 : t1 ≤ 4000 := x6
        unfold pcT N2 at *
        walk_at "trun"
        intro _ _
        refine ⟨(a1, b1), (c1, d1), (e, f), rfl, ⟨x1.pos, x1.ba.mono (by decide), x1.bb.mono (by decide)⟩, ⟨x2.pos, x2.ba.mono (by decide), x2.bb.mono (by decide)⟩, hb300, ?_⟩
        walk_at "trun"
        refine z_ite2 (fun hin => ?_) (fun hin => ?_)
        · walk_at "trun"
          intro _ _
          refine ⟨(a1, b1), (c1, d1), (e, f), s1, t1, 260, 260, rfl, ⟨x1.ba, x1.bb⟩, ⟨x2.ba, x2.bb⟩, hb300, bd60 (by omega) (by omega), bd60 (by omega) (by omega), by decide, ?_⟩
          have := φA _ (fx hin)
          walk_at "trun"
          exact this
        · walk_at "trun"
          refine ⟨⟨_, _, _, _, rfl⟩, fun k c hkk hc => ?_⟩
          rcases (show k < j ∨ k = j by omega) with z | z
          · exact hk k c z hc
          · subst z
            rw [ex] at hc
            cases hc
            exact hin
      · rintro τ ⟨⟨u1, u2, u3, u4, rfl⟩, hk⟩
        have hk : ∀ k x, k < ps.length → ps[k]? = some x → win6 e f x = false := fun k x h1 h2 => hk k x (by first | exact h1 | (rw [List.length_map]; exact h1)) h2
        have hno := find_no hk
        obtain ⟨x, y, hx, hy, mx, my, ax, ay⟩ := pcs_ends k0
        have eo : out6 e f ps = inB e f x.1 x.2.1 y.2.2.1 y.2.2.2.1 := by unfold out6; rw [hx, hy]
        have hl2 : ((ps.map pcT).length : Int) = (ps.length : Int) := by rw [List.length_map]
        walk_at "trun"
        rw [hl2]
        refine z_iteD (fun h1 => ?_) (fun h1 => ?_)
        · walk_at "trun"
          refine ro_ixL rfl Rk.fz ax ?_
          obtain ⟨a1, b1, c1, d1, s1, t1⟩ := x
          obtain ⟨a2, b2, c2, d2, s2, t2⟩ := y
          have gx := hp _ mx
          have gy := hp _ my
          unfold pcT N2 at *
          walk_at "trun"
          refine ro_ixL rfl Rk.fz ay ?_
          walk_at "trun"
          intro _ _
          refine ⟨(a1, b1), (c2, d2), (e, f), rfl, ⟨gx.1.pos, gx.1.ba.mono (by decide), gx.1.bb.mono (by decide)⟩, ⟨gy.2.1.pos, gy.2.1.ba.mono (by decide), gy.2.1.bb.mono (by decide)⟩, hb300, ?_⟩
          walk_at "trun"
          refine z_ite2 (fun hin => ?_) (fun hin => ?_)
          · walk_at "trun"
            exact φG hno (eo.trans hin)
          · walk_at "trun"
            exact φO hno (eo.trans hin)
        · walk_at "trun"
          refine φO hno ?_
          rw [eo]
          have h1 : ps.length = 1 := by have : 0 < ps.length := List.length_pos_iff.mpr k0; omega
          obtain ⟨x', rfl⟩ := List.length_eq_one_iff.mp h1
          cases hx
          cases hy
          exact hk 0 _ Nat.zero_lt_one rfl
    | brk ps len =>
      unfold Sc.tr Ce.tr N2 at *
      obtain ⟨k0, kl, k1, k2, k3⟩ := hs
      walk_at "trun"
      refine z_iteD (fun y => absurd y (by decide)) (fun _ => ?_)
      walk_at "trun"
      refine z_iteD (fun y => absurd y (by decide)) (fun _ => ?_)
      walk_at "trun"
      refine z_iteD (fun y => absurd y (by decide)) (fun _ => ?_)
      walk_at "trun"
      refine rs_T (ts := [.str "broken", .lst (ps.map pcT), .int len]) rfl Rk.fz (show ¬ (HT.sIx 3 0 (some 1) = 0 ∧ HT.sIx 3 3 (some 3) = 3) by decide) ?_
      walk_at "trun"
      refine ro_catT (ts := [.lst (ps.map pcT), .int len]) (us := [.int 0, .int len]) rfl Rk.fz Rk.fz (by nofun) (show (4 : Nat) ≤ 100000 by decide) ?_
      walk_at "trun"
      refine z_iteD (fun _ => ?_) (fun y => absurd rfl y)
      walk_at "trun"
      have hp : ∀ x ∈ ps, PcGood x := k1
      have pl : ∀ r, Pls (.brk ps len) (.num e f) r → r = match ps.find? (win6 e f) with
        | some x => .at (along e f x)
        | none => .tx (if out6 e f ps = true then "gap" else "outside") := fun r hr => hr
      have φA : ∀ x, ps.find? (win6 e f) = some x → Φ (.fz (lpAt e f x).tr) := fun x hx => φ (lpAt e f x) fun r hr => by
        rw [pl r hr, hx]
        exact lpAt_is c3 (hp x (List.mem_of_find?_eq_some hx))
      have φO : ps.find? (win6 e f) = none → out6 e f ps = false → Φ (.fz (.str "outside")) := fun hn ho => φ (.tx "outside") fun r hr => by
        rw [pl r hr, hn, ho]
        rfl
      have φG : ps.find? (win6 e f) = none → out6 e f ps = true → Φ (.fz (.str "gap")) := fun hn ho => φ (.tx "gap") fun r hr => by
        rw [pl r hr, hn, ho]
        rfl
      refine ⟨fun j τ => (∃ u1 u2 u3 u4 : Sl, τ = [.fz (.tup [.str "broken", .lst (ps.map pcT), .int len]), .fz (.tup [.int e, .int f]), .fz (.lst (ps.map pcT)), u1, u2, u3, u4]) ∧ ∀ k x, k < j → ps[k]? = some x → win6 e f x = false, ⟨⟨_, _, _, _, rfl⟩, fun k ch hk => by omega⟩, ?_, ?_⟩
      · rintro j tt τ hj ⟨⟨u1, u2, u3, u4, rfl⟩, hk⟩
        have hj : (ps.map pcT)[j]? = some tt := hj
        obtain ⟨x, ex, rfl⟩ : ∃ x, ps[j]? = some x ∧ tt = pcT x := by
          rw [List.getElem?_map] at hj
          cases e : ps[j]? with
          | none => rw [e] at hj; cases hj
          | some c => rw [e] at hj; cases hj; exact ⟨c, rfl, rfl⟩
        have gx := hp x (List.mem_of_getElem? ex)
        have fx : win6 e f x = true → ps.find? (win6 e f) = some x := fun z => find_at hk ex z
        obtain ⟨a1, b1, c1, d1, s1, t1⟩ := x
        obtain ⟨x1, x2, x3, x4, x5, x6⟩ := gx
        have x4 : 0 ≤ s1 := x4
        have x5 : s1 < t1 := x5
        have x6 : t1 ≤ 4000 := x6
        unfold pcT N2 at *
        walk_at "trun"
        intro _ _
        refine ⟨(a1, b1), (c1, d1), (e, f), rfl, ⟨x1.pos, x1.ba.mono (by decide), x1.bb.mono (by decide)⟩, ⟨x2.pos, x2.ba.mono (by decide), x2.bb.mono (by decide)⟩, hb300, ?_⟩
        walk_at "trun"
        refine z_ite2 (fun hin => ?_) (fun hin => ?_)
        · walk_at "trun"
          intro _ _
          refine ⟨(a1, b1), (c1, d1), (e, f), s1, t1, 260, 260, rfl, ⟨x1.ba, x1.bb⟩, ⟨x2.ba, x2.bb⟩, hb300, bd60 (by omega) (by omega), bd60 (by omega) (by omega), by decide, ?_⟩
          have := φA _ (fx hin)
          walk_at "trun"
          exact this
        · walk_at "trun"
          refine ⟨⟨_, _, _, _, rfl⟩, fun k c hkk hc => ?_⟩
          rcases (show k < j ∨ k = j by omega) with z | z
          · exact hk k c z hc
          · subst z
            rw [ex] at hc
            cases hc
            exact hin
      · rintro τ ⟨⟨u1, u2, u3, u4, rfl⟩, hk⟩
        have hk : ∀ k x, k < ps.length → ps[k]? = some x → win6 e f x = false := fun k x h1 h2 => hk k x (by first | exact h1 | (rw [List.length_map]; exact h1)) h2
        have hno := find_no hk
        obtain ⟨x, y, hx, hy, mx, my, ax, ay⟩ := pcs_ends k0
        have eo : out6 e f ps = inB e f x.1 x.2.1 y.2.2.1 y.2.2.2.1 := by unfold out6; rw [hx, hy]
        have hl2 : ((ps.map pcT).length : Int) = (ps.length : Int) := by rw [List.length_map]
        walk_at "trun"
        rw [hl2]
        refine z_iteD (fun h1 => ?_) (fun h1 => ?_)
        · walk_at "trun"
          refine ro_ixL rfl Rk.fz ax ?_
          obtain ⟨a1, b1, c1, d1, s1, t1⟩ := x
          obtain ⟨a2, b2, c2, d2, s2, t2⟩ := y
          have gx := hp _ mx
          have gy := hp _ my
          unfold pcT N2 at *
          walk_at "trun"
          refine ro_ixL rfl Rk.fz ay ?_
          walk_at "trun"
          intro _ _
          refine ⟨(a1, b1), (c2, d2), (e, f), rfl, ⟨gx.1.pos, gx.1.ba.mono (by decide), gx.1.bb.mono (by decide)⟩, ⟨gy.2.1.pos, gy.2.1.ba.mono (by decide), gy.2.1.bb.mono (by decide)⟩, hb300, ?_⟩
          walk_at "trun"
          refine z_ite2 (fun hin => ?_) (fun hin => ?_)
          · walk_at "trun"
            exact φG hno (eo.trans hin)
          · walk_at "trun"
            exact φO hno (eo.trans hin)
        · walk_at "trun"
          refine φO hno ?_
          rw [eo]
          have h1 : ps.length = 1 := by have : 0 < ps.length := List.length_pos_iff.mpr k0; omega
          obtain ⟨x', rfl⟩ := List.length_eq_one_iff.mp h1
          cases hx
          cases hy
          exact hk 0 _ Nat.zero_lt_one rfl
    | day f l len => exact hc.elim
    | ord ws len => exact hc.elim
structure NA (n m : Nat) (x : NP) : Prop where
  pos : 0 < x.2
  ba : My.Bd n x.1
  bb : My.Bd m x.2
theorem NA.mono {n m n' m' : Nat} {x : NP} (h : NA n m x) (h1 : n ≤ n') (h2 : m ≤ m') : NA n' m' x := ⟨h.pos, h.ba.mono h1, h.bb.mono h2⟩
theorem lowP_na {n m : Nat} {t b : Int} (hb : 0 < b) (h1 : My.Bd n t) (h2 : My.Bd m b) : NA n m (lowP t b) := ⟨lowB_pos hb, low_bd hb h1, lowB_bd hb h2⟩
theorem plusP_na {n m n' m' N : Nat} {x y : NP} (h : NA n m x) (g : NA n' m' y) (h1 : n + m' ≤ N) (h2 : n' + m ≤ N) : NA (N + 1) (m + m') (plusP x y) :=
  lowP_na (Int.mul_pos h.pos g.pos) (((h.ba.mul g.bb).mono h1).add ((g.ba.mul h.bb).mono h2)) (h.bb.mul g.bb)
theorem negP_na {n m : Nat} {x : NP} (h : NA n m x) : NA n m (negP x) := ⟨h.pos, h.ba.neg, h.bb⟩
theorem partP_na {lo hi : NP} {f g : Int} (h1 : NA 120 60 lo) (h2 : NA 120 60 hi) (hg : 0 < g) (hf : My.Bd 15 f) (hgb : My.Bd 15 g) : NA 260 260 (partP lo hi f g) := by
  have s := plusP_na (N := 180) h2 (negP_na h1) (by decide) (by decide)
  have l := lowP_na (t := (plusP hi (negP lo)).1 * f) (b := (plusP hi (negP lo)).2 * g) (Int.mul_pos s.pos hg) (s.ba.mul hf) (s.bb.mul hgb)
  exact (plusP_na (N := 256) h1 l (by decide) (by decide)).mono (by decide) (by decide)
theorem loP_na {ds : List Int} (tp : Tops ds tops26) : NA 60 6 (loP ds) := by
  obtain ⟨h, g⟩ := loP_nb tp
  refine ⟨g.pos, g.ba, ?_⟩
  have b4 := h.at (k := 4) (by decide) rfl
  have hb : 0 < botV ((ds.drop 1).take 5) := by unfold botV; split <;> omega
  have hb2 : botV ((ds.drop 1).take 5) ≤ 60 := by unfold botV; split <;> rename_i z <;> simp only [decide_eq_true_eq] at z <;> omega
  exact lowB_bd (t := topV ((ds.drop 1).take 5)) hb (by unfold My.Bd; omega)
theorem hiP_na {ds : List Int} (tp : Tops ds tops26) {k n m : Nat} (hk : k < 4) {lo : NP} (h : NA n m lo) (hn : m + 4 ≤ n) : NA (n + 7) (m + 6) (hiP ds k lo) ∧ NA (n + 14) (m + 12) (nxP ds k lo) := by
  have t4 := e4_tops tp hk
  have c2 := t4.at (k := 2) (by decide) rfl
  have c3 := t4.at (k := 3) (by decide) rfl
  have b8 := tp.at (k := 8) (by decide) rfl
  have b9 := tp.at (k := 9) (by decide) rfl
  have l1 := lowP_na (n := 10) (m := 6) (t := 1 + dg (e4 ds k) 2) (b := 1 + dg ds 8) (by omega) (by unfold My.Bd; omega) (by unfold My.Bd; omega)
  have l2 := lowP_na (n := 10) (m := 6) (t := 1 + dg (e4 ds k) 3) (b := 1 + dg ds 9) (by omega) (by unfold My.Bd; omega) (by unfold My.Bd; omega)
  have h1 := plusP_na (N := n + 6) h l1 (by omega) (by omega)
  have h2 := plusP_na (N := n + 13) h1 l2 (by omega) (by omega)
  exact ⟨h1, h2⟩
theorem brk_na {ds : List Int} (tp : Tops ds tops26) : ∀ (n k : Nat) (lo : NP) (p : Int), k + n ≤ 4 → NA (60 + 14 * k) (6 + 12 * k) lo → ∀ x ∈ brkAux ds k lo p n, NA 120 60 (x.1, x.2.1) ∧ NA 120 60 (x.2.2.1, x.2.2.2.1)
  | 0, _, _, _, _, _, x, h => absurd h List.not_mem_nil
  | n + 1, k, lo, p, hk, h, x, hx => by
    obtain ⟨h1, h2⟩ := hiP_na tp (show k < 4 by omega) h (by omega)
    rcases List.mem_cons.mp hx with e | e
    · subst e
      exact ⟨h.mono (by omega) (by omega), h1.mono (by omega) (by omega)⟩
    · exact brk_na tp n (k + 1) _ _ (by omega) (h2.mono (by omega) (by omega)) x e
noncomputable def SmO : Sc → Prop
  | .str a b c d _ => NA 120 60 (a, b) ∧ NA 120 60 (c, d)
  | .brk ps _ => ∀ x ∈ ps, NA 120 60 (x.1, x.2.1) ∧ NA 120 60 (x.2.2.1, x.2.2.2.1)
  | .tur p _ _ _ => p = 2 ∨ p = 10
  | _ => True
theorem scale_sm {k : Int} {ds : List Int} (tp : Tops ds tops26) : SmO (scaleV k ds) := by
  have b6 := tp.at (k := 6) (by decide) rfl
  have b7 := tp.at (k := 7) (by decide) rfl
  have b8 := tp.at (k := 8) (by decide) rfl
  have l := loP_na tp
  unfold scaleV
  split
  · have pb := pk3_b (k := dg ds 6) (a := 10) (b := 1000) (c := 1000000000) (m := 1000000000) (by decide) (by decide) (by decide)
    have sp0 : 0 < spanV ds := by have := Int.emod_nonneg (dg ds 7) (show pk3 (dg ds 6) 10 1000 1000000000 ≠ 0 by omega); unfold spanV; omega
    have sp1 : spanV ds ≤ 1000000000 := by have := Int.emod_lt_of_pos (dg ds 7) pb.1; unfold spanV; omega
    have l1 := lowP_na (n := 31) (m := 6) (t := spanV ds) (b := 1 + dg ds 8) (by omega) (by unfold My.Bd; omega) (by unfold My.Bd; omega)
    exact ⟨l.mono (by decide) (by decide), (plusP_na (N := 66) l l1 (by decide) (by decide)).mono (by decide) (by decide)⟩
  split
  · show pk2 (dg ds 1) (2 : Int) 10 = 2 ∨ pk2 (dg ds 1) (2 : Int) 10 = 10
    unfold pk2; split; exact .inl rfl; exact .inr rfl
  split
  · exact brk_na tp _ 0 _ _ (by omega) l
  split <;> exact trivial
theorem cell_fit {s : Sc} {e : List Int} (hs : ScOk s) (hm : SmO s) (tp : Tops e tops5c) : Fit s (cellV s e) := by
  have b0 := tp.at (k := 0) (by decide) rfl
  have b1 := tp.at (k := 1) (by decide) rfl
  have b2 := tp.at (k := 2) (by decide) rfl
  have b3 := tp.at (k := 3) (by decide) rfl
  have b4 := tp.at (k := 4) (by decide) rfl
  have len4 : 1 ≤ s.len ∧ s.len ≤ 4000 := by
    cases s with
    | str a b c d len => exact ⟨hs.2.2.2.1, hs.2.2.2.2⟩
    | tur p low many len => exact ⟨hs.2.2.2.2.2.2.1, hs.2.2.2.2.2.2.2⟩
    | brk ps len => exact ⟨hs.2.2.2.1, hs.2.2.2.2⟩
    | day f l len => exact ⟨hs.2.2.2.1, hs.2.2.2.2⟩
    | ord ws len => exact ⟨hs.2.2.1, hs.2.2.2⟩
  have g0 : 0 < (ceF s e).2 ∧ (ceF s e).2 ≤ 8000 := by
    show 0 < pk4 (dg e 2) (1 + dg e 3 % 12) (2 * s.len) (1 + dg e 3 % 1000) 2 ∧ pk4 (dg e 2) (1 + dg e 3 % 12) (2 * s.len) (1 + dg e 3 % 1000) 2 ≤ 8000
    unfold pk4
    split
    · omega
    split
    · omega
    split <;> omega
  have f0 : 0 ≤ (ceF s e).1 ∧ (ceF s e).1 ≤ (ceF s e).2 := by
    have h1 := Int.emod_nonneg (dg e 1) (show (ceF s e).2 + 1 ≠ 0 by omega)
    have h2 := Int.emod_lt_of_pos (dg e 1) (show 0 < (ceF s e).2 + 1 by omega)
    show 0 ≤ dg e 1 % ((ceF s e).2 + 1) ∧ dg e 1 % ((ceF s e).2 + 1) ≤ (ceF s e).2
    omega
  have f2 : -16005 ≤ ceF2 s e ∧ ceF2 s e ≤ 16005 := by unfold ceF2; split <;> split <;> omega
  have f3 : My.Bd 15 (ceF2 s e) := by unfold My.Bd; omega
  have g3 : My.Bd 15 (ceF s e).2 := by unfold My.Bd; omega
  have up : ∀ x : NP, NA 260 260 x → NumOk x.1 x.2 := fun x h => ⟨h.pos, h.ba, h.bb⟩
  unfold cellV
  split
  · cases s <;> exact trivial
  cases s with
  | ord ws len => show Fit (.ord ws len) (if _ then _ else _); split <;> exact trivial
  | tur p low many len => exact tcell_nb hm f0.1 f0.2 g0.1 (by omega)
  | day f l len =>
    show 0 ≤ cellV.clampD _ ∧ cellV.clampD _ ≤ 4000000
    unfold cellV.clampD
    split <;> split <;> constructor <;> omega
  | str a b c d len => exact up _ (partP_na hm.1 hm.2 g0.1 f3 g3)
  | brk ps len =>
    have hl : 0 < ps.length := List.length_pos_iff.mpr hs.1
    have m0 := Int.emod_nonneg (dg e 4) (show (ps.length : Int) ≠ 0 by omega)
    have m1 := Int.emod_lt_of_pos (dg e 4) (show 0 < (ps.length : Int) by omega)
    show Fit (.brk ps len) (if _ then _ else _)
    have h1 := hm _ (atPc m0 m1).2
    split
    · rename_i z
      have h2 := hm _ (atPc (ps := ps) (k := dg e 4 % (ps.length : Int) - 1) (by omega) (by omega)).2
      exact up _ (partP_na h2.2 h1.1 g0.1 f3 g3)
    · exact up _ (partP_na h1.1 h1.2 g0.1 f3 g3)
noncomputable def tops22 : List Int := [4, 1000000, 6, 3, 3, 1000000000, 1000000000] ++ (tops5c ++ tops5c ++ tops5c)
noncomputable def pk6 {α : Type} (k : Int) (a b c d e f : α) : α := if k = 0 then a else if k = 1 then b else if k = 2 then c else if k = 3 then d else if k = 4 then e else f
theorem atP6 {α : Type} {k : Int} {a b c d e f : α} (h0 : 0 ≤ k) (h1 : k < 6) : atI [a, b, c, d, e, f] k = some (pk6 k a b c d e f) := by
  rcases (show k = 0 ∨ k = 1 ∨ k = 2 ∨ k = 3 ∨ k = 4 ∨ k = 5 by omega) with z | z | z | z | z | z <;> subst z <;> rfl
theorem pk6_int {k a b c d e f : Int} : pk6 k (Tr.int a) (.int b) (.int c) (.int d) (.int e) (.int f) = .int (pk6 k a b c d e f) := by unfold pk6; split; rfl; split; rfl; split; rfl; split; rfl; split <;> rfl
noncomputable def iDr (c : Int) : List Int := drawsV c tops22
noncomputable def iOwn (c o : Int) : Int := o + pk4 (dg (iDr c) 0) 0 1 (2 + dg (iDr c) 1 % 9) (1 + dg (iDr c) 1)
noncomputable def iRank (c : Int) : Int := pk6 (dg (iDr c) 2) (dg (iDr c) 3) (dg (iDr c) 3) (dg (iDr c) 3) (dg (iDr c) 3) (dg (iDr c) 5 % 60) (dg (iDr c) 5)
noncomputable def iCol (c : Int) : Int := pk6 (dg (iDr c) 2) (dg (iDr c) 4) 0 (iRank c % 12) (dg (iDr c) 4) (dg (iDr c) 6) (dg (iDr c) 4 * 7)
noncomputable def iSiz (c : Int) : Int := 1 + dg (iDr c) 6 % (if decide (dg (iDr c) 2 = 4) = true then 1000000000 else 20)
noncomputable def itemV (f : Fd) (c o : Int) : Itm := ⟨iOwn c o, cellV f.sx (((iDr c).drop 7).take 5), cellV f.sy (((iDr c).drop 12).take 5), .no, iRank c, iCol c, iSiz c⟩
noncomputable def ownAt (cs : List Int) : Nat → Int
  | 0 => 0
  | j + 1 => iOwn (cs.getD j 0) (ownAt cs j) + 1
noncomputable def itemsV (f : Fd) (cs : List Int) (j : Nat) : List Itm := (List.range j).map fun i => itemV f (cs.getD i 0) (ownAt cs i)
theorem itemsV_snoc (f : Fd) (cs : List Int) (j : Nat) : itemsV f cs (j + 1) = itemsV f cs j ++ [itemV f (cs.getD j 0) (ownAt cs j)] := by unfold itemsV; rw [List.range_succ, List.map_append]; rfl
theorem tops22_b : ∀ t ∈ tops22, 0 < t ∧ t ≤ 1000000000 := by decide
theorem iDr_tops (c : Int) : Tops (iDr c) tops22 := drawsV_tops tops22_b
noncomputable def st_items : SpT := fun _ as Φ _ => ∃ (cs : List Int) (f : Fd), as = [.fz (.lst (cs.map Tr.int)), .fz f.tr] ∧ cs.length ≤ 100 ∧ FdOk f ∧ SmO f.sx ∧ SmO f.sy ∧ Φ (.nw (.lst ((itemsV f cs cs.length).map Itm.tr)))
theorem okT_l_items (T : Txt K mg t) : FnOk P w K mg base CX0 6 t.f_l_items t.d_l_items ["_law_cells", "_law_field_here"] (toSp K st_items) := by
  have G_l_draws := okT_l_draws (P := P) (w := w) (base := base) T
  have G_l_cell := okT_l_cell (P := P) (w := w) (base := base) T
  refine T.F_l_items.ok sc_l_items (toSp_len (fun B as Φ Ψ h => by obtain ⟨_, _, rfl, _⟩ := h; rfl)) (fun cdv A outer s H vs Q E hr h => ?_)
  obtain ⟨B, as, Φ, Ψ, rfl, hS, hx, go⟩ := toSp_open h
  obtain ⟨cs, f, rfl, hl, hf, hsx, hsy, φ⟩ := hS
  have tx : ∀ p low many len, f.sx = .tur p low many len → p = 2 ∨ p = 10 := fun p low many len e => by rw [e] at hsx; exact hsx
  have ty : ∀ p low many len, f.sy = .tur p low many len → p = 2 ∨ p = 10 := fun p low many len e => by rw [e] at hsy; exact hsy
  unfold Fd.tr at *
  refine ⟨_, (psc (ps_set (i := 2) sc_l_items.nd rfl (Or.inl rfl) (pe_lst pnl))
  (psc (ps_set (i := 3) sc_l_items.nd rfl (Or.inl rfl) pei)
  (psc (ps_for PassesOwn.never rfl (pi_list (pv 0)) (pg_name (i := 4) sc_l_items.nd rfl (Or.inl rfl)) (psc (ps_set (i := 5) sc_l_items.nd rfl (Or.inl rfl) (pe_call G_l_draws (hr.mono (by decide)) rfl T.m_l_draws T.k_l_draws T.b_l_draws .nil pass0 (pcn (pv 4) (pcn (pe_op op_catL (pe_lst (pcn pei (pcn (pe_op op_pow pei pei) (pcn pei (pcn pei (pcn pei (pcn (pe_op op_pow pei pei) (pcn (pe_op op_pow pei pei) pnl)))))))) (pe_op op_rep (pe_lst (pcn pei (pcn (pe_op op_pow pei pei) (pcn pei (pcn (pe_op op_pow pei pei) (pcn pei pnl)))))) pei)) pnl))))
  (psc (ps_set (i := 3) sc_l_items.nd rfl (Or.inl rfl) (pe_op op_add (pv 3) (pe_ix ixl (pe_lst (pcn pei (pcn pei (pcn (pe_op op_add pei (pe_op op_mod (pe_ix ixl (pv 5) pei (fun _ _ => rfl)) pei)) (pcn (pe_op op_add pei (pe_ix ixl (pv 5) pei (fun _ _ => rfl))) pnl))))) (pe_ix ixl (pv 5) pei (fun _ _ => rfl)) (fun _ _ => rfl))))
  (psc (ps_set (i := 6) sc_l_items.nd rfl (Or.inl rfl) (pe_ix ixl (pe_lst (pcn (pe_ix ixl (pv 5) pei (fun _ _ => rfl)) (pcn (pe_ix ixl (pv 5) pei (fun _ _ => rfl)) (pcn (pe_ix ixl (pv 5) pei (fun _ _ => rfl)) (pcn (pe_ix ixl (pv 5) pei (fun _ _ => rfl)) (pcn (pe_op op_mod (pe_ix ixl (pv 5) pei (fun _ _ => rfl)) pei) (pcn (pe_ix ixl (pv 5) pei (fun _ _ => rfl)) pnl))))))) (pe_ix ixl (pv 5) pei (fun _ _ => rfl)) (fun _ _ => rfl)))
  (psc (ps_set (i := 7) sc_l_items.nd rfl (Or.inl rfl) (pe_ix ixl (pe_lst (pcn (pe_ix ixl (pv 5) pei (fun _ _ => rfl)) (pcn pei (pcn (pe_op op_mod (pv 6) pei) (pcn (pe_ix ixl (pv 5) pei (fun _ _ => rfl)) (pcn (pe_ix ixl (pv 5) pei (fun _ _ => rfl)) (pcn (pe_op op_mul (pe_ix ixl (pv 5) pei (fun _ _ => rfl)) pei) pnl))))))) (pe_ix ixl (pv 5) pei (fun _ _ => rfl)) (fun _ _ => rfl)))
  (psc (ps_set (i := 8) sc_l_items.nd rfl (Or.inl rfl) (pe_call G_l_cell (hr.mono (by decide)) rfl T.m_l_cell T.k_l_cell T.b_l_cell .nil pass0 (pcn (pe_ix ixt (pv 1) pei (fun _ _ => rfl)) (pcn (pe_slice sl_list (pv 5) (po_some pei) (po_some pei)) pnl))))
  (psc (ps_set (i := 9) sc_l_items.nd rfl (Or.inl rfl) (pe_call G_l_cell (hr.mono (by decide)) rfl T.m_l_cell T.k_l_cell T.b_l_cell .nil pass0 (pcn (pe_ix ixt (pv 1) pei (fun _ _ => rfl)) (pcn (pe_slice sl_list (pv 5) (po_some pei) (po_some pei)) pnl))))
  (psc (ps_set (i := 10) sc_l_items.nd rfl (Or.inl rfl) pe_non)
  (psc (ps_expr (pe_bm PySem.F.plainAttrs_list PySem.F.slot_list_append PySem.F.type_list_append mt_append (pv 2) (pcn (pe_tup (pcn (pv 3) (pcn (pv 8) (pcn (pv 9) (pcn (pv 10) (pcn (pv 6) (pcn (pv 7) (pcn (pe_op op_add pei (pe_op op_mod (pe_ix ixl (pv 5) pei (fun _ _ => rfl)) (pe_ix ixl (pe_lst (pcn pei (pcn (pe_op op_pow pei pei) pnl))) (pe_callTy call_int1 rfl T.z_int bt_int (pcn (pe_cmpR op_eq (pe_ix ixl (pv 5) pei (fun _ _ => rfl)) pei (nomark _)) pnl)) (fun _ _ => rfl)))) pnl)))))))) pnl)))
  (pso (ps_set (i := 3) sc_l_items.nd rfl (Or.inl rfl) (pe_op op_add (pv 3) pei))))))))))))
  (pso (ps_ret (pv 2)))))), go _ _ (s_go (τ := [.fz _, .fz _, .no, .no, .no, .no, .no, .no, .no, .no, .no]) rfl ?_)⟩
  walk_at "trun"
  refine ⟨fun j τ => ∃ u1 u2 u3 u4 u5 u6 u7 : Sl, τ = [.fz (.lst (cs.map Tr.int)), .fz (.tup [f.sx.tr, f.sy.tr, .int f.x0, .int f.y0, .int f.w, .int f.h]), .own (.lst ((itemsV f cs j).map Itm.tr)), .fz (.int (ownAt cs j)), u1, u2, u3, u4, u5, u6, u7], ⟨_, _, _, _, _, _, _, rfl⟩, ?_, ?_⟩
  · rintro j tt τ hj ⟨u1, u2, u3, u4, u5, u6, u7, rfl⟩
    obtain ⟨c, ec, rfl⟩ : ∃ c, cs[j]? = some c ∧ tt = .int c := by
      rw [List.getElem?_map] at hj
      cases e : cs[j]? with
      | none => rw [e] at hj; cases hj
      | some c => rw [e] at hj; cases hj; exact ⟨c, rfl, rfl⟩
    have ed : cs.getD j 0 = c := by rw [List.getD_eq_getElem?_getD, ec]; rfl
    have tp := iDr_tops c
    have tl : (iDr c).length = 22 := tp.l
    have b0 := tp.at (k := 0) (by decide) rfl
    have b1 := tp.at (k := 1) (by decide) rfl
    have b2 := tp.at (k := 2) (by decide) rfl
    have b3 := tp.at (k := 3) (by decide) rfl
    have b4 := tp.at (k := 4) (by decide) rfl
    have b5 := tp.at (k := 5) (by decide) rfl
    have b6 := tp.at (k := 6) (by decide) rfl
    walk_at "trun"
    refine ro_catL rfl Rk.fz Rk.fz (by decide) ?_
    walk_at "trun"
    intro _ _
    change st_draws _ [.fz (.int c), .fz (.lst (tops22.map Tr.int))] _ _
    refine ⟨c, tops22, rfl, by decide, tops22_b, ?_⟩
    change GA B _ (.nw (.lst ((iDr c).map Tr.int))) _ _
    walk_at "trun"
    refine ro_ixL rfl Rk.fz (atP4 b0.1 b0.2) ?_
    rw [pk4_int]
    walk_at "trun"
    refine ro_ixL rfl Rk.fz (atP6 b2.1 b2.2) ?_
    rw [pk6_int]
    walk_at "trun"
    refine ro_ixL rfl Rk.fz (atP6 b2.1 b2.2) ?_
    rw [pk6_int]
    walk_at "trun"
    intro _ _
    rw [show cutT ((iDr c).map Tr.int) (some 7) (some 12) = (((iDr c).drop 7).take 5).map Tr.int from cut_map _ 7 12]
    refine ⟨_, _, rfl, hf.x, tx, (tp.drop 7).take 5, ?_⟩
    walk_at "trun"
    intro _ _
    rw [show cutT ((iDr c).map Tr.int) (some 12) (some 17) = (((iDr c).drop 12).take 5).map Tr.int from cut_map _ 12 17]
    refine ⟨_, _, rfl, hf.y, ty, (tp.drop 12).take 5, ?_⟩
    walk_at "trun"
    refine ro_ixL rfl Rk.fz atB2 ?_
    rw [ifI]
    refine ro_I (show 0 < (if decide (dg (iDr c) 2 = 4) = true then (10 : Int) ^ (9 : Int).toNat else 20) by split <;> decide) ?_
    have e1 : (itemsV f cs (j + 1)).map Itm.tr = (itemsV f cs j).map Itm.tr ++ [(itemV f c (ownAt cs j)).tr] := by rw [itemsV_snoc, ed, List.map_append]; rfl
    have hjl : j < cs.length := (List.getElem?_eq_some_iff.mp ec).1
    have wl : ((itemsV f cs j).map Itm.tr).length ≤ 10000 := by unfold itemsV; rw [List.length_map, List.length_map, List.length_range]; omega
    have e2 : ownAt cs (j + 1) = iOwn c (ownAt cs j) + 1 := by rw [← ed]; rfl
    walk_at "trun"
    simp only [e1, e2]
    exact ⟨_, _, _, _, _, _, _, rfl⟩
  · rintro τ ⟨u1, u2, u3, u4, u5, u6, u7, rfl⟩
    rw [List.length_map]
    walk_at "trun"
    exact rt_sl (by walk_at "tg") φ
noncomputable def SmT (D : Tr → Prop) : Tr → Prop
  | .int _ => True
  | .str _ => True
  | .tup ts => ts.length ≤ 1000 ∧ ∀ t ∈ ts, D t
  | .lst ts => ts.length ≤ 1000 ∧ ∀ t ∈ ts, D t
  | _ => False
noncomputable def st_sameD (D : Tr → Prop) : SpT := fun _ as Φ _ => ∃ t, as = [.fz t, .fz t] ∧ D t ∧ Φ (.fz (.bl true))
local macro_rules | `(tactic| walk_at "trun") => `(tactic| repeat (first | ((with_reducible apply e_isiTL); (focus rfl)) | walk_at "t1" | walk_at "t2" | walk_at "tsp"))
theorem zip_le {ts us : List Tr} (h : ts.length ≤ 1000) : (zip2T ts us).length ≤ 100000 := by rw [zip2T_len]; omega
theorem all_yes : ∀ {os : List (Option Tr)}, (∀ (i : Nat) (o : Option Tr), os[i]? = some o → o = some (Tr.bl true)) → os.filterMap id = (List.replicate os.length true).map Tr.bl
  | [], _ => rfl
  | o :: r, h => by
    have e := h 0 o rfl
    subst e
    have := all_yes (os := r) fun i x hx => h (i + 1) x hx
    rw [List.length_cons, List.replicate_succ, List.map_cons, ← this]
    rfl
theorem okn_l_same (T : Txt K mg t) {m : Nat} {D : Tr → Prop} (G_l_same : FnOk P w K mg base CX0 (m + 1) t.f_l_same t.d_l_same ["_law_found", "_law_due_here"] (toSp K (st_sameD D))) : FnOk P w K mg base CX0 (m + 2) t.f_l_same t.d_l_same ["_law_found", "_law_due_here"] (toSp K (st_sameD (SmT D))) := by
  have G_l_whole := ok_l_whole (P := P) (w := w) (base := base) T
  refine T.F_l_same.ok sc_l_same (toSp_len (fun B as Φ Ψ h => by obtain ⟨_, rfl, _⟩ := h; rfl)) (fun cdv A outer s H vs Q E hr h => ?_)
  obtain ⟨B, as, Φ, Ψ, rfl, hS, hx, go⟩ := toSp_open h
  obtain ⟨t0, rfl, hd, φ⟩ := hS
  refine ⟨_, (psc (ps_if (pt_val (pe_callB isi_tl rfl T.z_isinstance bt_isinstance (pcn (pv 1) (pcn (pe_tup (pcn (pe_bltn (v := .ty "tuple") rfl T.z_tuple bt_tuple rfl) (pcn (pe_bltn (v := .ty "list") rfl T.z_list bt_list rfl) pnl))) pnl)))) (psc (ps_if (pt_cmpR op_ne (pe_isi isi_tuple rfl rfl T.z_isinstance T.z_tuple bt_tuple (pv 0)) (pe_isi isi_tuple rfl rfl T.z_isinstance T.z_tuple bt_tuple (pv 1)) (nomark _)) (pso (ps_ret pe_bl)) pss_nil)
  (psc (ps_if (PW.pt (pw_or (pt_cmpR op_ne (pe_isi isi_list rfl rfl T.z_isinstance T.z_list bt_list (pv 0)) (pe_isi isi_list rfl rfl T.z_isinstance T.z_list bt_list (pv 1)) (nomark _)) (pw_or1 (pt_cmpR op_ne (pe_callB call_len_seq rfl T.z_len PySem.boot_len (pcn (pv 0) pnl)) (pe_callB call_len_seq rfl T.z_len PySem.boot_len (pcn (pv 1) pnl)) (nomark _))))) (pso (ps_ret pe_bl)) pss_nil)
  (pso (ps_ret (pe_callB (call_all rfl) rfl T.z_all bt_all (pcn (pe_lcP (fr := []) rfl (compOkG2_of (osc := defScope s_l_same) (N := ["_law_found", "_law_due_here"]) rfl rfl (by decide +kernel) (by decide +kernel) (by decide)) (pi_zip rfl T.z_zip (pcn (pv 0) (pcn (pv 1) pnl))) (fun _ _ _ _ _ => (pe_call G_l_same (hr.mono (by omega)) rfl T.m_l_same T.k_l_same T.b_l_same .nil pass0 (pcn (pv 0) (pcn (pv 1) pnl))))) pnl)))))) pss_nil)
  (psc (ps_if (pt_val (pe_isi isi_str rfl rfl T.z_isinstance T.z_str bt_str (pv 1))) (pso (ps_ret (pe_and (pe_isi isi_str rfl rfl T.z_isinstance T.z_str bt_str (pv 0)) (pe_one (pe_cmpR op_eq (pv 0) (pv 1) (nomark _)))))) pss_nil)
  (pso (ps_ret (pe_and (pe_call G_l_whole (hr.mono (by omega)) rfl T.m_l_whole T.k_l_whole T.b_l_whole .nil pass0 (pcn (pv 0) pnl)) (pe_one (pe_cmpR op_eq (pv 0) (pv 1) (nomark _)))))))), go _ _ (s_go (τ := [.fz _, .fz _]) rfl ?_)⟩
  cases t0 with
  | int i =>
    walk_at "trun"
    intro _ _
    refine ⟨_, .int, rfl, rfl, ?_⟩
    walk_at "trun"
    rw [decide_eq_true rfl]
    exact φ
  | str x =>
    walk_at "trun"
    rw [decide_eq_true rfl]
    exact φ
  | tup ts =>
    walk_at "trun"
    refine z_iteD (fun _ => ?_) (fun y => absurd rfl y)
    walk_at "trun"
    refine z_iteD (fun _ => ?_) (fun y => absurd rfl y)
    walk_at "trun"
    refine z_iteD (fun _ => ?_) (fun y => absurd rfl y)
    walk_at "trun"
    refine e_lcP rfl (i_zip rfl ?_)
    walk_at "trun"
    refine ⟨_, ts, _, ts, rfl, rfl, [], .nil, zip_le hd.1, fun i o => o = some (.bl true), ?_, ?_⟩
    · rintro i t0 ht
      obtain ⟨x, y, ex, ey, rfl⟩ := zip2T_at ts ts i t0 ht
      rw [ex] at ey
      cases ey
      refine ⟨x, x, rfl, ?_⟩
      walk_at "trun"
      intro _ _
      refine ⟨x, rfl, hd.2 x (List.mem_of_getElem? ex), ?_⟩
      walk_at "trun"
      rfl
    · intro os hl ho
      rw [all_yes ho]
      walk_at "trun"
      refine ru_all rfl Rk.fz ?_
      rw [show ((List.replicate os.length true).all fun b => b) = true by rw [List.all_eq_true]; intro x hx; exact (List.eq_of_mem_replicate hx)]
      walk_at "trun"
      exact φ
  | lst ts =>
    walk_at "trun"
    refine z_iteD (fun _ => ?_) (fun y => absurd rfl y)
    walk_at "trun"
    refine z_iteD (fun _ => ?_) (fun y => absurd rfl y)
    walk_at "trun"
    refine z_iteD (fun _ => ?_) (fun y => absurd rfl y)
    walk_at "trun"
    refine e_lcP rfl (i_zip rfl ?_)
    walk_at "trun"
    refine ⟨_, ts, _, ts, rfl, rfl, [], .nil, zip_le hd.1, fun i o => o = some (.bl true), ?_, ?_⟩
    · rintro i t0 ht
      obtain ⟨x, y, ex, ey, rfl⟩ := zip2T_at ts ts i t0 ht
      rw [ex] at ey
      cases ey
      refine ⟨x, x, rfl, ?_⟩
      walk_at "trun"
      intro _ _
      refine ⟨x, rfl, hd.2 x (List.mem_of_getElem? ex), ?_⟩
      walk_at "trun"
      rfl
    · intro os hl ho
      rw [all_yes ho]
      walk_at "trun"
      refine ru_all rfl Rk.fz ?_
      rw [show ((List.replicate os.length true).all fun b => b) = true by rw [List.all_eq_true]; intro x hx; exact (List.eq_of_mem_replicate hx)]
      walk_at "trun"
      exact φ
  | _ => exact hd.elim
noncomputable def SmN : Nat → Tr → Prop
  | 0 => fun _ => False
  | n + 1 => SmT (SmN n)
noncomputable def st_same : SpT := st_sameD (SmN 8)
theorem okm_l_same (T : Txt K mg t) : ∀ n : Nat, FnOk P w K mg base CX0 (n + 1) t.f_l_same t.d_l_same ["_law_found", "_law_due_here"] (toSp K (st_sameD (SmN n)))
  | 0 => by
    have no : ∀ vs H Q E, ¬ toSp K (st_sameD (SmN 0)) vs H Q E := fun vs H Q E h => by
      obtain ⟨B, as, Φ, Ψ, rfl, rfl, bk, la, ⟨t, rfl, hd, φ⟩, q, _⟩ := h
      exact hd
    exact ⟨fun vs H Q E h => (no _ _ _ _ h).elim, fun A outer s H args us vs Q E _ _ _ _ h => (no _ _ _ _ h).elim⟩
  | n + 1 => okn_l_same T (okm_l_same T n)
theorem okT_l_same (T : Txt K mg t) : FnOk P w K mg base CX0 9 t.f_l_same t.d_l_same ["_law_found", "_law_due_here"] (toSp K st_same) := by
  exact okm_l_same T 8
theorem ge_below {p e f E : Int} (h1 : Ge p e f E) (h2 : ¬ Ge p e f (E + 1)) : Below p e f E := by
  unfold Ge at *
  constructor
  · intro z
    have b1 : (-E).toNat = 0 := by omega
    have b2 : (-(E + 1)).toNat = 0 := by omega
    have b3 : (E + 1).toNat = E.toNat + 1 := by omega
    rw [b1, Int.pow_zero, Int.mul_one] at h1
    rw [b2, b3, Int.pow_zero, Int.mul_one] at h2
    exact ⟨h1, by omega⟩
  · intro z
    have b1 : E.toNat = 0 := by omega
    have b2 : (E + 1).toNat = 0 := by omega
    have b3 : (-(E + 1)).toNat = (-E - 1).toNat := by omega
    rw [b1, Int.pow_zero, Int.mul_one] at h1
    rw [b2, b3, Int.pow_zero, Int.mul_one] at h2
    exact ⟨h1, by omega⟩
theorem ge_find {p e f : Int} : ∀ (n : Nat) (k : Int), Ge p e f k → ¬ Ge p e f (k + n) → ∃ E, Ge p e f E ∧ ¬ Ge p e f (E + 1)
  | 0, k, h, g => absurd (by simpa using h) g
  | n + 1, k, h, g => by
    by_cases z : Ge p e f (k + 1)
    · exact ge_find n (k + 1) z (by rw [show k + 1 + (n : Int) = k + ((n + 1 : Nat) : Int) by omega]; exact g)
    · exact ⟨k, h, z⟩
theorem bd_lt_pow {p x : Int} {n : Nat} (p2 : 2 ≤ p) (h : My.Bd n x) : x < p ^ n := by
  have h1 : (x.natAbs : Int) < (2 : Int) ^ n := by
    have := h
    unfold My.Bd at this
    exact_mod_cast this
  have h2 : (2 : Int) ^ n ≤ p ^ n := by
    have : ∀ m : Nat, (2 : Int) ^ m ≤ p ^ m := fun m => by
      induction m with
      | zero => rw [Int.pow_zero, Int.pow_zero]; exact Int.le_refl _
      | succ m ih =>
        rw [Int.pow_succ, Int.pow_succ]
        exact Int.mul_le_mul ih p2 (by decide) (Int.le_of_lt (Int.pow_pos (by omega)))
    exact this n
  omega
theorem below_ex {p e f : Int} (p2 : 2 ≤ p) (h : NumOk e f) (he : 0 < e) : ∃ E, Below p e f E := by
  have a1 : Ge p e f (-260) := by
    unfold Ge
    have := bd_lt_pow p2 h.bb
    show f * p ^ 0 ≤ e * p ^ 260
    rw [Int.pow_zero, Int.mul_one]
    have h2 : 1 * p ^ 260 ≤ e * p ^ 260 := Int.mul_le_mul_of_nonneg_right (by omega) (Int.le_of_lt (Int.pow_pos (by omega)))
    generalize p ^ 260 = X at *
    omega
  have a2 : ¬ Ge p e f (-260 + ((520 : Nat) : Int)) := by
    unfold Ge
    have := bd_lt_pow p2 h.ba
    show ¬ f * p ^ 260 ≤ e * p ^ 0
    rw [Int.pow_zero, Int.mul_one]
    have h2 : 1 * p ^ 260 ≤ f * p ^ 260 := Int.mul_le_mul_of_nonneg_right (by have := h.pos; omega) (Int.le_of_lt (Int.pow_pos (by omega)))
    generalize p ^ 260 = X at *
    omega
  obtain ⟨E, g1, g2⟩ := ge_find 520 (-260) a1 a2
  exact ⟨E, ge_below g1 g2⟩
theorem pls_ex {s : Sc} {c : Ce} (hs : ScOk s) (hc : Fit s c) : ∃ r, Pls s c r := by
  cases c with
  | no => cases s <;> exact ⟨_, rfl⟩
  | num e f =>
    cases s with
    | str a b c d len => exact ⟨_, rfl⟩
    | brk ps len => exact ⟨_, rfl⟩
    | tur p low many len =>
      rcases (show e ≤ 0 ∨ 0 < e by omega) with z | z
      · exact ⟨_, fun _ => rfl, fun y => by omega⟩
      · obtain ⟨E, hE⟩ := below_ex hs.1 hc z
        exact ⟨_, fun y => by omega, fun _ => ⟨E, hE, rfl⟩⟩
    | day f l len => exact hc.elim
    | ord ws len => exact hc.elim
  | day c =>
    cases s with
    | day f l len => exact ⟨_, rfl⟩
    | _ => exact hc.elim
  | wd z =>
    cases s with
    | ord ws len => exact ⟨_, rfl⟩
    | _ => exact hc.elim
theorem pvl_has {s : Sc} {c : Ce} (hs : ScOk s) (hc : Fit s c) : Pls s c (pvl s c) := by
  obtain ⟨r, h⟩ := pls_ex hs hc
  exact pvl_ok h
theorem a_lplace {B : Bk} {s : Sc} {c : Ce} {Φ : Kd → Prop} {Ψ : Addr → Prop} (hs : ScOk s) (hc : Fit s c) (q : ∀ lp, LpIs lp (pvl s c) → Φ (.fz lp.tr)) : st_lplace B [.fz s.tr, .fz c.tr] Φ Ψ :=
  ⟨s, c, rfl, hs, hc, fun lp h => q lp (h _ (pvl_has hs hc))⟩
noncomputable def markOf (f : Fd) (side : Str) (i : Itm) : Option Tr := match pvl f.sx i.x with
  | .at a => match pvl f.sy i.y with
    | .at b => some (.tup [.tup [.str "dot", .str side, .int (f.x0 + rnd a), .int (f.y0 + f.h - rnd b), .int i.siz, .int i.col], .lst [.int i.own]])
    | .tx _ => none
  | .tx _ => none
noncomputable def lostOf (f : Fd) (i : Itm) : Option Tr := match pvl f.sx i.x with
  | .at _ => match pvl f.sy i.y with
    | .at _ => none
    | .tx z => some (.tup [.int i.own, .str "y", .str z])
  | .tx z => some (.tup [.int i.own, .str "x", .str z])
noncomputable def st_due : SpT := fun _ as Φ _ => ∃ (f : Fd) (side : Str) (is : List Itm), as = [.fz f.tr, .fz (.str side), .fz (.lst (is.map Itm.tr))] ∧ is.length ≤ 100 ∧ FdOk f ∧ (∀ i ∈ is, ItOkF f i) ∧ Φ (.fz (.tup [.lst (is.filterMap (markOf f side)), .lst (is.filterMap (lostOf f))]))
theorem lp_tx {z : Str} {r : Pl} (h : LpIs (.tx z) r) : r = .tx z := by
  cases r with
  | tx u => exact congrArg Pl.tx (show z = u from h).symm
  | «at» q => exact h.elim
theorem lp_at {x y : Int} {r : Pl} (h : LpIs (.at x y) r) : ∃ q, r = .at q ∧ 0 < y ∧ My.Bd 3900 y ∧ My.qv x y = q := by
  cases r with
  | tx u => exact h.elim
  | «at» q => exact ⟨q, rfl, h⟩
theorem okT_l_due (T : Txt K mg t) : FnOk P w K mg base CX0 4 t.f_l_due t.d_l_due ["_law_field_here", "_law_side", "_law_items_here"] (toSp K st_due) := by
  have G_l_place := okT_l_place (P := P) (w := w) (base := base) T
  have G_l_rounded := okT_l_rounded (P := P) (w := w) (base := base) T
  refine T.F_l_due.ok sc_l_due (toSp_len (fun B as Φ Ψ h => by obtain ⟨_, _, _, rfl, _⟩ := h; rfl)) (fun cdv A outer s H vs Q E hr h => ?_)
  obtain ⟨B, as, Φ, Ψ, rfl, hS, hx, go⟩ := toSp_open h
  obtain ⟨f, side, is, rfl, hl, hf, hi, φ⟩ := hS
  unfold Fd.tr at *
  refine ⟨_, (psc (ps_set (i := 3) sc_l_due.nd rfl (Or.inl rfl) (pe_lst pnl))
  (psc (ps_set (i := 4) sc_l_due.nd rfl (Or.inl rfl) (pe_lst pnl))
  (psc (ps_for PassesOwn.never rfl (pi_list (pv 2)) (pg_tup rfl (pgs_cons (pg_name (i := 5) sc_l_due.nd rfl (Or.inl rfl)) (pgs_cons (pg_name (i := 6) sc_l_due.nd rfl (Or.inl rfl)) (pgs_cons (pg_name (i := 7) sc_l_due.nd rfl (Or.inl rfl)) (pgs_cons (pg_name (i := 8) sc_l_due.nd rfl (Or.inl rfl)) (pgs_cons (pg_name (i := 9) sc_l_due.nd rfl (Or.inl rfl)) (pgs_cons (pg_name (i := 10) sc_l_due.nd rfl (Or.inl rfl)) (pgs_cons (pg_name (i := 11) sc_l_due.nd rfl (Or.inl rfl)) pgs_nil)))))))) (psc (ps_set (i := 12) sc_l_due.nd rfl (Or.inl rfl) (pe_call G_l_place (hr.mono (by decide)) rfl T.m_l_place T.k_l_place T.b_l_place .nil pass0 (pcn (pe_ix ixt (pv 0) pei (fun _ _ => rfl)) (pcn (pv 6) pnl))))
  (psc (ps_set (i := 13) sc_l_due.nd rfl (Or.inl rfl) (pe_call G_l_place (hr.mono (by decide)) rfl T.m_l_place T.k_l_place T.b_l_place .nil pass0 (pcn (pe_ix ixt (pv 0) pei (fun _ _ => rfl)) (pcn (pv 7) pnl))))
  (pso (ps_if (pt_val (pe_isi isi_str rfl rfl T.z_isinstance T.z_str bt_str (pv 12))) (pso (ps_expr (pe_bm PySem.F.plainAttrs_list PySem.F.slot_list_append PySem.F.type_list_append mt_append (pv 4) (pcn (pe_tup (pcn (pv 5) (pcn pe_str (pcn (pv 12) pnl)))) pnl)))) (pso (ps_if (pt_val (pe_isi isi_str rfl rfl T.z_isinstance T.z_str bt_str (pv 13))) (pso (ps_expr (pe_bm PySem.F.plainAttrs_list PySem.F.slot_list_append PySem.F.type_list_append mt_append (pv 4) (pcn (pe_tup (pcn (pv 5) (pcn pe_str (pcn (pv 13) pnl)))) pnl)))) (psc (ps_set (i := 14) sc_l_due.nd rfl (Or.inl rfl) (pe_tup (pcn (pe_op op_add (pe_ix ixt (pv 0) pei (fun _ _ => rfl)) (pe_call G_l_rounded (hr.mono (by decide)) rfl T.m_l_rounded T.k_l_rounded T.b_l_rounded .nil pass0 (pcn (pv 12) pnl))) (pcn (pe_op op_sub (pe_op op_add (pe_ix ixt (pv 0) pei (fun _ _ => rfl)) (pe_ix ixt (pv 0) pei (fun _ _ => rfl))) (pe_call G_l_rounded (hr.mono (by decide)) rfl T.m_l_rounded T.k_l_rounded T.b_l_rounded .nil pass0 (pcn (pv 13) pnl))) pnl))))
  (pso (ps_expr (pe_bm PySem.F.plainAttrs_list PySem.F.slot_list_append PySem.F.type_list_append mt_append (pv 3) (pcn (pe_tup (pcn (pe_tup (pcn pe_str (pcn (pv 1) (pcn (pe_ix ixt (pv 14) pei (fun _ _ => rfl)) (pcn (pe_ix ixt (pv 14) pei (fun _ _ => rfl)) (pcn (pv 11) (pcn (pv 10) pnl))))))) (pcn (pe_lst (pcn (pv 5) pnl)) pnl))) pnl))))))))))))
  (pso (ps_ret (pe_tup (pcn (pv 3) (pcn (pv 4) pnl)))))))), go _ _ (s_go (τ := [.fz _, .fz _, .fz _, .no, .no, .no, .no, .no, .no, .no, .no, .no, .no, .no, .no]) rfl ?_)⟩
  walk_at "trun"
  refine ⟨fun j τ => ∃ u1 u2 u3 u4 u5 u6 u7 u8 u9 u10 : Sl, τ = [.fz (.tup [f.sx.tr, f.sy.tr, .int f.x0, .int f.y0, .int f.w, .int f.h]), .fz (.str side), .fz (.lst (is.map Itm.tr)), .own (.lst ((is.take j).filterMap (markOf f side))), .own (.lst ((is.take j).filterMap (lostOf f))), u1, u2, u3, u4, u5, u6, u7, u8, u9, u10], ⟨_, _, _, _, _, _, _, _, _, _, rfl⟩, ?_, ?_⟩
  · rintro j tt τ hj ⟨u1, u2, u3, u4, u5, u6, u7, u8, u9, u10, rfl⟩
    obtain ⟨it, ei, rfl⟩ : ∃ it, is[j]? = some it ∧ tt = it.tr := by
      rw [List.getElem?_map] at hj
      cases e : is[j]? with
      | none => rw [e] at hj; cases hj
      | some c => rw [e] at hj; cases hj; exact ⟨c, rfl, rfl⟩
    have hit := hi it (List.mem_of_getElem? ei)
    have tk : is.take (j + 1) = is.take j ++ [it] := by rw [List.take_succ, ei]; rfl
    have e1 : ∀ g : Itm → Option Tr, (is.take (j + 1)).filterMap g = (is.take j).filterMap g ++ [it].filterMap g := fun g => by rw [tk, List.filterMap_append]
    have wl : ∀ g : Itm → Option Tr, ((is.take j).filterMap g).length ≤ 10000 := fun g => Nat.le_trans (List.length_filterMap_le _ _) (by rw [List.length_take]; omega)
    have wl1 := wl (markOf f side)
    have wl2 := wl (lostOf f)
    unfold Itm.tr at *
    walk_at "trun"
    intro _ _
    refine a_lplace hf.x hit.x fun lp1 h1 => ?_
    walk_at "trun"
    intro _ _
    refine a_lplace hf.y hit.y fun lp2 h2 => ?_
    cases lp1 with
    | tx z =>
      have ez := lp_tx h1
      have m1 : markOf f side it = none := by unfold markOf; rw [ez]
      have m2 : lostOf f it = some (.tup [.int it.own, .str "x", .str z]) := by unfold lostOf; rw [ez]
      dsimp only [Lp.tr]
      walk_at "trun"
      simp only [e1, List.filterMap_cons, m1, m2, List.filterMap_nil, List.append_nil]
      exact ⟨_, _, _, _, _, _, _, _, _, _, rfl⟩
    | «at» x1 y1 =>
      obtain ⟨q1, ez1, y10, b1, g1⟩ := lp_at h1
      cases lp2 with
      | tx z =>
        have ez := lp_tx h2
        have m1 : markOf f side it = none := by unfold markOf; rw [ez1, ez]
        have m2 : lostOf f it = some (.tup [.int it.own, .str "y", .str z]) := by unfold lostOf; rw [ez1, ez]
        dsimp only [Lp.tr]
        walk_at "trun"
        simp only [e1, List.filterMap_cons, m1, m2, List.filterMap_nil, List.append_nil]
        exact ⟨_, _, _, _, _, _, _, _, _, _, rfl⟩
      | «at» x2 y2 =>
        obtain ⟨q2, ez2, y20, b2, g2⟩ := lp_at h2
        have m1 : markOf f side it = some (.tup [.tup [.str "dot", .str side, .int (f.x0 + (2 * x1 + y1) / (2 * y1)), .int (f.y0 + f.h - (2 * x2 + y2) / (2 * y2)), .int it.siz, .int it.col], .lst [.int it.own]]) := by unfold markOf; rw [ez1, ez2, rnd_of y10 g1, rnd_of y20 g2]
        have m2 : lostOf f it = none := by unfold lostOf; rw [ez1, ez2]
        dsimp only [Lp.tr]
        walk_at "trun"
        intro _ _
        refine ⟨x1, y1, rfl, y10, b1, ?_⟩
        walk_at "trun"
        intro _ _
        refine ⟨x2, y2, rfl, y20, b2, ?_⟩
        walk_at "trun"
        simp only [e1, List.filterMap_cons, m1, m2, List.filterMap_nil, List.append_nil]
        exact ⟨_, _, _, _, _, _, _, _, _, _, rfl⟩
  · rintro τ ⟨u1, u2, u3, u4, u5, u6, u7, u8, u9, u10, rfl⟩
    rw [List.length_map, List.take_length]
    walk_at "trun"
    exact φ
noncomputable def st_parted : SpR := fun _ as Φ => ∃ (f : Fd) (is : List Itm) (chs : List Str), as = [.fz f.tr, .fz (.lst (is.map Itm.tr)), .fz (.tup (chs.map Tr.str))] ∧ is.length ≤ 100 ∧ FdOk f ∧ (∀ i ∈ is, ItOkF f i) ∧ (∀ ch ∈ chs, ch = "x" ∨ ch = "y") ∧ Φ ((is.filter fun i => (lossV f i chs).isNone).map Itm.tr) (is.filterMap fun i => lossV f i chs)
theorem d_go {B : Bk} {D : Ends} {t : TS} {τ : TSt} {n : Nat} {ts : List Ar} (h : startT n ts = τ) (q : SVD B D t τ) : SVD B D t (startT n ts) := by rw [h]; exact q
theorem loss_tup {f : Fd} {i : Itm} : ∀ {chs : List Str} {t : Tr}, lossV f i chs = some t → ∃ a b c, t = .tup [a, b, c]
  | [], _, h => by cases h
  | ch :: r, t, h => by
    unfold lossV at h
    split at h
    · cases h; exact ⟨_, _, _, rfl⟩
    · exact loss_tup h
theorem okT_parted (T : Txt K mg t) : FnOk P w K mg base CX0 9 t.f_parted t.d_parted ["field", "items", "channels"] (toSpR K st_parted) := by
  have G_loss_of := okT_loss_of (P := P) (w := w) (base := base) T
  refine T.F_parted.ok sc_parted (toSpR_len (fun B as Φ h => by obtain ⟨_, _, _, rfl, _⟩ := h; rfl)) (fun cdv A outer s H vs Q E hr h => ?_)
  obtain ⟨B, as, Φ, rfl, hS, go⟩ := toSpR_open h
  obtain ⟨f, is, chs, rfl, hl, hf, hi, hch, φ⟩ := hS
  refine ⟨_, (psc (ps_set (i := 3) sc_parted.nd rfl (Or.inl rfl) (pe_lst pnl))
  (psc (ps_set (i := 4) sc_parted.nd rfl (Or.inl rfl) (pe_lst pnl))
  (psc (ps_for PassesOwn.never rfl (pi_list (pv 1)) (pg_name (i := 5) sc_parted.nd rfl (Or.inl rfl)) (psc (ps_set (i := 6) sc_parted.nd rfl (Or.inl rfl) (pe_call G_loss_of (hr.mono (by decide)) rfl T.m_loss_of T.k_loss_of T.b_loss_of .nil pass0 (pcn (pv 0) (pcn (pv 5) (pcn (pv 2) pnl)))))
  (pso (ps_if (pt_cmpR op_isN' (pv 6) pe_non (nomark _)) (pso (ps_expr (pe_bm PySem.F.plainAttrs_list PySem.F.slot_list_append PySem.F.type_list_append mt_append (pv 3) (pcn (pv 5) pnl)))) (pso (ps_expr (pe_bm PySem.F.plainAttrs_list PySem.F.slot_list_append PySem.F.type_list_append mt_append (pv 4) (pcn (pv 6) pnl))))))))
  (pso (ps_ret (pe_tup (pcn (pv 3) (pcn (pv 4) pnl)))))))), go _ _ fun D hD => ?_⟩
  refine d_go (τ := [.fz _, .fz _, .fz _, .no, .no, .no, .no]) rfl (d_seq ?_)
  walk_at "trun"
  refine d_seq ?_
  walk_at "trun"
  refine d_seq ?_
  walk_at "trun"
  refine ⟨fun j τ => ∃ u1 u2 : Sl, τ = [.fz f.tr, .fz (.lst (is.map Itm.tr)), .fz (.tup (chs.map Tr.str)), .own (.lst (((is.take j).filter fun i => (lossV f i chs).isNone).map Itm.tr)), .own (.lst ((is.take j).filterMap fun i => lossV f i chs)), u1, u2], ⟨_, _, rfl⟩, ?_, ?_⟩
  · rintro j tt τ hj ⟨u1, u2, rfl⟩
    obtain ⟨it, ei, rfl⟩ : ∃ it, is[j]? = some it ∧ tt = it.tr := by
      rw [List.getElem?_map] at hj
      cases e : is[j]? with
      | none => rw [e] at hj; cases hj
      | some c => rw [e] at hj; cases hj; exact ⟨c, rfl, rfl⟩
    have hit := hi it (List.mem_of_getElem? ei)
    have tk : is.take (j + 1) = is.take j ++ [it] := by rw [List.take_succ, ei]; rfl
    have wl1 : (((is.take j).filter fun i => (lossV f i chs).isNone).map Itm.tr).length ≤ 10000 := by
      rw [List.length_map]
      exact Nat.le_trans (List.length_filter_le _ _) (by rw [List.length_take]; omega)
    have wl2 : ((is.take j).filterMap fun i => lossV f i chs).length ≤ 10000 := Nat.le_trans (List.length_filterMap_le _ _) (by rw [List.length_take]; omega)
    walk_at "trun"
    intro _ _
    refine ⟨f, it, chs, rfl, hf, hit, hch, ?_⟩
    cases e : lossV f it chs with
    | none =>
      dsimp only [optT]
      walk_at "trun"
      simp only [tk, List.filter_append, List.map_append, List.filterMap_append, List.filter_cons, List.filter_nil, List.filterMap_cons, List.filterMap_nil, e, Option.isNone_none, if_true, List.map_cons, List.map_nil, List.append_nil]
      exact ⟨_, _, rfl⟩
    | some t0 =>
      obtain ⟨a, b, c, rfl⟩ := loss_tup e
      dsimp only [optT]
      walk_at "trun"
      simp only [tk, List.filter_append, List.map_append, List.filterMap_append, List.filter_cons, List.filter_nil, List.filterMap_cons, List.filterMap_nil, e, Option.isNone_some, Bool.false_eq_true, if_false, List.map_nil, List.append_nil]
      exact ⟨_, _, rfl⟩
  · rintro τ ⟨u1, u2, rfl⟩
    rw [List.length_map, List.take_length]
    exact d_ret2 hD (by walk_at "tg") (by walk_at "tg") (by decide) φ
theorem stand_at {f : Fd} {i : Itm} (h : (lossV f i ["x", "y"]).isNone = true) : ∃ q1 q2, pvl f.sx i.x = .at q1 ∧ pvl f.sy i.y = .at q2 := by
  have c1 : chV f i "x" = pvl f.sx i.x := by unfold chV; rw [if_pos rfl]
  have c2 : chV f i "y" = pvl f.sy i.y := by unfold chV; rw [if_neg (by decide)]
  simp only [lossV, c1, c2] at h
  cases e1 : pvl f.sx i.x with
  | tx z => rw [e1] at h; cases h
  | «at» q1 =>
    rw [e1] at h
    cases e2 : pvl f.sy i.y with
    | tx z => rw [e2] at h; cases h
    | «at» q2 => exact ⟨q1, q2, rfl, rfl⟩
theorem lost_eq {f : Fd} {i : Itm} : lossV f i ["x", "y"] = lostOf f i := by
  have c1 : chV f i "x" = pvl f.sx i.x := by unfold chV; rw [if_pos rfl]
  have c2 : chV f i "y" = pvl f.sy i.y := by unfold chV; rw [if_neg (by decide)]
  unfold lostOf
  simp only [lossV, c1, c2]
  cases pvl f.sx i.x with
  | tx z => rfl
  | «at» q1 => cases pvl f.sy i.y <;> rfl
theorem lost_all {f : Fd} {is : List Itm} : (is.filterMap fun i => lossV f i ["x", "y"]) = is.filterMap (lostOf f) := by
  congr 1
  funext i
  exact lost_eq
theorem mark_no {f : Fd} {side : Str} {i : Itm} (h : ¬ (lossV f i ["x", "y"]).isNone = true) : markOf f side i = none := by
  rw [lost_eq] at h
  unfold lostOf at h
  unfold markOf
  cases e1 : pvl f.sx i.x with
  | tx z => rfl
  | «at» q1 =>
    rw [e1] at h
    cases e2 : pvl f.sy i.y with
    | tx z => rfl
    | «at» q2 => rw [e2] at h; exact absurd rfl h
theorem marks_all {f : Fd} {side : Str} : ∀ {is : List Itm}, (is.filter fun i => (lossV f i ["x", "y"]).isNone).filterMap (markOf f side) = is.filterMap (markOf f side)
  | [] => rfl
  | i :: r => by
    have ih := marks_all (f := f) (side := side) (is := r)
    by_cases h : (lossV f i ["x", "y"]).isNone = true
    · rw [List.filter_cons, if_pos h, List.filterMap_cons, List.filterMap_cons, ih]
    · rw [List.filter_cons, if_neg h, List.filterMap_cons, mark_no h, ih]
noncomputable def st_dots : SpR := fun _ as Φ => ∃ (f : Fd) (side : Str) (is : List Itm), as = [.fz f.tr, .fz (.str side), .fz (.lst (is.map Itm.tr))] ∧ is.length ≤ 100 ∧ FdOk f ∧ (∀ i ∈ is, ItOkF f i) ∧ Φ (is.filterMap (markOf f side)) (is.filterMap (lostOf f))
theorem okT_dots (T : Txt K mg t) : FnOk P w K mg base CX0 10 t.f_dots t.d_dots ["field", "side", "items"] (toSpR K st_dots) := by
  have G_parted := okT_parted (P := P) (w := w) (base := base) T
  have G_x_of := okT_x_of (P := P) (w := w) (base := base) T
  have G_y_of := okT_y_of (P := P) (w := w) (base := base) T
  refine T.F_dots.ok sc_dots (toSpR_len (fun B as Φ h => by obtain ⟨_, _, _, rfl, _⟩ := h; rfl)) (fun cdv A outer s H vs Q E hr h => ?_)
  obtain ⟨B, as, Φ, rfl, hS, go⟩ := toSpR_open h
  obtain ⟨f, side, is, rfl, hl, hf, hi, φ⟩ := hS
  refine ⟨_, (psc (ps_set (i := 3) sc_dots.nd rfl (Or.inl rfl) (pe_call G_parted (hr.mono (by decide)) rfl T.m_parted T.k_parted T.b_parted .nil pass0 (pcn (pv 0) (pcn (pv 2) (pcn (pe_tup (pcn pe_str (pcn pe_str pnl))) pnl)))))
  (psc (ps_set (i := 4) sc_dots.nd rfl (Or.inl rfl) (pe_lst pnl))
  (psc (ps_for PassesOwn.never rfl (pi_list (pe_ix ixt (pv 3) pei (fun _ _ => rfl))) (pg_name (i := 5) sc_dots.nd rfl (Or.inl rfl)) (psc (ps_set (i := 6) sc_dots.nd rfl (Or.inl rfl) (pe_tup (pcn pe_str (pcn (pv 1) (pcn (pe_call G_x_of (hr.mono (by decide)) rfl T.m_x_of T.k_x_of T.b_x_of .nil pass0 (pcn (pv 0) (pcn (pv 5) pnl))) (pcn (pe_call G_y_of (hr.mono (by decide)) rfl T.m_y_of T.k_y_of T.b_y_of .nil pass0 (pcn (pv 0) (pcn (pv 5) pnl))) (pcn (pe_ix ixt (pv 5) pei (fun _ _ => rfl)) (pcn (pe_ix ixt (pv 5) pei (fun _ _ => rfl)) pnl))))))))
  (pso (ps_expr (pe_bm PySem.F.plainAttrs_list PySem.F.slot_list_append PySem.F.type_list_append mt_append (pv 4) (pcn (pe_tup (pcn (pv 6) (pcn (pe_lst (pcn (pe_ix ixt (pv 5) pei (fun _ _ => rfl)) pnl)) pnl))) pnl))))))
  (pso (ps_ret (pe_tup (pcn (pv 4) (pcn (pe_ix ixt (pv 3) pei (fun _ _ => rfl)) pnl)))))))), go _ _ fun D hD => ?_⟩
  refine d_go (τ := [.fz _, .fz _, .fz _, .no, .no, .no, .no]) rfl (d_rowF rfl ?_)
  walk_at "trun"
  refine ⟨cl_b rfl, fun F1 H1 => ⟨f, is, ["x", "y"], rfl, hl, hf, hi, by decide, fun F2 H2 p a b ws rc => ?_⟩⟩
  refine d_seq ?_
  walk_at "trun"
  refine d_seq ?_
  refine s_for (i_list rfl (e_ixW0 rfl rc (by walk_at "tg") ?_))
  walk_at "trun"
  refine ⟨fun j τ => ∃ u1 u2 : Sl, τ = [.fz f.tr, .fz (.str side), .fz (.lst (is.map Itm.tr)), .wd, .own (.lst (((is.filter fun i => (lossV f i ["x", "y"]).isNone).take j).filterMap (markOf f side))), u1, u2], ⟨_, _, rfl⟩, ?_, ?_⟩
  · rintro j tt τ hj ⟨u1, u2, rfl⟩
    obtain ⟨it, ei, rfl⟩ : ∃ it, (is.filter fun i => (lossV f i ["x", "y"]).isNone)[j]? = some it ∧ tt = it.tr := by
      rw [List.getElem?_map] at hj
      cases e : (is.filter fun i => (lossV f i ["x", "y"]).isNone)[j]? with
      | none => rw [e] at hj; cases hj
      | some c => rw [e] at hj; cases hj; exact ⟨c, rfl, rfl⟩
    have mi := List.mem_filter.mp (List.mem_of_getElem? ei)
    have hit := hi it mi.1
    obtain ⟨q1, q2, e1, e2⟩ := stand_at (show (lossV f it ["x", "y"]).isNone = true from mi.2)
    have tk : (is.filter fun i => (lossV f i ["x", "y"]).isNone).take (j + 1) = (is.filter fun i => (lossV f i ["x", "y"]).isNone).take j ++ [it] := by rw [List.take_succ, ei]; rfl
    have wl1 : (((is.filter fun i => (lossV f i ["x", "y"]).isNone).take j).filterMap (markOf f side)).length ≤ 10000 := Nat.le_trans (List.length_filterMap_le _ _) (by
      rw [List.length_take]
      have := List.length_filter_le (fun i => (lossV f i ["x", "y"]).isNone) is
      omega)
    have m1 : markOf f side it = some (.tup [.tup [.str "dot", .str side, .int (f.x0 + rnd q1), .int (f.y0 + f.h - rnd q2), .int it.siz, .int it.col], .lst [.int it.own]]) := by unfold markOf; rw [e1, e2]
    walk_at "trun"
    intro _ _
    refine ⟨f, it, q1, rfl, hf, hit, e1, ?_⟩
    walk_at "trun"
    intro _ _
    refine ⟨f, it, q2, rfl, hf, hit, e2, ?_⟩
    unfold Itm.tr at *
    walk_at "trun"
    simp only [tk, List.filterMap_append, List.filterMap_cons, List.filterMap_nil, m1]
    exact ⟨_, _, rfl⟩
  · rintro τ ⟨u1, u2, rfl⟩
    rw [List.length_map, List.take_length]
    refine d_retW rfl rc hD (by walk_at "tg") (by walk_at "tg") ?_
    rw [marks_all, lost_all]
    exact φ
theorem sc_dp (s : Sc) : Dp 5 s.tr := by
  have n2 : ∀ a b n, Dp (n + 1) (N2 a b) := fun a b n => .tup (dp_cons .int (dp_cons .int dp_nil))
  cases s with
  | str a b c d len => exact .tup (dp_cons .str (dp_cons (n2 _ _ _) (dp_cons (n2 _ _ _) (dp_cons .int dp_nil))))
  | tur p low many len => exact .tup (dp_cons .str (dp_cons .int (dp_cons .int (dp_cons .int (dp_cons .int dp_nil)))))
  | brk ps len =>
    refine .tup (dp_cons .str (dp_cons (.lst fun t ht => ?_) (dp_cons .int dp_nil)))
    obtain ⟨x, _, rfl⟩ := List.mem_map.mp ht
    exact .tup (dp_cons (n2 _ _ _) (dp_cons (n2 _ _ _) (dp_cons .int (dp_cons .int dp_nil))))
  | day f l len => exact .tup (dp_cons .str (dp_cons .int (dp_cons .int (dp_cons .int dp_nil))))
  | ord ws len =>
    refine .tup (dp_cons .str (dp_cons (.lst fun t ht => ?_) (dp_cons .int dp_nil)))
    obtain ⟨x, _, rfl⟩ := List.mem_map.mp ht
    exact .str
theorem ce_dp (c : Ce) : Dp 5 c.tr := by
  cases c with
  | no => exact .non
  | num e f => exact .tup (dp_cons .int (dp_cons .int dp_nil))
  | day c => exact .int
  | wd z => exact .str
theorem itm_dp (i : Itm) : Dp 6 i.tr := .tup (dp_cons .int (dp_cons (ce_dp _) (dp_cons (ce_dp _) (dp_cons (ce_dp _) (dp_cons .int (dp_cons .int (dp_cons .int dp_nil)))))))
theorem due_sm {f : Fd} {side : Str} {is : List Itm} (hl : is.length ≤ 100) : SmN 8 (.tup [.lst (is.filterMap (markOf f side)), .lst (is.filterMap (lostOf f))]) := by
  have ln : ∀ g : Itm → Option Tr, (is.filterMap g).length ≤ 1000 := fun g => Nat.le_trans (List.length_filterMap_le _ _) (by omega)
  refine ⟨(by decide : 2 ≤ 1000), List.forall_mem_cons.mpr ⟨⟨ln _, fun t ht => ?_⟩, List.forall_mem_cons.mpr ⟨⟨ln _, fun t ht => ?_⟩, fun _ h => absurd h List.not_mem_nil⟩⟩⟩
  · obtain ⟨i, _, e⟩ := List.mem_filterMap.mp ht
    unfold markOf at e
    split at e
    · split at e
      · cases e
        refine ⟨(by decide : 2 ≤ 1000), List.forall_mem_cons.mpr ⟨⟨(by decide : 6 ≤ 1000), ?_⟩, List.forall_mem_cons.mpr ⟨⟨(by decide : 1 ≤ 1000), ?_⟩, fun _ h => absurd h List.not_mem_nil⟩⟩⟩
        · exact List.forall_mem_cons.mpr ⟨trivial, List.forall_mem_cons.mpr ⟨trivial, List.forall_mem_cons.mpr ⟨trivial, List.forall_mem_cons.mpr ⟨trivial, List.forall_mem_cons.mpr ⟨trivial, List.forall_mem_cons.mpr ⟨trivial, fun _ h => absurd h List.not_mem_nil⟩⟩⟩⟩⟩⟩
        · exact List.forall_mem_cons.mpr ⟨trivial, fun _ h => absurd h List.not_mem_nil⟩
      · cases e
    · cases e
  · obtain ⟨i, _, e⟩ := List.mem_filterMap.mp ht
    unfold lostOf at e
    have ok : ∀ a : Int, ∀ b c : Str, SmN 6 (.tup [.int a, .str b, .str c]) := fun a b c => ⟨(by decide : 3 ≤ 1000), List.forall_mem_cons.mpr ⟨trivial, List.forall_mem_cons.mpr ⟨trivial, List.forall_mem_cons.mpr ⟨trivial, fun _ h => absurd h List.not_mem_nil⟩⟩⟩⟩
    split at e
    · split at e
      · cases e
      · cases e; exact ok _ _ _
    · cases e; exact ok _ _ _
theorem field_sm (c : Int) : SmO (fieldV c).sx ∧ SmO (fieldV c).sy := by
  obtain ⟨h, h1, h2⟩ := field_tops c
  exact ⟨scale_sm h1, scale_sm h2⟩
theorem items_ok {f : Fd} {cs : List Int} (hf : FdOk f) (h1 : SmO f.sx) (h2 : SmO f.sy) (n : Nat) : ∀ i ∈ itemsV f cs n, ItOkF f i := fun i hi => by
  obtain ⟨j, _, rfl⟩ := List.mem_map.mp hi
  exact ⟨cell_fit hf.x h1 (((iDr_tops _).drop 7).take 5), cell_fit hf.y h2 (((iDr_tops _).drop 12).take 5)⟩
theorem cut_one (is : List Itm) : cutT (is.map Itm.tr) (some 1) none = (is.drop 1).map Itm.tr := by
  unfold cutT
  rw [List.length_map]
  have e1 : HT.sIx is.length is.length none = is.length := rfl
  have e2 : HT.sIx is.length 0 (some 1) = min 1 is.length := by
    unfold HT.sIx
    simp
    try omega
  rw [e1, e2, List.map_drop]
  cases is with
  | nil => rfl
  | cons x r =>
    rw [show min 1 (x :: r).length = 1 by simp]
    rw [List.take_of_length_le (by rw [List.length_drop, List.length_map]; omega)]
local macro_rules | `(tactic| walk_at "trun") => `(tactic| repeat (first | (refine e_borrow rfl (by assumption) (by walk_at "tg") (by walk_at "tg") ?_) | ((with_reducible apply e_callR); (focus rfl)) | walk_at "t1" | walk_at "t2" | walk_at "tsp"))
theorem ok_law (T : Txt K mg t) : FnOk P w K mg base CX0 11 t.f_law t.d_law ["_law_script"] (sp_law K) := by
  have G_l_field := okT_l_field (P := P) (w := w) (base := base) T
  have G_l_items := okT_l_items (P := P) (w := w) (base := base) T
  have G_l_due := okT_l_due (P := P) (w := w) (base := base) T
  have G_l_same := okT_l_same (P := P) (w := w) (base := base) T
  have G_dots := okT_dots (P := P) (w := w) (base := base) T
  refine T.F_law.ok sc_law (fun vs H Q E h => ?_) (fun cdv A outer s H vs Q E hr h => ?_)
  · obtain ⟨a, ns, rfl, _⟩ := h
    rfl
  obtain ⟨a, ns, rfl, hS, hn, q⟩ := h
  refine ⟨_, (psc (ps_set (i := 1) sc_law.nd rfl (Or.inl rfl) (pe_ix ixl (pe_op op_catL (pv 0) (pe_lst (pcn pei pnl))) pei (fun _ _ => rfl)))
  (psc (ps_set (i := 2) sc_law.nd rfl (Or.inl rfl) (pe_call G_l_field (hr.mono (by decide)) rfl T.m_l_field T.k_l_field T.b_l_field .nil pass0 (pcn (pv 1) pnl)))
  (psc (ps_set (i := 3) sc_law.nd rfl (Or.inl rfl) (pe_call G_l_items (hr.mono (by decide)) rfl T.m_l_items T.k_l_items T.b_l_items .nil pass0 (pcn (pe_slice sl_list (pv 0) (po_some pei) (po_some pei)) (pcn (pv 2) pnl))))
  (psc (ps_set (i := 4) sc_law.nd rfl (Or.inl rfl) (pe_ix ixl (pe_lst (pcn pe_str (pcn pe_str pnl))) (pe_op op_mod (pe_op op_mod (pv 1) pei) pei) (fun _ _ => rfl)))
  (psc (ps_set (i := 5) sc_law.nd rfl (Or.inl rfl) (pe_call G_l_due (hr.mono (by decide)) rfl T.m_l_due T.k_l_due T.b_l_due .nil pass0 (pcn (pv 2) (pcn (pv 4) (pcn (pv 3) pnl)))))
  (psc (ps_set (i := 6) sc_law.nd rfl (Or.inl rfl) (pe_callTy call_list_of rfl T.z_list bt_list (pcn (pv 3) pnl)))
  (psc (ps_set (i := 7) sc_law.nd rfl (Or.inl rfl) (pe_call G_dots (hr.mono (by decide)) rfl T.m_dots T.k_dots T.b_dots .nil pass0 (pcn (pv 2) (pcn (pv 4) (pcn (pv 6) pnl)))))
  (psc (ps_if (PW.pt (pw_or (pt_not (pt_val (pe_call G_l_same (hr.mono (by decide)) rfl T.m_l_same T.k_l_same T.b_l_same .nil pass0 (pcn (pv 7) (pcn (pv 5) pnl))))) (pw_or (pt_cmpR (op_neA hr.un150) (pv 6) (pv 3) (nomark _)) (pw_or1 (pt_cmpR (op_neA hr.un150) (pv 2) (pe_call G_l_field (hr.mono (by decide)) rfl T.m_l_field T.k_l_field T.b_l_field .nil pass0 (pcn (pv 1) pnl)) (nomark _)))))) (pso (ps_ret pe_bl)) pss_nil)
  (psc (ps_set (i := 8) sc_law.nd rfl (Or.inl rfl) (pe_call G_dots (hr.mono (by decide)) rfl T.m_dots T.k_dots T.b_dots .nil pass0 (pcn (pv 2) (pcn pe_str (pcn (pe_slice sl_list (pv 3) (po_some pei) po_none) pnl)))))
  (psc (ps_expr (pe_bm PySem.F.plainAttrs_list PySem.F.slot_list_append PySem.F.type_list_append mt_append (pe_ix ixt (pv 7) pei (fun _ _ => rfl)) (pcn pe_non pnl)))
  (psc (ps_expr (pe_bm0 PySem.F.plainAttrs_list PySem.F.slot_list_clear PySem.F.type_list_clear mt_clear (pe_ix ixt (pv 7) pei (fun _ _ => rfl))))
  (psc (ps_if (pt_not (pt_val (pe_call G_l_same (hr.mono (by decide)) rfl T.m_l_same T.k_l_same T.b_l_same .nil pass0 (pcn (pv 8) (pcn (pe_call G_l_due (hr.mono (by decide)) rfl T.m_l_due T.k_l_due T.b_l_due .nil pass0 (pcn (pv 2) (pcn pe_str (pcn (pe_slice sl_list (pv 3) (po_some pei) po_none) pnl)))) pnl))))) (pso (ps_ret pe_bl)) pss_nil)
  (pso (ps_ret (pe_call G_l_same (hr.mono (by decide)) rfl T.m_l_same T.k_l_same T.b_l_same .nil pass0 (pcn (pe_call G_dots (hr.mono (by decide)) rfl T.m_dots T.k_dots T.b_dots .nil pass0 (pcn (pv 2) (pcn (pv 4) (pcn (pv 6) pnl)))) (pcn (pv 5) pnl))))))))))))))))), law_open hS q _ _ fun D hD => ?_⟩
  refine d_go (τ := [.fz _, .no, .no, .no, .no, .no, .no, .no, .no]) rfl (d_seq ?_)
  have e0 : ns.map Tr.int ++ [.int 0] = (ns ++ [0]).map Tr.int := by rw [List.map_append]; rfl
  have l0 : (ns ++ [0]).length = ns.length + 1 := by rw [List.length_append]; rfl
  generalize hc : dg (ns ++ [0]) 0 = c
  have hf := field_ok c
  have hsm := field_sm c
  generalize hF : fieldV c = f at *
  generalize hcs : (ns.drop 1).take 60 = cs
  have lcs : cs.length ≤ 60 := by rw [← hcs, List.length_take]; omega
  have hit := items_ok (cs := cs) hf hsm.1 hsm.2 cs.length
  have lis : (itemsV f cs cs.length).length ≤ 60 := by unfold itemsV; rw [List.length_map, List.length_range]; exact lcs
  walk_at "trun"
  refine ro_catL rfl Rk.fz Rk.fz (by rw [List.length_map]; show ns.length + 1 ≤ _; omega) ?_
  rw [e0]
  walk_at "trun"
  rw [hc]
  refine d_seq ?_
  walk_at "trun"
  intro _ _
  refine ⟨c, rfl, ?_⟩
  rw [hF]
  walk_at "trun"
  refine d_seq ?_
  walk_at "trun"
  intro _ _
  rw [show cutT (ns.map Tr.int) (some 1) (some 61) = ((ns.drop 1).take 60).map Tr.int from cut_map _ 1 61, hcs]
  refine ⟨cs, f, rfl, by omega, hf, hsm.1, hsm.2, ?_⟩
  generalize itemsV f cs cs.length = is at *
  walk_at "trun"
  refine d_seq ?_
  have m0 : 0 ≤ c % 7 % 2 ∧ c % 7 % 2 < 2 := by omega
  walk_at "trun"
  refine ro_ixL rfl Rk.fz (atP2 m0.1 m0.2) ?_
  obtain ⟨side, hside⟩ : ∃ z : Str, pk2 (c % 7 % 2) (Tr.str "left") (.str "right") = .str z := by unfold pk2; split <;> exact ⟨_, rfl⟩
  rw [hside]
  walk_at "trun"
  refine d_seq ?_
  walk_at "trun"
  intro _ _
  refine ⟨f, side, is, rfl, by omega, hf, hit, ?_⟩
  walk_at "trun"
  refine d_seq ?_
  walk_at "trun"
  refine d_row rfl ?_
  walk_at "trun"
  refine ⟨cl_b rfl, fun F1 H1 => ⟨f, side, is, rfl, by omega, hf, hit, fun F2 H2 p a1 b vs ws rb => ?_⟩⟩
  refine d_seq ?_
  walk_at "trun"
  intro B2
  refine ⟨_, rfl, due_sm (by omega), true, rfl, ?_⟩
  walk_at "trun"
  refine ro_alkL rfl (n := 6) (fun t ht => by obtain ⟨i, _, rfl⟩ := List.mem_map.mp ht; exact itm_dp i) (by decide) Rk.fz Rk.fz ?_
  walk_at "trun"
  intro _ _
  refine ⟨c, rfl, ?_⟩
  rw [hF]
  walk_at "trun"
  refine ro_alkT (ts := [f.sx.tr, f.sy.tr, .int f.x0, .int f.y0, .int f.w, .int f.h]) rfl (n := 5) (dp_cons (sc_dp _) (dp_cons (sc_dp _) (dp_cons .int (dp_cons .int (dp_cons .int (dp_cons .int dp_nil)))))) (by decide) Rk.fz Rk.fz ?_
  walk_at "trun"
  refine d_seq ?_
  walk_at "trun"
  intro _ _
  rw [cut_one]
  have hd1 : (is.drop 1).length ≤ 100 := by rw [List.length_drop]; omega
  have hd2 : ∀ i ∈ is.drop 1, ItOkF f i := fun i hi => hit i (List.mem_of_mem_drop hi)
  refine ⟨f, "left", is.drop 1, rfl, hd1, hf, hd2, ?_⟩
  walk_at "trun"
  refine d_change (τ' := [.fz (.lst (ns.map Tr.int)), .fz (.int c), .fz f.tr, .fz (.lst (is.map Itm.tr)), .fz (.str side), .fz (.tup [.lst (is.filterMap (markOf f side)), .lst (is.filterMap (lostOf f))]), .fz (.lst (is.map Itm.tr)), .no, .fz (.tup [.lst ((is.drop 1).filterMap (markOf f "left")), .lst ((is.drop 1).filterMap (lostOf f))])]) rfl rb (by walk_at "tg") (by first | walk_at "ts" | walk_at "tst" | (repeat constructor)) (cl_b rfl) (Nat.le_trans (List.length_filterMap_le _ _) (by omega)) fun F3 H3 => ?_
  refine d_seq ?_
  walk_at "trun"
  intro _ _
  rw [cut_one]
  refine ⟨f, "left", is.drop 1, rfl, hd1, hf, hd2, ?_⟩
  walk_at "trun"
  intro _ _
  refine ⟨_, rfl, due_sm hd1, ?_⟩
  walk_at "trun"
  refine d_true (rt := fun _ => True) hD ?_
  walk_at "trun"
  intro _ _
  refine ⟨f, side, is, rfl, by omega, hf, hit, ?_⟩
  walk_at "trun"
  intro _ _
  refine ⟨_, rfl, due_sm (by omega), ?_⟩
  walk_at "trun"
  rfl
end
theorem all_mk {l : PySem.W.OpenLaw} {w : World} {K : PySem.W.Frag} {h : Heap} {mg : Str → Option Value} {fa f0 f1 f2 f3 f4 f5 f6 f7 f8 f9 f10 f11 f12 f13 f14 f15 f16 f17 f18 f19 f20 f21 f22 f23 f24 f25 f26 f27 f28 f29 f30 f31 f32 f33 f34 f35 f36 f37 f38 f39 f40 f41 f42 f43 f44 f45 f46 f47 f48 f49 C_NoNumber dT2 : Addr} (X : K.In h) (G : h.Ns mainGlobals mg) (hfa : mg "law" = some (.ref fa))
    {od0 an0 od1 an1 od2 an2 od3 an3 od4 an4 od5 an5 od6 an6 od7 an7 od8 an8 od9 an9 od10 an10 od11 an11 od12 an12 od13 an13 od14 an14 od15 an15 od16 an16 od17 an17 od18 an18 od19 an19 od20 an20 od21 an21 od22 an22 od23 an23 od24 an24 od25 an25 od26 an26 od27 an27 od28 an28 od29 an29 od30 an30 od31 an31 od32 an32 od33 an33 od34 an34 od35 an35 od36 an36 od37 an37 od38 an38 od39 an39 od40 an40 od41 an41 od42 an42 od43 an43 od44 an44 od45 an45 od46 an46 od47 an47 od48 an48 od49 an49 : Option Addr} {sl0 sl1 sl2 sl3 sl4 sl5 sl6 sl7 sl8 sl9 sl10 sl11 sl12 sl13 sl14 sl15 sl16 sl17 sl18 sl19 sl20 sl21 sl22 sl23 sl24 sl25 sl26 sl27 sl28 sl29 sl30 sl31 sl32 sl33 sl34 sl35 sl36 sl37 sl38 sl39 sl40 sl41 sl42 sl43 sl44 sl45 sl46 sl47 sl48 sl49 : Array (Option Value)} {oc0 kV0 dc0 pm0 cd0 ct0 oc1 kV1 dc1 pm1 cd1 ct1 oc2 kV2 dc2 pm2 cd2 ct2 oc3 kV3 dc3 pm3 cd3 ct3 oc4 kV4 dc4 pm4 cd4 ct4 oc5 kV5 dc5 pm5 cd5 ct5 oc6 kV6 dc6 pm6 cd6 ct6 oc7 kV7 dc7 pm7 cd7 ct7 oc8 kV8 dc8 pm8 cd8 ct8 oc9 kV9 dc9 pm9 cd9 ct9 oc10 kV10 dc10 pm10 cd10 ct10 oc11 kV11 dc11 pm11 cd11 ct11 oc12 kV12 dc12 pm12 cd12 ct12 oc13 kV13 dc13 pm13 cd13 ct13 oc14 kV14 dc14 pm14 cd14 ct14 oc15 kV15 dc15 pm15 cd15 ct15 oc16 kV16 dc16 pm16 cd16 ct16 oc17 kV17 dc17 pm17 cd17 ct17 oc18 kV18 dc18 pm18 cd18 ct18 oc19 kV19 dc19 pm19 cd19 ct19 oc20 kV20 dc20 pm20 cd20 ct20 oc21 kV21 dc21 pm21 cd21 ct21 oc22 kV22 dc22 pm22 cd22 ct22 oc23 kV23 dc23 pm23 cd23 ct23 oc24 kV24 dc24 pm24 cd24 ct24 oc25 kV25 dc25 pm25 cd25 ct25 oc26 kV26 dc26 pm26 cd26 ct26 oc27 kV27 dc27 pm27 cd27 ct27 oc28 kV28 dc28 pm28 cd28 ct28 oc29 kV29 dc29 pm29 cd29 ct29 oc30 kV30 dc30 pm30 cd30 ct30 oc31 kV31 dc31 pm31 cd31 ct31 oc32 kV32 dc32 pm32 cd32 ct32 oc33 kV33 dc33 pm33 cd33 ct33 oc34 kV34 dc34 pm34 cd34 ct34 oc35 kV35 dc35 pm35 cd35 ct35 oc36 kV36 dc36 pm36 cd36 ct36 oc37 kV37 dc37 pm37 cd37 ct37 oc38 kV38 dc38 pm38 cd38 ct38 oc39 kV39 dc39 pm39 cd39 ct39 oc40 kV40 dc40 pm40 cd40 ct40 oc41 kV41 dc41 pm41 cd41 ct41 oc42 kV42 dc42 pm42 cd42 ct42 oc43 kV43 dc43 pm43 cd43 ct43 oc44 kV44 dc44 pm44 cd44 ct44 oc45 kV45 dc45 pm45 cd45 ct45 oc46 kV46 dc46 pm46 cd46 ct46 oc47 kV47 dc47 pm47 cd47 ct47 oc48 kV48 dc48 pm48 cd48 ct48 oc49 kV49 dc49 pm49 cd49 ct49 : Value}
    {tc2 : Value} {td2 : Option Addr} {tn2 : Nat} {ts2 : Array (Option Value)} {tk2 : Tok}
    (a0 : PySem.W.nsIn K mainGlobals "is_whole" = some (some (.ref f0))) (l0 : K.lookup f0 = some ⟨oc0, od0, .func (PySem.W.fnOf "is_whole" "is_whole" (defArgs s_is_whole) (defBody s_is_whole) (defScope s_is_whole) .none kV0 dc0 pm0 an0 cd0 ct0), sl0⟩) (c0 : PySem.W.codeIn K cd0 "is_whole" = true) (k0 : PySem.W.keepIn K (.ref f0) = true)
    (a1 : PySem.W.nsIn K mainGlobals "divisor_of" = some (some (.ref f1))) (l1 : K.lookup f1 = some ⟨oc1, od1, .func (PySem.W.fnOf "divisor_of" "divisor_of" (defArgs s_divisor_of) (defBody s_divisor_of) (defScope s_divisor_of) .none kV1 dc1 pm1 an1 cd1 ct1), sl1⟩) (c1 : PySem.W.codeIn K cd1 "divisor_of" = true) (k1 : PySem.W.keepIn K (.ref f1) = true)
    (a2 : PySem.W.nsIn K mainGlobals "number" = some (some (.ref f2))) (l2 : K.lookup f2 = some ⟨oc2, od2, .func (PySem.W.fnOf "number" "number" (defArgs s_number) (defBody s_number) (defScope s_number) (.ref dT2) kV2 dc2 pm2 an2 cd2 ct2), sl2⟩) (c2 : PySem.W.codeIn K cd2 "number" = true) (k2 : PySem.W.keepIn K (.ref f2) = true)
    (dl2 : K.lookup dT2 = some ⟨tc2, td2, .seq #[.int 1 tk2] tn2, ts2⟩)
    (a3 : PySem.W.nsIn K mainGlobals "plus" = some (some (.ref f3))) (l3 : K.lookup f3 = some ⟨oc3, od3, .func (PySem.W.fnOf "plus" "plus" (defArgs s_plus) (defBody s_plus) (defScope s_plus) .none kV3 dc3 pm3 an3 cd3 ct3), sl3⟩) (c3 : PySem.W.codeIn K cd3 "plus" = true) (k3 : PySem.W.keepIn K (.ref f3) = true)
    (a4 : PySem.W.nsIn K mainGlobals "minus" = some (some (.ref f4))) (l4 : K.lookup f4 = some ⟨oc4, od4, .func (PySem.W.fnOf "minus" "minus" (defArgs s_minus) (defBody s_minus) (defScope s_minus) .none kV4 dc4 pm4 an4 cd4 ct4), sl4⟩) (c4 : PySem.W.codeIn K cd4 "minus" = true) (k4 : PySem.W.keepIn K (.ref f4) = true)
    (a5 : PySem.W.nsIn K mainGlobals "times" = some (some (.ref f5))) (l5 : K.lookup f5 = some ⟨oc5, od5, .func (PySem.W.fnOf "times" "times" (defArgs s_times) (defBody s_times) (defScope s_times) .none kV5 dc5 pm5 an5 cd5 ct5), sl5⟩) (c5 : PySem.W.codeIn K cd5 "times" = true) (k5 : PySem.W.keepIn K (.ref f5) = true)
    (a6 : PySem.W.nsIn K mainGlobals "over" = some (some (.ref f6))) (l6 : K.lookup f6 = some ⟨oc6, od6, .func (PySem.W.fnOf "over" "over" (defArgs s_over) (defBody s_over) (defScope s_over) .none kV6 dc6 pm6 an6 cd6 ct6), sl6⟩) (c6 : PySem.W.codeIn K cd6 "over" = true) (k6 : PySem.W.keepIn K (.ref f6) = true)
    (a7 : PySem.W.nsIn K mainGlobals "under" = some (some (.ref f7))) (l7 : K.lookup f7 = some ⟨oc7, od7, .func (PySem.W.fnOf "under" "under" (defArgs s_under) (defBody s_under) (defScope s_under) .none kV7 dc7 pm7 an7 cd7 ct7), sl7⟩) (c7 : PySem.W.codeIn K cd7 "under" = true) (k7 : PySem.W.keepIn K (.ref f7) = true)
    (a8 : PySem.W.nsIn K mainGlobals "rounded" = some (some (.ref f8))) (l8 : K.lookup f8 = some ⟨oc8, od8, .func (PySem.W.fnOf "rounded" "rounded" (defArgs s_rounded) (defBody s_rounded) (defScope s_rounded) .none kV8 dc8 pm8 an8 cd8 ct8), sl8⟩) (c8 : PySem.W.codeIn K cd8 "rounded" = true) (k8 : PySem.W.keepIn K (.ref f8) = true)
    (a9 : PySem.W.nsIn K mainGlobals "straight_place" = some (some (.ref f9))) (l9 : K.lookup f9 = some ⟨oc9, od9, .func (PySem.W.fnOf "straight_place" "straight_place" (defArgs s_straight_place) (defBody s_straight_place) (defScope s_straight_place) .none kV9 dc9 pm9 an9 cd9 ct9), sl9⟩) (c9 : PySem.W.codeIn K cd9 "straight_place" = true) (k9 : PySem.W.keepIn K (.ref f9) = true)
    (a10 : PySem.W.nsIn K mainGlobals "is_within" = some (some (.ref f10))) (l10 : K.lookup f10 = some ⟨oc10, od10, .func (PySem.W.fnOf "is_within" "is_within" (defArgs s_is_within) (defBody s_is_within) (defScope s_is_within) .none kV10 dc10 pm10 an10 cd10 ct10), sl10⟩) (c10 : PySem.W.codeIn K cd10 "is_within" = true) (k10 : PySem.W.keepIn K (.ref f10) = true)
    (a11 : PySem.W.nsIn K mainGlobals "power_of" = some (some (.ref f11))) (l11 : K.lookup f11 = some ⟨oc11, od11, .func (PySem.W.fnOf "power_of" "power_of" (defArgs s_power_of) (defBody s_power_of) (defScope s_power_of) .none kV11 dc11 pm11 an11 cd11 ct11), sl11⟩) (c11 : PySem.W.codeIn K cd11 "power_of" = true) (k11 : PySem.W.keepIn K (.ref f11) = true)
    (a12 : PySem.W.nsIn K mainGlobals "power_below" = some (some (.ref f12))) (l12 : K.lookup f12 = some ⟨oc12, od12, .func (PySem.W.fnOf "power_below" "power_below" (defArgs s_power_below) (defBody s_power_below) (defScope s_power_below) .none kV12 dc12 pm12 an12 cd12 ct12), sl12⟩) (c12 : PySem.W.codeIn K cd12 "power_below" = true) (k12 : PySem.W.keepIn K (.ref f12) = true)
    (a13 : PySem.W.nsIn K mainGlobals "place_on_straight" = some (some (.ref f13))) (l13 : K.lookup f13 = some ⟨oc13, od13, .func (PySem.W.fnOf "place_on_straight" "place_on_straight" (defArgs s_place_on_straight) (defBody s_place_on_straight) (defScope s_place_on_straight) .none kV13 dc13 pm13 an13 cd13 ct13), sl13⟩) (c13 : PySem.W.codeIn K cd13 "place_on_straight" = true) (k13 : PySem.W.keepIn K (.ref f13) = true)
    (a14 : PySem.W.nsIn K mainGlobals "place_on_turns" = some (some (.ref f14))) (l14 : K.lookup f14 = some ⟨oc14, od14, .func (PySem.W.fnOf "place_on_turns" "place_on_turns" (defArgs s_place_on_turns) (defBody s_place_on_turns) (defScope s_place_on_turns) .none kV14 dc14 pm14 an14 cd14 ct14), sl14⟩) (c14 : PySem.W.codeIn K cd14 "place_on_turns" = true) (k14 : PySem.W.keepIn K (.ref f14) = true)
    (a15 : PySem.W.nsIn K mainGlobals "place_on_broken" = some (some (.ref f15))) (l15 : K.lookup f15 = some ⟨oc15, od15, .func (PySem.W.fnOf "place_on_broken" "place_on_broken" (defArgs s_place_on_broken) (defBody s_place_on_broken) (defScope s_place_on_broken) .none kV15 dc15 pm15 an15 cd15 ct15), sl15⟩) (c15 : PySem.W.codeIn K cd15 "place_on_broken" = true) (k15 : PySem.W.keepIn K (.ref f15) = true)
    (a16 : PySem.W.nsIn K mainGlobals "place_on_days" = some (some (.ref f16))) (l16 : K.lookup f16 = some ⟨oc16, od16, .func (PySem.W.fnOf "place_on_days" "place_on_days" (defArgs s_place_on_days) (defBody s_place_on_days) (defScope s_place_on_days) .none kV16 dc16 pm16 an16 cd16 ct16), sl16⟩) (c16 : PySem.W.codeIn K cd16 "place_on_days" = true) (k16 : PySem.W.keepIn K (.ref f16) = true)
    (a17 : PySem.W.nsIn K mainGlobals "place_on_order" = some (some (.ref f17))) (l17 : K.lookup f17 = some ⟨oc17, od17, .func (PySem.W.fnOf "place_on_order" "place_on_order" (defArgs s_place_on_order) (defBody s_place_on_order) (defScope s_place_on_order) .none kV17 dc17 pm17 an17 cd17 ct17), sl17⟩) (c17 : PySem.W.codeIn K cd17 "place_on_order" = true) (k17 : PySem.W.keepIn K (.ref f17) = true)
    (a18 : PySem.W.nsIn K mainGlobals "place_on" = some (some (.ref f18))) (l18 : K.lookup f18 = some ⟨oc18, od18, .func (PySem.W.fnOf "place_on" "place_on" (defArgs s_place_on) (defBody s_place_on) (defScope s_place_on) .none kV18 dc18 pm18 an18 cd18 ct18), sl18⟩) (c18 : PySem.W.codeIn K cd18 "place_on" = true) (k18 : PySem.W.keepIn K (.ref f18) = true)
    (a19 : PySem.W.nsIn K mainGlobals "put_x" = some (some (.ref f19))) (l19 : K.lookup f19 = some ⟨oc19, od19, .func (PySem.W.fnOf "put_x" "put_x" (defArgs s_put_x) (defBody s_put_x) (defScope s_put_x) .none kV19 dc19 pm19 an19 cd19 ct19), sl19⟩) (c19 : PySem.W.codeIn K cd19 "put_x" = true) (k19 : PySem.W.keepIn K (.ref f19) = true)
    (a20 : PySem.W.nsIn K mainGlobals "put_y" = some (some (.ref f20))) (l20 : K.lookup f20 = some ⟨oc20, od20, .func (PySem.W.fnOf "put_y" "put_y" (defArgs s_put_y) (defBody s_put_y) (defScope s_put_y) .none kV20 dc20 pm20 an20 cd20 ct20), sl20⟩) (c20 : PySem.W.codeIn K cd20 "put_y" = true) (k20 : PySem.W.keepIn K (.ref f20) = true)
    (a21 : PySem.W.nsIn K mainGlobals "place_of" = some (some (.ref f21))) (l21 : K.lookup f21 = some ⟨oc21, od21, .func (PySem.W.fnOf "place_of" "place_of" (defArgs s_place_of) (defBody s_place_of) (defScope s_place_of) .none kV21 dc21 pm21 an21 cd21 ct21), sl21⟩) (c21 : PySem.W.codeIn K cd21 "place_of" = true) (k21 : PySem.W.keepIn K (.ref f21) = true)
    (a22 : PySem.W.nsIn K mainGlobals "x_of" = some (some (.ref f22))) (l22 : K.lookup f22 = some ⟨oc22, od22, .func (PySem.W.fnOf "x_of" "x_of" (defArgs s_x_of) (defBody s_x_of) (defScope s_x_of) .none kV22 dc22 pm22 an22 cd22 ct22), sl22⟩) (c22 : PySem.W.codeIn K cd22 "x_of" = true) (k22 : PySem.W.keepIn K (.ref f22) = true)
    (a23 : PySem.W.nsIn K mainGlobals "y_of" = some (some (.ref f23))) (l23 : K.lookup f23 = some ⟨oc23, od23, .func (PySem.W.fnOf "y_of" "y_of" (defArgs s_y_of) (defBody s_y_of) (defScope s_y_of) .none kV23 dc23 pm23 an23 cd23 ct23), sl23⟩) (c23 : PySem.W.codeIn K cd23 "y_of" = true) (k23 : PySem.W.keepIn K (.ref f23) = true)
    (a24 : PySem.W.nsIn K mainGlobals "loss_of" = some (some (.ref f24))) (l24 : K.lookup f24 = some ⟨oc24, od24, .func (PySem.W.fnOf "loss_of" "loss_of" (defArgs s_loss_of) (defBody s_loss_of) (defScope s_loss_of) .none kV24 dc24 pm24 an24 cd24 ct24), sl24⟩) (c24 : PySem.W.codeIn K cd24 "loss_of" = true) (k24 : PySem.W.keepIn K (.ref f24) = true)
    (a25 : PySem.W.nsIn K mainGlobals "parted" = some (some (.ref f25))) (l25 : K.lookup f25 = some ⟨oc25, od25, .func (PySem.W.fnOf "parted" "parted" (defArgs s_parted) (defBody s_parted) (defScope s_parted) .none kV25 dc25 pm25 an25 cd25 ct25), sl25⟩) (c25 : PySem.W.codeIn K cd25 "parted" = true) (k25 : PySem.W.keepIn K (.ref f25) = true)
    (a26 : PySem.W.nsIn K mainGlobals "dots" = some (some (.ref f26))) (l26 : K.lookup f26 = some ⟨oc26, od26, .func (PySem.W.fnOf "dots" "dots" (defArgs s_dots) (defBody s_dots) (defScope s_dots) .none kV26 dc26 pm26 an26 cd26 ct26), sl26⟩) (c26 : PySem.W.codeIn K cd26 "dots" = true) (k26 : PySem.W.keepIn K (.ref f26) = true)
    (a27 : PySem.W.nsIn K mainGlobals "_law_draws" = some (some (.ref f27))) (l27 : K.lookup f27 = some ⟨oc27, od27, .func (PySem.W.fnOf "_law_draws" "_law_draws" (defArgs s_l_draws) (defBody s_l_draws) (defScope s_l_draws) .none kV27 dc27 pm27 an27 cd27 ct27), sl27⟩) (c27 : PySem.W.codeIn K cd27 "_law_draws" = true) (k27 : PySem.W.keepIn K (.ref f27) = true)
    (a28 : PySem.W.nsIn K mainGlobals "_law_whole" = some (some (.ref f28))) (l28 : K.lookup f28 = some ⟨oc28, od28, .func (PySem.W.fnOf "_law_whole" "_law_whole" (defArgs s_l_whole) (defBody s_l_whole) (defScope s_l_whole) .none kV28 dc28 pm28 an28 cd28 ct28), sl28⟩) (c28 : PySem.W.codeIn K cd28 "_law_whole" = true) (k28 : PySem.W.keepIn K (.ref f28) = true)
    (a29 : PySem.W.nsIn K mainGlobals "_law_divisor" = some (some (.ref f29))) (l29 : K.lookup f29 = some ⟨oc29, od29, .func (PySem.W.fnOf "_law_divisor" "_law_divisor" (defArgs s_l_divisor) (defBody s_l_divisor) (defScope s_l_divisor) .none kV29 dc29 pm29 an29 cd29 ct29), sl29⟩) (c29 : PySem.W.codeIn K cd29 "_law_divisor" = true) (k29 : PySem.W.keepIn K (.ref f29) = true)
    (a30 : PySem.W.nsIn K mainGlobals "_law_number" = some (some (.ref f30))) (l30 : K.lookup f30 = some ⟨oc30, od30, .func (PySem.W.fnOf "_law_number" "_law_number" (defArgs s_l_number) (defBody s_l_number) (defScope s_l_number) .none kV30 dc30 pm30 an30 cd30 ct30), sl30⟩) (c30 : PySem.W.codeIn K cd30 "_law_number" = true) (k30 : PySem.W.keepIn K (.ref f30) = true)
    (a31 : PySem.W.nsIn K mainGlobals "_law_low" = some (some (.ref f31))) (l31 : K.lookup f31 = some ⟨oc31, od31, .func (PySem.W.fnOf "_law_low" "_law_low" (defArgs s_l_low) (defBody s_l_low) (defScope s_l_low) .none kV31 dc31 pm31 an31 cd31 ct31), sl31⟩) (c31 : PySem.W.codeIn K cd31 "_law_low" = true) (k31 : PySem.W.keepIn K (.ref f31) = true)
    (a32 : PySem.W.nsIn K mainGlobals "_law_plus" = some (some (.ref f32))) (l32 : K.lookup f32 = some ⟨oc32, od32, .func (PySem.W.fnOf "_law_plus" "_law_plus" (defArgs s_l_plus) (defBody s_l_plus) (defScope s_l_plus) .none kV32 dc32 pm32 an32 cd32 ct32), sl32⟩) (c32 : PySem.W.codeIn K cd32 "_law_plus" = true) (k32 : PySem.W.keepIn K (.ref f32) = true)
    (a33 : PySem.W.nsIn K mainGlobals "_law_part" = some (some (.ref f33))) (l33 : K.lookup f33 = some ⟨oc33, od33, .func (PySem.W.fnOf "_law_part" "_law_part" (defArgs s_l_part) (defBody s_l_part) (defScope s_l_part) .none kV33 dc33 pm33 an33 cd33 ct33), sl33⟩) (c33 : PySem.W.codeIn K cd33 "_law_part" = true) (k33 : PySem.W.keepIn K (.ref f33) = true)
    (a34 : PySem.W.nsIn K mainGlobals "_law_words" = some (some (.ref f34))) (l34 : K.lookup f34 = some ⟨oc34, od34, .func (PySem.W.fnOf "_law_words" "_law_words" (defArgs s_l_words) (defBody s_l_words) (defScope s_l_words) .none kV34 dc34 pm34 an34 cd34 ct34), sl34⟩) (c34 : PySem.W.codeIn K cd34 "_law_words" = true) (k34 : PySem.W.keepIn K (.ref f34) = true)
    (a35 : PySem.W.nsIn K mainGlobals "_law_broken" = some (some (.ref f35))) (l35 : K.lookup f35 = some ⟨oc35, od35, .func (PySem.W.fnOf "_law_broken" "_law_broken" (defArgs s_l_broken) (defBody s_l_broken) (defScope s_l_broken) .none kV35 dc35 pm35 an35 cd35 ct35), sl35⟩) (c35 : PySem.W.codeIn K cd35 "_law_broken" = true) (k35 : PySem.W.keepIn K (.ref f35) = true)
    (a36 : PySem.W.nsIn K mainGlobals "_law_scale" = some (some (.ref f36))) (l36 : K.lookup f36 = some ⟨oc36, od36, .func (PySem.W.fnOf "_law_scale" "_law_scale" (defArgs s_l_scale) (defBody s_l_scale) (defScope s_l_scale) .none kV36 dc36 pm36 an36 cd36 ct36), sl36⟩) (c36 : PySem.W.codeIn K cd36 "_law_scale" = true) (k36 : PySem.W.keepIn K (.ref f36) = true)
    (a37 : PySem.W.nsIn K mainGlobals "_law_power" = some (some (.ref f37))) (l37 : K.lookup f37 = some ⟨oc37, od37, .func (PySem.W.fnOf "_law_power" "_law_power" (defArgs s_l_power) (defBody s_l_power) (defScope s_l_power) .none kV37 dc37 pm37 an37 cd37 ct37), sl37⟩) (c37 : PySem.W.codeIn K cd37 "_law_power" = true) (k37 : PySem.W.keepIn K (.ref f37) = true)
    (a38 : PySem.W.nsIn K mainGlobals "_law_turn_cell" = some (some (.ref f38))) (l38 : K.lookup f38 = some ⟨oc38, od38, .func (PySem.W.fnOf "_law_turn_cell" "_law_turn_cell" (defArgs s_l_turn_cell) (defBody s_l_turn_cell) (defScope s_l_turn_cell) .none kV38 dc38 pm38 an38 cd38 ct38), sl38⟩) (c38 : PySem.W.codeIn K cd38 "_law_turn_cell" = true) (k38 : PySem.W.keepIn K (.ref f38) = true)
    (a39 : PySem.W.nsIn K mainGlobals "_law_cell" = some (some (.ref f39))) (l39 : K.lookup f39 = some ⟨oc39, od39, .func (PySem.W.fnOf "_law_cell" "_law_cell" (defArgs s_l_cell) (defBody s_l_cell) (defScope s_l_cell) .none kV39 dc39 pm39 an39 cd39 ct39), sl39⟩) (c39 : PySem.W.codeIn K cd39 "_law_cell" = true) (k39 : PySem.W.keepIn K (.ref f39) = true)
    (a40 : PySem.W.nsIn K mainGlobals "_law_between" = some (some (.ref f40))) (l40 : K.lookup f40 = some ⟨oc40, od40, .func (PySem.W.fnOf "_law_between" "_law_between" (defArgs s_l_between) (defBody s_l_between) (defScope s_l_between) .none kV40 dc40 pm40 an40 cd40 ct40), sl40⟩) (c40 : PySem.W.codeIn K cd40 "_law_between" = true) (k40 : PySem.W.keepIn K (.ref f40) = true)
    (a41 : PySem.W.nsIn K mainGlobals "_law_within" = some (some (.ref f41))) (l41 : K.lookup f41 = some ⟨oc41, od41, .func (PySem.W.fnOf "_law_within" "_law_within" (defArgs s_l_within) (defBody s_l_within) (defScope s_l_within) .none kV41 dc41 pm41 an41 cd41 ct41), sl41⟩) (c41 : PySem.W.codeIn K cd41 "_law_within" = true) (k41 : PySem.W.keepIn K (.ref f41) = true)
    (a42 : PySem.W.nsIn K mainGlobals "_law_turn" = some (some (.ref f42))) (l42 : K.lookup f42 = some ⟨oc42, od42, .func (PySem.W.fnOf "_law_turn" "_law_turn" (defArgs s_l_turn) (defBody s_l_turn) (defScope s_l_turn) .none kV42 dc42 pm42 an42 cd42 ct42), sl42⟩) (c42 : PySem.W.codeIn K cd42 "_law_turn" = true) (k42 : PySem.W.keepIn K (.ref f42) = true)
    (a43 : PySem.W.nsIn K mainGlobals "_law_place" = some (some (.ref f43))) (l43 : K.lookup f43 = some ⟨oc43, od43, .func (PySem.W.fnOf "_law_place" "_law_place" (defArgs s_l_place) (defBody s_l_place) (defScope s_l_place) .none kV43 dc43 pm43 an43 cd43 ct43), sl43⟩) (c43 : PySem.W.codeIn K cd43 "_law_place" = true) (k43 : PySem.W.keepIn K (.ref f43) = true)
    (a44 : PySem.W.nsIn K mainGlobals "_law_rounded" = some (some (.ref f44))) (l44 : K.lookup f44 = some ⟨oc44, od44, .func (PySem.W.fnOf "_law_rounded" "_law_rounded" (defArgs s_l_rounded) (defBody s_l_rounded) (defScope s_l_rounded) .none kV44 dc44 pm44 an44 cd44 ct44), sl44⟩) (c44 : PySem.W.codeIn K cd44 "_law_rounded" = true) (k44 : PySem.W.keepIn K (.ref f44) = true)
    (a45 : PySem.W.nsIn K mainGlobals "_law_field" = some (some (.ref f45))) (l45 : K.lookup f45 = some ⟨oc45, od45, .func (PySem.W.fnOf "_law_field" "_law_field" (defArgs s_l_field) (defBody s_l_field) (defScope s_l_field) .none kV45 dc45 pm45 an45 cd45 ct45), sl45⟩) (c45 : PySem.W.codeIn K cd45 "_law_field" = true) (k45 : PySem.W.keepIn K (.ref f45) = true)
    (a46 : PySem.W.nsIn K mainGlobals "_law_items" = some (some (.ref f46))) (l46 : K.lookup f46 = some ⟨oc46, od46, .func (PySem.W.fnOf "_law_items" "_law_items" (defArgs s_l_items) (defBody s_l_items) (defScope s_l_items) .none kV46 dc46 pm46 an46 cd46 ct46), sl46⟩) (c46 : PySem.W.codeIn K cd46 "_law_items" = true) (k46 : PySem.W.keepIn K (.ref f46) = true)
    (a47 : PySem.W.nsIn K mainGlobals "_law_same" = some (some (.ref f47))) (l47 : K.lookup f47 = some ⟨oc47, od47, .func (PySem.W.fnOf "_law_same" "_law_same" (defArgs s_l_same) (defBody s_l_same) (defScope s_l_same) .none kV47 dc47 pm47 an47 cd47 ct47), sl47⟩) (c47 : PySem.W.codeIn K cd47 "_law_same" = true) (k47 : PySem.W.keepIn K (.ref f47) = true)
    (a48 : PySem.W.nsIn K mainGlobals "_law_due" = some (some (.ref f48))) (l48 : K.lookup f48 = some ⟨oc48, od48, .func (PySem.W.fnOf "_law_due" "_law_due" (defArgs s_l_due) (defBody s_l_due) (defScope s_l_due) .none kV48 dc48 pm48 an48 cd48 ct48), sl48⟩) (c48 : PySem.W.codeIn K cd48 "_law_due" = true) (k48 : PySem.W.keepIn K (.ref f48) = true)
    (a49 : PySem.W.nsIn K mainGlobals "law" = some (some (.ref f49))) (l49 : K.lookup f49 = some ⟨oc49, od49, .func (PySem.W.fnOf "law" "law" (defArgs s_law) (defBody s_law) (defScope s_law) .none kV49 dc49 pm49 an49 cd49 ct49), sl49⟩) (c49 : PySem.W.codeIn K cd49 "law" = true) (k49 : PySem.W.keepIn K (.ref f49) = true)
    (n_NoNumber : PySem.W.nsIn K mainGlobals "NoNumber" = some (some (.ref C_NoNumber))) (x_NoNumber : PySem.W.excIn K C_NoNumber bmVE "ValueError.__new__" = true) (e_NoNumber : PySem.W.exmOne K (.ref C_NoNumber) (.ref C_NoNumber) = some true)
    (z_isinstance : PySem.W.nsIn K mainGlobals "isinstance" = some none)
    (z_int : PySem.W.nsIn K mainGlobals "int" = some none)
    (z_bool : PySem.W.nsIn K mainGlobals "bool" = some none)
    (z_tuple : PySem.W.nsIn K mainGlobals "tuple" = some none)
    (z_str : PySem.W.nsIn K mainGlobals "str" = some none)
    (z_list : PySem.W.nsIn K mainGlobals "list" = some none)
    (z_abs : PySem.W.nsIn K mainGlobals "abs" = some none)
    (z_len : PySem.W.nsIn K mainGlobals "len" = some none)
    (z_range : PySem.W.nsIn K mainGlobals "range" = some none)
    (z_max : PySem.W.nsIn K mainGlobals "max" = some none)
    (z_min : PySem.W.nsIn K mainGlobals "min" = some none)
    (z_zip : PySem.W.nsIn K mainGlobals "zip" = some none)
    (z_all : PySem.W.nsIn K mainGlobals "all" = some none)
    : ∃ fd : FuncData, (∀ (s : Shared) (v : Value), BindsTo s fd ⟨[v], []⟩ [("_law_script", v)]) ∧ ∀ base : Heap, K.In base → base.Ns mainGlobals mg → FnOk l.prog w K mg base CX0 11 fa fd ["_law_script"] (sp_law K) := by
  have e := hfa.symm.trans (PySem.W.mg_of X G a49)
  cases e
  have F0 := fun_mk (st := s_is_whole) l0 c0 k0
  have b0 := F0.binds (ps := ["thing"]) fun _ _ _ _ _ _ us hl => match us, hl with | [_], _ => rfl
  have F1 := fun_mk (st := s_divisor_of) l1 c1 k1
  have b1 := F1.binds (ps := ["one", "other"]) fun _ _ _ _ _ _ us hl => match us, hl with | [_, _], _ => rfl
  have F2 := fun_mkD (st := s_number) l2 c2 k2
  have b2 : Binds K (PySem.W.fnOf "number" "number" (defArgs s_number) (defBody s_number) (defScope s_number) (.ref dT2) kV2 dc2 pm2 an2 cd2 ct2) ["top", "bottom"] [] := fun s us X hl => match us, hl with | [_, _], _ => BindsTo.of_defaults rfl (X _ _ dl2) rfl rfl rfl
  have bd2 : ∃ ds, Vals [V.int 1] ds ∧ Binds K (PySem.W.fnOf "number" "number" (defArgs s_number) (defBody s_number) (defScope s_number) (.ref dT2) kV2 dc2 pm2 an2 cd2 ct2) ["top", "bottom"] ds := ⟨[.int 1 tk2], .cons ⟨_, rfl⟩ .nil, fun s us X hl => match us, (by simpa using hl : us.length = 1) with | [_], _ => BindsTo.of_defaults rfl (X _ _ dl2) rfl rfl rfl⟩
  have F3 := fun_mk (st := s_plus) l3 c3 k3
  have b3 := F3.binds (ps := ["one", "other"]) fun _ _ _ _ _ _ us hl => match us, hl with | [_, _], _ => rfl
  have F4 := fun_mk (st := s_minus) l4 c4 k4
  have b4 := F4.binds (ps := ["one", "other"]) fun _ _ _ _ _ _ us hl => match us, hl with | [_, _], _ => rfl
  have F5 := fun_mk (st := s_times) l5 c5 k5
  have b5 := F5.binds (ps := ["one", "other"]) fun _ _ _ _ _ _ us hl => match us, hl with | [_, _], _ => rfl
  have F6 := fun_mk (st := s_over) l6 c6 k6
  have b6 := F6.binds (ps := ["one", "other"]) fun _ _ _ _ _ _ us hl => match us, hl with | [_, _], _ => rfl
  have F7 := fun_mk (st := s_under) l7 c7 k7
  have b7 := F7.binds (ps := ["one", "other"]) fun _ _ _ _ _ _ us hl => match us, hl with | [_, _], _ => rfl
  have F8 := fun_mk (st := s_rounded) l8 c8 k8
  have b8 := F8.binds (ps := ["one"]) fun _ _ _ _ _ _ us hl => match us, hl with | [_], _ => rfl
  have F9 := fun_mk (st := s_straight_place) l9 c9 k9
  have b9 := F9.binds (ps := ["one", "lo", "hi", "begin", "end"]) fun _ _ _ _ _ _ us hl => match us, hl with | [_, _, _, _, _], _ => rfl
  have F10 := fun_mk (st := s_is_within) l10 c10 k10
  have b10 := F10.binds (ps := ["one", "lo", "hi"]) fun _ _ _ _ _ _ us hl => match us, hl with | [_, _, _], _ => rfl
  have F11 := fun_mk (st := s_power_of) l11 c11 k11
  have b11 := F11.binds (ps := ["base", "exponent"]) fun _ _ _ _ _ _ us hl => match us, hl with | [_, _], _ => rfl
  have F12 := fun_mk (st := s_power_below) l12 c12 k12
  have b12 := F12.binds (ps := ["base", "one"]) fun _ _ _ _ _ _ us hl => match us, hl with | [_, _], _ => rfl
  have F13 := fun_mk (st := s_place_on_straight) l13 c13 k13
  have b13 := F13.binds (ps := ["scale", "cell"]) fun _ _ _ _ _ _ us hl => match us, hl with | [_, _], _ => rfl
  have F14 := fun_mk (st := s_place_on_turns) l14 c14 k14
  have b14 := F14.binds (ps := ["scale", "cell"]) fun _ _ _ _ _ _ us hl => match us, hl with | [_, _], _ => rfl
  have F15 := fun_mk (st := s_place_on_broken) l15 c15 k15
  have b15 := F15.binds (ps := ["scale", "cell"]) fun _ _ _ _ _ _ us hl => match us, hl with | [_, _], _ => rfl
  have F16 := fun_mk (st := s_place_on_days) l16 c16 k16
  have b16 := F16.binds (ps := ["scale", "cell"]) fun _ _ _ _ _ _ us hl => match us, hl with | [_, _], _ => rfl
  have F17 := fun_mk (st := s_place_on_order) l17 c17 k17
  have b17 := F17.binds (ps := ["scale", "cell"]) fun _ _ _ _ _ _ us hl => match us, hl with | [_, _], _ => rfl
  have F18 := fun_mk (st := s_place_on) l18 c18 k18
  have b18 := F18.binds (ps := ["scale", "cell"]) fun _ _ _ _ _ _ us hl => match us, hl with | [_, _], _ => rfl
  have F19 := fun_mk (st := s_put_x) l19 c19 k19
  have b19 := F19.binds (ps := ["field", "place"]) fun _ _ _ _ _ _ us hl => match us, hl with | [_, _], _ => rfl
  have F20 := fun_mk (st := s_put_y) l20 c20 k20
  have b20 := F20.binds (ps := ["field", "place"]) fun _ _ _ _ _ _ us hl => match us, hl with | [_, _], _ => rfl
  have F21 := fun_mk (st := s_place_of) l21 c21 k21
  have b21 := F21.binds (ps := ["field", "item", "channel"]) fun _ _ _ _ _ _ us hl => match us, hl with | [_, _, _], _ => rfl
  have F22 := fun_mk (st := s_x_of) l22 c22 k22
  have b22 := F22.binds (ps := ["field", "item"]) fun _ _ _ _ _ _ us hl => match us, hl with | [_, _], _ => rfl
  have F23 := fun_mk (st := s_y_of) l23 c23 k23
  have b23 := F23.binds (ps := ["field", "item"]) fun _ _ _ _ _ _ us hl => match us, hl with | [_, _], _ => rfl
  have F24 := fun_mk (st := s_loss_of) l24 c24 k24
  have b24 := F24.binds (ps := ["field", "item", "channels"]) fun _ _ _ _ _ _ us hl => match us, hl with | [_, _, _], _ => rfl
  have F25 := fun_mk (st := s_parted) l25 c25 k25
  have b25 := F25.binds (ps := ["field", "items", "channels"]) fun _ _ _ _ _ _ us hl => match us, hl with | [_, _, _], _ => rfl
  have F26 := fun_mk (st := s_dots) l26 c26 k26
  have b26 := F26.binds (ps := ["field", "side", "items"]) fun _ _ _ _ _ _ us hl => match us, hl with | [_, _, _], _ => rfl
  have F27 := fun_mk (st := s_l_draws) l27 c27 k27
  have b27 := F27.binds (ps := ["_law_cell_here", "_law_tops"]) fun _ _ _ _ _ _ us hl => match us, hl with | [_, _], _ => rfl
  have F28 := fun_mk (st := s_l_whole) l28 c28 k28
  have b28 := F28.binds (ps := ["_law_found"]) fun _ _ _ _ _ _ us hl => match us, hl with | [_], _ => rfl
  have F29 := fun_mk (st := s_l_divisor) l29 c29 k29
  have b29 := F29.binds (ps := ["_law_one", "_law_other"]) fun _ _ _ _ _ _ us hl => match us, hl with | [_, _], _ => rfl
  have F30 := fun_mk (st := s_l_number) l30 c30 k30
  have b30 := F30.binds (ps := ["_law_d"]) fun _ _ _ _ _ _ us hl => match us, hl with | [_], _ => rfl
  have F31 := fun_mk (st := s_l_low) l31 c31 k31
  have b31 := F31.binds (ps := ["_law_top", "_law_bottom"]) fun _ _ _ _ _ _ us hl => match us, hl with | [_, _], _ => rfl
  have F32 := fun_mk (st := s_l_plus) l32 c32 k32
  have b32 := F32.binds (ps := ["_law_one", "_law_other"]) fun _ _ _ _ _ _ us hl => match us, hl with | [_, _], _ => rfl
  have F33 := fun_mk (st := s_l_part) l33 c33 k33
  have b33 := F33.binds (ps := ["_law_lo", "_law_hi", "_law_f", "_law_g"]) fun _ _ _ _ _ _ us hl => match us, hl with | [_, _, _, _], _ => rfl
  have F34 := fun_mk (st := s_l_words) l34 c34 k34
  have b34 := F34.binds (ps := ["_law_many", "_law_d"]) fun _ _ _ _ _ _ us hl => match us, hl with | [_, _], _ => rfl
  have F35 := fun_mk (st := s_l_broken) l35 c35 k35
  have b35 := F35.binds (ps := ["_law_d"]) fun _ _ _ _ _ _ us hl => match us, hl with | [_], _ => rfl
  have F36 := fun_mk (st := s_l_scale) l36 c36 k36
  have b36 := F36.binds (ps := ["_law_kind", "_law_d"]) fun _ _ _ _ _ _ us hl => match us, hl with | [_, _], _ => rfl
  have F37 := fun_mk (st := s_l_power) l37 c37 k37
  have b37 := F37.binds (ps := ["_law_base", "_law_many"]) fun _ _ _ _ _ _ us hl => match us, hl with | [_, _], _ => rfl
  have F38 := fun_mk (st := s_l_turn_cell) l38 c38 k38
  have b38 := F38.binds (ps := ["_law_scale_here", "_law_e", "_law_f", "_law_g"]) fun _ _ _ _ _ _ us hl => match us, hl with | [_, _, _, _], _ => rfl
  have F39 := fun_mk (st := s_l_cell) l39 c39 k39
  have b39 := F39.binds (ps := ["_law_scale_here", "_law_e"]) fun _ _ _ _ _ _ us hl => match us, hl with | [_, _], _ => rfl
  have F40 := fun_mk (st := s_l_between) l40 c40 k40
  have b40 := F40.binds (ps := ["_law_lo", "_law_hi", "_law_cell_here", "_law_start", "_law_stop"]) fun _ _ _ _ _ _ us hl => match us, hl with | [_, _, _, _, _], _ => rfl
  have F41 := fun_mk (st := s_l_within) l41 c41 k41
  have b41 := F41.binds (ps := ["_law_lo", "_law_hi", "_law_cell_here"]) fun _ _ _ _ _ _ us hl => match us, hl with | [_, _, _], _ => rfl
  have F42 := fun_mk (st := s_l_turn) l42 c42 k42
  have b42 := F42.binds (ps := ["_law_scale_here", "_law_cell_here"]) fun _ _ _ _ _ _ us hl => match us, hl with | [_, _], _ => rfl
  have F43 := fun_mk (st := s_l_place) l43 c43 k43
  have b43 := F43.binds (ps := ["_law_scale_here", "_law_cell_here"]) fun _ _ _ _ _ _ us hl => match us, hl with | [_, _], _ => rfl
  have F44 := fun_mk (st := s_l_rounded) l44 c44 k44
  have b44 := F44.binds (ps := ["_law_place_here"]) fun _ _ _ _ _ _ us hl => match us, hl with | [_], _ => rfl
  have F45 := fun_mk (st := s_l_field) l45 c45 k45
  have b45 := F45.binds (ps := ["_law_cell_here"]) fun _ _ _ _ _ _ us hl => match us, hl with | [_], _ => rfl
  have F46 := fun_mk (st := s_l_items) l46 c46 k46
  have b46 := F46.binds (ps := ["_law_cells", "_law_field_here"]) fun _ _ _ _ _ _ us hl => match us, hl with | [_, _], _ => rfl
  have F47 := fun_mk (st := s_l_same) l47 c47 k47
  have b47 := F47.binds (ps := ["_law_found", "_law_due_here"]) fun _ _ _ _ _ _ us hl => match us, hl with | [_, _], _ => rfl
  have F48 := fun_mk (st := s_l_due) l48 c48 k48
  have b48 := F48.binds (ps := ["_law_field_here", "_law_side", "_law_items_here"]) fun _ _ _ _ _ _ us hl => match us, hl with | [_, _, _], _ => rfl
  have F49 := fun_mk (st := s_law) l49 c49 k49
  have b49 := F49.binds (ps := ["_law_script"]) fun _ _ _ _ _ _ us hl => match us, hl with | [_], _ => rfl
  have T : Txt K mg ⟨_, _, _, _, _, _, _, _, _, _, _, _, _, _, _, _, _, _, _, _, _, _, _, _, _, _, _, _, _, _, _, _, _, _, _, _, _, _, _, _, _, _, _, _, _, _, _, _, _, _, _, _, _, _, _, _, _, _, _, _, _, _, _, _, _, _, _, _, _, _, _, _, _, _, _, _, _, _, _, _, _, _, _, _, _, _, _, _, _, _, _, _, _, _, _, _, _, _, _, _, C_NoNumber⟩ := ⟨F0, PySem.W.mg_of X G a0, k0, b0, F1, PySem.W.mg_of X G a1, k1, b1, F2, PySem.W.mg_of X G a2, k2, b2, bd2, F3, PySem.W.mg_of X G a3, k3, b3, F4, PySem.W.mg_of X G a4, k4, b4, F5, PySem.W.mg_of X G a5, k5, b5, F6, PySem.W.mg_of X G a6, k6, b6, F7, PySem.W.mg_of X G a7, k7, b7, F8, PySem.W.mg_of X G a8, k8, b8, F9, PySem.W.mg_of X G a9, k9, b9, F10, PySem.W.mg_of X G a10, k10, b10, F11, PySem.W.mg_of X G a11, k11, b11, F12, PySem.W.mg_of X G a12, k12, b12, F13, PySem.W.mg_of X G a13, k13, b13, F14, PySem.W.mg_of X G a14, k14, b14, F15, PySem.W.mg_of X G a15, k15, b15, F16, PySem.W.mg_of X G a16, k16, b16, F17, PySem.W.mg_of X G a17, k17, b17, F18, PySem.W.mg_of X G a18, k18, b18, F19, PySem.W.mg_of X G a19, k19, b19, F20, PySem.W.mg_of X G a20, k20, b20, F21, PySem.W.mg_of X G a21, k21, b21, F22, PySem.W.mg_of X G a22, k22, b22, F23, PySem.W.mg_of X G a23, k23, b23, F24, PySem.W.mg_of X G a24, k24, b24, F25, PySem.W.mg_of X G a25, k25, b25, F26, PySem.W.mg_of X G a26, k26, b26, F27, PySem.W.mg_of X G a27, k27, b27, F28, PySem.W.mg_of X G a28, k28, b28, F29, PySem.W.mg_of X G a29, k29, b29, F30, PySem.W.mg_of X G a30, k30, b30, F31, PySem.W.mg_of X G a31, k31, b31, F32, PySem.W.mg_of X G a32, k32, b32, F33, PySem.W.mg_of X G a33, k33, b33, F34, PySem.W.mg_of X G a34, k34, b34, F35, PySem.W.mg_of X G a35, k35, b35, F36, PySem.W.mg_of X G a36, k36, b36, F37, PySem.W.mg_of X G a37, k37, b37, F38, PySem.W.mg_of X G a38, k38, b38, F39, PySem.W.mg_of X G a39, k39, b39, F40, PySem.W.mg_of X G a40, k40, b40, F41, PySem.W.mg_of X G a41, k41, b41, F42, PySem.W.mg_of X G a42, k42, b42, F43, PySem.W.mg_of X G a43, k43, b43, F44, PySem.W.mg_of X G a44, k44, b44, F45, PySem.W.mg_of X G a45, k45, b45, F46, PySem.W.mg_of X G a46, k46, b46, F47, PySem.W.mg_of X G a47, k47, b47, F48, PySem.W.mg_of X G a48, k48, b48, F49, PySem.W.mg_of X G a49, k49, b49, PySem.W.mg_of X G n_NoNumber, n_NoNumber, x_NoNumber, e_NoNumber, PySem.W.mg_none_of X G z_isinstance, PySem.W.mg_none_of X G z_int, PySem.W.mg_none_of X G z_bool, PySem.W.mg_none_of X G z_tuple, PySem.W.mg_none_of X G z_str, PySem.W.mg_none_of X G z_list, PySem.W.mg_none_of X G z_abs, PySem.W.mg_none_of X G z_len, PySem.W.mg_none_of X G z_range, PySem.W.mg_none_of X G z_max, PySem.W.mg_none_of X G z_min, PySem.W.mg_none_of X G z_zip, PySem.W.mg_none_of X G z_all⟩
  exact ⟨PySem.W.fnOf "law" "law" (defArgs s_law) (defBody s_law) (defScope s_law) .none kV49 dc49 pm49 an49 cd49 ct49, fun s v => .of_eq rfl, fun base _ _ => ok_law T⟩
theorem walk {l : PySem.W.OpenLaw} {q : Program} {loose : List Str} {XP : (Str → Option Value) → Heap → Prop} {YP : World → Heap → Prop} {d : DefRec} {K : Params → PySem.W.Frag} (hn : l.most = some 63) (hdf : d.params.defaults = [])
    (hY : ∀ (w : World) (h : Heap), YP w h → (K w.params).In h)
    (F : ∀ (w : World) (mg : Str → Option Value) (fa : Addr) (h : Heap), (K w.params).In h → h.Ns mainGlobals mg → mg d.name = some (.ref fa) →
      ∃ fd : FuncData, (∀ (s : Shared) (u : Value), BindsTo s fd ⟨[u], []⟩ [("_law_script", u)]) ∧ ∀ base : Heap, (K w.params).In base → base.Ns mainGlobals mg → FnOk l.prog w (K w.params) mg base CX0 11 fa fd ["_law_script"] (sp_law (K w.params))) :
    PySem.W.WalkO q loose XP YP l.row.toRowW d [] (fun f vs => PySem.call f vs) :=
  L2.walk_of (n := 63) (k := 11) (x := "_law_script") (CX := fun _ => CX0) (sp := fun w => sp_law (K w.params)) hn (by decide) hdf ⟨rfl, by decide, by decide⟩ hY F (fun _ _ a ns hl _ hS => ⟨a, ns, rfl, hS, hl, fun _ => rfl⟩) fun _ _ _ _ _ z => z
end MyLaw
open PySem PySem.W PyProof.Rows
set_option maxRecDepth 100000 in
set_option maxHeartbeats 0 in
theorem PySem.Challenge.cw_markscale_k36_dots_holds : PySem.Challenge.rw_markscale_k36_dots.Holds := by
  w_on; o_law
  refine holds_open (q := MyLaw.hdV) (loose := [Str.ofString "number"]) (Xt := MyLaw.hdX MyLaw.hdV) (XP := XL MyLaw.hdV [])
    (Yf := Hook.obs (kHook MyLaw.hdKs.heap_1 MyLaw.hdKs MyLaw.hdKe)) (Ya := Hook.val (kHook MyLaw.hdKs.heap_1 MyLaw.hdKs MyLaw.hdKe)) (YP := Hook.says (kHook MyLaw.hdKs.heap_1 MyLaw.hdKs MyLaw.hdKe)) (N := 4268)
    MyLaw.hdL (Hook.of _) (Hook.keeps _) (fun s z => xl_of s (Bool.and_eq_true_iff.mp z).1) XL.keeps (by rfl)
    (by rfl) (by rfl) (fun s z => recFacts_of (Bool.and_eq_true_iff.mp z).2) (by rfl)
    (by first | assumption | decide +kernel) (by decide +kernel)
    ⟨rfl, rfl, rfl, rfl, rfl, by decide +kernel⟩ ?hw ?hc
  (case hw => w_witness2)
  k_fill
  refine MyLaw.walk (l := PySem.Challenge.rw_markscale_k36_dots) rfl rfl (fun w h Y => PySem.W.kIn_of Y) ?F
  case F =>
    intro w mg fa h KX G hmg
    refine' MyLaw.all_mk KX G hmg ?a0 ?l0 ?c0 ?k0 ?a1 ?l1 ?c1 ?k1 ?a2 ?l2 ?c2 ?k2 ?dl2 ?a3 ?l3 ?c3 ?k3 ?a4 ?l4 ?c4 ?k4 ?a5 ?l5 ?c5 ?k5 ?a6 ?l6 ?c6 ?k6 ?a7 ?l7 ?c7 ?k7 ?a8 ?l8 ?c8 ?k8 ?a9 ?l9 ?c9 ?k9 ?a10 ?l10 ?c10 ?k10 ?a11 ?l11 ?c11 ?k11 ?a12 ?l12 ?c12 ?k12 ?a13 ?l13 ?c13 ?k13 ?a14 ?l14 ?c14 ?k14 ?a15 ?l15 ?c15 ?k15 ?a16 ?l16 ?c16 ?k16 ?a17 ?l17 ?c17 ?k17 ?a18 ?l18 ?c18 ?k18 ?a19 ?l19 ?c19 ?k19 ?a20 ?l20 ?c20 ?k20 ?a21 ?l21 ?c21 ?k21 ?a22 ?l22 ?c22 ?k22 ?a23 ?l23 ?c23 ?k23 ?a24 ?l24 ?c24 ?k24 ?a25 ?l25 ?c25 ?k25 ?a26 ?l26 ?c26 ?k26 ?a27 ?l27 ?c27 ?k27 ?a28 ?l28 ?c28 ?k28 ?a29 ?l29 ?c29 ?k29 ?a30 ?l30 ?c30 ?k30 ?a31 ?l31 ?c31 ?k31 ?a32 ?l32 ?c32 ?k32 ?a33 ?l33 ?c33 ?k33 ?a34 ?l34 ?c34 ?k34 ?a35 ?l35 ?c35 ?k35 ?a36 ?l36 ?c36 ?k36 ?a37 ?l37 ?c37 ?k37 ?a38 ?l38 ?c38 ?k38 ?a39 ?l39 ?c39 ?k39 ?a40 ?l40 ?c40 ?k40 ?a41 ?l41 ?c41 ?k41 ?a42 ?l42 ?c42 ?k42 ?a43 ?l43 ?c43 ?k43 ?a44 ?l44 ?c44 ?k44 ?a45 ?l45 ?c45 ?k45 ?a46 ?l46 ?c46 ?k46 ?a47 ?l47 ?c47 ?k47 ?a48 ?l48 ?c48 ?k48 ?a49 ?l49 ?c49 ?k49 ?n_NoNumber ?x_NoNumber ?e_NoNumber ?z_isinstance ?z_int ?z_bool ?z_tuple ?z_str ?z_list ?z_abs ?z_len ?z_range ?z_max ?z_min ?z_zip ?z_all
    all_goals try k_is
    (case x_NoNumber => k_exc)
    (case e_NoNumber => kts_exm)
