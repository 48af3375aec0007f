import PyProof.Rows.All
import Wide.All
import OpenK.AllK
import Wide.FinOn
import Lean
import PyProof.EqAt
import PyProof.EqKinds
import PyProof.TupleCall
import PyProof.NeKinds
import PyProof.SumWalkG
import PySem.Challenge.RW_markscale_k27_least_round_step
set_option compiler.extract_closed false
set_option Elab.async false
set_option linter.all false
set_option maxRecDepth 100000
noncomputable section
abbrev Fg := PySem.W.Frag
abbrev Pn := List (PySem.Addr × PySem.Obj)
section
set_option maxRecDepth 100000
set_option maxHeartbeats 0
namespace MyLaw
open PySem PySem.W
def hdF (s : String) : Str := ⟨⟨(PySem.W.S.toListS s).map Char.toNat⟩⟩
theorem hdFe : @Str.ofString = hdF := by
  rw [Str.ofString_eq_byList]; funext s
  show (⟨⟨(String.toList s).map Char.toNat⟩⟩ : Str) = _
  rw [PySem.W.S.toListS_eq]; rfl
abbrev hdP : Program := PySem.Challenge.pw_markscale_k27_least_round_step
abbrev hdR : OpenRow := OpenLaw.row PySem.Challenge.rw_markscale_k27_least_round_step
def hdG : PSigma fun G : (String → Str) → Program => PySem.Challenge.pw_markscale_k27_least_round_step = G Str.ofString := by
  apply PSigma.mk
  case snd =>
    delta PySem.Challenge.pw_markscale_k27_least_round_step
    generalize Str.ofString = f
    exact rfl
def hdK : List Nat := [1, 2, 3, 4, 6, 7, 9, 10, 11, 12, 13, 14, 15, 17, 19, 20, 21, 22, 23, 24, 25, 26, 27, 28, 29, 30, 32, 34, 35, 36, 38, 39, 40, 41, 42, 43, 44, 45, 46, 47, 48, 50, 51, 53, 54, 55, 56, 57, 58, 59, 60, 61, 62, 63, 64, 65, 66, 67, 68, 69, 70, 71, 72, 73, 74, 75, 76, 77, 78, 79, 80, 81, 84, 85, 86, 87, 88, 89, 90, 91, 92, 93, 94, 95, 96, 97, 98]
def hdV : Program := PySem.W.view hdP hdK
end MyLaw
def PySem.W.Fast.tw15254762817598934227 : PySem.Program := MyLaw.hdG.1 MyLaw.hdF
theorem PySem.W.Fast.te15254762817598934227 : PySem.Challenge.pw_markscale_k27_least_round_step = PySem.W.Fast.tw15254762817598934227 := MyLaw.hdG.2.trans (congrArg MyLaw.hdG.1 MyLaw.hdFe)
namespace MyLaw
open PySem PySem.W
abbrev hdQ : Program := PySem.W.Fast.tw15254762817598934227
def hdT : Program := PySem.W.view hdQ hdK
theorem hdE : hdV = hdT := congrArg (fun p => PySem.W.view p hdK) PySem.W.Fast.te15254762817598934227
abbrev hdX (q : Program) (s : Shared) : Bool := xlAt q [] s && recOk (OpenRow.toRowW hdR).records s
def HdHyp (K : Params → Frag) (as : List Addr) : Prop := ∀ (K' : Params → Frag) (as' : List Addr), (∀ P, as' = (K' P).map (·.1)) → K' = K → as' = as → hdR.Holds
def hdPick (K : Params → Frag) (as : List Addr) (_ : HdHyp K as → hdR.Holds) (e : ∀ P, as = (K P).map (·.1)) : List Addr := let _ := e; as
local macro_rules
  | `(tactic| o_head (kHook $K $as $e)) => `(tactic| exact (show MyLaw.HdHyp _ _ from by assumption) $K $as $e rfl rfl)
def hdKs : List Addr := by
  apply hdPick
  case x => intro hyp; k_head
  case e => intro P; kernel_rfl
abbrev hdKf : Params → Frag := MyLaw.hdKs.heap_1
theorem hdKe : ∀ P, hdKs = (MyLaw.hdKs.heap_1 P).map (·.1) := by intro P; kernel_rfl
def hdKG : PSigma fun G : (String → Str) → Params → Frag => MyLaw.hdKs.heap_1 = G Str.ofString := by
  apply PSigma.mk
  case snd =>
    delta MyLaw.hdKs.heap_1
    generalize Str.ofString = f
    exact rfl
def hdTp (tb : String → Option Builtin) (p : Program) (w : World) (n₀ : Nat) (ann : Option Value) : Nat → SharedT → Thread → Option SharedT
  | 0, _, _ => none
  | n + 1, s, t => match through t with
    | true => some s
    | false => match PySem.W.Fast.tw6613529449190102663 n₀ ann t with
      | false => none
      | true => match PySem.W.Fast.tw10156331382660048174 (PySem.W.Fast.tw11892475500146522536 tb) p w s t with
        | some (s', t') => hdTp tb p w n₀ ann n s' t'
        | none => none
theorem hdTp_of {tb : String → Option Builtin} {p : Program} {w : World} {n₀ : Nat} {ann : Option Value} : ∀ {n : Nat} {s r : SharedT} {t : Thread}, hdTp tb p w n₀ ann n s t = some r → topRun tb p w n₀ ann n s.abs t = some r.abs
  | 0, _, _, _, h => by cases h
  | n + 1, s, r, t, h => by
    unfold hdTp at h
    rw [← PySem.W.Fast.te6613529449190102663, ← PySem.W.Fast.te10156331382660048174, ← PySem.W.Fast.te11892475500146522536] at h
    unfold topRun
    cases he : through t with
    | true => rw [he] at h; cases h; rfl
    | false =>
      rw [he] at h
      cases hk : stepOk n₀ ann t with
      | false => rw [hk] at h; cases h
      | true =>
        rw [hk] at h
        cases hs : stepT (denote tb) p w s t with
        | none => rw [hs] at h; cases h
        | some q => obtain ⟨s₂, t₂⟩ := q; rw [hs] at h; rw [stepT_spec hs]; exact hdTp_of h
def hdFill : List Obj → Nat → BT → BT
  | [], _, t => t
  | o :: r, i, t => hdFill r (i + 1) (t.ins i o)
def hdTo (s : Shared) : SharedT := ⟨hdFill s.heap.objs.toList 0 .nil, s.heap.objs.size, s.heap.life, s.gens, s.drawn, s.toks, s.os⟩
abbrev hdTb := PySem.W.Fast.tw14364793385576792824
abbrev hdAft (s₀ s₁ : Shared) : Option Shared := match staticsOk (importedModules hdQ.main.body) s₀.heap s₁.heap && namesBound hdQ s₁.heap && gensDone s₁ && laidKept s₀.heap s₁.heap with
  | true => some s₁
  | false => none
def hdFrom (w : World) (s₀ : Shared) : Option Shared := match s₀.heap.isNs mainGlobals && s₀.gens.size == 0 with
  | true => (hdTp hdTb hdQ w s₀.heap.objs.size (s₀.heap.nsMap mainGlobals "__annotations__") 6664 (hdTo s₀) (topStub hdQ)).bind fun r => hdAft s₀ r.abs
  | false => none
def hdRun (w : World) : Option Shared := (fencedOpening hdTb hdQ w 6664).bind (hdFrom w)
theorem hdO : ∀ w : World, (fencedOpening hdTb hdQ w 6664).map (fun s => (hdTo s).abs) = fencedOpening hdTb hdQ w 6664 := by intro w; kernel_rfl
theorem hdRun_of {w : World} {s : Shared} (h : hdRun w = some s) : openEnds hdTb hdQ w 6664 = some s := by
  unfold hdRun at h
  unfold openEnds
  have o := hdO w
  generalize fencedOpening hdTb hdQ w 6664 = x at h o ⊢
  cases x with
  | none => cases h
  | some s₀ =>
    have o : (hdTo s₀).abs = s₀ := Option.some.inj o
    have h : hdFrom w s₀ = some s := h
    show topFrom hdTb hdQ w 6664 s₀ = some s
    unfold hdFrom at h
    unfold topFrom
    cases hb : (s₀.heap.isNs mainGlobals && s₀.gens.size == 0) with
    | false => rw [hb] at h; cases h
    | true =>
      rw [hb] at h
      dsimp only at h ⊢
      obtain ⟨r, h1, h2⟩ := Option.bind_eq_some_iff.mp h
      have h3 := hdTp_of h1
      rw [o] at h3
      rw [h3]
      exact h2
abbrev hdSee (s : Shared) := PySem.W.Fast.tw4187177175401517315 hdT [hdF "number", hdF "axis_for"] (PySem.W.Fast.tw5923862056798008813 hdQ.main.body) (hdX hdT) true s
abbrev hdGood := openGood hdT [hdF "number", hdF "axis_for"]
open PyProof PyProof.Rows
theorem hdA : ∀ w : World, Option.map (fun s => (hdSee s).1) (hdRun w) = some (expectedOf hdT) := by intro w; kernel_rfl
theorem hdB : ∀ w : World, Option.map (fun s => ((hdSee s).2.1, (hdSee s).2.2.1, (hdSee s).2.2.2.1)) (hdRun w) = some (bltViewBooted, true, true) := by intro w; kernel_rfl
theorem hdC : ∀ w : World, Option.map (fun s => (hdSee s).2.2.2.2) (hdRun w) = some (pinGoodD (drecsOf hdT), plainGoodE hdT (looseW hdT [hdF "number", hdF "axis_for"]), plainGoodD hdT [hdF "number", hdF "axis_for"], wideGood hdT, clsGoodW hdT [hdF "number", hdF "axis_for"]) := by intro w; kernel_rfl
theorem hdD : ∀ w : World, Option.map (fun s => hdKs.map s.heap.get?) (hdRun w) = some ((hdKG.1 hdF w.params).map fun p => some p.2) := by intro w; kernel_rfl
theorem hdL : LeftO hdR.prog hdV [Str.ofString "number", Str.ofString "axis_for"] (hdX hdV) (kHook hdKf hdKs hdKe).obs (kHook hdKf hdKs hdKe).val 6664 := by
  intro w
  show Option.map (fun s => (openSeen hdV [Str.ofString "number", Str.ofString "axis_for"] (importedModules (PySem.Challenge.pw_markscale_k27_least_round_step).main.body) (hdX hdV) true s, hdKs.map s.heap.get?)) (openEnds treeTable PySem.Challenge.pw_markscale_k27_least_round_step w 6664) = some (openGood hdV [Str.ofString "number", Str.ofString "axis_for"], (hdKf w.params).map fun p => some p.2)
  have eK : hdKf = hdKG.1 hdF := hdKG.2.trans (congrArg hdKG.1 hdFe)
  rw [hdE, hdFe, PySem.W.Fast.te15254762817598934227, PySem.W.Fast.te4187177175401517315, PySem.W.Fast.te5923862056798008813, PySem.W.Fast.te14364793385576792824, eK]
  have a := hdA w
  have b := hdB w
  have c := hdC w
  have d := hdD w
  cases hx : hdRun w with
  | none => rw [hx] at a; cases a
  | some s =>
    rw [hx] at a b c d
    rw [show openEnds PySem.W.Fast.tw14364793385576792824 PySem.W.Fast.tw15254762817598934227 w 6664 = some s from hdRun_of hx]
    have a : (hdSee s).1 = expectedOf hdT := Option.some.inj a
    have b := Option.some.inj b
    have c : (hdSee s).2.2.2.2 = _ := Option.some.inj c
    have d : hdKs.map s.heap.get? = (hdKG.1 hdF w.params).map fun p => some p.2 := Option.some.inj d
    obtain ⟨b1, b2⟩ := Prod.mk.inj b
    obtain ⟨b2, b3⟩ := Prod.mk.inj b2
    show some (hdSee s, hdKs.map s.heap.get?) = some (hdGood, _)
    rw [d]
    generalize hdSee s = y at a b1 b2 b3 c ⊢
    obtain ⟨y1, y2, y3, y4, y5⟩ := y
    subst a b1 b2 b3 c
    rfl
end MyLaw
end
namespace L2
open PySem PySem.Spec PyProof.Rows
abbrev Key := Sum Int Str
def keyIs : Key → Value → Bool
  | .inl k, v => Value.isInt k v
  | .inr x, v => Value.isStrOf x v
def keyH (w : World) : Key → Int
  | .inl k => hashInt k
  | .inr x => hashStr w x
theorem keyIs_shape : ∀ {k : Key} {v : Value}, keyIs k v = true → (∃ i t, k = Sum.inl i ∧ v = Value.int i t) ∨ (∃ x t, k = Sum.inr x ∧ v = Value.str x t)
  | .inl i, v, h => by
    obtain ⟨t, e⟩ := Value.isInt_shape (k := i) (v := v) h
    exact .inl ⟨i, t, rfl, e⟩
  | .inr x, v, h => by
    obtain ⟨t, e⟩ := Value.isStrOf_shape (x := x) (v := v) h
    exact .inr ⟨x, t, rfl, e⟩
theorem key_ll (a b : Int) : decide ((Sum.inl a : Key) = Sum.inl b) = (a == b) := by
  by_cases e : a = b
  · subst e; simp
  · have h : ¬ (Sum.inl a : Key) = Sum.inl b := fun q => e (Sum.inl.inj q)
    rw [decide_eq_false h]
    exact (beq_eq_false_iff_ne.mpr e).symm
theorem key_rr (a b : Str) : decide ((Sum.inr a : Key) = Sum.inr b) = decide (a = b) := by
  by_cases e : a = b
  · subst e; simp
  · have h : ¬ (Sum.inr a : Key) = Sum.inr b := fun q => e (Sum.inr.inj q)
    rw [decide_eq_false h, decide_eq_false e]
theorem key_lr (a : Int) (b : Str) : decide ((Sum.inl a : Key) = Sum.inr b) = false := decide_eq_false (fun q => nomatch q)
theorem key_rl (a : Str) (b : Int) : decide ((Sum.inr a : Key) = Sum.inl b) = false := decide_eq_false (fun q => nomatch q)
def mixKind (prog : Program) (w : World) : PySem.KeyKind prog w Key where
  is := keyIs
  hash := keyH w
  inj := fun v a b ha hb => by
    rcases keyIs_shape ha with ⟨i, t, rfl, rfl⟩ | ⟨x, t, rfl, rfl⟩
    · rcases keyIs_shape hb with ⟨j, u, rfl, e⟩ | ⟨y, u, rfl, e⟩
      · injection e with e1 _; rw [e1]
      · exact nomatch e
    · rcases keyIs_shape hb with ⟨j, u, rfl, e⟩ | ⟨y, u, rfl, e⟩
      · exact nomatch e
      · injection e with e1 _; rw [e1]
  byValue := fun k v h => by
    rcases keyIs_shape h with ⟨i, t, rfl, rfl⟩ | ⟨x, t, rfl, rfl⟩ <;> rfl
  pyHash := fun hv h => by
    rcases keyIs_shape hv with ⟨i, t, rfl, rfl⟩ | ⟨x, t, rfl, rfl⟩
    · exact wpAny_pyHash_int h
    · exact wpAny_pyHash_str h
  eqBool := fun hu hv h => by
    rcases keyIs_shape hu with ⟨i, t, rfl, rfl⟩ | ⟨x, t, rfl, rfl⟩
    · rcases keyIs_shape hv with ⟨j, u, rfl, rfl⟩ | ⟨y, u, rfl, rfl⟩
      · rw [key_ll] at h; exact wpAny_eqBool_int h
      · rw [key_lr] at h; exact SeqAt.EqAt.int_str i t y u _ _ _ _ h
    · rcases keyIs_shape hv with ⟨j, u, rfl, rfl⟩ | ⟨y, u, rfl, rfl⟩
      · rw [key_rl] at h; exact SeqAt.EqAt.str_int x t j u _ _ _ _ h
      · rw [key_rr] at h; exact wpAny_eqBool_str h
  «strs» := fun k x t v h => by
    rcases keyIs_shape h with ⟨i, u, rfl, e⟩ | ⟨y, u, rfl, e⟩
    · exact nomatch e
    · injection e with e1 _
      subst e1
      cases v <;> rfl
end L2
namespace L2
open PySem PySem.Spec PyProof.Rows
inductive V where
  | non | bl (b : Bool) | int (i : Int) | str (x : Str) | byt (b : Array UInt8) | flt (b : UInt64) | ref (a : Addr) | ty (n : String)
  deriving DecidableEq
def RelV : V → Value → Prop
  | .non, u => u = Value.none
  | .bl b, u => u = Value.bool b
  | .int i, u => ∃ t, u = Value.int i t
  | .str x, u => ∃ t, u = Value.str x t
  | .byt b, u => ∃ t, u = Value.bytes b t
  | .flt b, u => ∃ t, u = Value.float b t
  | .ref a, u => u = Value.ref a
  | .ty n, u => u = Value.type n
abbrev Vals : List V → List Value → Prop := Paired RelV
theorem Vals.length {xs : List V} {us : List Value} (r : Vals xs us) : xs.length = us.length := Paired.length r
theorem Vals.get : ∀ {xs : List V} {us : List Value} {i : Nat} {x : V}, Vals xs us → xs[i]? = some x → ∃ u, us[i]? = some u ∧ RelV x u
  | _, _, _, _, .nil, e => by simp at e
  | _, _, 0, _, .cons r _, e => by simp at e; subst e; exact ⟨_, rfl, r⟩
  | _, _, i + 1, x, .cons _ t, e => by
    obtain ⟨u, h1, h2⟩ := Vals.get (i := i) (x := x) t (by simpa using e)
    exact ⟨u, by simpa using h1, h2⟩
theorem Vals.set {x : V} {u : Value} (r : RelV x u) : ∀ {xs : List V} {us : List Value} (i : Nat), Vals xs us → Vals (xs.set i x) (us.set i u)
  | _, _, _, .nil => .nil
  | _, _, 0, .cons _ t => .cons r t
  | _, _, i + 1, .cons q t => .cons q (Vals.set r i t)
theorem Vals.append : ∀ {xs ys : List V} {us ws : List Value}, Vals xs us → Vals ys ws → Vals (xs ++ ys) (us ++ ws)
  | _, _, _, _, .nil, s => s
  | _, _, _, _, .cons r t, s => .cons r (Vals.append t s)
theorem Vals.take : ∀ {xs : List V} {us : List Value} (n : Nat), Vals xs us → Vals (xs.take n) (us.take n)
  | _, _, 0, _ => .nil
  | _, _, _ + 1, .nil => .nil
  | _, _, n + 1, .cons r t => .cons r (Vals.take n t)
theorem Vals.drop : ∀ {xs : List V} {us : List Value} (n : Nat), Vals xs us → Vals (xs.drop n) (us.drop n)
  | _, _, 0, r => r
  | _, _, _ + 1, .nil => .nil
  | _, _, n + 1, .cons _ t => Vals.drop n t
def RelO : Option V → Option Value → Prop
  | some v, some u => RelV v u
  | none, none => True
  | _, _ => False
def KV {κ : Type} : List (κ × V) → List (κ × Value) → Prop := Paired fun (p : κ × V) (q : κ × Value) => p.1 = q.1 ∧ RelV p.2 q.2
def kV : Key → V
  | .inl i => .int i
  | .inr x => .str x
inductive HO where
  /-- a list -/
  | lst (xs : List V)
  /-- a tuple (never changes) -/
  | tup (xs : List V)
  /-- a dict whose keys are ints and texts; one whose keys are tuples of ints and texts (the empty one is both) -/
  | dK (kvs : List (Key × V)) | dT (kvs : List (List Key × V))
  /-- a set of ints: its members, its size -/
  | set (S : Int → Bool) (n : Nat)
  /-- an instance of the class at C, its dict at dx, its attributes -/
  | ins (C dx : Addr) (fs : List (Str × V))
  /-- the dict of the instance at x -/
  | own (x : Addr)
  /-- the dict of an exception -/
  | xd (fs : List (Str × V))
  /-- a bound method, f of x -/
  | met (f x : Addr)
  /-- a range object lo, lo + 1, .. below hi -/
  | rng (lo hi : Int)
  /-- a thing that is known to the object (the script; a dict while a loop walks it): read, never written while it is so -/
  | frz (o : Obj) (u : HO)
  /-- a code object's table -/
  | tbl (ps : Array Value)
  /-- any other thing, by what is true of its one object (a def of one's own: SetO a S n := HO.ext fun h => ..) -/
  | ext (φ : Heap → Prop)
abbrev Hp := Addr → Option HO
def upd (H : Hp) (a : Addr) (o : HO) : Hp := fun b => if b = a then some o else H b
theorem upd_same {H : Hp} {a : Addr} {o : HO} : upd H a o a = some o := by unfold upd; rw [if_pos rfl]
theorem upd_ne {H : Hp} {a b : Addr} {o : HO} (h : b ≠ a) : upd H a o b = H b := by unfold upd; rw [if_neg h]
theorem ne_of {H : Hp} {a b : Addr} {o u : HO} (h : H a = some o) (h' : H b = some u) (d : o ≠ u) : a ≠ b := by
  intro e; subst e; rw [h] at h'; exact d (Option.some.inj h')
theorem ne_of_none {H : Hp} {a b : Addr} {o : HO} (h : H a = some o) (h' : H b = none) : a ≠ b := by
  intro e; subst e; rw [h] at h'; cases h'
section
variable (P : Program) (w : World)
def ObjOk (H : Hp) (h : Heap) (a : Addr) : HO → Prop
  | .lst xs => xs.length ≤ sizeLine ∧ ∃ (its : List Value) (n : Nat), Vals xs its ∧ h.get? a = some { cls := .type "list", data := .seq its.toArray n }
  | .tup xs => xs.length ≤ sizeLine ∧ ∃ its : List Value, Vals xs its ∧ IsTup h a its.toArray
  | .dK kvs => kvs.length ≤ sizeLine ∧ (a == sysModules) = false ∧ ∃ vs, KV kvs vs ∧ h.DictOf (mixKind P w) a vs
  | .dT kvs => kvs.length ≤ sizeLine ∧ (a == sysModules) = false ∧ ∃ xs : List (List Key × Addr × Value),
      Paired (fun (p : List Key × V) (q : List Key × Addr × Value) => p.1 = q.1 ∧ H q.2.1 = some (.tup (p.1.map kV)) ∧ RelV p.2 q.2.2) kvs xs ∧
      ∃ o es ep, h.get? a = some o ∧ o.ExactDict ∧ o.data = .dict es ep ∧ es.toList = xs.map (entryOfKey (tupleKind (mixKind P w))) ∧ (xs.map (·.1)).Nodup
  | .set S n => h.SetOf (intKind P w) a S n
  | .ins C dx fs => H dx = some (.own a) ∧ fs.length ≤ 1000 ∧ dx ≠ a ∧ h.get? a = some (PySem.W.instObj C dx) ∧
      ∃ mA, h.Ns1 dx mA ∧ (∀ f, RelO (fs.lookup f) (mA f)) ∧ PySem.Within mA (fs.map (·.1))
  | .own _ => ∃ o, h.get? a = some o
  | .xd fs => ∃ mA, h.Ns1 a mA ∧ ∀ f, RelO (fs.lookup f) (mA f)
  | .rng lo hi => ∃ t u v, h.get? a = some { cls := .type "range", data := .fields #[.int lo t, .int hi u, .int 1 v] }
  | .frz o u => h.get? a = some o ∧ ObjOk H h a u
  | .tbl ps => h.get? a = some { cls := .none, data := .fields ps }
  | .met f x => h.get? a = some (PySem.W.methodObj (.ref f) (.ref x))
  | .ext φ => φ h ∧ (∃ o, h.get? a = some o) ∧ ∀ h1 h2 : Heap, φ h1 → (∀ o, h1.get? a = some o → h2.get? a = some o) → φ h2
def HOk (H : Hp) (h : Heap) : Prop := ∀ a o, H a = some o → ObjOk P w H h a o
end
section
variable {P : Program} {w : World} {H H' : Hp} {h h' : Heap} {a : Addr} {o : HO}
theorem ObjOk.lt (x : ObjOk P w H h a o) : a < h.objs.size := by
  cases o with
  | lst xs => obtain ⟨_, _, _, _, e⟩ := x; exact Heap.lt_size e
  | tup xs => obtain ⟨_, _, _, p⟩ := x; exact p.lt
  | dK kvs => obtain ⟨_, _, _, _, o, _, _, e, _⟩ := x; exact Heap.lt_size e
  | dT kvs => obtain ⟨_, _, _, _, o, _, _, e, _⟩ := x; exact Heap.lt_size e
  | set S n => obtain ⟨o, _, _, _, e, _⟩ := x; exact Heap.lt_size e
  | ins C dx fs => obtain ⟨_, _, _, e, _⟩ := x; exact Heap.lt_size e
  | own y => obtain ⟨_, e⟩ := x; exact Heap.lt_size e
  | xd fs => obtain ⟨_, ⟨_, _, _, e, _⟩, _⟩ := x; exact Heap.lt_size e
  | rng lo hi => obtain ⟨_, _, _, e⟩ := x; exact Heap.lt_size e
  | frz ob u => obtain ⟨e, _⟩ := x; exact Heap.lt_size e
  | tbl ps => exact Heap.lt_size (show h.get? a = some _ from x)
  | met f y => exact Heap.lt_size (show h.get? a = some _ from x)
  | ext φ => obtain ⟨_, ⟨_, e⟩, _⟩ := x; exact Heap.lt_size e
theorem Paired.mapP {α β : Type} {F G : α → β → Prop} : ∀ {l₁ : List α} {l₂ : List β}, Paired F l₁ l₂ → (∀ a b, F a b → G a b) → Paired G l₁ l₂
  | _, _, .nil, _ => .nil
  | _, _, .cons r t, f => .cons (f _ _ r) (Paired.mapP t f)
theorem ObjOk.stay (x : ObjOk P w H h a o) (k : ∀ b u, (b = a ∨ H b = some (.own a)) → h.get? b = some u → h'.get? b = some u)
    (ho : ∀ b, H b = some (.own a) → H' b = some (.own a)) (ht : ∀ b xs, H b = some (.tup xs) → H' b = some (.tup xs)) : ObjOk P w H' h' a o := by
  induction o with
  | lst xs => obtain ⟨z, its, n, r, e⟩ := x; exact ⟨z, its, n, r, k _ _ (.inl rfl) e⟩
  | tup xs => obtain ⟨z, its, r, ob, e, c⟩ := x; exact ⟨z, its, r, ob, k _ _ (.inl rfl) e, c⟩
  | dK kvs => obtain ⟨z, y, vs, r, ob, es, ep, e, c⟩ := x; exact ⟨z, y, vs, r, ob, es, ep, k _ _ (.inl rfl) e, c⟩
  | dT kvs =>
    obtain ⟨z, y, xs, r, ob, es, ep, e, c⟩ := x
    exact ⟨z, y, xs, Paired.mapP r fun p q z => ⟨z.1, ht _ _ z.2.1, z.2.2⟩, ob, es, ep, k _ _ (.inl rfl) e, c⟩
  | set S n => obtain ⟨ob, es, ep, t, e, c⟩ := x; exact ⟨ob, es, ep, t, k _ _ (.inl rfl) e, c⟩
  | ins C dx fs =>
    obtain ⟨d, z, ne, e, mA, ⟨od, es, ep, e2, c⟩, r⟩ := x
    exact ⟨ho _ d, z, ne, k _ _ (.inl rfl) e, mA, ⟨od, es, ep, k _ _ (.inr d) e2, c⟩, r⟩
  | own y => obtain ⟨ob, e⟩ := x; exact ⟨ob, k _ _ (.inl rfl) e⟩
  | xd fs => obtain ⟨mA, ⟨od, es, ep, e, c⟩, r⟩ := x; exact ⟨mA, ⟨od, es, ep, k _ _ (.inl rfl) e, c⟩, r⟩
  | rng lo hi => obtain ⟨t, u, v, e⟩ := x; exact ⟨t, u, v, k _ _ (.inl rfl) e⟩
  | frz ob u ih => obtain ⟨e, q⟩ := x; exact ⟨k _ _ (.inl rfl) e, ih q⟩
  | tbl ps =>
    have e : h.get? a = some { cls := .none, data := .fields ps } := x
    show h'.get? a = some { cls := .none, data := .fields ps }
    exact k a _ (.inl rfl) e
  | met f y =>
    have e : h.get? a = some (PySem.W.methodObj (.ref f) (.ref y)) := x
    show h'.get? a = some (PySem.W.methodObj (.ref f) (.ref y))
    exact k a _ (.inl rfl) e
  | ext φ => obtain ⟨p, ⟨o, e⟩, st⟩ := x; exact ⟨st _ _ p fun o q => k _ _ (.inl rfl) q, ⟨o, k _ _ (.inl rfl) e⟩, st⟩
theorem HOk.lt (x : HOk P w H h) (e : H a = some o) : a < h.objs.size := (x a o e).lt
theorem HOk.fresh (x : HOk P w H h) (e : h.objs.size ≤ a) : H a = none := by
  cases q : H a with
  | none => rfl
  | some u => exact absurd (Nat.lt_of_lt_of_le (x.lt q) e) (Nat.lt_irrefl _)
theorem HOk.kept (x : HOk P w H h) (k : ∀ b u, h.get? b = some u → h'.get? b = some u) : HOk P w H h' := fun a o e =>
  (x a o e).stay (fun b u _ q => k b u q) (fun _ q => q) fun _ _ q => q
theorem HOk.laid (x : HOk P w H h) (k : ∀ b u, h.get? b = some u → h'.get? b = some u) (hp : h.objs.size ≤ a) (new : ObjOk P w (upd H a o) h' a o) : HOk P w (upd H a o) h' := fun b u e => by
  have hn := x.fresh hp
  by_cases hb : b = a
  · subst hb; rw [upd_same] at e; cases e; exact new
  · rw [upd_ne hb] at e
    exact (x b u e).stay (fun c v _ q => k c v q) (fun c q => by rw [upd_ne (ne_of_none q hn)]; exact q) fun c xs q => by rw [upd_ne (ne_of_none q hn)]; exact q
end
def Rd (H : Hp) (a : Addr) (u : HO) : Prop := H a = some u ∨ ∃ o, H a = some (.frz o u)
theorem Rd.ok {P : Program} {w : World} {H : Hp} {h : Heap} {a : Addr} {u : HO} (r : Rd H a u) (x : HOk P w H h) : ObjOk P w H h a u := by
  rcases r with r | ⟨o, r⟩
  · exact x a u r
  · obtain ⟨_, q⟩ := x a _ r
    exact q
def Mut : Option HO → Prop
  | some (.lst _) => True
  | some (.dK _) => True
  | some (.dT _) => True
  | some (.set _ _) => True
  | some (.ins _ _ _) => True
  | some (.ext _) => True
  | _ => False
section
variable {P : Program} {w : World} {H : Hp} {h h' : Heap} {x e : Addr} {o' : HO}
theorem HOk.write (ok : HOk P w H h) (mu : Mut (H x)) (he : e = x ∨ H e = some (.own x)) (k : ∀ b u, b ≠ e → h.get? b = some u → h'.get? b = some u) (heo : ∃ u, h'.get? e = some u)
    (new : ObjOk P w (upd H x o') h' x o') : HOk P w (upd H x o') h' := fun b u q => by
  have nown : ∀ c y, H c = some (.own y) → c ≠ x := fun c y r z => by subst z; rw [r] at mu; exact mu
  have ntup : ∀ c xs, H c = some (.tup xs) → c ≠ x := fun c xs r z => by subst z; rw [r] at mu; exact mu
  by_cases hb : b = x
  · subst hb; rw [upd_same] at q; cases q; exact new
  · rw [upd_ne hb] at q
    by_cases hbe : b = e
    · have q' : H b = some (.own x) := by
        rcases he with z | z
        · exact absurd (hbe.trans z) hb
        · rw [hbe]; exact z
      rw [q] at q'; cases q'
      obtain ⟨v, hv⟩ := heo
      exact ⟨v, by rw [hbe]; exact hv⟩
    · refine (ok b u q).stay (fun c v hc r => k c v ?_ r) (fun c r => by rw [upd_ne (nown c b r)]; exact r) fun c xs r => by rw [upd_ne (ntup c xs r)]; exact r
      rcases hc with rfl | hc
      · exact hbe
      · rintro rfl
        rcases he with z | z
        · exact nown c b hc z
        · rw [hc] at z; cases z; exact hb rfl
end
structure Un (fs ex : List Addr) (H H' : Hp) (h h' : Heap) : Prop where
  keep : ∀ b o, h.get? b = some o → H b = none → b ∉ fs → b ∉ ex → h'.get? b = some o
  slot : ∀ b o, h.get? b = some o → H b = none → b ∈ fs → b ∉ ex → ∃ sl, h'.get? b = some { o with slots := sl }
  free : ∀ b o, h.get? b = some o → H b = none → b ∉ ex → H' b = none
  there : ∀ b o, h.get? b = some o → b ∉ ex → ∃ o', h'.get? b = some o'
  tups : ∀ b xs, H b = some (.tup xs) → H' b = some (.tup xs)
  frzs : ∀ b o u, H b = some (.frz o u) → H' b = some (.frz o u)
  tbls : ∀ b ps, H b = some (.tbl ps) → ∃ more, H' b = some (.tbl (ps ++ more))
section
variable {fs fs' ex ex' : List Addr} {H H1 H2 : Hp} {h h1 h2 h' : Heap} {a x e : Addr} {o : HO}
theorem Un.any (u : Un fs ex H H1 h h1) {b : Addr} {ob : Obj} (q : h.get? b = some ob) (n : H b = none) (hx : b ∉ ex) : ∃ sl, h1.get? b = some { ob with slots := sl } := by
  by_cases hb : b ∈ fs
  · exact u.slot b ob q n hb hx
  · exact ⟨ob.slots, u.keep b ob q n hb hx⟩
theorem Un.kept (k : ∀ b u, h.get? b = some u → h'.get? b = some u) : Un fs ex H H h h' :=
  ⟨fun b ob q _ _ _ => k b ob q, fun b ob q _ _ _ => ⟨ob.slots, k b ob q⟩, fun _ _ _ n _ => n, fun b ob q _ => ⟨ob, k b ob q⟩, fun _ _ q => q, fun _ _ _ q => q, fun _ ps q => ⟨#[], by rw [q]; simp⟩⟩
theorem Un.refl : Un fs ex H H h h := Un.kept fun _ _ q => q
theorem Un.laid (k : ∀ b u, h.get? b = some u → h'.get? b = some u) (hp : h.objs.size ≤ a) (hn : H a = none) : Un fs ex H (upd H a o) h h' where
  keep := fun b u q _ _ _ => k b u q
  slot := fun b u q _ _ _ => ⟨u.slots, k b u q⟩
  free := fun b u q n _ => by rw [upd_ne (Nat.ne_of_lt (Nat.lt_of_lt_of_le (Heap.lt_size q) hp))]; exact n
  there := fun b u q _ => ⟨u, k b u q⟩
  tups := fun b xs q => by rw [upd_ne (ne_of_none q hn)]; exact q
  frzs := fun b u xs q => by rw [upd_ne (ne_of_none q hn)]; exact q
  tbls := fun b ps q => ⟨#[], by rw [upd_ne (ne_of_none q hn), q]; simp⟩
theorem Un.write (mu : Mut (H x)) (he : e = x ∨ H e = some (.own x)) (k : ∀ b u, b ≠ e → h.get? b = some u → h'.get? b = some u) (heo : ∃ u, h'.get? e = some u) : Un fs ex H (upd H x o) h h' := by
  have hx : ∀ b, H b = none → b ≠ x := fun b n z => by subst z; rw [n] at mu; exact mu
  have hb : ∀ b, H b = none → b ≠ e := fun b n z => by
    subst z
    rcases he with r | r
    · exact hx b n r
    · rw [n] at r; cases r
  have hm : ∀ b u, H b = some u → ¬ Mut (some u) → b ≠ x := fun b u q nm z => by subst z; rw [q] at mu; exact nm mu
  refine ⟨fun b u q n _ _ => k b u (hb b n) q, fun b u q n _ _ => ⟨u.slots, k b u (hb b n) q⟩, fun b u q n _ => by rw [upd_ne (hx b n)]; exact n, fun b u q _ => ?_,
    fun b xs q => by rw [upd_ne (hm b _ q fun z => z)]; exact q, fun b u xs q => by rw [upd_ne (hm b _ q fun z => z)]; exact q, fun b ps q => ⟨#[], by rw [upd_ne (hm b _ q fun z => z), q]; simp⟩⟩
  by_cases hbe : b = e
  · subst hbe; exact heo
  · exact ⟨u, k b u hbe q⟩
end
def trk (h : Heap) (H : Hp) : List Addr := (List.range h.objs.size).filter fun a => (H a).isSome
def hidT (h : Heap) (H : Hp) : Heap := PySem.W.hideAll h (trk h H)
theorem hidT_size (h : Heap) (H : Hp) : (hidT h H).objs.size = h.objs.size := PySem.W.hideAll_size _ _
theorem hidT_get {h : Heap} {H : Hp} {b : Addr} {o : Obj} (e : h.get? b = some o) (n : H b = none) : (hidT h H).get? b = some o :=
  PySem.W.hideAll_get _ e fun hm => by
    have q : (H b).isSome = true := (List.mem_filter.mp hm).2
    rw [n] at q; simp at q
theorem of_hidT {h : Heap} {H : Hp} {b : Addr} {o : Obj} (e : (hidT h H).get? b = some o) : h.get? b = some o ∧ H b = none := by
  have e' : h.get? b = some o := PySem.W.of_hideAll (trk h H) e
  refine ⟨e', ?_⟩
  cases q : H b with
  | none => rfl
  | some x =>
    have hm : b ∈ trk h H := List.mem_filter.mpr ⟨List.mem_range.mpr (Heap.lt_size e'), by simp [q]⟩
    have z : (hidT h H).get? b = none := PySem.W.hideAll_none (trk h H) hm
    rw [z] at e; cases e
end L2
namespace L2
open PySem PySem.Spec PyProof.Rows
structure Mod (K : Fg) (mg : Str → Option Value) (base : Heap) : Prop where
  kin : K.In base
  glob : base.Ns mainGlobals mg
  blt : ∃ mb, base.Ns builtinsNs mb ∧ ∀ x : Str, x ≠ "__name__" → mb x = bootBuiltins x
  nolimit : base.NoLimit
structure Cx where
  prog : Program
  w : World
  K : Fg
  mg : Str → Option Value
  base : Heap
  A : Around
  N : List Str
  s₀ : Shared
  H₀ : Hp
  env : Env
  outer : List Env
  stack : List Env
  ex : List Addr
  fn : Str → Bool
  calm : Bool
  pn : Pn
  xe : Value → Shared → Prop
def frs (l : List Env) : List Addr := l.filterMap (·.frame)
abbrev Cx.fs (X : Cx) : List Addr := frs X.outer
def Vis (sc : Scope) (x : Str) : Prop := sc.names.lookup x = some .local ∨ sc.names.lookup x = some .cell ∨ sc.names.lookup x = some .free
def Loc (sc : Scope) (x : Str) : Prop := sc.names.lookup x = some .local ∨ sc.names.lookup x = some .cell
def Look (env : Env) (h : Heap) (m : Str → Option Value) (x : Str) (u : Value) : Prop :=
  (env.kindOf x = some .local ∧ m x = some u) ∨ ((env.kindOf x = some .cell ∨ env.kindOf x = some .free) ∧ ∃ c, env.cells.lookup x = some c ∧ h.IsCell c (some u))
structure Cx.Ok (X : Cx) : Prop where
  mod : Mod X.K X.mg X.base
  kind : X.env.scope.kind = .function
  glob : X.env.globals = mainGlobals
  blt : X.env.builtins = builtinsNs
  above : X.s₀.heap.objs.size ≤ X.env.locals
  inj : ∀ x y c, X.env.cells.lookup x = some c → X.env.cells.lookup y = some c → x = y
  has : ∀ x, (X.env.kindOf x = some .cell ∨ X.env.kindOf x = some .free) → ∃ c, X.env.cells.lookup x = some c
  cab : ∀ x c, X.fn x = true → X.env.cells.lookup x = some c → X.s₀.heap.objs.size ≤ c
  hd : X.calm = true → X.A.handled = none
  frames : X.A.frames = some X.stack
  stk : X.stack = X.outer ∨ (X.stack = X.env :: X.outer ∧ X.env.frame = some X.env.locals)
  exf : ∀ b ∈ X.ex, b ≠ X.env.locals ∧ ∀ x c, X.env.cells.lookup x = some c → c ≠ b
  bs : ∀ b o, X.base.get? b = some o → X.s₀.heap.get? b = some o ∧ X.H₀ b = none
  bsz : X.base.objs.size ≤ X.s₀.heap.objs.size
  noex : ∀ b o, X.base.get? b = some o → b ∉ X.ex
  exfs : ∀ b ∈ X.ex, b ∉ X.fs
  funs : X.s₀.heap.FunFrames X.base X.outer
  frf : ∀ b ∈ X.fs, X.H₀ b = none
structure Inv (X : Cx) (pins : Pn) (σ : List (Option V)) (H : Hp) (s : Shared) : Prop where
  ok : X.Ok
  os : s.os = X.s₀.os
  bare : AllBare s.gens
  base : Un X.fs X.ex X.H₀ H X.s₀.heap s.heap
  loc : ∃ m, s.heap.Ns X.env.locals m ∧ ∀ (i : Nat) (x : Str) (v : V), X.N[i]? = some x → σ[i]? = some (some v) → Vis X.env.scope x → ∃ u, RelV v u ∧ Look X.env s.heap m x u
  cell : ∀ x c, X.env.cells.lookup x = some c → ∃ v, s.heap.IsCell c v
  free : H X.env.locals = none
  freeC : ∀ x c, X.env.cells.lookup x = some c → H c = none
  pin : ∀ p ∈ X.pn ++ pins, s.heap.get? p.1 = some p.2 ∧ H p.1 = none ∧ p.1 ≠ X.env.locals ∧ p.1 ∉ X.fs ∧ ∀ v, p.2.data ≠ .cell v
  hok : HOk X.prog X.w H s.heap
  len : σ.length = X.N.length
section
variable {X : Cx} {pins : Pn} {σ : List (Option V)} {H H' : Hp} {s : Shared} {h' : Heap}
theorem Cx.Ok.nofr (ok : X.Ok) {b : Addr} {o : Obj} (e : X.base.get? b = some o) : b ∉ X.fs := fun hb => by
  have := (ok.funs.mem hb).1
  rw [e] at this; cases this
theorem Inv.bs (I : Inv X pins σ H s) : ∀ b o, X.base.get? b = some o → s.heap.get? b = some o ∧ H b = none := fun b o e =>
  ⟨I.base.keep b o (I.ok.bs b o e).1 (I.ok.bs b o e).2 (I.ok.nofr e) (I.ok.noex b o e), I.base.free b o (I.ok.bs b o e).1 (I.ok.bs b o e).2 (I.ok.noex b o e)⟩
theorem Inv.bk (I : Inv X pins σ H s) : ∀ b o, X.base.get? b = some o → s.heap.get? b = some o := fun b o e => (I.bs b o e).1
theorem Inv.mod (I : Inv X pins σ H s) : Mod X.K X.mg X.base := I.ok.mod
theorem Inv.kIn (I : Inv X pins σ H s) : X.K.In s.heap := I.ok.mod.kin.keeps I.bk
theorem Inv.lt (I : Inv X pins σ H s) : X.env.locals < s.heap.objs.size := let ⟨_, hn, _⟩ := I.loc; hn.lt
theorem Inv.sz (I : Inv X pins σ H s) : X.s₀.heap.objs.size ≤ s.heap.objs.size := Nat.le_trans I.ok.above (Nat.le_of_lt I.lt)
theorem Inv.nofs (I : Inv X pins σ H s) {a : Addr} (h : s.heap.objs.size ≤ a) : a ∉ X.fs := fun hb => by
  obtain ⟨_, o, ho, _⟩ := I.ok.funs.mem hb
  exact absurd (Nat.lt_of_lt_of_le (Heap.lt_size ho) (Nat.le_trans I.sz h)) (Nat.lt_irrefl _)
theorem Inv.cne (I : Inv X pins σ H s) : ∀ x c, X.env.cells.lookup x = some c → c ≠ X.env.locals := fun x c e z => by
  obtain ⟨v, o, ho, hd⟩ := I.cell x c e
  obtain ⟨m, ⟨o', es, ep, ho', hd', _⟩, _⟩ := I.loc
  rw [z, ho'] at ho; cases ho; rw [hd'] at hd; cases hd
theorem Inv.funs (I : Inv X pins σ H s) : s.heap.FunFrames X.base X.outer := by
  have all : ∀ (l : List Env), (∀ b ∈ frs l, b ∈ X.fs) → X.s₀.heap.FunFrames X.base l → s.heap.FunFrames X.base l := by
    intro l
    induction l with
    | nil => intro _ _; trivial
    | cons env r ih =>
      intro hs hl
      obtain ⟨hk, ⟨L, o, hf, hn, ho, hd⟩, hr⟩ := hl
      have hL : L ∈ X.fs := hs L (by unfold frs; rw [List.filterMap_cons, hf]; exact List.mem_cons_self)
      obtain ⟨sl, e⟩ := I.base.slot L o ho (I.ok.frf L hL) hL fun z => I.ok.exfs L z hL
      exact ⟨hk, ⟨L, _, hf, hn, e, hd⟩, ih (fun b hb => hs b (by unfold frs; rw [List.filterMap_cons, hf]; exact List.mem_cons_of_mem _ hb)) hr⟩
  exact all X.outer (fun _ hb => hb) I.ok.funs
theorem Inv.stack (I : Inv X pins σ H s) : s.heap.FunFrames X.base X.stack := by
  rcases I.ok.stk with e | ⟨e, hf⟩
  · rw [e]; exact I.funs
  · rw [e]
    obtain ⟨m, hn, _⟩ := I.loc
    refine .cons (by rw [I.ok.kind]; decide) hf hn ?_ I.funs
    exact Heap.get?_none_of_le (Nat.le_trans I.ok.bsz I.ok.above)
theorem Inv.stkSub (I : Inv X pins σ H s) : ∀ b ∈ frs X.stack, b ∈ X.env.locals :: X.fs := fun b hb => by
  rcases I.ok.stk with e | ⟨e, hf⟩
  · rw [e] at hb; exact List.mem_cons_of_mem _ hb
  · rw [e] at hb
    unfold frs at hb
    rw [List.filterMap_cons, hf] at hb
    exact hb
theorem Inv.stkFree (I : Inv X pins σ H s) : ∀ b ∈ frs X.stack, H b = none := fun b hb => by
  rcases List.mem_cons.mp (I.stkSub b hb) with e | hb
  · rw [e]; exact I.free
  · obtain ⟨_, o, ho, _⟩ := I.ok.funs.mem hb
    exact I.base.free b o ho (I.ok.frf b hb) fun z => I.ok.exfs b z hb
theorem Inv.step {g' : Array GenState} {t' : Nat} {d' : Drawn} {ch : List Addr} (I : Inv X pins σ H s)
    (hch : ∀ b ∈ ch, (b ∈ X.ex ∨ X.s₀.heap.objs.size ≤ b) ∧ b ≠ X.env.locals ∧ (∀ x c, X.env.cells.lookup x = some c → c ≠ b) ∧ ∀ p ∈ X.pn ++ pins, p.1 ≠ b)
    (keep : ∀ b o, b ≠ X.env.locals → b ∉ X.fs → b ∉ ch → s.heap.get? b = some o → H b = none → h'.get? b = some o)
    (slot : ∀ b o, b ≠ X.env.locals → b ∈ X.fs → b ∉ ch → s.heap.get? b = some o → H b = none → ∃ sl, h'.get? b = some { o with slots := sl }) (free : ∀ b o, b ∉ ch → s.heap.get? b = some o → H b = none → H' b = none)
    (there : ∀ b o, b ∉ ch → s.heap.get? b = some o → ∃ o', h'.get? b = some o')
    (tups : ∀ b xs, H b = some (.tup xs) → H' b = some (.tup xs)) (frzs : ∀ b o u, H b = some (.frz o u) → H' b = some (.frz o u)) (tbls : ∀ b ps, H b = some (.tbl ps) → ∃ more, H' b = some (.tbl (ps ++ more)))
    (ns : ∀ m, s.heap.Ns X.env.locals m → h'.Ns X.env.locals m) (hok : HOk X.prog X.w H' h') (hg : AllBare g') :
    Inv X pins σ H' { s with heap := h', gens := g', drawn := d', toks := t' } := by
  have neL : ∀ b o, X.s₀.heap.get? b = some o → b ≠ X.env.locals := fun b o e => Nat.ne_of_lt (Nat.lt_of_lt_of_le (Heap.lt_size e) I.ok.above)
  have neC : ∀ b o, X.s₀.heap.get? b = some o → b ∉ X.ex → b ∉ ch := fun b o e hx hb => by
    rcases (hch b hb).1 with z | z
    · exact hx z
    · exact absurd (Nat.lt_of_lt_of_le (Heap.lt_size e) z) (Nat.lt_irrefl _)
  have cellK : ∀ x c, X.env.cells.lookup x = some c → ∀ v, s.heap.IsCell c v → h'.IsCell c v := fun x c e v ⟨o, ho, hd⟩ => by
    have nch : c ∉ ch := fun z => (hch c z).2.2.1 x c e rfl
    by_cases hc : c ∈ X.fs
    · obtain ⟨sl, q⟩ := slot c o (I.cne x c e) hc nch ho (I.freeC x c e)
      exact ⟨_, q, hd⟩
    · exact ⟨o, keep c o (I.cne x c e) hc nch ho (I.freeC x c e), hd⟩
  refine ⟨I.ok, I.os, hg, ⟨fun b o e n hb hx => ?_, fun b o e n hb hx => ?_, fun b o e n hx => ?_, fun b o e hx => ?_, fun b xs e => tups b xs (I.base.tups b xs e), fun b o xs e => frzs b o xs (I.base.frzs b o xs e), fun b ps e => ?_⟩, ?_, fun x c e => ?_, ?_, fun x c e => ?_, fun p hp => ?_, hok, I.len⟩
  · exact keep b o (neL b o e) hb (neC b o e hx) (I.base.keep b o e n hb hx) (I.base.free b o e n hx)
  · obtain ⟨sl, e1⟩ := I.base.slot b o e n hb hx
    obtain ⟨sl', e2⟩ := slot b _ (neL b o e) hb (neC b o e hx) e1 (I.base.free b o e n hx)
    exact ⟨sl', e2⟩
  · obtain ⟨o', e1⟩ := I.base.there b o e hx
    exact free b o' (neC b o e hx) e1 (I.base.free b o e n hx)
  · obtain ⟨o', e1⟩ := I.base.there b o e hx
    exact there b o' (neC b o e hx) e1
  · obtain ⟨m1, e1⟩ := I.base.tbls b ps e
    obtain ⟨m2, e2⟩ := tbls b _ e1
    exact ⟨m1 ++ m2, by rw [e2, Array.append_assoc]⟩
  · obtain ⟨m, hn, hl⟩ := I.loc
    refine ⟨m, ns m hn, fun i x v e1 e2 e3 => ?_⟩
    obtain ⟨u, r, l⟩ := hl i x v e1 e2 e3
    refine ⟨u, r, ?_⟩
    rcases l with l | ⟨k, c, e, z⟩
    · exact .inl l
    · exact .inr ⟨k, c, e, cellK x c e _ z⟩
  · obtain ⟨v, z⟩ := I.cell x c e
    exact ⟨v, cellK x c e v z⟩
  · obtain ⟨m, ⟨o, _, _, ho, _⟩, _⟩ := I.loc
    exact free _ o (fun z => (hch _ z).2.1 rfl) ho I.free
  · obtain ⟨v, o, ho, hd⟩ := I.cell x c e
    exact free c o (fun z => (hch c z).2.2.1 x c e rfl) ho (I.freeC x c e)
  · obtain ⟨e, n, ne, nf, d⟩ := I.pin p hp
    have nch : p.1 ∉ ch := fun z => (hch p.1 z).2.2.2 p hp rfl
    exact ⟨keep p.1 p.2 ne nf nch e n, free p.1 p.2 nch e n, ne, nf, d⟩
theorem Inv.un {t' : Nat} (I : Inv X pins σ H s) (u : Un X.fs [] H H' s.heap h') (hok : HOk X.prog X.w H' h') : Inv X pins σ H' { s with heap := h', toks := t' } := by
  obtain ⟨m, ⟨o, es, ep, ho, r⟩, _⟩ := id I.loc
  obtain ⟨sl, hL⟩ := u.any ho I.free (by simp)
  exact I.step (g' := s.gens) (d' := s.drawn) (ch := []) (fun _ z => nomatch z) (fun b o _ hb _ e n => u.keep b o e n hb (by simp)) (fun b o _ hb _ e n => u.slot b o e n hb (by simp)) (fun b o _ e n => u.free b o e n (by simp)) (fun b o _ e => u.there b o e (by simp)) u.tups u.frzs u.tbls (fun m' hm => by
    obtain ⟨o', es', ep', ho', r'⟩ := hm
    rw [ho] at ho'; cases ho'
    exact ⟨_, es', ep', hL, r'⟩) hok I.bare
theorem Inv.call {g' : Array GenState} {t' : Nat} {d' : Drawn} {ch : List Addr} (I : Inv X pins σ H s) (u : Un (frs X.stack) ch H H' s.heap h') (hok : HOk X.prog X.w H' h') (hg : AllBare g')
    (hch : ∀ b ∈ ch, (b ∈ X.ex ∨ X.s₀.heap.objs.size ≤ b) ∧ b ≠ X.env.locals ∧ (∀ x c, X.env.cells.lookup x = some c → c ≠ b) ∧ ∀ p ∈ X.pn ++ pins, p.1 ≠ b) :
    Inv X pins σ H' { s with heap := h', gens := g', drawn := d', toks := t' } := by
  obtain ⟨m, ⟨o, es, ep, ho, r⟩, _⟩ := id I.loc
  obtain ⟨sl, hL⟩ := u.any ho I.free fun z => (hch _ z).2.1 rfl
  exact I.step (ch := ch) hch (fun b o hL hb hc e n => u.keep b o e n (fun z => (List.mem_cons.mp (I.stkSub b z)).elim hL hb) hc) (fun b o _ _ hc e n => u.any e n hc) (fun b o hc e n => u.free b o e n hc) (fun b o hc e => u.there b o e hc) u.tups u.frzs u.tbls (fun m' hm => by
    obtain ⟨o', es', ep', ho', r'⟩ := hm
    rw [ho] at ho'; cases ho'
    exact ⟨_, es', ep', hL, r'⟩) hok hg
theorem Inv.turned {t' : Nat} {it : Addr} (I : Inv X pins σ H s) (k : ∀ b o, b ≠ it → s.heap.get? b = some o → h'.get? b = some o) (hn : H it = none) (hL : it ≠ X.env.locals)
    (h1 : it ∈ X.ex ∨ X.s₀.heap.objs.size ≤ it) (h2 : ∀ x c, X.env.cells.lookup x = some c → c ≠ it) (h3 : ∀ p ∈ X.pn ++ pins, p.1 ≠ it) : Inv X pins σ H { s with heap := h', toks := t' } := by
  have nit : ∀ b u, H b = some u → b ≠ it := fun b u e z => by rw [z, hn] at e; cases e
  refine I.step (g' := s.gens) (d' := s.drawn) (ch := [it]) (fun b hb => ?_) (fun b o _ _ hc e _ => k b o (fun z => hc (by simp [z])) e) (fun b o _ _ hc e _ => ⟨o.slots, k b o (fun z => hc (by simp [z])) e⟩) (fun _ _ _ _ n => n)
    (fun b o hc e => ⟨o, k b o (fun z => hc (by simp [z])) e⟩) (fun _ _ e => e) (fun _ _ _ e => e) (fun b ps e => ⟨#[], by rw [e]; simp⟩) (fun m hm => ?_) (fun b u e => ?_) I.bare
  · have e : b = it := by simpa using hb
    subst e
    exact ⟨h1, hL, h2, h3⟩
  · obtain ⟨o, es, ep, ho, r⟩ := hm
    exact ⟨o, es, ep, k _ o (Ne.symm hL) ho, r⟩
  · refine (I.hok b u e).stay (fun c v hc q => k c v ?_ q) (fun _ q => q) fun _ _ q => q
    rcases hc with z | z
    · rw [z]; exact nit b u e
    · exact nit c _ z
theorem Inv.tok (I : Inv X pins σ H s) (t : Nat) : Inv X pins σ H { s with toks := t } := I.un (h' := s.heap) (t' := t) Un.refl I.hok
theorem Inv.kept {t' : Nat} (I : Inv X pins σ H s) (k : ∀ b u, s.heap.get? b = some u → h'.get? b = some u) : Inv X pins σ H { s with heap := h', toks := t' } := I.un (Un.kept k) (I.hok.kept k)
theorem Inv.laid {a : Addr} {o : HO} {t' : Nat} (I : Inv X pins σ H s) (k : ∀ b u, s.heap.get? b = some u → h'.get? b = some u) (hp : s.heap.objs.size ≤ a) (new : ObjOk X.prog X.w (upd H a o) h' a o) :
    Inv X pins σ (upd H a o) { s with heap := h', toks := t' } := I.un (Un.laid k hp (I.hok.fresh hp)) (I.hok.laid k hp new)
theorem Inv.write {x e : Addr} {o : HO} {t' : Nat} (I : Inv X pins σ H s) (mu : Mut (H x)) (he : e = x ∨ H e = some (.own x)) (k : ∀ b u, b ≠ e → s.heap.get? b = some u → h'.get? b = some u) (heo : ∃ u, h'.get? e = some u)
    (new : ObjOk X.prog X.w (upd H x o) h' x o) : Inv X pins σ (upd H x o) { s with heap := h', toks := t' } := I.un (Un.write mu he k heo) (I.hok.write mu he k heo new)
theorem Inv.pins_of {pins' : Pn} (I : Inv X pins σ H s) (h : ∀ p ∈ pins', s.heap.get? p.1 = some p.2 ∧ H p.1 = none ∧ p.1 ≠ X.env.locals ∧ p.1 ∉ X.fs ∧ ∀ v, p.2.data ≠ .cell v) : Inv X pins' σ H s :=
  ⟨I.ok, I.os, I.bare, I.base, I.loc, I.cell, I.free, I.freeC, fun p hp => (List.mem_append.mp hp).elim (fun z => I.pin p (List.mem_append_left _ z)) (h p), I.hok, I.len⟩
theorem nodup_ix {N : List Str} (hN : N.Nodup) {i j : Nat} {x : Str} (a : N[i]? = some x) (b : N[j]? = some x) : i = j := by
  obtain ⟨h1, e1⟩ := List.getElem?_eq_some_iff.mp a
  obtain ⟨h2, e2⟩ := List.getElem?_eq_some_iff.mp b
  exact (List.getElem_inj hN).mp (e1.trans e2.symm)
theorem store_ok2 {M : Model} {A : Around} {E : Value → Shared → Prop} {i : Nat} {x : Str} {v : V} {u : Value} {Q : Unit → Shared → Prop} (I : Inv X pins σ H s) (hN : X.N.Nodup) (hi : X.N[i]? = some x) (hx : Loc X.env.scope x) (r : RelV v u)
    (h : ∀ s', Inv X pins (σ.set i (some v)) H s' → (∃ a, Heap.SameBut a s.heap s'.heap ∧ (a = X.env.locals ∨ X.env.cells.lookup x = some a)) → Q () s') (hf : X.fn x = true ∨ X.env.scope.names.lookup x = some .local := by first | exact .inl rfl | exact .inr rfl | assumption) : wpAny M A (storeName X.env x u) Q E s := by
  obtain ⟨m, hn, hl⟩ := id I.loc
  have hcls : (X.env.scope.kind == .class || (X.env.scope.kind == .module && X.env.locals != X.env.globals)) = false := by rw [I.ok.kind]; rfl
  have hiσ : i < σ.length := by rw [I.len]; exact (List.getElem?_eq_some_iff.mp hi).1
  have cne := I.cne
  have tracked : ∀ {a : Addr} {h' : Heap}, (∃ o, s.heap.get? a = some o ∧ H a = none) → Heap.SameBut a s.heap h' → HOk X.prog X.w H h' := fun {a h'} ha hs b ob e => by
    obtain ⟨_, _, hfree⟩ := ha
    refine (I.hok b ob e).stay (fun c w' hc q => (hs.2 c ?_).trans q) (fun _ q => q) fun _ _ q => q
    rintro rfl
    rcases hc with rfl | hc
    · rw [hfree] at e; cases e
    · rw [hfree] at hc; cases hc
  rcases hx with hk | hk
  · refine wpAny_storeName_local hk hn (fun h' hn' hs => ?_) hcls
    obtain ⟨oL, _, _, hoL, _⟩ := id hn
    refine h _ ⟨I.ok, I.os, I.bare, ⟨fun b o e n hb hx => ?_, fun b o e n hb hx => ?_, I.base.free, fun b o e hx => ?_, I.base.tups, I.base.frzs, I.base.tbls⟩, ⟨_, hn', fun j y v' e1 e2 e3 => ?_⟩, fun y c e => ?_, I.free, I.freeC, fun p hp => ?_, tracked ⟨oL, hoL, I.free⟩ hs, by simpa using I.len⟩ ⟨_, hs, .inl rfl⟩
    · exact (hs.2 b (Nat.ne_of_lt (Nat.lt_of_lt_of_le (Heap.lt_size e) I.ok.above))).trans (I.base.keep b o e n hb hx)
    · obtain ⟨sl, e1⟩ := I.base.slot b o e n hb hx
      exact ⟨sl, (hs.2 b (Nat.ne_of_lt (Nat.lt_of_lt_of_le (Heap.lt_size e) I.ok.above))).trans e1⟩
    · obtain ⟨o', e1⟩ := I.base.there b o e hx
      exact ⟨o', (hs.2 b (Nat.ne_of_lt (Nat.lt_of_lt_of_le (Heap.lt_size e) I.ok.above))).trans e1⟩
    · by_cases hj : j = i
      · subst hj
        rw [hi] at e1; cases e1
        rw [List.getElem?_set_self hiσ] at e2
        cases e2
        exact ⟨u, r, .inl ⟨hk, by simp⟩⟩
      · rw [List.getElem?_set_ne (Ne.symm hj)] at e2
        obtain ⟨u', r', q⟩ := hl j y v' e1 e2 e3
        refine ⟨u', r', ?_⟩
        rcases q with ⟨k, e⟩ | ⟨k, c, e, z⟩
        · refine .inl ⟨k, ?_⟩
          have : y ≠ x := fun e => hj (nodup_ix hN e1 (e ▸ hi))
          simp [this, e]
        · exact .inr ⟨k, c, e, z.sameBut hs (cne y c e)⟩
    · obtain ⟨w', z⟩ := I.cell y c e
      exact ⟨w', z.sameBut hs (cne y c e)⟩
    · obtain ⟨e, n, ne, nf, d⟩ := I.pin p hp
      exact ⟨(hs.2 p.1 ne).trans e, n, ne, nf, d⟩
  · have hfn : X.fn x = true := by
      rcases hf with z | z
      · exact z
      · rw [z] at hk; cases hk
    obtain ⟨c, hc⟩ := I.ok.has x (.inl hk)
    obtain ⟨w', z⟩ := I.cell x c hc
    refine wpAny_storeName_cell I.ok.kind hk hc z (fun h' hc' hs => ?_)
    obtain ⟨oc, hoc, hocd⟩ := id z
    refine h { s with heap := h' } ⟨I.ok, I.os, I.bare, ⟨fun b o e n hb hx => ?_, fun b o e n hb hx => ?_, I.base.free, fun b o e hx => ?_, I.base.tups, I.base.frzs, I.base.tbls⟩, ⟨m, hn.sameBut hs (Ne.symm (cne x c hc)), fun j y v' e1 e2 e3 => ?_⟩, fun y c' e => ?_, I.free, I.freeC, fun p hp => ?_, tracked ⟨oc, hoc, I.freeC x c hc⟩ hs, by simpa using I.len⟩ ⟨c, hs, .inr hc⟩
    · exact (hs.2 b (Nat.ne_of_lt (Nat.lt_of_lt_of_le (Heap.lt_size e) (I.ok.cab x c hfn hc)))).trans (I.base.keep b o e n hb hx)
    · obtain ⟨sl, e1⟩ := I.base.slot b o e n hb hx
      exact ⟨sl, (hs.2 b (Nat.ne_of_lt (Nat.lt_of_lt_of_le (Heap.lt_size e) (I.ok.cab x c hfn hc)))).trans e1⟩
    · obtain ⟨o', e1⟩ := I.base.there b o e hx
      exact ⟨o', (hs.2 b (Nat.ne_of_lt (Nat.lt_of_lt_of_le (Heap.lt_size e) (I.ok.cab x c hfn hc)))).trans e1⟩
    · by_cases hj : j = i
      · subst hj
        rw [hi] at e1; cases e1
        rw [List.getElem?_set_self hiσ] at e2
        cases e2
        exact ⟨u, r, .inr ⟨.inl hk, c, hc, hc'⟩⟩
      · rw [List.getElem?_set_ne (Ne.symm hj)] at e2
        obtain ⟨u', r', q⟩ := hl j y v' e1 e2 e3
        refine ⟨u', r', ?_⟩
        rcases q with q | ⟨k, c', e, z'⟩
        · exact .inl q
        · refine .inr ⟨k, c', e, z'.sameBut hs ?_⟩
          rintro rfl
          exact hj (nodup_ix hN e1 (I.ok.inj _ _ _ e hc ▸ hi))
    · by_cases hcc : c' = c
      · subst hcc; exact ⟨_, hc'⟩
      · obtain ⟨w2, z2⟩ := I.cell y c' e
        exact ⟨w2, z2.sameBut hs hcc⟩
    · obtain ⟨e, n, ne, nf, d⟩ := I.pin p hp
      refine ⟨(hs.2 p.1 ?_).trans e, n, ne, nf, d⟩
      intro q
      rw [q, hoc] at e
      have q' : oc = p.2 := Option.some.inj e
      exact d w' (by rw [← q']; exact hocd)
theorem store_ok {M : Model} {A : Around} {E : Value → Shared → Prop} {i : Nat} {x : Str} {v : V} {u : Value} {Q : Unit → Shared → Prop} (I : Inv X pins σ H s) (hN : X.N.Nodup) (hi : X.N[i]? = some x) (hx : Loc X.env.scope x) (r : RelV v u)
    (h : ∀ s', Inv X pins (σ.set i (some v)) H s' → Q () s') (hf : X.fn x = true ∨ X.env.scope.names.lookup x = some .local := by first | exact .inl rfl | exact .inr rfl | assumption) : wpAny M A (storeName X.env x u) Q E s :=
  store_ok2 I hN hi hx r (fun s' I' _ => h s' I') hf
end
abbrev XK := Value → Option Addr → Hp → Prop
abbrev St := List (Option V)
abbrev VK := V → Hp → Prop
abbrev TE := St → Hp → VK → Prop
abbrev TT := St → Hp → (Bool → Hp → Prop) → Prop
abbrev TA := St → Hp → (List V → Hp → Prop) → Prop
structure Ends where
  nx : St → Hp → Prop
  rt : VK
  bk : St → Hp → Prop := fun _ _ => False
  ct : St → Hp → Prop := fun _ _ => False
abbrev TS := Ends → St → Hp → Prop
def EP (X : Cx) (pins : Pn) (σ : St) (Q : VK) (u : Value) (s' : Shared) : Prop := ∃ v H', Inv X pins σ H' s' ∧ RelV v u ∧ Q v H'
def TP (X : Cx) (pins : Pn) (σ : St) (Q : Bool → Hp → Prop) (b : Bool) (s' : Shared) : Prop := ∃ H', Inv X pins σ H' s' ∧ Q b H'
def AP (X : Cx) (pins : Pn) (σ : St) (Q : List V → Hp → Prop) (us : List Value) (s' : Shared) : Prop := ∃ vs H', Inv X pins σ H' s' ∧ Vals vs us ∧ Q vs H'
def SP (X : Cx) (pins : Pn) (D : Ends) (f : Flow) (s' : Shared) : Prop :=
  match f with
  | .next => ∃ σ' H', Inv X pins σ' H' s' ∧ D.nx σ' H'
  | .brk => ∃ σ' H', Inv X pins σ' H' s' ∧ D.bk σ' H'
  | .cont => ∃ σ' H', Inv X pins σ' H' s' ∧ D.ct σ' H'
  | .ret u => ∃ v σ' H', Inv X pins σ' H' s' ∧ RelV v u ∧ D.rt v H'
def PE (X : Cx) (e : Expr) (t : TE) : Prop :=
  ∀ (pins : Pn) (s : Shared) (σ : St) (H : Hp) (Q : VK), Inv X pins σ H s → t σ H Q → wpAny (model X.prog X.w) X.A (eval e X.env) (EP X pins σ Q) X.xe s
def PT (X : Cx) (e : Expr) (t : TT) : Prop :=
  ∀ (pins : Pn) (s : Shared) (σ : St) (H : Hp) (Q : Bool → Hp → Prop), Inv X pins σ H s → t σ H Q → wpAny (model X.prog X.w) X.A (isTrue e X.env (eval e X.env)) (TP X pins σ Q) X.xe s
def PW (X : Cx) (e : Expr) (t : TT) : Prop :=
  ∀ (whole : Sem Value) (pins : Pn) (s : Shared) (σ : St) (H : Hp) (Q : Bool → Hp → Prop), Inv X pins σ H s → t σ H Q → wpAny (model X.prog X.w) X.A (isTrue e X.env whole) (TP X pins σ Q) X.xe s
theorem PW.pt {X : Cx} {e : Expr} {t : TT} (h : PW X e t) : PT X e t := h _
def PA (X : Cx) (es : List Expr) (t : TA) : Prop :=
  ∀ (pos : Pos) (pins : Pn) (s : Shared) (σ : St) (H : Hp) (Q : List V → Hp → Prop), Inv X pins σ H s → t σ H Q → wpAny (model X.prog X.w) X.A (spliced (backTo pos (starEach es X.env))) (AP X pins σ Q) X.xe s
def PS (X : Cx) (st : Stmt) (t : TS) : Prop :=
  ∀ (pins : Pn) (s : Shared) (σ : St) (H : Hp) (D : Ends), Inv X pins σ H s → t D σ H → wpAny (model X.prog X.w) X.A (exec st X.env) (SP X pins D) X.xe s
def PSs (X : Cx) (st : List Stmt) (t : TS) : Prop :=
  ∀ (pins : Pn) (s : Shared) (σ : St) (H : Hp) (D : Ends), Inv X pins σ H s → t D σ H → wpAny (model X.prog X.w) X.A (execs st X.env) (SP X pins D) X.xe s
theorem thn {α : Type} {t : Sem α} {Q Q' : α → Shared → Prop} {M : Model} {A : Around} {E : Value → Shared → Prop} {s : Shared} (h : wpAny M A t Q E s) (hQ : ∀ a s, Q a s → Q' a s) : wpAny M A t Q' E s := wpAny_mono h hQ fun _ _ x => x
end L2
namespace L2
open PySem PySem.Spec PyProof.Rows
section
variable {X : Cx}
def tVar (i : Nat) : TE := fun σ H Q => ∃ v, σ[i]? = some (some v) ∧ Q v H
def tC (v : V) : TE := fun _ H Q => Q v H
theorem pe_var {i : Nat} {x : Str} {pos : Pos} (hN : X.N[i]? = some x) (hv : Vis X.env.scope x) (hd : (x == ("__debug__" : Str)) = false := by decide) (hcd : (x == ("__classdict__" : Str)) = false := by decide) : PE X (.Name x pos) (tVar i) := by
  intro pins s σ H Q I h
  obtain ⟨v, e, h⟩ := h
  obtain ⟨m, hn, hl⟩ := I.loc
  obtain ⟨u, r, l⟩ := hl i x v hN e hv
  have fin : EP X pins σ Q u s := ⟨v, H, I, r, h⟩
  rcases l with ⟨hk, hm⟩ | ⟨hk, c, hc, hcell⟩
  · exact wpAny_Name (wpAny_loadName_local I.ok.kind hk hn hm fin) hd
  · rcases hk with hk | hk
    · exact wpAny_Name (wpAny_loadName_cell I.ok.kind hk hc hcell fin) hd
    · exact wpAny_Name (wpAny_loadName_free I.ok.kind hk hc hcell fin hcd) hd
theorem pei {i j pos} : PE X (.Constant (.int i) j pos) (tC (.int i)) := fun _ _ _ H _ I h => wpAny_Constant_int ⟨.int i, H, I.tok _, ⟨_, rfl⟩, h⟩
theorem pe_bl {b j pos} : PE X (.Constant (.bool b) j pos) (tC (.bl b)) := fun _ _ _ H _ I h => Constant_bool ⟨.bl b, H, I, rfl, h⟩
theorem pe_non {j pos} : PE X (.Constant .none j pos) (tC .non) := fun _ _ _ H _ I h => Constant_none ⟨.non, H, I, rfl, h⟩
theorem pe_str {x j pos} : PE X (.Constant (.str x) j pos) (tC (.str x)) := fun _ _ _ H _ I h => Calls.Constant_str ⟨.str x, H, I.tok _, ⟨_, rfl⟩, h⟩
def Gl (X : Cx) (x : Str) : Prop := X.env.kindOf x = some .globalImplicit
theorem ld_glob {E : Value → Shared → Prop} {pins : Pn} {s : Shared} {σ : St} {H : Hp} {x : Str} {u : Value} {pos : Pos} {Q : Value → Shared → Prop} (I : Inv X pins σ H s) (hg : Gl X x) (hm : X.mg x = some u) (h : Q u s)
    (hd : (x == ("__debug__" : Str)) = false := by decide) : wpAny (model X.prog X.w) X.A (eval (.Name x pos) X.env) Q E s :=
  Calls.Name_function_global I.ok.kind hg (Calls.loadGlobal_global (by rw [I.ok.glob]; exact I.mod.glob.keeps I.bk) hm h) hd
theorem ld_blt {E : Value → Shared → Prop} {pins : Pn} {s : Shared} {σ : St} {H : Hp} {x : Str} {u : Value} {pos : Pos} {Q : Value → Shared → Prop} (I : Inv X pins σ H s) (hg : Gl X x) (hm : X.mg x = none) (hv : bootBuiltins x = some u) (h : Q u s)
    (hn : x ≠ "__name__" := by decide) (hd : (x == ("__debug__" : Str)) = false := by decide) : wpAny (model X.prog X.w) X.A (eval (.Name x pos) X.env) Q E s := by
  obtain ⟨mb, h1, h2⟩ := I.mod.blt
  exact Calls.Name_function_global I.ok.kind hg (Calls.loadGlobal_builtin (by rw [I.ok.glob]; exact I.mod.glob.keeps I.bk) hm (by rw [I.ok.blt]; exact h1.keeps I.bk) ((h2 x hn).trans hv) h) hd
theorem pe_glob {x : Str} {v : V} {u : Value} {pos : Pos} (hg : Gl X x) (hm : X.mg x = some u) (r : RelV v u) (hd : (x == ("__debug__" : Str)) = false := by decide) : PE X (.Name x pos) (tC v) :=
  fun _ _ _ H _ I h => ld_glob I hg hm ⟨v, H, I, r, h⟩ hd
theorem pe_bltn {x : Str} {v : V} {u : Value} {pos : Pos} (hg : Gl X x) (hm : X.mg x = none) (hv : bootBuiltins x = some u) (r : RelV v u) (hn : x ≠ "__name__" := by decide) (hd : (x == ("__debug__" : Str)) = false := by decide) : PE X (.Name x pos) (tC v) :=
  fun _ _ _ H _ I h => ld_blt I hg hm hv ⟨v, H, I, r, h⟩ hn hd
variable {a b : Expr} {ta tb : TE} {pos : Pos}
def tB (t : TE) : TT := fun σ H Q => t σ H fun x H1 => ∃ c, x = .bl c ∧ Q c H1
theorem pt_val {e : Expr} {t : TE} (h : PE X e t) (he : ∀ whole, isTrue e X.env whole = (do let v ← whole; standAt e.pos; holding [v] (truthy v)) := by intro _; rfl) : PT X e (tB t) := by
  intro pins s σ H Q I hw
  refine isTrue_plain (thn (h pins s σ H _ I hw) fun v s1 ⟨x, H1, I1, r1, q1⟩ => ?_) (he _)
  obtain ⟨d, rfl, q⟩ := q1
  cases r1
  exact wpAny_truthy_bool ⟨H1, I1, q⟩
variable {tA tB' : TT} {rest : List Expr}
def tAnd (t u : TT) : TT := fun σ H Q => t σ H fun c H1 => if c = true then u σ H1 Q else Q false H1
def tOr (t u : TT) : TT := fun σ H Q => t σ H fun c H1 => if c = true then Q true H1 else u σ H1 Q
def tNot (t : TT) : TT := fun σ H Q => t σ H fun c H1 => Q (!c) H1
theorem pw_and1 (ha : PT X a tA) : PW X (.BoolOp .And [a] pos) tA := by
  intro wh pins s σ H Q I h
  refine isTrue_and (thn (ha pins s σ H Q I h) fun c s1 e => ?_)
  cases c with
  | true => exact isTrue_and_nil e
  | false => exact e
theorem pw_or1 (ha : PT X a tA) : PW X (.BoolOp .Or [a] pos) tA := by
  intro wh pins s σ H Q I h
  refine isTrue_or (thn (ha pins s σ H Q I h) fun c s1 e => ?_)
  cases c with
  | false => exact isTrue_or_nil e
  | true => exact e
theorem pw_and (ha : PT X a tA) (hb : PW X (.BoolOp .And (b :: rest) pos) tB') : PW X (.BoolOp .And (a :: b :: rest) pos) (tAnd tA tB') := by
  intro wh pins s σ H Q I h
  refine isTrue_and (thn (ha pins s σ H _ I h) fun c s1 ⟨H1, I1, q1⟩ => ?_)
  cases c with
  | true => exact hb wh pins s1 σ H1 Q I1 q1
  | false => exact ⟨H1, I1, q1⟩
theorem pw_or (ha : PT X a tA) (hb : PW X (.BoolOp .Or (b :: rest) pos) tB') : PW X (.BoolOp .Or (a :: b :: rest) pos) (tOr tA tB') := by
  intro wh pins s σ H Q I h
  refine isTrue_or (thn (ha pins s σ H _ I h) fun c s1 ⟨H1, I1, q1⟩ => ?_)
  cases c with
  | true => exact ⟨H1, I1, q1⟩
  | false => exact hb wh pins s1 σ H1 Q I1 q1
theorem pt_not (ha : PT X a tA) : PT X (.UnaryOp .Not a pos) (tNot tA) := by
  intro pins s σ H Q I h
  exact isTrue_not (ha pins s σ H (fun c H1 => Q (!c) H1) I h)
def tAndV (ta tb : TE) : TE := fun σ H Q => ta σ H fun x H1 => ∃ c, x = .bl c ∧ if c = true then tb σ H1 Q else Q (.bl false) H1
def tNotV (ta : TE) : TE := fun σ H Q => ta σ H fun x H1 => ∃ c, x = .bl c ∧ Q (.bl (!c)) H1
theorem pe_one {op} {t : TE} (h : PE X a t) : PE X (.BoolOp op [a] pos) t := fun pins s σ H Q I hw => BoolOp_one (h pins s σ H Q I hw)
theorem pe_and (ha : PE X a ta) (hb : PE X (.BoolOp .And (b :: rest) pos) tb) : PE X (.BoolOp .And (a :: b :: rest) pos) (tAndV ta tb) := by
  intro pins s σ H Q I h
  refine BoolOp_and (thn (ha pins s σ H _ I h) fun v s1 ⟨x, H1, I1, r1, q1⟩ => ?_)
  obtain ⟨c, rfl, q1⟩ := q1
  cases r1
  refine wpAny_truthy_bool ?_
  cases c with
  | true => exact hb pins s1 σ H1 Q I1 q1
  | false => exact ⟨.bl false, H1, I1, rfl, q1⟩
theorem pe_not (ha : PE X a ta) : PE X (.UnaryOp .Not a pos) (tNotV ta) := by
  intro pins s σ H Q I h
  refine UnaryOp_ (thn (ha pins s σ H _ I h) fun v s1 ⟨x, H1, I1, r1, q1⟩ => ?_)
  obtain ⟨c, rfl, q1⟩ := q1
  cases r1
  exact not_of (wpAny_truthy_bool ⟨.bl (!c), H1, I1, rfl, q1⟩)
def tIf (t : TT) (ta tb : TE) : TE := fun σ H Q => t σ H fun c H1 => if c = true then ta σ H1 Q else tb σ H1 Q
theorem pe_ifExp {c : Expr} (hc : PT X c tA) (ha : PE X a ta) (hb : PE X b tb) : PE X (.IfExp c a b pos) (tIf tA ta tb) := by
  intro pins s σ H Q I h
  refine wpAny_IfExp (thn (hc pins s σ H _ I h) fun d s1 ⟨H1, I1, q1⟩ => ?_)
  cases d with
  | true => exact ha pins s1 σ H1 Q I1 q1
  | false => exact hb pins s1 σ H1 Q I1 q1
end
end L2
namespace L2
open PySem PySem.Spec PyProof.Rows
def SqL (K : Fg) (H : Hp) (a : Addr) (xs : List V) : Prop :=
  Rd H a (.lst xs) ∨
    ∃ (o : Obj) (its : Array Value) (n : Nat), K.lookup a = some o ∧ o.cls = .type "list" ∧ o.dict = none ∧ o.data = .seq its n ∧ its.size ≤ sizeLine ∧ Vals xs its.toList
def SqT (K : Fg) (H : Hp) (a : Addr) (xs : List V) : Prop :=
  Rd H a (.tup xs) ∨
    ∃ (o : Obj) (its : Array Value) (n : Nat), K.lookup a = some o ∧ o.cls = .type "tuple" ∧ o.data = .seq its n ∧ its.size ≤ sizeLine ∧ Vals xs its.toList
def absV : Value → Option V
  | .none => some .non
  | .bool b => some (.bl b)
  | .int i _ => some (.int i)
  | .str x _ => some (.str x)
  | .bytes b _ => some (.byt b)
  | .float b _ => some (.flt b)
  | .ref a => some (.ref a)
  | .type n => some (.ty n)
  | _ => none
theorem RelV.abs {x : V} {u : Value} (r : RelV x u) : absV u = some x := by
  cases x with
  | non => cases r; rfl
  | bl _ => cases r; rfl
  | int _ => obtain ⟨t, rfl⟩ := r; rfl
  | str _ => obtain ⟨t, rfl⟩ := r; rfl
  | byt _ => obtain ⟨t, rfl⟩ := r; rfl
  | flt _ => obtain ⟨t, rfl⟩ := r; rfl
  | ref _ => cases r; rfl
  | ty _ => cases r; rfl
theorem RelV.inj {x y : V} {u : Value} (r : RelV x u) (q : RelV y u) : x = y := Option.some.inj (r.abs.symm.trans q.abs)
theorem Vals.inj : ∀ {xs ys : List V} {us : List Value}, Vals xs us → Vals ys us → xs = ys
  | _, _, _, .nil, .nil => rfl
  | _, _, _, .cons r t, .cons r' t' => by rw [r.inj r', Vals.inj t t']
section
variable {X : Cx} {pins : Pn} {σ : St} {H : Hp} {s : Shared} {a : Addr} {xs ys : List V}
theorem SqL.of {K : Fg} (h : H a = some (.lst xs)) : SqL K H a xs := .inl (.inl h)
theorem SqT.of {K : Fg} (h : H a = some (.tup xs)) : SqT K H a xs := .inl (.inl h)
theorem Inv.list (I : Inv X pins σ H s) (h : SqL X.K H a xs) : ∃ its : List Value, Vals xs its ∧ PlainL s.heap a its.toArray ∧ xs.length ≤ sizeLine := by
  rcases h with h | ⟨o, its, n, hk, hc, hd, hs, hz, r⟩
  · obtain ⟨z, its, n, r, e⟩ := h.ok I.hok
    exact ⟨its, r, ⟨_, n, e, rfl, rfl, rfl⟩, z⟩
  · refine ⟨its.toList, r, ⟨o, n, I.kIn a o hk, hc, hd, by simpa using hs⟩, ?_⟩
    have e := r.length
    simp only [Array.length_toList] at e
    omega
theorem Inv.tuple (I : Inv X pins σ H s) (h : SqT X.K H a xs) : ∃ its : List Value, Vals xs its ∧ IsTup s.heap a its.toArray ∧ xs.length ≤ sizeLine := by
  rcases h with h | ⟨o, its, n, hk, hc, hs, hz, r⟩
  · obtain ⟨z, its, r, p⟩ := h.ok I.hok
    exact ⟨its, r, p, z⟩
  · refine ⟨its.toList, r, ⟨o, I.kIn a o hk, hc, n, by simpa using hs⟩, ?_⟩
    have e := r.length
    simp only [Array.length_toList] at e
    omega
theorem Inv.list_inj (I : Inv X pins σ H s) (h : SqL X.K H a xs) (h' : SqL X.K H a ys) : xs = ys := by
  obtain ⟨its, r, ⟨o, n, e, _, _, d⟩, _⟩ := I.list h
  obtain ⟨its', r', ⟨o', n', e', _, _, d'⟩, _⟩ := I.list h'
  rw [e] at e'; cases e'
  rw [d] at d'
  injection d' with d1 _
  have : its = its' := by simpa using congrArg Array.toList d1
  subst this
  exact r.inj r'
theorem Inv.tuple_inj (I : Inv X pins σ H s) (h : SqT X.K H a xs) (h' : SqT X.K H a ys) : xs = ys := by
  obtain ⟨its, r, ⟨o, e, _, n, d⟩, _⟩ := I.tuple h
  obtain ⟨its', r', ⟨o', e', _, n', d'⟩, _⟩ := I.tuple h'
  rw [e] at e'; cases e'
  rw [d] at d'
  injection d' with d1 _
  have : its = its' := by simpa using congrArg Array.toList d1
  subst this
  exact r.inj r'
end
abbrev Cx.wish (X : Cx) (E : Value → Shared → Prop) : Cx := { X with xe := E }
abbrev Cx.nox (X : Cx) : Cx := X.wish fun _ _ => False
theorem Cx.Ok.wish {X : Cx} (ok : X.Ok) (E : Value → Shared → Prop) : (X.wish E).Ok :=
  ⟨ok.mod, ok.kind, ok.glob, ok.blt, ok.above, ok.inj, ok.has, ok.cab, ok.hd, ok.frames, ok.stk, ok.exf, ok.bs, ok.bsz, ok.noex, ok.exfs, ok.funs, ok.frf⟩
theorem Cx.Ok.unwish {X : Cx} {E : Value → Shared → Prop} (ok : (X.wish E).Ok) : X.Ok :=
  ⟨ok.mod, ok.kind, ok.glob, ok.blt, ok.above, ok.inj, ok.has, ok.cab, ok.hd, ok.frames, ok.stk, ok.exf, ok.bs, ok.bsz, ok.noex, ok.exfs, ok.funs, ok.frf⟩
section
variable {X : Cx} {pins : Pn} {σ : St} {H : Hp} {s : Shared} {E : Value → Shared → Prop}
theorem Inv.wish (I : Inv X pins σ H s) (E : Value → Shared → Prop) : Inv (X.wish E) pins σ H s := ⟨I.ok.wish E, I.os, I.bare, I.base, I.loc, I.cell, I.free, I.freeC, I.pin, I.hok, I.len⟩
theorem Inv.unwish (I : Inv (X.wish E) pins σ H s) : Inv X pins σ H s := ⟨I.ok.unwish, I.os, I.bare, I.base, I.loc, I.cell, I.free, I.freeC, I.pin, I.hok, I.len⟩
theorem SP.unwish {D : Ends} {f : Flow} {s' : Shared} (h : SP (X.wish E) pins D f s') : SP X pins D f s' := by
  cases f with
  | next => obtain ⟨σ', H', I, q⟩ := h; exact ⟨σ', H', I.unwish, q⟩
  | brk => obtain ⟨σ', H', I, q⟩ := h; exact ⟨σ', H', I.unwish, q⟩
  | cont => obtain ⟨σ', H', I, q⟩ := h; exact ⟨σ', H', I.unwish, q⟩
  | ret u => obtain ⟨v, σ', H', I, r, q⟩ := h; exact ⟨v, σ', H', I.unwish, r, q⟩
theorem PSs.nox {st : List Stmt} {t : TS} (h : PSs X.nox st t) : PSs X st t := fun pins s σ H D I hw =>
  wpAny_mono (h pins s σ H D (I.wish _) hw) (fun _ _ q => q.unwish) fun _ _ z => False.elim z
end
section
variable {X : Cx} {st : Stmt} {rest : List Stmt} {t u : TS} {e : Expr} {te : TE} {pos : Pos}
def tNext : TS := fun D σ H => D.nx σ H
def tSeq (t u : TS) : TS := fun D σ H => t { D with nx := u D } σ H
theorem pss_nil : PSs X [] tNext := fun _ _ σ H _ I h => wpAny_execs_nil ⟨σ, H, I, h⟩
theorem psc (h1 : PS X st t) (h2 : PSs X rest u) : PSs X (st :: rest) (tSeq t u) := by
  intro pins s σ H D I h
  refine wpAny_execs_cons (thn (h1 pins s σ H { D with nx := u D } I h) fun f s1 q => ?_)
  cases f with
  | next =>
    obtain ⟨σ', H', I', q⟩ := q
    exact h2 pins s1 σ' H' D I' q
  | ret v => exact q
  | brk => exact q
  | cont => exact q
theorem pso (h1 : PS X st t) : PSs X [st] t := by
  intro pins s σ H D I h
  refine wpAny_execs_cons (thn (h1 pins s σ H D I h) fun f s1 q => ?_)
  cases f with
  | next => exact wpAny_execs_nil q
  | ret v => exact q
  | brk => exact q
  | cont => exact q
theorem Inv.quiet {pins : Pn} {σ : St} {H : Hp} {s : Shared} (I : Inv X pins σ H s) : interactive X.env = false := by simp [interactive, I.ok.kind]
def tDrop (te : TE) : TS := fun D σ H => te σ H fun _ H1 => D.nx σ H1
theorem ps_expr (he : PE X e te) (hs : swapsWith e none pos.line X.env = pure false := by rfl) : PS X (.Expr e pos) (tDrop te) := by
  intro pins s σ H D I h
  exact wpAny_Expr_any (thn (he pins s σ H _ I h) fun v s1 ⟨x, H1, I1, r1, q1⟩ => ⟨σ, H1, I1, q1⟩) I.quiet hs
def tRet (te : TE) : TS := fun D σ H => te σ H D.rt
theorem ps_ret (he : PE X e te) : PS X (.Return (some e) pos) (tRet te) := by
  intro pins s σ H D I h
  exact wpAny_Return_some (thn (he pins s σ H _ I h) fun v s1 ⟨x, H1, I1, r1, q1⟩ => ⟨x, σ, H1, I1, r1, q1⟩)
def tIfS (c : TT) (t u : TS) : TS := fun D σ H => c σ H fun b H1 => if b = true then t D σ H1 else u D σ H1
theorem ps_if {c : Expr} {a b : List Stmt} {tc : TT} (hc : PT X c tc) (ha : PSs X a t) (hb : PSs X b u) : PS X (.If c a b pos) (tIfS tc t u) := by
  intro pins s σ H D I h
  refine wpAny_If (thn (hc pins s σ H _ I h) fun d s1 ⟨H1, I1, q1⟩ => ?_)
  cases d with
  | true => exact ha pins s1 σ H1 D I1 q1
  | false => exact hb pins s1 σ H1 D I1 q1
def tNever : TS := fun _ _ _ => False
theorem ps_never : PS X st tNever := fun _ _ _ _ _ _ h => h.elim
end
abbrev TG := V → St → Hp → (St → Hp → Prop) → Prop
abbrev TGs := List V → St → Hp → (St → Hp → Prop) → Prop
def PG (X : Cx) (target : Expr) (t : TG) : Prop :=
  ∀ (pins : Pn) (s : Shared) (σ : St) (H : Hp) (v : V) (u : Value) (Q : St → Hp → Prop), Inv X pins σ H s → RelV v u → t v σ H Q →
    wpAny (model X.prog X.w) X.A (assign target X.env u) (fun _ s' => ∃ σ' H', Inv X pins σ' H' s' ∧ Q σ' H') X.xe s
def PGs (X : Cx) (ts : List Expr) (t : TGs) : Prop :=
  ∀ (pins : Pn) (s : Shared) (σ : St) (H : Hp) (vs : List V) (us : List Value) (Q : St → Hp → Prop), Inv X pins σ H s → Vals vs us → t vs σ H Q →
    wpAny (model X.prog X.w) X.A (assignInOrder ((assignEach ts X.env).map (·.2)) us) (fun _ s' => ∃ σ' H', Inv X pins σ' H' s' ∧ Q σ' H') X.xe s
abbrev TSet := V → V → V → Hp → (Hp → Prop) → Prop
def PSet (X : Cx) (t : TSet) : Prop :=
  ∀ (pins : Pn) (s : Shared) (σ : St) (H : Hp) (o i v : V) (ov iv u : Value) (Q : Hp → Prop), Inv X pins σ H s → RelV o ov → RelV i iv → RelV v u → t o i v H Q →
    wpAny (model X.prog X.w) X.A (setItem ov iv u) (fun _ s' => ∃ H', Inv X pins σ H' s' ∧ Q H') X.xe s
abbrev TIp := V → V → Hp → VK → Prop
def PIp (X : Cx) (op : Operator) (t : TIp) : Prop :=
  ∀ (pins : Pn) (s : Shared) (σ : St) (H : Hp) (x y : V) (v u : Value) (Q : VK), Inv X pins σ H s → RelV x v → RelV y u → t x y H Q →
    wpAny (model X.prog X.w) X.A (inplaceOp op v u) (EP X pins σ Q) X.xe s
section
variable {X : Cx} {pos : Pos}
def gName (i : Nat) : TG := fun v σ H Q => Q (σ.set i (some v)) H
theorem pg_name {i : Nat} {x : Str} (hN : X.N.Nodup) (hi : X.N[i]? = some x) (hx : Loc X.env.scope x) (hf : X.fn x = true ∨ X.env.scope.names.lookup x = some .local := by first | exact .inl rfl | exact .inr rfl | assumption) : PG X (.Name x pos) (gName i) := by
  intro pins s σ H v u Q I r h
  exact wpAny_assign_Name (store_ok I hN hi hx r (fun s' I' => ⟨_, H, I', h⟩) hf)
def gNil : TGs := fun vs σ H Q => vs = [] ∧ Q σ H
def gCons (t : TG) (u : TGs) : TGs := fun vs σ H Q => ∃ v r, vs = v :: r ∧ t v σ H fun σ' H' => u r σ' H' Q
theorem pgs_nil : PGs X [] gNil := by
  intro pins s σ H vs us Q I r h
  obtain ⟨e, h⟩ := h
  subst e
  cases r
  exact assignInOrder_nil ⟨σ, H, I, h⟩
theorem pgs_cons {e : Expr} {es : List Expr} {t : TG} {u : TGs} (h1 : PG X e t) (h2 : PGs X es u)
    (hs : (assignEach (e :: es) X.env).map (·.2) = assign e X.env :: (assignEach es X.env).map (·.2) := by rfl) : PGs X (e :: es) (gCons t u) := by
  intro pins s σ H vs us Q I r h
  obtain ⟨v, vr, e1, h⟩ := h
  subst e1
  cases r with
  | cons r rr =>
    rw [hs]
    refine assignInOrder_cons (thn (h1 pins s σ H _ _ _ I r h) fun _ s1 ⟨σ1, H1, I1, q1⟩ => ?_)
    exact h2 pins s1 σ1 H1 _ _ Q I1 rr q1
def gTup (K : Fg) (n : Nat) (t : TGs) : TG := fun v σ H Q => ∃ a xs, v = .ref a ∧ SqT K H a xs ∧ xs.length = n ∧ t xs σ H Q
theorem pg_tup {es : List Expr} {k : Nat} {t : TGs} {n : Nat} (hc : X.calm = true) (h : PGs X es t)
    (hn : (assignEach es X.env).length = n := by rfl) (hst : (assignEach es X.env).findIdx? (·.1) = none := by rfl) : PG X (.Tuple es k pos) (gTup X.K n t) := by
  intro pins s σ H v u Q I r hw
  obtain ⟨a, xs, e1, hq, hl, hw⟩ := hw
  subst e1
  cases r
  obtain ⟨its, rv, ht, hz⟩ := I.tuple hq
  refine assign_Tuple_tuple (I.ok.hd hc) ht (by simp [hn, ← hl, rv.length]) hst fun h' hx => ?_
  have I1 : Inv X pins σ H { s with heap := h' } := I.kept (t' := s.toks) fun b o e => hx b o (Nat.ne_of_lt (Heap.lt_size e)) e
  exact h pins _ σ H xs _ Q I1 (by simpa using rv) hw
def gSub (to ti : TE) (t : TSet) : TG := fun v σ H Q => to σ H fun o H1 => ti σ H1 fun i H2 => t o i v H2 fun H3 => Q σ H3
theorem pg_sub {o i : Expr} {to ti : TE} {t : TSet} (ho : PE X o to) (hi : PE X i ti) (hs : PSet X t)
    (ha : ∀ v, assign (.Subscript o i pos) X.env v = (do
      let ov ← holding [v] (eval o X.env)
      let iv ← holding [v, ov] (eval i X.env)
      standAt pos
      holding [v, ov, iv] (setItem ov iv v)
      release [v, ov, iv] []) := by intro _; rfl) : PG X (.Subscript o i pos) (gSub to ti t) := by
  intro pins s σ H v u Q I r h
  rw [ha]
  refine wpAny_bind (wpAny_holding (thn (ho pins s σ H _ I h) fun ov s1 ⟨x, H1, I1, r1, q1⟩ => ?_))
  refine wpAny_bind (wpAny_holding (thn (hi pins s1 σ H1 _ I1 q1) fun iv s2 ⟨y, H2, I2, r2, q2⟩ => ?_))
  refine wpAny_bind (wpAny_standAt (wpAny_bind (wpAny_holding (thn (hs pins s2 σ H2 x y v ov iv u _ I2 r1 r2 r q2) fun _ s3 ⟨H3, I3, q3⟩ => ?_))))
  exact wpAny_release ⟨σ, H3, I3, q3⟩
def tAsg (te : TE) (g : TG) : TS := fun D σ H => te σ H fun x H1 => g x σ H1 D.nx
theorem ps_asg {tg e : Expr} {te : TE} {g : TG} (he : PE X e te) (hg : PG X tg g) (hs : swapsWithSole [tg] e pos.line X.env = pure false := by rfl) (hw : swappedStores [tg] e X.env = pure none := by rfl)
    (h1 : (assignEach [tg] X.env).map (·.2) = [assign tg X.env] := by rfl) : PS X (.Assign [tg] e pos) (tAsg te g) := by
  intro pins s σ H D I h
  refine wpAny_Assign_stores (thn (he pins s σ H _ I h) fun v s1 ⟨x, H1, I1, r1, q1⟩ => ?_) hs hw
  rw [h1]
  exact thn (hg pins s1 σ H1 x v _ I1 r1 q1) fun _ s2 q => q
theorem ps_set {i : Nat} {x : Str} {e : Expr} {te : TE} {pos' : Pos} (hN : X.N.Nodup) (hi : X.N[i]? = some x) (hx : Loc X.env.scope x) (he : PE X e te) (hs : swapsWith e (some (.Name x pos')) pos.line X.env = pure false := by rfl) (hf : X.fn x = true ∨ X.env.scope.names.lookup x = some .local := by first | exact .inl rfl | exact .inr rfl | assumption) :
    PS X (.Assign [.Name x pos'] e pos) (tAsg te (gName i)) := by
  intro pins s σ H D I h
  refine wpAny_Assign_Name (thn (he pins s σ H _ I h) fun v s1 ⟨y, H1, I1, r1, q1⟩ => ?_) hs
  exact store_ok I1 hN hi hx r1 (fun s2 I2 => ⟨_, H1, I2, q1⟩) hf
def tPar (i j : Nat) (ta : TA) : TS := fun D σ H => ta σ H fun vs H1 => ∃ v w, vs = [v, w] ∧ D.nx ((σ.set i (some v)).set j (some w)) H1
theorem ps_par {i j : Nat} {x y : Str} {a b : Expr} {ta : TA} {px py pt : Pos} {kt k2 pt2} (hc : X.calm = true) (hN : X.N.Nodup) (hi : X.N[i]? = some x) (hj : X.N[j]? = some y) (hij : i ≠ j)
    (hx : X.env.scope.names.lookup x = some .local) (hy : X.env.scope.names.lookup y = some .local) (ha : PA X [a, b] ta)
    (hw : swappedStores [.Tuple [.Name x px, .Name y py] kt pt] (.Tuple [a, b] k2 pt2) X.env = pure (some [x, y]))
    (hs : swapsWithSole [.Tuple [.Name x px, .Name y py] kt pt] (.Tuple [a, b] k2 pt2) pos.line X.env = pure false := by rfl) :
    PS X (.Assign [.Tuple [.Name x px, .Name y py] kt pt] (.Tuple [a, b] k2 pt2) pos) (tPar i j ta) := by
  intro pins s σ H D I h
  rw [exec_Assign_arm]
  refine wpAny_bind (wpAny_standAt ?_)
  rw [hs]
  refine wpAny_bind (wpAny_pure ?_)
  rw [if_neg (by decide)]
  refine wpAny_bind (Tuple_ (thn (ha _ pins s σ H _ I h) fun us s1 ⟨vs, H1, I1, r1, q1⟩ => ?_))
  obtain ⟨v, w, e1, q1⟩ := q1
  subst e1
  obtain ⟨u1, u2, rfl, rv, rw'⟩ : ∃ u1 u2, us = [u1, u2] ∧ RelV v u1 ∧ RelV w u2 := by
    cases r1 with
    | cons p q =>
      cases q with
      | cons p' q' =>
        cases q'
        exact ⟨_, _, rfl, p, p'⟩
  refine wpAny_newObj_type ?_ (by show 2 ≤ sizeLine; decide)
  have I2 : Inv X pins σ H1 { s1 with heap := s1.heap.push { cls := .type "tuple", data := .seq [u1, u2].toArray } } := I1.kept (t' := s1.toks) fun b o e => Heap.get?_push_of_some _ e
  rw [hw]
  refine wpAny_bind (wpAny_pure ?_)
  show wpAny (model X.prog X.w) X.A (do rule "assign.swapped-stores"; let items ← unpackItems (.ref s1.heap.objs.size) 2 none; assignInOrder [fun v => bindName X.env y v, fun v => bindName X.env x v] items.reverse; pure Flow.next) _ _ _
  refine wpAny_bind (wpAny_rule (wpAny_bind (unpackItems_tuple (items := #[u1, u2]) (I.ok.hd hc) (IsTup.new s1.heap _) fun h' hx' => ?_)))
  have I3 := I2.kept (h' := h') (t' := s1.toks) fun b o e => hx' b o (Nat.ne_of_lt (Heap.lt_size e)) e
  show wpAny _ _ (assignInOrder [fun v => bindName X.env y v, fun v => bindName X.env x v] [u2, u1] >>= fun _ => pure Flow.next) _ _ _
  refine wpAny_bind (assignInOrder_cons (wpAny_bindName (store_ok I3 hN hj (.inl hy) rw' (fun s2 I4 => ?_) (.inr hy))))
  refine assignInOrder_cons (wpAny_bindName (store_ok I4 hN hi (.inl hx) rv (fun s3 I5 => assignInOrder_nil (wpAny_pure ?_)) (.inr hx)))
  rw [List.set_comm _ _ (Ne.symm hij)] at I5
  exact ⟨_, H1, I5, q1⟩
def tAug (i : Nat) (te : TE) (ti : TIp) : TS := fun D σ H => ∃ x, σ[i]? = some (some x) ∧ te σ H fun y H1 => ti x y H1 fun z H2 => D.nx (σ.set i (some z)) H2
theorem ps_aug {i : Nat} {x : Str} {e : Expr} {te : TE} {op : Operator} {ti : TIp} {pos' : Pos} (hN : X.N.Nodup) (hi : X.N[i]? = some x) (hx : Loc X.env.scope x) (he : PE X e te) (ho : PIp X op ti) (hf : X.fn x = true ∨ X.env.scope.names.lookup x = some .local := by first | exact .inl rfl | exact .inr rfl | assumption) :
    PS X (.AugAssign (.Name x pos') op e pos) (tAug i te ti) := by
  intro pins s σ H D I h
  obtain ⟨v, e1, h⟩ := h
  obtain ⟨m, hn, hl⟩ := I.loc
  have vis : Vis X.env.scope x := by rcases hx with k | k; exact .inl k; exact .inr (.inl k)
  obtain ⟨u, r, l⟩ := hl i x v hi e1 vis
  refine wpAny_AugAssign_Name ?_
  have go : wpAny (model X.prog X.w) X.A (eval e X.env) (fun w s₂ => wpAny (model X.prog X.w) X.A (inplaceOp op u w) (fun r s₃ => wpAny (model X.prog X.w) X.A (storeName X.env x r) (fun _ => SP X pins D .next) X.xe s₃) X.xe s₂) X.xe s := by
    refine thn (he pins s σ H _ I h) fun w s1 ⟨y, H1, I1, r1, q1⟩ => ?_
    refine thn (ho pins s1 σ H1 v y u w _ I1 r r1 q1) fun z s2 ⟨zv, H2, I2, r2, q2⟩ => ?_
    exact store_ok I2 hN hi hx r2 (fun s3 I3 => ⟨_, H2, I3, q2⟩) hf
  rcases l with ⟨hk, hm⟩ | ⟨hk, c, hc, hcell⟩
  · exact wpAny_loadName_local I.ok.kind hk hn hm go
  · rcases hk with hk | hk
    · exact wpAny_loadName_cell I.ok.kind hk hc hcell go
    · rcases hx with k | k
      · have : X.env.scope.names.lookup x = some .free := hk
        rw [k] at this; cases this
      · have : X.env.scope.names.lookup x = some .free := hk
        rw [k] at this; cases this
def ipI (f : Int → Int → Int) : TIp := fun x y H Q => ∃ i j, x = .int i ∧ y = .int j ∧ Q (.int (f i j)) H
theorem ip_add : PIp X .Add (ipI fun i j => i + j) := by
  intro pins s σ H x y v u Q I r1 r2 h
  obtain ⟨i, j, e1, e2, q⟩ := h
  subst e1; subst e2
  obtain ⟨t, rfl⟩ := r1
  obtain ⟨t', rfl⟩ := r2
  exact iadd_int ⟨.int _, H, I.tok _, ⟨_, rfl⟩, q⟩
theorem ip_sub : PIp X .Sub (ipI fun i j => i - j) := by
  intro pins s σ H x y v u Q I r1 r2 h
  obtain ⟨i, j, e1, e2, q⟩ := h
  subst e1; subst e2
  obtain ⟨t, rfl⟩ := r1
  obtain ⟨t', rfl⟩ := r2
  exact isub_int ⟨.int _, H, I.tok _, ⟨_, rfl⟩, q⟩
end
section
variable {X : Cx} {pos : Pos}
def tWhile (c : TT) (tb : TS) : TS := fun D σ H => ∃ W : Nat → St → Hp → Prop, (∃ m, W m σ H) ∧ ∀ m σ H, W m σ H →
  c σ H fun b H1 => if b = true then ∃ N : St → Hp → Prop, (∀ σ' H', N σ' H' → ∃ m', m' < m ∧ W m' σ' H') ∧ tb { D with nx := N, ct := N, bk := D.nx } σ H1 else D.nx σ H1
theorem ps_while {c : Expr} {body : List Stmt} {tc : TT} {tb : TS} (hp : PassesOwn (model X.prog X.w) X.A X.env X.xe) (hc : PT X c tc) (hb : PSs X body tb) : PS X (.While c body [] pos) (tWhile tc tb) := by
  intro pins s σ H D I h
  obtain ⟨W, ⟨m0, w0⟩, turn⟩ := h
  refine wpAny_While (codeAny_whileLoop (fun n s' => ∃ σ' H', Inv X pins σ' H' s' ∧ W n σ' H') ?_ m0 ⟨σ, H, I, w0⟩)
  rintro n s1 ⟨σ1, H1, I1, w1⟩
  refine wpAny_passesOwn hp (thn (hc pins s1 σ1 H1 _ I1 (turn n σ1 H1 w1)) fun b s2 ⟨H2, I2, q2⟩ => ?_)
  cases b with
  | true =>
    obtain ⟨N, hN, q2⟩ := q2
    rw [if_pos rfl]
    refine wpAny_passesOwn hp (thn (hb pins s2 σ1 H2 _ I2 q2) fun f s3 q3 => ?_)
    cases f with
    | next =>
      obtain ⟨σ3, H3, I3, n3⟩ := q3
      obtain ⟨m', hm, w3⟩ := hN σ3 H3 n3
      exact ⟨m', hm, σ3, H3, I3, w3⟩
    | cont =>
      obtain ⟨σ3, H3, I3, n3⟩ := q3
      obtain ⟨m', hm, w3⟩ := hN σ3 H3 n3
      exact ⟨m', hm, σ3, H3, I3, w3⟩
    | brk => exact q3
    | ret v => exact q3
  | false =>
    rw [if_neg Bool.false_ne_true]
    exact wpAny_execs_nil ⟨σ1, H2, I2, q2⟩
end
structure It where
  go : Nat → Hp → Prop
  yld : Nat → Hp → V → Hp → Prop
  stop : Nat → Hp → Prop
def FpOk (X : Cx) (pins : Pn) (H : Hp) (b : Addr) : Prop :=
  H b = none ∧ b ≠ X.env.locals ∧ b ∉ X.fs ∧ (b ∈ X.ex ∨ X.s₀.heap.objs.size ≤ b) ∧ (∀ x c, X.env.cells.lookup x = some c → c ≠ b) ∧ ∀ p ∈ X.pn ++ pins, p.1 ≠ b
theorem Inv.fpOk {X : Cx} {pins : Pn} {σ : St} {H H' : Hp} {s : Shared} {b : Addr} (I : Inv X pins σ H s) (hb : s.heap.objs.size ≤ b) (hn : H' b = none) : FpOk X pins H' b := by
  refine ⟨hn, Nat.ne_of_gt (Nat.lt_of_lt_of_le I.lt hb), I.nofs hb, .inr (Nat.le_trans I.sz hb), fun x c e z => ?_, fun p hp z => ?_⟩
  · obtain ⟨v, q⟩ := I.cell x c e
    exact absurd (Nat.lt_of_lt_of_le q.lt (by rw [z]; exact hb)) (Nat.lt_irrefl _)
  · exact absurd (Nat.lt_of_lt_of_le (Heap.lt_size (I.pin p hp).1) (by rw [z]; exact hb)) (Nat.lt_irrefl _)
structure Turn (P : Program) (w : World) (K : Fg) (tg : Expr) (J : It) (fp : List Addr) (it : Addr) (tn : Nat → Heap → Prop) : Prop where
  mem : it ∈ fp
  obj : ∀ i h, tn i h → ∀ b ∈ fp, ∃ o, h.get? b = some o ∧ ∀ v, o.data ≠ .cell v
  keep : ∀ i h h', tn i h → (∀ b ∈ fp, ∀ o, h.get? b = some o → h'.get? b = some o) → tn i h'
  item : ∀ (X : Cx), X.prog = P → X.w = w → X.K = K → X.calm = true → ∀ (i : Nat) (pins : Pn) (s : Shared) (σ : St) (H : Hp) (E : Value → Shared → Prop), Inv X pins σ H s → (∀ b ∈ fp, FpOk X pins H b) → tn i s.heap → J.go i H →
    wpAny (model P w) X.A (pyNext (.ref it)) (fun r s1 => ∃ u, r = some u ∧
      wpAny (model P w) X.A (letOwnedTupleGo tg (.ref it) u) (fun _ s2 => ∃ x H', Inv X pins σ H' s2 ∧ RelV x u ∧ J.yld i H x H' ∧ tn (i + 1) s2.heap ∧ ∀ b ∈ fp, H' b = none) E s1) E s
  done : ∀ (X : Cx), X.prog = P → X.w = w → X.K = K → X.calm = true → ∀ (i : Nat) (pins : Pn) (s : Shared) (σ : St) (H : Hp) (E : Value → Shared → Prop), Inv X pins σ H s → (∀ b ∈ fp, FpOk X pins H b) → tn i s.heap → J.stop i H →
    wpAny (model P w) X.A (pyNext (.ref it)) (fun r s1 => r = none ∧ Inv X pins σ H s1) E s
  self : ∀ (A : Around) (i : Nat) (s : Shared) (Q : Value → Shared → Prop) (E : Value → Shared → Prop), tn i s.heap → Q (.ref it) s → wpAny (model P w) A (pyIter (.ref it)) Q E s
abbrev TI := St → Hp → (It → Hp → Prop) → Prop
def PIE (X : Cx) (pins : Pn) (σ : St) (tg : Expr) (R : It → Hp → Prop) (itv : Value) (s2 : Shared) : Prop :=
  ∃ (it : Addr) (fp : List Addr) (tn : Nat → Heap → Prop) (J : It) (H' : Hp), itv = .ref it ∧ Inv X pins σ H' s2 ∧ Turn X.prog X.w X.K tg J fp it tn ∧ tn 0 s2.heap ∧ (∀ b ∈ fp, FpOk X pins H' b) ∧ R J H'
def PI (X : Cx) (tg iter : Expr) (wi : TI) : Prop :=
  ∀ (pins : Pn) (s : Shared) (σ : St) (H : Hp) (R : It → Hp → Prop), Inv X pins σ H s → wi σ H R →
    wpAny (model X.prog X.w) X.A (eval iter X.env) (fun v s1 => wpAny (model X.prog X.w) X.A (pyIter v) (PIE X pins σ tg R) X.xe s1) X.xe s
theorem go_of {M : Model} {A : Around} {E : Value → Shared → Prop} {s : Shared} {tg : Expr} {it : Addr} {u : Value} {o : Obj} {n : String} {vs : Array Value} {Q : Unit → Shared → Prop} (ho : s.heap.get? it = some o) (hc : o.cls = .type n) (hd : o.data = .fields vs)
    (hn : ["enumerate", "zip", "dict_itemiterator", "dict_reverseitemiterator", "odict_iterator", "itertools.zip_longest", "itertools.pairwise"].contains n = false) (hQ : Q () s) : wpAny M A (letOwnedTupleGo tg (.ref it) u) Q E s := by
  unfold letOwnedTupleGo
  cases tg <;> first
    | exact wpAny_pure hQ
    | (cases u <;> first
        | exact wpAny_pure hQ
        | (refine wpAny_bind (wpAny_load ho ?_)
           rw [hc, hd]
           show wpAny M A (if (["enumerate", "zip", "dict_itemiterator", "dict_reverseitemiterator", "odict_iterator", "itertools.zip_longest", "itertools.pairwise"].contains n && vs[0]? == some (rawInt _)) = true then _ else _) Q E s
           rw [if_neg (by intro h; rw [hn, Bool.false_and] at h; cases h)]
           exact wpAny_pure hQ))
def Itl (K : Fg) (a : Addr) : It :=
  ⟨fun i H => ∃ xs x, SqL K H a xs ∧ xs[i]? = some x, fun i H x H' => H' = H ∧ ∀ xs, SqL K H a xs → xs[i]? = some x, fun i H => ∃ xs, SqL K H a xs ∧ xs.length ≤ i⟩
def Itt (K : Fg) (a : Addr) : It :=
  ⟨fun i H => ∃ xs x, SqT K H a xs ∧ xs[i]? = some x, fun i H x H' => H' = H ∧ ∀ xs, SqT K H a xs → xs[i]? = some x, fun i H => ∃ xs, SqT K H a xs ∧ xs.length ≤ i⟩
def Itr (lo : Int) (n : Nat) : It := ⟨fun i _ => i < n, fun i H x H' => H' = H ∧ x = .int (lo + i), fun i _ => n ≤ i⟩
theorem turn_list {P : Program} {w : World} {K : Fg} {tg : Expr} (a it : Addr) : Turn P w K tg (Itl K a) [it] it (fun i h => h.IsListIter it a i) where
  mem := by simp
  obj := fun i h st b hb => by
    have e : b = it := by simpa using hb
    subst e
    obtain ⟨o, e, c, d⟩ := st
    exact ⟨o, e, fun v z => by rw [d] at z; cases z⟩
  keep := fun i h h' st k => st.at fun o e => k it (by simp) o e
  item := by
    intro X hP hw hK hc i pins s σ H E I hf st hg
    subst hP hw hK
    obtain ⟨xs, x, hq, hx⟩ := hg
    obtain ⟨its, rv, p, hz⟩ := I.list hq
    obtain ⟨u, hu, ru⟩ := rv.get hx
    obtain ⟨f0, f1, f2, f3, f4, f5⟩ := hf it (by simp)
    refine wpAny_pyNext_list_item st p.isList (x := u) (by simpa using hu) fun h' st' sb => ?_
    have I1 : Inv X pins σ H { s with heap := h' } := I.turned (t' := s.toks) (fun b o hb e => (sb.2 b hb).trans e) f0 f1 f3 f4 f5
    obtain ⟨o, e, c, d⟩ := id st'
    exact ⟨u, rfl, go_of (s := { s with heap := h' }) e c d (by decide) ⟨x, H, I1, ru, ⟨rfl, fun ys hy => by rw [I.list_inj hy hq]; exact hx⟩, st', fun b hb => (hf b hb).1⟩⟩
  done := by
    intro X hP hw hK hc i pins s σ H E I hf st hg
    subst hP hw hK
    obtain ⟨xs, hq, hx⟩ := hg
    obtain ⟨its, rv, p, hz⟩ := I.list hq
    obtain ⟨f0, f1, f2, f3, f4, f5⟩ := hf it (by simp)
    have hl := rv.length
    exact wpAny_pyNext_list_end (I.ok.hd hc) st p.isList (by simp; omega) fun h' eb => ⟨rfl, I.turned (t' := s.toks) (fun b o hb e => eb b o hb e) f0 f1 f3 f4 f5⟩
  self := fun _ _ _ _ _ st h => wpAny_pyIter_listiter st h
theorem turn_tuple {P : Program} {w : World} {K : Fg} {tg : Expr} (a it : Addr) : Turn P w K tg (Itt K a) [it] it (fun i h => h.IsTupleIter it a i) where
  mem := by simp
  obj := fun i h st b hb => by
    have e : b = it := by simpa using hb
    subst e
    obtain ⟨o, e, c, d⟩ := st
    exact ⟨o, e, fun v z => by rw [d] at z; cases z⟩
  keep := fun i h h' st k => st.at fun o e => k it (by simp) o e
  item := by
    intro X hP hw hK hc i pins s σ H E I hf st hg
    subst hP hw hK
    obtain ⟨xs, x, hq, hx⟩ := hg
    obtain ⟨its, rv, p, hz⟩ := I.tuple hq
    obtain ⟨u, hu, ru⟩ := rv.get hx
    obtain ⟨f0, f1, f2, f3, f4, f5⟩ := hf it (by simp)
    refine wpAny_pyNext_tuple_item st (show s.heap.IsTuple a its.toArray from p) (x := u) (by simpa using hu) fun h' st' sb => ?_
    have I1 : Inv X pins σ H { s with heap := h' } := I.turned (t' := s.toks) (fun b o hb e => (sb.2 b hb).trans e) f0 f1 f3 f4 f5
    obtain ⟨o, e, c, d⟩ := id st'
    exact ⟨u, rfl, go_of (s := { s with heap := h' }) e c d (by decide) ⟨x, H, I1, ru, ⟨rfl, fun ys hy => by rw [I.tuple_inj hy hq]; exact hx⟩, st', fun b hb => (hf b hb).1⟩⟩
  done := by
    intro X hP hw hK hc i pins s σ H E I hf st hg
    subst hP hw hK
    obtain ⟨xs, hq, hx⟩ := hg
    obtain ⟨its, rv, p, hz⟩ := I.tuple hq
    obtain ⟨f0, f1, f2, f3, f4, f5⟩ := hf it (by simp)
    have hl := rv.length
    exact wpAny_pyNext_tuple_end (I.ok.hd hc) st (show s.heap.IsTuple a its.toArray from p) (by simp; omega) fun h' eb => ⟨rfl, I.turned (t' := s.toks) (fun b o hb e => eb b o hb e) f0 f1 f3 f4 f5⟩
  self := fun _ _ _ _ _ st h => wpAny_pyIter_tupleiter st h
theorem turn_range {P : Program} {w : World} {K : Fg} {tg : Expr} (it : Addr) (lo : Int) (n : Nat) : Turn P w K tg (Itr lo n) [it] it (fun i h => IsRangeIter h it (lo + (i : Nat) * 1) ((n : Int) - (i : Nat)) 1) where
  mem := by simp
  obj := fun i h st b hb => by
    have e : b = it := by simpa using hb
    subst e
    exact ⟨_, st, fun v z => by
      have z' : Data.fields _ = Data.cell v := z
      cases z'⟩
  keep := fun i h h' st k => k it (by simp) _ st
  item := by
    intro X hP hw hK hc i pins s σ H E I hf st hg
    subst hP hw hK
    obtain ⟨f0, f1, f2, f3, f4, f5⟩ := hf it (by simp)
    have W := Walks.range (prog := X.prog) (w := X.w) (I.ok.hd hc) it lo 1 n
    refine W.item i s _ _ hg st fun v h' tk hv st' kk => ?_
    obtain ⟨t, rfl⟩ := hv
    have I1 : Inv X pins σ H { s with heap := h', toks := tk } := I.turned (fun b o hb e => kk b o (by simpa using hb) e) f0 f1 f3 f4 f5
    refine ⟨_, rfl, go_of (s := { s with heap := h', toks := tk }) (n := "range_iterator") st' rfl rfl (by decide) ⟨.int (lo + i), H, I1, ⟨t, ?_⟩, ⟨rfl, rfl⟩, st', fun b hb => (hf b hb).1⟩⟩
    rw [Int.mul_one]
  done := by
    intro X hP hw hK hc i pins s σ H E I hf st hg
    subst hP hw hK
    obtain ⟨f0, f1, f2, f3, f4, f5⟩ := hf it (by simp)
    exact wpAny_pyNext_range_end (I.ok.hd hc) st (by have : n ≤ i := hg; omega) fun h' eb => ⟨rfl, I.turned (t' := s.toks) (fun b o hb e => eb b o hb e) f0 f1 f3 f4 f5⟩
  self := fun _ _ _ _ _ st h => wpAny_pyIter_rangeiter st h
end L2
namespace L2
open PySem PySem.Spec PyProof.Rows
section
variable {X : Cx} {tg : Expr}
def iList (K : Fg) (tl : TE) : TI := fun σ H R => tl σ H fun x H1 => ∃ a, x = .ref a ∧ (∃ xs, SqL K H1 a xs) ∧ R (Itl K a) H1
def iTup (K : Fg) (tl : TE) : TI := fun σ H R => tl σ H fun x H1 => ∃ a, x = .ref a ∧ (∃ xs, SqT K H1 a xs) ∧ R (Itt K a) H1
theorem pi_list {l : Expr} {tl : TE} (hl : PE X l tl) : PI X tg l (iList X.K tl) := by
  intro pins s σ H R I h
  refine thn (hl pins s σ H _ I h) fun v s1 ⟨x, H1, I1, r1, q1⟩ => ?_
  obtain ⟨a, e, ⟨xs, hq⟩, q⟩ := q1
  subst e
  cases r1
  obtain ⟨its, rv, p, hz⟩ := I1.list hq
  refine wpAny_pyIter_list p.isList ?_
  refine ⟨s1.heap.objs.size, [s1.heap.objs.size], _, _, H1, rfl, I1.kept (t' := s1.toks) fun b o e => Heap.get?_push_of_some _ e, turn_list a _, ⟨_, Heap.get?_push_size _ rfl, rfl, rfl⟩, fun b hb => ?_, q⟩
  have e : b = s1.heap.objs.size := by simpa using hb
  subst e
  exact I1.fpOk (Nat.le_refl _) (I1.hok.fresh (Nat.le_refl _))
theorem pi_tup {l : Expr} {tl : TE} (hl : PE X l tl) : PI X tg l (iTup X.K tl) := by
  intro pins s σ H R I h
  refine thn (hl pins s σ H _ I h) fun v s1 ⟨x, H1, I1, r1, q1⟩ => ?_
  obtain ⟨a, e, ⟨xs, hq⟩, q⟩ := q1
  subst e
  cases r1
  obtain ⟨its, rv, p, hz⟩ := I1.tuple hq
  refine wpAny_pyIter_tuple (show s1.heap.IsTuple a its.toArray from p) ?_
  refine ⟨s1.heap.objs.size, [s1.heap.objs.size], _, _, H1, rfl, I1.kept (t' := s1.toks) fun b o e => Heap.get?_push_of_some _ e, turn_tuple a _, ⟨_, Heap.get?_push_size _ rfl, rfl, rfl⟩, fun b hb => ?_, q⟩
  have e : b = s1.heap.objs.size := by simpa using hb
  subst e
  exact I1.fpOk (Nat.le_refl _) (I1.hok.fresh (Nat.le_refl _))
theorem range_it {pins : Pn} {σ : St} {H : Hp} {s : Shared} {R : It → Hp → Prop} {E : Value → Shared → Prop} {lo hi : Int} {t u v : Tok} {tk : Nat} (I : Inv X pins σ H s) (h1 : -(2 ^ 62) ≤ lo) (h2 : lo < 2 ^ 62) (h3 : -(2 ^ 62) ≤ hi) (h4 : hi < 2 ^ 62)
    (q : R (Itr lo (hi - lo).toNat) H) : wpAny (model X.prog X.w) X.A (pyIter (.ref s.heap.objs.size)) (PIE X pins σ tg R) E { s with heap := s.heap.push { cls := .type "range", data := .fields #[.int lo t, .int hi u, .int 1 v] }, toks := tk } := by
  refine wpAny_pyIter_range (IsRange.new ..) (small_one h1 h2 h3 h4) ?_
  have I1 : Inv X pins σ H { s with heap := s.heap.push { cls := .type "range", data := .fields #[.int lo t, .int hi u, .int 1 v] }, toks := tk } := I.kept fun b o e => Heap.get?_push_of_some _ e
  refine ⟨(s.heap.push { cls := .type "range", data := .fields #[.int lo t, .int hi u, .int 1 v] }).objs.size, [(s.heap.push { cls := .type "range", data := .fields #[.int lo t, .int hi u, .int 1 v] }).objs.size], _, _, H, rfl,
    I1.kept (t' := tk) fun b o e => Heap.get?_push_of_some _ e, turn_range _ lo (hi - lo).toNat, ?_, fun b hb => ?_, q⟩
  · have e1 : lo + ((0 : Nat) : Int) * 1 = lo := by simp
    have e2 : (((hi - lo).toNat : Nat) : Int) - ((0 : Nat) : Int) = Builtin.Range.rangeSize lo hi 1 := by rw [rangeSize_one]; split <;> omega
    show IsRangeIter _ _ (lo + ((0 : Nat) : Int) * 1) ((((hi - lo).toNat : Nat) : Int) - ((0 : Nat) : Int)) 1
    rw [e1, e2]
    exact Heap.get?_push_size _ rfl
  · have e : b = (s.heap.push { cls := .type "range", data := .fields #[.int lo t, .int hi u, .int 1 v] }).objs.size := by simpa using hb
    subst e
    exact I1.fpOk (Nat.le_refl _) (I1.hok.fresh (Nat.le_refl _))
def iRng1 (ta : TA) : TI := fun σ H R => ta σ H fun vs H1 => ∃ j : Int, vs = [.int j] ∧ -(2 ^ 62) ≤ j ∧ j < 2 ^ 62 ∧ R (Itr 0 j.toNat) H1
theorem pi_range1 {a : Expr} {ta : TA} {p pos : Pos} (hg : Gl X "range") (hm : X.mg "range" = none) (ha : PA X [a] ta) (hs : starEach [a] X.env = [(false, eval a X.env)] := by rfl) : PI X tg (.Call (.Name "range" p) [a] [] pos) (iRng1 ta) := by
  intro pins s σ H R I h
  refine Call_ (ld_blt I hg hm boot_range (PyProof.Rows.callWith_type1 (thn (ha pos pins s σ H _ I h) fun us s1 ⟨vs, H1, I1, r1, q1⟩ => ?_) hs rfl))
  obtain ⟨j, e, q1, q2, q⟩ := q1
  subst e
  cases r1 with
  | cons r rr =>
    cases rr
    obtain ⟨t, rfl⟩ := r
    exact call_range_1 (range_it I1 (by omega) (by omega) q1 q2 (by simpa using q))
def tFor (wi : TI) (g : TG) (tb : TS) : TS := fun D σ H => wi σ H fun J H1 => ∃ W : Nat → Nat → St → Hp → Prop, (∃ m, W 0 m σ H1) ∧ ∀ i m σ H, W i m σ H →
  (J.stop i H ∧ D.nx σ H) ∨ (J.go i H ∧ ∃ N : St → Hp → Prop, (∀ σ' H', N σ' H' → ∃ m', m' < m ∧ W (i + 1) m' σ' H') ∧ ∀ x H', J.yld i H x H' → g x σ H' fun σ2 H2 => tb { D with nx := N, ct := N, bk := D.nx } σ2 H2)
def pinsAt (fp : List Addr) (h : Heap) : Pn := fp.filterMap fun b => (h.get? b).map fun o => (b, o)
theorem mem_pinsAt {fp : List Addr} {h : Heap} {b : Addr} {o : Obj} (hb : b ∈ fp) (e : h.get? b = some o) : (b, o) ∈ pinsAt fp h := List.mem_filterMap.mpr ⟨b, hb, by rw [e]; rfl⟩
theorem of_pinsAt {fp : List Addr} {h : Heap} {p : Addr × Obj} (hp : p ∈ pinsAt fp h) : p.1 ∈ fp ∧ h.get? p.1 = some p.2 := by
  obtain ⟨b, hb, e⟩ := List.mem_filterMap.mp hp
  cases q : h.get? b with
  | none => rw [q] at e; cases e
  | some o =>
    rw [q] at e
    have e' : (b, o) = p := Option.some.inj e
    subst e'
    exact ⟨hb, q⟩
theorem Inv.pinned {pins : Pn} {σ : St} {H : Hp} {s : Shared} {fp : List Addr} (I : Inv X pins σ H s) (hf : ∀ b ∈ fp, FpOk X pins H b) (ho : ∀ b ∈ fp, ∃ o, s.heap.get? b = some o ∧ ∀ v, o.data ≠ .cell v) : Inv X (pins ++ pinsAt fp s.heap) σ H s :=
  I.pins_of fun p hp => (List.mem_append.mp hp).elim (fun z => I.pin p (List.mem_append_right _ z)) fun z => by
    obtain ⟨hb, e⟩ := of_pinsAt z
    obtain ⟨f0, f1, f2, _⟩ := hf p.1 hb
    obtain ⟨o, e', d⟩ := ho p.1 hb
    rw [e] at e'; cases e'
    exact ⟨e, f0, f1, f2, d⟩
theorem Inv.unpinned {pins pl : Pn} {σ : St} {H : Hp} {s : Shared} (I : Inv X (pins ++ pl) σ H s) : Inv X pins σ H s := I.pins_of fun p hp => I.pin p (List.mem_append_right _ (List.mem_append_left _ hp))
theorem ps_for {iter : Expr} {body : List Stmt} {wi : TI} {g : TG} {tb : TS} {pos : Pos} (hp : PassesOwn (model X.prog X.w) X.A X.env X.xe) (hc : X.calm = true) (hi : PI X tg iter wi) (hg : PG X tg g) (hb : PSs X body tb)
    (hs : ∀ x, foldedSetIterable iter X.env x = pure x := by intro _; rfl) : PS X (.For tg iter body [] pos) (tFor wi g tb) := by
  intro pins s σ H D I h
  refine wpAny_For (thn (hi pins s σ H _ I h) fun v s1 h1 => thn h1 fun itv s2 h2 => ?_) hs
  obtain ⟨it, fp, tn, J, H2, e, I2, T, st2, f2, W, ⟨m0, w0⟩, turn⟩ := h2
  subst e
  -- what stays true of the iterator's objects through the loop
  have stat : ∀ {H' : Hp}, (∀ b ∈ fp, H' b = none) → ∀ b ∈ fp, FpOk X pins H' b := fun hn b hb => ⟨hn b hb, (f2 b hb).2⟩
  refine codeAny_forLoop_any (fun n s' => ∃ i σ' H', Inv X pins σ' H' s' ∧ tn i s'.heap ∧ (∀ b ∈ fp, H' b = none) ∧ W i n σ' H') ?_ m0 ⟨0, σ, H2, I2, st2, fun b hb => (f2 b hb).1, w0⟩
  rintro n s3 ⟨i, σ3, H3, I3, st3, fr3, w3⟩
  rcases turn i n σ3 H3 w3 with ⟨stop, qn⟩ | ⟨go, N, hN, step⟩
  · refine wpAny_passesOwn hp (thn (T.done X rfl rfl rfl hc i pins s3 σ3 H3 X.xe I3 (stat fr3) st3 stop) fun r s4 ⟨hr, I4⟩ => ?_)
    subst hr
    exact wpAny_execs_nil ⟨σ3, H3, I4, qn⟩
  · refine wpAny_passesOwn hp (thn (T.item X rfl rfl rfl hc i pins s3 σ3 H3 X.xe I3 (stat fr3) st3 go) fun r s4 ⟨u, hr, h4⟩ => ?_)
    subst hr
    refine wpAny_passesOwn hp (thn h4 fun _ s5 ⟨x, H5, I5, r5, y5, st5, fr5⟩ => ?_)
    have I5' := I5.pinned (stat fr5) (T.obj _ _ st5)
    refine wpAny_passesOwn hp (thn (hg _ s5 σ3 H5 x u _ I5' r5 (step x H5 y5)) fun _ s6 ⟨σ6, H6, I6, q6⟩ => ?_)
    refine wpAny_passesOwn hp (thn (hb _ s6 σ6 H6 _ I6 q6) fun f s7 q7 => ?_)
    have again : ∀ {σ7 : St} {H7 : Hp}, Inv X (pins ++ pinsAt fp s5.heap) σ7 H7 s7 → N σ7 H7 → ∃ m, m < n ∧ ∃ i σ' H', Inv X pins σ' H' s7 ∧ tn i s7.heap ∧ (∀ b ∈ fp, H' b = none) ∧ W i m σ' H' := fun {σ7 H7} I7 n7 => by
      obtain ⟨m', hm, w7⟩ := hN σ7 H7 n7
      refine ⟨m', hm, i + 1, σ7, H7, I7.unpinned, T.keep _ _ _ st5 fun b hb o e => (I7.pin (b, o) (List.mem_append_right _ (List.mem_append_right _ (mem_pinsAt hb e)))).1, fun b hb => ?_, w7⟩
      obtain ⟨o, e, d⟩ := T.obj _ _ st5 b hb
      exact (I7.pin (b, o) (List.mem_append_right _ (List.mem_append_right _ (mem_pinsAt hb e)))).2.1
    cases f with
    | next => obtain ⟨σ7, H7, I7, n7⟩ := q7; exact again I7 n7
    | cont => obtain ⟨σ7, H7, I7, n7⟩ := q7; exact again I7 n7
    | brk => obtain ⟨σ7, H7, I7, q7⟩ := q7; exact ⟨σ7, H7, I7.unpinned, q7⟩
    | ret v => obtain ⟨x7, σ7, H7, I7, r7, q7⟩ := q7; exact ⟨x7, σ7, H7, I7.unpinned, r7, q7⟩
end
theorem for_range {lo : Int} {n : Nat} {g : TG} {tb : TS} {D : Ends} {σ : St} {H : Hp} (Pv : Nat → St → Hp → Prop) (h0 : Pv 0 σ H)
    (hs : ∀ i σ H, i < n → Pv i σ H → g (.int (lo + i)) σ H fun σ2 H2 => tb { D with nx := Pv (i + 1), ct := Pv (i + 1), bk := D.nx } σ2 H2) (hd : ∀ σ H, Pv n σ H → D.nx σ H) :
    ∃ W : Nat → Nat → St → Hp → Prop, (∃ m, W 0 m σ H) ∧ ∀ i m σ H, W i m σ H →
      ((Itr lo n).stop i H ∧ D.nx σ H) ∨ ((Itr lo n).go i H ∧ ∃ N : St → Hp → Prop, (∀ σ' H', N σ' H' → ∃ m', m' < m ∧ W (i + 1) m' σ' H') ∧ ∀ x H', (Itr lo n).yld i H x H' → g x σ H' fun σ2 H2 => tb { D with nx := N, ct := N, bk := D.nx } σ2 H2) := by
  refine ⟨fun i m σ H => m = n - i ∧ i ≤ n ∧ Pv i σ H, ⟨n, by simp, Nat.zero_le _, h0⟩, ?_⟩
  rintro i m σ H ⟨rfl, hi, p⟩
  by_cases hlt : i < n
  · refine .inr ⟨hlt, Pv (i + 1), fun σ' H' p' => ⟨n - (i + 1), by omega, rfl, hlt, p'⟩, fun x H' y => ?_⟩
    obtain ⟨e, y⟩ := y
    subst e y
    exact hs i σ _ hlt p
  · have e : i = n := by omega
    subst e
    exact .inl ⟨Nat.le_refl _, hd σ H p⟩
theorem while_by {c : TT} {tb : TS} {D : Ends} {σ : St} {H : Hp} (Pv : St → Hp → Prop) (μ : St → Hp → Nat) (h0 : Pv σ H)
    (hs : ∀ σ H, Pv σ H → c σ H fun b H1 => if b = true then tb { D with nx := fun σ' H' => Pv σ' H' ∧ μ σ' H' < μ σ H, ct := fun σ' H' => Pv σ' H' ∧ μ σ' H' < μ σ H, bk := D.nx } σ H1 else D.nx σ H1)
    (mono : ∀ σ H Q Q', (∀ b H1, Q b H1 → Q' b H1) → c σ H Q → c σ H Q') : tWhile c tb D σ H := by
  refine ⟨fun m σ H => m = μ σ H ∧ Pv σ H, ⟨_, rfl, h0⟩, ?_⟩
  rintro m σ H ⟨rfl, p⟩
  refine mono σ H _ _ (fun b H1 q => ?_) (hs σ H p)
  cases b with
  | true => exact ⟨_, fun σ' H' ⟨p', l⟩ => ⟨_, l, rfl, p'⟩, q⟩
  | false => exact q
end L2
namespace L2
open PySem PySem.Spec PyProof.Rows
abbrev R2 := V → V → Hp → VK → Prop
def OpR (X : Cx) (f : Value → Value → Sem Value) (r : R2) : Prop :=
  ∀ (pins : Pn) (s : Shared) (σ : St) (H : Hp) (x y : V) (v u : Value) (Q : VK), Inv X pins σ H s → RelV x v → RelV y u → r x y H Q →
    wpAny (model X.prog X.w) X.A (f v u) (EP X pins σ Q) X.xe s
def UnR (X : Cx) (f : Value → Sem Value) (r : V → Hp → VK → Prop) : Prop :=
  ∀ (pins : Pn) (s : Shared) (σ : St) (H : Hp) (x : V) (v : Value) (Q : VK), Inv X pins σ H s → RelV x v → r x H Q →
    wpAny (model X.prog X.w) X.A (f v) (EP X pins σ Q) X.xe s
def CallR (X : Cx) (f : Value) (r : List V → Hp → VK → Prop) : Prop :=
  ∀ (pins : Pn) (s : Shared) (σ : St) (H : Hp) (xs : List V) (us : List Value) (Q : VK), Inv X pins σ H s → Vals xs us → r xs H Q →
    wpAny (model X.prog X.w) X.A (call f us) (EP X pins σ Q) X.xe s
def TruR (X : Cx) (r : V → Hp → (Bool → Hp → Prop) → Prop) : Prop :=
  ∀ (pins : Pn) (s : Shared) (σ : St) (H : Hp) (x : V) (v : Value) (Q : Bool → Hp → Prop), Inv X pins σ H s → RelV x v → r x H Q →
    wpAny (model X.prog X.w) X.A (truthy v) (TP X pins σ Q) X.xe s
def tOp (r : R2) (ta tb : TE) : TE := fun σ H Q => ta σ H fun x H1 => tb σ H1 fun y H2 => r x y H2 Q
def tUn (r : V → Hp → VK → Prop) (ta : TE) : TE := fun σ H Q => ta σ H fun x H1 => r x H1 Q
def rI (C : Int → Int → Prop) (g : Int → Int → V) : R2 := fun x y H Q => ∃ i j, x = .int i ∧ y = .int j ∧ C i j ∧ Q (g i j) H
def rI0 (g : Int → Int → V) : R2 := fun x y H Q => ∃ i j, x = .int i ∧ y = .int j ∧ Q (g i j) H
def rU (g : Int → V) : V → Hp → VK → Prop := fun x H Q => ∃ i, x = .int i ∧ Q (g i) H
section
variable {X : Cx} {a b c : Expr} {ta tb tc : TE} {pos : Pos}
theorem binT (ha : PE X a ta) (hb : PE X b tb) {pins : Pn} {s : Shared} {σ : St} {H : Hp} {R : V → V → Hp → Prop} (I : Inv X pins σ H s)
    (h : ta σ H fun x H1 => tb σ H1 fun y H2 => R x y H2) {Q : Value → Shared → Prop} {f : Value → Value → Sem Value}
    (hf : ∀ v u s2 x y H2, Inv X pins σ H2 s2 → RelV x v → RelV y u → R x y H2 → wpAny (model X.prog X.w) X.A (f v u) Q X.xe s2) :
    wpAny (model X.prog X.w) X.A (eval a X.env) (fun v s₁ => wpAny (model X.prog X.w) X.A (eval b X.env) (fun u s₂ => wpAny (model X.prog X.w) X.A (f v u) Q X.xe s₂) X.xe s₁) X.xe s := by
  refine thn (ha pins s σ H _ I h) fun v s1 ⟨x, H1, I1, r1, q1⟩ => ?_
  refine thn (hb pins s1 σ H1 _ I1 q1) fun u s2 ⟨y, H2, I2, r2, q2⟩ => ?_
  exact hf v u s2 x y H2 I2 r1 r2 q2
theorem pe_op {op : Operator} {r : R2} (ho : OpR X (binaryOp op) r) (ha : PE X a ta) (hb : PE X b tb) : PE X (.BinOp a op b pos) (tOp r ta tb) := by
  intro pins s σ H Q I h
  exact wpAny_BinOp (binT ha hb I h fun v u s2 x y H2 I2 rx ry q => ho pins s2 σ H2 x y v u Q I2 rx ry q)
theorem pe_un {op : UnaryOp} {r : V → Hp → VK → Prop} (ho : UnR X (unaryOp op) r) (ha : PE X a ta) : PE X (.UnaryOp op a pos) (tUn r ta) := by
  intro pins s σ H Q I h
  exact UnaryOp_ (thn (ha pins s σ H _ I h) fun v s1 ⟨x, H1, I1, r1, q1⟩ => ho pins s1 σ H1 x v Q I1 r1 q1)
theorem opI {f : Value → Value → Sem Value} {C : Int → Int → Prop} {g : Int → Int → Int}
    (rule : ∀ (i j : Int) (t u : Tok) (s : Shared) (Q : Value → Shared → Prop) (E : Value → Shared → Prop), C i j → Q (.int (g i j) s.toks) { s with toks := s.toks + 1 } → wpAny (model X.prog X.w) X.A (f (.int i t) (.int j u)) Q E s) :
    OpR X f (rI C fun i j => .int (g i j)) := by
  intro pins s σ H x y v u Q I rx ry h
  obtain ⟨i, j, rfl, rfl, hc, q⟩ := h
  obtain ⟨t, rfl⟩ := rx
  obtain ⟨t', rfl⟩ := ry
  exact rule i j t t' s _ _ hc ⟨.int (g i j), H, I.tok _, ⟨_, rfl⟩, q⟩
theorem opI0 {f : Value → Value → Sem Value} {g : Int → Int → Int}
    (rule : ∀ (i j : Int) (t u : Tok) (s : Shared) (Q : Value → Shared → Prop) (E : Value → Shared → Prop), Q (.int (g i j) s.toks) { s with toks := s.toks + 1 } → wpAny (model X.prog X.w) X.A (f (.int i t) (.int j u)) Q E s) :
    OpR X f (rI0 fun i j => .int (g i j)) := by
  intro pins s σ H x y v u Q I rx ry h
  obtain ⟨i, j, rfl, rfl, q⟩ := h
  obtain ⟨t, rfl⟩ := rx
  obtain ⟨t', rfl⟩ := ry
  exact rule i j t t' s _ _ ⟨.int (g i j), H, I.tok _, ⟨_, rfl⟩, q⟩
theorem opB0 {f : Value → Value → Sem Value} {g : Int → Int → Bool}
    (rule : ∀ (i j : Int) (t u : Tok) (s : Shared) (Q : Value → Shared → Prop) (E : Value → Shared → Prop), Q (.bool (g i j)) s → wpAny (model X.prog X.w) X.A (f (.int i t) (.int j u)) Q E s) :
    OpR X f (rI0 fun i j => .bl (g i j)) := by
  intro pins s σ H x y v u Q I rx ry h
  obtain ⟨i, j, rfl, rfl, q⟩ := h
  obtain ⟨t, rfl⟩ := rx
  obtain ⟨t', rfl⟩ := ry
  exact rule i j t t' s _ _ ⟨.bl (g i j), H, I, rfl, q⟩
def CPow (i j : Int) : Prop := 0 ≤ j ∧ j ≤ 1000000 ∧ i.natAbs < 2 ^ 64
theorem op_add : OpR X (binaryOp .Add) (rI0 fun i j => .int (i + j)) := opI0 fun _ _ _ _ _ _ _ q => add_int q
theorem op_sub : OpR X (binaryOp .Sub) (rI0 fun i j => .int (i - j)) := opI0 fun _ _ _ _ _ _ _ q => sub_int q
theorem op_mod : OpR X (binaryOp .Mod) (rI (fun _ j => 0 < j) fun i j => .int (i % j)) := opI fun i j _ _ _ _ _ hc q => by
  have h1 : (0 : Int) < j := hc
  exact mod_int' (by omega) (by rw [Int.fmod_eq_emod_of_nonneg i (by omega)]; exact q)
theorem op_pow : OpR X (binaryOp .Pow) (rI CPow fun i j => .int (i ^ j.toNat)) := opI fun _ _ _ _ _ _ _ hc q => pow_int_small hc.1 hc.2.1 hc.2.2 q
theorem unI {f : Value → Sem Value} {g : Int → Int}
    (rule : ∀ (i : Int) (t : Tok) (s : Shared) (Q : Value → Shared → Prop) (E : Value → Shared → Prop), Q (.int (g i) s.toks) { s with toks := s.toks + 1 } → wpAny (model X.prog X.w) X.A (f (.int i t)) Q E s) :
    UnR X f (rU fun i => .int (g i)) := by
  intro pins s σ H x v Q I rx h
  obtain ⟨i, rfl, q⟩ := h
  obtain ⟨t, rfl⟩ := rx
  exact rule i t s _ _ ⟨.int (g i), H, I.tok _, ⟨_, rfl⟩, q⟩
theorem un_neg : UnR X (unaryOp .USub) (rU fun i => .int (-i)) := unI fun _ _ _ _ _ q => neg_int q
end
def scal : V → V → Bool
  | .non, .non => true | .non, .int _ => true | .int _, .non => true | .non, .bl _ => true | .bl _, .non => true | .non, .str _ => true | .str _, .non => true
  | .int _, .int _ => true | .bl _, .bl _ => true | .str _, .str _ => true | .byt _, .byt _ => true
  | .int _, .str _ => true | .str _, .int _ => true | .bl _, .str _ => true | .str _, .bl _ => true
  | _, _ => false
def rEq : R2 := fun x y H Q => scal x y = true ∧ Q (.bl (decide (x = y))) H
def rNe : R2 := fun x y H Q => scal x y = true ∧ Q (.bl (!decide (x = y))) H
theorem dec_int {i j : Int} : decide (V.int i = V.int j) = (i == j) := by
  rw [Bool.eq_iff_iff]
  simp
theorem dec_bl {i j : Bool} : decide (V.bl i = V.bl j) = (i == j) := by
  rw [Bool.eq_iff_iff]
  simp
theorem dec_str {i j : Str} : decide (V.str i = V.str j) = (i == j) := by
  rw [Bool.eq_iff_iff]
  simp
theorem dec_byt {i j : Array UInt8} : decide (V.byt i = V.byt j) = (i.toList == j.toList) := by
  rw [Bool.eq_iff_iff]
  cases i
  cases j
  simp
section
variable {X : Cx} {a b c : Expr} {ta tb tc : TE} {pos : Pos}
theorem fin_bl {pins : Pn} {σ : St} {H : Hp} {s : Shared} {Q : VK} {k k' : Bool} (I : Inv X pins σ H s) (q : Q (.bl k) H) (e : k = k') : EP X pins σ Q (.bool k') s := by
  subst e
  exact ⟨.bl k, H, I, rfl, q⟩
theorem op_eq : OpR X (compareOp .Eq) rEq := by
  intro pins s σ H x y v u Q I rx ry h
  obtain ⟨hs, q⟩ := h
  cases x with
  | non =>
    cases rx
    cases y with
    | non => cases ry; exact PySem.EqNone.eq_none_none (fin_bl I q (by simp))
    | bl j => cases ry; exact PySem.EqNone.eq_none_bool (fin_bl I q (by simp))
    | int j => obtain ⟨t', rfl⟩ := ry; exact PySem.EqNone.eq_none_int (fin_bl I q (by simp))
    | str j => obtain ⟨t', rfl⟩ := ry; exact PySem.EqNone.eq_none_str (fin_bl I q (by simp))
    | _ => exact absurd (show false = true from hs) Bool.false_ne_true
  | bl i =>
    cases rx
    cases y with
    | non => cases ry; exact PySem.EqNone.eq_bool_none (fin_bl I q (by simp))
    | bl j => cases ry; exact eq_bool (fin_bl I q dec_bl)
    | str j => obtain ⟨t', rfl⟩ := ry; exact PySem.EqMixed.eq_bool_str (fin_bl I q (by simp))
    | _ => exact absurd (show false = true from hs) Bool.false_ne_true
  | int i =>
    obtain ⟨t, rfl⟩ := rx
    cases y with
    | non => cases ry; exact PySem.EqNone.eq_int_none (fin_bl I q (by simp))
    | int j => obtain ⟨t', rfl⟩ := ry; exact eq_int (fin_bl I q dec_int)
    | str j => obtain ⟨t', rfl⟩ := ry; exact PySem.EqMixed.eq_int_str (fin_bl I q (by simp))
    | _ => exact absurd (show false = true from hs) Bool.false_ne_true
  | str i =>
    obtain ⟨t, rfl⟩ := rx
    cases y with
    | non => cases ry; exact PySem.EqNone.eq_str_none (fin_bl I q (by simp))
    | bl j => cases ry; exact PySem.EqMixed.eq_str_bool (fin_bl I q (by simp))
    | int j => obtain ⟨t', rfl⟩ := ry; exact PySem.EqMixed.eq_str_int (fin_bl I q (by simp))
    | str j => obtain ⟨t', rfl⟩ := ry; exact eq_str (fin_bl I q dec_str)
    | _ => exact absurd (show false = true from hs) Bool.false_ne_true
  | byt i =>
    obtain ⟨t, rfl⟩ := rx
    cases y with
    | byt j => obtain ⟨t', rfl⟩ := ry; exact PySem.W.eq_bytes (fin_bl I q dec_byt)
    | _ => exact absurd (show false = true from hs) Bool.false_ne_true
  | _ => cases y <;> exact absurd (show false = true from hs) Bool.false_ne_true
theorem op_ne : OpR X (compareOp .NotEq) rNe := by
  intro pins s σ H x y v u Q I rx ry h
  obtain ⟨hs, q⟩ := h
  cases x with
  | non =>
    cases rx
    cases y with
    | non => cases ry; exact PySem.EqNone.ne_none_none (fin_bl I q (by simp))
    | bl j => cases ry; exact PySem.EqNone.ne_none_bool (fin_bl I q (by simp))
    | int j => obtain ⟨t', rfl⟩ := ry; exact PySem.EqNone.ne_none_int (fin_bl I q (by simp))
    | str j => obtain ⟨t', rfl⟩ := ry; exact PySem.EqNone.ne_none_str (fin_bl I q (by simp))
    | _ => exact absurd (show false = true from hs) Bool.false_ne_true
  | bl i =>
    cases rx
    cases y with
    | non => cases ry; exact PySem.EqNone.ne_bool_none (fin_bl I q (by simp))
    | bl j => cases ry; exact ne_bool (fin_bl I q (congrArg not dec_bl))
    | str j => obtain ⟨t', rfl⟩ := ry; exact PySem.EqMixed.ne_bool_str (fin_bl I q (by simp))
    | _ => exact absurd (show false = true from hs) Bool.false_ne_true
  | int i =>
    obtain ⟨t, rfl⟩ := rx
    cases y with
    | non => cases ry; exact PySem.EqNone.ne_int_none (fin_bl I q (by simp))
    | int j => obtain ⟨t', rfl⟩ := ry; exact ne_int (fin_bl I q (congrArg not dec_int))
    | str j => obtain ⟨t', rfl⟩ := ry; exact PySem.EqMixed.ne_int_str (fin_bl I q (by simp))
    | _ => exact absurd (show false = true from hs) Bool.false_ne_true
  | str i =>
    obtain ⟨t, rfl⟩ := rx
    cases y with
    | non => cases ry; exact PySem.EqNone.ne_str_none (fin_bl I q (by simp))
    | bl j => cases ry; exact PySem.EqMixed.ne_str_bool (fin_bl I q (by simp))
    | int j => obtain ⟨t', rfl⟩ := ry; exact PySem.EqMixed.ne_str_int (fin_bl I q (by simp))
    | str j => obtain ⟨t', rfl⟩ := ry; exact ne_str (fin_bl I q (congrArg not dec_str))
    | _ => exact absurd (show false = true from hs) Bool.false_ne_true
  | byt i =>
    obtain ⟨t, rfl⟩ := rx
    cases y with
    | byt j => obtain ⟨t', rfl⟩ := ry; exact PySem.W.ne_bytes (fin_bl I q (congrArg not dec_byt))
    | _ => exact absurd (show false = true from hs) Bool.false_ne_true
  | _ => cases y <;> exact absurd (show false = true from hs) Bool.false_ne_true
theorem op_lt : OpR X (compareOp .Lt) (rI0 fun i j => .bl (decide (i < j))) := opB0 fun _ _ _ _ _ _ _ q => lt_int q
theorem op_le : OpR X (compareOp .LtE) (rI0 fun i j => .bl (decide (i ≤ j))) := opB0 fun _ _ _ _ _ _ _ q => le_int q
theorem op_gt : OpR X (compareOp .Gt) (rI0 fun i j => .bl (decide (j < i))) := opB0 fun _ _ _ _ _ _ _ q => gt_int q
theorem op_ge : OpR X (compareOp .GtE) (rI0 fun i j => .bl (decide (j ≤ i))) := opB0 fun _ _ _ _ _ _ _ q => ge_int q
theorem op_isN : OpR X (compareOp .Is) (fun x y H Q => y = .non ∧ Q (.bl (decide (x = .non))) H) := by
  intro pins s σ H x y v u Q I rx ry h
  obtain ⟨rfl, q⟩ := h
  cases ry
  refine is_none_gen (fin_bl I q ?_)
  cases x <;> first
    | (cases rx; rfl)
    | (obtain ⟨t, rfl⟩ := rx; rfl)
theorem op_notN : OpR X (compareOp .IsNot) (fun x y H Q => y = .non ∧ Q (.bl (!decide (x = .non))) H) := by
  intro pins s σ H x y v u Q I rx ry h
  obtain ⟨rfl, q⟩ := h
  cases ry
  refine isnot_none_gen (fin_bl I q ?_)
  cases x <;> first
    | (cases rx; rfl)
    | (obtain ⟨t, rfl⟩ := rx; rfl)
theorem nomark (b : Expr) {op : CmpOp} (h : op ≠ .In := by decide) (h2 : op ≠ .NotIn := by decide) : behindInMarks op b = false := by
  have e1 : (op == CmpOp.In) = false := by cases op <;> first | rfl | exact absurd rfl h
  have e2 : (op == CmpOp.NotIn) = false := by cases op <;> first | rfl | exact absurd rfl h2
  cases b <;> simp [behindInMarks, e1, e2]
theorem pe_cmpR {op : CmpOp} {r : R2} (ho : OpR X (compareOp op) r) (ha : PE X a ta) (hb : PE X b tb) (hm : behindInMarks op b = false) : PE X (.Compare a [op] [b] pos) (tOp r ta tb) := by
  intro pins s σ H Q I h
  exact wpAny_Compare1 (binT ha hb I h fun v u s2 x y H2 I2 rx ry q => ho pins s2 σ H2 x y v u Q I2 rx ry q) hm
def tTest (t : TE) : TT := fun σ H Q => t σ H fun x H' => ∃ k, x = .bl k ∧ Q k H'
theorem pt_cmpR {op : CmpOp} {r : R2} (ho : OpR X (compareOp op) r) (ha : PE X a ta) (hb : PE X b tb) (hm : behindInMarks op b = false) : PT X (.Compare a [op] [b] pos) (tTest (tOp r ta tb)) := by
  intro pins s σ H Q I h
  refine wpAny_isTrue_Compare1 (thn (ha pins s σ H _ I h) fun v s1 ⟨x, H1, I1, r1, q1⟩ => thn (hb pins s1 σ H1 _ I1 q1) fun u s2 ⟨y, H2, I2, r2, q2⟩ =>
    thn (ho pins s2 σ H2 x y v u _ I2 r1 r2 q2) fun c s3 ⟨z, H3, I3, r3, k, e, q3⟩ => ?_) hm
  subst e
  cases r3
  exact wpAny_truthy_bool ⟨H3, I3, q3⟩
def TruV (K : Fg) (x : V) (H : Hp) (k : Bool) : Prop :=
  match x with
  | .non => k = false
  | .bl b => k = b
  | .int i => k = (i != 0)
  | .str y => y.length ≤ sizeLine ∧ k = ((y.length : Int) != 0)
  | .byt y => y.size ≤ sizeLine ∧ k = ((y.size : Int) != 0)
  | .ref p => (∃ xs, SqL K H p xs ∧ k = !xs.isEmpty) ∨ (∃ xs, SqT K H p xs ∧ k = !xs.isEmpty) ∨ ∃ kvs, H p = some (.dK kvs) ∧ k = !kvs.isEmpty
  | _ => False
theorem isEmpty_kv {κ : Type} {kvs : List (κ × V)} {vs : List (κ × Value)} (r : KV kvs vs) : (!vs.isEmpty) = !kvs.isEmpty := by
  cases r <;> rfl
theorem isEmpty_of {xs : List V} {its : List Value} (r : Vals xs its) : (!its.toArray.isEmpty) = !xs.isEmpty := by
  cases r <;> simp
theorem line63 : (sizeLine : Nat) < 2 ^ 63 := by rw [sizeLine_eq]; decide
theorem tru_ok : TruR X (fun x H Q => ∃ k, TruV X.K x H k ∧ Q k H) := by
  intro pins s σ H x v Q I rx h
  obtain ⟨k, e, q⟩ := h
  have hl := line63
  have hs : sizeLine = 16777216 := sizeLine_eq
  cases x with
  | non =>
    cases rx
    have e' : k = false := e
    subst e'
    exact truthy_none ⟨H, I, q⟩
  | bl b =>
    cases rx
    have e' : k = b := e
    subst e'
    exact wpAny_truthy_bool ⟨H, I, q⟩
  | int i =>
    obtain ⟨t, rfl⟩ := rx
    have e' : k = (i != 0) := e
    subst e'
    exact PySem.P.truthy_int ⟨H, I, q⟩
  | str y =>
    obtain ⟨t, rfl⟩ := rx
    obtain ⟨hy, e'⟩ : y.length ≤ sizeLine ∧ k = ((y.length : Int) != 0) := e
    subst e'
    exact PySem.P.truthy_str (by omega) ⟨H, I.tok _, q⟩
  | byt y =>
    obtain ⟨t, rfl⟩ := rx
    obtain ⟨hy, e'⟩ : y.size ≤ sizeLine ∧ k = ((y.size : Int) != 0) := e
    subst e'
    exact PySem.W.truthy_bytes (by omega) ⟨H, I.tok _, q⟩
  | ref p =>
    cases rx
    have e' : (∃ xs, SqL X.K H p xs ∧ k = !xs.isEmpty) ∨ (∃ xs, SqT X.K H p xs ∧ k = !xs.isEmpty) ∨ ∃ kvs, H p = some (.dK kvs) ∧ k = !kvs.isEmpty := e
    rcases e' with ⟨xs, hx, e'⟩ | ⟨xs, hx, e'⟩ | ⟨kvs, hx, e'⟩
    · subst e'
      obtain ⟨its, r, pl, hz⟩ := I.list hx
      have hlen := r.length
      exact wpAny_truthy_list pl.isList (by simp only [List.size_toArray]; omega) ⟨H, I.tok _, by rw [isEmpty_of r]; exact q⟩
    · subst e'
      obtain ⟨its, r, pl, hz⟩ := I.tuple hx
      have hlen := r.length
      exact truthy_tuple pl (by simp only [List.size_toArray]; omega) ⟨H, I.tok _, by rw [isEmpty_of r]; exact q⟩
    · subst e'
      obtain ⟨hz, hS, vs, r, m⟩ : kvs.length ≤ sizeLine ∧ (p == sysModules) = false ∧ ∃ vs, KV kvs vs ∧ s.heap.DictOf (mixKind X.prog X.w) p vs := I.hok p _ hx
      have hlen : kvs.length = vs.length := Paired.length r
      exact wpAny_truthy_dict hS m (by omega) ⟨H, I.tok _, by rw [isEmpty_kv r]; exact q⟩
  | _ => exact (show False from e).elim
theorem pt_truth (ha : PE X a ta) (he : ∀ whole, isTrue a X.env whole = (do let v ← whole; standAt a.pos; holding [v] (truthy v))) :
    PT X a (fun σ H Q => ta σ H fun x H' => ∃ k, TruV X.K x H' k ∧ Q k H') := by
  intro pins s σ H Q I h
  exact isTrue_plain (thn (ha pins s σ H _ I h) fun v s1 ⟨x, H1, I1, r1, q1⟩ => tru_ok pins s1 σ H1 x v Q I1 r1 q1) (he _)
theorem op_add_str : OpR X (binaryOp .Add) (fun x y H Q => ∃ i j, x = .str i ∧ y = .str j ∧ i.length + j.length ≤ sizeLine ∧ Q (.str (i ++ j)) H) := by
  intro pins s σ H x y v u Q I rx ry h
  obtain ⟨i, j, rfl, rfl, hz, q⟩ := h
  obtain ⟨t, rfl⟩ := rx
  obtain ⟨t', rfl⟩ := ry
  exact add_str (fun t' tk => ⟨.str (i ++ j), H, I.tok _, ⟨_, rfl⟩, q⟩) hz
theorem vals1 {x : V} {us : List Value} (r : Vals [x] us) : ∃ u, us = [u] ∧ RelV x u := by
  cases r with
  | cons r1 r2 => cases r2; exact ⟨_, rfl, r1⟩
theorem vals2 {x y : V} {us : List Value} (r : Vals [x, y] us) : ∃ u w', us = [u, w'] ∧ RelV x u ∧ RelV y w' := by
  cases r with
  | cons r1 r2 =>
    cases r2 with
    | cons r3 r4 => cases r4; exact ⟨_, _, rfl, r1, r3⟩
theorem call_abs : CallR X (.builtin "abs") (fun xs H Q => ∃ i, xs = [.int i] ∧ Q (.int (if i < 0 then -i else i)) H) := by
  intro pins s σ H xs us Q I r h
  obtain ⟨i, rfl, q⟩ := h
  obtain ⟨u, rfl, t, rfl⟩ := vals1 r
  exact call_abs_int fun u tk => ⟨.int (if i < 0 then -i else i), H, I.tok _, ⟨_, rfl⟩, q⟩
theorem call_max2 (hc : X.calm = true) : CallR X (.builtin "max") (fun xs H Q => ∃ i j, xs = [.int i, .int j] ∧ Q (.int (if j > i then j else i)) H) := by
  intro pins s σ H xs us Q I r h
  obtain ⟨i, j, rfl, q⟩ := h
  obtain ⟨u, w', rfl, ⟨t, rfl⟩, ⟨t', rfl⟩⟩ := vals2 r
  refine max_two_ints (I.ok.hd hc) fun h' tk k => ⟨_, H, I.kept k, ?_, q⟩
  by_cases hj : j > i
  · rw [if_pos hj, if_pos hj]; exact ⟨_, rfl⟩
  · rw [if_neg hj, if_neg hj]; exact ⟨_, rfl⟩
theorem call_min2 (hc : X.calm = true) : CallR X (.builtin "min") (fun xs H Q => ∃ i j, xs = [.int i, .int j] ∧ Q (.int (if j < i then j else i)) H) := by
  intro pins s σ H xs us Q I r h
  obtain ⟨i, j, rfl, q⟩ := h
  obtain ⟨u, w', rfl, ⟨t, rfl⟩, ⟨t', rfl⟩⟩ := vals2 r
  refine min_two_ints (I.ok.hd hc) fun h' tk k => ⟨_, H, I.kept k, ?_, q⟩
  by_cases hj : j < i
  · rw [if_pos hj, if_pos hj]; exact ⟨_, rfl⟩
  · rw [if_neg hj, if_neg hj]; exact ⟨_, rfl⟩
theorem call_int1 : CallR X (.type "int") (fun xs H Q => (∃ i, xs = [.int i] ∧ Q (.int i) H) ∨ ∃ k, xs = [.bl k] ∧ Q (.int (if k then 1 else 0)) H) := by
  intro pins s σ H xs us Q I r h
  rcases h with ⟨i, rfl, q⟩ | ⟨k, rfl, q⟩
  · obtain ⟨u, rfl, t, rfl⟩ := vals1 r
    exact call_int_int ⟨.int i, H, I, ⟨_, rfl⟩, q⟩
  · obtain ⟨u, rfl, r1⟩ := vals1 r
    cases r1
    exact call_int_bool ⟨.int (if k then 1 else 0), H, I.tok _, ⟨_, rfl⟩, q⟩
theorem call_str_int : CallR X (.type "str") (fun xs H Q => ∃ i, xs = [.int i] ∧ i.natAbs.log2 < 1920 ∧ Q (.str (toString i)) H) := by
  intro pins s σ H xs us Q I r h
  obtain ⟨i, rfl, hz, q⟩ := h
  obtain ⟨u, rfl, t, rfl⟩ := vals1 r
  exact PySem.P.str_of_int hz ⟨.str _, H, I.tok _, ⟨_, rfl⟩, q⟩
end
end L2
namespace L2
open PySem PySem.Spec PyProof.Rows
section
variable {prog : Program} {w : World} {A : Around} {E : Value → Shared → Prop} {s : Shared} {K : Fg} {x dx C f : Addr} {mA : Str → Option Value} {name : Str} {v : Value}
end
section
variable {P : Program} {w : World} {H H' : Hp} {h h' : Heap} {a C dx : Addr} {fs fs' : List (Str × V)}
end
section
variable {X : Cx} {pins : Pn} {σ : St} {H : Hp} {s : Shared} {a C dx : Addr} {fs : List (Str × V)} {f : Str} {v : V} {A : Around} {E : Value → Shared → Prop}
end
section
variable {X : Cx} {o e value : Expr} {f : Str} {pos pos' tpos : Pos} {ta tv : TE}
end
section
variable {X : Cx} {pins : Pn} {σ : St} {H : Hp} {s : Shared} {A : Around} {E : Value → Shared → Prop} {Q : Value → Shared → Prop} {c : Value} {b : Bool}
end
end L2
namespace L2
open PySem PySem.Spec PyProof.Rows
structure Room (k : Nat) (A : Around) : Prop where
  hd : A.handled = none
  dp : A.depth + 3 * k + 5 < recursionLimit
  un : A.units + 16 * k + 200 < cLine
theorem Room.mono {j k : Nat} {A : Around} (r : Room k A) (h : j ≤ k) : Room j A := ⟨r.hd, by have := r.dp; omega, by have := r.un; omega⟩
theorem Room.deeper {k : Nat} {A : Around} (r : Room (k + 1) A) (env : Env) : Room k (A.deeper env) :=
  ⟨r.hd, by have := r.dp; show A.depth + 1 + 3 * k + 5 < _; omega, by have := r.un; show A.units + 3 + 16 * k + 200 < _; omega⟩
theorem Room.depth {k : Nat} {A : Around} (r : Room k A) : A.depth < recursionLimit := by have := r.dp; omega
theorem Room.units0 {k : Nat} {A : Around} (r : Room k A) : A.units < cLine := by have := r.un; omega
def tNil : TA := fun _ H Q => Q [] H
def tCons (ta : TE) (tr : TA) : TA := fun σ H Q => ta σ H fun x H1 => tr σ H1 fun xs H2 => Q (x :: xs) H2
section
variable {X : Cx} {e : Expr} {es : List Expr} {te : TE} {t : TA} {pos : Pos}
theorem pnl : PA X [] tNil := fun _ _ _ _ H Q I h => Calls.spliced_nil ⟨[], H, I, .nil, h⟩
theorem pcn (ha : PE X e te) (hr : PA X es t) (hs : starEach (e :: es) X.env = (false, eval e X.env) :: starEach es X.env := by rfl) : PA X (e :: es) (tCons te t) := by
  intro pos pins s σ H Q I h
  rw [hs]
  show wpAny _ _ (spliced ((false, eval e X.env) :: backTo pos (starEach es X.env))) _ _ s
  refine Calls.spliced_cons (thn (ha pins s σ H _ I h) fun u s1 ⟨x, H1, I1, r1, q1⟩ => ?_)
  exact thn (hr pos pins s1 σ H1 _ I1 q1) fun us s2 ⟨xs, H2, I2, r2, q2⟩ => ⟨x :: xs, H2, I2, .cons r1 r2, q2⟩
def tTup (t : TA) : TE := fun σ H Q => t σ H fun xs H1 => xs.length ≤ sizeLine ∧ ∀ p, H1 p = none → Q (.ref p) (upd H1 p (.tup xs))
def tLst (t : TA) : TE := fun σ H Q => t σ H fun xs H1 => xs.length ≤ sizeLine ∧ ∀ p, H1 p = none → Q (.ref p) (upd H1 p (.lst xs))
theorem pe_tup {x1} (h : PA X es t) : PE X (.Tuple es x1 pos) (tTup t) := by
  intro pins s σ H Q I hq
  refine wpAny_Tuple_spliced (thn (h pos pins s σ H _ I hq) fun us s1 ⟨xs, H1, I1, r, z, q⟩ => ⟨by rw [← r.length]; exact z, ?_⟩)
  have hf : H1 s1.heap.objs.size = none := I1.hok.fresh (Nat.le_refl _)
  refine ⟨.ref s1.heap.objs.size, upd H1 s1.heap.objs.size (.tup xs), I1.laid (t' := s1.toks) (fun b u e => Heap.get?_push_of_some _ e) (Nat.le_refl _) ?_, rfl, q _ hf⟩
  exact ⟨z, us, r, ⟨_, Heap.get?_push_size _ rfl, rfl, _, rfl⟩⟩
theorem pe_lst (h : PA X es t) : PE X (.List es pos) (tLst t) := by
  intro pins s σ H Q I hq
  refine wpAny_List_spliced (thn (h pos pins s σ H _ I hq) fun us s1 ⟨xs, H1, I1, r, z, q⟩ => ⟨by rw [← r.length]; exact z, ?_⟩)
  have hf : H1 s1.heap.objs.size = none := I1.hok.fresh (Nat.le_refl _)
  refine ⟨.ref s1.heap.objs.size, upd H1 s1.heap.objs.size (.lst xs), I1.laid (t' := s1.toks) (fun b u e => Heap.get?_push_of_some _ e) (Nat.le_refl _) ?_, rfl, q _ hf⟩
  exact ⟨z, us, 0, r, Heap.get?_push_size _ rfl⟩
end
abbrev Sp := List V → Hp → VK → XK → Prop
abbrev CXT := List Env → Hp → Shared → XK → Value → Shared → Prop
structure Env0 (P : Program) (w : World) (K : Fg) (mg : Str → Option Value) (base : Heap) (A : Around) (outer : List Env) (s : Shared) (H : Hp) : Prop where
  frames : A.frames = some outer
  mod : Mod K mg base
  bs : ∀ b o, base.get? b = some o → s.heap.get? b = some o ∧ H b = none
  bsz : base.objs.size ≤ s.heap.objs.size
  funs : s.heap.FunFrames base outer
  frf : ∀ b ∈ frs outer, H b = none
  hok : HOk P w H s.heap
  bare : AllBare s.gens
def CE (outer : List Env) (P : Program) (w : World) (H : Hp) (s : Shared) (Q : VK) (u : Value) (s' : Shared) : Prop :=
  ∃ v H', s'.os = s.os ∧ AllBare s'.gens ∧ Un (frs outer) [] H H' s.heap s'.heap ∧ HOk P w H' s'.heap ∧ RelV v u ∧ Q v H'
def CR (CX : CXT) (outer : List Env) (P : Program) (w : World) (H : Hp) (s : Shared) (Q : VK) (E : XK) (r : Result) (s' : Shared) : Prop :=
  match r with
  | .ok (.ret u) => CE outer P w H s Q u s'
  | .ok _ => False
  | .error e => CX outer H s E e s'
structure FnOk (P : Program) (w : World) (K : Fg) (mg : Str → Option Value) (base : Heap) (CX : CXT) (k : Nat) (f : Addr) (fd : FuncData) (ps : List Str) (sp : Sp) : Prop where
  len : ∀ vs H Q E, sp vs H Q E → vs.length = ps.length
  run : ∀ (A : Around) (outer : List Env) (s : Shared) (H : Hp) (args : Args) (us : List Value) (vs : List V) (Q : VK) (E : XK), Room k A → Env0 P w K mg base A outer s H → BindsTo s fd args (ps.zip us) → Vals vs us → sp vs H Q E →
    codeAny (model P w) A (.call (.ref f) args) (CR CX outer P w H s Q E) s
theorem FnOk.imp {P : Program} {w : World} {K : Fg} {mg : Str → Option Value} {base : Heap} {CX : CXT} {k : Nat} {f : Addr} {fd : FuncData} {ps : List Str} {sp sp' : Sp} (F : FnOk P w K mg base CX k f fd ps sp)
    (h : ∀ vs H Q E, sp' vs H Q E → sp vs H Q E) : FnOk P w K mg base CX k f fd ps sp' :=
  ⟨fun vs H Q E q => F.len vs H Q E (h _ _ _ _ q), fun A outer s H args us vs Q E hr he hb hv hs => F.run A outer s H args us vs Q E hr he hb hv (h _ _ _ _ hs)⟩
section
variable {X : Cx} {pins : Pn} {σ : St} {H : Hp} {s s' : Shared}
theorem Inv.env0 (I : Inv X pins σ H s) : Env0 X.prog X.w X.K X.mg X.base X.A X.stack s H :=
  ⟨I.ok.frames, I.ok.mod, I.bs, Nat.le_trans I.ok.bsz I.sz, I.stack, I.stkFree, I.hok, I.bare⟩
theorem Inv.after {Q : VK} {u : Value} (I : Inv X pins σ H s) (h : CE X.stack X.prog X.w H s Q u s') : EP X pins σ Q u s' := by
  obtain ⟨v, H', os, bare, un, hok, r, q⟩ := h
  obtain ⟨hh, g, d, t, os'⟩ := s'
  obtain rfl : os' = s.os := os
  exact ⟨v, H', I.call (h' := hh) (g' := g) (d' := d) (t' := t) (ch := []) un hok bare (fun b z => absurd z (by simp)), r, q⟩
end
def tCall (sp : Sp) (dvs : List V) (E : XK) (t : TA) : TE := fun σ H Q => t σ H fun vs H1 => sp (vs ++ dvs) H1 Q E
def Binds (K : Fg) (fd : FuncData) (ps : List Str) (ds : List Value) : Prop :=
  ∀ (s : Shared) (us : List Value), K.In s.heap → (us ++ ds).length = ps.length → BindsTo s fd ⟨us, []⟩ (ps.zip (us ++ ds))
theorem Binds.all {K : Fg} {fd : FuncData} {ps : List Str} (h : ∀ us : List Value, us.length = ps.length → bindArgs fd ⟨us, []⟩ = pure (ps.zip us)) : Binds K fd ps [] := fun s us _ hl => by
  rw [List.append_nil] at hl ⊢
  exact .of_eq (h us hl)
def Passes (CX : CXT) (X : Cx) (E : XK) : Prop := ∀ (pins : Pn) (σ : St) (H : Hp) (s : Shared) (e : Value) (s' : Shared), Inv X pins σ H s → CX X.stack H s E e s' → X.xe e s'
section
variable {X : Cx} {CX : CXT} {k : Nat} {f C : Addr} {fd : FuncData} {ps : List Str} {sp : Sp} {dvs : List V} {ds : List Value} {E : XK} {x m : Str} {p pos apos : Pos} {e o : Expr} {es : List Expr} {ta : TE} {t : TA}
theorem run_fn {pins : Pn} {σ : St} {H : Hp} {s : Shared} {Q : VK} {us : List Value} {vs : List V} (F : FnOk X.prog X.w X.K X.mg X.base CX k f fd ps sp) (hr : Room k X.A) (hb : Binds X.K fd ps ds) (hd : Vals dvs ds) (hx : Passes CX X E)
    (I : Inv X pins σ H s) (r : Vals vs us) (h : sp (vs ++ dvs) H Q E) : wpAny (model X.prog X.w) X.A (call (.ref f) us) (EP X pins σ Q) X.xe s := by
  have r2 : Vals (vs ++ dvs) (us ++ ds) := r.append hd
  have hl : (us ++ ds).length = ps.length := by rw [← r2.length]; exact F.len _ _ _ _ h
  refine wpAny_call (codeAny_mono (F.run X.A X.stack s H ⟨us, []⟩ (us ++ ds) (vs ++ dvs) Q E hr I.env0 (hb s us I.kIn hl) r2 h) fun r s' hq => ?_)
  cases r with
  | error e => exact hx pins σ H s e s' I hq
  | ok fl =>
    cases fl with
    | ret u => exact I.after hq
    | next => exact False.elim hq
    | brk => exact False.elim hq
    | cont => exact False.elim hq
theorem pe_call (F : FnOk X.prog X.w X.K X.mg X.base CX k f fd ps sp) (hr : Room k X.A) (hg : Gl X x) (hm : X.mg x = some (.ref f)) (hk : PySem.W.keepIn X.K (.ref f) = true) (hb : Binds X.K fd ps ds) (hd : Vals dvs ds) (hx : Passes CX X E)
    (ha : PA X (e :: es) t) (hdb : (x == ("__debug__" : Str)) = false := by decide) (he : starEach (e :: es) X.env = (false, eval e X.env) :: starEach es X.env := by rfl) (hpl : (backTo pos (starEach es X.env)).any (·.1) = false := by rfl) :
    PE X (.Call (.Name x p) (e :: es) [] pos) (tCall sp dvs E t) := by
  intro pins s σ H Q I h
  refine wpAny_Call_Name_kw (ld_glob I hg hm ?_ hdb)
  refine PySem.W.callWith_K (h₀ := X.base) I.ok.mod.kin hk (thn (ha pos pins s σ H _ I h) fun us s1 ⟨vs, H1, I1, r, q⟩ => ⟨I1.kIn, ?_⟩) he hpl
  exact run_fn F hr hb hd hx I1 r q
end
def PK (X : Cx) (kws : List Keyword) (t : TA) : Prop :=
  ∀ (pos : Pos) (pins : Pn) (s : Shared) (σ : St) (H : Hp) (Q : List V → Hp → Prop), Inv X pins σ H s → t σ H Q → wpAny (model X.prog X.w) X.A (evalAll ((backToKw pos (keywordEach kws X.env)).map (·.2))) (AP X pins σ Q) X.xe s
section
variable {X : Cx} {CX : CXT} {k : Nat} {f C : Addr} {fd : FuncData} {ps ks : List Str} {sp : Sp} {E : XK} {x m : Str} {p pos apos kpos : Pos} {e o : Expr} {es : List Expr} {kws : List Keyword} {te ta : TE} {t tk : TA} {nm : Option Str}
theorem pk_nil : PK X [] tNil := fun _ _ _ _ H Q I h => wpAny_evalAll_nil ⟨[], H, I, .nil, h⟩
theorem pk_cons (ha : PE X e te) (hr : PK X kws t) : PK X (⟨nm, e, kpos⟩ :: kws) (tCons te t) := by
  intro pos pins s σ H Q I h
  show wpAny _ _ (evalAll ((do let v ← eval e X.env; standAt pos; pure v) :: (backToKw pos (keywordEach kws X.env)).map (·.2))) _ _ s
  refine wpAny_evalAll_cons (wpAny_bind (thn (ha pins s σ H _ I h) fun u s1 ⟨x, H1, I1, r1, q1⟩ => wpAny_bind (wpAny_standAt (wpAny_pure ?_))))
  exact thn (hr pos pins s1 σ H1 _ I1 q1) fun us s2 ⟨xs, H2, I2, r2, q2⟩ => ⟨x :: xs, H2, I2, .cons r1 r2, q2⟩
structure KBinds (K : Fg) (fd : FuncData) (ps ks : List Str) (g : List Value → List Value → List Value) (gV : List V → List V → List V) : Prop where
  to : ∀ (s : Shared) (us ws : List Value), K.In s.heap → (g us ws).length = ps.length → BindsTo s fd ⟨us, ks.zip ws⟩ (ps.zip (g us ws))
  rel : ∀ {vs : List V} {us : List Value} {zs : List V} {ws : List Value}, Vals vs us → Vals zs ws → Vals (gV vs zs) (g us ws)
variable {g : List Value → List Value → List Value} {gV : List V → List V → List V}
end
structure FnScope (N P : List Str) (sc : Scope) : Prop where
  kind : sc.kind = .function
  co : sc.isCoroutine = false
  gen : sc.isGenerator = false
  nd : N.Nodup
  pre : N.take P.length = P
  par : ∀ x ∈ P, sc.names.lookup x = some .local ∨ sc.names.lookup x = some .cell
  nofree : ∀ y ∈ sc.names, y.2 ≠ .free
theorem bindL_out {kindOf : Str → Option NameKind} {x : Str} : ∀ {binds : List (Str × Value)} {m : Str → Option Value}, (∀ v, (x, v) ∉ binds) → bindL kindOf binds m x = m x
  | [], _, _ => rfl
  | (n, v) :: r, m, h => by
    unfold bindL
    rw [bindL_out fun w hw => h w (List.mem_cons_of_mem _ hw)]
    split
    · have : x ≠ n := by rintro rfl; exact h v List.mem_cons_self
      simp [this]
    · rfl
theorem bindC_out {kindOf : Str → Option NameKind} {x : Str} : ∀ {binds : List (Str × Value)} {m : Str → Option Value}, (∀ v, (x, v) ∉ binds) → bindC kindOf binds m x = m x
  | [], _, _ => rfl
  | (n, v) :: r, m, h => by
    unfold bindC
    rw [bindC_out fun w hw => h w (List.mem_cons_of_mem _ hw)]
    split
    · rfl
    · have : x ≠ n := by rintro rfl; exact h v List.mem_cons_self
      simp [this]
theorem bindL_get {kindOf : Str → Option NameKind} {x : Str} {v : Value} : ∀ {P : List Str} {vs : List Value} {i : Nat} {m : Str → Option Value}, P.Nodup → P[i]? = some x → vs[i]? = some v → kindOf x = some .local →
    bindL kindOf (P.zip vs) m x = some v
  | [], _, _, _, _, h, _, _ => by simp at h
  | _ :: _, [], _, _, _, _, h, _ => by simp at h
  | p :: P, w :: vs, 0, m, nd, h1, h2, hk => by
    simp at h1 h2; subst h1; subst h2
    show bindL kindOf ((p, w) :: P.zip vs) m p = _
    unfold bindL
    rw [bindL_out fun v hv => (List.nodup_cons.mp nd).1 (List.of_mem_zip hv).1, if_pos hk]
    simp
  | p :: P, w :: vs, i + 1, m, nd, h1, h2, hk => by
    show bindL kindOf ((p, w) :: P.zip vs) m x = _
    unfold bindL
    exact bindL_get (i := i) (List.nodup_cons.mp nd).2 (by simpa using h1) (by simpa using h2) hk
theorem bindC_get {kindOf : Str → Option NameKind} {x : Str} {v : Value} : ∀ {P : List Str} {vs : List Value} {i : Nat} {m : Str → Option Value}, P.Nodup → P[i]? = some x → vs[i]? = some v → kindOf x ≠ some .local →
    bindC kindOf (P.zip vs) m x = some v
  | [], _, _, _, _, h, _, _ => by simp at h
  | _ :: _, [], _, _, _, _, h, _ => by simp at h
  | p :: P, w :: vs, 0, m, nd, h1, h2, hk => by
    simp at h1 h2; subst h1; subst h2
    show bindC kindOf ((p, w) :: P.zip vs) m p = _
    unfold bindC
    rw [bindC_out fun v hv => (List.nodup_cons.mp nd).1 (List.of_mem_zip hv).1, if_neg hk]
    simp
  | p :: P, w :: vs, i + 1, m, nd, h1, h2, hk => by
    show bindC kindOf ((p, w) :: P.zip vs) m x = _
    unfold bindC
    exact bindC_get (i := i) (List.nodup_cons.mp nd).2 (by simpa using h1) (by simpa using h2) hk
def start (N : List Str) (vs : List V) : St := vs.map some ++ List.replicate (N.length - vs.length) none
def cxOf (CX : CXT) (P : Program) (w : World) (K : Fg) (mg : Str → Option Value) (base : Heap) (N : List Str) (qual : Str) (scope : Scope) (f : Addr) (cd : Value) (A : Around) (outer : List Env) (s : Shared) (H : Hp) (E : XK) : Cx where
  prog := P
  w := w
  K := K
  mg := mg
  base := base
  A := A.deeper (envOfC qual scope s.heap.objs.size f cd)
  N := N
  s₀ := s
  H₀ := H
  env := envOfC qual scope s.heap.objs.size f cd
  outer := outer
  stack := envOfC qual scope s.heap.objs.size f cd :: outer
  ex := []
  calm := true
  fn := fun _ => true
  pn := []
  xe := fun e s' => wpAny (model P w) (A.deeper (envOfC qual scope s.heap.objs.size f cd)) (leaving (envOfC qual scope s.heap.objs.size f cd) e) (fun _ s'' => CX outer H s E e s'') (fun e' s'' => CX outer H s E e' s'') s'
theorem cell_has {sc : Scope} {n : Nat} {x : Str} (h : sc.names.lookup x = some .cell) : ∃ c, (cellsFrom n sc.names []).lookup x = some c := by
  have q := PySem.W.cellsFrom_some sc.names n [] (.inl h)
  exact Option.isSome_iff_exists.mp q
theorem inv_start {CX : CXT} {P : Program} {w : World} {K : Fg} {mg : Str → Option Value} {base : Heap} {N ps : List Str} {qual : Str} {scope : Scope} {f : Addr} {cd : Value} {A : Around} {outer : List Env} {s s1 : Shared} {H : Hp} {E : XK} {us : List Value} {vs : List V}
    (S : FnScope N ps scope) (hd : A.handled = none) (e0 : Env0 P w K mg base A outer s H) (hl : vs.length = ps.length) (r : Vals vs us)
    (x : InCallC s s.heap.objs.size (bindL (envOfC qual scope s.heap.objs.size f cd).kindOf (ps.zip us) fun _ => none) (cellsFrom (s.heap.objs.size + 1) scope.names []) (bindC (envOfC qual scope s.heap.objs.size f cd).kindOf (ps.zip us) fun _ => none) s1) :
    Inv (cxOf CX P w K mg base N qual scope f cd A outer s H E) [] (start N vs) H s1 := by
  have hpl : ps.length ≤ N.length := by have := congrArg List.length S.pre; rw [List.length_take] at this; omega
  obtain ⟨h1, tk, rfl, hk⟩ := x.done
  have noA : ∀ b : Addr, b ∉ (cxOf CX P w K mg base N qual scope f cd A outer s H E).ex := fun b z => absurd (show b ∈ ([] : List Addr) from z) (by simp)
  refine ⟨⟨e0.mod, S.kind, rfl, rfl, Nat.le_refl _, fun y z c h1 h2 => ?_, fun y hy => ?_, fun y c _ h => ?_, fun _ => hd, Around.frames_deeper e0.frames, .inr ⟨rfl, rfl⟩, fun b z => absurd z (noA b), e0.bs, e0.bsz, fun b _ _ => noA b, fun b z => absurd z (noA b), e0.funs, e0.frf⟩,
    rfl, e0.bare, Un.kept hk, ⟨_, x.toInCall.ns, fun i y v h1 h2 h3 => ?_⟩, fun y c h => ⟨_, x.cell y c h⟩, e0.hok.fresh (Nat.le_refl _), fun y c h => ?_, fun p hp => absurd (show p ∈ ([] : Pn) from hp) (by simp), e0.hok.kept hk, ?_⟩
  · exact name_of_addr x.apart (PySem.mem_of_lookup h1) (PySem.mem_of_lookup h2)
  · have hy : scope.names.lookup y = some .cell ∨ scope.names.lookup y = some .free := hy
    rcases hy with hy | hy
    · exact cell_has hy
    · exact absurd rfl (S.nofree _ (PySem.mem_of_lookup hy))
  · exact Nat.le_of_lt (x.above y c (PySem.mem_of_lookup h))
  · have hi : i < vs.length := by
      unfold start at h2
      by_cases hi : i < vs.length
      · exact hi
      · rw [List.getElem?_append_right (by simpa using hi)] at h2
        rw [List.getElem?_replicate] at h2
        split at h2 <;> cases h2
    have ha : vs[i]? = some v := by
      unfold start at h2
      rw [List.getElem?_append_left (by simpa using hi), List.getElem?_map] at h2
      cases e : vs[i]? with
      | none => rw [e] at h2; cases h2
      | some a => rw [e] at h2; cases h2; rfl
    obtain ⟨u, hu, rv⟩ := r.get ha
    have hp : ps[i]? = some y := by
      rw [← S.pre, List.getElem?_take_of_lt (by omega)]; exact h1
    have ndP : ps.Nodup := by rw [← S.pre]; exact S.nd.sublist (List.take_sublist _ _)
    refine ⟨u, rv, ?_⟩
    rcases S.par y (List.mem_of_getElem? hp) with k | k
    · exact .inl ⟨k, bindL_get ndP hp hu k⟩
    · obtain ⟨c, e⟩ := cell_has (n := s.heap.objs.size + 1) k
      refine .inr ⟨.inl k, c, e, ?_⟩
      have q := x.cell y c e
      rw [bindC_get ndP hp hu (by show scope.names.lookup y ≠ _; rw [k]; decide)] at q
      exact q
  · exact e0.hok.fresh (Nat.le_of_lt (x.above y c (PySem.mem_of_lookup h)))
  · unfold start
    show _ = N.length
    rw [List.length_append, List.length_map, List.length_replicate]
    omega
theorem fn_of {CX : CXT} {P : Program} {w : World} {K : Fg} {mg : Str → Option Value} {base : Heap} {k : Nat} {f : Addr} {name qual : Str} {params : Arguments} {body : List Stmt} {scope : Scope} {dV kV doc pm cdv ct oc : Value} {an od : Option Addr}
    {osl : Array (Option Value)} {N ps : List Str} {sp : Sp} (lk : K.lookup f = some ⟨oc, od, .func (PySem.W.fnOf name qual params body scope dV kV doc pm an cdv ct), osl⟩) (hcd : PySem.W.codeIn K cdv qual = true) (S : FnScope N ps scope)
    (len : ∀ vs H Q E, sp vs H Q E → vs.length = ps.length)
    (hbody : ∀ (A : Around) (outer : List Env) (s : Shared) (H : Hp) (vs : List V) (Q : VK) (E : XK), Room k (A.deeper (envOfC qual scope s.heap.objs.size f cdv)) → sp vs H Q E →
      ∃ t, PSs (cxOf CX P w K mg base N qual scope f cdv A outer s H E) body t ∧ t { nx := fun _ H' => Q .non H', rt := Q } (start N vs) H) :
    FnOk P w K mg base CX (k + 1) f (PySem.W.fnOf name qual params body scope dV kV doc pm an cdv ct) ps sp := by
  refine ⟨len, fun A outer s H args us vs Q E hr e0 hb r hsp => ?_⟩
  have hl := len _ _ _ _ hsp
  have KX : K.In s.heap := e0.mod.kin.keeps fun b o e => (e0.bs b o e).1
  have lim : s.heap.NoLimit := e0.mod.nolimit.keeps fun b o e => (e0.bs b o e).1
  have hkind : ∀ y ∈ ps.zip us, scope.names.lookup y.1 = some .local ∨ (scope.names.lookup y.1 = some .cell ∧ ((cellsFrom (s.heap.objs.size + 1) scope.names []).lookup y.1).isSome = true) := fun ⟨n, v⟩ hy => by
    rcases S.par n (List.of_mem_zip hy).1 with q | q
    · exact .inl q
    · exact .inr ⟨q, PySem.W.cellsFrom_some _ _ _ (.inl q)⟩
  refine codeAny_call_function hr.depth (KX _ _ lk) rfl S.co S.gen rfl (PySem.W.codeRec_of KX hcd) (hb _ _ _ _ ?_)
  refine wpAny_newFunctionEnv_cells S.kind hkind fun env he s1 x => ?_
  subst he
  refine ⟨lim.keeps x.toInCall.keep, codeAny_func ?_⟩
  obtain ⟨t, ht, hq⟩ := hbody A outer s H vs Q E (hr.deeper _) hsp
  have I : Inv (cxOf CX P w K mg base N qual scope f cdv A outer s H E) [] (start N vs) H s1 := inv_start S hr.hd e0 hl r x
  refine wpAny_mono (ht [] s1 (start N vs) H _ I hq) (fun fl s' hs => ?_) fun e s' hs => hs
  have fin : ∀ {σ' : St} {H' : Hp} {v : V} {u : Value}, Inv (cxOf CX P w K mg base N qual scope f cdv A outer s H E) [] σ' H' s' → RelV v u → Q v H' → CE outer P w H s Q u s' :=
    fun {σ' H' v u} J rv q => ⟨v, H', J.os, J.bare, J.base, J.hok, rv, q⟩
  cases fl with
  | ret u =>
    obtain ⟨v, σ', H', J, rv, q⟩ := hs
    exact fin J rv q
  | next =>
    obtain ⟨σ', H', J, q⟩ := hs
    exact fin (v := V.non) (u := Value.none) J rfl q
  | brk =>
    obtain ⟨_, _, _, q⟩ := hs
    exact False.elim q
  | cont =>
    obtain ⟨_, _, _, q⟩ := hs
    exact False.elim q
end L2
namespace L2
open PySem PySem.Spec PyProof.Rows
section
variable {X : Cx} {x : Str} {p pos : Pos} {e : Expr} {es : List Expr} {t : TA} {id T : String} {r : List V → Hp → VK → Prop}
def tCB (r : List V → Hp → VK → Prop) (t : TA) : TE := fun σ H Q => t σ H fun vs H1 => r vs H1 Q
theorem pe_callB (hc : CallR X (.builtin id) r) (hg : Gl X x) (hm : X.mg x = none) (hv : bootBuiltins x = some (.builtin id)) (ha : PA X (e :: es) t) (hn : x ≠ "__name__" := by decide) (hdb : (x == ("__debug__" : Str)) = false := by decide)
    (he : starEach (e :: es) X.env = (false, eval e X.env) :: starEach es X.env := by rfl) (hpl : (backTo pos (starEach es X.env)).any (·.1) = false := by rfl) : PE X (.Call (.Name x p) (e :: es) [] pos) (tCB r t) := by
  intro pins s σ H Q I h
  refine wpAny_Call_Name_kw (ld_blt I hg hm hv ?_ hn hdb)
  exact PyProof.Rows.callWith_builtin1 (thn (ha pos pins s σ H _ I h) fun us s1 ⟨vs, H1, I1, r1, q1⟩ => hc pins s1 σ H1 vs us Q I1 r1 q1) he hpl
theorem pe_callTy (hc : CallR X (.type T) r) (hg : Gl X x) (hm : X.mg x = none) (hv : bootBuiltins x = some (.type T)) (ha : PA X (e :: es) t) (hn : x ≠ "__name__" := by decide) (hdb : (x == ("__debug__" : Str)) = false := by decide)
    (he : starEach (e :: es) X.env = (false, eval e X.env) :: starEach es X.env := by rfl) (hpl : (backTo pos (starEach es X.env)).any (·.1) = false := by rfl) : PE X (.Call (.Name x p) (e :: es) [] pos) (tCB r t) := by
  intro pins s σ H Q I h
  refine wpAny_Call_Name_kw (ld_blt I hg hm hv ?_ hn hdb)
  exact PyProof.Rows.callWith_type1 (thn (ha pos pins s σ H _ I h) fun us s1 ⟨vs, H1, I1, r1, q1⟩ => hc pins s1 σ H1 vs us Q I1 r1 q1) he hpl
end
end L2
namespace HT
open PySem PyProof.Rows
section
open PySem.SeqAt
open PySem.AutoSeq1 (wpAny_loadPart')
open PySem.MeetsSeq PySem.MeetsSeq2 PySem.MeetsSeq3
end
section
variable {prog : Program} {w : World} {A : Around} {E : Value → Shared → Prop} {s : Shared}
def sIx (n d : Nat) : Option Int → Nat
  | none => d
  | some v => if v < 0 then (v + (n : Int)).toNat else min v.toNat n
end
end HT
namespace L2
open PySem PySem.Spec PyProof.Rows
abbrev TO := St → Hp → (Option Int → Hp → Prop) → Prop
def PO (X : Cx) (e : Option Expr) (t : TO) : Prop :=
  ∀ (pins : Pn) (s : Shared) (σ : St) (H : Hp) (Q : Option Int → Hp → Prop), Inv X pins σ H s → t σ H Q →
    wpAny (model X.prog X.w) X.A (evalPart e X.env) (fun u s' => ∃ o H', Inv X pins σ H' s' ∧ IsPart u o ∧ Q o H') X.xe s
def tNoPart : TO := fun _ H Q => Q none H
def tPart (t : TE) : TO := fun σ H Q => t σ H fun x H1 => ∃ i, x = .int i ∧ Q (some i) H1
theorem intsAre_of {ns : List Int} : ∀ {us : List Value}, Vals (ns.map V.int) us → IntsAre us ns := by
  induction ns with
  | nil => intro us r; rw [List.map_nil] at r; cases r; exact .nil
  | cons n ns ih =>
    intro us r
    rw [List.map_cons] at r
    cases r with
    | cons r1 r2 =>
      obtain ⟨t, e⟩ := r1
      subst e
      exact .cons n t (ih r2)
section
variable {X : Cx} {e : Expr} {te : TE} {lo hi : Option Expr} {tl th : TO} {pos p2 : Pos}
theorem po_none : PO X none tNoPart := by
  intro pins s σ H Q I h
  rw [evalPart_none]
  exact wpAny_pure ⟨none, H, I, .none, h⟩
theorem po_some (h : PE X e te) : PO X (some e) (tPart te) := by
  intro pins s σ H Q I hw
  rw [evalPart_some]
  refine thn (h pins s σ H _ I hw) fun u s1 ⟨x, H1, I1, r1, q1⟩ => ?_
  obtain ⟨i, rfl, q⟩ := q1
  obtain ⟨t, rfl⟩ := r1
  exact ⟨some i, H1, I1, .int i t, q⟩
def SlR (X : Cx) (r : V → Option Int → Option Int → Hp → VK → Prop) : Prop :=
  ∀ (pins : Pn) (s : Shared) (σ : St) (H : Hp) (x : V) (v vl vu : Value) (lo hi : Option Int) (sl : Addr) (Q : VK), Inv X pins σ H s → RelV x v → s.heap.IsSliceOf sl vl vu .none → IsPart vl lo → IsPart vu hi → r x lo hi H Q →
    ∃ T id, typeLookup (.type T) "__getitem__" = pure (some (.builtin id)) ∧ s.TypeIs v T ∧ wpAny (model X.prog X.w) X.A (getItem v (.ref sl)) (EP X pins σ Q) X.xe s
def tSl (r : V → Option Int → Option Int → Hp → VK → Prop) (te : TE) (tl th : TO) : TE := fun σ H Q => te σ H fun x H1 => tl σ H1 fun l H2 => th σ H2 fun u H3 => r x l u H3 Q
theorem pe_slice {r : V → Option Int → Option Int → Hp → VK → Prop} (hr : SlR X r) (he : PE X e te) (hl : PO X lo tl) (hu : PO X hi th) : PE X (.Subscript e (.Slice lo hi none p2) pos) (tSl r te tl th) := by
  intro pins s σ H Q I h
  refine Subscript_ (thn (he pins s σ H _ I h) fun v s1 ⟨x, H1, I1, r1, q1⟩ => ?_)
  refine wpAny_Slice (thn (hl pins s1 σ H1 _ I1 q1) fun vl s2 ⟨l, H2, I2, pl, q2⟩ => thn (hu pins s2 σ H2 _ I2 q2) fun vu s3 ⟨u, H3, I3, pu, q3⟩ => ?_)
  rw [evalPart_none]
  refine wpAny_pure ?_
  have I4 : Inv X pins σ H3 { s3 with heap := s3.heap.push { cls := .type "slice", data := .fields #[vl, vu, .none] } } := I3.kept (t' := s3.toks) fun b ob q => Heap.get?_push_of_some _ q
  obtain ⟨T, id, hT, ht, hg⟩ := hr pins { s3 with heap := s3.heap.push { cls := .type "slice", data := .fields #[vl, vu, .none] } } σ H3 x v vl vu l u s3.heap.objs.size Q I4 r1 (Heap.IsSliceOf.new ..) pl pu q3
  show wpAny (model X.prog X.w) X.A (subscriptTail e (.Slice lo hi none p2) v (.ref s3.heap.objs.size)) (EP X pins σ Q) X.xe { s3 with heap := s3.heap.push { cls := .type "slice", data := .fields #[vl, vu, .none] } }
  exact tail_any (ops := [.ref s3.heap.objs.size, v]) ht hT hg (by with_unfolding_all rfl)
def cutV (xs : List V) (lo hi : Option Int) : List V := (xs.drop (HT.sIx xs.length 0 lo)).take (HT.sIx xs.length xs.length hi - HT.sIx xs.length 0 lo)
theorem cutV_length (xs : List V) (lo hi : Option Int) : (cutV xs lo hi).length ≤ xs.length := by
  unfold cutV
  rw [List.length_take, List.length_drop]
  omega
end
end L2
namespace L2
open PySem PySem.Spec PyProof.Rows
def ixN (n : Nat) (i : Int) : Option Nat := if 0 ≤ i then (if i < n then some i.toNat else none) else if -(n : Int) ≤ i then some (i + n).toNat else none
def atI {α : Type} (xs : List α) (i : Int) : Option α := (ixN xs.length i).bind fun j => xs[j]?
theorem ixN_seq {n : Nat} {i : Int} {j : Nat} (h : ixN n i = some j) : seqIndex? i n = some j ∧ j < n ∧ -(n : Int) ≤ i ∧ i < n := by
  unfold ixN at h
  by_cases h0 : 0 ≤ i
  · rw [if_pos h0] at h
    by_cases h1 : i < n
    · rw [if_pos h1] at h
      have e : i.toNat = j := Option.some.inj h
      exact ⟨by rw [seqIndex_of h0 h1, e], by omega, by omega, h1⟩
    · rw [if_neg h1] at h; cases h
  · rw [if_neg h0] at h
    by_cases h1 : -(n : Int) ≤ i
    · rw [if_pos h1] at h
      have e : (i + n).toNat = j := Option.some.inj h
      exact ⟨by rw [seqIndex_neg (by omega) h1, e], by omega, h1, by omega⟩
    · rw [if_neg h1] at h; cases h
theorem atI_get {α : Type} {xs : List α} {i : Int} {v : α} (h : atI xs i = some v) : ∃ j, seqIndex? i xs.length = some j ∧ xs[j]? = some v ∧ j < xs.length ∧ -(xs.length : Int) ≤ i ∧ i < xs.length := by
  unfold atI at h
  cases e : ixN xs.length i with
  | none => rw [e] at h; cases h
  | some j =>
    rw [e] at h
    obtain ⟨h1, h2, h3, h4⟩ := ixN_seq e
    exact ⟨j, h1, h, h2, h3, h4⟩
theorem atI_nat {α : Type} {xs : List α} {j : Nat} {v : α} (h : xs[j]? = some v) : atI xs (j : Int) = some v := by
  have hj : j < xs.length := (List.getElem?_eq_some_iff.mp h).1
  have e : ixN xs.length (j : Int) = some j := by
    unfold ixN
    rw [if_pos (by omega), if_pos (by omega)]; simp
  unfold atI; rw [e]; exact h
def PlainIx (b : Expr) : Prop := ∀ o i, subscripted b false o i = operate [o, i] (getItem o i)
def IxR (X : Cx) (r : R2) : Prop :=
  ∀ (value slice : Expr) (pins : Pn) (s : Shared) (σ : St) (H : Hp) (x y : V) (v u : Value) (Q : VK), Inv X pins σ H s → RelV x v → RelV y u → r x y H Q →
    subscripted slice false v u = operate [v, u] (getItem v u) → wpAny (model X.prog X.w) X.A (subscriptTail value slice v u) (EP X pins σ Q) X.xe s
def MtR (X : Cx) (id : String) (r : V → List V → Hp → VK → Prop) : Prop :=
  ∀ (pins : Pn) (s : Shared) (σ : St) (H : Hp) (x : V) (xs : List V) (v : Value) (us : List Value) (Q : VK), Inv X pins σ H s → RelV x v → Vals xs us → r x xs H Q →
    wpAny (model X.prog X.w) X.A (call (.builtin id) (v :: us)) (EP X pins σ Q) X.xe s
section
variable {X : Cx} {a b : Expr} {ta tb : TE} {pos : Pos}
theorem pe_ix {r : R2} (hr : IxR X r) (ha : PE X a ta) (hb : PE X b tb) (hs : PlainIx b) : PE X (.Subscript a b pos) (tOp r ta tb) := by
  intro pins s σ H Q I h
  exact Subscript_ (binT ha hb I h fun v u s2 x y H2 I2 rx ry q => hr a b pins s2 σ H2 x y v u Q I2 rx ry q (hs _ _))
def rIxL (K : Fg) : R2 := fun x y H Q => ∃ p xs i v, x = .ref p ∧ y = .int i ∧ SqL K H p xs ∧ atI xs i = some v ∧ Q v H
def rIxT (K : Fg) : R2 := fun x y H Q => ∃ p xs i v, x = .ref p ∧ y = .int i ∧ SqT K H p xs ∧ atI xs i = some v ∧ Q v H
theorem ixl : IxR X (rIxL X.K) := by
  intro value slice pins s σ H x y v u Q I rx ry h hs
  obtain ⟨p, xs, i, z, rfl, rfl, hq, he, q⟩ := h
  cases rx
  obtain ⟨t, rfl⟩ := ry
  obtain ⟨its, r, pl, hz⟩ := I.list hq
  obtain ⟨j, h1, h2, h3, h4, h5⟩ := atI_get he
  obtain ⟨w, ew, rw'⟩ := r.get h2
  have hl := r.length
  have hn := line63
  have fin : EP X pins σ Q w s := ⟨z, H, I, rw', q⟩
  by_cases h0 : 0 ≤ i
  · have hj : i.toNat = j := by
      rw [seqIndex_of h0 h5] at h1
      exact Option.some.inj h1
    exact item_listR pl.isList h0 (by omega) (by rw [hj]; simpa using ew) fin hs
  · have hj : (i + (its.toArray.size : Int)).toNat = j := by
      rw [seqIndex_neg (by omega) h4] at h1
      rw [List.size_toArray, ← hl]
      exact Option.some.inj h1
    exact subscriptTail_builtinR (x := w) pl.isList.typeIs slot_list_getitem.lookup
      (wpAny_getItem_list_neg (Q := fun r s' => r = w ∧ EP X pins σ Q r s') pl.isList (by omega) (by rw [List.size_toArray] <;> omega) (by omega) (by rw [hj]; simpa using ew) ⟨rfl, fin⟩) hs
theorem ixt : IxR X (rIxT X.K) := by
  intro value slice pins s σ H x y v u Q I rx ry h hs
  obtain ⟨p, xs, i, z, rfl, rfl, hq, he, q⟩ := h
  cases rx
  obtain ⟨t, rfl⟩ := ry
  obtain ⟨its, r, pl, hz⟩ := I.tuple hq
  obtain ⟨j, h1, h2, h3, h4, h5⟩ := atI_get he
  obtain ⟨w, ew, rw'⟩ := r.get h2
  have hl := r.length
  have hn := line63
  have fin : EP X pins σ Q w s := ⟨z, H, I, rw', q⟩
  exact subscriptTail_builtinR (x := w) pl.typeIs slot_tuple_getitem.lookup
    (getItem_tuple (j := j) (Q := fun r s' => r = w ∧ EP X pins σ Q r s') pl (by omega) (by omega) (by rw [List.size_toArray, ← hl]; exact h1) (by simpa using ew) ⟨rfl, fin⟩) hs
theorem mapSeq_set (its : List Value) (n j : Nat) (u : Value) : Obj.mapSeq (·.setIfInBounds j u) { cls := .type "list", data := .seq its.toArray n } = { cls := .type "list", data := .seq (its.set j u).toArray n } := by
  simp [Obj.mapSeq]
theorem Inv.lst {pins : Pn} {σ : St} {H : Hp} {s : Shared} {p : Addr} {xs : List V} (I : Inv X pins σ H s) (h : H p = some (.lst xs)) :
    ∃ (its : List Value) (n : Nat), Vals xs its ∧ s.heap.get? p = some { cls := .type "list", data := .seq its.toArray n } ∧ xs.length ≤ sizeLine := by
  obtain ⟨z, its, n, r, e⟩ := I.hok p _ h
  exact ⟨its, n, r, e, z⟩
theorem Inv.lstUpd {pins : Pn} {σ : St} {H : Hp} {s : Shared} {p : Addr} {xs ys : List V} {its its' : List Value} {n n' : Nat} {f : Obj → Obj} (I : Inv X pins σ H s) (h : H p = some (.lst xs))
    (ho : s.heap.get? p = some { cls := .type "list", data := .seq its.toArray n }) (hf : f { cls := .type "list", data := .seq its.toArray n } = { cls := .type "list", data := .seq its'.toArray n' }) (r : Vals ys its') (hz : ys.length ≤ sizeLine) (t : Nat) :
    Inv X pins σ (upd H p (.lst ys)) { s with heap := s.heap.update p f, toks := t } := by
  have e : (s.heap.update p f).get? p = some { cls := .type "list", data := .seq its'.toArray n' } := by
    rw [Heap.get?_update_self f ho (by rw [hf] <;> rfl), hf]
  refine I.write (x := p) (e := p) (by rw [h]; trivial) (.inl rfl) (fun b u hb q => (Heap.get?_update_other _ _ (Ne.symm hb)).trans q) ⟨_, e⟩ ?_
  exact ⟨hz, its', n', r, e⟩
def rSetL : V → V → V → Hp → (Hp → Prop) → Prop := fun o i v H Q => ∃ p xs k j, o = .ref p ∧ i = .int k ∧ H p = some (.lst xs) ∧ ixN xs.length k = some j ∧ Q (upd H p (.lst (xs.set j v)))
theorem set_list : PSet X rSetL := by
  intro pins s σ H o i v ov iv u Q I ro ri rv h
  obtain ⟨p, xs, k, j, rfl, rfl, hp, hj, q⟩ := h
  cases ro
  obtain ⟨t, rfl⟩ := ri
  obtain ⟨its, n, r, ho, hz⟩ := I.lst hp
  obtain ⟨h1, h2, h3, h4⟩ := ixN_seq hj
  have hl := r.length
  have hn := line63
  have I' : Inv X pins σ (upd H p (.lst (xs.set j v))) { s with heap := s.heap.update p (Obj.mapSeq (·.setIfInBounds j u)) } :=
    I.lstUpd hp ho (mapSeq_set its n j u) (r.set rv j) (by rw [List.length_set]; exact hz) s.toks
  by_cases h0 : 0 ≤ k
  · have hk : k.toNat = j := by
      rw [seqIndex_of h0 h4] at h1
      exact Option.some.inj h1
    exact PySem.W.ki_setAt ho h0 (by omega) (by rw [List.size_toArray, ← hl]; exact h4) (by rw [hk]; exact ⟨_, I', q⟩)
  · have hk : (k + (its.toArray.size : Int)).toNat = j := by
      rw [seqIndex_neg (by omega) h3] at h1
      rw [List.size_toArray, ← hl]
      exact Option.some.inj h1
    exact PySem.W.ki_setBack ho (by omega) (by rw [List.size_toArray, ← hl]; exact h3) (by omega) (by rw [hk]; exact ⟨_, I', q⟩)
theorem slice_bounds (lo hi : Option Int) (n : Nat) : (sliceBounds lo hi none n).1 = ((HT.sIx n 0 lo : Nat) : Int) ∧ (sliceBounds lo hi none n).2.1 = ((HT.sIx n n hi : Nat) : Int) ∧ (sliceBounds lo hi none n).2.2 = 1 := by
  refine ⟨?_, ?_, rfl⟩
  · cases lo with
    | none => simp [sliceBounds, HT.sIx]
    | some i =>
      simp only [sliceBounds, HT.sIx, Option.getD_none, show (1 : Int) > 0 by decide, if_true]
      by_cases h : i < 0
      · simp only [h, if_true] <;> omega
      · simp only [h, if_false] <;> omega
  · cases hi with
    | none => simp [sliceBounds, HT.sIx]
    | some i =>
      simp only [sliceBounds, HT.sIx, Option.getD_none, show (1 : Int) > 0 by decide, if_true]
      by_cases h : i < 0
      · simp only [h, if_true] <;> omega
      · simp only [h, if_false] <;> omega
theorem slicePick_cut (its : List Value) (lo hi : Option Int) : slicePick its.toArray lo hi none = ((its.drop (HT.sIx its.length 0 lo)).take (HT.sIx its.length its.length hi - HT.sIx its.length 0 lo)).toArray := by
  obtain ⟨h1, h2, h3⟩ := slice_bounds lo hi its.toArray.size
  unfold slicePick
  rw [h1, h2, h3]
  simp only [sliceRange_one, pick_run, List.size_toArray] <;> rfl
def rSlL (K : Fg) : V → Option Int → Option Int → Hp → VK → Prop := fun x lo hi H Q => ∃ a xs, x = .ref a ∧ SqL K H a xs ∧ ∀ p, H p = none → Q (.ref p) (upd H p (.lst (cutV xs lo hi)))
theorem sl_list : SlR X (rSlL X.K) := by
  intro pins s σ H x v vl vu lo hi sl Q I rx hs pl pu h
  obtain ⟨a, xs, rfl, hx, q⟩ := h
  cases rx
  obtain ⟨its, r, ht, hz⟩ := I.list hx
  have hlen := r.length
  refine ⟨"list", _, slot_list_getitem.lookup, ht.isList.typeIs, ?_⟩
  refine wpAny_getItem_list_slice ht.isList hs pl pu .none (by simp) ?_ (by rw [List.size_toArray] <;> omega)
  rw [slicePick_cut, ← hlen]
  refine ⟨.ref s.heap.objs.size, _, I.laid (t' := s.toks) (o := .lst (cutV xs lo hi)) (fun b ob q => Heap.get?_push_of_some _ q) (Nat.le_refl _) ?_, rfl, q _ (I.hok.fresh (Nat.le_refl _))⟩
  exact ⟨Nat.le_trans (cutV_length xs lo hi) hz, _, 0, (r.drop (HT.sIx xs.length 0 lo)).take (HT.sIx xs.length xs.length hi - HT.sIx xs.length 0 lo), Heap.get?_push_size _ rfl⟩
theorem call_len_seq : CallR X (.builtin "len") (fun xs H Q => ∃ p ys, xs = [.ref p] ∧ (SqL X.K H p ys ∨ SqT X.K H p ys) ∧ Q (.int ys.length) H) := by
  intro pins s σ H xs us Q I r h
  obtain ⟨p, ys, rfl, hq, q⟩ := h
  obtain ⟨u, rfl, rx⟩ := vals1 r
  cases rx
  have hn := line63
  rcases hq with hq | hq
  · obtain ⟨its, r', pl, hz⟩ := I.list hq
    have hlen := r'.length
    exact Calls.call_len_list pl.isList (by simp only [List.size_toArray] <;> omega) ⟨.int ys.length, H, I.tok _, ⟨s.toks + 1, by rw [List.size_toArray, hlen]⟩, q⟩
  · obtain ⟨its, r', pl, hz⟩ := I.tuple hq
    have hlen := r'.length
    exact len_tuple pl (by simp only [List.size_toArray] <;> omega) ⟨.int ys.length, H, I.tok _, ⟨s.toks + 1, by rw [List.size_toArray, hlen]⟩, q⟩
theorem call_len_str : CallR X (.builtin "len") (fun xs H Q => ∃ z, xs = [.str z] ∧ z.length ≤ sizeLine ∧ Q (.int z.length) H) := by
  intro pins s σ H xs us Q I r h
  obtain ⟨z, rfl, hz, q⟩ := h
  obtain ⟨u, rfl, t, rfl⟩ := vals1 r
  have hn := line63
  exact len_str (by omega) ⟨.int z.length, H, I.tok _, ⟨_, rfl⟩, q⟩
theorem call_list_of : CallR X (.type "list") (fun xs H Q => ∃ p ys, xs = [.ref p] ∧ (SqL X.K H p ys ∨ SqT X.K H p ys) ∧ ∀ l, H l = none → Q (.ref l) (upd H l (.lst ys))) := by
  intro pins s σ H xs us Q I r h
  obtain ⟨p, ys, rfl, hq, q⟩ := h
  obtain ⟨u, rfl, rx⟩ := vals1 r
  cases rx
  have fin : ∀ (its : List Value), Vals ys its → ys.length ≤ sizeLine → ∀ (h' : Heap) (c' : Nat), (∀ b o', s.heap.get? b = some o' → h'.get? b = some o') →
      h'.get? s.heap.objs.size = some { cls := .type "list", dict := none, data := .seq its.toArray c', slots := #[] } → EP X pins σ Q (.ref s.heap.objs.size) { s with heap := h' } := fun its r' hz h' c' kp e =>
    ⟨.ref s.heap.objs.size, _, I.laid (t' := s.toks) kp (Nat.le_refl _) (show ObjOk X.prog X.w _ h' _ (.lst ys) from ⟨hz, its, c', r', e⟩), rfl, q _ (I.hok.fresh (Nat.le_refl _))⟩
  rcases hq with hq | hq
  · obtain ⟨its, r', pl, hz⟩ := I.list hq
    have hlen := r'.length
    obtain ⟨o, ho, hc, n, hd⟩ := pl.isList
    exact call_list_seq p (.inl rfl) ho hc hd (fun h' c' kp e => fin its r' hz h' c' kp e) (by simp only [List.size_toArray] <;> omega)
  · obtain ⟨its, r', pl, hz⟩ := I.tuple hq
    have hlen := r'.length
    obtain ⟨o, ho, hc, n, hd⟩ := pl
    exact call_list_seq p (.inr rfl) ho hc hd (fun h' c' kp e => fin its r' hz h' c' kp e) (by simp only [List.size_toArray] <;> omega)
def tyV (K : Fg) (T : String) (x : V) (H : Hp) : Prop := match x with
  | .str _ => T = "str"
  | .int _ => T = "int"
  | .ref p => (T = "list" ∧ ∃ xs, SqL K H p xs) ∨ (T = "tuple" ∧ ∃ o, K.lookup p = some o ∧ o.cls = .type "tuple" ∧ o.dict = none) ∨
      (T = "dict" ∧ ((∃ kvs, H p = some (.dK kvs)) ∨ ∃ kvs, H p = some (.dT kvs))) ∨ (T = "set" ∧ ∃ S n, H p = some (.set S n))
  | _ => False
theorem tyV_is {pins : Pn} {σ : St} {H : Hp} {s : Shared} {T : String} {x : V} {v : Value} (I : Inv X pins σ H s) (r : RelV x v) (ty : tyV X.K T x H) :
    s.TypeIs v T ∧ ∀ a, v = .ref a → ∃ ob, s.heap.get? a = some ob ∧ ob.dict = none := by
  cases x with
  | str z =>
    obtain ⟨t, rfl⟩ := r
    cases (show T = "str" from ty)
    exact ⟨typeIs_str s z t, fun _ e => nomatch e⟩
  | int i =>
    obtain ⟨t, rfl⟩ := r
    cases (show T = "int" from ty)
    exact ⟨typeIs_int s i t, fun _ e => nomatch e⟩
  | ref p =>
    cases r
    rcases ty with ⟨rfl, xs, hq⟩ | ⟨rfl, o, hk, hc, hd⟩ | ⟨rfl, hk⟩ | ⟨rfl, S, n, hk⟩
    · obtain ⟨its, _, pl, _⟩ := I.list hq
      refine ⟨pl.isList.typeIs, fun a e => ?_⟩
      cases e
      obtain ⟨o, n, e, c, hd, _⟩ := pl
      exact ⟨o, e, hd⟩
    · refine ⟨⟨o, I.kIn p o hk, hc⟩, fun a e => ?_⟩
      cases e
      exact ⟨o, I.kIn _ o hk, hd⟩
    · have z : ∃ o, s.heap.get? p = some o ∧ o.ExactDict := by
        rcases hk with ⟨kvs, hk⟩ | ⟨kvs, hk⟩
        · obtain ⟨_, _, _, _, o, _, _, e, ex, _⟩ := I.hok p _ hk
          exact ⟨o, e, ex⟩
        · obtain ⟨_, _, _, _, o, _, _, e, ex, _⟩ := I.hok p _ hk
          exact ⟨o, e, ex⟩
      obtain ⟨o, e, ex⟩ := z
      refine ⟨⟨o, e, ex.1⟩, fun a e2 => ?_⟩
      cases e2
      exact ⟨o, e, ex.2.1⟩
    · obtain ⟨o, _, _, _, e, ex, _⟩ := I.hok p _ hk
      refine ⟨⟨o, e, ex.1⟩, fun a e2 => ?_⟩
      cases e2
      exact ⟨o, e, ex.2.1⟩
  | _ => exact False.elim ty
def tBM (K : Fg) (T : String) (r : V → List V → Hp → VK → Prop) (to : TE) (t : TA) : TE := fun σ H Q => to σ H fun x H1 => tyV K T x H1 ∧ t σ H1 fun xs H2 => r x xs H2 Q
variable {o e : Expr} {es : List Expr} {to : TE} {t : TA} {name : Str} {apos cpos : Pos} {T id : String} {r : V → List V → Hp → VK → Prop}
theorem pe_bm (pa : PlainAttrs T) (slot : Slot T name id) (hty : typeOf (.builtin id) = pure (.type "method_descriptor")) (hm : MtR X id r) (ho : PE X o to) (ha : PA X (e :: es) t)
    (hbase : attributeBase o name X.env (eval o X.env) = eval o X.env := by rfl)
    (hfew : ((backTo cpos (starEach (e :: es) X.env)).all (fun x => !x.1) && (backToKw cpos (keywordEach [] X.env)).all (fun x => x.1.isSome)
      && decide ((e :: es).length + ([] : List Keyword).length + (if ([] : List Keyword).isEmpty then 0 else 1) < 30)) = true := by rfl)
    (hline : (apos.endLine == cpos.line) = true := by rfl) (hs : starEach (e :: es) X.env = (false, eval e X.env) :: starEach es X.env := by rfl) (hplain : (backTo cpos (starEach es X.env)).any (·.1) = false := by rfl) :
    PE X (.Call (.Attribute o name apos) (e :: es) [] cpos) (tBM X.K T r to t) := by
  intro pins s σ H Q I h
  refine wpAny_Call_method_late hbase hfew hline rfl (thn (ho pins s σ H _ I h) fun v s1 ⟨x, H1, I1, r1, ty, q1⟩ => ?_)
  obtain ⟨h1, h2⟩ := tyV_is I1 r1 ty
  refine ⟨T, id, pa, slot, hty, h1, h2, ?_⟩
  have hA := ha cpos pins s1 σ H1 _ I1 q1
  rw [hs] at hA ⊢
  refine Calls.callWith_builtin (by show (false || (backTo cpos (starEach es X.env)).any (·.1)) = false; rw [hplain] <;> rfl) (Calls.evalArgs_plain ?_)
  exact thn hA fun us s2 ⟨vs, H2, I2, r2, q2⟩ => hm pins s2 σ H2 x vs v us Q I2 r1 r2 q2
/- xs.append(e), list.index on a module's tuple .. are MtR facts of 06m -/
end
end L2
namespace L2
open PySem PySem.Spec PyProof.Rows
def MtM (X : Cx) (id : String) (r : V → List V → Hp → VK → Prop) : Prop :=
  ∀ (pins : Pn) (s : Shared) (σ : St) (H : Hp) (x : V) (xs : List V) (v : Value) (us : List Value) (Q : VK), Inv X pins σ H s → RelV x v → Vals xs us → r x xs H Q →
    wpAny (model X.prog X.w) X.A (call (.builtin id) (v :: us)) (EP X pins σ Q) X.xe s
theorem Vals.one : ∀ {x : V} {us : List Value}, Vals [x] us → ∃ u, us = [u] ∧ RelV x u
  | _, _, .cons r .nil => ⟨_, rfl, r⟩
theorem Vals.rep {xs : List V} {us : List Value} (h : Vals xs us) : ∀ k : Nat, Vals (List.replicate k xs).flatten (List.replicate k us).flatten
  | 0 => .nil
  | k + 1 => by
    rw [List.replicate_succ, List.replicate_succ, List.flatten_cons, List.flatten_cons]
    exact Vals.append h (Vals.rep h k)
theorem foldl_rep (its : List Value) : ∀ (k : Nat) (acc : List Value),
    List.foldl (fun x1 x2 => x1 ++ x2) acc.toArray (List.replicate k its.toArray) = (acc ++ (List.replicate k its).flatten).toArray
  | 0, acc => by simp
  | k + 1, acc => by
    have e : acc.toArray ++ its.toArray = (acc ++ its).toArray := by simp
    have e2 : (acc ++ its) ++ (List.replicate k its).flatten = acc ++ (List.replicate (k + 1) its).flatten := by
      rw [List.replicate_succ, List.flatten_cons, List.append_assoc]
    rw [← e2, ← foldl_rep its k (acc ++ its), ← e, List.replicate_succ, List.foldl_cons]
section
variable {X : Cx} {pins : Pn} {σ : St} {H : Hp} {s : Shared} {l b : Addr} {xs ys zs : List V}
theorem Inv.lset {its its' : List Value} {n : Nat} {f : Array Value → Array Value} {t' : Nat} (I : Inv X pins σ H s) (hH : H l = some (.lst xs))
    (e : s.heap.get? l = some { cls := .type "list", data := .seq its.toArray n }) (hf : f its.toArray = its'.toArray) (hv : Vals ys its') (hz : ys.length ≤ sizeLine) :
    Inv X pins σ (upd H l (.lst ys)) { s with heap := s.heap.update l (Obj.mapSeq f), toks := t' } := by
  have q := PySem.IsL.update e f
  rw [hf] at q
  refine I.write (x := l) (e := l) (by rw [hH]; exact trivial) (.inl rfl) (fun b' u hb hu => (Heap.get?_update_other s.heap (Obj.mapSeq f) (Ne.symm hb)).trans hu) ⟨_, q⟩ ?_
  exact ⟨hz, its', _, hv, q⟩
theorem Inv.lnew {its : List Value} {t' : Nat} (I : Inv X pins σ H s) (hv : Vals ys its) (hz : ys.length ≤ sizeLine) :
    Inv X pins σ (upd H s.heap.objs.size (.lst ys)) { s with heap := s.heap.push { cls := .type "list", data := .seq its.toArray }, toks := t' } :=
  I.laid (fun _ _ q => Heap.get?_push_of_some _ q) (Nat.le_refl _) ⟨hz, its, 0, hv, Heap.get?_push_size _ rfl⟩
theorem Inv.fresh (I : Inv X pins σ H s) : H s.heap.objs.size = none := I.hok.fresh (Nat.le_refl _)
theorem Inv.lstM (I : Inv X pins σ H s) (hH : H l = some (.lst xs)) : xs.length ≤ sizeLine ∧ ∃ (its : List Value) (n : Nat), Vals xs its ∧ xs.length = its.length ∧ s.heap.get? l = some { cls := .type "list", data := .seq its.toArray n } := by
  obtain ⟨z, its, n, r, e⟩ := I.hok l _ hH
  exact ⟨z, its, n, r, r.length, e⟩
theorem notLongL {n : Nat} (h : n ≤ sizeLine) : Builtin.List.listTooLong n = false := by
  unfold Builtin.List.listTooLong
  exact decide_eq_false (by omega)
end
section
variable {X : Cx}
def rAppend : V → List V → Hp → VK → Prop := fun x vs H Q => ∃ l xs y, x = .ref l ∧ vs = [y] ∧ H l = some (.lst xs) ∧ xs.length < sizeLine ∧ Q .non (upd H l (.lst (xs ++ [y])))
theorem mt_append : MtM X "list.append" rAppend := by
  intro pins s σ H x vs v us Q I rx rv h
  obtain ⟨l, xs, y, rfl, rfl, hH, hz, q⟩ := h
  cases rx
  obtain ⟨u, rfl, ru⟩ := rv.one
  obtain ⟨z, its, n, r, hl, e⟩ := I.lstM hH
  refine call_meets F.slot_list_append ⟨_, e, rfl⟩ F.entry_list_append (F.args_list_append_2 _ _) (PySem.list_append l its.toArray n u (by rw [List.size_toArray]; omega)) ⟨e, ?_⟩
  refine ⟨.non, _, I.lset (its' := its ++ [u]) hH e (by simp) (r.append (.cons ru .nil)) ?_, rfl, q⟩
  rw [List.length_append, List.length_singleton]
  omega
def rExtend : V → List V → Hp → VK → Prop := fun x vs H Q => ∃ l b xs zs, x = .ref l ∧ vs = [.ref b] ∧ H l = some (.lst xs) ∧ H b = some (.lst zs) ∧ xs.length + zs.length ≤ sizeLine ∧ Q .non (upd H l (.lst (xs ++ zs)))
theorem mt_extend : MtM X "list.extend" rExtend := by
  intro pins s σ H x vs v us Q I rx rv h
  obtain ⟨l, b, xs, zs, rfl, rfl, hH, hB, hz, q⟩ := h
  cases rx
  obtain ⟨u, rfl, ru⟩ := rv.one
  cases ru
  obtain ⟨z, its, n, r, hl, e⟩ := I.lstM hH
  obtain ⟨z2, its2, n2, r2, hl2, e2⟩ := I.lstM hB
  have hsz : its.toArray.size + its2.toArray.size ≤ sizeLine := by rw [List.size_toArray, List.size_toArray]; omega
  have hlong : ¬ (!its.toArray.isEmpty && Builtin.List.listTooLong (its.toArray.size + its2.toArray.size)) = true := by
    rw [notLongL hsz, Bool.and_false]
    exact Bool.false_ne_true
  refine call_meets F.slot_list_extend ⟨_, e, rfl⟩ F.entry_list_extend (F.args_list_extend_2 _ _)
    (AutoSeq1.list_extend_list_list_0 l its.toArray n b its2.toArray n2 hlong (by rw [List.size_toArray]; omega) (by omega)) ⟨e, e2, ?_⟩
  refine ⟨.non, _, I.lset (its' := its ++ its2) hH e (by simp) (r.append r2) ?_, rfl, q⟩
  rw [List.length_append]
  omega
def rRep : R2 := fun x y H Q => ∃ l k xs, x = .ref l ∧ y = .int k ∧ H l = some (.lst xs) ∧ -(2 ^ 63) ≤ k ∧ k < 2 ^ 63 ∧ xs.length * k.toNat ≤ sizeLine ∧
  ∀ p, H p = none → Q (.ref p) (upd H p (.lst (List.replicate k.toNat xs).flatten))
theorem len_rep {α : Type} (xs : List α) (k : Nat) : (List.replicate k xs).flatten.length = k * xs.length := by
  induction k with
  | zero => simp
  | succ k ih => rw [List.replicate_succ, List.flatten_cons, List.length_append, ih, Nat.succ_mul, Nat.add_comm]
theorem op_rep : OpR X (binaryOp .Mult) rRep := by
  intro pins s σ H x y v u Q I rx ry h
  obtain ⟨l, k, xs, rfl, rfl, hH, h1, h2, hz, q⟩ := h
  cases rx
  obtain ⟨t, rfl⟩ := ry
  obtain ⟨z, its, n, r, hl, e⟩ := I.lstM hH
  have hlen : its.toArray.size * k.toNat ≤ sizeLine := by rw [List.size_toArray, ← hl]; exact hz
  have hcap : ¬ its.toArray.size * k.toNat > (2 ^ 63 - 1) / 8 := by
    have : (sizeLine : Nat) ≤ (2 ^ 63 - 1) / 8 := by decide
    omega
  have hfit : ¬ (!Builtin.List.listFitsIndex k) = true := by
    rw [fitsIndex_both h1 h2]
    exact Bool.false_ne_true
  have hlong : ¬ Builtin.List.listTooLong (its.toArray.size * k.toNat) = true := by
    rw [notLongL hlen]
    exact Bool.false_ne_true
  have hnew : List.foldl (fun x1 x2 => x1 ++ x2) #[] (List.replicate (if its.toArray.isEmpty = true then 0 else k.toNat) its.toArray) = (List.replicate k.toNat its).flatten.toArray := by
    have f0 : ∀ m : Nat, List.foldl (fun x1 x2 => x1 ++ x2) #[] (List.replicate m its.toArray) = (List.replicate m its).flatten.toArray := fun m => by
      have := foldl_rep its m []
      rw [List.nil_append] at this
      exact this
    rw [f0]
    cases its with
    | nil => simp
    | cons a r' => rw [if_neg (by simp)]
  refine wpAny_binaryOp_repeat_ref (T := "list") (U := "int") (by decide) ⟨_, e, rfl⟩ (fun s' => typeIs_int s' k t) noFill_list_mul F.fills_int_mul F.slot_int_rmul repeat_list F.slot_int_index.lookup
    (call_meets F.slot_int_rmul (typeIs_int s k t) F.entry_int_rmul (F.args_int_rmul_2 _ _) (int___rmul___int_list k t l its.toArray n)
      ⟨e, rfl, ⟨_, e, rfl⟩, call_meets F.slot_list_mul ⟨_, e, rfl⟩ F.entry_list_mul (F.args_list_mul_2 _ _) (AutoListH.list___mul___list_int_3 l its.toArray n k t hfit hcap hlong) ⟨e, ?_⟩⟩)
  rw [hnew]
  exact ⟨.ref _, _, I.lnew (t' := s.toks) (r.rep k.toNat) (by rw [len_rep, Nat.mul_comm]; exact hz), rfl, q _ I.fresh⟩
end
section
variable {prog : Program} {w : World} {A : Around} {E : Value → Shared → Prop} {s : Shared}
set_option maxRecDepth 100000 in
end
section
variable {X : Cx}
end
end L2
namespace Att
open PySem PySem.W PySem.Calls PyProof.Rows
theorem ints_of_wellAll {P : Params} {h : Heap} : ∀ (ns : List Int) (vs : List Value), WellAll P h vs (ns.map WData.int) → IntsAre vs ns := by
  intro ns
  induction ns with
  | nil =>
    intro vs w
    rw [List.map_nil] at w
    cases w
    exact .nil
  | cons n ns ih =>
    intro vs w
    rw [List.map_cons] at w
    cases w with
    | cons a b =>
      cases a
      exact .cons _ _ (ih _ b)
theorem script_of {l : OpenLaw} {n : Nat} (hn : l.most = some n) {P : Params} {h : Heap} {args : List WData} {vals : List Value}
    (hpre : l.row.toRowW.claim.pre args = true) (hwl : WellAll P h vals args) :
    ∃ a vs ns, vals = [Value.ref a] ∧ args = [WData.list (ns.map WData.int)] ∧ h.get? a = some { cls := .type "list", data := .seq vs.toArray } ∧ IntsAre vs ns ∧ ns.length ≤ n := by
  have hsh : WShape.hasAll [] args [.list .int] = true := (pre_splitW hpre).1
  have hc : l.pre.holds [] { args := args } = true := (pre_splitW hpre).2
  obtain ⟨d, r, rfl, h1, h2⟩ := hasAllW_cons hsh
  obtain rfl := hasAllW_nil h2
  obtain ⟨xs, rfl, h3⟩ := hasW_list h1
  obtain ⟨ns, rfl⟩ := items_int h3
  have hlen : ns.length ≤ n := by
    unfold OpenLaw.pre at hc
    have h4 : (WTm.not (.lt (.lit (.int (n : Int))) (.len (.arg 0)))).holds [] { args := [.list (ns.map .int)] } = true := by
      have h4 := (holds_andW hc).1
      rw [hn] at h4
      exact h4
    have h5 := condW_of h4 (w_not (w_lt w_lit (w_len_list (w_arg rfl))))
    rw [List.length_map] at h5
    refine Nat.le_of_not_lt fun q => ?_
    have q' : (n : Int) < ((ns.length : Nat) : Int) := by omega
    first
      | (rw [decide_eq_true q'] at h5; exact absurd h5 (by decide))
      | (simp at h5; omega)
  cases hwl with
  | cons w1 w2 =>
    cases w2
    cases w1 with
    | list ho hall => exact ⟨_, _, ns, rfl, rfl, ho, ints_of_wellAll ns _ hall, hlen⟩
theorem post_true (l : OpenLaw) (args : List WData) : l.row.toRowW.claim.post args (.bool true) args = true :=
  postW_of (r := l.row.toRowW) (X := (true == true))
    (show WShape.has [] (.bool true) .bool = true by first | rfl | decide | simp [WShape.has, WShape.arms, WShape.armsAll])
    (show (WTm.eq .res (.lit (.bool true))).value [] { args := args, res := some (.bool true), after := args } = some (.bool (true == true)) from w_eq_bool (w_res rfl) w_lit) rfl
section
variable {prog : Program} {w : World} {A : Around} {E : Value → Shared → Prop} {s : Shared} {K : Frag}
end
end Att
namespace L2
open PySem PySem.Spec PyProof.Rows
theorem vals_ints : ∀ {vs : List Value} {ns : List Int}, IntsAre vs ns → Vals (ns.map V.int) vs
  | _, _, .nil => .nil
  | _, _, .cons n t h => .cons ⟨t, rfl⟩ (vals_ints h)
def Only (H : Hp) : Prop := ∀ b, H b = none ∨ ∃ o xs, H b = some (.frz o (.lst xs))
theorem law_call {P : Program} {w : World} {K : Fg} {mg mb : Str → Option Value} {CX : CXT} {k : Nat} {fa a : Addr} {fd : FuncData} {x : Str} {sp : Sp} {s₁ : Shared} {vs : List Value} {ns : List Int}
    (KX : K.In s₁.heap) (hns : s₁.heap.Ns mainGlobals mg) (hb : s₁.heap.Ns builtinsNs mb) (hbb : ∀ x : Str, x ≠ "__name__" → mb x = bootBuiltins x) (hlim : s₁.heap.NoLimit) (hg : s₁.gens = #[])
    (ha : s₁.heap.get? a = some { cls := .type "list", data := .seq vs.toArray }) (hi : IntsAre vs ns) (hl : ns.length ≤ sizeLine) (hr : Room k callerA)
    (F : ∀ base : Heap, K.In base → base.Ns mainGlobals mg → FnOk P w K mg base CX k fa fd [x] sp) (hbind : ∀ (s : Shared) (u : Value), BindsTo s fd ⟨[u], []⟩ [(x, u)])
    (hsp : ∀ H : Hp, Only H → SqL K H a (ns.map V.int) → sp [.ref a] H (fun v _ => v = .bl true) fun _ _ _ => False)
    (hCX : ∀ H e s', CX [] H s₁ (fun _ _ _ => False) e s' → False) :
    codeAny (model P w) callerA (.call (.ref fa) ⟨[.ref a], []⟩) (fun r s' => r = .ok (.ret (.bool true)) ∧ OldK s₁.heap s'.heap ∧ s'.os = s₁.os ∧ AllBare s'.gens) s₁ := by
  have rv := vals_ints hi
  have lenV := hi.length
  -- from an abstract heap in which nothing but the script may be tracked
  have core : ∀ H : Hp, Only H → SqL K H a (ns.map V.int) → HOk P w H s₁.heap → (∀ b, H b ≠ none → b = a) → (H a ≠ none → K.lookup a = none) →
      codeAny (model P w) callerA (.call (.ref fa) ⟨[.ref a], []⟩) (fun r s' => r = .ok (.ret (.bool true)) ∧ OldK s₁.heap s'.heap ∧ s'.os = s₁.os ∧ AllBare s'.gens) s₁ := by
    intro H hO hS hok hA hK
    have base_of : ∀ {b : Addr} {o : Obj}, s₁.heap.get? b = some o → H b = none → (hidT s₁.heap H).get? b = some o := fun e n => hidT_get e n
    have noA : ∀ {b : Addr} {o : Obj} {es : Array DictEntry} {ep : Nat}, s₁.heap.get? b = some o → o.data = .dict es ep → H b = none := fun {b o es ep} e d => by
      cases q : H b with
      | none => rfl
      | some u =>
        have e' : b = a := hA b (by rw [q]; simp)
        subst e'
        rw [ha] at e; cases e
        have d' : Data.seq vs.toArray _ = Data.dict es ep := d
        cases d'
    have nsK : ∀ {b : Addr} {m : Str → Option Value}, s₁.heap.Ns b m → (hidT s₁.heap H).Ns b m := fun {b m} ⟨o, es, ep, e, d, r⟩ => ⟨o, es, ep, base_of e (noA e d), d, r⟩
    have hKb : K.In (hidT s₁.heap H) := fun b o e => base_of (KX b o e) (by
      cases q : H b with
      | none => rfl
      | some u =>
        have e' : b = a := hA b (by rw [q]; simp)
        subst e'
        rw [hK (by rw [q]; simp)] at e; cases e)
    have hM : Mod K mg (hidT s₁.heap H) := ⟨hKb, nsK hns, ⟨mb, nsK hb, hbb⟩, let ⟨mc, h1, h2⟩ := hlim; ⟨mc, nsK h1, h2⟩⟩
    have e0 : Env0 P w K mg (hidT s₁.heap H) callerA [] s₁ H := ⟨rfl, hM, fun b o e => of_hidT e, Nat.le_of_eq (hidT_size _ _), trivial, fun b hb => absurd (show b ∈ ([] : List Addr) from hb) (by simp), hok, .of_eq hg⟩
    refine codeAny_mono ((F _ hKb (nsK hns)).run callerA [] s₁ H ⟨[.ref a], []⟩ [.ref a] [.ref a] _ _ hr e0 (hbind s₁ (.ref a)) (.cons rfl .nil) (hsp H hO hS)) fun r s' h => ?_
    cases r with
    | error e => exact (hCX H e s' h).elim
    | ok fl =>
      cases fl with
      | next => exact False.elim h
      | brk => exact False.elim h
      | cont => exact False.elim h
      | ret u =>
        obtain ⟨v, H', os, bare, un, hok', r', q⟩ := h
        have q' : v = .bl true := q
        subst q'
        obtain rfl : u = Value.bool true := r'
        refine ⟨rfl, OldK.of_keep fun b o e => ?_, os, bare⟩
        cases q : H b with
        | none => exact un.keep b o e q (by intro z; exact absurd (show b ∈ ([] : List Addr) from z) (by simp)) (by simp)
        | some u =>
          rcases hO b with z | ⟨ob, xs, z⟩
          · rw [q] at z; cases z
          · have z2 := un.frzs b ob _ z
            obtain ⟨e1, _⟩ := hok b _ z
            obtain ⟨e2, _⟩ := hok' b _ z2
            rw [e] at e1; cases e1
            exact e2
  cases hk : K.lookup a with
  | some o =>
    -- the script is one of the module's own objects
    have e := KX a o hk
    rw [ha] at e
    cases e
    refine core (fun _ => none) (fun _ => .inl rfl) (.inr ⟨_, vs.toArray, _, hk, rfl, rfl, rfl, by rw [List.size_toArray, lenV]; exact hl, by simpa using rv⟩) (fun b u z => by have z' : (none : Option HO) = some u := z; cases z') (fun b z => absurd rfl z) fun z => absurd rfl z
  | none =>
    refine core (fun b => if b = a then some (.frz { cls := .type "list", data := .seq vs.toArray } (.lst (ns.map V.int))) else none) (fun b => ?_) (.inl (.inr ⟨{ cls := .type "list", data := .seq vs.toArray }, if_pos rfl⟩)) (fun b u z => ?_) (fun b z => ?_) fun _ => hk
    · by_cases hb : b = a
      · exact .inr ⟨_, _, if_pos hb⟩
      · exact .inl (if_neg hb)
    · by_cases hb : b = a
      · have z' := (if_pos hb).symm.trans z
        cases z'
        subst hb
        exact ⟨ha, by rw [List.length_map]; exact hl, vs, _, rv, ha⟩
      · have z' := (if_neg hb).symm.trans z
        cases z'
    · by_cases hb : b = a
      · exact hb
      · exact absurd (if_neg hb) z
end L2
namespace L2
open PySem PySem.Spec PyProof.Rows
abbrev KOf {K : Fg} {h : Heap} (_ : K.In h) : Fg := K
end L2
/- THE LAST THEOREM (shape; LID, My.* are yours):
   My.Adr: a structure of the addresses that your layer names (classes, functions); My.Txt K t: a structure (Prop) of the equations over K;
   My.txt_mk : {K} {implicit addresses ..} (e1 : nsIn K mainGlobals "law" = some (some (.ref f))) (e2 : K.lookup f = some ⟨oc, od, .func (fnOf "law" "law" params body scope dV kV doc pm an cdv ct), sl⟩) (e3 : codeIn K cdv "law" = true) .. : ∃ t, My.Txt K t
set_option maxRecDepth 100000 in
set_option maxHeartbeats 0 in
theorem PySem.Challenge.cw_LID_holds : PySem.Challenge.rw_LID.Holds := by
  w_on; o_law; k_head; (case hw => w_witness2)
  k_fill
  refine L2.walk_of (l := PySem.Challenge.rw_LID) (n := 63) (k := 40) (x := "script") (CX := fun w => ..) (sp := fun _ => My.sp_law) rfl (by decide) rfl ⟨rfl, by decide, by decide⟩ (fun w h Y => PySem.W.kIn_of Y) ?F ?S ?C
  case F =>
    intro w mg fa h KX G hmg
    have T : ∃ t, My.Txt (L2.KOf KX) t := by
      dsimp only [L2.KOf]                          -- K must stand as «<heap const> w.params» for k_is
      refine' My.txt_mk ?e1 ?e2 ?e3 ..
      (case e1 => PySem.W.k_is)                    -- in the order: a name -> its address -> its object -> its parts
      (case e2 => PySem.W.k_is)
      ..
    obtain ⟨t, T⟩ := T
    have e0 := hmg.symm.trans (PySem.W.mg_of KX G T.law)
    cases e0                                       -- fa is the law's own address
    exact ⟨_, fun s u => .of_eq rfl, fun base kb nb => My.law_fn T kb nb⟩     -- if «.of_eq rfl» comes too early: refine' ⟨_, ?b, fun base kb nb => My.law_fn T kb nb⟩; exact fun s u => .of_eq rfl
  case S => exact fun w H a ns hl hO hS => ..
  case C => exact ..
(the tactic k_is has no namespace: write k_is) -/
namespace L2
open PySem PySem.Spec PyProof.Rows
def defArgs (s : Stmt) : Arguments := match s with
  | .FunctionDef _ a _ _ _ _ _ _ _ _ => a
  | _ => { posonlyargs := [], args := [], vararg := none, kwonlyargs := [], kw_defaults := [], kwarg := none, defaults := [] }
def defBody (s : Stmt) : List Stmt := match s with
  | .FunctionDef _ _ b _ _ _ _ _ _ _ => b
  | _ => []
def defScope (s : Stmt) : Scope := match s with
  | .FunctionDef _ _ _ _ _ _ sc _ _ _ => sc
  | _ => { kind := .function, names := [], isGenerator := false, isCoroutine := false }
abbrev CX0 : CXT := fun _ _ _ _ _ _ => False
abbrev E0 : XK := fun _ _ _ => False
theorem pass0 {X : Cx} : Passes CX0 X E0 := fun _ _ _ _ _ _ _ h => h.elim
structure Fun (K : Fg) (x qual : Str) (st : Stmt) (f : Addr) (fd : FuncData) : Prop where
  ex : ∃ (oc : Value) (od : Option Addr) (kV doc pm : Value) (an : Option Addr) (cdv ct : Value) (osl : Array (Option Value)),
    fd = PySem.W.fnOf x qual (defArgs st) (defBody st) (defScope st) .none kV doc pm an cdv ct ∧ K.lookup f = some ⟨oc, od, .func fd, osl⟩ ∧ PySem.W.codeIn K cdv qual = true
  kp : PySem.W.keepIn K (.ref f) = true
section
variable {P : Program} {w : World} {K : Fg} {mg : Str → Option Value} {base : Heap}
theorem Fun.ok {x qual : Str} {st : Stmt} {f : Addr} {fd : FuncData} {N ps : List Str} {k : Nat} {sp : Sp} (F : Fun K x qual st f fd) (S : FnScope N ps (defScope st)) (len : ∀ vs H Q E, sp vs H Q E → vs.length = ps.length)
    (hbody : ∀ (cdv : Value) (A : Around) (outer : List Env) (s : Shared) (H : Hp) (vs : List V) (Q : VK) (E : XK), Room k (A.deeper (envOfC qual (defScope st) s.heap.objs.size f cdv)) → sp vs H Q E →
      ∃ t, PSs (cxOf CX0 P w K mg base N qual (defScope st) f cdv A outer s H E).nox (defBody st) t ∧ t { nx := fun _ H' => Q .non H', rt := Q } (start N vs) H) : FnOk P w K mg base CX0 (k + 1) f fd ps sp := by
  obtain ⟨oc, od, kV, doc, pm, an, cdv, ct, osl, rfl, lk, hcd⟩ := F.ex
  refine fn_of lk hcd S len fun A outer s H vs Q E hr hsp => ?_
  obtain ⟨t, h, q⟩ := hbody cdv A outer s H vs Q E hr hsp
  exact ⟨t, h.nox, q⟩
theorem Fun.binds {x qual : Str} {st : Stmt} {f : Addr} {fd : FuncData} {ps : List Str} (F : Fun K x qual st f fd)
    (h : ∀ (kV doc pm : Value) (an : Option Addr) (cdv ct : Value) (us : List Value), us.length = ps.length → bindArgs (PySem.W.fnOf x qual (defArgs st) (defBody st) (defScope st) .none kV doc pm an cdv ct) ⟨us, []⟩ = pure (ps.zip us)) : Binds K fd ps [] := by
  obtain ⟨oc, od, kV, doc, pm, an, cdv, ct, osl, rfl, lk, hcd⟩ := F.ex
  exact .all (h kV doc pm an cdv ct)
theorem fun_mk {x qual : Str} {st : Stmt} {f : Addr} {oc : Value} {od an : Option Addr} {osl : Array (Option Value)} {kV doc pm cdv ct : Value} (l : K.lookup f = some ⟨oc, od, .func (PySem.W.fnOf x qual (defArgs st) (defBody st) (defScope st) .none kV doc pm an cdv ct), osl⟩)
    (c : PySem.W.codeIn K cdv qual = true) (k : PySem.W.keepIn K (.ref f) = true) : Fun K x qual st f (PySem.W.fnOf x qual (defArgs st) (defBody st) (defScope st) .none kV doc pm an cdv ct) := ⟨⟨oc, od, kV, doc, pm, an, cdv, ct, osl, rfl, l, c⟩, k⟩
end
section
variable {X : Cx}
theorem pv (i : Nat) {x : Str} {pos : Pos} (hN : X.N[i]? = some x := by rfl) (hv : Vis X.env.scope x := by first | exact Or.inl rfl | exact Or.inr (Or.inl rfl) | exact Or.inr (Or.inr rfl)) (hd : (x == ("__debug__" : Str)) = false := by decide)
    (hcd : (x == ("__classdict__" : Str)) = false := by decide) : PE X (.Name x pos) (tVar i) := pe_var hN hv hd hcd
end
theorem iteF {A B : Prop} (h : B) : if false = true then A else B := by
  rw [if_neg Bool.false_ne_true]
  exact h
theorem iteT {A B : Prop} (h : A) : if true = true then A else B := by
  rw [if_pos rfl]
  exact h
theorem ite2 {c A B : Prop} [Decidable c] (h1 : c → A) (h2 : ¬ c → B) : if c then A else B := by
  by_cases h : c
  · rw [if_pos h]
    exact h1 h
  · rw [if_neg h]
    exact h2 h
def Same (H H' : Hp) : Prop := ∀ b o, H b = some o → H' b = some o
theorem Same.refl (H : Hp) : Same H H := fun _ _ h => h
theorem Same.trans {H H1 H2 : Hp} (a : Same H H1) (b : Same H1 H2) : Same H H2 := fun c o h => b c o (a c o h)
theorem Same.free {H H' : Hp} (e : Same H H') {l : Addr} (h : H' l = Option.none) : H l = Option.none := by
  cases q : H l with
  | none => rfl
  | some o =>
    rw [e l o q] at h
    cases h
theorem Same.seq {K : Fg} {H H' : Hp} {a : Addr} {xs : List V} (e : Same H H') (h : SqL K H a xs) : SqL K H' a xs := by
  rcases h with (h | ⟨o, h⟩) | h
  · exact .inl (.inl (e _ _ h))
  · exact .inl (.inr ⟨o, e _ _ h⟩)
  · exact .inr h
end L2
set_option maxHeartbeats 4000000
namespace My
def Bd (n : Nat) (x : Int) : Prop := x.natAbs < 2 ^ n
theorem Bd.mono {m n : Nat} {x : Int} (h : Bd m x) (hn : m ≤ n) : Bd n x := Nat.lt_of_lt_of_le h (Nat.pow_le_pow_right (by decide) hn)
theorem Bd.neg {n : Nat} {x : Int} (h : Bd n x) : Bd n (-x) := by unfold Bd at *; rw [Int.natAbs_neg]; exact h
theorem Bd.mul {m n : Nat} {x y : Int} (h : Bd m x) (g : Bd n y) : Bd (m + n) (x * y) := by
  unfold Bd at *
  rw [Int.natAbs_mul, Nat.pow_add]
  exact Nat.mul_lt_mul'' h g
theorem Bd.add {n : Nat} {x y : Int} (h : Bd n x) (g : Bd n y) : Bd (n + 1) (x + y) := by
  unfold Bd at *
  rw [Nat.pow_succ]
  have := Int.natAbs_add_le x y
  omega
theorem Bd.sub {n : Nat} {x y : Int} (h : Bd n x) (g : Bd n y) : Bd (n + 1) (x - y) := by
  rw [Int.sub_eq_add_neg]; exact h.add g.neg
theorem Bd.of_le {n : Nat} {x y : Int} (g : Bd n y) (h0 : 0 ≤ x) (h : x ≤ y) : Bd n x := by
  unfold Bd at *
  omega
theorem div_bounds (x y : Int) (hy : 0 < y) : y * (x / y) ≤ x ∧ x < y * (x / y) + y := by
  have h1 := Int.mul_ediv_add_emod x y
  have h2 := Int.emod_nonneg x (Int.ne_of_gt hy)
  have h3 := Int.emod_lt_of_pos x hy
  omega
theorem Bd.div {n : Nat} {x y : Int} (hy : 0 < y) (g : Bd n x) : Bd n (x / y) := by
  unfold Bd at *
  refine Nat.lt_of_le_of_lt ?_ g
  obtain ⟨h1, h2⟩ := div_bounds x y hy
  rcases Int.lt_or_le (x / y) 0 with h | h
  · -- q < 0: x < y q + y = y (q + 1) <= q + 1
    have h3 : y * (x / y + 1) ≤ 1 * (x / y + 1) := Int.mul_le_mul_of_nonpos_right (by omega) (by omega)
    rw [Int.mul_add, Int.mul_one, Int.one_mul] at h3
    omega
  · have h3 : 1 * (x / y) ≤ y * (x / y) := Int.mul_le_mul_of_nonneg_right (by omega) h
    rw [Int.one_mul] at h3
    omega
theorem gcd_step (a b : Int) : Int.gcd b (a % b) = Int.gcd a b := by
  apply Nat.dvd_antisymm
  · apply Int.dvd_gcd
    · have h1 : ((Int.gcd b (a % b) : Nat) : Int) ∣ b := Int.gcd_dvd_left ..
      have h2 : ((Int.gcd b (a % b) : Nat) : Int) ∣ a % b := Int.gcd_dvd_right ..
      have h3 := Int.mul_ediv_add_emod a b
      have h4 := Int.dvd_add (Int.dvd_trans h1 (Int.dvd_mul_right b (a / b))) h2
      rw [h3] at h4
      exact h4
    · exact Int.gcd_dvd_left ..
  · apply Int.dvd_gcd
    · exact Int.gcd_dvd_right ..
    · have h1 : ((Int.gcd a b : Nat) : Int) ∣ a := Int.gcd_dvd_left ..
      have h2 : ((Int.gcd a b : Nat) : Int) ∣ b := Int.gcd_dvd_right ..
      have h3 := Int.mul_ediv_add_emod a b
      have h4 : a % b = a - b * (a / b) := by omega
      rw [h4]
      exact Int.dvd_sub h1 (Int.dvd_trans h2 (Int.dvd_mul_right b (a / b)))
theorem gcd_pos {a b : Int} (hb : 0 < b) : 0 < ((Int.gcd a b : Nat) : Int) := by
  have : 0 < Int.gcd a b := Int.gcd_pos_of_ne_zero_right a (Int.ne_of_gt hb)
  omega
theorem gcd_le {a b : Int} (hb : 0 < b) : ((Int.gcd a b : Nat) : Int) ≤ b :=
  Int.le_of_dvd hb (Int.gcd_dvd_right ..)
end My
namespace My
def sg (t m : Int) : Int := if m < 0 then -((Int.gcd t m : Nat) : Int) else ((Int.gcd t m : Nat) : Int)
theorem sg_ne {t m : Int} (hm : m ≠ 0) : sg t m ≠ 0 := by
  have h : 0 < Int.gcd t m := Int.gcd_pos_of_ne_zero_right t hm
  unfold sg
  split <;> omega
theorem sg_dvd_left (t m : Int) : sg t m ∣ t := by
  unfold sg
  split
  · exact Int.neg_dvd.mpr (Int.gcd_dvd_left ..)
  · exact Int.gcd_dvd_left ..
theorem sg_dvd_right (t m : Int) : sg t m ∣ m := by
  unfold sg
  split
  · exact Int.neg_dvd.mpr (Int.gcd_dvd_right ..)
  · exact Int.gcd_dvd_right ..
theorem fdiv_mul {a b : Int} (hb : b ≠ 0) (h : b ∣ a) : a.fdiv b * b = a := Int.fdiv_mul_cancel h
theorem natAbs_sg (t m : Int) : (sg t m).natAbs = Int.gcd t m := by
  unfold sg
  split
  · rw [Int.natAbs_neg, Int.natAbs_natCast]
  · rw [Int.natAbs_natCast]
structure Made (t m a b : Int) : Prop where
  pos : 0 < b
  low : Int.gcd a b = 1
  same : a * m = t * b
  ba : a.natAbs ≤ t.natAbs
  bb : b.natAbs ≤ m.natAbs
theorem made_of {t m : Int} (hm : m ≠ 0) : Made t m (t.fdiv (sg t m)) (m.fdiv (sg t m)) := by
  have hs := sg_ne (t := t) hm
  have e1 := fdiv_mul hs (sg_dvd_left t m)
  have e2 := fdiv_mul hs (sg_dvd_right t m)
  have hg : 0 < Int.gcd t m := Int.gcd_pos_of_ne_zero_right t hm
  generalize ha : t.fdiv (sg t m) = a at *
  generalize hb : m.fdiv (sg t m) = b at *
  have n1 : a.natAbs * Int.gcd t m = t.natAbs := by rw [← natAbs_sg, ← Int.natAbs_mul, e1]
  have n2 : b.natAbs * Int.gcd t m = m.natAbs := by rw [← natAbs_sg, ← Int.natAbs_mul, e2]
  refine ⟨?_, ?_, ?_, ?_, ?_⟩
  · -- sign
    unfold sg at e2
    by_cases h : m < 0
    · rw [if_pos h, Int.mul_neg] at e2
      rcases Int.lt_or_le 0 b with q | q
      · exact q
      · have := Int.mul_nonpos_of_nonpos_of_nonneg q (show (0 : Int) ≤ ((Int.gcd t m : Nat) : Int) by omega)
        omega
    · rw [if_neg h] at e2
      rcases Int.lt_or_le 0 b with q | q
      · exact q
      · have := Int.mul_nonpos_of_nonpos_of_nonneg q (show (0 : Int) ≤ ((Int.gcd t m : Nat) : Int) by omega)
        omega
  · have q : Int.gcd a b * Int.gcd t m = Int.gcd t m := by
      have h := Nat.gcd_mul_right a.natAbs (Int.gcd t m) b.natAbs
      rw [n1, n2] at h
      exact h.symm
    exact Nat.eq_of_mul_eq_mul_right hg (by rw [q, Nat.one_mul])
  · have q : a * m = a * (b * sg t m) := by rw [e2]
    have q2 : t * b = a * sg t m * b := by rw [e1]
    rw [q, q2, Int.mul_assoc, Int.mul_comm b]
  · rw [← n1]; exact Nat.le_mul_of_pos_right _ hg
  · rw [← n2]; exact Nat.le_mul_of_pos_right _ hg
theorem Bd.of_natAbs {n : Nat} {x y : Int} (h : x.natAbs ≤ y.natAbs) (g : Bd n y) : Bd n x := Nat.lt_of_le_of_lt h g
theorem natAbs_abs (i : Int) : (if i < 0 then -i else i) = ((i.natAbs : Nat) : Int) := by split <;> omega
end My
namespace L2
open PySem PySem.Spec PyProof.Rows
abbrev Mid (x : Int) : Prop := My.Bd 4000 x
section
variable {X : Cx}
theorem op_mulB : OpR X (binaryOp .Mult) (rI (fun i j => Mid i ∧ Mid j) fun i j => .int (i * j)) := opI fun _ _ _ _ _ _ _ hc q =>
  mul_int q (IntMulOk.of_le (PySem.intBits_le_iff.mpr hc.1) (PySem.intBits_le_iff.mpr hc.2) (by decide))
theorem log2_of_Mid {j : Int} (h : Mid j) : j.natAbs.log2 < 9000 := by
  by_cases h0 : j.natAbs = 0
  · rw [h0]; decide +kernel
  · have h1 : j.natAbs.log2 < 4000 := (Nat.log2_lt h0).mpr h
    omega
theorem op_fdivB : OpR X (binaryOp .FloorDiv) (rI (fun _ j => 0 < j ∧ Mid j) fun i j => .int (i / j)) := opI fun i j _ _ _ _ _ hc q => by
  have h1 : (0 : Int) < j := hc.1
  exact floordiv_int (by omega) (by rw [Int.fdiv_eq_ediv_of_nonneg i (by omega)]; exact q) (.inl (PyProof.noPylong_of_log2 (log2_of_Mid hc.2)))
end
theorem bt_int : bootBuiltins "int" = some (.type "int") := by decide +kernel
theorem bt_bool : bootBuiltins "bool" = some (.type "bool") := by decide +kernel
theorem bt_str : bootBuiltins "str" = some (.type "str") := by decide +kernel
theorem bt_list : bootBuiltins "list" = some (.type "list") := by decide +kernel
theorem bt_tuple : bootBuiltins "tuple" = some (.type "tuple") := by decide +kernel
theorem bt_abs : bootBuiltins "abs" = some (.builtin "abs") := by decide +kernel
theorem bt_isinstance : bootBuiltins "isinstance" = some (.builtin "isinstance") := by decide +kernel
inductive Tg where
  | non | bl | int | str | tup | lst | dic
def tgIs (K : Fg) (H : Hp) : V → Tg → Prop
  | .non, .non => True
  | .bl _, .bl => True
  | .int _, .int => True
  | .str _, .str => True
  | .ref a, .tup => ∃ xs, SqT K H a xs
  | .ref a, .lst => ∃ xs, SqL K H a xs
  | .ref a, .dic => ∃ kvs, H a = some (.dK kvs)
  | _, _ => False
def Tg.isInt : Tg → Bool
  | .int => true | .bl => true | _ => false
def Tg.isBool : Tg → Bool
  | .bl => true | _ => false
def Tg.isTup : Tg → Bool
  | .tup => true | _ => false
def Tg.isLst : Tg → Bool
  | .lst => true | _ => false
def rIsi (K : Fg) (n : String) (f : Tg → Bool) : List V → Hp → VK → Prop := fun xs H Q => ∃ x g, xs = [x, .ty n] ∧ tgIs K H x g ∧ Q (.bl (f g)) H
section
variable {X : Cx}
theorem isi_of {n : String} {f : Tg → Bool}
    (h1 : ∀ {A : Around} {E : Value → Shared → Prop} {s : Shared} {Q : Value → Shared → Prop}, (∀ t, Q (.bool (f .non)) { s with toks := t }) → wpAny (model X.prog X.w) A (call (.builtin "isinstance") [.none, .type n]) Q E s)
    (h2 : ∀ {A : Around} {E : Value → Shared → Prop} {s : Shared} {Q : Value → Shared → Prop} {b : Bool}, (∀ t, Q (.bool (f .bl)) { s with toks := t }) → wpAny (model X.prog X.w) A (call (.builtin "isinstance") [.bool b, .type n]) Q E s)
    (h3 : ∀ {A : Around} {E : Value → Shared → Prop} {s : Shared} {Q : Value → Shared → Prop} {b : Int} {u : Tok}, (∀ t, Q (.bool (f .int)) { s with toks := t }) → wpAny (model X.prog X.w) A (call (.builtin "isinstance") [.int b u, .type n]) Q E s)
    (h4 : ∀ {A : Around} {E : Value → Shared → Prop} {s : Shared} {Q : Value → Shared → Prop} {b : Str} {u : Tok}, (∀ t, Q (.bool (f .str)) { s with toks := t }) → wpAny (model X.prog X.w) A (call (.builtin "isinstance") [.str b u, .type n]) Q E s)
    (h5 : ∀ {A : Around} {E : Value → Shared → Prop} {s : Shared} {Q : Value → Shared → Prop} {a : Addr} {o : Obj}, s.heap.get? a = some o → o.cls = .type "tuple" → (∀ t, Q (.bool (f .tup)) { s with toks := t }) → wpAny (model X.prog X.w) A (call (.builtin "isinstance") [.ref a, .type n]) Q E s)
    (h6 : ∀ {A : Around} {E : Value → Shared → Prop} {s : Shared} {Q : Value → Shared → Prop} {a : Addr} {o : Obj}, s.heap.get? a = some o → o.cls = .type "list" → (∀ t, Q (.bool (f .lst)) { s with toks := t }) → wpAny (model X.prog X.w) A (call (.builtin "isinstance") [.ref a, .type n]) Q E s)
    (h7 : ∀ {A : Around} {E : Value → Shared → Prop} {s : Shared} {Q : Value → Shared → Prop} {a : Addr} {o : Obj}, s.heap.get? a = some o → o.cls = .type "dict" → (∀ t, Q (.bool (f .dic)) { s with toks := t }) → wpAny (model X.prog X.w) A (call (.builtin "isinstance") [.ref a, .type n]) Q E s) :
    CallR X (.builtin "isinstance") (rIsi X.K n f) := by
  intro pins s σ H xs us Q I r h
  obtain ⟨x, g, rfl, e, q⟩ := h
  obtain ⟨u, w, rfl, rx, rw'⟩ := vals2 r
  cases rw'
  have fin : ∀ k : Bool, Q (.bl k) H → ∀ t, EP X pins σ Q (.bool k) { s with toks := t } := fun k q t => ⟨.bl k, H, I.tok t, rfl, q⟩
  cases x with
  | non => cases g <;> first | exact (show False from e).elim | (cases rx; exact h1 (fin _ q))
  | bl b => cases g <;> first | exact (show False from e).elim | (cases rx; exact h2 (fin _ q))
  | int i => cases g <;> first | exact (show False from e).elim | (obtain ⟨t, rfl⟩ := rx; exact h3 (fin _ q))
  | str y => cases g <;> first | exact (show False from e).elim | (obtain ⟨t, rfl⟩ := rx; exact h4 (fin _ q))
  | ref a =>
    cases rx
    cases g with
    | tup =>
      obtain ⟨xs, hx⟩ := (show ∃ xs, SqT X.K H a xs from e)
      obtain ⟨its, _, ⟨o, ho, hc, _⟩, _⟩ := I.tuple hx
      exact h5 ho hc (fin _ q)
    | lst =>
      obtain ⟨xs, hx⟩ := (show ∃ xs, SqL X.K H a xs from e)
      obtain ⟨its, _, ⟨o, n, ho, hc, _⟩, _⟩ := I.list hx
      exact h6 ho hc (fin _ q)
    | dic =>
      obtain ⟨kvs, hx⟩ := (show ∃ kvs, H a = some (.dK kvs) from e)
      obtain ⟨_, _, vs, _, o, es, ep, ho, hc, _⟩ := (show ObjOk X.prog X.w H s.heap a (.dK kvs) from I.hok a _ hx)
      exact h7 ho hc.1 (fin _ q)
    | non => exact (show False from e).elim
    | bl => exact (show False from e).elim
    | int => exact (show False from e).elim
    | str => exact (show False from e).elim
  | _ => exact (show False from e).elim
theorem isi_int : CallR X (.builtin "isinstance") (rIsi X.K "int" Tg.isInt) := isi_of (fun q => IsiPair.NoneType_int (q _)) (fun q => IsiPair.bool_int (q _)) (fun q => IsiPair.int_int (q _)) (fun q => IsiPair.str_int (q _))
  (fun ho hc q => call_isinstance (isinstance_false_tuple (by decide) PySem.F.isi_meta_int PySem.F.sub_tuple_int) ⟨⟨_, ho, hc⟩, q _⟩) (fun ho hc q => call_isinstance (isinstance_false_list (by decide) PySem.F.isi_meta_int PySem.F.sub_list_int) ⟨⟨_, ho, hc⟩, q _⟩) (fun ho hc q => call_isinstance (isinstance_false_dict (by decide) PySem.F.isi_meta_int PySem.F.sub_dict_int) ⟨⟨_, ho, hc⟩, q _⟩)
theorem isi_bool : CallR X (.builtin "isinstance") (rIsi X.K "bool" Tg.isBool) := isi_of (fun q => IsiPair.NoneType_bool (q _)) (fun q => IsiPair.bool_bool (q _)) (fun q => IsiPair.int_bool (q _)) (fun q => IsiPair.str_bool (q _))
  (fun ho hc q => call_isinstance (isinstance_false_tuple (by decide) PySem.F.isi_meta_bool PySem.F.sub_tuple_bool) ⟨⟨_, ho, hc⟩, q _⟩) (fun ho hc q => call_isinstance (isinstance_false_list (by decide) PySem.F.isi_meta_bool PySem.F.sub_list_bool) ⟨⟨_, ho, hc⟩, q _⟩) (fun ho hc q => call_isinstance (isinstance_false_dict (by decide) PySem.F.isi_meta_bool PySem.F.sub_dict_bool) ⟨⟨_, ho, hc⟩, q _⟩)
theorem isi_tuple : CallR X (.builtin "isinstance") (rIsi X.K "tuple" Tg.isTup) := isi_of (fun q => IsiPair.NoneType_tuple (q _)) (fun q => IsiPair.bool_tuple (q _)) (fun q => IsiPair.int_tuple (q _)) (fun q => IsiPair.str_tuple (q _))
  (fun ho hc q => call_isinstance (isinstance_true (Tx := "tuple") PySem.F.isi_meta_tuple PySem.F.sub_tuple_tuple) ⟨⟨_, ho, hc⟩, q _⟩) (fun ho hc q => call_isinstance (isinstance_false_list (by decide) PySem.F.isi_meta_tuple PySem.F.sub_list_tuple) ⟨⟨_, ho, hc⟩, q _⟩) (fun ho hc q => call_isinstance (isinstance_false_dict (by decide) PySem.F.isi_meta_tuple PySem.F.sub_dict_tuple) ⟨⟨_, ho, hc⟩, q _⟩)
theorem isi_list : CallR X (.builtin "isinstance") (rIsi X.K "list" Tg.isLst) := isi_of (fun q => IsiPair.NoneType_list (q _)) (fun q => IsiPair.bool_list (q _)) (fun q => IsiPair.int_list (q _)) (fun q => IsiPair.str_list (q _))
  (fun ho hc q => call_isinstance (isinstance_false_tuple (by decide) PySem.F.isi_meta_list PySem.F.sub_tuple_list) ⟨⟨_, ho, hc⟩, q _⟩) (fun ho hc q => call_isinstance (isinstance_true (Tx := "list") PySem.F.isi_meta_list PySem.F.sub_list_list) ⟨⟨_, ho, hc⟩, q _⟩) (fun ho hc q => call_isinstance (isinstance_false_dict (by decide) PySem.F.isi_meta_list PySem.F.sub_dict_list) ⟨⟨_, ho, hc⟩, q _⟩)
theorem pe_isi {e : Expr} {te : TE} {n : Str} {T : String} {f : Tg → Bool} {p p2 pos : Pos} (hc : CallR X (.builtin "isinstance") (rIsi X.K T f)) (hg : Gl X "isinstance") (hg2 : Gl X n) (hm : X.mg "isinstance" = none) (hm2 : X.mg n = none) (hb : bootBuiltins n = some (.type T)) (he : PE X e te)
    (hn : n ≠ "__name__" := by decide) (hd : (n == ("__debug__" : Str)) = false := by decide)
    (hs1 : starEach [e, .Name n p2] X.env = (false, eval e X.env) :: starEach [.Name n p2] X.env := by rfl) (hs2 : starEach [.Name n p2] X.env = (false, eval (.Name n p2) X.env) :: starEach [] X.env := by rfl)
    (hpl : (backTo pos (starEach [.Name n p2] X.env)).any (·.1) = false := by rfl) :
    PE X (.Call (.Name "isinstance" p) [e, .Name n p2] [] pos) (tCB (rIsi X.K T f) (tCons te (tCons (tC (.ty T)) tNil))) :=
  pe_callB hc hg hm bt_isinstance (pcn he (pcn (pe_bltn (v := .ty T) hg2 hm2 hb rfl hn hd) pnl hs2) hs1) (by decide) (by decide) hs1 hpl
end
def Itr3 (lo c : Int) (n : Nat) : It := ⟨fun i _ => i < n, fun i H x H' => H' = H ∧ x = .int (lo + (i : Nat) * c), fun i _ => n ≤ i⟩
theorem turn_range3 {P : Program} {w : World} {K : Fg} {tg : Expr} (it : Addr) (lo c : Int) (n : Nat) : Turn P w K tg (Itr3 lo c n) [it] it (fun i h => IsRangeIter h it (lo + (i : Nat) * c) ((n : Int) - (i : Nat)) c) where
  mem := by simp
  obj := fun i h st b hb => by
    have e : b = it := by simpa using hb
    subst e
    exact ⟨_, st, fun v z => by
      have z' : Data.fields _ = Data.cell v := z
      cases z'⟩
  keep := fun i h h' st k => k it (by simp) _ st
  item := by
    intro X hP hw hK hc i pins s σ H E I hf st hg
    subst hP hw hK
    obtain ⟨f0, f1, f2, f3, f4, f5⟩ := hf it (by simp)
    have W := Walks.range (prog := X.prog) (w := X.w) (I.ok.hd hc) it lo c n
    refine W.item i s _ _ hg st fun v h' tk hv st' kk => ?_
    obtain ⟨t, rfl⟩ := hv
    have I1 : Inv X pins σ H { s with heap := h', toks := tk } := I.turned (fun b o hb e => kk b o (by simpa using hb) e) f0 f1 f3 f4 f5
    exact ⟨_, rfl, go_of (s := { s with heap := h', toks := tk }) (n := "range_iterator") st' rfl rfl (by decide) ⟨.int (lo + (i : Nat) * c), H, I1, ⟨t, rfl⟩, ⟨rfl, rfl⟩, st', fun b hb => (hf b hb).1⟩⟩
  done := by
    intro X hP hw hK hc i pins s σ H E I hf st hg
    subst hP hw hK
    obtain ⟨f0, f1, f2, f3, f4, f5⟩ := hf it (by simp)
    exact wpAny_pyNext_range_end (I.ok.hd hc) st (by have : n ≤ i := hg; omega) fun h' eb => ⟨rfl, I.turned (t' := s.toks) (fun b o hb e => eb b o hb e) f0 f1 f3 f4 f5⟩
  self := fun _ _ _ _ _ st h => wpAny_pyIter_rangeiter st h
def rngN (i j c : Int) : Nat := (Builtin.Range.rangeSize i j c).toNat
theorem rng_nonneg {i j c : Int} (hc : 0 < c) : 0 ≤ Builtin.Range.rangeSize i j c := by
  unfold Builtin.Range.rangeSize
  rw [if_pos hc]
  by_cases h : i < j
  · rw [if_pos h]
    have := Int.ediv_nonneg (show 0 ≤ j - i - 1 by omega) (Int.le_of_lt hc)
    omega
  · rw [if_neg h]; exact Int.le_refl _
section
variable {X : Cx} {tg : Expr}
end
theorem Same.new {H : Hp} {p : Addr} (h : H p = none) (o : HO) : Same H (upd H p o) := fun b u q => by rw [upd_ne (ne_of_none q h)]; exact q
theorem Same.tup {K : Fg} {H H' : Hp} {a : Addr} {xs : List V} (e : Same H H') (h : SqT K H a xs) : SqT K H' a xs := by
  rcases h with (h | ⟨o, h⟩) | h
  · exact .inl (.inl (e _ _ h))
  · exact .inl (.inr ⟨o, e _ _ h⟩)
  · exact .inr h
structure FunD (K : Fg) (x qual : Str) (st : Stmt) (f : Addr) (fd : FuncData) : Prop where
  ex : ∃ (oc : Value) (od : Option Addr) (dV kV doc pm : Value) (an : Option Addr) (cdv ct : Value) (osl : Array (Option Value)),
    fd = PySem.W.fnOf x qual (defArgs st) (defBody st) (defScope st) dV kV doc pm an cdv ct ∧ K.lookup f = some ⟨oc, od, .func fd, osl⟩ ∧ PySem.W.codeIn K cdv qual = true
  kp : PySem.W.keepIn K (.ref f) = true
theorem fun_mkD {K : Fg} {x qual : Str} {st : Stmt} {f : Addr} {oc : Value} {od an : Option Addr} {osl : Array (Option Value)} {dV kV doc pm cdv ct : Value} (l : K.lookup f = some ⟨oc, od, .func (PySem.W.fnOf x qual (defArgs st) (defBody st) (defScope st) dV kV doc pm an cdv ct), osl⟩)
    (c : PySem.W.codeIn K cdv qual = true) (k : PySem.W.keepIn K (.ref f) = true) : FunD K x qual st f (PySem.W.fnOf x qual (defArgs st) (defBody st) (defScope st) dV kV doc pm an cdv ct) := ⟨⟨oc, od, dV, kV, doc, pm, an, cdv, ct, osl, rfl, l, c⟩, k⟩
theorem Fun.toD {K : Fg} {x qual : Str} {st : Stmt} {f : Addr} {fd : FuncData} (F : Fun K x qual st f fd) : FunD K x qual st f fd := by
  obtain ⟨oc, od, kV, doc, pm, an, cdv, ct, osl, e, l, c⟩ := F.ex
  exact ⟨⟨oc, od, .none, kV, doc, pm, an, cdv, ct, osl, e, l, c⟩, F.kp⟩
section
variable {X : Cx}
theorem op_fdivNB : OpR X (binaryOp .FloorDiv) (rI (fun _ j => j ≠ 0 ∧ Mid j) fun i j => .int (i.fdiv j)) := opI fun _ _ _ _ _ _ _ hc q => floordiv_int hc.1 q (.inl (PyProof.noPylong_of_log2 (log2_of_Mid hc.2)))
end
end L2
namespace PySem
theorem Obj.dict_mapFields (o : Obj) (f : Array Value → Array Value) : (Obj.mapFields f o).dict = o.dict := by
  obtain ⟨c, d, dt, sl⟩ := o
  cases dt <;> rfl
def Heap.TrX (h base : Heap) (e : Addr) (cls : Value) (dx : Option Addr) (fl : Value) : Prop :=
  ∃ (x : Obj) (vs : Array Value) (T : Addr) (y : Obj) (ts : Array Value), h.get? e = some x ∧ (x.cls = cls ∧ x.dict = dx ∧ (dx = none → vs[2]? = some .none)) ∧ x.data = .fields vs ∧ vs[1]? = some (.ref T) ∧ base.get? T = none ∧ T ≠ e ∧
    h.get? T = some y ∧ y.data = .fields ts ∧ ts[3]? = some fl
def Heap.OnX (base : Heap) (l : List Env) (e : Addr) (cls : Value) (dx : Option Addr) (fl : Value) (h : Heap) : Prop := base.StaysIn h ∧ base.get? e = none ∧ h.FunFrames base l ∧ h.TrX base e cls dx fl
abbrev Heap.FlyX (base : Heap) (l : List Env) (e : Addr) (cls : Value) (dx : Option Addr) (h : Heap) : Prop := Heap.OnX base l e cls dx .none h
section
variable {M : Model} {A : Around} {E : Value → Shared → Prop} {s : Shared} {base : Heap} {env : Env} {outer l : List Env} {L e : Addr} {cls : Value} {dx : Option Addr} {Q : Unit → Shared → Prop}
theorem Heap.OnX.there {h : Heap} {fl : Value} (z : Heap.OnX base l e cls dx fl h) : ∃ ob, h.get? e = some ob ∧ ob.cls = cls := by
  obtain ⟨_, _, _, x, _, _, _, _, he, hc, _⟩ := z
  exact ⟨x, he, hc.1⟩
theorem noteX {x : Obj} {vs : Array Value} {head : Value} {more : Bool} (hA : A.frames = some (env :: outer)) (hF : s.heap.FunFrames base (env :: outer)) (hL : env.frame = some L)
    (hx : s.heap.get? e = some x) (hB : base.StaysIn s.heap) (hn : base.get? e = none) (hv : x.data = .fields vs) (h2 : 1 < vs.size) (hc2 : x.dict = none → vs[2]? = some .none)
    (k : ∀ h', Heap.OnX base (env :: outer) e x.cls x.dict (rawInt L) h' → s.heap.UpToSlots h' → Q () { s with heap := h' }) :
    wpAny M A (do let a ← frameOf env; let pl ← entryPlaceOf L more; let b ← EntryCells.newEntry head a .none (rawInt L) .none pl; setField (.ref e) 1 b) Q E s := by
  have out : e ∉ (env :: outer).filterMap (·.frame) := fun z => by
    obtain ⟨_, o, ho, hnf⟩ := hF.mem z
    rw [hx] at ho; cases ho; exact hnf vs hv
  refine wpAny_bind (wpAny_frameOf_fun hA hF hL fun g sg => ?_)
  refine wpAny_bind (wpAny_entryPlaceOf fun pl hpl => ?_)
  unfold EntryCells.newEntry newFields
  refine wpAny_bind (wpAny_newObj_type ?_ (hpl.sizeOk5 _ _ _ _ _))
  have x1 : g.get? e = some x := (sg.2.1 e out).trans hx
  have B1 : base.StaysIn g := fun b o q => (sg.2.1 b fun z => by rw [(hF.mem z).1] at q; cases q).trans (hB b o q)
  have x2 := Heap.get?_push_of_some (h := g) { cls := .type "traceback", dict := none, data := .fields ([head, .ref L, .none, rawInt L, .none] ++ (if pl.isEmpty then List.replicate 6 Value.none else pl)).toArray } x1
  refine wpAny_setField x2 hv h2 (k _ ?_ ?_)
  all_goals have neT : g.objs.size ≠ e := Nat.ne_of_gt (Heap.lt_size x1)
  all_goals have kp : ∀ b o, b ≠ e → g.get? b = some o → ((g.push { cls := .type "traceback", dict := none, data := .fields ([head, .ref L, .none, rawInt L, .none] ++ (if pl.isEmpty then List.replicate 6 Value.none else pl)).toArray }).update e (Obj.mapFields (·.setIfInBounds 1 (Value.ref g.objs.size)))).get? b = some o := fun b o hb q => (Heap.get?_update_other _ _ (Ne.symm hb)).trans (Heap.get?_push_of_some _ q)
  all_goals have nr : ∀ b o, s.heap.get? b = some o → (∀ vs, o.data ≠ .fields vs) → b ≠ e := fun b o q hnf z => by rw [z, hx] at q; cases q; exact hnf vs hv
  · have hv3 := Obj.data_mapFields hv (·.setIfInBounds 1 (Value.ref g.objs.size))
    refine ⟨fun b o q => kp b o (fun z => by rw [z, hn] at q; cases q) (B1 b o q), hn, hF.of_keeps fun b o q hnf => ?_, ?_⟩
    · obtain ⟨sl, q2⟩ := sg.2.2 b o q
      exact ⟨_, kp b _ (nr b o q hnf) q2, rfl⟩
    · exact ⟨_, _, g.objs.size, _, _, Heap.get?_update_self _ x2 (Obj.isFreed_of_fields hv3), ⟨Obj.cls_mapFields _ _, Obj.dict_mapFields _ _, fun z => by rw [Array.getElem?_setIfInBounds_ne (by decide)]; exact hc2 z⟩, hv3, by simp [h2], B1.fresh, neT, (Heap.get?_update_other _ _ (Ne.symm neT)).trans (Heap.get?_push_size g rfl), rfl, by
        first | (simp; done) | (rcases hpl with rfl | ⟨_, _, _, _, _, _, _, rfl⟩ <;> simp)⟩
  · intro b o q hnf
    obtain ⟨sl, q2⟩ := sg.2.2 b o q
    exact ⟨sl, kp b _ (nr b o q hnf) q2⟩
theorem looksX (hA : A.frames = some (env :: outer)) (hL : env.frame = some L) (z : Heap.FlyX base (env :: outer) e cls dx s.heap)
    (k : ∀ h', Heap.OnX base (env :: outer) e cls dx (rawInt L) h' → s.heap.UpToSlots h' → Q () { s with heap := h' }) : wpAny M A (noteFrame (.ref e) env) Q E s := by
  obtain ⟨hB, hn, hF, x, vs, T, y, ts, hx, ⟨hc, hd, hc2⟩, hv, h1, nT, Te, hT, hy, h3⟩ := z
  subst hc hd
  unfold noteFrame
  simp only [hL]
  refine wpAny_bind (wpAny_field hx hv h1 ?_)
  rw [if_pos (show (Value.ref T != Value.none) = true from by simp)]
  refine wpAny_bind (wpAny_field hT hy h3 ?_)
  rw [if_neg (show ¬ ((Value.none == rawInt L) = true) from by simp [rawInt])]
  refine wpAny_bind (wpAny_setField hT hy (Array.getElem?_eq_some_iff.mp h3).1 ?_)
  have ot : ∀ b, b ≠ T → (s.heap.update T (Obj.mapFields (·.setIfInBounds 3 Value.none))).get? b = s.heap.get? b := fun b hb => Heap.get?_update_other _ _ (Ne.symm hb)
  have nr : ∀ b o, s.heap.get? b = some o → (∀ vs, o.data ≠ .fields vs) → b ≠ T := fun b o q hnf z => by rw [z, hT] at q; cases q; exact hnf ts hy
  exact noteX (s := { s with heap := s.heap.update T (Obj.mapFields (·.setIfInBounds 3 Value.none)) }) hA (hF.of_keeps fun b o q hnf => ⟨o, (ot b (nr b o q hnf)).trans q, rfl⟩) hL ((ot e (Ne.symm Te)).trans hx)
    (fun b o q => (ot b fun z => by rw [z, nT] at q; cases q).trans (hB b o q)) hn hv (Array.getElem?_eq_some_iff.mp h1).1 hc2 fun h' z us => k h' z fun b o q hnf => us b o ((ot b (nr b o q hnf)).trans q) hnf
theorem landsX {fl : Value} (z : Heap.OnX base l e cls dx fl s.heap) (k : ∀ h', Heap.FlyX base l e cls dx h' → s.heap.UpToSlots h' → Q () { s with heap := h' }) : wpAny M A (setFlight (.ref e) none) Q E s := by
  obtain ⟨hB, hn, hF, x, vs, T, y, ts, hx, hc, hv, h1, nT, Te, hT, hy, h3⟩ := z
  have ot : ∀ b, b ≠ T → (s.heap.update T (Obj.mapFields (·.setIfInBounds 3 ((none : Option Addr).elim Value.none fun f => rawInt f)))).get? b = s.heap.get? b := fun b hb => Heap.get?_update_other _ _ (Ne.symm hb)
  have nr : ∀ b o, s.heap.get? b = some o → (∀ vs, o.data ≠ .fields vs) → b ≠ T := fun b o q hnf z => by rw [z, hT] at q; cases q; exact hnf ts hy
  have sz := (Array.getElem?_eq_some_iff.mp h3).1
  unfold setFlight
  refine wpAny_bind (wpAny_field hx hv h1 ?_)
  rw [if_pos (show (Value.ref T != Value.none) = true from by simp)]
  refine wpAny_setField hT hy sz (k _ ⟨fun b o q => (ot b fun z => by rw [z, nT] at q; cases q).trans (hB b o q), hn, hF.of_keeps fun b o q hnf => ⟨o, (ot b (nr b o q hnf)).trans q, rfl⟩,
    x, vs, T, _, _, (ot e (Ne.symm Te)).trans hx, hc, hv, h1, nT, Te, Heap.get?_update_self _ hT (Obj.isFreed_of_fields (Obj.data_mapFields hy _)), Obj.data_mapFields hy _, by simp [sz]⟩
    fun b o q hnf => ⟨o.slots, (ot b (nr b o q hnf)).trans q⟩)
theorem leavesX (hA : A.frames = some (env :: outer)) (hL : env.frame = some L) (z : Heap.FlyX base (env :: outer) e cls dx s.heap)
    (k : ∀ h', Heap.FlyX base outer e cls dx h' → s.heap.UpToSlots h' → Q () { s with heap := h' }) : wpAny M A (leaving env (.ref e)) Q E s := by
  unfold leaving
  refine wpAny_bind (looksX hA hL z fun h1 z1 u1 => ?_)
  refine landsX (s := { s with heap := h1 }) z1 fun h2 z2 u2 => ?_
  obtain ⟨k1, k2, ⟨_, _, k3⟩, k4⟩ := z2
  exact k h2 ⟨k1, k2, k3, k4⟩ (u1.trans u2)
theorem leavesNewX {x : Obj} {vs : Array Value} (hA : A.frames = some (env :: outer)) (hL : env.frame = some L) (hB : base.StaysIn s.heap) (hF : s.heap.FunFrames base (env :: outer)) (hx : s.heap.get? e = some x) (hn : base.get? e = none) (hv : x.data = .fields vs) (h1 : vs[1]? = some .none) (hc2 : x.dict = none → vs[2]? = some .none)
    (k : ∀ h', Heap.FlyX base outer e x.cls x.dict h' → s.heap.UpToSlots h' → Q () { s with heap := h' }) : wpAny M A (leaving env (.ref e)) Q E s := by
  unfold leaving noteFrame
  simp only [hL]
  refine wpAny_bind (wpAny_bind (wpAny_field hx hv h1 ?_))
  rw [if_neg (by decide)]
  refine noteX hA hF hL hx hB hn hv (Array.getElem?_eq_some_iff.mp h1).1 hc2 fun g1 z1 u1 => ?_
  refine landsX (s := { s with heap := g1 }) z1 fun g2 z2 u2 => ?_
  obtain ⟨k1, k2, ⟨_, _, k3⟩, k4⟩ := z2
  exact k g2 ⟨k1, k2, k3, k4⟩ (u1.trans u2)
end
end PySem
namespace L2
open PySem PySem.Spec PyProof.Rows
def CXe (P : Program) (w : World) : CXT := fun outer H s E e s' => ∃ (a C : Addr) (dx : Option Addr) (H' : Hp) (B : Heap),
  e = .ref a ∧ s'.os = s.os ∧ AllBare s'.gens ∧ Un (frs outer) [] H H' s.heap s'.heap ∧ HOk P w H' B ∧ Heap.FlyX B outer a (.ref C) dx s'.heap ∧
  (∀ b o, s.heap.get? b = some o → H b = none → b ∉ frs outer → B.get? b = some o) ∧ (∀ b o, s.heap.get? b = some o → b ∉ frs outer → ∃ o', B.get? b = some o') ∧ E (.ref C) dx H'
theorem passE0 {P : Program} {w : World} {X : Cx} : Passes (CXe P w) X E0 := fun _ _ _ _ _ _ _ h => by
  obtain ⟨_, _, _, _, _, _, _, _, _, _, _, _, _, q⟩ := h
  exact q.elim
section
variable {P : Program} {w : World} {K : Fg} {mg : Str → Option Value} {base : Heap} {N : List Str} {qual : Str} {scope : Scope} {f : Addr} {cd : Value} {A : Around} {outer : List Env} {s : Shared} {H : Hp} {E : XK}
  {pins : Pn} {σ : St} {H1 : Hp} {s1 : Shared}
theorem frs_own {CX : CXT} {b : Addr} : b ∈ frs (cxOf CX P w K mg base N qual scope f cd A outer s H E).stack ↔ b = s.heap.objs.size ∨ b ∈ frs outer := by
  show b ∈ (envOfC qual scope s.heap.objs.size f cd :: outer).filterMap (·.frame) ↔ _
  rw [List.filterMap_cons]
  exact List.mem_cons
theorem raises_cx {h' : Heap} {e C : Addr} {vs : List Value} (I : Inv (cxOf (CXe P w) P w K mg base N qual scope f cd A outer s H E) pins σ H1 s1) (hx : Heap.MadeExcOf s1.heap h' e (.ref C) vs) (q : E (.ref C) none H1) :
    (cxOf (CXe P w) P w K mg base N qual scope f cd A outer s H E).xe (.ref e) { s1 with heap := h' } := by
  have hin : ∀ env ∈ (cxOf (CXe P w) P w K mg base N qual scope f cd A outer s H E).stack, ∀ b, env.frame = some b → b ∈ frs (cxOf (CXe P w) P w K mg base N qual scope f cd A outer s H E).stack := fun env he b hb => List.mem_filterMap.mpr ⟨env, he, hb⟩
  have toB : ∀ b o, s1.heap.get? b = some o → b ∉ frs (cxOf (CXe P w) P w K mg base N qual scope f cd A outer s H E).stack → (PySem.W.hideAll s1.heap (frs (cxOf (CXe P w) P w K mg base N qual scope f cd A outer s H E).stack)).get? b = some o := fun b o e n => PySem.W.hideAll_get _ e n
  have hl := PySem.W.funFrames_hide (as := frs (cxOf (CXe P w) P w K mg base N qual scope f cd A outer s H E).stack) I.stack hin
  have nstk : ∀ b o, s.heap.get? b = some o → b ∉ frs outer → b ∉ frs (cxOf (CXe P w) P w K mg base N qual scope f cd A outer s H E).stack := fun b o e n z => by
    rcases frs_own.mp z with z | z
    · rw [z] at e
      exact absurd (Heap.lt_size e) (Nat.lt_irrefl _)
    · exact n z
  have hB : HOk P w H1 (PySem.W.hideAll s1.heap (frs (cxOf (CXe P w) P w K mg base N qual scope f cd A outer s H E).stack)) := fun b u eu => (I.hok b u eu).stay (fun c v hc q => toB c v q fun z => by
    have n := I.stkFree c z
    rcases hc with hc | hc
    · rw [hc, eu] at n; cases n
    · rw [hc] at n; cases n) (fun _ q => q) fun _ _ q => q
  obtain ⟨tt, hmade, _, _⟩ := hx.there
  have fresh : (PySem.W.hideAll s1.heap (frs (cxOf (CXe P w) P w K mg base N qual scope f cd A outer s H E).stack)).get? e = none := by
    cases z : (PySem.W.hideAll s1.heap (frs (cxOf (CXe P w) P w K mg base N qual scope f cd A outer s H E).stack)).get? e with
    | none => rfl
    | some o => have := PySem.W.of_hideAll _ z; rw [hx.new] at this; cases this
  refine leavesNewX (base := PySem.W.hideAll s1.heap (frs (cxOf (CXe P w) P w K mg base N qual scope f cd A outer s H E).stack)) (s := { s1 with heap := h' }) I.ok.frames rfl (fun b o q => hx.keeps b o (PySem.W.of_hideAll _ q)) (hl.of_keeps fun b o q _ => ⟨o, hx.keeps b o q, rfl⟩) hmade fresh rfl rfl (fun _ => rfl) fun h2 fl us => ?_
  refine ⟨e, C, none, H1, _, rfl, I.os, I.bare, ?_, hB, fl, ?_, ?_, q⟩
  · have cs : ∀ b ∈ frs outer, ∀ o, s1.heap.get? b = some o → ∃ sl, h2.get? b = some { o with slots := sl } := fun b hb o e => by
      obtain ⟨_, o', e', hd⟩ := I.funs.mem hb
      rw [e] at e'; cases e'
      exact us b o (hx.keeps b o e) hd
    exact {
      keep := fun b o e n hb _ => fl.1 b o (toB b o (I.base.keep b o e n hb (by exact fun z => nomatch z)) (nstk b o e hb))
      slot := fun b o e n hb _ => by
        obtain ⟨sl, e1⟩ := I.base.slot b o e n hb (by exact fun z => nomatch z)
        obtain ⟨sl', e2⟩ := cs b hb _ e1
        exact ⟨sl', e2⟩
      free := fun b o e n _ => I.base.free b o e n (by exact fun z => nomatch z)
      there := fun b o e _ => by
        obtain ⟨o', e1⟩ := I.base.there b o e (by exact fun z => nomatch z)
        by_cases hb : b ∈ frs outer
        · obtain ⟨sl, e2⟩ := cs b hb _ e1
          exact ⟨_, e2⟩
        · exact ⟨o', fl.1 b o' (toB b o' e1 (nstk b o e hb))⟩
      tups := I.base.tups
      frzs := I.base.frzs
      tbls := I.base.tbls }
  · exact fun b o e n hb => toB b o (I.base.keep b o e n hb (by exact fun z => nomatch z)) (nstk b o e hb)
  · intro b o e hb
    obtain ⟨o', e1⟩ := I.base.there b o e (by exact fun z => nomatch z)
    exact ⟨o', toB b o' e1 (nstk b o e hb)⟩
theorem passes_on : Passes (CXe P w) (cxOf (CXe P w) P w K mg base N qual scope f cd A outer s H E) E := by
  intro pins σ H1 s1 e s' I cx
  obtain ⟨a, C, dx, H', B, rfl, os, bare, un, hB, fl, kU, kT, q⟩ := cx
  have nstk : ∀ b o, s.heap.get? b = some o → b ∉ frs outer → b ∉ frs (cxOf (CXe P w) P w K mg base N qual scope f cd A outer s H E).stack := fun b o e n z => by
    rcases frs_own.mp z with z | z
    · rw [z] at e
      exact absurd (Heap.lt_size e) (Nat.lt_irrefl _)
    · exact n z
  have sub : ∀ b ∈ frs outer, b ∈ frs (cxOf (CXe P w) P w K mg base N qual scope f cd A outer s H E).stack := fun b hb => frs_own.mpr (.inr hb)
  have ff : s'.heap.FunFrames B (cxOf (CXe P w) P w K mg base N qual scope f cd A outer s H E).stack := fl.2.2.1
  refine leavesX (s := s') I.ok.frames rfl fl fun h2 fl2 us => ?_
  have cs : ∀ b ∈ frs outer, ∀ o, s'.heap.get? b = some o → ∃ sl, h2.get? b = some { o with slots := sl } := fun b hb o e => by
    obtain ⟨_, o', e', hd⟩ := ff.mem (sub b hb)
    rw [e] at e'; cases e'
    exact us b o e hd
  have no : ∀ b : Addr, b ∉ ([] : List Addr) := fun b z => nomatch z
  refine ⟨a, C, dx, H', B, rfl, os.trans I.os, bare, ?_, hB, fl2, ?_, ?_, q⟩
  · exact {
      keep := fun b o e n hb _ => fl2.1 b o (kU b o (I.base.keep b o e n hb (no b)) (I.base.free b o e n (no b)) (nstk b o e hb))
      slot := fun b o e n hb _ => by
        obtain ⟨sl, e1⟩ := I.base.slot b o e n hb (no b)
        obtain ⟨sl', e2⟩ := un.slot b _ e1 (I.base.free b o e n (no b)) (sub b hb) (no b)
        obtain ⟨sl'', e3⟩ := cs b hb _ e2
        exact ⟨sl'', e3⟩
      free := fun b o e n _ => by
        obtain ⟨o', e1⟩ := I.base.there b o e (no b)
        exact un.free b o' e1 (I.base.free b o e n (no b)) (no b)
      there := fun b o e _ => by
        obtain ⟨o1, e1⟩ := I.base.there b o e (no b)
        by_cases hb : b ∈ frs outer
        · obtain ⟨o2, e2⟩ := un.there b o1 e1 (no b)
          obtain ⟨sl, e3⟩ := cs b hb _ e2
          exact ⟨_, e3⟩
        · obtain ⟨o2, e2⟩ := kT b o1 e1 (nstk b o e hb)
          exact ⟨o2, fl2.1 b o2 e2⟩
      tups := fun b xs z => un.tups b xs (I.base.tups b xs z)
      frzs := fun b o u z => un.frzs b o u (I.base.frzs b o u z)
      tbls := fun b ps z => by
        obtain ⟨m1, e1⟩ := I.base.tbls b ps z
        obtain ⟨m2, e2⟩ := un.tbls b _ e1
        exact ⟨m1 ++ m2, by rw [e2, Array.append_assoc]⟩ }
  · exact fun b o e n hb => kU b o (I.base.keep b o e n hb (no b)) (I.base.free b o e n (no b)) (nstk b o e hb)
  · intro b o e hb
    obtain ⟨o1, e1⟩ := I.base.there b o e (no b)
    exact kT b o1 e1 (nstk b o e hb)
theorem FunD.okE {x qual : Str} {st : Stmt} {f : Addr} {fd : FuncData} {N ps : List Str} {k : Nat} {sp : Sp} (F : FunD K x qual st f fd) (S : FnScope N ps (defScope st)) (len : ∀ vs H Q E, sp vs H Q E → vs.length = ps.length)
    (hbody : ∀ (cdv : Value) (A : Around) (outer : List Env) (s : Shared) (H : Hp) (vs : List V) (Q : VK) (E : XK), Room k (A.deeper (envOfC qual (defScope st) s.heap.objs.size f cdv)) → sp vs H Q E →
      ∃ t, PSs (cxOf (CXe P w) P w K mg base N qual (defScope st) f cdv A outer s H E) (defBody st) t ∧ t { nx := fun _ H' => Q .non H', rt := Q } (start N vs) H) : FnOk P w K mg base (CXe P w) (k + 1) f fd ps sp := by
  obtain ⟨oc, od, dV, kV, doc, pm, an, cdv, ct, osl, rfl, lk, hcd⟩ := F.ex
  exact fn_of lk hcd S len fun A outer s H vs Q E hr hsp => hbody cdv A outer s H vs Q E hr hsp
end
abbrev bmVE : List Value := [.type "ValueError", .type "Exception", .type "BaseException", .type "object"]
theorem topRead_any {p : Program} {mg mb : Str → Option Value} {h : Heap} (g : h.Ns mainGlobals mg) (b : h.Ns builtinsNs mb) (nl : h.NoLimit) (bl : ∀ x : Str, x ≠ "__name__" → mb x = bootBuiltins x) :
    ∃ loose, PySem.W.TopRead p loose mg mb h := by
  obtain ⟨o, es, ep, ho, hd, hk, hm⟩ := id g
  refine ⟨es.toList.filterMap (fun (e : DictEntry) => match e.key with | .str n _ => some n | _ => none), ⟨g, b, nl, bl, fun x _ hx _ _ _ => ?_⟩⟩
  rw [← hm x]
  unfold nsFind findBy
  rw [Option.map_eq_none_iff, Array.find?_eq_none]
  intro e he hs
  obtain ⟨n, t, hn⟩ := hk e he
  apply hx
  refine List.mem_filterMap.mpr ⟨e, Array.mem_toList_iff.mpr he, ?_⟩
  rw [hn] at hs ⊢
  have e2 : n = x := by simpa [Value.isStr] using hs
  rw [e2]
def tRaise (C : Addr) (E : XK) (t : TA) : TS := fun _ σ H => t σ H fun vs H1 => vs.length ≤ sizeLine ∧ E (.ref C) none H1
def Raises (X : Cx) (C : Addr) (E : XK) : Prop := ∀ (pins : Pn) (σ : St) (H : Hp) (s : Shared) (h' : Heap) (e : Addr) (vs : List Value), Inv X pins σ H s → Heap.MadeExcOf s.heap h' e (.ref C) vs → E (.ref C) none H → X.xe (.ref e) { s with heap := h' }
theorem raisesE {P : Program} {w : World} {K : Fg} {mg : Str → Option Value} {base : Heap} {N : List Str} {qual : Str} {scope : Scope} {f C : Addr} {cd : Value} {A : Around} {outer : List Env} {s : Shared} {H : Hp} {E : XK} :
    Raises (cxOf (CXe P w) P w K mg base N qual scope f cd A outer s H E) C E := fun _ _ _ _ _ _ _ I me q => raises_cx I me q
section
variable {X : Cx} {E : XK} {x : Str} {np cpos pos : Pos} {e0 : Expr} {es : List Expr} {t : TA} {C : Addr}
theorem ps_raise (hc : X.calm = true) (O : PySem.W.excIn X.K C bmVE "ValueError.__new__" = true) (hn : PySem.W.nsIn X.K mainGlobals x = some (some (.ref C))) (hm : X.mg x = some (.ref C)) (hg : Gl X x) (hx : Raises X C E) (ha : PA X (e0 :: es) t)
    (hd : (x == ("__debug__" : Str)) = false := by decide) (he : starEach (e0 :: es) X.env = (false, eval e0 X.env) :: starEach es X.env := by rfl) (hpl : (backTo cpos (starEach es X.env)).any (·.1) = false := by rfl) :
    PS X (.Raise (some (.Call (.Name x np) (e0 :: es) [] cpos)) none pos) (tRaise C E t) := by
  intro pins s σ H D I h
  obtain ⟨mb, b1, b2⟩ := I.mod.blt
  obtain ⟨loose, TR⟩ := topRead_any (p := X.prog) I.mod.glob b1 I.mod.nolimit b2
  have OC := PySem.W.own_of_in I.mod.kin TR hn O
  obtain ⟨tl, Nn, nm, qq, bs, hdct, sn, sub, ab, col, dd, k0, k1, k2, k3, k5, mN, oC, oN, oi, oT⟩ := OC.obj
  have hp2 : (backTo cpos (starEach (e0 :: es) X.env)).any (·.1) = false := by
    rw [he]
    show (false || (backTo cpos (starEach es X.env)).any (·.1)) = false
    rw [hpl]
    rfl
  refine wpAny_Raise_call_subU (C := C) (nm := nm) (q := qq) (N := Nn) (bs := bs) (bm := tl) (hdct := hdct) (sn := sn) (sub := sub) (ab := ab) (col := col) (dd := dd) (k0 := k0) (k1 := k1) (k2 := k2) (k3 := k3) (k5 := k5)
    PySem.F.excBase_ValueError (by decide) PySem.F.excBase_ValueError (mN := mN) (oT.hasType PySem.F.excBase_ValueError.hasBase) (I.ok.hd hc) hp2 oi (ld_glob I hg hm ⟨rfl, ?_⟩ hd)
  have hA := ha cpos pins s σ H _ I h
  rw [he] at hA ⊢
  refine Calls.evalArgs_plain (thn hA fun us s2 ⟨vs, H2, I2, r2, hl, q⟩ => ⟨rfl, by rw [← r2.length]; exact hl, I2.bk _ _ oC, oN.keeps I2.bk, oT.keeps I2.bk, fun h' e me => hx pins σ H2 s2 h' e us I2 me q⟩)
end
abbrev Cx.marked (X : Cx) (a : Addr) : Cx := { X with A := X.A.mark (some (.ref a)), calm := false }
section
variable {X : Cx} {pins : Pn} {σ : St} {H H' : Hp} {s s' : Shared}
theorem Cx.Ok.marked (ok : X.Ok) (a : Addr) : (X.marked a).Ok :=
  ⟨ok.mod, ok.kind, ok.glob, ok.blt, ok.above, ok.inj, ok.has, ok.cab, (fun z => nomatch z), ok.frames, ok.stk, ok.exf, ok.bs, ok.bsz, ok.noex, ok.exfs, ok.funs, ok.frf⟩
theorem Inv.marked (I : Inv X pins σ H s) (a : Addr) : Inv (X.marked a) pins σ H s := ⟨I.ok.marked a, I.os, I.bare, I.base, I.loc, I.cell, I.free, I.freeC, I.pin, I.hok, I.len⟩
theorem Inv.unmarked {a : Addr} (I : Inv (X.marked a) pins σ H s) (ok : X.Ok) : Inv X pins σ H s := ⟨ok, I.os, I.bare, I.base, I.loc, I.cell, I.free, I.freeC, I.pin, I.hok, I.len⟩
theorem SP.unmarked {a : Addr} {D : Ends} {f : Flow} (h : SP (X.marked a) pins D f s') (ok : X.Ok) : SP X pins D f s' := by
  cases f with
  | next => obtain ⟨σ', H', I, q⟩ := h; exact ⟨σ', H', I.unmarked ok, q⟩
  | brk => obtain ⟨σ', H', I, q⟩ := h; exact ⟨σ', H', I.unmarked ok, q⟩
  | cont => obtain ⟨σ', H', I, q⟩ := h; exact ⟨σ', H', I.unmarked ok, q⟩
  | ret u => obtain ⟨v, σ', H', I, r, q⟩ := h; exact ⟨v, σ', H', I.unmarked ok, r, q⟩
theorem Inv.flown {B h2 : Heap} (I : Inv X pins σ H s) (os : s'.os = s.os) (bare : AllBare s'.gens) (un : Un (frs X.stack) [] H H' s.heap s'.heap) (hB : HOk X.prog X.w H' B) (ff : s'.heap.FunFrames B X.stack)
    (kU : ∀ b o, s.heap.get? b = some o → H b = none → b ∉ frs X.stack → B.get? b = some o) (kT : ∀ b o, s.heap.get? b = some o → b ∉ frs X.stack → ∃ o', B.get? b = some o') (st : B.StaysIn h2) (us : s'.heap.UpToSlots h2) :
    Inv X pins σ H' { s' with heap := h2 } := by
  have cs : ∀ b ∈ frs X.stack, ∀ o, s'.heap.get? b = some o → ∃ sl, h2.get? b = some { o with slots := sl } := fun b hb o e => by
    obtain ⟨_, o', e', hd⟩ := ff.mem hb
    rw [e] at e'; cases e'
    exact us b o e hd
  have u2 : Un (frs X.stack) [] H H' s.heap h2 := {
    keep := fun b o e n hb _ => st b o (kU b o e n hb)
    slot := fun b o e n hb hx => by
      obtain ⟨sl, e1⟩ := un.slot b o e n hb hx
      obtain ⟨sl', e2⟩ := cs b hb _ e1
      exact ⟨sl', e2⟩
    free := un.free
    there := fun b o e hx => by
      by_cases hb : b ∈ frs X.stack
      · obtain ⟨o2, e2⟩ := un.there b o e hx
        obtain ⟨sl, e3⟩ := cs b hb _ e2
        exact ⟨_, e3⟩
      · obtain ⟨o2, e2⟩ := kT b o e hb
        exact ⟨o2, st b o2 e2⟩
    tups := un.tups
    frzs := un.frzs
    tbls := un.tbls }
  obtain ⟨hh, g, d, t, os'⟩ := s'
  obtain rfl : os' = s.os := os
  show Inv X pins σ H' { s with heap := h2, gens := g, drawn := d, toks := t }
  exact I.call (h' := h2) (g' := g) (d' := d) (t' := t) (ch := []) u2 (hB.kept st) bare (fun b z => absurd z (by simp))
end
structure Meets1 (X : Cx) (x : Str) (T : Addr) (C : Addr) (b : Bool) : Prop where
  gl : Gl X x
  m : X.mg x = some (.ref T)
  ex : PySem.W.exmOne X.K (.ref C) (.ref T) = some b
  db : (x == ("__debug__" : Str)) = false
section
variable {X : Cx} {pins : Pn} {σ : St} {H : Hp} {s s' : Shared} {E : XK} {ex : Value} {x : Str} {T : Addr} {np hpos : Pos} {b0 : Stmt} {suite : List Stmt} {ts : TS} {D : Ends} {Q0 : Hp → Prop}
theorem caught_ok (I : Inv X pins σ H s) (hst : X.stack = X.env :: X.outer) (hf : X.env.frame = some X.env.locals) (h0 : ∀ e s, X.xe e s → False) (cx : CXe X.prog X.w X.stack H s E ex s')
    (hE : ∀ C d H', E (.ref C) d H' → Meets1 X x T C true ∧ ts D σ H') (hs : ∀ a, PSs (X.marked a) (b0 :: suite) ts) :
    wpAny (model X.prog X.w) X.A (noteFrame ex X.env) (fun _ s2 => wpAny (model X.prog X.w) X.A (setFlight ex none) (fun _ s3 =>
      wpAny (model X.prog X.w) X.A (handleBy ex X.env [.ExceptHandler (some (.Name x np)) none (b0 :: suite) hpos]) (SP X pins D) X.xe s3) X.xe s2) X.xe s' := by
  obtain ⟨a, C, dx, H', B, rfl, os, bare, un, hB, fl, kU, kT, q⟩ := cx
  obtain ⟨M1, q⟩ := hE C _ H' q
  have ff := fl.2.2.1
  have fl' : Heap.FlyX B (X.env :: X.outer) a (.ref C) dx s'.heap := by rw [← hst]; exact fl
  have hfr : X.A.frames = some (X.env :: X.outer) := by rw [← hst]; exact I.ok.frames
  refine looksX (s := s') hfr hf fl' fun h4 held4 us4 => ?_
  refine landsX (s := { s' with heap := h4 }) held4 fun h5 fl5 us5 => ?_
  have us45 := us4.trans us5
  have I5 : Inv X pins σ H' { s' with heap := h5 } := I.flown os bare un hB ff kU kT fl5.1 us45
  refine wpAny_handleBy_cons (codeAny_handlers_test ?_) (by intro z; cases z)
  refine ld_glob (X := X.marked a) (I5.marked a) M1.gl M1.m ?_ M1.db
  have LT : PySem.W.Looks (model X.prog X.w) h5 (typeOf (.ref a)) (.ref C) := by
    obtain ⟨ob, hob, hc⟩ := fl5.there
    rw [← hc]
    exact (PySem.W.Looks.ld hob).andThen .now
  refine (PySem.W.exm_one I5.kIn LT M1.ex).here ?_
  refine codeAny_handlers_suite ?_
  refine landsX (s := { s' with heap := h5 }) fl5 fun h6 fl6 us6 => ?_
  have I6 : Inv X pins σ H' { s' with heap := h6 } := I.flown os bare un hB ff kU kT fl6.1 (us45.trans us6)
  exact wpAny_mono (hs a pins { s' with heap := h6 } σ H' D (I6.marked a) q) (fun f s9 z => z.unmarked I.ok) fun e s9 z => (h0 e s9 z).elim
end
section
variable {X : Cx} {k : Nat} {f : Addr} {fd : FuncData} {ps : List Str} {sp : Sp} {dvs : List V} {ds : List Value} {fx x cx : Str} {p cpos px apos np hpos pos : Pos} {e : Expr} {es : List Expr} {t : TA} {T : Addr} {b0 : Stmt} {suite : List Stmt} {ts : TS} {i : Nat}
end
end L2
namespace L2
open PySem PySem.Spec PyProof.Rows
section
variable {prog : Program} {w : World} {A : Around} {R : Result → Shared → Prop} {s : Shared}
abbrev NB (prog : Program) (w : World) (A : Around) (env : Env) (R : Result → Shared → Prop) : Value → Shared → Prop := notedBy (model prog w) A env fun e s' => R (.error e) s'
theorem comp_loop {elt tg iter : Expr} {scope : Scope} {pos : Pos} {itv acc : Value} {env : Env} (J : Nat → Shared → Prop)
    (turn : ∀ n s, J n s → wpAny (model prog w) A (pyNext itv) (fun r s1 => match r with
      | none => R (.ok .next) s1
      | some v => wpAny (model prog w) A (letOwnedTupleGo tg itv v) (fun _ s2 => wpAny (model prog w) A (assign tg env v) (fun _ s3 => wpAny (model prog w) A (eval elt env) (fun x s4 =>
          wpAny (model prog w) A (call (.builtin "list.append") [acc, x]) (fun _ s5 => ∃ m, m < n ∧ J m s5) (NB prog w A env R) s4) (NB prog w A env R) s3) (NB prog w A env R) s2) (NB prog w A env R) s1) (NB prog w A env R) s)
    (n : Nat) (h : J n s) : codeAny (model prog w) A (.compLoop (.ListComp elt [⟨tg, iter, [], 0⟩] scope pos) 0 itv acc env) R s := by
  refine codeAny_loop rfl J (fun n s hJ => ?_) n h
  show wpAny _ _ ((compTurn (.ListComp elt [⟨tg, iter, [], 0⟩] scope pos) 0 itv acc env).onRaise (fun x => do noteFrame x env; theTreesLotGoes x)) _ _ s
  refine wpAny_noted ?_
  rw [compTurn_list1]
  refine wpAny_bind (wpAny_standAt (wpAny_bind (wpAny_mono (turn n s hJ) (fun r s1 z => ?_) fun _ _ q => q)))
  match r, z with
  | none, z => exact wpAny_pure z
  | some v, z =>
    exact wpAny_bind (wpAny_mono z (fun _ s2 z => wpAny_bind (wpAny_mono z (fun _ s3 z => wpAny_bind (wpAny_bind (wpAny_mono z (fun x s4 z =>
      wpAny_bind (wpAny_mono z (fun _ s5 z => wpAny_pure (wpAny_pure ⟨rfl, z⟩)) fun _ _ q => q)) fun _ _ q => q))) fun _ _ q => q)) fun _ _ q => q)
end
theorem closure_from {env : Env} : ∀ (names : List (Str × NameKind)) (acc : List (Str × Addr)), (∀ y ∈ names, y.2 = .free → ∃ c, env.cells.lookup y.1 = some c) → (∀ x c, acc.lookup x = some c → env.cells.lookup x = some c) →
    ∃ cl, (forIn names acc (fun (x : Str × NameKind) cs => if (x.2 == NameKind.free) = true then (do let __do_lift ← cellOf env x.1; pure (ForInStep.yield ((x.1, __do_lift) :: cs))) else pure (ForInStep.yield cs)) : Sem (List (Str × Addr))) = pure cl ∧
      (∀ x c, cl.lookup x = some c → env.cells.lookup x = some c) ∧ (∀ x, (∃ c, acc.lookup x = some c) → ∃ c, cl.lookup x = some c) ∧ ∀ y ∈ names, y.2 = .free → ∃ c, cl.lookup y.1 = some c
  | [], acc, _, ha => ⟨acc, rfl, ha, fun _ h => h, fun _ h => nomatch h⟩
  | y :: r, acc, hn, ha => by
    by_cases hf : y.2 = .free
    · obtain ⟨c, hc⟩ := hn y List.mem_cons_self hf
      obtain ⟨cl, e, h1, h2, h3⟩ := closure_from r ((y.1, c) :: acc) (fun z hz => hn z (List.mem_cons_of_mem _ hz)) (fun x d e => by
        rw [List.lookup_cons] at e
        cases q : x == y.1 with
        | true => rw [q] at e; cases e; rw [eq_of_beq q]; exact hc
        | false => rw [q] at e; exact ha x d e)
      refine ⟨cl, ?_, h1, fun x ⟨d, hd⟩ => h2 x ?_, fun z hz zf => ?_⟩
      · rw [List.forIn_cons, if_pos (by rw [hf]; rfl)]
        have ec : cellOf env y.1 = pure c := by unfold cellOf; rw [hc]
        rw [ec]
        exact e
      · rw [List.lookup_cons]
        cases q : x == y.1 with
        | true => exact ⟨c, rfl⟩
        | false => exact ⟨d, hd⟩
      · rcases List.mem_cons.mp hz with z1 | z1
        · subst z1
          exact h2 z.1 ⟨c, by rw [List.lookup_cons, beq_self_eq_true]⟩
        · exact h3 z z1 zf
    · obtain ⟨cl, e, h1, h2, h3⟩ := closure_from r acc (fun z hz => hn z (List.mem_cons_of_mem _ hz)) ha
      refine ⟨cl, ?_, h1, h2, fun z hz zf => ?_⟩
      · rw [List.forIn_cons, if_neg (by simpa using hf)]
        exact e
      · rcases List.mem_cons.mp hz with z1 | z1
        · subst z1; exact absurd zf hf
        · exact h3 z z1 zf
theorem closure_of {env : Env} {sc : Scope} (h : ∀ y ∈ sc.names, y.2 = .free → ∃ c, env.cells.lookup y.1 = some c) :
    ∃ cl, closureFor sc env = pure cl ∧ (∀ x c, cl.lookup x = some c → env.cells.lookup x = some c) ∧ ∀ y ∈ sc.names, y.2 = .free → ∃ c, cl.lookup y.1 = some c := by
  obtain ⟨cl, e, h1, _, h3⟩ := closure_from sc.names [] h (fun x c e => by simp at e)
  refine ⟨cl, ?_, h1, h3⟩
  unfold closureFor
  simp only [e]
  rfl
structure CompOk (X : Cx) (tg : Str) (sc : Scope) (fr : List (Str × Nat)) : Prop where
  kind : sc.kind = .function
  nocell : ∀ y ∈ sc.names, y.2 ≠ .cell
  locs : ∀ y ∈ sc.names, y.2 = .local → sc.names.lookup y.1 = some .local
  tgl : sc.names.lookup tg = some .local
  fre : ∀ y ∈ sc.names, y.2 = .free → X.env.scope.names.lookup y.1 = some .cell ∨ X.env.scope.names.lookup y.1 = some .free
  nd : (tg :: fr.map (·.1)).Nodup
  vis : ∀ p ∈ fr, X.N[p.2]? = some p.1 ∧ (X.env.scope.names.lookup p.1 = some .cell ∨ X.env.scope.names.lookup p.1 = some .free) ∧ sc.names.lookup p.1 = some .free
abbrev Cx.blk (X : Cx) (Nc : List Str) (sc : Scope) (cl : List (Str × Addr)) (C : Addr) (s3 : Shared) (H3 : Hp) (fp : List Addr) : Cx :=
  { X with N := Nc, s₀ := s3, H₀ := H3, env := compEnvC sc cl C X.env, outer := X.stack, ex := fp, fn := fun _ => false, pn := [], xe := fun _ _ => False }
theorem relabel_free {env : Env} : ∀ {names : List (Str × NameKind)} {x : Str} {k : NameKind}, (∀ y ∈ names, y.2 ≠ .cell) → (k = .cell ∨ k = .free) →
    (names.map fun (n, k) => if (k == NameKind.free && env.scope.kind == .function && env.kindOf n == some .cell) then (n, NameKind.cell) else (n, k)).lookup x = some k → ∃ y ∈ names, y.1 = x ∧ y.2 = .free
  | [], _, _, _, _, e => by simp at e
  | (n, k') :: r, x, k, hn, hk, e => by
    have ih := @relabel_free env r x k (fun y hy => hn y (List.mem_cons_of_mem _ hy)) hk
    rw [List.map_cons] at e
    by_cases hc : (k' == NameKind.free && env.scope.kind == .function && env.kindOf n == some .cell) = true
    · simp only [hc, if_true, List.lookup_cons] at e
      cases q : x == n with
      | true =>
        have hf : k' = .free := by
          simp only [Bool.and_eq_true, beq_iff_eq] at hc
          exact hc.1.1
        exact ⟨(n, k'), List.mem_cons_self, (eq_of_beq q).symm, hf⟩
      | false =>
        rw [q] at e
        obtain ⟨y, h1, h2⟩ := ih e
        exact ⟨y, List.mem_cons_of_mem _ h1, h2⟩
    · simp only [hc, Bool.false_eq_true, if_false, List.lookup_cons] at e
      cases q : x == n with
      | true =>
        rw [q] at e
        have ek : k' = k := Option.some.inj e
        rcases hk with z | z
        · exact absurd (ek.trans z) (hn (n, k') List.mem_cons_self)
        · exact ⟨(n, k'), List.mem_cons_self, (eq_of_beq q).symm, ek.trans z⟩
      | false =>
        rw [q] at e
        obtain ⟨y, h1, h2⟩ := ih e
        exact ⟨y, List.mem_cons_of_mem _ h1, h2⟩
theorem relabel_seen {env : Env} : ∀ {names : List (Str × NameKind)} {x : Str}, names.lookup x = some .free →
    (names.map fun (n, k) => if (k == NameKind.free && env.scope.kind == .function && env.kindOf n == some .cell) then (n, NameKind.cell) else (n, k)).lookup x = some .cell ∨
    (names.map fun (n, k) => if (k == NameKind.free && env.scope.kind == .function && env.kindOf n == some .cell) then (n, NameKind.cell) else (n, k)).lookup x = some .free
  | [], _, e => by simp at e
  | (n, k') :: r, x, e => by
    have ih := @relabel_seen env r x
    rw [List.map_cons]
    rw [List.lookup_cons] at e
    by_cases hc : (k' == NameKind.free && env.scope.kind == .function && env.kindOf n == some .cell) = true
    · simp only [hc, if_true, List.lookup_cons]
      cases q : x == n with
      | true => exact .inl rfl
      | false => rw [q] at e; exact ih e
    · simp only [hc, Bool.false_eq_true, if_false, List.lookup_cons]
      cases q : x == n with
      | true => rw [q] at e; exact .inr e
      | false => rw [q] at e; exact ih e
section
variable {X : Cx} {pins : Pn} {σ : St} {H : Hp} {s3 s4 : Shared} {tg : Str} {sc : Scope} {fr : List (Str × Nat)} {fp : List Addr} {cl : List (Str × Addr)}
def inSt (σ : St) (fr : List (Str × Nat)) : St := fr.map fun p => (σ[p.2]?).join
theorem blk_start (ok : CompOk X tg sc fr) (I : Inv X pins σ H s3) (hf : ∀ b ∈ fp, FpOk X pins H b) (hfo : ∀ b ∈ fp, ∃ o, s3.heap.get? b = some o) (hk : ∀ x c, cl.lookup x = some c → X.env.cells.lookup x = some c) (hc : ∀ y ∈ sc.names, y.2 = .free → ∃ c, cl.lookup y.1 = some c)
    {h4 : Heap} {t4 : Nat} (hns : ∃ m, h4.Ns s3.heap.objs.size m) (hkeep : ∀ b o, s3.heap.get? b = some o → h4.get? b = some o) :
    Inv (X.blk (tg :: fr.map (·.1)) sc cl s3.heap.objs.size s3 H fp) [] (none :: inSt σ fr) H { s3 with heap := h4, toks := t4 } := by
  have hasc : ∀ x, ((relabel sc X.env).names.lookup x = some .cell ∨ (relabel sc X.env).names.lookup x = some .free) → ∃ c, cl.lookup x = some c := fun x hx => by
    obtain ⟨y, h1, h2, h3⟩ : ∃ y ∈ sc.names, y.1 = x ∧ y.2 = .free := by
      rcases hx with z | z
      · exact relabel_free ok.nocell (.inl rfl) z
      · exact relabel_free ok.nocell (.inr rfl) z
    subst h2
    exact hc y h1 h3
  have cell4 : ∀ x c, cl.lookup x = some c → ∀ v, s3.heap.IsCell c v → h4.IsCell c v := fun x c _ v ⟨o, ho, hd⟩ => ⟨o, hkeep c o ho, hd⟩
  have fresh : H s3.heap.objs.size = none := I.hok.fresh (Nat.le_refl _)
  refine ⟨⟨I.mod, ok.kind, I.ok.glob, I.ok.blt, Nat.le_refl _, fun x y c e1 e2 => I.ok.inj x y c (hk x c e1) (hk y c e2), hasc, (fun x c e => nomatch e), I.ok.hd, I.ok.frames, .inl rfl, fun b hb => ?_, I.bs, Nat.le_trans I.ok.bsz I.sz, fun b o e hb => ?_, fun b hb z => ?_, I.stack, I.stkFree⟩,
    rfl, I.bare, Un.kept hkeep, ?_, fun x c e => ?_, fresh, fun x c e => I.freeC x c (hk x c e), (fun p hp => nomatch hp), I.hok.kept hkeep, ?_⟩
  · obtain ⟨f0, f1, f2, f3, f4, f5⟩ := hf b hb
    refine ⟨fun z => ?_, fun x c e => f4 x c (hk x c e)⟩
    obtain ⟨o, eo⟩ := hfo b hb
    have z' : b = s3.heap.objs.size := z
    rw [z'] at eo
    exact absurd (Heap.lt_size eo) (Nat.lt_irrefl _)
  · obtain ⟨f0, f1, f2, f3, f4, f5⟩ := hf b hb
    rcases f3 with z | z
    · exact I.ok.noex b o e z
    · exact absurd (Nat.lt_of_lt_of_le (Nat.lt_of_lt_of_le (Heap.lt_size e) I.ok.bsz) z) (Nat.lt_irrefl _)
  · obtain ⟨f0, f1, f2, f3, f4, f5⟩ := hf b hb
    rcases List.mem_cons.mp (I.stkSub b z) with q | q
    · exact f1 q
    · exact f2 q
  · obtain ⟨m, hn⟩ := hns
    obtain ⟨m0, _, hl0⟩ := I.loc
    refine ⟨m, hn, fun i x v e1 e2 _ => ?_⟩
    cases i with
    | zero => cases e2
    | succ i =>
      have e2' : ((fr.map fun p => (σ[p.2]?).join))[i]? = some (some v) := e2
      have e1' : (fr.map (·.1))[i]? = some x := e1
      rw [List.getElem?_map] at e1' e2'
      cases q : fr[i]? with
      | none => rw [q] at e1'; cases e1'
      | some p =>
        rw [q] at e1' e2'
        have ex : p.1 = x := Option.some.inj e1'
        have ev : (σ[p.2]?).join = some v := Option.some.inj e2'
        obtain ⟨g1, g2, g3⟩ := ok.vis p (List.mem_of_getElem? q)
        have ev' : σ[p.2]? = some (some v) := by
          cases z : σ[p.2]? with
          | none => rw [z] at ev; cases ev
          | some w => rw [z] at ev; exact congrArg some ev
        have gv : Vis X.env.scope p.1 := g2.elim (fun z => .inr (.inl z)) fun z => .inr (.inr z)
        obtain ⟨u, ru, lk⟩ := hl0 p.2 p.1 v g1 ev' gv
        subst ex
        refine ⟨u, ru, .inr ⟨relabel_seen g3, ?_⟩⟩
        rcases lk with ⟨k1, _⟩ | ⟨_, c, ec, hcell⟩
        · rcases g2 with z | z
          · have k2 : X.env.scope.names.lookup p.1 = some .local := k1
            rw [z] at k2; cases k2
          · have k2 : X.env.scope.names.lookup p.1 = some .local := k1
            rw [z] at k2; cases k2
        · obtain ⟨c', ec'⟩ := hasc p.1 (relabel_seen g3)
          have e3 := hk _ _ ec'
          rw [ec] at e3
          cases e3
          exact ⟨c, ec', cell4 _ c ec' _ hcell⟩
  · obtain ⟨v, z⟩ := I.cell x c (hk x c e)
    exact ⟨v, cell4 x c e v z⟩
  · show (none :: inSt σ fr).length = (tg :: fr.map (·.1)).length
    simp [inSt]
end
def tLC (fr : List (Str × Nat)) (wi : TI) (te : TE) : TE := fun σ H Q => wi σ H fun J H1 => ∀ acc, H1 acc = none → ∃ W : Nat → Nat → Hp → Prop, (∃ m, W 0 m (upd H1 acc (.lst []))) ∧ ∀ i m H2, W i m H2 →
  (J.stop i H2 ∧ Q (.ref acc) H2) ∨ (J.go i H2 ∧ ∀ x H3, J.yld i H2 x H3 → te (some x :: inSt σ fr) H3 fun v H4 => ∃ xs m', H4 acc = some (.lst xs) ∧ xs.length < sizeLine ∧ m' < m ∧ W (i + 1) m' (upd H4 acc (.lst (xs ++ [v]))))
section
variable {X : Cx} {elt iter : Expr} {x : Str} {px pos : Pos} {sc : Scope} {fr : List (Str × Nat)} {wi : TI} {te : TE}
theorem pe_lc (hc : X.calm = true) (ok : CompOk X x sc fr) (hi : PI X (.Name x px) iter wi) (he : ∀ cl C s3 H3 fp, PE (X.blk (x :: fr.map (·.1)) sc cl C s3 H3 fp) elt te) (hs : ∀ x, foldedSetIterable iter X.env x = pure x := by intro _; rfl) :
    PE X (.ListComp elt [⟨.Name x px, iter, [], 0⟩] sc pos) (tLC fr wi te) := by
  intro pins s σ H Q I h
  obtain ⟨cl, ecl, hk, hcx⟩ := closure_of (env := X.env) (sc := sc) (fun y hy yf => I.ok.has y.1 (ok.fre y hy yf))
  rw [eval_ListComp]
  refine wpAny_comprehension_free (use := none) rfl hs ecl ok.kind ok.locs (thn (hi pins s σ H _ I h) fun v s1 h1 => thn h1 fun itv s2 h2 => ?_)
  obtain ⟨it, fp, tn, J, H2, e, I2, T, st2, f2, q⟩ := h2
  subst e
  have hacc : H2 s2.heap.objs.size = none := I2.hok.fresh (Nat.le_refl _)
  obtain ⟨W, ⟨m0, w0⟩, turn⟩ := q s2.heap.objs.size hacc
  refine wpAny_newObj_type ?_
  have I3 := I2.laid (a := s2.heap.objs.size) (o := .lst []) (h' := s2.heap.push { cls := .type "list", data := .seq ([] : List Value).toArray }) (t' := s2.toks) (fun b u e => Heap.get?_push_of_some _ e) (Nat.le_refl _) ⟨Nat.zero_le _, [], 0, .nil, Heap.get?_push_size _ rfl⟩
  refine wpAny_newFunctionEnv ok.nocell (by intro y hy; simp at hy) (fun h4 hns4 hsb4 => ?_) ok.kind
  generalize hs3 : ({ s2 with heap := s2.heap.push { cls := .type "list", data := .seq ([] : List Value).toArray } } : Shared) = s3 at *
  have keep4 : ∀ b o, s3.heap.get? b = some o → h4.get? b = some o := fun b o e => hsb4.extBut b o (Nat.ne_of_lt (Heap.lt_size e)) (Heap.get?_push_of_some _ e)
  have keep3 : ∀ b o, s2.heap.get? b = some o → s3.heap.get? b = some o := fun b o e => by rw [← hs3]; exact Heap.get?_push_of_some _ e
  have hfo : ∀ b ∈ fp, ∃ o, s3.heap.get? b = some o := fun b hb => by
    obtain ⟨o, eo, _⟩ := T.obj 0 _ st2 b hb
    exact ⟨o, keep3 b o eo⟩
  have f3 : ∀ b ∈ fp, FpOk X pins (upd H2 s2.heap.objs.size (.lst [])) b := fun b hb => by
    obtain ⟨o, eo, _⟩ := T.obj 0 _ st2 b hb
    exact ⟨by rw [upd_ne (Nat.ne_of_lt (Heap.lt_size eo))]; exact (f2 b hb).1, (f2 b hb).2⟩
  have I4 := blk_start (t4 := s3.toks + ([] : List (Str × Value)).length) ok I3 f3 hfo hk hcx ⟨_, hns4⟩ keep4
  have st4 : tn 0 h4 := T.keep 0 s2.heap h4 st2 fun b hb o e => keep4 b o (keep3 b o e)
  have stat : ∀ {H' : Hp}, (∀ b ∈ fp, H' b = none) → ∀ b ∈ fp, FpOk (X.blk (x :: fr.map (·.1)) sc cl s3.heap.objs.size s3 (upd H2 s2.heap.objs.size (.lst [])) fp) [] H' b := fun hn b hb =>
    ⟨hn b hb, (I4.ok.exf b hb).1, I4.ok.exfs b hb, .inl hb, (I4.ok.exf b hb).2, fun p hp => nomatch hp⟩
  have lk : (relabel sc X.env).names.lookup x = some .local := lookup_relabel_local ok.tgl
  have loop : codeAny (model X.prog X.w) X.A (.compLoop (.ListComp elt [⟨.Name x px, iter, [], 0⟩] sc pos) 0 (.ref it) (.ref s2.heap.objs.size) (compEnvC sc cl s3.heap.objs.size X.env))
      (compPost (model X.prog X.w) X.A X.xe none (EP X pins σ Q) (.ref s2.heap.objs.size) s3.heap.objs.size) { s3 with heap := h4, toks := s3.toks + ([] : List (Str × Value)).length } := by
    refine comp_loop (fun n s' => ∃ i x0 H', Inv (X.blk (x :: fr.map (·.1)) sc cl s3.heap.objs.size s3 (upd H2 s2.heap.objs.size (.lst [])) fp) [] (x0 :: inSt σ fr) H' s' ∧ tn i s'.heap ∧ (∀ b ∈ fp, H' b = none) ∧ W i n H') ?_ m0
      ⟨0, none, _, I4, st4, fun b hb => (f3 b hb).1, w0⟩
    rintro n s5 ⟨i, x0, H5, I5, st5, fr5, w5⟩
    rcases turn i n H5 w5 with ⟨stop, qq⟩ | ⟨go, step⟩
    · refine thn (T.done (X.blk (x :: fr.map (·.1)) sc cl s3.heap.objs.size s3 (upd H2 s2.heap.objs.size (.lst [])) fp) rfl rfl rfl hc i [] s5 _ H5 _ I5 (stat fr5) st5 stop) fun r s6 ⟨hr, I6⟩ => ?_
      subst hr
      obtain ⟨m6, hn6, _⟩ := I6.loc
      refine ⟨m6, hn6, fun h7 hsb7 => ?_⟩
      have ne : ∀ b o, s3.heap.get? b = some o → b ≠ s3.heap.objs.size := fun b o e => Nat.ne_of_lt (Heap.lt_size e)
      have u6 : Un (frs X.stack) fp (upd H2 s2.heap.objs.size (.lst [])) H5 s3.heap s6.heap := I6.base
      have u7 : Un (frs X.stack) fp (upd H2 s2.heap.objs.size (.lst [])) H5 s3.heap h7 := {
        keep := fun b o e n hb hx => hsb7.extBut b o (ne b o e) (u6.keep b o e n hb hx)
        slot := fun b o e n hb hx => by
          obtain ⟨sl, e1⟩ := u6.slot b o e n hb hx
          exact ⟨sl, hsb7.extBut b _ (ne b o e) e1⟩
        free := u6.free
        there := fun b o e hx => by
          obtain ⟨o', e1⟩ := u6.there b o e hx
          exact ⟨o', hsb7.extBut b _ (ne b o e) e1⟩
        tups := u6.tups
        frzs := u6.frzs
        tbls := u6.tbls }
      have hok7 : HOk X.prog X.w H5 h7 := fun b u eu => (I6.hok b u eu).stay (fun c v hcx q => hsb7.extBut c v (fun z => by
        have nf := I6.free
        have z' : H5 s3.heap.objs.size = none := nf
        rw [← z] at z'
        rcases hcx with y | y
        · rw [y, eu] at z'; cases z'
        · rw [y] at z'; cases z') q) (fun _ q => q) fun _ _ q => q
      have os6 : s6.os = s3.os := I6.os
      have bare6 := I6.bare
      obtain ⟨hh, g, d, t, os'⟩ := s6
      obtain rfl : os' = s3.os := os6
      refine ⟨.ref s2.heap.objs.size, H5, ?_, rfl, qq⟩
      show Inv X pins σ H5 { s3 with heap := h7, gens := g, drawn := d, toks := t }
      exact I3.call (h' := h7) (g' := g) (d' := d) (t' := t) (ch := fp) u7 hok7 bare6 fun b hb => ⟨(f3 b hb).2.2.2.1, (f3 b hb).2.1, (f3 b hb).2.2.2.2.1, (f3 b hb).2.2.2.2.2⟩
    · refine thn (T.item (X.blk (x :: fr.map (·.1)) sc cl s3.heap.objs.size s3 (upd H2 s2.heap.objs.size (.lst [])) fp) rfl rfl rfl hc i [] s5 _ H5 _ I5 (stat fr5) st5 go) fun r s6 ⟨u, hr, h6⟩ => ?_
      subst hr
      refine thn h6 fun _ s7 ⟨y, H7, I7, r7, y7, st7, fr7⟩ => ?_
      have I7' := I7.pinned (stat fr7) (T.obj _ _ st7)
      refine wpAny_mono (pg_name (X := X.blk (x :: fr.map (·.1)) sc cl s3.heap.objs.size s3 (upd H2 s2.heap.objs.size (.lst [])) fp) (i := 0) (pos := px) ok.nd rfl (Or.inl lk) (.inr lk) _ s7 _ H7 y u (fun σ' H' => σ' = some y :: inSt σ fr ∧ H' = H7) I7' r7 ⟨rfl, rfl⟩) (fun _ s8 z => ?_) (fun e s z => (show False from z).elim)
      obtain ⟨σ8, H8, I8, e8, e8'⟩ := z
      subst e8 e8'
      refine wpAny_mono (he cl s3.heap.objs.size s3 (upd H2 s2.heap.objs.size (.lst [])) fp _ s8 _ H8 _ I8 (step y H8 y7)) (fun v s9 z => ?_) (fun e s z => (show False from z).elim)
      obtain ⟨z, H9, I9, r9, xs, m', ha, hl, hm, w9⟩ := z
      refine wpAny_mono (mt_append (X := X.blk (x :: fr.map (·.1)) sc cl s3.heap.objs.size s3 (upd H2 s2.heap.objs.size (.lst [])) fp) _ s9 _ H9 (.ref s2.heap.objs.size) [z] (.ref s2.heap.objs.size) [v] (fun _ H' => H' = upd H9 s2.heap.objs.size (.lst (xs ++ [z]))) I9 rfl (.cons r9 .nil) ⟨_, xs, z, rfl, rfl, ha, hl, rfl⟩) (fun _ s10 z => ?_) (fun e s z => (show False from z).elim)
      obtain ⟨_, H10, I10, _, e10⟩ := z
      subst e10
      refine ⟨m', hm, i + 1, some y, _, I10.unpinned, T.keep _ _ _ st7 fun b hb o e => (I10.pin (b, o) (List.mem_append_right _ (List.mem_append_right _ (mem_pinsAt hb e)))).1, fun b hb => ?_, w9⟩
      obtain ⟨o, e, d⟩ := T.obj _ _ st7 b hb
      exact (I10.pin (b, o) (List.mem_append_right _ (List.mem_append_right _ (mem_pinsAt hb e)))).2.1
  exact codeAny_compStart_list loop (T.self X.A 0 _ _ _ st4 loop)
end
end L2
namespace L2
open PySem PySem.Spec PyProof.Rows
section
variable {X : Cx}
theorem ints_at {vs : List Value} {ns : List Int} (h : IntsAre vs ns) : ∀ {j : Nat} {v : Value}, vs[j]? = some v → ∃ n t, ns[j]? = some n ∧ v = .int n t := by
  induction h with
  | nil => intro j v e; simp at e
  | cons n t h ih =>
    intro j v e
    cases j with
    | zero => exact ⟨n, t, rfl, (Option.some.inj e).symm⟩
    | succ j => exact ih e
theorem tup_all {ns ms : List Int} {e : Nat → Bool} (he : ∀ j, j < ns.length → j < ms.length → e j = decide (ns[j]? = ms[j]?)) : ((List.range (min ns.length ms.length)).all e && ns.length == ms.length) = decide (ns = ms) := by
  by_cases h : ns = ms
  · subst h
    rw [decide_eq_true rfl, Nat.min_self, beq_self_eq_true, Bool.and_true, List.all_eq_true]
    intro j hj
    have := List.mem_range.mp hj
    rw [he j this this, decide_eq_true rfl]
  · rw [decide_eq_false h]
    by_cases hl : ns.length = ms.length
    · rw [hl, Nat.min_self, beq_self_eq_true, Bool.and_true, Bool.eq_false_iff]
      intro z
      rw [List.all_eq_true] at z
      apply h
      apply List.ext_getElem? 
      intro j
      by_cases hj : j < ms.length
      · have q := z j (List.mem_range.mpr hj)
        rw [he j (by omega) hj] at q
        exact of_decide_eq_true q
      · rw [List.getElem?_eq_none (by omega), List.getElem?_eq_none (by omega)]
    · have : (ns.length == ms.length) = false := by simpa using hl
      rw [this, Bool.and_false]
def rEqT (K : Fg) (f : Bool → Bool) : R2 := fun x y H Q => ∃ (a b : Addr) (ns ms : List Int), x = .ref a ∧ y = .ref b ∧ SqT K H a (ns.map V.int) ∧ SqT K H b (ms.map V.int) ∧ Q (.bl (f (decide (ns = ms)))) H
end
def tSetLC (iy : Nat) (fr : List (Str × Nat)) (wi : TI) (te : TE) : TS := fun D σ H => tLC fr wi te σ H fun v H' => D.nx (σ.set iy (some v)) H'
section
variable {X : Cx} {elt iter : Expr} {x : Str} {px pos : Pos} {sc : Scope} {fr : List (Str × Nat)} {wi : TI} {te : TE}
theorem ps_setLC {y : Str} {py spos : Pos} {iy : Nat} (hN : X.N.Nodup) (hi' : X.N[iy]? = some y) (hy : Loc X.env.scope y) (hc : X.calm = true) (ok : CompOk X x sc fr) (hi : PI X (.Name x px) iter wi) (he : ∀ cl C s3 H3 fp, PE (X.blk (x :: fr.map (·.1)) sc cl C s3 H3 fp) elt te) (hs : ∀ x, foldedSetIterable iter X.env x = pure x := by intro _; rfl)
    (hsw : swapsWith (.ListComp elt [⟨.Name x px, iter, [], 0⟩] sc pos) (some (.Name y py)) spos.line X.env = pure true := by rfl) (hfn : X.fn y = true ∨ X.env.scope.names.lookup y = some .local := by first | exact .inl rfl | exact .inr rfl | assumption) :
    PS X (.Assign [.Name y py] (.ListComp elt [⟨.Name x px, iter, [], 0⟩] sc pos) spos) (tSetLC iy fr wi te) := by
  intro pins s σ H D I h
  obtain ⟨cl, ecl, hk, hcx⟩ := closure_of (env := X.env) (sc := sc) (fun y hy yf => I.ok.has y.1 (ok.fre y hy yf))
  rw [exec_Assign_Name_used _ _ _ _ hsw]
  refine wpAny_bind (wpAny_standAt (wpAny_bind ?_))
  show wpAny _ X.A (do let _ ← comprehension (.ListComp elt [⟨.Name x px, iter, [], 0⟩] sc pos) sc X.env _ (newList []) false (eval iter X.env) (some (assign (.Name y py) X.env))) _ _ s
  refine wpAny_bind (wpAny_mono (wpAny_comprehension_free (use := some (assign (.Name y py) X.env)) (Q := fun _ s' => SP X pins D .next s') rfl hs ecl ok.kind ok.locs ?_) (fun _ s' z => wpAny_pure (wpAny_pure z)) fun _ _ z => z)
  refine (thn (hi pins s σ H _ I h) fun v s1 h1 => thn h1 fun itv s2 h2 => ?_)
  obtain ⟨it, fp, tn, J, H2, e, I2, T, st2, f2, q⟩ := h2
  subst e
  have hacc : H2 s2.heap.objs.size = none := I2.hok.fresh (Nat.le_refl _)
  obtain ⟨W, ⟨m0, w0⟩, turn⟩ := q s2.heap.objs.size hacc
  refine wpAny_newObj_type ?_
  have I3 := I2.laid (a := s2.heap.objs.size) (o := .lst []) (h' := s2.heap.push { cls := .type "list", data := .seq ([] : List Value).toArray }) (t' := s2.toks) (fun b u e => Heap.get?_push_of_some _ e) (Nat.le_refl _) ⟨Nat.zero_le _, [], 0, .nil, Heap.get?_push_size _ rfl⟩
  refine wpAny_newFunctionEnv ok.nocell (by intro y hy; simp at hy) (fun h4 hns4 hsb4 => ?_) ok.kind
  generalize hs3 : ({ s2 with heap := s2.heap.push { cls := .type "list", data := .seq ([] : List Value).toArray } } : Shared) = s3 at *
  have keep4 : ∀ b o, s3.heap.get? b = some o → h4.get? b = some o := fun b o e => hsb4.extBut b o (Nat.ne_of_lt (Heap.lt_size e)) (Heap.get?_push_of_some _ e)
  have keep3 : ∀ b o, s2.heap.get? b = some o → s3.heap.get? b = some o := fun b o e => by rw [← hs3]; exact Heap.get?_push_of_some _ e
  have hfo : ∀ b ∈ fp, ∃ o, s3.heap.get? b = some o := fun b hb => by
    obtain ⟨o, eo, _⟩ := T.obj 0 _ st2 b hb
    exact ⟨o, keep3 b o eo⟩
  have f3 : ∀ b ∈ fp, FpOk X pins (upd H2 s2.heap.objs.size (.lst [])) b := fun b hb => by
    obtain ⟨o, eo, _⟩ := T.obj 0 _ st2 b hb
    exact ⟨by rw [upd_ne (Nat.ne_of_lt (Heap.lt_size eo))]; exact (f2 b hb).1, (f2 b hb).2⟩
  have I4 := blk_start (t4 := s3.toks + ([] : List (Str × Value)).length) ok I3 f3 hfo hk hcx ⟨_, hns4⟩ keep4
  have st4 : tn 0 h4 := T.keep 0 s2.heap h4 st2 fun b hb o e => keep4 b o (keep3 b o e)
  have stat : ∀ {H' : Hp}, (∀ b ∈ fp, H' b = none) → ∀ b ∈ fp, FpOk (X.blk (x :: fr.map (·.1)) sc cl s3.heap.objs.size s3 (upd H2 s2.heap.objs.size (.lst [])) fp) [] H' b := fun hn b hb =>
    ⟨hn b hb, (I4.ok.exf b hb).1, I4.ok.exfs b hb, .inl hb, (I4.ok.exf b hb).2, fun p hp => nomatch hp⟩
  have lk : (relabel sc X.env).names.lookup x = some .local := lookup_relabel_local ok.tgl
  have loop : codeAny (model X.prog X.w) X.A (.compLoop (.ListComp elt [⟨.Name x px, iter, [], 0⟩] sc pos) 0 (.ref it) (.ref s2.heap.objs.size) (compEnvC sc cl s3.heap.objs.size X.env))
      (compPost (model X.prog X.w) X.A X.xe (some (assign (.Name y py) X.env)) (fun _ s' => SP X pins D .next s') (.ref s2.heap.objs.size) s3.heap.objs.size) { s3 with heap := h4, toks := s3.toks + ([] : List (Str × Value)).length } := by
    refine comp_loop (fun n s' => ∃ i x0 H', Inv (X.blk (x :: fr.map (·.1)) sc cl s3.heap.objs.size s3 (upd H2 s2.heap.objs.size (.lst [])) fp) [] (x0 :: inSt σ fr) H' s' ∧ tn i s'.heap ∧ (∀ b ∈ fp, H' b = none) ∧ W i n H') ?_ m0
      ⟨0, none, _, I4, st4, fun b hb => (f3 b hb).1, w0⟩
    rintro n s5 ⟨i, x0, H5, I5, st5, fr5, w5⟩
    rcases turn i n H5 w5 with ⟨stop, qq⟩ | ⟨go, step⟩
    · refine thn (T.done (X.blk (x :: fr.map (·.1)) sc cl s3.heap.objs.size s3 (upd H2 s2.heap.objs.size (.lst [])) fp) rfl rfl rfl hc i [] s5 _ H5 _ I5 (stat fr5) st5 stop) fun r s6 ⟨hr, I6⟩ => ?_
      subst hr
      obtain ⟨m6, hn6, _⟩ := I6.loc
      have u6 : Un (frs X.stack) fp (upd H2 s2.heap.objs.size (.lst [])) H5 s3.heap s6.heap := I6.base
      have hok6 : HOk X.prog X.w H5 s6.heap := I6.hok
      have os6 : s6.os = s3.os := I6.os
      have bare6 := I6.bare
      have free6 : H5 s3.heap.objs.size = none := I6.free
      have IX : Inv X pins σ H5 s6 := by
        obtain ⟨hh, g, d, t, os'⟩ := s6
        obtain rfl : os' = s3.os := os6
        show Inv X pins σ H5 { s3 with heap := hh, gens := g, drawn := d, toks := t }
        exact I3.call (h' := hh) (g' := g) (d' := d) (t' := t) (ch := fp) u6 hok6 bare6 fun b hb => ⟨(f3 b hb).2.2.2.1, (f3 b hb).2.1, (f3 b hb).2.2.2.2.1, (f3 b hb).2.2.2.2.2⟩
      obtain ⟨oC, es, ep, hoC, hdC, rC⟩ := hn6
      have hfC : FpOk X pins H5 s3.heap.objs.size := I3.fpOk (Nat.le_refl _) free6
      have IX' : Inv X (pins ++ [(s3.heap.objs.size, oC)]) σ H5 s6 := IX.pins_of fun p hp => by
        rcases List.mem_append.mp hp with z | z
        · exact IX.pin p (List.mem_append_right _ z)
        · have z' := List.mem_singleton.mp z
          subst z'
          exact ⟨hoC, free6, hfC.2.1, hfC.2.2.1, fun v z => by
            have z2 : oC.data = .cell v := z
            rw [hdC] at z2; cases z2⟩
      refine thn (pg_name (X := X) (i := iy) (pos := py) hN hi' hy hfn _ s6 σ H5 (.ref s2.heap.objs.size) (.ref s2.heap.objs.size) (fun σ' H' => σ' = σ.set iy (some (.ref s2.heap.objs.size)) ∧ H' = H5) IX' rfl ⟨rfl, rfl⟩) fun _ s7 z => ?_
      obtain ⟨σ7, H7, I7, e7, e7'⟩ := z
      subst e7 e7'
      have pC := I7.pin (s3.heap.objs.size, oC) (List.mem_append_right _ (List.mem_append_right _ (List.mem_singleton.mpr rfl)))
      refine ⟨m6, ⟨oC, es, ep, pC.1, hdC, rC⟩, fun h8 hsb8 => ?_⟩
      have I7u : Inv X pins (σ.set iy (some (.ref s2.heap.objs.size))) H7 s7 := I7.unpinned
      refine ⟨_, H7, ?_, qq⟩
      exact I7u.turned (it := s3.heap.objs.size) (t' := s7.toks) (fun b o hb e => hsb8.extBut b o hb e) free6 hfC.2.1 hfC.2.2.2.1 hfC.2.2.2.2.1 hfC.2.2.2.2.2
    · refine thn (T.item (X.blk (x :: fr.map (·.1)) sc cl s3.heap.objs.size s3 (upd H2 s2.heap.objs.size (.lst [])) fp) rfl rfl rfl hc i [] s5 _ H5 _ I5 (stat fr5) st5 go) fun r s6 ⟨u, hr, h6⟩ => ?_
      subst hr
      refine thn h6 fun _ s7 ⟨y, H7, I7, r7, y7, st7, fr7⟩ => ?_
      have I7' := I7.pinned (stat fr7) (T.obj _ _ st7)
      refine wpAny_mono (pg_name (X := X.blk (x :: fr.map (·.1)) sc cl s3.heap.objs.size s3 (upd H2 s2.heap.objs.size (.lst [])) fp) (i := 0) (pos := px) ok.nd rfl (Or.inl lk) (.inr lk) _ s7 _ H7 y u (fun σ' H' => σ' = some y :: inSt σ fr ∧ H' = H7) I7' r7 ⟨rfl, rfl⟩) (fun _ s8 z => ?_) (fun e s z => (show False from z).elim)
      obtain ⟨σ8, H8, I8, e8, e8'⟩ := z
      subst e8 e8'
      refine wpAny_mono (he cl s3.heap.objs.size s3 (upd H2 s2.heap.objs.size (.lst [])) fp _ s8 _ H8 _ I8 (step y H8 y7)) (fun v s9 z => ?_) (fun e s z => (show False from z).elim)
      obtain ⟨z, H9, I9, r9, xs, m', ha, hl, hm, w9⟩ := z
      refine wpAny_mono (mt_append (X := X.blk (x :: fr.map (·.1)) sc cl s3.heap.objs.size s3 (upd H2 s2.heap.objs.size (.lst [])) fp) _ s9 _ H9 (.ref s2.heap.objs.size) [z] (.ref s2.heap.objs.size) [v] (fun _ H' => H' = upd H9 s2.heap.objs.size (.lst (xs ++ [z]))) I9 rfl (.cons r9 .nil) ⟨_, xs, z, rfl, rfl, ha, hl, rfl⟩) (fun _ s10 z => ?_) (fun e s z => (show False from z).elim)
      obtain ⟨_, H10, I10, _, e10⟩ := z
      subst e10
      refine ⟨m', hm, i + 1, some y, _, I10.unpinned, T.keep _ _ _ st7 fun b hb o e => (I10.pin (b, o) (List.mem_append_right _ (List.mem_append_right _ (mem_pinsAt hb e)))).1, fun b hb => ?_, w9⟩
      obtain ⟨o, e, d⟩ := T.obj _ _ st7 b hb
      exact (I10.pin (b, o) (List.mem_append_right _ (List.mem_append_right _ (mem_pinsAt hb e)))).2.1
  exact codeAny_compStart_list loop (T.self X.A 0 _ _ _ st4 loop)
end
end L2
namespace L2
open PySem PySem.Spec PyProof.Rows
def compOkB (osc : Scope) (N : List Str) (tg : Str) (sc : Scope) (fr : List (Str × Nat)) : Bool :=
  decide (sc.kind = .function) && (sc.names.all fun y => decide (y.2 ≠ .cell)) && (sc.names.all fun y => decide (y.2 ≠ .local) || decide (sc.names.lookup y.1 = some .local)) && decide (sc.names.lookup tg = some .local) &&
  (sc.names.all fun y => decide (y.2 ≠ .free) || decide (osc.names.lookup y.1 = some .cell) || decide (osc.names.lookup y.1 = some .free)) && decide ((tg :: fr.map (·.1)).Nodup) &&
  (fr.all fun p => decide (N[p.2]? = some p.1) && (decide (osc.names.lookup p.1 = some .cell) || decide (osc.names.lookup p.1 = some .free)) && decide (sc.names.lookup p.1 = some .free))
theorem compOk_of {X : Cx} {tg : Str} {sc : Scope} {fr : List (Str × Nat)} {osc : Scope} {N : List Str} (ho : X.env.scope = osc) (hN : X.N = N) (h : compOkB osc N tg sc fr = true) : CompOk X tg sc fr := by
  subst ho hN
  unfold compOkB at h
  simp only [Bool.and_eq_true, decide_eq_true_eq, List.all_eq_true, Bool.or_eq_true] at h
  obtain ⟨⟨⟨⟨⟨⟨h1, h2⟩, h3⟩, h4⟩, h5⟩, h6⟩, h7⟩ := h
  refine ⟨h1, h2, fun y hy e => ?_, h4, fun y hy e => ?_, h6, fun p hp => ?_⟩
  · rcases h3 y hy with z | z
    · exact absurd e z
    · exact z
  · rcases h5 y hy with (z | z) | z
    · exact absurd e z
    · exact .inl z
    · exact .inr z
  · obtain ⟨⟨a, b⟩, c⟩ := h7 p hp
    exact ⟨a, b, c⟩
end L2
namespace L2
open PySem
end L2
namespace L2
open PySem
end L2
namespace L2
open PySem
end L2
namespace L2
open PySem PySem.Spec PyProof.Rows
section
variable {prog : Program} {w : World} {A : Around} {R : Result → Shared → Prop} {s : Shared}
abbrev testsOf (ifs : List Expr) (env : Env) : Sem Bool := forIn ifs true fun c r => if r = true then do let ok ← isTrue c env (eval c env); pure (ForInStep.yield ok) else pure (ForInStep.yield r)
theorem comp_loopG {elt tg iter : Expr} {ifs : List Expr} {scope : Scope} {pos : Pos} {itv acc : Value} {env : Env} (J : Nat → Shared → Prop)
    (turn : ∀ n s, J n s → wpAny (model prog w) A (pyNext itv) (fun r s1 => match r with
      | none => R (.ok .next) s1
      | some v => wpAny (model prog w) A (letOwnedTupleGo tg itv v) (fun _ s2 => wpAny (model prog w) A (assign tg env v) (fun _ s3 => wpAny (model prog w) A (testsOf ifs env) (fun ok s4 =>
          if ok = true then wpAny (model prog w) A (eval elt env) (fun x s5 => wpAny (model prog w) A (call (.builtin "list.append") [acc, x]) (fun _ s6 => ∃ m, m < n ∧ J m s6) (NB prog w A env R) s5) (NB prog w A env R) s4
          else ∃ m, m < n ∧ J m s4) (NB prog w A env R) s3) (NB prog w A env R) s2) (NB prog w A env R) s1) (NB prog w A env R) s)
    (n : Nat) (h : J n s) : codeAny (model prog w) A (.compLoop (.ListComp elt [⟨tg, iter, ifs, 0⟩] scope pos) 0 itv acc env) R s := by
  refine codeAny_loop rfl J (fun n s hJ => ?_) n h
  show wpAny _ _ ((compTurn (.ListComp elt [⟨tg, iter, ifs, 0⟩] scope pos) 0 itv acc env).onRaise (fun x => do noteFrame x env; theTreesLotGoes x)) _ _ s
  refine wpAny_noted ?_
  rw [compTurn_list]
  refine wpAny_bind (wpAny_standAt (wpAny_bind (wpAny_mono (turn n s hJ) (fun r s1 z => ?_) fun _ _ q => q)))
  match r, z with
  | none, z => exact wpAny_pure z
  | some v, z =>
    refine wpAny_bind (wpAny_mono z (fun _ s2 z => wpAny_bind (wpAny_mono z (fun _ s3 z => wpAny_bind (wpAny_mono z (fun ok s4 z => ?_) fun _ _ q => q)) fun _ _ q => q)) fun _ _ q => q)
    cases ok with
    | true =>
      have z' := (if_pos rfl).mp z
      exact wpAny_bind (wpAny_bind (wpAny_mono z' (fun x s5 z => wpAny_bind (wpAny_mono z (fun _ s6 z => wpAny_pure (wpAny_pure ⟨rfl, z⟩)) fun _ _ q => q)) fun _ _ q => q))
    | false =>
      have z' := (if_neg Bool.false_ne_true).mp z
      exact wpAny_bind (wpAny_pure (wpAny_pure ⟨rfl, z'⟩))
end
structure CompOkG (X : Cx) (tgs : List Str) (sc : Scope) (fr : List (Str × Nat)) : Prop where
  kind : sc.kind = .function
  nocell : ∀ y ∈ sc.names, y.2 ≠ .cell
  locs : ∀ y ∈ sc.names, y.2 = .local → sc.names.lookup y.1 = some .local
  fre : ∀ y ∈ sc.names, y.2 = .free → X.env.scope.names.lookup y.1 = some .cell ∨ X.env.scope.names.lookup y.1 = some .free
  nd : (tgs ++ fr.map (·.1)).Nodup
  vis : ∀ p ∈ fr, X.N[p.2]? = some p.1 ∧ (X.env.scope.names.lookup p.1 = some .cell ∨ X.env.scope.names.lookup p.1 = some .free) ∧ sc.names.lookup p.1 = some .free
def PIF (X : Cx) (ifs : List Expr) (t : TT) : Prop :=
  ∀ (pins : Pn) (s : Shared) (σ : St) (H : Hp) (Q : Bool → Hp → Prop), Inv X pins σ H s → t σ H Q → wpAny (model X.prog X.w) X.A (testsOf ifs X.env) (TP X pins σ Q) X.xe s
def tYes : TT := fun _ H Q => Q true H
theorem pif_nil {X : Cx} : PIF X [] tYes := fun _ _ _ H _ I h => wpAny_tests_nil ⟨H, I, h⟩
theorem pif_one {X : Cx} {c : Expr} {t : TT} (h : PT X c t) : PIF X [c] t := fun pins s σ H Q I q => wpAny_tests_one (h pins s σ H Q I q)
section
variable {X : Cx} {pins : Pn} {σ : St} {H : Hp} {s3 s4 : Shared} {tgs : List Str} {sc : Scope} {fr : List (Str × Nat)} {fp : List Addr} {cl : List (Str × Addr)}
theorem blk_startG (ok : CompOkG X tgs sc fr) (I : Inv X pins σ H s3) (hf : ∀ b ∈ fp, FpOk X pins H b) (hfo : ∀ b ∈ fp, ∃ o, s3.heap.get? b = some o) (hk : ∀ x c, cl.lookup x = some c → X.env.cells.lookup x = some c) (hc : ∀ y ∈ sc.names, y.2 = .free → ∃ c, cl.lookup y.1 = some c)
    {h4 : Heap} {t4 : Nat} (hns : ∃ m, h4.Ns s3.heap.objs.size m) (hkeep : ∀ b o, s3.heap.get? b = some o → h4.get? b = some o) :
    Inv (X.blk (tgs ++ fr.map (·.1)) sc cl s3.heap.objs.size s3 H fp) [] (List.replicate tgs.length none ++ inSt σ fr) H { s3 with heap := h4, toks := t4 } := by
  have hasc : ∀ x, ((relabel sc X.env).names.lookup x = some .cell ∨ (relabel sc X.env).names.lookup x = some .free) → ∃ c, cl.lookup x = some c := fun x hx => by
    obtain ⟨y, h1, h2, h3⟩ : ∃ y ∈ sc.names, y.1 = x ∧ y.2 = .free := by
      rcases hx with z | z
      · exact relabel_free ok.nocell (.inl rfl) z
      · exact relabel_free ok.nocell (.inr rfl) z
    subst h2
    exact hc y h1 h3
  have cell4 : ∀ x c, cl.lookup x = some c → ∀ v, s3.heap.IsCell c v → h4.IsCell c v := fun x c _ v ⟨o, ho, hd⟩ => ⟨o, hkeep c o ho, hd⟩
  have fresh : H s3.heap.objs.size = none := I.hok.fresh (Nat.le_refl _)
  refine ⟨⟨I.mod, ok.kind, I.ok.glob, I.ok.blt, Nat.le_refl _, fun x y c e1 e2 => I.ok.inj x y c (hk x c e1) (hk y c e2), hasc, (fun x c e => nomatch e), I.ok.hd, I.ok.frames, .inl rfl, fun b hb => ?_, I.bs, Nat.le_trans I.ok.bsz I.sz, fun b o e hb => ?_, fun b hb z => ?_, I.stack, I.stkFree⟩,
    rfl, I.bare, Un.kept hkeep, ?_, fun x c e => ?_, fresh, fun x c e => I.freeC x c (hk x c e), (fun p hp => nomatch hp), I.hok.kept hkeep, ?_⟩
  · obtain ⟨f0, f1, f2, f3, f4, f5⟩ := hf b hb
    refine ⟨fun z => ?_, fun x c e => f4 x c (hk x c e)⟩
    obtain ⟨o, eo⟩ := hfo b hb
    have z' : b = s3.heap.objs.size := z
    rw [z'] at eo
    exact absurd (Heap.lt_size eo) (Nat.lt_irrefl _)
  · obtain ⟨f0, f1, f2, f3, f4, f5⟩ := hf b hb
    rcases f3 with z | z
    · exact I.ok.noex b o e z
    · exact absurd (Nat.lt_of_lt_of_le (Nat.lt_of_lt_of_le (Heap.lt_size e) I.ok.bsz) z) (Nat.lt_irrefl _)
  · obtain ⟨f0, f1, f2, f3, f4, f5⟩ := hf b hb
    rcases List.mem_cons.mp (I.stkSub b z) with q | q
    · exact f1 q
    · exact f2 q
  · obtain ⟨m, hn⟩ := hns
    obtain ⟨m0, _, hl0⟩ := I.loc
    refine ⟨m, hn, fun i x v e1 e2 _ => ?_⟩
    have hge : tgs.length ≤ i := by
      rcases Nat.lt_or_ge i tgs.length with z | z
      · rw [List.getElem?_append_left (by rw [List.length_replicate]; exact z), List.getElem?_replicate, if_pos z] at e2
        cases e2
      · exact z
    have e1x : (tgs ++ fr.map (·.1))[i]? = some x := e1
    rw [List.getElem?_append_right hge] at e1x
    rw [List.getElem?_append_right (by rw [List.length_replicate]; exact hge), List.length_replicate] at e2
    generalize i - tgs.length = i at *
    · have e2' : ((fr.map fun p => (σ[p.2]?).join))[i]? = some (some v) := e2
      have e1' : (fr.map (·.1))[i]? = some x := e1x
      rw [List.getElem?_map] at e1' e2'
      cases q : fr[i]? with
      | none => rw [q] at e1'; cases e1'
      | some p =>
        rw [q] at e1' e2'
        have ex : p.1 = x := Option.some.inj e1'
        have ev : (σ[p.2]?).join = some v := Option.some.inj e2'
        obtain ⟨g1, g2, g3⟩ := ok.vis p (List.mem_of_getElem? q)
        have ev' : σ[p.2]? = some (some v) := by
          cases z : σ[p.2]? with
          | none => rw [z] at ev; cases ev
          | some w => rw [z] at ev; exact congrArg some ev
        have gv : Vis X.env.scope p.1 := g2.elim (fun z => .inr (.inl z)) fun z => .inr (.inr z)
        obtain ⟨u, ru, lk⟩ := hl0 p.2 p.1 v g1 ev' gv
        subst ex
        refine ⟨u, ru, .inr ⟨relabel_seen g3, ?_⟩⟩
        rcases lk with ⟨k1, _⟩ | ⟨_, c, ec, hcell⟩
        · rcases g2 with z | z
          · have k2 : X.env.scope.names.lookup p.1 = some .local := k1
            rw [z] at k2; cases k2
          · have k2 : X.env.scope.names.lookup p.1 = some .local := k1
            rw [z] at k2; cases k2
        · obtain ⟨c', ec'⟩ := hasc p.1 (relabel_seen g3)
          have e3 := hk _ _ ec'
          rw [ec] at e3
          cases e3
          exact ⟨c, ec', cell4 _ c ec' _ hcell⟩
  · obtain ⟨v, z⟩ := I.cell x c (hk x c e)
    exact ⟨v, cell4 x c e v z⟩
  · show (List.replicate tgs.length none ++ inSt σ fr).length = (tgs ++ fr.map (·.1)).length
    simp [inSt]
end
def tLCG (k : Nat) (fr : List (Str × Nat)) (wi : TI) (g : TG) (tc : TT) (te : TE) : TE := fun σ H Q => wi σ H fun J H1 => ∀ acc, H1 acc = none → ∃ W : Nat → Nat → St → Hp → Prop, (∃ m, W 0 m (List.replicate k none ++ inSt σ fr) (upd H1 acc (.lst []))) ∧ ∀ i m σb H2, W i m σb H2 →
  (J.stop i H2 ∧ Q (.ref acc) H2) ∨ (J.go i H2 ∧ ∀ x H3, J.yld i H2 x H3 → g x σb H3 fun σ2 H4 => tc σ2 H4 fun b H5 =>
    if b = true then te σ2 H5 fun v H6 => ∃ xs m', H6 acc = some (.lst xs) ∧ xs.length < sizeLine ∧ m' < m ∧ W (i + 1) m' σ2 (upd H6 acc (.lst (xs ++ [v]))) else ∃ m', m' < m ∧ W (i + 1) m' σ2 H5)
section
variable {X : Cx} {elt iter tg : Expr} {ifs : List Expr} {tgs : List Str} {pos : Pos} {sc : Scope} {fr : List (Str × Nat)} {wi : TI} {te : TE} {g : TG} {tc : TT}
theorem pe_lcG (hc : X.calm = true) (ok : CompOkG X tgs sc fr) (hi : PI X tg iter wi) (hg : ∀ cl C s3 H3 fp, PG (X.blk (tgs ++ fr.map (·.1)) sc cl C s3 H3 fp) tg g) (ht : ∀ cl C s3 H3 fp, PIF (X.blk (tgs ++ fr.map (·.1)) sc cl C s3 H3 fp) ifs tc) (he : ∀ cl C s3 H3 fp, PE (X.blk (tgs ++ fr.map (·.1)) sc cl C s3 H3 fp) elt te) (hs : ∀ x, foldedSetIterable iter X.env x = pure x := by intro _; rfl) :
    PE X (.ListComp elt [⟨tg, iter, ifs, 0⟩] sc pos) (tLCG tgs.length fr wi g tc te) := by
  intro pins s σ H Q I h
  obtain ⟨cl, ecl, hk, hcx⟩ := closure_of (env := X.env) (sc := sc) (fun y hy yf => I.ok.has y.1 (ok.fre y hy yf))
  rw [eval_ListComp]
  refine wpAny_comprehension_free (use := none) rfl hs ecl ok.kind ok.locs (thn (hi pins s σ H _ I h) fun v s1 h1 => thn h1 fun itv s2 h2 => ?_)
  obtain ⟨it, fp, tn, J, H2, e, I2, T, st2, f2, q⟩ := h2
  subst e
  have hacc : H2 s2.heap.objs.size = none := I2.hok.fresh (Nat.le_refl _)
  obtain ⟨W, ⟨m0, w0⟩, turn⟩ := q s2.heap.objs.size hacc
  refine wpAny_newObj_type ?_
  have I3 := I2.laid (a := s2.heap.objs.size) (o := .lst []) (h' := s2.heap.push { cls := .type "list", data := .seq ([] : List Value).toArray }) (t' := s2.toks) (fun b u e => Heap.get?_push_of_some _ e) (Nat.le_refl _) ⟨Nat.zero_le _, [], 0, .nil, Heap.get?_push_size _ rfl⟩
  refine wpAny_newFunctionEnv ok.nocell (by intro y hy; simp at hy) (fun h4 hns4 hsb4 => ?_) ok.kind
  generalize hs3 : ({ s2 with heap := s2.heap.push { cls := .type "list", data := .seq ([] : List Value).toArray } } : Shared) = s3 at *
  have keep4 : ∀ b o, s3.heap.get? b = some o → h4.get? b = some o := fun b o e => hsb4.extBut b o (Nat.ne_of_lt (Heap.lt_size e)) (Heap.get?_push_of_some _ e)
  have keep3 : ∀ b o, s2.heap.get? b = some o → s3.heap.get? b = some o := fun b o e => by rw [← hs3]; exact Heap.get?_push_of_some _ e
  have hfo : ∀ b ∈ fp, ∃ o, s3.heap.get? b = some o := fun b hb => by
    obtain ⟨o, eo, _⟩ := T.obj 0 _ st2 b hb
    exact ⟨o, keep3 b o eo⟩
  have f3 : ∀ b ∈ fp, FpOk X pins (upd H2 s2.heap.objs.size (.lst [])) b := fun b hb => by
    obtain ⟨o, eo, _⟩ := T.obj 0 _ st2 b hb
    exact ⟨by rw [upd_ne (Nat.ne_of_lt (Heap.lt_size eo))]; exact (f2 b hb).1, (f2 b hb).2⟩
  have I4 := blk_startG (t4 := s3.toks + ([] : List (Str × Value)).length) ok I3 f3 hfo hk hcx ⟨_, hns4⟩ keep4
  have st4 : tn 0 h4 := T.keep 0 s2.heap h4 st2 fun b hb o e => keep4 b o (keep3 b o e)
  have stat : ∀ {H' : Hp}, (∀ b ∈ fp, H' b = none) → ∀ b ∈ fp, FpOk (X.blk (tgs ++ fr.map (·.1)) sc cl s3.heap.objs.size s3 (upd H2 s2.heap.objs.size (.lst [])) fp) [] H' b := fun hn b hb =>
    ⟨hn b hb, (I4.ok.exf b hb).1, I4.ok.exfs b hb, .inl hb, (I4.ok.exf b hb).2, fun p hp => nomatch hp⟩
  have loop : codeAny (model X.prog X.w) X.A (.compLoop (.ListComp elt [⟨tg, iter, ifs, 0⟩] sc pos) 0 (.ref it) (.ref s2.heap.objs.size) (compEnvC sc cl s3.heap.objs.size X.env))
      (compPost (model X.prog X.w) X.A X.xe none (EP X pins σ Q) (.ref s2.heap.objs.size) s3.heap.objs.size) { s3 with heap := h4, toks := s3.toks + ([] : List (Str × Value)).length } := by
    refine comp_loopG (fun n s' => ∃ i σb H', Inv (X.blk (tgs ++ fr.map (·.1)) sc cl s3.heap.objs.size s3 (upd H2 s2.heap.objs.size (.lst [])) fp) [] σb H' s' ∧ tn i s'.heap ∧ (∀ b ∈ fp, H' b = none) ∧ W i n σb H') ?_ m0
      ⟨0, _, _, I4, st4, fun b hb => (f3 b hb).1, w0⟩
    rintro n s5 ⟨i, σb, H5, I5, st5, fr5, w5⟩
    rcases turn i n σb H5 w5 with ⟨stop, qq⟩ | ⟨go, step⟩
    · refine thn (T.done (X.blk (tgs ++ fr.map (·.1)) sc cl s3.heap.objs.size s3 (upd H2 s2.heap.objs.size (.lst [])) fp) rfl rfl rfl hc i [] s5 _ H5 _ I5 (stat fr5) st5 stop) fun r s6 ⟨hr, I6⟩ => ?_
      subst hr
      obtain ⟨m6, hn6, _⟩ := I6.loc
      refine ⟨m6, hn6, fun h7 hsb7 => ?_⟩
      have ne : ∀ b o, s3.heap.get? b = some o → b ≠ s3.heap.objs.size := fun b o e => Nat.ne_of_lt (Heap.lt_size e)
      have u6 : Un (frs X.stack) fp (upd H2 s2.heap.objs.size (.lst [])) H5 s3.heap s6.heap := I6.base
      have u7 : Un (frs X.stack) fp (upd H2 s2.heap.objs.size (.lst [])) H5 s3.heap h7 := {
        keep := fun b o e n hb hx => hsb7.extBut b o (ne b o e) (u6.keep b o e n hb hx)
        slot := fun b o e n hb hx => by
          obtain ⟨sl, e1⟩ := u6.slot b o e n hb hx
          exact ⟨sl, hsb7.extBut b _ (ne b o e) e1⟩
        free := u6.free
        there := fun b o e hx => by
          obtain ⟨o', e1⟩ := u6.there b o e hx
          exact ⟨o', hsb7.extBut b _ (ne b o e) e1⟩
        tups := u6.tups
        frzs := u6.frzs
        tbls := u6.tbls }
      have hok7 : HOk X.prog X.w H5 h7 := fun b u eu => (I6.hok b u eu).stay (fun c v hcx q => hsb7.extBut c v (fun z => by
        have nf := I6.free
        have z' : H5 s3.heap.objs.size = none := nf
        rw [← z] at z'
        rcases hcx with y | y
        · rw [y, eu] at z'; cases z'
        · rw [y] at z'; cases z') q) (fun _ q => q) fun _ _ q => q
      have os6 : s6.os = s3.os := I6.os
      have bare6 := I6.bare
      obtain ⟨hh, g, d, t, os'⟩ := s6
      obtain rfl : os' = s3.os := os6
      refine ⟨.ref s2.heap.objs.size, H5, ?_, rfl, qq⟩
      show Inv X pins σ H5 { s3 with heap := h7, gens := g, drawn := d, toks := t }
      exact I3.call (h' := h7) (g' := g) (d' := d) (t' := t) (ch := fp) u7 hok7 bare6 fun b hb => ⟨(f3 b hb).2.2.2.1, (f3 b hb).2.1, (f3 b hb).2.2.2.2.1, (f3 b hb).2.2.2.2.2⟩
    · refine thn (T.item (X.blk (tgs ++ fr.map (·.1)) sc cl s3.heap.objs.size s3 (upd H2 s2.heap.objs.size (.lst [])) fp) rfl rfl rfl hc i [] s5 _ H5 _ I5 (stat fr5) st5 go) fun r s6 ⟨u, hr, h6⟩ => ?_
      subst hr
      refine thn h6 fun _ s7 ⟨y, H7, I7, r7, y7, st7, fr7⟩ => ?_
      have I7' := I7.pinned (stat fr7) (T.obj _ _ st7)
      refine wpAny_mono (hg cl s3.heap.objs.size s3 (upd H2 s2.heap.objs.size (.lst [])) fp _ s7 _ H7 y u _ I7' r7 (step y H7 y7)) (fun _ s8 z => ?_) (fun e s z => (show False from z).elim)
      obtain ⟨σ8, H8, I8, q8⟩ := z
      refine wpAny_mono (ht cl s3.heap.objs.size s3 (upd H2 s2.heap.objs.size (.lst [])) fp _ s8 σ8 H8 _ I8 q8) (fun b s8' z => ?_) (fun e s z => (show False from z).elim)
      obtain ⟨H8', I8', q8'⟩ := z
      have goOn : ∀ {s10 : Shared} {H10 : Hp} {m' : Nat}, Inv (X.blk (tgs ++ fr.map (·.1)) sc cl s3.heap.objs.size s3 (upd H2 s2.heap.objs.size (.lst [])) fp) _ σ8 H10 s10 → m' < n → W (i + 1) m' σ8 H10 → ∃ m, m < n ∧ ∃ i σb H', Inv (X.blk (tgs ++ fr.map (·.1)) sc cl s3.heap.objs.size s3 (upd H2 s2.heap.objs.size (.lst [])) fp) [] σb H' s10 ∧ tn i s10.heap ∧ (∀ b ∈ fp, H' b = none) ∧ W i m σb H' := fun {s10 H10 m'} I10 hm w9 => by
        refine ⟨m', hm, i + 1, σ8, _, I10.unpinned, T.keep _ _ _ st7 fun b hb o e => (I10.pin (b, o) (List.mem_append_right _ (List.mem_append_right _ (mem_pinsAt hb e)))).1, fun b hb => ?_, w9⟩
        obtain ⟨o, e, d⟩ := T.obj _ _ st7 b hb
        exact (I10.pin (b, o) (List.mem_append_right _ (List.mem_append_right _ (mem_pinsAt hb e)))).2.1
      cases b with
      | false =>
        obtain ⟨m', hm, w9⟩ := (if_neg Bool.false_ne_true).mp q8'
        exact (if_neg Bool.false_ne_true).mpr (goOn I8' hm w9)
      | true =>
        refine (if_pos rfl).mpr ?_
        refine wpAny_mono (he cl s3.heap.objs.size s3 (upd H2 s2.heap.objs.size (.lst [])) fp _ s8' _ H8' _ I8' ((if_pos rfl).mp q8')) (fun v s9 z => ?_) (fun e s z => (show False from z).elim)
        obtain ⟨z, H9, I9, r9, xs, m', ha, hl, hm, w9⟩ := z
        refine wpAny_mono (mt_append (X := X.blk (tgs ++ fr.map (·.1)) sc cl s3.heap.objs.size s3 (upd H2 s2.heap.objs.size (.lst [])) fp) _ s9 _ H9 (.ref s2.heap.objs.size) [z] (.ref s2.heap.objs.size) [v] (fun _ H' => H' = upd H9 s2.heap.objs.size (.lst (xs ++ [z]))) I9 rfl (.cons r9 .nil) ⟨_, xs, z, rfl, rfl, ha, hl, rfl⟩) (fun _ s10 z => ?_) (fun e s z => (show False from z).elim)
        obtain ⟨_, H10, I10, _, e10⟩ := z
        subst e10
        exact goOn I10 hm w9
  exact codeAny_compStart_list loop (T.self X.A 0 _ _ _ st4 loop)
end
end L2
namespace L2
open PySem PySem.Spec PyProof.Rows
section
variable {X : Cx}
theorem op_eqT (hu : X.A.units < cLine) : OpR X (compareOp .Eq) (rEqT X.K (fun b => b)) := by
  intro pins s σ H x y v u Q I rx ry h
  obtain ⟨a, b, ns, ms, rfl, rfl, ha, hb, q⟩ := h
  cases rx
  cases ry
  obtain ⟨its, r1, p1, _⟩ := I.tuple ha
  obtain ⟨its2, r2, p2, _⟩ := I.tuple hb
  have i1 : IntsAre its ns := intsAre_of r1
  have i2 : IntsAre its2 ms := intsAre_of r2
  have l1 : its.length = ns.length := i1.length
  have l2 : its2.length = ms.length := i2.length
  have key := SeqAt.RcAt.tuples (A := X.A) (s := s) (l := a) (b := b) (items := its.toArray) (items2 := its2.toArray) (e := fun j => decide (ns[j]? = ms[j]?)) p1 p2 hu (fun j h1 h2 => by
    have h1' : j < its.length := by simpa using h1
    have h2' : j < its2.length := by simpa using h2
    obtain ⟨n, t, en, ev⟩ := ints_at i1 (List.getElem?_eq_getElem h1')
    obtain ⟨m, t', em, ew⟩ := ints_at i2 (List.getElem?_eq_getElem h2')
    have g1 : its.toArray[j] = .int n t := by rw [← ev]; simp
    have g2 : its2.toArray[j] = .int m t' := by rw [← ew]; simp
    rw [g1, g2, en, em]
    have e : decide (some n = some m) = (n == m) := by
      by_cases z : n = m
      · subst z; simp
      · simp [z]
    rw [e]
    exact SeqAt.EqAt.int_int n t m t')
  have e2 : ((List.range (min its.toArray.size its2.toArray.size)).all (fun j => decide (ns[j]? = ms[j]?)) && its.toArray.size == its2.toArray.size) = decide (ns = ms) := by
    rw [List.size_toArray, List.size_toArray, l1, l2, tup_all (fun j _ _ => rfl)]
  rw [e2] at key
  exact key _ _ _ _ ⟨.bl (decide (ns = ms)), H, I, rfl, q⟩
end
end L2
namespace My
def qv (a b : Int) : Rat := (a : Rat) / (b : Rat)
theorem cast_ne {b : Int} (h : b ≠ 0) : (b : Rat) ≠ 0 := fun z => h (Rat.intCast_inj.mp z)
theorem qv_eq {a b t m : Int} (hb : b ≠ 0) (hm : m ≠ 0) (h : a * m = t * b) : qv a b = qv t m := by
  have hb' := cast_ne hb
  have hm' := cast_ne hm
  have h' : (a : Rat) * m = t * b := by rw [← Rat.intCast_mul, ← Rat.intCast_mul, h]
  unfold qv
  grind
theorem eq_of_qv {a b t m : Int} (hb : b ≠ 0) (hm : m ≠ 0) (h : qv a b = qv t m) : a * m = t * b := by
  have hb' := cast_ne hb
  have hm' := cast_ne hm
  unfold qv at h
  refine Rat.intCast_inj.mp ?_
  rw [Rat.intCast_mul, Rat.intCast_mul]
  grind
theorem low_unique {a b c d : Int} (hb : 0 < b) (hd : 0 < d) (h1 : Int.gcd a b = 1) (h2 : Int.gcd c d = 1) (h : a * d = c * b) : a = c ∧ b = d := by
  have n : a.natAbs * d.natAbs = c.natAbs * b.natAbs := by rw [← Int.natAbs_mul, ← Int.natAbs_mul, h]
  have e1 : b.natAbs ∣ d.natAbs := by
    have q : b.natAbs ∣ a.natAbs * d.natAbs := ⟨c.natAbs, by rw [n, Nat.mul_comm]⟩
    exact Nat.Coprime.dvd_of_dvd_mul_left (Nat.Coprime.symm h1) q
  have e2 : d.natAbs ∣ b.natAbs := by
    have q : d.natAbs ∣ c.natAbs * b.natAbs := ⟨a.natAbs, by rw [← n, Nat.mul_comm]⟩
    exact Nat.Coprime.dvd_of_dvd_mul_left (Nat.Coprime.symm h2) q
  have e3 : b.natAbs = d.natAbs := Nat.dvd_antisymm e1 e2
  have e4 : b = d := by omega
  subst e4
  exact ⟨Int.eq_of_mul_eq_mul_right (by omega) h, rfl⟩
theorem qv_plus {a b c d : Int} (hb : b ≠ 0) (hd : d ≠ 0) : qv (a * d + c * b) (b * d) = qv a b + qv c d := by
  have hb' := cast_ne hb
  have hd' := cast_ne hd
  unfold qv
  rw [Rat.intCast_add, Rat.intCast_mul, Rat.intCast_mul, Rat.intCast_mul]
  grind
theorem qv_minus {a b c d : Int} (hb : b ≠ 0) (hd : d ≠ 0) : qv (a * d - c * b) (b * d) = qv a b - qv c d := by
  have hb' := cast_ne hb
  have hd' := cast_ne hd
  unfold qv
  rw [Rat.intCast_sub, Rat.intCast_mul, Rat.intCast_mul, Rat.intCast_mul]
  grind
theorem qv_times {a b c d : Int} (hb : b ≠ 0) (hd : d ≠ 0) : qv (a * c) (b * d) = qv a b * qv c d := by
  have hb' := cast_ne hb
  have hd' := cast_ne hd
  unfold qv
  rw [Rat.intCast_mul, Rat.intCast_mul]
  grind
theorem qv_over {a b c d : Int} (hb : b ≠ 0) (hd : d ≠ 0) (hc : c ≠ 0) : qv (a * d) (b * c) = qv a b / qv c d := by
  have hb' := cast_ne hb
  have hd' := cast_ne hd
  have hc' := cast_ne hc
  unfold qv
  rw [Rat.intCast_mul, Rat.intCast_mul]
  grind
theorem qv_int (a : Int) : qv a 1 = (a : Rat) := by
  unfold qv
  grind
end My
namespace My
theorem cast_pos {b : Int} (h : 0 < b) : (0 : Rat) < (b : Rat) := Rat.intCast_lt_intCast.mpr h
theorem lt_qv {a b c d : Int} (hb : 0 < b) (hd : 0 < d) : qv a b < qv c d ↔ a * d < c * b := by
  have hb' := cast_pos hb
  have hd' := cast_pos hd
  unfold qv
  rw [Rat.div_lt_iff hb', show (c : Rat) / d * b = (c * b : Rat) / d by grind, Rat.lt_div_iff hd', ← Rat.intCast_mul, ← Rat.intCast_mul]
  exact Rat.intCast_lt_intCast
theorem le_qv {a b c d : Int} (hb : 0 < b) (hd : 0 < d) : qv a b ≤ qv c d ↔ ¬ c * b < a * d := by
  rw [← lt_qv hd hb]
  exact Rat.not_lt.symm
end My
namespace My
end My
namespace My
theorem zp_pos {p : Rat} (hp : 0 < p) (E : Int) : 0 < p ^ E := by
  have hn : ∀ n : Nat, 0 < p ^ (n : Int) := fun n => by
    induction n with
    | zero => rw [show ((0 : Nat) : Int) = 0 from rfl, Rat.zpow_zero]; decide
    | succ n ih =>
      rw [show ((n + 1 : Nat) : Int) = (n : Int) + 1 by omega, Rat.zpow_add_one (by grind)]
      exact Rat.mul_pos ih hp
  rcases Int.le_total 0 E with z | z
  · rw [show E = ((E.toNat : Nat) : Int) by omega]
    exact hn _
  · rw [show E = -(((-E).toNat : Nat) : Int) by omega, Rat.zpow_neg]
    have := hn (-E).toNat
    exact Rat.inv_pos.mpr this
theorem zp_succ {p : Rat} (hp : 1 < p) (E : Int) : p ^ E < p ^ (E + 1) := by
  rw [Rat.zpow_add_one (by grind)]
  have := zp_pos (show 0 < p by grind) E
  have h : p ^ E * 1 < p ^ E * p := Rat.mul_lt_mul_of_pos_left hp this
  grind
theorem zp_le {p : Rat} (hp : 1 < p) {a b : Int} (h : a ≤ b) : p ^ a ≤ p ^ b := by
  have hn : ∀ n : Nat, p ^ a ≤ p ^ (a + (n : Int)) := fun n => by
    induction n with
    | zero => rw [show a + ((0 : Nat) : Int) = a by omega]; exact Rat.le_refl
    | succ n ih =>
      have := zp_succ hp (a + (n : Int))
      rw [show a + ((n + 1 : Nat) : Int) = a + (n : Int) + 1 by omega]
      grind
  have := hn (b - a).toNat
  rw [show a + (((b - a).toNat : Nat) : Int) = b by omega] at this
  exact this
theorem zp_exp {p : Rat} (hp : 1 < p) {a b : Int} {v : Rat} (h1 : p ^ a ≤ v) (h2 : v < p ^ b) : a < b := by
  rcases Int.lt_or_le a b with z | z
  · exact z
  · have := zp_le hp z
    grind
end My
namespace My
end My
namespace L2
open PySem PySem.Spec PyProof.Rows
def rIsN : R2 := fun x y H Q => y = .non ∧ Q (.bl (decide (x = .non))) H
def rNotN : R2 := fun x y H Q => y = .non ∧ Q (.bl (!decide (x = .non))) H
theorem op_isN' {X : Cx} : OpR X (compareOp .Is) rIsN := op_isN
theorem op_notN' {X : Cx} : OpR X (compareOp .IsNot) rNotN := op_notN
def MkT (xs : List V) (H : Hp) (Q : VK) : Prop := xs.length ≤ sizeLine ∧ ∀ p, H p = none → Q (.ref p) (upd H p (.tup xs))
def MkL (xs : List V) (H : Hp) (Q : VK) : Prop := xs.length ≤ sizeLine ∧ ∀ p, H p = none → Q (.ref p) (upd H p (.lst xs))
inductive SetTo : St → Nat → Option V → St → Prop
  | here {x : Option V} {r : St} {v : Option V} : SetTo (x :: r) 0 v (v :: r)
  | next {x : Option V} {r : St} {v : Option V} {i : Nat} {r' : St} : SetTo r i v r' → SetTo (x :: r) (i + 1) v (x :: r')
theorem SetTo.eq {σ σ' : St} {i : Nat} {v : Option V} (h : SetTo σ i v σ') : σ.set i v = σ' := by
  induction h with
  | here => rfl
  | next _ ih => rw [List.set_cons_succ, ih]
inductive GetTo : St → Nat → V → Prop
  | here {v : V} {r : St} : GetTo (some v :: r) 0 v
  | next {x : Option V} {r : St} {v : V} {i : Nat} : GetTo r i v → GetTo (x :: r) (i + 1) v
theorem GetTo.eq {σ : St} {i : Nat} {v : V} (h : GetTo σ i v) : σ[i]? = some (some v) := by
  induction h with
  | here => rfl
  | next _ ih => rw [List.getElem?_cons_succ, ih]
section
variable {σ σ' : St} {H : Hp} {Q : VK} {i j : Int} {k : Nat} {v x y : V} {te ta tb tc : TE} {t u : TS} {nx bk ct : St → Hp → Prop} {rt : VK} {c d : TT} {R : Bool → Hp → Prop} {r r' : R2} {b : Bool}
theorem z_var (h : GetTo σ k v) (q : Q v H) : tVar k σ H Q := ⟨v, h.eq, q⟩
theorem z_c (q : Q v H) : tC v σ H Q := q
theorem z_op (h : ta σ H fun x H1 => tb σ H1 fun y H2 => r x y H2 Q) : tOp r ta tb σ H Q := h
theorem z_un {r : V → Hp → VK → Prop} (h : ta σ H fun x H1 => r x H1 Q) : tUn r ta σ H Q := h
theorem z_I {C : Int → Int → Prop} {g : Int → Int → V} (hc : C i j) (q : Q (g i j) H) : rI C g (.int i) (.int j) H Q := ⟨i, j, rfl, rfl, hc, q⟩
theorem z_I0 {g : Int → Int → V} (q : Q (g i j) H) : rI0 g (.int i) (.int j) H Q := ⟨i, j, rfl, rfl, q⟩
theorem z_U {g : Int → V} (q : Q (g i) H) : rU g (.int i) H Q := ⟨i, rfl, q⟩
theorem zdec_int : decide (V.int i = V.int j) = decide (i = j) := by
  by_cases h : i = j
  · subst h; simp
  · rw [decide_eq_false h, decide_eq_false (fun z => h (V.int.inj z))]
theorem zdec_str {a b : Str} : decide (V.str a = V.str b) = decide (a = b) := by
  by_cases h : a = b
  · subst h; simp
  · rw [decide_eq_false h, decide_eq_false (fun z => h (V.str.inj z))]
theorem z_EqI (q : Q (.bl (decide (i = j))) H) : rEq (.int i) (.int j) H Q := ⟨rfl, by rw [zdec_int]; exact q⟩
theorem z_NeI (q : Q (.bl (!decide (i = j))) H) : rNe (.int i) (.int j) H Q := ⟨rfl, by rw [zdec_int]; exact q⟩
theorem z_EqS {a b : Str} (q : Q (.bl (decide (a = b))) H) : rEq (.str a) (.str b) H Q := ⟨rfl, by rw [zdec_str]; exact q⟩
theorem z_test (h : te σ H fun x H' => ∃ k, x = .bl k ∧ R k H') : tTest te σ H R := h
theorem z_tB (h : te σ H fun x H' => ∃ k, x = .bl k ∧ R k H') : tB te σ H R := h
theorem z_ebl {S : Bool → Prop} (q : S b) : ∃ k, V.bl b = .bl k ∧ S k := ⟨b, rfl, q⟩
theorem z_or (h : c σ H fun k H1 => if k = true then R true H1 else d σ H1 R) : tOr c d σ H R := h
theorem z_not (h : c σ H fun k H1 => R (!k) H1) : tNot c σ H R := h
theorem z_if (h : c σ H fun k H1 => if k = true then ta σ H1 Q else tb σ H1 Q) : tIf c ta tb σ H Q := h
theorem z_nil {S : List V → Hp → Prop} (q : S [] H) : tNil σ H S := q
theorem z_cons {S : List V → Hp → Prop} {tr : TA} (h : ta σ H fun x H1 => tr σ H1 fun xs H2 => S (x :: xs) H2) : tCons ta tr σ H S := h
theorem z_seq (h : t ⟨u ⟨nx, rt, bk, ct⟩, rt, bk, ct⟩ σ H) : tSeq t u ⟨nx, rt, bk, ct⟩ σ H := h
theorem z_next (h : nx σ H) : tNext ⟨nx, rt, bk, ct⟩ σ H := h
theorem z_drop (h : te σ H fun _ H1 => nx σ H1) : tDrop te ⟨nx, rt, bk, ct⟩ σ H := h
theorem z_ret (h : te σ H rt) : tRet te ⟨nx, rt, bk, ct⟩ σ H := h
theorem z_ifs (h : c σ H fun b H1 => if b = true then t ⟨nx, rt, bk, ct⟩ σ H1 else u ⟨nx, rt, bk, ct⟩ σ H1) : tIfS c t u ⟨nx, rt, bk, ct⟩ σ H := h
theorem z_asg {g : TG} (h : te σ H fun x H1 => g x σ H1 nx) : tAsg te g ⟨nx, rt, bk, ct⟩ σ H := h
theorem z_name {S : St → Hp → Prop} (h : SetTo σ k (some v) σ') (q : S σ' H) : gName k v σ H S := by
  show S (σ.set k (some v)) H
  rw [h.eq]; exact q
theorem z_par {i j : Nat} {tA : TA} (h : tA σ H fun vs H1 => ∃ v w, vs = [v, w] ∧ nx ((σ.set i (some v)).set j (some w)) H1) : tPar i j tA ⟨nx, rt, bk, ct⟩ σ H := h
theorem z_iteD {c A B : Prop} [Decidable c] (h1 : c → A) (h2 : ¬ c → B) : if decide c = true then A else B := by
  by_cases h : c
  · rw [decide_eq_true h]; exact iteT (h1 h)
  · rw [decide_eq_false h]; exact iteF (h2 h)
theorem z_iteNb {b : Bool} {A B : Prop} (h : if b = true then B else A) : if (!b) = true then A else B := by
  cases b with
  | true => exact iteF h
  | false => exact iteT h
theorem z_call0 {sp : Sp} {E : XK} {tA : TA} (h : tA σ H fun vs H1 => sp vs H1 Q E) : tCall sp [] E tA σ H Q := by
  unfold tCall
  simpa using h
theorem z_cb {rr : List V → Hp → VK → Prop} {tA : TA} (h : tA σ H fun vs H1 => rr vs H1 Q) : tCB rr tA σ H Q := h
theorem z_e1 {S : Int → Prop} (q : S i) : ∃ i', [V.int i] = [.int i'] ∧ S i' := ⟨i, rfl, q⟩
theorem z_tup {tA : TA} (h : tA σ H fun xs H1 => MkT xs H1 Q) : tTup tA σ H Q := h
theorem z_mkt {xs : List V} (hl : xs.length ≤ 100) (q : ∀ p H', H p = none → Same H H' → H' p = some (.tup xs) → Q (.ref p) H') : MkT xs H Q :=
  ⟨Nat.le_trans hl (by decide), fun p hp => q p _ hp (Same.new hp _) upd_same⟩
theorem z_ixT {K : Fg} {p : Addr} {xs : List V} (hs : SqT K H p xs) (ha : atI xs i = some v) (q : Q v H) : rIxT K (.ref p) (.int i) H Q := ⟨p, xs, i, v, rfl, rfl, hs, ha, q⟩
theorem z_ixL {K : Fg} {p : Addr} {xs : List V} (hs : SqL K H p xs) (ha : atI xs i = some v) (q : Q v H) : rIxL K (.ref p) (.int i) H Q := ⟨p, xs, i, v, rfl, rfl, hs, ha, q⟩
theorem z_notN (q : Q (.bl false) H) : rNotN .non .non H Q := ⟨rfl, q⟩
theorem z_notR {p : Addr} (q : Q (.bl true) H) : rNotN (.ref p) .non H Q := ⟨rfl, q⟩
theorem z_len {K : Fg} {p : Addr} {ys : List V} {S : List V → Prop} (hs : SqL K H p ys ∨ SqT K H p ys) (q : S ys) : ∃ p' ys', [V.ref p] = [V.ref p'] ∧ (SqL K H p' ys' ∨ SqT K H p' ys') ∧ S ys' := ⟨p, ys, rfl, hs, q⟩
theorem z_toB {S1 : Int → Prop} {S3 : Bool → Prop} (q : S3 b) : (∃ i', [V.bl b] = [.int i'] ∧ S1 i') ∨ ∃ k, [V.bl b] = [.bl k] ∧ S3 k := .inr ⟨b, rfl, q⟩
theorem z_lst {tA : TA} (h : tA σ H fun xs H1 => MkL xs H1 Q) : tLst tA σ H Q := h
theorem z_mkl {xs : List V} (hl : xs.length ≤ 100) (q : ∀ p H', H p = none → Same H H' → H' p = some (.lst xs) → Q (.ref p) H') : MkL xs H Q :=
  ⟨Nat.le_trans hl (by decide), fun p hp => q p _ hp (Same.new hp _) upd_same⟩
theorem z_bm {K : Fg} {T : String} {rr : V → List V → Hp → VK → Prop} {tA : TA} (h : te σ H fun x H1 => tyV K T x H1 ∧ tA σ H1 fun xs H2 => rr x xs H2 Q) : tBM K T rr te tA σ H Q := h
end
def But (l : Addr) (H H' : Hp) : Prop := ∀ b o, b ≠ l → H b = some o → H' b = some o
theorem But.upd {H : Hp} {l : Addr} {o : HO} : But l H (upd H l o) := fun b u hb q => by rw [upd_ne hb]; exact q
theorem But.tup {K : Fg} {H H' : Hp} {l a : Addr} {xs ys : List V} (e : But l H H') (hl : H l = some (.lst ys)) (h : SqT K H a xs) : SqT K H' a xs := by
  rcases h with (h | ⟨o, h⟩) | h
  · exact .inl (.inl (e _ _ (fun z => by rw [z, hl] at h; cases h) h))
  · exact .inl (.inr ⟨o, e _ _ (fun z => by rw [z, hl] at h; cases h) h⟩)
  · exact .inr h
section
variable {σ σ' : St} {H : Hp} {Q : VK}
theorem z_append {l : Addr} {xs : List V} {v : V} (h : H l = some (.lst xs)) (hl : xs.length < sizeLine) (q : ∀ H', But l H H' → H' l = some (.lst (xs ++ [v])) → Q .non H') : rAppend (.ref l) [v] H Q :=
  ⟨l, xs, v, rfl, rfl, h, hl, q _ But.upd upd_same⟩
end
section
variable {σ : St} {H : Hp} {te : TE} {tb : TS} {g : TG} {nx bk ct : St → Hp → Prop} {rt : VK} {wi : TI} {K : Fg} {a : Addr} {xs : List V}
theorem z_iL {R : It → Hp → Prop} (h : te σ H fun x H1 => ∃ a, x = .ref a ∧ (∃ xs, SqL K H1 a xs) ∧ R (Itl K a) H1) : iList K te σ H R := h
theorem z_iL2 {S : Addr → Prop} (hs : SqL K H a xs) (q : S a) : ∃ a', V.ref a = .ref a' ∧ (∃ xs, SqL K H a' xs) ∧ S a' := ⟨a, rfl, ⟨xs, hs⟩, q⟩
theorem z_while {c : TT} (W : Nat → St → Hp → Prop) (m0 : Nat) (h0 : W m0 σ H)
    (hs : ∀ m σ H, W m σ H → c σ H fun b H1 => if b = true then ∃ N : St → Hp → Prop, (∀ σ' H', N σ' H' → ∃ m', m' < m ∧ W m' σ' H') ∧ tb ⟨N, rt, nx, N⟩ σ H1 else nx σ H1) : tWhile c tb ⟨nx, rt, bk, ct⟩ σ H := ⟨W, ⟨m0, h0⟩, hs⟩
theorem z_whN {W : Nat → St → Hp → Prop} {m : Nat} (h : tb ⟨fun σ' H' => ∃ m', m' < m ∧ W m' σ' H', rt, nx, fun σ' H' => ∃ m', m' < m ∧ W m' σ' H'⟩ σ H) : ∃ N : St → Hp → Prop, (∀ σ' H', N σ' H' → ∃ m', m' < m ∧ W m' σ' H') ∧ tb ⟨N, rt, nx, N⟩ σ H := ⟨_, fun _ _ z => z, h⟩
end
def IsiG (K : Fg) (n : String) (f : Tg → Bool) (xs : List V) (H : Hp) (Q : VK) : Prop := rIsi K n f xs H Q
theorem z_isi0 {K : Fg} {n : String} {f : Tg → Bool} {xs : List V} {H : Hp} {Q : VK} (h : IsiG K n f xs H Q) : rIsi K n f xs H Q := h
section
variable {H : Hp} {Q : VK} {K : Fg} {i : Int} {a : Str} {b : Bool} {p : Addr} {xs : List V}
theorem z_isT_list (hs : SqT K H p xs) (q : Q (.bl false) H) : IsiG K "list" Tg.isLst [.ref p, .ty "list"] H Q := ⟨_, .tup, rfl, ⟨xs, hs⟩, q⟩
end
theorem bd_60 {n : Int} (h1 : -1152921504606846976 < n) (h2 : n < 1152921504606846976) : My.Bd 60 n := by unfold My.Bd; omega
theorem bt_max : bootBuiltins "max" = some (.builtin "max") := by decide +kernel
theorem bt_min : bootBuiltins "min" = some (.builtin "min") := by decide +kernel
theorem Same.but {H H2 H3 : Hp} {l : Addr} (s : Same H H2) (n : H l = none) (b : But l H2 H3) : Same H H3 := fun c o e => b c o (fun z => by rw [z, n] at e; cases e) (s c o e)
theorem z_tyL {K : Fg} {l : Addr} {xs : List V} {H : Hp} {S : Prop} (h : SqL K H l xs) (q : S) : tyV K "list" (.ref l) H ∧ S := ⟨.inl ⟨rfl, xs, h⟩, q⟩
theorem z_go {N : List Str} {vs : List V} {σ : St} {t : TS} {D : Ends} {H : Hp} (h : start N vs = σ) (q : t D σ H) : t D (start N vs) H := by rw [h]; exact q
end L2
namespace L2
open PySem PySem.Spec PyProof.Rows
theorem compOkG_of {X : Cx} {tg : Str} {sc : Scope} {fr : List (Str × Nat)} {osc : Scope} {N : List Str} (ho : X.env.scope = osc) (hN : X.N = N) (h : compOkB osc N tg sc fr = true) : CompOkG X [tg] sc fr ∧ sc.names.lookup tg = some .local := by
  have o := compOk_of ho hN h
  exact ⟨⟨o.kind, o.nocell, o.locs, o.fre, o.nd, o.vis⟩, o.tgl⟩
theorem pe_lcIf {X : Cx} {elt iter c : Expr} {tg : Str} {ps pos : Pos} {sc : Scope} {fr : List (Str × Nat)} {wi : TI} {te : TE} {tc : TT} (hc : X.calm = true) (ok : CompOkG X [tg] sc fr ∧ sc.names.lookup tg = some .local) (hi : PI X (.Name tg ps) iter wi)
    (ht : ∀ cl C s3 H3 fp, PT (X.blk ([tg] ++ fr.map (·.1)) sc cl C s3 H3 fp) c tc) (he : ∀ cl C s3 H3 fp, PE (X.blk ([tg] ++ fr.map (·.1)) sc cl C s3 H3 fp) elt te) (hs : ∀ x, foldedSetIterable iter X.env x = pure x := by intro _; rfl) :
    PE X (.ListComp elt [⟨.Name tg ps, iter, [c], 0⟩] sc pos) (tLCG 1 fr wi (gName 0) tc te) :=
  pe_lcG (tgs := [tg]) hc ok.1 hi (fun _ _ _ _ _ => pg_name ok.1.nd rfl (.inl (lookup_relabel_local ok.2)) (.inr (lookup_relabel_local ok.2))) (fun _ _ _ _ _ => pif_one (ht _ _ _ _ _)) he hs
end L2
namespace L2
open PySem PySem.Spec PyProof.Rows
section
variable {X : Cx} {elt iter tg : Expr} {ifs : List Expr} {tgs : List Str} {pos : Pos} {sc : Scope} {fr : List (Str × Nat)} {wi : TI} {te : TE} {g : TG} {tc : TT}
end
end L2
namespace L2
open PySem PySem.Spec PyProof.Rows
inductive Alike (K : Fg) (H : Hp) : Nat → V → V → Prop
  | int {n : Nat} {i : Int} : Alike K H n (.int i) (.int i)
  | str {n : Nat} {x : Str} : Alike K H n (.str x) (.str x)
  | bl {n : Nat} {b : Bool} : Alike K H n (.bl b) (.bl b)
  | non {n : Nat} : Alike K H n .non .non
  | ref {n : Nat} {a : Addr} : Alike K H n (.ref a) (.ref a)
  | tup {n : Nat} {p q : Addr} {xs ys : List V} (h1 : SqT K H p xs) (h2 : SqT K H q ys) (hl : xs.length = ys.length) (he : ∀ (j : Nat) (x y : V), xs[j]? = some x → ys[j]? = some y → Alike K H n x y) : Alike K H (n + 1) (.ref p) (.ref q)
  | lst {n : Nat} {p q : Addr} {xs ys : List V} (h1 : SqL K H p xs) (h2 : SqL K H q ys) (hl : xs.length = ys.length) (he : ∀ (j : Nat) (x y : V), xs[j]? = some x → ys[j]? = some y → Alike K H n x y) : Alike K H (n + 1) (.ref p) (.ref q)
  | dct {n : Nat} {p q : Addr} (h1 : H p = some (.dK [])) (h2 : H q = some (.dK [])) : Alike K H n (.ref p) (.ref q)
theorem dict_nil {P P' : Program} {w w' : World} {h : Heap} {a : Addr} (d : h.DictOf (mixKind P w) a []) : h.DictOf (mixKind P' w') a [] := by
  obtain ⟨o, es, ep, ho, he, hd, hk, hp, hn⟩ := d
  obtain ⟨es⟩ := es
  cases hp
  exact ⟨o, _, ep, ho, he, hd, fun _ h => absurd h (by simp), .nil, hn⟩
theorem vals_at {xs : List V} {us : List Value} (h : Vals xs us) : ∀ {j : Nat} {u : Value}, us[j]? = some u → ∃ x, xs[j]? = some x ∧ RelV x u := by
  induction h with
  | nil => intro j u e; simp at e
  | cons r rr ih =>
    intro j u e
    cases j with
    | zero => exact ⟨_, rfl, by rw [List.getElem?_cons_zero] at e; cases e; exact r⟩
    | succ j => exact ih (by rw [List.getElem?_cons_succ] at e; exact e)
theorem all_true {n : Nat} : (List.range n).all (fun _ => true) = true := by rw [List.all_eq_true]; intro _ _; rfl
section
variable {X : Cx} {pins : Pn} {σ : St} {H : Hp} {s : Shared}
theorem Inv.alike (I : Inv X pins σ H s) {n : Nat} {x y : V} (h : Alike X.K H n x y) : ∀ {A : Around} {u v : Value}, A.units + n < cLine → RelV x u → RelV y v → SeqAt.EqAt A s u v true := by
  induction h with
  | @int n i =>
    intro A u v hu r1 r2
    obtain ⟨t, rfl⟩ := r1
    obtain ⟨t', rfl⟩ := r2
    have := SeqAt.EqAt.int_int (A := A) (s := s) i t i t'
    rw [beq_self_eq_true] at this
    exact this
  | @str n x =>
    intro A u v hu r1 r2
    obtain ⟨t, rfl⟩ := r1
    obtain ⟨t', rfl⟩ := r2
    have := SeqAt.EqAt.str_str (A := A) (s := s) x t x t'
    rw [beq_self_eq_true] at this
    exact this
  | bl => intro A u v hu r1 r2; cases r1; cases r2; exact SeqAt.EqAt.same _
  | non => intro A u v hu r1 r2; cases r1; cases r2; exact SeqAt.EqAt.same _
  | ref => intro A u v hu r1 r2; cases r1; cases r2; exact SeqAt.EqAt.same _
  | @tup n p q xs ys h1 h2 hl he ih =>
    intro A u v hu r1 r2
    cases r1
    cases r2
    by_cases e : p = q
    · subst e; exact SeqAt.EqAt.same _
    · refine SeqAt.EqAt.of_refs e ?_
      obtain ⟨its, v1, p1, _⟩ := I.tuple h1
      obtain ⟨its2, v2, p2, _⟩ := I.tuple h2
      have l1 := v1.length
      have l2 := v2.length
      have key := SeqAt.RcAt.tuples (A := A) (s := s) (l := p) (b := q) (items := its.toArray) (items2 := its2.toArray) (e := fun _ => true) p1 p2 (by omega) (fun j g1 g2 => by
        have g1' : j < its.length := by simpa using g1
        have g2' : j < its2.length := by simpa using g2
        obtain ⟨x, ex, rx⟩ := vals_at v1 (List.getElem?_eq_getElem g1')
        obtain ⟨y, ey, ry⟩ := vals_at v2 (List.getElem?_eq_getElem g2')
        have w1 : its.toArray[j] = its[j] := by simp
        have w2 : its2.toArray[j] = its2[j] := by simp
        rw [w1, w2]
        exact ih j x y ex ey (by show A.units + 1 + n < cLine; omega) rx ry)
      have e2 : ((List.range (min its.toArray.size its2.toArray.size)).all (fun _ => true) && its.toArray.size == its2.toArray.size) = true := by
        rw [all_true, Bool.true_and, List.size_toArray, List.size_toArray, ← l1, ← l2, hl, beq_self_eq_true]
      rw [e2] at key
      exact key
  | @lst n p q xs ys h1 h2 hl he ih =>
    intro A u v hu r1 r2
    cases r1
    cases r2
    by_cases e : p = q
    · subst e; exact SeqAt.EqAt.same _
    · refine SeqAt.EqAt.of_refs e ?_
      obtain ⟨its, v1, p1, _⟩ := I.list h1
      obtain ⟨its2, v2, p2, _⟩ := I.list h2
      have l1 := v1.length
      have l2 := v2.length
      have key := SeqAt.RcAt.lists (A := A) (s := s) (l := p) (b := q) (items := its.toArray) (items2 := its2.toArray) (e := fun _ => true) p1.isList p2.isList (by rw [List.size_toArray, List.size_toArray, ← l1, ← l2, hl]) (by omega) (fun j g1 g2 => by
        have g1' : j < its.length := by simpa using g1
        have g2' : j < its2.length := by simpa using g2
        obtain ⟨x, ex, rx⟩ := vals_at v1 (List.getElem?_eq_getElem g1')
        obtain ⟨y, ey, ry⟩ := vals_at v2 (List.getElem?_eq_getElem g2')
        have w1 : its.toArray[j] = its[j] := by simp
        have w2 : its2.toArray[j] = its2[j] := by simp
        rw [w1, w2]
        exact ih j x y ex ey (by show A.units + 1 + n < cLine; omega) rx ry)
      rw [all_true] at key
      exact key
  | @dct n p q h1 h2 =>
    intro A u v hu r1 r2
    cases r1
    cases r2
    by_cases e : p = q
    · subst e; exact SeqAt.EqAt.same _
    · refine SeqAt.EqAt.of_refs e fun prog w E Q hq => ?_
      obtain ⟨_, z1, vs1, k1, d1⟩ := (show ObjOk X.prog X.w H s.heap p (.dK []) from I.hok p _ h1)
      obtain ⟨_, z2, vs2, k2, d2⟩ := (show ObjOk X.prog X.w H s.heap q (.dK []) from I.hok q _ h2)
      cases k1
      cases k2
      exact PySem.W.keq_eq (r := true) z1 z2 (dict_nil (P' := prog) (w' := w) d1) (dict_nil d2) (by omega) (fun _ => .nil) hq
def AlikeS (K : Fg) (H : Hp) (p q : Addr) : Prop := ∃ (n : Nat) (xs ys : List V), n ≤ 100 ∧ ((SqT K H p xs ∧ SqT K H q ys) ∨ (SqL K H p xs ∧ SqL K H q ys)) ∧ xs.length = ys.length ∧ ∀ (j : Nat) (x y : V), xs[j]? = some x → ys[j]? = some y → Alike K H n x y
def rAlk (K : Fg) (b : Bool) : R2 := fun x y H Q => ∃ p q, x = .ref p ∧ y = .ref q ∧ AlikeS K H p q ∧ Q (.bl b) H
theorem z_alk {K : Fg} {H : Hp} {Q : VK} {b : Bool} {p q : Addr} (h : AlikeS K H p q) (k : Q (.bl b) H) : rAlk K b (.ref p) (.ref q) H Q := ⟨p, q, rfl, rfl, h, k⟩
theorem op_neA (hu : X.A.units + 150 < cLine) : OpR X (compareOp .NotEq) (rAlk X.K false) := by
  intro pins s σ H x y v u Q I rx ry h
  obtain ⟨p, q, rfl, rfl, ⟨n, xs, ys, hn, hs, hl, he⟩, k⟩ := h
  cases rx
  cases ry
  rcases hs with ⟨h1, h2⟩ | ⟨h1, h2⟩
  · obtain ⟨its, v1, p1, _⟩ := I.tuple h1
    obtain ⟨its2, v2, p2, _⟩ := I.tuple h2
    have l1 := v1.length
    have l2 := v2.length
    have key := SeqAt.RcNeAt.tuples (A := X.A) (s := s) (l := p) (b := q) (items := its.toArray) (items2 := its2.toArray) (e := fun _ => true) p1 p2 (by omega) (fun j g1 g2 => by
      have g1' : j < its.length := by simpa using g1
      have g2' : j < its2.length := by simpa using g2
      obtain ⟨x, ex, rx⟩ := vals_at v1 (List.getElem?_eq_getElem g1')
      obtain ⟨y, ey, ry⟩ := vals_at v2 (List.getElem?_eq_getElem g2')
      have w1 : its.toArray[j] = its[j] := by simp
      have w2 : its2.toArray[j] = its2[j] := by simp
      rw [w1, w2]
      exact I.alike (he j x y ex ey) (by show X.A.units + 1 + n < cLine; omega) rx ry)
    have e2 : (!((List.range (min its.toArray.size its2.toArray.size)).all (fun _ => true) && its.toArray.size == its2.toArray.size)) = false := by
      rw [all_true, Bool.true_and, List.size_toArray, List.size_toArray, ← l1, ← l2, hl, beq_self_eq_true]; rfl
    rw [e2] at key
    exact key _ _ _ _ ⟨.bl false, H, I, rfl, k⟩
  · obtain ⟨its, v1, p1, _⟩ := I.list h1
    obtain ⟨its2, v2, p2, _⟩ := I.list h2
    have l1 := v1.length
    have l2 := v2.length
    have key := SeqAt.RcNeAt.lists (A := X.A) (s := s) (l := p) (b := q) (items := its.toArray) (items2 := its2.toArray) (e := fun _ => true) p1.isList p2.isList (by rw [List.size_toArray, List.size_toArray, ← l1, ← l2, hl]) (by omega) (fun j g1 g2 => by
      have g1' : j < its.length := by simpa using g1
      have g2' : j < its2.length := by simpa using g2
      obtain ⟨x, ex, rx⟩ := vals_at v1 (List.getElem?_eq_getElem g1')
      obtain ⟨y, ey, ry⟩ := vals_at v2 (List.getElem?_eq_getElem g2')
      have w1 : its.toArray[j] = its[j] := by simp
      have w2 : its2.toArray[j] = its2[j] := by simp
      rw [w1, w2]
      exact I.alike (he j x y ex ey) (by show X.A.units + 1 + n < cLine; omega) rx ry)
    rw [all_true] at key
    exact key _ _ _ _ ⟨.bl false, H, I, rfl, k⟩
end
theorem Room.un150 {k : Nat} {A : Around} (r : Room k A) : A.units + 150 < cLine := by have := r.un; omega
end L2
namespace L2
open PySem PySem.Spec PyProof.Rows PySem.W PySem.Calls
theorem bits_of_script : ∀ {ns : List Int}, WData.weightAll (ns.map WData.int) ≤ 2 ^ 20 → ∀ x ∈ ns, My.Bd 1048576 x
  | y :: r, h, x, hx => by
    have h' : WData.weight (.int y) + 1 + WData.weightAll (r.map WData.int) ≤ 2 ^ 20 := h
    rcases List.mem_cons.mp hx with e | e
    · subst e
      have w : WData.weight (.int x) = (if x == 0 then 0 else x.natAbs.log2 + 1) := by
        first | rfl | simp [WData.weight]
      unfold My.Bd
      by_cases z : x = 0
      · subst z
        exact Nat.two_pow_pos _
      · have zb : (x == 0) = false := by simpa using z
        rw [w, zb] at h'
        have h2 : x.natAbs.log2 < 1048576 := by
          have e20 : (2 : Nat) ^ 20 = 1048576 := by decide
          rw [e20] at h'
          simp only [Bool.false_eq_true, if_false] at h'
          omega
        exact (Nat.log2_lt (by omega)).mp h2
    · exact bits_of_script (by omega) x e
theorem attach_callB {l : OpenLaw} {n : Nat} {q : Program} {loose : List Str} {XP : (Str → Option Value) → Heap → Prop} {YP : World → Heap → Prop} {d : DefRec}
    (hn : l.most = some n) (hdf : d.params.defaults = [])
    (call : ∀ (w : World) (s₀ s₁ : Shared) (mg mb : Str → Option Value) (fa : Addr) (o : Obj) (pm cd doc : Value) (a : Addr) (vs : List Value) (ns : List Int),
      Ground q loose [] XP w s₀ mg mb s₁.heap → YP w s₁.heap →
      s₁.heap.get? fa = some o → o.data = .func (docDef d.name d.params d.body d.scope pm cd doc) → s₁.heap.CodeRec cd d.name → mg d.name = some (.ref fa) →
      s₁.heap.get? a = some { cls := .type "list", data := .seq vs.toArray } → IntsAre vs ns → ns.length ≤ n → (∀ x ∈ ns, My.Bd 1048576 x) → s₁.gens = #[] →
      codeAny (model l.prog w) callerA (.call (.ref fa) ⟨[.ref a], []⟩) (fun r s' => r = .ok (.ret (.bool true)) ∧ OldK s₁.heap s'.heap ∧ s'.os = s₁.os ∧ AllBare s'.gens) s₁) :
    WalkO q loose XP YP l.row.toRowW d [] (fun f vs => PySem.call f vs) := by
  intro w s₀ s₁ mg mb G Y fa o pm cd doc dV kV ho hd hcd hD hmg hg args vals as hpre hlay hrd hwl hlo
  obtain rfl : dV = .none := Dflts.none hD hdf
  obtain rfl : kV = .none := Dflts.noKw hD
  obtain ⟨a, vs, ns, rfl, rfl, hobj, hints, hlen⟩ := Att.script_of hn hpre hwl
  have hb : ∀ x ∈ ns, My.Bd 1048576 x := by
    have h1 : (WData.list (ns.map WData.int)).layable = true := by
      have h2 : ([WData.list (ns.map WData.int)].all WData.layable) = true := hlay
      simpa using h2
    obtain ⟨_, _, h3⟩ := layableW_iff.mp h1
    refine bits_of_script ?_
    have e : WData.weight (.list (ns.map WData.int)) = WData.weightAll (ns.map WData.int) := by
      first | rfl | simp [WData.weight]
    rw [e] at h3
    exact h3
  refine enter_call (codeAny_mono (call w s₀ s₁ mg mb fa o pm cd doc a vs ns G Y ho (fd_plain hd) hcd hmg hobj hints hlen hb hg) fun r s' hq => ?_)
  obtain ⟨rfl, h2, h3, h4⟩ := hq
  exact ⟨.inl ⟨.bool true, .bool true, [], rfl, fun _ => rfl, .bool true, Att.post_true l _, fun _ => ⟨List.Pairwise.nil, fun _ hm => (nomatch hm)⟩⟩, h2, h3, h4⟩
theorem walk_ofB {l : PySem.W.OpenLaw} {n k : Nat} {q : Program} {loose : List Str} {XP : (Str → Option Value) → Heap → Prop} {YP : World → Heap → Prop} {d : DefRec} {K : Params → Fg} {CX : World → CXT} {sp : World → Sp} {x : Str}
    (hn : l.most = some n) (hn2 : n ≤ sizeLine) (hdf : d.params.defaults = []) (hr : Room k callerA)
    (hY : ∀ (w : World) (h : Heap), YP w h → (K w.params).In h)
    (F : ∀ (w : World) (mg : Str → Option Value) (fa : Addr) (h : Heap), (K w.params).In h → h.Ns mainGlobals mg → mg d.name = some (.ref fa) →
      ∃ fd : FuncData, (∀ (s : Shared) (u : Value), BindsTo s fd ⟨[u], []⟩ [(x, u)]) ∧
        ∀ base : Heap, (K w.params).In base → base.Ns mainGlobals mg → FnOk l.prog w (K w.params) mg base (CX w) k fa fd [x] (sp w))
    (hsp : ∀ (w : World) (H : Hp) (a : Addr) (ns : List Int), ns.length ≤ n → (∀ x ∈ ns, My.Bd 1048576 x) → Only H → SqL (K w.params) H a (ns.map V.int) → sp w [.ref a] H (fun v _ => v = .bl true) fun _ _ _ => False)
    (hCX : ∀ (w : World) (H : Hp) (s : Shared) (e : Value) (s' : Shared), CX w [] H s (fun _ _ _ => False) e s' → False) :
    PySem.W.WalkO q loose XP YP l.row.toRowW d [] (fun f vs => PySem.call f vs) := by
  refine attach_callB hn hdf fun w s₀ s₁ mg mb fa o pm cd doc a vs ns G Y ho hd hcd hmg hobj hints hlen hbits hg => ?_
  have KX := hY w _ Y
  obtain ⟨fd, hb, hF⟩ := F w mg fa _ KX G.T.g hmg
  exact law_call KX G.T.g G.T.b G.T.builtins G.T.nolimit hg hobj hints (Nat.le_trans hlen hn2) hr hF hb (fun H hO hS => hsp w H a ns hlen hbits hO hS) fun H e s' => hCX w H s₁ e s'
end L2
namespace L2
open PySem PySem.Spec PyProof.Rows
section
variable {X : Cx}
def rEqE (K : Fg) (f : Bool → Bool) : R2 := fun x y H Q => ∃ (p q : Addr) (xs : List V), x = .ref p ∧ y = .ref q ∧ SqL K H p xs ∧ SqL K H q [] ∧ Q (.bl (f xs.isEmpty)) H
theorem op_eqE (hu : X.A.units < cLine) : OpR X (compareOp .Eq) (rEqE X.K (fun b => b)) := by
  intro pins s σ H x y v u Q I rx ry h
  obtain ⟨p, q, xs, rfl, rfl, h1, h2, k⟩ := h
  cases rx
  cases ry
  obtain ⟨its, v1, p1, _⟩ := I.list h1
  obtain ⟨its2, v2, p2, _⟩ := I.list h2
  have l1 := v1.length
  have l2 := v2.length
  cases xs with
  | nil =>
    have e1 : its.length = 0 := by rw [← l1]; rfl
    have e2 : its2.length = 0 := by rw [← l2]; rfl
    have key := SeqAt.RcAt.lists (A := X.A) (s := s) (l := p) (b := q) (items := its.toArray) (items2 := its2.toArray) (e := fun _ => true) p1.isList p2.isList (by rw [List.size_toArray, List.size_toArray, e1, e2]) hu (fun j g1 g2 => by
      have g1' : j < its.length := by simpa using g1
      omega)
    have e3 : (List.range its.toArray.size).all (fun _ => true) = true := by rw [List.all_eq_true]; intro _ _; rfl
    rw [e3] at key
    exact key _ _ _ _ ⟨.bl true, H, I, rfl, k⟩
  | cons y r =>
    have e1 : its.length = r.length + 1 := by rw [← l1]; rfl
    have e2 : its2.length = 0 := by rw [← l2]; rfl
    have key := SeqAt.RcAt.lists_lengths (A := X.A) (s := s) (l := p) (b := q) (items := its.toArray) (items2 := its2.toArray) p1.isList p2.isList (by rw [List.size_toArray, List.size_toArray, e1, e2]; rfl) hu
    exact key _ _ _ _ ⟨.bl false, H, I, rfl, k⟩
theorem op_neE (hu : X.A.units < cLine) : OpR X (compareOp .NotEq) (rEqE X.K (fun b => !b)) := by
  intro pins s σ H x y v u Q I rx ry h
  obtain ⟨p, q, xs, rfl, rfl, h1, h2, k⟩ := h
  cases rx
  cases ry
  obtain ⟨its, v1, p1, _⟩ := I.list h1
  obtain ⟨its2, v2, p2, _⟩ := I.list h2
  have l1 := v1.length
  have l2 := v2.length
  cases xs with
  | nil =>
    have e1 : its.length = 0 := by rw [← l1]; rfl
    have e2 : its2.length = 0 := by rw [← l2]; rfl
    have key := SeqAt.RcNeAt.lists (A := X.A) (s := s) (l := p) (b := q) (items := its.toArray) (items2 := its2.toArray) (e := fun _ => true) p1.isList p2.isList (by rw [List.size_toArray, List.size_toArray, e1, e2]) hu (fun j g1 g2 => by
      have g1' : j < its.length := by simpa using g1
      omega)
    have e3 : (List.range its.toArray.size).all (fun _ => true) = true := by rw [List.all_eq_true]; intro _ _; rfl
    rw [e3] at key
    exact key _ _ _ _ ⟨.bl false, H, I, rfl, k⟩
  | cons y r =>
    have e1 : its.length = r.length + 1 := by rw [← l1]; rfl
    have e2 : its2.length = 0 := by rw [← l2]; rfl
    have key := SeqAt.RcNeAt.lists_lengths (A := X.A) (s := s) (l := p) (b := q) (items := its.toArray) (items2 := its2.toArray) p1.isList p2.isList (by rw [List.size_toArray, List.size_toArray, e1, e2]; rfl) hu
    exact key _ _ _ _ ⟨.bl true, H, I, rfl, k⟩
def rAddS : R2 := fun x y H Q => ∃ i j, x = .str i ∧ y = .str j ∧ i.length + j.length ≤ sizeLine ∧ Q (.str (i ++ j)) H
theorem op_addS : OpR X (binaryOp .Add) rAddS := op_add_str
end
section
variable {σ : St} {H : Hp} {Q : VK} {K : Fg} {p q : Addr} {xs : List V} {f : Bool → Bool}
end
end L2
namespace L2
open PySem PySem.Spec PyProof.Rows
theorem best_max (f : Nat → Int) : ∀ n, argBest (fun i j => decide (f i > f j)) n ≤ n ∧ ∀ j, j ≤ n → f j ≤ f (argBest (fun i j => decide (f i > f j)) n)
  | 0 => ⟨Nat.le_refl _, fun j hj => by rw [Nat.le_zero.mp hj]; exact Int.le_refl _⟩
  | n + 1 => by
    obtain ⟨h1, h2⟩ := best_max f n
    unfold argBest
    by_cases h : f (n + 1) > f (argBest (fun i j => decide (f i > f j)) n)
    · rw [if_pos (decide_eq_true h)]
      refine ⟨Nat.le_refl _, fun j hj => ?_⟩
      rcases Nat.lt_or_ge j (n + 1) with k | k
      · have := h2 j (by omega); omega
      · rw [show j = n + 1 by omega]; exact Int.le_refl _
    · rw [if_neg (by rw [decide_eq_true_eq]; exact h)]
      refine ⟨by omega, fun j hj => ?_⟩
      rcases Nat.lt_or_ge j (n + 1) with k | k
      · exact h2 j (by omega)
      · rw [show j = n + 1 by omega]; omega
theorem ints_of : ∀ {ns : List Int} {us : List Value}, Vals (ns.map V.int) us → ∃ l : List (Int × Tok), us = l.map (fun p => Value.int p.1 p.2) ∧ l.map (·.1) = ns
  | [], _, .nil => ⟨[], rfl, rfl⟩
  | x :: r, _, .cons h t => by
    obtain ⟨tk, rfl⟩ := h
    obtain ⟨l, e1, e2⟩ := ints_of (ns := r) t
    exact ⟨(x, tk) :: l, by rw [e1]; rfl, by rw [← e2]; rfl⟩
theorem numAt_of {l : List (Int × Tok)} {ns : List Int} (e : l.map (·.1) = ns) {j : Nat} {n : Int} (h : ns[j]? = some n) : numAt l.toArray j = n := by
  subst e
  rw [List.getElem?_map] at h
  unfold numAt
  rw [List.getElem?_toArray, h]
  rfl
def IsMax (ns : List Int) (m : Int) : Prop := m ∈ ns ∧ ∀ n ∈ ns, n ≤ m
theorem max_is {l : List (Int × Tok)} {ns : List Int} {m : Int} (e : l.map (·.1) = ns) (hm : IsMax ns m) : numAt l.toArray (argBest (fun i j => decide (numAt l.toArray i > numAt l.toArray j)) (l.toArray.size - 1)) = m := by
  obtain ⟨hb, hmax⟩ := best_max (numAt l.toArray) (l.toArray.size - 1)
  have hlen : l.length = ns.length := by rw [← e, List.length_map]
  obtain ⟨j, hj, ej⟩ := List.getElem_of_mem hm.1
  have hs : l.toArray.size = ns.length := by rw [List.size_toArray, hlen]
  generalize argBest (fun i j => decide (numAt l.toArray i > numAt l.toArray j)) (l.toArray.size - 1) = k at *
  have hk : k < ns.length := by omega
  have a1 := numAt_of e (List.getElem?_eq_getElem hk)
  have a2 := numAt_of e (List.getElem?_eq_getElem hj)
  have a3 := hmax j (by omega)
  have a4 := hm.2 _ (List.getElem_mem hk)
  omega
def rMax (K : Fg) : List V → Hp → VK → Prop := fun xs H Q => ∃ (p : Addr) (ns : List Int) (m : Int), xs = [.ref p] ∧ SqL K H p (ns.map V.int) ∧ IsMax ns m ∧ Q (.int m) H
section
variable {prog : Program} {w : World} {A : Around} {R : Result → Shared → Prop} {I : Addr} {fp wr : List Addr} {n : Nat} {P : Nat → Value → Prop} {St : Nat → Heap → Prop} {kw : List (Str × Value)}
theorem maxK_loop (W : Walks prog w A.in1 I fp wr n P St) (bt : Nat → Nat → Bool) (hcmp : CmpOf prog w A.in1 .Gt P bt) (S : Addr) (hSf : S ∉ fp) :
    ∀ (k j : Nat) (s : Shared) (vb : Value) (c : Nat), n - (j + 1) = k → j + 1 ≤ n → St (j + 1) s.heap → P (argBest bt j) vb →
    s.heap.get? S = some { cls := .type "list", dict := none, data := .seq #[vb, vb] c, slots := #[] } →
    (∀ v h' tk, P (argBest bt (n - 1)) v → (∀ b o, b ∉ wr → b ≠ S → s.heap.get? b = some o → h'.get? b = some o) → R (.ok (.ret v)) { s with heap := h', toks := tk }) →
    codeAny (model prog w) A (.builtin "max.loop" ⟨[.ref I, .none, .ref S], kw⟩) R s := by
  have nw : S ∉ wr := fun h => hSf (W.sub _ h)
  have nm : (toString "max" ++ toString ".loop" : String) = "max.loop" := by decide
  intro k
  induction k with
  | zero =>
    intro j s vb c hk hj hst hb hS hR
    have e : j + 1 = n := by omega
    refine codeAny_builtin F.entry_max_loop ?_
    rw [Around.under_plainId F.plain_max_loop _]
    show wpAny _ A.in1 (seqItems? (.ref S) >>= _) _ _ s
    refine wpAny_bind (wpAny_seqItems hS rfl ?_)
    show wpAny _ A.in1 (tryCatch (pyNext (.ref I)) _ >>= _) _ _ s
    refine wpAny_bind (wpAny_tryCatch (W.done s _ _ (e ▸ hst) fun h' tk hk' => ?_))
    have hS' := hk' S _ nw hS
    show wpAny _ A.in1 (updateSeq S (fun _ => #[]) >>= _) _ _ _
    refine wpAny_bind (wpAny_updateSeq hS' rfl (wpAny_bind (wpAny_letGo (wpAny_pure ?_))))
    exact hR vb _ tk (by rw [← e]; exact hb) fun b o h1 h2 e => (Heap.get?_update_other _ _ (Ne.symm h2)).trans (hk' b o h1 e)
  | succ k ih =>
    intro j s vb c hk hj hst hb hS hR
    have lt : j + 1 < n := by omega
    refine codeAny_builtin F.entry_max_loop ?_
    rw [Around.under_plainId F.plain_max_loop _]
    show wpAny _ A.in1 (seqItems? (.ref S) >>= _) _ _ s
    refine wpAny_bind (wpAny_seqItems hS rfl ?_)
    show wpAny _ A.in1 (tryCatch (pyNext (.ref I)) _ >>= _) _ _ s
    refine wpAny_bind (wpAny_tryCatch (W.item (j + 1) s _ _ lt hst fun v h' tk hP hst' hk' => ?_))
    have hS' := hk' S _ nw hS
    show wpAny _ A.in1 (tryCatch (holding [v, v] (richCompare .Gt v vb >>= _)) _ >>= _) _ _ _
    refine wpAny_bind (wpAny_tryCatch (wpAny_holding (wpAny_bind (hcmp (j + 1) (argBest bt j) v vb _ _ _ hP hb ?_))))
    refine wpAny_bind (wpAny_holding (wpAny_truthy_bool ?_))
    refine wpAny_bind (wpAny_letGo (wpAny_pure ?_))
    cases hbt : bt (j + 1) (argBest bt j) with
    | true =>
      simp only [if_true]
      refine wpAny_bind (wpAny_updateSeq hS' rfl (wpAny_bind (wpAny_letGo ?_)))
      rw [nm]
      refine wpAny_pure ⟨plainId_quiet F.plain_max_loop _, ih (j + 1) _ v _ (by omega) lt (W.frame _ _ _ hst' fun b hbf o e => ?_) (by simp only [argBest, hbt, if_true]; exact hP) (Heap.get?_update_self _ hS' rfl) fun v' h2 tk2 hP' hk2 => ?_⟩
      · exact (Heap.get?_update_other _ _ (fun h : S = b => hSf (by rw [h]; exact hbf))).trans e
      · exact hR v' h2 tk2 hP' fun b o h1 h3 e => hk2 b o h1 h3 ((Heap.get?_update_other _ _ (Ne.symm h3)).trans (hk' b o h1 e))
    | false =>
      simp only [Bool.false_eq_true, if_false]
      refine wpAny_bind (wpAny_letGo ?_)
      rw [nm]
      refine wpAny_pure ⟨plainId_quiet F.plain_max_loop _, ih (j + 1) _ vb c (by omega) lt hst' (by simp only [argBest, hbt, Bool.false_eq_true, if_false]; exact hb) hS' fun v' h2 tk2 hP' hk2 => ?_⟩
      exact hR v' h2 tk2 hP' fun b o h1 h3 e => hk2 b o h1 h3 (hk' b o h1 e)
theorem maxK_first {d : Value} (W : Walks prog w A.in1 I fp wr n P St) (bt : Nat → Nat → Bool) (hcmp : CmpOf prog w A.in1 .Gt P bt) (S : Addr) (hSf : S ∉ fp) {s : Shared} {c : Nat} (hst : St 0 s.heap)
    (hS : s.heap.get? S = some { cls := .type "list", dict := none, data := .seq #[] c, slots := #[] })
    (hR : ∀ v h' tk, (0 < n ∧ P (argBest bt (n - 1)) v) ∨ (n = 0 ∧ v = d) → (∀ b o, b ∉ wr → b ≠ S → s.heap.get? b = some o → h'.get? b = some o) → R (.ok (.ret v)) { s with heap := h', toks := tk }) :
    codeAny (model prog w) A (.builtin "max.loop" ⟨[.ref I, .none, .ref S], [("default", d)]⟩) R s := by
  have nw : S ∉ wr := fun h => hSf (W.sub _ h)
  have nm : (toString "max" ++ toString ".loop" : String) = "max.loop" := by decide
  refine codeAny_builtin F.entry_max_loop ?_
  rw [Around.under_plainId F.plain_max_loop _]
  show wpAny _ A.in1 (seqItems? (.ref S) >>= _) _ _ s
  refine wpAny_bind (wpAny_seqItems hS rfl ?_)
  show wpAny _ A.in1 (tryCatch (pyNext (.ref I)) _ >>= _) _ _ s
  rcases Nat.eq_zero_or_pos n with e | hn
  · refine wpAny_bind (wpAny_tryCatch (W.done s _ _ (e.symm ▸ hst) fun h' tk hk' => ?_))
    refine wpAny_bind (wpAny_rule (wpAny_pure ?_))
    exact hR d _ tk (.inr ⟨e, rfl⟩) fun b o h1 h2 e => hk' b o h1 e
  · refine wpAny_bind (wpAny_tryCatch (W.item 0 s _ _ hn hst fun v h' tk hP hst' hk' => ?_))
    have hS' := hk' S _ nw hS
    show wpAny _ A.in1 (updateSeq S (fun _ => #[v, v]) >>= _) _ _ _
    refine wpAny_bind (wpAny_updateSeq hS' rfl ?_)
    rw [nm]
    refine wpAny_pure ⟨plainId_quiet F.plain_max_loop _, maxK_loop W bt hcmp S hSf _ 0 _ v _ rfl hn (W.frame _ _ _ hst' fun b hbf o e => ?_) hP (Heap.get?_update_self _ hS' rfl) fun v' h2 tk2 hP' hk2 => ?_⟩
    · exact (Heap.get?_update_other _ _ (fun h : S = b => hSf (by rw [h]; exact hbf))).trans e
    · exact hR v' h2 tk2 (.inl ⟨hn, hP'⟩) fun b o h1 h3 e => hk2 b o h1 h3 ((Heap.get?_update_other _ _ (Ne.symm h3)).trans (hk' b o h1 e))
end
section
variable {X : Cx}
theorem call_maxL (hc : X.calm = true) : CallR X (.builtin "max") (rMax X.K) := by
  intro pins s σ H xs us Q I r h
  obtain ⟨p, ns, m, rfl, hq, hm, q⟩ := h
  obtain ⟨u, rfl, ru⟩ := r.one
  cases ru
  obtain ⟨its, v, pl, _⟩ := I.list hq
  obtain ⟨l, e1, e2⟩ := ints_of v
  have hl : s.heap.IsList p (intItems l.toArray) := by
    have := pl.isList
    rw [e1] at this
    unfold intItems
    rw [List.map_toArray]
    exact this
  have hs : l.toArray.size = ns.length := by rw [List.size_toArray, ← e2, List.length_map]
  refine max_intList (I.ok.hd hc) hl (by rw [hs]; exact List.length_pos_of_mem hm.1) fun v h' tk hv k => ?_
  obtain ⟨t, rfl⟩ := intItems_at hv
  rw [max_is e2 hm]
  exact ⟨.int m, H, I.kept k, ⟨_, rfl⟩, q⟩
theorem call_maxD {prog : Program} {w : World} {A : Around} {E : Value → Shared → Prop} {s : Shared} {l : Addr} {xs : Array (Int × Tok)} {d : Value} {Q : Value → Shared → Prop} (hh : A.handled = none) (hl : s.heap.IsList l (intItems xs))
    (h : ∀ v h' tk, (0 < xs.size ∧ (intItems xs)[argBest (fun i j => decide (numAt xs i > numAt xs j)) (xs.size - 1)]? = some v) ∨ (xs.size = 0 ∧ v = d) → (∀ b o, s.heap.get? b = some o → h'.get? b = some o) → Q v { s with heap := h', toks := tk }) :
    wpAny (model prog w) A (call (.builtin "max") [.ref l] [("default", d)]) Q E s := by
  have nm : (toString "max" ++ toString ".loop" : String) = "max.loop" := by decide
  have ha : argsOk "max" ⟨[.ref l], [("default", d)]⟩ := by unfold argsOk; kernel_rfl
  refine wpAny_call (codeAny_call_builtin F.plain_max F.entry_max ?_)
  have hc : wpAny (model prog w) A.in1 (Builtin.«max» ⟨[.ref l], [("default", d)]⟩) (fun fin s' => match fin with
      | .done f => (match (Except.ok f : Result) with | .ok (.ret v) => Q v s' | .ok _ => False | .error e => E e s')
      | .again c' => c'.quiet = true ∧ codeAny (model prog w) A c' (fun r s' => match r with | .ok (.ret v) => Q v s' | .ok _ => False | .error e => E e s') s') E s := by
    show wpAny _ A.in1 (Builtin.Builtins.bindParams "max" ["key", "default"] 0 ⟨[], [("default", d)]⟩ >>= _) _ _ s
    refine wpAny_bind (wpAny_of_eq (show Builtin.Builtins.bindParams "max" ["key", "default"] 0 ⟨[], [("default", d)]⟩ = pure [none, some d] from rfl) ?_)
    refine wpAny_bind (wpAny_pure ?_)
    refine wpAny_bind (iter_intList hl fun s2 e st hfp hlI => ?_)
    subst e
    refine wpAny_bind (wpAny_newObj_type ?_)
    rw [nm]
    have W := Walks.list (prog := prog) (w := w) (A := A.in1) hh s.heap.objs.size l hlI (intItems xs)
    refine wpAny_pure ⟨plainId_quiet F.plain_max_loop _, maxK_first (d := d) W _ (CmpOf.ints_gt (numAt xs) (fun _ _ => intItems_at)) _ (fun hmm => Nat.lt_irrefl _ (hfp _ hmm)) (W.frame _ _ _ st fun b _ o e => Heap.get?_push_of_some _ e) (Heap.get?_push_size _ rfl) fun v h' tk hP hk => ?_⟩
    refine h v h' tk (by simpa [intItems] using hP) ?_
    exact old_kept fun b o h1 e => hk b o h1 (Nat.ne_of_lt (Heap.lt_size e)) (Heap.get?_push_of_some _ e)
  simp only [checkBuiltinCall, F.kind_max]
  cases hsig : Manifest.signature? "max" with
  | none => exact wpAny_pure hc
  | some sig =>
    have ha' : Bind.checkArgs "max" sig ⟨[.ref l], [("default", d)]⟩ = pure () := by simpa only [argsOk, hsig] using ha
    simp only [ha']
    exact wpAny_pure hc
def tMaxD (K : Fg) (t td : TA) : TE := fun σ H Q => t σ H fun vs H1 => td σ H1 fun ds H2 => ∃ (p : Addr) (ns : List Int) (d : V), vs = [.ref p] ∧ ds = [d] ∧ SqL K H2 p (ns.map V.int) ∧ ((ns = [] ∧ Q d H2) ∨ ∃ m, IsMax ns m ∧ Q (.int m) H2)
theorem z_maxD {K : Fg} {σ : St} {H : Hp} {Q : VK} {t td : TA} (h : t σ H fun vs H1 => td σ H1 fun ds H2 => ∃ (p : Addr) (ns : List Int) (d : V), vs = [.ref p] ∧ ds = [d] ∧ SqL K H2 p (ns.map V.int) ∧ ((ns = [] ∧ Q d H2) ∨ ∃ m, IsMax ns m ∧ Q (.int m) H2)) : tMaxD K t td σ H Q := h
theorem pe_maxD {e de : Expr} {p pos kp : Pos} {t td : TA} (hc : X.calm = true) (hg : Gl X "max") (hm : X.mg "max" = none) (ha : PA X [e] t) (hk : PK X [⟨some "default", de, kp⟩] td)
    (he : backTo pos (starEach [e] X.env) = (false, eval e X.env) :: backTo pos (starEach [] X.env) := by rfl) (hpl : (backTo pos (starEach [e] X.env)).any (·.1) = false := by rfl) : PE X (.Call (.Name "max" p) [e] [⟨some "default", de, kp⟩] pos) (tMaxD X.K t td) := by
  intro pins s σ H Q I h
  refine wpAny_Call_Name_kw (ld_blt I hg hm bt_max ?_ (by decide) (by decide))
  refine callWith_kw (thn (ha pos pins s σ H _ I h) fun us s1 ⟨vs, H1, I1, r1, q1⟩ => thn (hk pos pins s1 σ H1 _ I1 q1) fun ws s2 ⟨zs, H2, I2, rz, q2⟩ => ?_) he hpl
  obtain ⟨p, ns, d, rfl, rfl, hq, q⟩ := q2
  obtain ⟨u, rfl, ru⟩ := r1.one
  cases ru
  obtain ⟨dv, rfl, rd⟩ := rz.one
  obtain ⟨its, v, pl, _⟩ := I2.list hq
  obtain ⟨l, e1, e2⟩ := ints_of v
  have hl : s2.heap.IsList p (intItems l.toArray) := by
    have := pl.isList
    rw [e1] at this
    unfold intItems
    rw [List.map_toArray]
    exact this
  have hs : l.toArray.size = ns.length := by rw [List.size_toArray, ← e2, List.length_map]
  refine call_maxD (I2.ok.hd hc) hl fun v h' tk hv k => ?_
  rcases q with ⟨en, q⟩ | ⟨m, hmx, q⟩
  · rcases hv with ⟨z, _⟩ | ⟨_, rfl⟩
    · rw [hs, en] at z; exact absurd z (by decide)
    · exact ⟨d, H2, I2.kept k, rd, q⟩
  · rcases hv with ⟨_, hv⟩ | ⟨z, _⟩
    · obtain ⟨t, rfl⟩ := intItems_at hv
      rw [max_is e2 hmx]
      exact ⟨.int m, H2, I2.kept k, ⟨_, rfl⟩, q⟩
    · rw [hs] at z
      have := List.length_pos_of_mem hmx.1
      omega
end
end L2
namespace L2
open PySem PySem.Spec PyProof.Rows
section
variable {σ : St} {H : Hp} {Q : VK}
theorem z_gsub {to ti : TE} {t : TSet} {v : V} {S : St → Hp → Prop} (h : to σ H fun o H1 => ti σ H1 fun i H2 => t o i v H2 fun H3 => S σ H3) : gSub to ti t v σ H S := h
theorem z_setL {p : Addr} {xs : List V} {k : Int} {j : Nat} {v : V} {S : Hp → Prop} (h : H p = some (.lst xs)) (hj : ixN xs.length k = some j) (q : ∀ H', But p H H' → H' p = some (.lst (xs.set j v)) → S H') : rSetL (.ref p) (.int k) v H S := ⟨p, xs, k, j, rfl, rfl, h, hj, q _ But.upd upd_same⟩
end
def LCN (st : St) (J : It) (te : TE) (H1 : Hp) (Q : VK) : Prop := ∀ acc, H1 acc = none → ∃ W : Nat → Nat → Hp → Prop, (∃ m, W 0 m (upd H1 acc (.lst []))) ∧ ∀ i m H2, W i m H2 →
  (J.stop i H2 ∧ Q (.ref acc) H2) ∨ (J.go i H2 ∧ ∀ x H3, J.yld i H2 x H3 → te (some x :: st) H3 fun v H4 => ∃ xs m', H4 acc = some (.lst xs) ∧ xs.length < sizeLine ∧ m' < m ∧ W (i + 1) m' (upd H4 acc (.lst (xs ++ [v]))))
theorem z_lcn {fr : List (Str × Nat)} {wi : TI} {te : TE} {σ : St} {H : Hp} {Q : VK} (h : wi σ H fun J H1 => LCN (inSt σ fr) J te H1 Q) : tLC fr wi te σ H Q := h
theorem lcn_list {K : Fg} {a : Addr} {xs : List V} {st : St} {te : TE} {H1 : Hp} {Q : VK} (g : V → V) (hs : SqL K H1 a xs) (hn : xs.length ≤ sizeLine)
    (step : ∀ x H2 (S : V → Hp → Prop), x ∈ xs → Same H1 H2 → (∀ H3, Same H2 H3 → S (g x) H3) → te (some x :: st) H2 S)
    (fin : ∀ acc H2, H1 acc = none → Same H1 H2 → H2 acc = some (.lst (xs.map g)) → Q (.ref acc) H2) : LCN st (Itl K a) te H1 Q := by
  intro acc hacc
  refine ⟨fun i m H2 => m = xs.length - i ∧ i ≤ xs.length ∧ Same H1 H2 ∧ H2 acc = some (.lst ((xs.take i).map g)), ⟨xs.length, by simp, Nat.zero_le _, Same.new hacc _, by rw [upd_same]; rfl⟩, ?_⟩
  rintro i m H2 ⟨rfl, hi, sH, ha⟩
  by_cases hlt : i < xs.length
  · have hx : xs[i]? = some xs[i] := List.getElem?_eq_getElem hlt
    refine .inr ⟨⟨xs, _, sH.seq hs, hx⟩, fun x H3 y => ?_⟩
    have e := y.2 xs (sH.seq hs)
    rw [hx] at e
    cases e
    rw [y.1]
    refine step _ _ _ (List.getElem_mem hlt) sH fun H4 s4 => ⟨_, xs.length - (i + 1), s4 _ _ ha, ?_, by omega, rfl, hlt, fun b o e => ?_, ?_⟩
    · rw [List.length_map, List.length_take]; omega
    · rw [upd_ne (fun z => by rw [z, hacc] at e; cases e)]
      exact s4 _ _ (sH _ _ e)
    · rw [upd_same, List.take_succ, hx, List.map_append]; rfl
  · have e : i = xs.length := by omega
    subst e
    refine .inl ⟨⟨xs, sH.seq hs, Nat.le_refl _⟩, fin acc H2 hacc sH ?_⟩
    rw [ha, List.take_length]
end L2
namespace L2
open PySem PySem.Spec PyProof.Rows PySem.Builtin PySem.Builtin.Str
section
variable {X : Cx}
def tFv (te : TE) : TE := fun σ H Q => te σ H fun x H1 => ∃ i : Int, x = .int i ∧ i.natAbs.log2 < 1920 ∧ Q (.str (Str.ofString (toString i))) H1
theorem pe_fv {e : Expr} {te : TE} {pos : Pos} (he : PE X e te) : PE X (.FormattedValue e (-1) none pos) (tFv te) := by
  intro pins s σ H Q I h
  refine wpAny_FormattedValue_plain (thn (he pins s σ H _ I h) fun v s1 ⟨x, H1, I1, r1, q1⟩ => ?_)
  obtain ⟨i, rfl, hz, q⟩ := q1
  obtain ⟨t, rfl⟩ := r1
  exact wpAny_formatField_int hz ⟨.str _, H1, I1.tok _, ⟨_, rfl⟩, q⟩
theorem pe_fs1 {e : Expr} {te : TE} {pos : Pos} (he : PE X e te) : PE X (.JoinedStr [e] pos) te := fun pins s σ H Q I h => wpAny_JoinedStr_one (he pins s σ H Q I h)
def tFs : List TE → Str → TE
  | [], acc => fun _ H Q => Q (.str acc) H
  | t :: r, acc => fun σ H Q => t σ H fun x H1 => ∃ a : Str, x = .str a ∧ (acc ++ a).length ≤ sizeLine ∧ tFs r (acc ++ a) σ H1 Q
inductive PFs (X : Cx) : List Expr → List TE → Prop
  | nil : PFs X [] []
  | cons {e : Expr} {t : TE} {es : List Expr} {ts : List TE} : PE X e t → PFs X es ts → PFs X (e :: es) (t :: ts)
theorem joins_of {es : List Expr} {ts : List TE} (h : PFs X es ts) : ∀ (acc : Str) (pins : Pn) (s : Shared) (σ : St) (H : Hp) (Q : VK), acc.length ≤ sizeLine → Inv X pins σ H s → tFs ts acc σ H Q →
    Joins (model X.prog X.w) X.A X.xe (evalEach es X.env) acc (fun out s1 => out.length ≤ sizeLine ∧ EP X pins σ Q (.str out s1.toks) { s1 with toks := s1.toks + 1 }) s := by
  induction h with
  | nil => intro acc pins s σ H Q hl I q; exact ⟨hl, .str _, H, I.tok _, ⟨_, rfl⟩, q⟩
  | cons he _ ih =>
    intro acc pins s σ H Q hl I q
    show wpAny _ _ (eval _ X.env) _ _ s
    refine thn (he pins s σ H _ I q) fun v s1 ⟨x, H1, I1, r1, q1⟩ => ?_
    obtain ⟨a, rfl, hz, q⟩ := q1
    obtain ⟨t, rfl⟩ := r1
    exact ⟨a, t, rfl, hz, ih _ pins s1 σ H1 Q hz I1 q⟩
theorem pe_fs {a b : Expr} {es : List Expr} {ts : List TE} {pos : Pos} (h : PFs X (a :: b :: es) ts) : PE X (.JoinedStr (a :: b :: es) pos) (tFs ts Str.empty) :=
  fun pins s σ H Q I q => wpAny_JoinedStr (joins_of h Str.empty pins s σ H Q (by decide) I q)
end
section
variable {σ : St} {H : Hp} {Q : VK} {te : TE}
end
end L2
namespace L2
open PySem PySem.Spec PyProof.Rows PySem.Builtin PySem.Builtin.Str
section
variable {X : Cx}
end
end L2
namespace My
open PySem PySem.NumText
def dg (n : Nat) : List Nat := (Nat.toDigits 10 n).map Char.toNat
theorem dg_small {n : Nat} (h : n < 10) : dg n = [48 + n] := by
  rcases (by omega : n = 0 ∨ n = 1 ∨ n = 2 ∨ n = 3 ∨ n = 4 ∨ n = 5 ∨ n = 6 ∨ n = 7 ∨ n = 8 ∨ n = 9) with e | e | e | e | e | e | e | e | e | e <;> subst e <;> decide
theorem dg_step {n : Nat} (h : 10 ≤ n) : dg n = dg (n / 10) ++ [48 + n % 10] := by
  have hm : n % 10 < 10 := Nat.mod_lt n (by decide)
  have t : Nat.toDigits 10 (n / 10) ++ Nat.toDigits 10 (n % 10) = Nat.toDigits 10 (10 * (n / 10) + n % 10) := Nat.toDigits_append_toDigits (by decide) (by omega) hm
  rw [Nat.div_add_mod] at t
  unfold dg
  rw [← t, List.map_append]
  congr 1
  exact dg_small hm
theorem dg_ne (n : Nat) : dg n ≠ [] := by
  rcases Nat.lt_or_ge n 10 with h | h
  · rw [dg_small h]; exact List.cons_ne_nil _ _
  · rw [dg_step h]; simp
theorem dg_len {n k : Nat} (hk : 1 ≤ k) (h : n < 10 ^ k) : (dg n).length ≤ k := by
  unfold dg
  rw [List.length_map]
  exact PyProof.Rows.digits10_le hk h
def txt (n : Int) : List Nat := if n < 0 then 45 :: dg n.natAbs else dg n.natAbs
theorem txt_is (n : Int) : (Str.ofString (toString n)).cps.toList = txt n := by
  cases n with
  | ofNat m =>
    have : ¬ ((Int.ofNat m) < 0) := by simp
    unfold txt
    rw [if_neg this]
    exact PySem.W.KIN.signs_num m
  | negSucc m =>
    unfold txt
    rw [if_pos (Int.negSucc_lt_zero m), PyProof.Rows.signs_ofString]
    show (("-" ++ Nat.repr (m + 1) : String).toList.map Char.toNat) = 45 :: dg (m + 1)
    rw [String.toList_append, List.map_append, Nat.toList_repr]
    rfl
def shw (t b : Int) : List Nat := if b = 1 then txt t else txt t ++ 47 :: txt b
end My
namespace My
open PySem PySem.NumText PySem.StrLaws
abbrev cs (z : Str) : List Nat := z.cps.toList
theorem cs_len (z : Str) : (cs z).length = z.length := by simp [Str.length]
theorem cs_app (a b : Str) : cs (a ++ b) = cs a ++ cs b := by
  show (a.cps ++ b.cps).toList = _
  rw [Array.toList_append]
theorem cs_str (n : Int) : cs (Str.ofString (toString n)) = txt n := txt_is n
end My
namespace My
open PySem PySem.NumText
end My
namespace My
open PySem PySem.NumText PySem.StrLaws PySem.Builtin PySem.Builtin.Str
end My
namespace L2
open PySem PySem.Spec PyProof.Rows
end L2
namespace L2
open PySem PySem.Spec PyProof.Rows
def rCatL (K : Fg) : R2 := fun x y H Q => ∃ l m xs zs, x = .ref l ∧ y = .ref m ∧ SqL K H l xs ∧ SqL K H m zs ∧ xs.length + zs.length ≤ sizeLine ∧ ∀ p, H p = none → Q (.ref p) (upd H p (.lst (xs ++ zs)))
theorem op_catL {X : Cx} : OpR X (binaryOp .Add) (rCatL X.K) := by
  intro pins s σ H x y v u Q I rx ry h
  obtain ⟨l, b, xs, zs, rfl, rfl, hH, hB, hz, q⟩ := h
  cases rx
  cases ry
  obtain ⟨its, r, p1, _⟩ := I.list hH
  obtain ⟨its2, r2, p2, _⟩ := I.list hB
  have l1 := r.length
  have l2 := r2.length
  obtain ⟨⟨cls, dd, data, sl⟩, ho, hc, n, hd⟩ := p1.isList
  obtain ⟨⟨cls2, dd2, data2, sl2⟩, ho2, hc2, n2, hd2⟩ := p2.isList
  simp only at hc hd hc2 hd2
  subst hc hd hc2 hd2
  have e : its.toArray ++ its2.toArray = (its ++ its2).toArray := by simp
  refine concat_meets ⟨_, ho, rfl⟩ ⟨_, ho2, rfl⟩ noFill_list_add seq_list_add PySem.F.slot_list_add PySem.F.entry_list_add (PySem.F.args_list_add_2 _ _) (list_addW l b its.toArray its2.toArray n n2 dd dd2 sl sl2 (by rw [List.size_toArray, List.size_toArray]; omega)) ⟨ho, ho2, ?_⟩
  rw [e]
  exact ⟨.ref _, _, I.lnew (t' := s.toks) (r.append r2) (by rw [List.length_append]; omega), rfl, q _ I.fresh⟩
end L2
namespace L2
open PySem PySem.Spec PyProof.Rows
section
variable {X : Cx} {pins : Pn} {σ : St} {H : Hp} {s : Shared} {h' : Heap}
theorem Inv.turnedL {t' : Nat} {fp : List Addr} (I : Inv X pins σ H s) (k : ∀ b o, b ∉ fp → s.heap.get? b = some o → h'.get? b = some o) (hf : ∀ b ∈ fp, FpOk X pins H b) : Inv X pins σ H { s with heap := h', toks := t' } := by
  have nit : ∀ b u, H b = some u → b ∉ fp := fun b u e z => by rw [(hf b z).1] at e; cases e
  refine I.step (g' := s.gens) (d' := s.drawn) (ch := fp) (fun b hb => ?_) (fun b o _ _ hc e _ => k b o hc e) (fun b o _ _ hc e _ => ⟨o.slots, k b o hc e⟩) (fun _ _ _ _ n => n)
    (fun b o hc e => ⟨o, k b o hc e⟩) (fun _ _ e => e) (fun _ _ _ e => e) (fun b ps e => ⟨#[], by rw [e]; simp⟩) (fun m hm => ?_) (fun b u e => ?_) I.bare
  · obtain ⟨_, f1, _, f3, f4, f5⟩ := hf b hb
    exact ⟨f3, f1, f4, f5⟩
  · obtain ⟨o, es, ep, ho, r⟩ := hm
    exact ⟨o, es, ep, k _ o (fun z => (hf _ z).2.1 rfl) ho, r⟩
  · refine (I.hok b u e).stay (fun c v hc q => k c v ?_ q) (fun _ q => q) fun _ _ q => q
    rcases hc with z | z
    · rw [z]; exact nit b u e
    · exact nit c _ z
end
section
variable {X : Cx}
end
section
variable {σ : St} {H : Hp} {g : TG} {tb : TS} {nx : St → Hp → Prop} {rt : VK} {K : Fg} {a : Addr} {xs : List V}
end
end L2
namespace L2
open PySem PySem.Spec PyProof.Rows
section
variable {κ : Type} [DecidableEq κ]
end
abbrev KT (H : Hp) : List (List Key × V) → List (List Key × Addr × Value) → Prop := Paired fun p q => p.1 = q.1 ∧ H q.2.1 = some (.tup (p.1.map kV)) ∧ RelV p.2 q.2.2
section
variable {P : Program} {w : World} {H : Hp} {h : Heap} {a : Addr}
end
section
variable {X : Cx} {pins : Pn} {σ : St} {H : Hp} {s : Shared} {a : Addr} {y v : V} {u r : Value} {o : Option V} {A : Around} {E : Value → Shared → Prop}
end
section
variable {X : Cx} {pins : Pn} {σ : St} {H : Hp} {s : Shared} {a : Addr} {kvs : List (Key × V)} {k : Key} {u : Value} {A : Around} {E : Value → Shared → Prop}
end
section
variable {X : Cx} {o i e value : Expr} {pos pos' tpos : Pos} {td ty tv : TE}
end
section
variable {X : Cx} {pos : Pos}
end
section
variable {X : Cx} {pins : Pn} {σ : St} {H : Hp} {s : Shared} {a : Addr} {y d : V} {u r : Value} {o : Option V} {A : Around} {E : Value → Shared → Prop}
end
section
variable {X : Cx} {o e f : Expr} {apos cpos : Pos} {td ty tx : TE}
end
section
variable {X : Cx} {pins : Pn} {σ : St} {H : Hp} {s : Shared} {a : Addr} {kvs : List (Key × V)} {A : Around} {E : Value → Shared → Prop}
end
section
variable {X : Cx} {pins : Pn} {σ : St} {H : Hp} {s : Shared} {a : Addr} {y : V} {u : Value} {A : Around} {E : Value → Shared → Prop}
end
end L2
namespace L2
open PySem PySem.Spec PyProof.Rows
section
variable {X : Cx}
end
section
variable {κ : Type} [DecidableEq κ]
end
end L2
namespace L2
open PySem PySem.Spec PyProof.Rows PySem.Builtin
section
variable {X : Cx}
end
theorem compOkG2_of {X : Cx} {t1 t2 : Str} {sc : Scope} {fr : List (Str × Nat)} {osc : Scope} {N : List Str} (ho : X.env.scope = osc) (hN : X.N = N) (h1 : compOkB osc N t1 sc fr = true) (h2 : compOkB osc N t2 sc fr = true) (hne : t1 ≠ t2) : CompOkG X [t1, t2] sc fr ∧ sc.names.lookup t1 = some .local ∧ sc.names.lookup t2 = some .local := by
  have o1 := compOk_of ho hN h1
  have o2 := compOk_of ho hN h2
  refine ⟨⟨o1.kind, o1.nocell, o1.locs, o1.fre, ?_, o1.vis⟩, o1.tgl, o2.tgl⟩
  obtain ⟨a1, a2⟩ := List.nodup_cons.mp o1.nd
  exact List.nodup_cons.mpr ⟨fun m => (List.mem_cons.mp m).elim hne a1, o2.nd⟩
theorem pe_lcP {X : Cx} {elt iter : Expr} {t1 t2 : Str} {x1 : _} {p1 p2 p3 pos : Pos} {sc : Scope} {fr : List (Str × Nat)} {wi : TI} {te : TE} (hc : X.calm = true) (ok : CompOkG X [t1, t2] sc fr ∧ sc.names.lookup t1 = some .local ∧ sc.names.lookup t2 = some .local)
    (hi : PI X (.Tuple [.Name t1 p1, .Name t2 p2] x1 p3) iter wi) (he : ∀ cl C s3 H3 fp, PE (X.blk ([t1, t2] ++ fr.map (·.1)) sc cl C s3 H3 fp) elt te) (hs : ∀ x, foldedSetIterable iter X.env x = pure x := by intro _; rfl) :
    PE X (.ListComp elt [⟨.Tuple [.Name t1 p1, .Name t2 p2] x1 p3, iter, [], 0⟩] sc pos) (tLCG 2 fr wi (gTup X.K 2 (gCons (gName 0) (gCons (gName 1) gNil))) tYes te) :=
  pe_lcG (tgs := [t1, t2]) hc ok.1 hi (fun _ _ _ _ _ => pg_tup hc (pgs_cons (pg_name ok.1.nd rfl (.inl (lookup_relabel_local ok.2.1)) (.inr (lookup_relabel_local ok.2.1))) (pgs_cons (pg_name ok.1.nd rfl (.inl (lookup_relabel_local ok.2.2)) (.inr (lookup_relabel_local ok.2.2))) pgs_nil))) (fun _ _ _ _ _ => pif_nil) he hs
end L2
namespace L2
open PySem PySem.Spec PyProof.Rows
end L2
namespace L2
open PySem PySem.Spec PyProof.Rows
section
open PySem.W PySem.Calls PySem.Builtin PySem.Builtin.ObjectAttr PySem.Builtin.Getset_descriptor
variable {prog : Program} {w : World} {A : Around} {E : Value → Shared → Prop} {s : Shared} {K : Frag} {a C : Addr} {oe : Obj}
end
end L2
namespace L2
open PySem PySem.Spec PyProof.Rows
section
variable {X : Cx} {pins : Pn} {σ : St} {H H' : Hp} {s s' : Shared}
end
section
variable {X : Cx} {pins : Pn} {σ : St} {H : Hp} {s s' : Shared} {E : XK} {ex : Value} {x n : Str} {T C : Addr} {np hpos : Pos} {b0 : Stmt} {suite : List Stmt} {ts : Addr → TS} {D : Ends} {j : Nat}
theorem ObjOk.thereIs {P : Program} {w : World} {H : Hp} {h : Heap} {a : Addr} {o : HO} (x : ObjOk P w H h a o) : ∃ ob, h.get? a = some ob := by
  cases o with
  | lst xs => obtain ⟨_, _, _, _, e⟩ := x; exact ⟨_, e⟩
  | tup xs => obtain ⟨_, _, _, o, e, _⟩ := x; exact ⟨_, e⟩
  | dK kvs => obtain ⟨_, _, _, _, o, _, _, e, _⟩ := x; exact ⟨_, e⟩
  | dT kvs => obtain ⟨_, _, _, _, o, _, _, e, _⟩ := x; exact ⟨_, e⟩
  | set S n => obtain ⟨o, _, _, _, e, _⟩ := x; exact ⟨_, e⟩
  | ins C dx fs => obtain ⟨_, _, _, e, _⟩ := x; exact ⟨_, e⟩
  | own y => obtain ⟨_, e⟩ := x; exact ⟨_, e⟩
  | xd fs => obtain ⟨_, ⟨_, _, _, e, _⟩, _⟩ := x; exact ⟨_, e⟩
  | rng lo hi => obtain ⟨_, _, _, e⟩ := x; exact ⟨_, e⟩
  | frz ob u => obtain ⟨e, _⟩ := x; exact ⟨_, e⟩
  | tbl ps => exact ⟨_, show h.get? a = some _ from x⟩
  | met f y => exact ⟨_, show h.get? a = some _ from x⟩
  | ext φ => obtain ⟨_, ⟨_, e⟩, _⟩ := x; exact ⟨_, e⟩
end
section
variable {X : Cx} {k : Nat} {f : Addr} {fd : FuncData} {ps : List Str} {sp : Sp} {dvs : List V} {ds : List Value} {fx x cx n : Str} {p cpos px apos np hpos pos : Pos} {e : Expr} {es : List Expr} {t : TA} {T C : Addr} {b0 : Stmt} {suite : List Stmt} {ts : Addr → TS} {i j : Nat}
end
end L2
namespace L2
open PySem PySem.Spec PyProof.Rows
section
variable {X : Cx} {pins : Pn} {σ : St} {H : Hp} {s : Shared}
end
section
variable {X : Cx} {C : Addr} {b : Bool}
end
section
variable {P : Program} {w : World} {K : Fg} {mg : Str → Option Value} {base : Heap}
end
section
variable {X : Cx} {k : Nat} {f : Addr} {fd : FuncData} {ps : List Str} {sp : Sp} {x : Str} {p pos : Pos} {e : Expr} {es : List Expr} {t : TA}
end
section
variable {X : Cx} {pins : Pn} {σ : St} {H : Hp} {s s' : Shared} {E : XK} {ex : Value} {x n : Str} {T C : Addr} {np hpos : Pos} {b0 : Stmt} {suite : List Stmt} {ts : Addr → TS} {D : Ends} {j : Nat}
end
section
variable {X : Cx} {k : Nat} {f : Addr} {fd : FuncData} {ps : List Str} {sp : Sp} {dvs : List V} {ds : List Value} {fx x cx n : Str} {p cpos px apos np hpos pos : Pos} {e : Expr} {es : List Expr} {t : TA} {T C : Addr} {b0 : Stmt} {suite : List Stmt} {ts : Addr → TS} {i j : Nat}
end
end L2
namespace L2
open PySem PySem.Spec PyProof.Rows
end L2
namespace L2
open PySem PySem.Spec PyProof.Rows
section
variable {K : Fg}
end
end L2
namespace L2
open PySem PySem.Spec PyProof.Rows
def QIt (q : Bool) (h : Heap) (n a : Addr) (k : Nat) : Prop := ∃ o, h.get? n = some o ∧ o.cls = .type (if q = true then "tuple_iterator" else "list_iterator") ∧ o.data = .fields #[.ref a, .int k 0]
def QSq (q : Bool) (h : Heap) (a : Addr) (us : Array Value) : Prop := ∃ o, h.get? a = some o ∧ o.cls = .type (if q = true then "tuple" else "list") ∧ ∃ n, o.data = .seq us n
theorem QIt.at {q : Bool} {h h' : Heap} {n a : Addr} {k : Nat} (x : QIt q h n a k) (e : ∀ o, h.get? n = some o → h'.get? n = some o) : QIt q h' n a k := by
  obtain ⟨o, ho, r⟩ := x; exact ⟨o, e o ho, r⟩
theorem QSq.at {q : Bool} {h h' : Heap} {a : Addr} {us : Array Value} (x : QSq q h a us) (e : ∀ o, h.get? a = some o → h'.get? a = some o) : QSq q h' a us := by
  obtain ⟨o, ho, r⟩ := x; exact ⟨o, e o ho, r⟩
section
variable {P : Program} {w : World} {A : Around} {E : Value → Shared → Prop} {s : Shared} {q : Bool} {n a : Addr} {k : Nat} {us : Array Value} {u : Value}
theorem q_next {Q : Value → Shared → Prop} (hi : QIt q s.heap n a k) (hs : QSq q s.heap a us) (hu : us[k]? = some u) (go : ∀ h', QIt q h' n a (k + 1) → Heap.SameBut n s.heap h' → Q u { s with heap := h' }) : wpAny (model P w) A (Builtin.SmallTypes.nextOf (.ref n)) Q E s := by
  cases q with
  | false => exact wpAny_nextOf_list_item hi hs hu go
  | true =>
    have ty : s.heap.IsTupleIter n a k := hi
    obtain ⟨oi, e1, e2, e3⟩ := hi
    obtain ⟨os, e4, _, m, e5⟩ := hs
    unfold Builtin.SmallTypes.nextOf
    refine wpAny_bind (wpAny_callSpecial?_slot (name := Str.ofString "__next__") ty.typeIs F.slot_tuple_iterator_next (wpAny_call_entry F.slot_tuple_iterator_next ty.typeIs F.entry_tuple_iterator_next ?_ (F.args_tuple_iterator_next_1 _)))
    refine wpAny_bind (m := field (.ref n) 0) (wpAny_field e1 e3 (x := .ref a) rfl ?_)
    show wpAny _ _ (ite ((Value.ref a == Value.none) = true) _ _) _ _ s; rw [if_neg (show ¬ (Value.ref a == Value.none) = true from nofun)]
    refine wpAny_bind (m := field (.ref n) 1) (wpAny_field e1 e3 (x := .int k 0) rfl (wpAny_bind (m := seqItems? (.ref a)) (wpAny_seqItems e4 e5 ?_)))
    simp only [hu, Int.toNat_natCast]
    refine wpAny_bind (wpAny_setField e1 e3 (by simp) (wpAny_pure ⟨u, rfl, wpAny_pure (go _ ⟨_, Heap.get?_update_self _ e1 (Obj.isFreed_of_fields (Obj.data_mapFields e3 _)), (Obj.cls_mapFields ..).trans e2, ?_⟩ (Heap.SameBut.update ..))⟩))
    rw [Obj.data_mapFields e3]; simp [rawInt]
theorem q_stop {Q : Value → Shared → Prop} (hh : A.handled = none) (hi : QIt q s.heap n a k) (hs : QSq q s.heap a us) (hu : us[k]? = none) (go : ∀ h' e, Heap.ExtBut n s.heap h' → (∃ o, h'.get? e = some o ∧ o.cls = .type "StopIteration") → E (.ref e) { s with heap := h' }) : wpAny (model P w) A (Builtin.SmallTypes.nextOf (.ref n)) Q E s := by
  cases q with
  | false => exact wpAny_nextOf_list_end hh hi hs hu go
  | true =>
    have ty : s.heap.IsTupleIter n a k := hi
    obtain ⟨oi, e1, e2, e3⟩ := hi
    obtain ⟨os, e4, _, m, e5⟩ := hs
    unfold Builtin.SmallTypes.nextOf
    refine wpAny_bind (wpAny_callSpecial?_slot (name := Str.ofString "__next__") ty.typeIs F.slot_tuple_iterator_next (wpAny_call_entry F.slot_tuple_iterator_next ty.typeIs F.entry_tuple_iterator_next ?_ (F.args_tuple_iterator_next_1 _)))
    refine wpAny_bind (m := field (.ref n) 0) (wpAny_field e1 e3 (x := .ref a) rfl ?_)
    show wpAny _ _ (ite ((Value.ref a == Value.none) = true) _ _) _ _ s; rw [if_neg (show ¬ (Value.ref a == Value.none) = true from nofun)]
    refine wpAny_bind (m := field (.ref n) 1) (wpAny_field e1 e3 (x := .int k 0) rfl (wpAny_bind (m := seqItems? (.ref a)) (wpAny_seqItems e4 e5 ?_)))
    simp only [hu, Int.toNat_natCast]
    refine wpAny_bind (wpAny_rule (wpAny_bind (wpAny_setField e1 e3 (by simp) (wpAny_bind (m := newExc (.type "StopIteration") []) ?_))))
    simp only [newTuple, newExc]
    refine wpAny_bind (wpAny_newObj_type (wpAny_bind (m := firstArgMember _ _) (wpAny_of_eq (a := Value.none) (by first | rfl | (simp only [firstArgMember]; rfl)) (wpAny_newObj_type ?_ (by size_fits)))) (by size_fits))
    simp only [raiseNew]
    refine wpAny_bind (wpAny_handled ?_)
    first | rw [hh] | rw [show A.in1.handled = none from hh]
    exact wpAny_bind (wpAny_pure (wpAny_throw (go _ _ (((Heap.SameBut.update ..).extBut.push _).push _) ⟨_, Heap.get?_push_size _ rfl, rfl⟩)))
end
section
variable {P : Program} {w : World} {A : Around} {E : Value → Shared → Prop} {s : Shared} {q1 q2 : Bool} {z ti to n1 n2 a1 a2 : Addr} {k : Nat} {us vs : Array Value} {u v c d : Value}
structure ZAp (z ti to n1 n2 a1 a2 : Addr) : Prop where
  nd : [z, ti, to, n1, n2].Nodup
  x1 : a1 ∉ [z, to, n1, n2]
  x2 : a2 ∉ [z, to, n1, n2]
theorem z_item {Q : Value → Shared → Prop} (D : ZAp z ti to n1 n2 a1 a2) (hz : IsZip s.heap z ti to .none) (hi : IsPair s.heap ti (.ref n1) (.ref n2)) (ho : IsPair s.heap to c d)
    (h1 : QIt q1 s.heap n1 a1 k) (h2 : QIt q2 s.heap n2 a2 k) (l1 : QSq q1 s.heap a1 us) (l2 : QSq q2 s.heap a2 vs) (hu : us[k]? = some u) (hv : vs[k]? = some v)
    (go : ∀ h', IsZip h' z ti to (rawInt s.heap.objs.size) → IsPair h' to u v → QIt q1 h' n1 a1 (k + 1) → QIt q2 h' n2 a2 (k + 1) → IsPair h' s.heap.objs.size u v → h'.objs.size = s.heap.objs.size + 1 →
      (∀ b o, b ∉ [z, to, n1, n2] → s.heap.get? b = some o → h'.get? b = some o) → Q (.ref s.heap.objs.size) { s with heap := h' }) :
    wpAny (model P w) A (Builtin.«zip.__next__» ⟨[.ref z], []⟩) (fun fin s' => ∃ r, fin = .done (.ret r) ∧ Q r s') E s := by
  obtain ⟨nd, x1, x2⟩ := D
  simp only [List.nodup_cons, List.mem_cons, List.not_mem_nil, or_false, not_or, List.nodup_nil, not_false_eq_true, and_true] at nd x1 x2
  obtain ⟨⟨zti, zto, zn1, zn2⟩, ⟨tito, tin1, tin2⟩, ⟨ton1, ton2⟩, n12⟩ := nd
  refine wpAny_bind (m := field (.ref z) 2) (wpAny_field hz rfl (x := .bool false) rfl (wpAny_bind (m := field (.ref z) 3) (wpAny_field hz rfl (x := .ref ti) rfl (wpAny_bind (wpAny_seqItems hi rfl ?_)))))
  refine wpAny_bind (m := Builtin.SmallTypes.ownedTupleIsFree (.ref z)) ?_
  unfold Builtin.SmallTypes.ownedTupleIsFree
  refine wpAny_bind (wpAny_field hz rfl (x := .none) rfl (wpAny_pure ?_))
  simp only [if_true]
  refine wpAny_bind (wpAny_rule (wpAny_bind (wpAny_field hz rfl (x := .ref to) rfl (wpAny_bind (wpAny_setField_rec hz (by simp) fun g1 z1 s1 => wpAny_bind ?_)))))
  have z1 : IsZip g1 z ti to .ellipsis := z1
  simp only [List.forIn_cons, List.forIn_nil, List.zipIdx_cons, List.zipIdx_nil]
  refine wpAny_bind (wpAny_bind (wpAny_onRaise (wpAny_bind (m := Builtin.SmallTypes.nextOf (.ref n1)) (q_next (h1.at fun o e => s1.extBut _ _ (Ne.symm zn1) e) (l1.at fun o e => s1.extBut _ _ x1.1 e) hu fun g2 i2 s2 => wpAny_pure ?_))))
  have t2 : IsPair g2 to c d := s2.extBut _ _ ton1 (s1.extBut _ _ (Ne.symm zto) ho)
  refine wpAny_bind (wpAny_seqItems t2 rfl (wpAny_bind (wpAny_updateSeq_pair t2 fun g3 t3 s3 => wpAny_bind (wpAny_letGo (wpAny_pure ?_)))))
  have t3 : IsPair g3 to u d := t3
  refine wpAny_bind (wpAny_bind (wpAny_onRaise (wpAny_bind (m := Builtin.SmallTypes.nextOf (.ref n2)) (q_next (h2.at fun o e => s3.extBut _ _ (Ne.symm ton2) (s2.extBut _ _ (Ne.symm n12) (s1.extBut _ _ (Ne.symm zn2) e))) (l2.at fun o e => s3.extBut _ _ x2.2.1 (s2.extBut _ _ x2.2.2.1 (s1.extBut _ _ x2.1 e))) hv fun g4 i4 s4 => wpAny_pure ?_))))
  have t4 : IsPair g4 to u d := s4.extBut _ _ ton2 t3
  refine wpAny_bind (wpAny_seqItems t4 rfl (wpAny_bind (wpAny_updateSeq_pair t4 fun g5 t5 s5 => wpAny_bind (wpAny_letGo (wpAny_pure (wpAny_pure ?_))))))
  have t5 : IsPair g5 to u v := t5
  refine wpAny_bind (wpAny_seqItems t5 rfl (wpAny_bind (wpAny_newTuple ?_)))
  have sz : g5.objs.size = s.heap.objs.size := by rw [s5.1, s4.1, s3.1, s2.1, s1.1]
  have z5 : IsZip g5 z ti to .ellipsis := s5.extBut _ _ zto (s4.extBut _ _ zn2 (s3.extBut _ _ zto (s2.extBut _ _ zn1 z1)))
  have k5 : ∀ b o, b ∉ [z, to, n1, n2] → s.heap.get? b = some o → g5.get? b = some o := fun b o hb e => by
    simp only [List.mem_cons, List.not_mem_nil, or_false, not_or] at hb
    exact s5.extBut _ _ hb.2.1 (s4.extBut _ _ hb.2.2.2 (s3.extBut _ _ hb.2.1 (s2.extBut _ _ hb.2.2.1 (s1.extBut _ _ hb.1 e))))
  have i1 : QIt q1 g5 n1 a1 (k + 1) := i2.at fun o e => s5.extBut _ _ (Ne.symm ton1) (s4.extBut _ _ n12 (s3.extBut _ _ (Ne.symm ton1) e))
  have i2' : QIt q2 g5 n2 a2 (k + 1) := i4.at fun o e => s5.extBut _ _ (Ne.symm ton2) e
  have zlt : z < g5.objs.size := Heap.lt_size z5
  refine wpAny_bind (m := Builtin.SmallTypes.ownedTupleHandOut (.ref z) (.ref g5.objs.size)) ?_
  unfold Builtin.SmallTypes.ownedTupleHandOut
  refine wpAny_bind (wpAny_setField_rec (show IsZip (g5.push { cls := .type "tuple", data := .seq #[u, v] }) z ti to .ellipsis from Heap.get?_push_of_some _ z5) (by simp) fun g7 z7 s7 => ?_)
  have z7 : IsZip g7 z ti to (rawInt g5.objs.size) := z7
  refine wpAny_setField_rec z7 (by simp) fun g8 z8 s8 => wpAny_pure ⟨_, rfl, ?_⟩
  have z8 : IsZip g8 z ti to (rawInt g5.objs.size) := z8
  have up : ∀ b o, b ≠ z → g5.get? b = some o → g8.get? b = some o := fun b o hb e => s8.extBut _ _ hb (s7.extBut _ _ hb (Heap.get?_push_of_some _ e))
  have t8 : IsPair g8 g5.objs.size u v := s8.extBut _ _ (Nat.ne_of_gt zlt) (s7.extBut _ _ (Nat.ne_of_gt zlt) (Heap.get?_push_size _ rfl))
  have sz8 : g8.objs.size = g5.objs.size + 1 := by rw [s8.1, s7.1, Heap.size_push]
  show Q (.ref g5.objs.size) _
  rw [sz] at z8 t8 sz8 ⊢
  exact go g8 z8 (up _ _ (Ne.symm zto) t5) (i1.at fun o e => up _ o (Ne.symm zn1) e) (i2'.at fun o e => up _ o (Ne.symm zn2) e) t8 sz8 fun b o hb e => up b o (fun x => hb (by simp [x])) (k5 b o hb e)
theorem z_last {Q : PySem.Fin → Shared → Prop} (hh : A.handled = none) (D : ZAp z ti to n1 n2 a1 a2) (hz : IsZip s.heap z ti to .none) (hi : IsPair s.heap ti (.ref n1) (.ref n2)) (ho : IsPair s.heap to c d)
    (h1 : QIt q1 s.heap n1 a1 k) (h2 : QIt q2 s.heap n2 a2 k) (l1 : QSq q1 s.heap a1 us) (l2 : QSq q2 s.heap a2 vs) (hend : us[k]? = none ∨ vs[k]? = none)
    (go : ∀ h' e, (∀ b o, b ∉ [z, to, n1, n2] → s.heap.get? b = some o → h'.get? b = some o) → (∃ o, h'.get? e = some o ∧ o.cls = .type "StopIteration") → E (.ref e) { s with heap := h' }) :
    wpAny (model P w) A (Builtin.«zip.__next__» ⟨[.ref z], []⟩) Q E s := by
  obtain ⟨nd, x1, x2⟩ := D
  simp only [List.nodup_cons, List.mem_cons, List.not_mem_nil, or_false, not_or, List.nodup_nil, not_false_eq_true, and_true] at nd x1 x2
  obtain ⟨⟨zti, zto, zn1, zn2⟩, ⟨tito, tin1, tin2⟩, ⟨ton1, ton2⟩, n12⟩ := nd
  refine wpAny_bind (m := field (.ref z) 2) (wpAny_field hz rfl (x := .bool false) rfl (wpAny_bind (m := field (.ref z) 3) (wpAny_field hz rfl (x := .ref ti) rfl (wpAny_bind (wpAny_seqItems hi rfl ?_)))))
  refine wpAny_bind (m := Builtin.SmallTypes.ownedTupleIsFree (.ref z)) ?_
  unfold Builtin.SmallTypes.ownedTupleIsFree
  refine wpAny_bind (wpAny_field hz rfl (x := .none) rfl (wpAny_pure ?_))
  simp only [if_true]
  refine wpAny_bind (wpAny_rule (wpAny_bind (wpAny_field hz rfl (x := .ref to) rfl (wpAny_bind (wpAny_setField_rec hz (by simp) fun g1 z1 s1 => wpAny_bind ?_)))))
  have z1 : IsZip g1 z ti to .ellipsis := z1
  simp only [List.forIn_cons, List.forIn_nil, List.zipIdx_cons, List.zipIdx_nil]
  cases hu : us[k]? with
  | none =>
    refine wpAny_bind (wpAny_bind (wpAny_onRaise (wpAny_bind (m := Builtin.SmallTypes.nextOf (.ref n1)) (q_stop hh (h1.at fun o e => s1.extBut _ _ (Ne.symm zn1) e) (l1.at fun o e => s1.extBut _ _ x1.1 e) hu fun g2 e s2 he => ?_))))
    obtain ⟨oe, hoe, hce⟩ := he
    have z2 : IsZip g2 z ti to .ellipsis := s2 _ _ zn1 z1
    have ez : e ≠ z := fun x => by rw [x, z2] at hoe; cases hoe; simp at hce
    refine wpAny_setField_rec z2 (by simp) fun g3 _ s3 => go g3 e (fun b o hb x => ?_) ⟨oe, s3.extBut _ _ ez hoe, hce⟩
    simp only [List.mem_cons, List.not_mem_nil, or_false, not_or] at hb
    exact s3.extBut _ _ hb.1 (s2 _ _ hb.2.2.1 (s1.extBut _ _ hb.1 x))
  | some u =>
    have hv : vs[k]? = none := by
      rcases hend with h | h
      · rw [hu] at h; cases h
      · exact h
    refine wpAny_bind (wpAny_bind (wpAny_onRaise (wpAny_bind (m := Builtin.SmallTypes.nextOf (.ref n1)) (q_next (h1.at fun o e => s1.extBut _ _ (Ne.symm zn1) e) (l1.at fun o e => s1.extBut _ _ x1.1 e) hu fun g2 i2 s2 => wpAny_pure ?_))))
    have t2 : IsPair g2 to c d := s2.extBut _ _ ton1 (s1.extBut _ _ (Ne.symm zto) ho)
    refine wpAny_bind (wpAny_seqItems t2 rfl (wpAny_bind (wpAny_updateSeq_pair t2 fun g3 t3 s3 => wpAny_bind (wpAny_letGo (wpAny_pure ?_)))))
    refine wpAny_bind (wpAny_bind (wpAny_onRaise (wpAny_bind (m := Builtin.SmallTypes.nextOf (.ref n2)) (q_stop hh (h2.at fun o e => s3.extBut _ _ (Ne.symm ton2) (s2.extBut _ _ (Ne.symm n12) (s1.extBut _ _ (Ne.symm zn2) e))) (l2.at fun o e => s3.extBut _ _ x2.2.1 (s2.extBut _ _ x2.2.2.1 (s1.extBut _ _ x2.1 e))) hv fun g4 e s4 he => ?_))))
    obtain ⟨oe, hoe, hce⟩ := he
    have z4 : IsZip g4 z ti to .ellipsis := s4 _ _ zn2 (s3.extBut _ _ zto (s2.extBut _ _ zn1 z1))
    have ez : e ≠ z := fun x => by rw [x, z4] at hoe; cases hoe; simp at hce
    refine wpAny_setField_rec z4 (by simp) fun g5 _ s5 => go g5 e (fun b o hb x => ?_) ⟨oe, s5.extBut _ _ ez hoe, hce⟩
    simp only [List.mem_cons, List.not_mem_nil, or_false, not_or] at hb
    exact s5.extBut _ _ hb.1 (s4 _ _ hb.2.2.2 (s3.extBut _ _ hb.2.1 (s2.extBut _ _ hb.2.2.1 (s1.extBut _ _ hb.1 x))))
theorem pn_item {Q : Option Value → Shared → Prop} (D : ZAp z ti to n1 n2 a1 a2) (hz : IsZip s.heap z ti to .none) (hi : IsPair s.heap ti (.ref n1) (.ref n2)) (ho : IsPair s.heap to c d)
    (h1 : QIt q1 s.heap n1 a1 k) (h2 : QIt q2 s.heap n2 a2 k) (l1 : QSq q1 s.heap a1 us) (l2 : QSq q2 s.heap a2 vs) (hu : us[k]? = some u) (hv : vs[k]? = some v)
    (go : ∀ h', IsZip h' z ti to (rawInt s.heap.objs.size) → IsPair h' to u v → QIt q1 h' n1 a1 (k + 1) → QIt q2 h' n2 a2 (k + 1) → IsPair h' s.heap.objs.size u v → h'.objs.size = s.heap.objs.size + 1 →
      (∀ b o, b ∉ [z, to, n1, n2] → s.heap.get? b = some o → h'.get? b = some o) → Q (some (.ref s.heap.objs.size)) { s with heap := h' }) : wpAny (model P w) A (pyNext (.ref z)) Q E s := by
  have ty : s.TypeIs (.ref z) "zip" := ⟨_, hz, rfl⟩
  unfold pyNext
  exact wpAny_bind (wpAny_attempt (wpAny_callSpecial?_slot (name := Str.ofString "__next__") ty F.slot_zip_next (wpAny_call_entry F.slot_zip_next ty F.entry_zip_next (z_item D hz hi ho h1 h2 l1 l2 hu hv fun h' b1 b2 b3 b4 b5 b6 b7 => wpAny_pure (go h' b1 b2 b3 b4 b5 b6 b7)) (F.args_zip_next_1 _))))
theorem pn_last {Q : Option Value → Shared → Prop} (hh : A.handled = none) (D : ZAp z ti to n1 n2 a1 a2) (hz : IsZip s.heap z ti to .none) (hi : IsPair s.heap ti (.ref n1) (.ref n2)) (ho : IsPair s.heap to c d)
    (h1 : QIt q1 s.heap n1 a1 k) (h2 : QIt q2 s.heap n2 a2 k) (l1 : QSq q1 s.heap a1 us) (l2 : QSq q2 s.heap a2 vs) (hend : us[k]? = none ∨ vs[k]? = none)
    (go : ∀ h', (∀ b o, b ∉ [z, to, n1, n2] → s.heap.get? b = some o → h'.get? b = some o) → Q none { s with heap := h' }) : wpAny (model P w) A (pyNext (.ref z)) Q E s := by
  have ty : s.TypeIs (.ref z) "zip" := ⟨_, hz, rfl⟩
  unfold pyNext
  refine wpAny_bind (wpAny_attempt (wpAny_callSpecial?_slot (name := Str.ofString "__next__") ty F.slot_zip_next (wpAny_call_entry F.slot_zip_next ty F.entry_zip_next (z_last hh D hz hi ho h1 h2 l1 l2 hend fun h' e hk he => ?_) (F.args_zip_next_1 _))))
  obtain ⟨o, e1, e2⟩ := he
  exact wpAny_bind (wpAny_isInstance (T := "StopIteration") (b := true) ⟨o, e1, e2⟩ isSubtype_stop (wpAny_pure (go _ hk)))
end
abbrev itO (q : Bool) (a : Addr) : Obj := { cls := .type (if q = true then "tuple_iterator" else "list_iterator"), data := .fields #[.ref a, .int 0 0] }
theorem q_iter {P : Program} {w : World} {A : Around} {E : Value → Shared → Prop} {s : Shared} {q : Bool} {a : Addr} {us : Array Value} {Q : Value → Shared → Prop} (hs : QSq q s.heap a us) (go : Q (.ref s.heap.objs.size) { s with heap := s.heap.push (itO q a) }) : wpAny (model P w) A (pyIter (.ref a)) Q E s := by
  cases q with
  | false => exact wpAny_pyIter_list hs go
  | true => exact wpAny_pyIter_tuple hs go
abbrev zh1 (h : Heap) (q1 : Bool) (a1 : Addr) : Heap := h.push (itO q1 a1)
abbrev zh2 (h : Heap) (q1 q2 : Bool) (a1 a2 : Addr) : Heap := (zh1 h q1 a1).push (itO q2 a2)
abbrev zh3 (h : Heap) (q1 q2 : Bool) (a1 a2 : Addr) : Heap := (zh2 h q1 q2 a1 a2).push { cls := .type "tuple", data := .seq #[.ref h.objs.size, .ref (zh1 h q1 a1).objs.size] }
abbrev zh4 (h : Heap) (q1 q2 : Bool) (a1 a2 : Addr) : Heap := (zh3 h q1 q2 a1 a2).push { cls := .type "tuple", data := .seq #[.none, .none] }
abbrev zh5 (h : Heap) (q1 q2 : Bool) (a1 a2 : Addr) : Heap := (zh4 h q1 q2 a1 a2).push { cls := .type "zip", data := .fields #[.none, .bool false, .bool false, .ref (zh2 h q1 q2 a1 a2).objs.size, .ref (zh3 h q1 q2 a1 a2).objs.size] }
theorem z_made (q1 q2 : Bool) (a1 a2 : Addr) (us vs : Array Value) : Meets (Builtin.«zip.__new__» ⟨[.type "zip", .ref a1, .ref a2], []⟩) (fun _ R s => QSq q1 s.heap a1 us ∧ QSq q2 s.heap a2 vs ∧ R (.ok (.ret (.ref (zh4 s.heap q1 q2 a1 a2).objs.size))) { s with heap := zh5 s.heap q1 q2 a1 a2 }) :=
  .of_wp fun prog w A R s h => by
    obtain ⟨hp, g, d, tk, os⟩ := s
    obtain ⟨l1, l2, h⟩ := h
    have hsub := sub_zip
    have L1 : QSq q1 (Shared.heap ⟨hp, g, d, tk, os⟩) a1 us := l1
    have L2 : QSq q2 (Shared.heap ⟨hp.push (itO q1 a1), g, d, tk, os⟩) a2 vs := l2.at fun o e => Heap.get?_push_of_some _ e
    wp_walk using q_iter L1, q_iter L2
    exact ⟨_, rfl, h⟩
theorem z_call {P : Program} {w : World} {A : Around} {E : Value → Shared → Prop} {s : Shared} {q1 q2 : Bool} {a1 a2 : Addr} {us vs : Array Value} {Q : Value → Shared → Prop} (l1 : QSq q1 s.heap a1 us) (l2 : QSq q2 s.heap a2 vs)
    (go : ∀ h', IsZip h' (s.heap.objs.size + 4) (s.heap.objs.size + 2) (s.heap.objs.size + 3) .none → IsPair h' (s.heap.objs.size + 2) (.ref s.heap.objs.size) (.ref (s.heap.objs.size + 1)) → IsPair h' (s.heap.objs.size + 3) .none .none →
      QIt q1 h' s.heap.objs.size a1 0 → QIt q2 h' (s.heap.objs.size + 1) a2 0 → (∀ b o, s.heap.get? b = some o → h'.get? b = some o) → Q (.ref (s.heap.objs.size + 4)) { s with heap := h' }) : wpAny (model P w) A (call (.type "zip") [.ref a1, .ref a2]) Q E s := by
  refine callType_new F.called_zip (by decide) (F.typeCall_zip_2 _ _) (F.newCall_zip_2 _ _) (fun obj => F.args_object_init_3 obj _ _) F.entry_zip_new (z_made q1 q2 a1 a2 us vs) ⟨l1, l2, ?_⟩
  have y1 : (zh1 s.heap q1 a1).objs.size = s.heap.objs.size + 1 := Heap.size_push ..
  have y2 : (zh2 s.heap q1 q2 a1 a2).objs.size = s.heap.objs.size + 2 := by rw [Heap.size_push, y1]
  have y3 : (zh3 s.heap q1 q2 a1 a2).objs.size = s.heap.objs.size + 3 := by rw [Heap.size_push, y2]
  have y4 : (zh4 s.heap q1 q2 a1 a2).objs.size = s.heap.objs.size + 4 := by rw [Heap.size_push, y3]
  have p5 : (zh5 s.heap q1 q2 a1 a2).get? (zh4 s.heap q1 q2 a1 a2).objs.size = some _ := Heap.get?_push_size _ rfl
  have p4 : (zh5 s.heap q1 q2 a1 a2).get? (zh3 s.heap q1 q2 a1 a2).objs.size = some _ := Heap.get?_push_of_some _ (Heap.get?_push_size _ rfl)
  have p3 : (zh5 s.heap q1 q2 a1 a2).get? (zh2 s.heap q1 q2 a1 a2).objs.size = some _ := Heap.get?_push_of_some _ (Heap.get?_push_of_some _ (Heap.get?_push_size _ rfl))
  have p2 : (zh5 s.heap q1 q2 a1 a2).get? (zh1 s.heap q1 a1).objs.size = some _ := Heap.get?_push_of_some _ (Heap.get?_push_of_some _ (Heap.get?_push_of_some _ (Heap.get?_push_size _ rfl)))
  have p1 : (zh5 s.heap q1 q2 a1 a2).get? s.heap.objs.size = some _ := Heap.get?_push_of_some _ (Heap.get?_push_of_some _ (Heap.get?_push_of_some _ (Heap.get?_push_of_some _ (Heap.get?_push_size _ rfl))))
  show _ ∧ _
  rw [y2, y3, y4] at p5
  rw [y1, y2] at p3
  rw [y3] at p4
  rw [y1] at p2
  rw [y4]
  exact ⟨⟨_, p5, rfl⟩, go _ p5 p3 p4 ⟨_, p1, rfl, rfl⟩ ⟨_, p2, rfl, rfl⟩ fun b o x => Heap.get?_push_of_some _ (Heap.get?_push_of_some _ (Heap.get?_push_of_some _ (Heap.get?_push_of_some _ (Heap.get?_push_of_some _ x))))⟩
end L2
namespace L2
open PySem PySem.Spec PyProof.Rows
def SqB (q : Bool) (K : Fg) (H : Hp) (a : Addr) (xs : List V) : Prop := if q = true then SqT K H a xs else SqL K H a xs
section
variable {X : Cx} {pins : Pn} {σ : St} {H : Hp} {s : Shared} {q : Bool} {a : Addr} {xs ys : List V}
theorem Inv.sqB (I : Inv X pins σ H s) (h : SqB q X.K H a xs) : ∃ its : List Value, Vals xs its ∧ QSq q s.heap a its.toArray := by
  cases q with
  | false =>
    obtain ⟨its, r, p, _⟩ := I.list h
    exact ⟨its, r, p.isList⟩
  | true =>
    obtain ⟨its, r, p, _⟩ := I.tuple h
    exact ⟨its, r, show s.heap.IsTuple a its.toArray from p⟩
theorem Inv.sqB_inj (I : Inv X pins σ H s) (h : SqB q X.K H a xs) (g : SqB q X.K H a ys) : xs = ys := by
  cases q with
  | false => exact I.list_inj h g
  | true => exact I.tuple_inj h g
end
def Itz (K : Fg) (q1 q2 : Bool) (a1 a2 : Addr) : It :=
  ⟨fun i H => ∃ xs ys x y, SqB q1 K H a1 xs ∧ SqB q2 K H a2 ys ∧ xs[i]? = some x ∧ ys[i]? = some y,
   fun i H v H' => ∃ p x y, v = .ref p ∧ H p = none ∧ (∀ xs, SqB q1 K H a1 xs → xs[i]? = some x) ∧ (∀ ys, SqB q2 K H a2 ys → ys[i]? = some y) ∧ H' = upd H p (.tup [x, y]),
   fun i H => ∃ xs ys, SqB q1 K H a1 xs ∧ SqB q2 K H a2 ys ∧ (xs.length ≤ i ∨ ys.length ≤ i)⟩
theorem turn_zip {P : Program} {w : World} {K : Fg} {elts : List Expr} {x1 : _} {pos : Pos} {q1 q2 : Bool} {a1 a2 z ti to n1 n2 : Addr} (D : ZAp z ti to n1 n2 a1 a2) :
    Turn P w K (.Tuple elts x1 pos) (Itz K q1 q2 a1 a2) [z, ti, to, n1, n2] z (fun i h => IsZip h z ti to .none ∧ IsPair h ti (.ref n1) (.ref n2) ∧ (∃ c d, IsPair h to c d) ∧ QIt q1 h n1 a1 i ∧ QIt q2 h n2 a2 i) where
  mem := by simp
  obj := fun i h st b hb => by
    obtain ⟨hz, hi, ⟨c, d, ho⟩, ⟨o1, e1, c1, d1⟩, ⟨o2, e2, c2, d2⟩⟩ := st
    have hb' : b = z ∨ b = ti ∨ b = to ∨ b = n1 ∨ b = n2 := by simpa using hb
    rcases hb' with rfl | rfl | rfl | rfl | rfl
    · exact ⟨_, hz, fun v y => by cases y⟩
    · exact ⟨_, hi, fun v y => by cases y⟩
    · exact ⟨_, ho, fun v y => by cases y⟩
    · exact ⟨o1, e1, fun v y => by rw [d1] at y; cases y⟩
    · exact ⟨o2, e2, fun v y => by rw [d2] at y; cases y⟩
  keep := fun i h h' st k => by
    obtain ⟨hz, hi, ⟨c, d, ho⟩, h1, h2⟩ := st
    exact ⟨k z (by simp) _ hz, k ti (by simp) _ hi, ⟨c, d, k to (by simp) _ ho⟩, h1.at fun o e => k n1 (by simp) o e, h2.at fun o e => k n2 (by simp) o e⟩
  item := by
    intro X hP hw hK hc i pins s σ H E I hf st hg
    subst hP hw hK
    obtain ⟨xs, ys, x, y, hq1, hq2, hx, hy⟩ := hg
    obtain ⟨hz, hi, ⟨c, d, ho⟩, h1, h2⟩ := st
    obtain ⟨it1, r1, p1⟩ := I.sqB hq1
    obtain ⟨it2, r2, p2⟩ := I.sqB hq2
    obtain ⟨u, hu, ru⟩ := r1.get hx
    obtain ⟨v, hv, rv⟩ := r2.get hy
    have fpl : ∀ b ∈ [z, ti, to, n1, n2], b < s.heap.objs.size := fun b hb => by
      obtain ⟨o1, e1, _⟩ := id h1
      obtain ⟨o2, e2, _⟩ := id h2
      have hb' : b = z ∨ b = ti ∨ b = to ∨ b = n1 ∨ b = n2 := by simpa using hb
      rcases hb' with rfl | rfl | rfl | rfl | rfl
      · exact Heap.lt_size hz
      · exact Heap.lt_size hi
      · exact Heap.lt_size ho
      · exact Heap.lt_size e1
      · exact Heap.lt_size e2
    refine pn_item D hz hi ho h1 h2 p1 p2 (u := u) (v := v) (by simpa using hu) (by simpa using hv) fun g z1 o1 i1 i2 t1 sz kk => ?_
    refine ⟨.ref s.heap.objs.size, rfl, wpAny_letOwnedTupleGo_zip z1 fun g2 z2 sb => ?_⟩
    have sb2 : ∀ b, b ≠ z → g2.get? b = g.get? b := sb.2
    have hfr : H s.heap.objs.size = none := I.hok.fresh (Nat.le_refl _)
    have I1 : Inv X pins σ (upd H s.heap.objs.size (.tup [x, y])) { s with heap := s.heap.push { cls := .type "tuple", data := .seq #[u, v] } } :=
      I.laid (t' := s.toks) (fun b o e => Heap.get?_push_of_some _ e) (Nat.le_refl _) ⟨by show 2 ≤ sizeLine; decide, [u, v], .cons ru (.cons rv .nil), _, Heap.get?_push_size _ rfl, rfl, _, rfl⟩
    have hf2 : ∀ b ∈ [z, ti, to, n1, n2], FpOk X pins (upd H s.heap.objs.size (.tup [x, y])) b := fun b hb => by
      obtain ⟨f0, f1, f2, f3, f4, f5⟩ := hf b hb
      exact ⟨by rw [upd_ne (Nat.ne_of_lt (fpl b hb))]; exact f0, f1, f2, f3, f4, f5⟩
    have I2 := Inv.turnedL (h' := g2) (t' := s.toks) (fp := [z, ti, to, n1, n2]) I1 (fun b o hb e => by
      have hbz : b ≠ z := fun q => hb (by simp [q])
      rw [sb2 b hbz]
      rcases Heap.get?_push_cases e with ⟨y1, y2⟩ | y1
      · rw [y1, y2]; exact t1
      · exact kk b o (fun q => hb (by simp at q ⊢; rcases q with q | q | q | q <;> simp [q])) y1) hf2
    have nz : ∀ b ∈ [ti, to, n1, n2], b ≠ z := fun b hb q => by
      have := D.nd
      simp only [List.nodup_cons] at this
      exact this.1 (by rw [← q]; exact hb)
    have keep2 : ∀ b ∈ [ti, to, n1, n2], ∀ o, g.get? b = some o → g2.get? b = some o := fun b hb o e => by rw [sb2 b (nz b hb)]; exact e
    have tk : g.get? ti = some _ := kk ti _ (fun q => by
      have := D.nd
      simp only [List.nodup_cons] at this
      simp at q
      rcases q with q | q | q | q
      · exact nz ti (by simp) q
      · exact this.2.1 (by rw [q]; simp)
      · exact this.2.1 (by rw [q]; simp)
      · exact this.2.1 (by rw [q]; simp)) hi
    exact ⟨.ref s.heap.objs.size, _, I2, rfl, ⟨_, x, y, rfl, hfr, fun zs hzs => by rw [I.sqB_inj hzs hq1]; exact hx, fun zs hzs => by rw [I.sqB_inj hzs hq2]; exact hy, rfl⟩,
      ⟨z2, keep2 ti (by simp) _ tk, ⟨_, _, keep2 to (by simp) _ o1⟩, i1.at fun o e => keep2 n1 (by simp) o e, i2.at fun o e => keep2 n2 (by simp) o e⟩, fun b hb => (hf2 b hb).1⟩
  done := by
    intro X hP hw hK hc i pins s σ H E I hf st hg
    subst hP hw hK
    obtain ⟨xs, ys, hq1, hq2, hx⟩ := hg
    obtain ⟨hz, hi, ⟨c, d, ho⟩, h1, h2⟩ := st
    obtain ⟨it1, r1, p1⟩ := I.sqB hq1
    obtain ⟨it2, r2, p2⟩ := I.sqB hq2
    have l1 := r1.length
    have l2 := r2.length
    refine pn_last (I.ok.hd hc) D hz hi ho h1 h2 p1 p2 ?_ fun g kk => ⟨rfl, Inv.turnedL (t' := s.toks) I (fun b o hb e => kk b o (fun q => hb (by simp at q ⊢; rcases q with q | q | q | q <;> simp [q])) e) hf⟩
    rcases hx with hx | hx
    · exact .inl (by simp; omega)
    · exact .inr (by simp; omega)
  self := fun _ _ _ _ _ st h => wpAny_pyIter_zip st.1 h
theorem bt_zip : bootBuiltins "zip" = some (.type "zip") := by decide +kernel
section
variable {X : Cx}
def iZip (K : Fg) (ta : TA) : TI := fun σ H R => ta σ H fun vs H1 => ∃ q1 q2 a1 a2, vs = [.ref a1, .ref a2] ∧ (∃ xs, SqB q1 K H1 a1 xs) ∧ (∃ ys, SqB q2 K H1 a2 ys) ∧ R (Itz K q1 q2 a1 a2) H1
theorem pi_zip {l1 l2 : Expr} {ta : TA} {elts : List Expr} {x1 : _} {p pos pos' : Pos} (hg : Gl X "zip") (hm : X.mg "zip" = none) (ha : PA X [l1, l2] ta) (hs : starEach [l1, l2] X.env = (false, eval l1 X.env) :: starEach [l2] X.env := by rfl) (hpl : (backTo pos (starEach [l2] X.env)).any (·.1) = false := by rfl) :
    PI X (.Tuple elts x1 pos') (.Call (.Name "zip" p) [l1, l2] [] pos) (iZip X.K ta) := by
  intro pins s σ H R I h
  refine Call_ (ld_blt I hg hm bt_zip (PyProof.Rows.callWith_type1 (thn (ha pos pins s σ H _ I h) fun us s1 ⟨vs, H1, I1, r1, q1⟩ => ?_) hs hpl))
  obtain ⟨b1, b2, a1, a2, e, ⟨xs, hq1⟩, ⟨ys, hq2⟩, q⟩ := q1
  subst e
  cases r1 with
  | cons r rr =>
    cases rr with
    | cons r2 rr =>
      cases rr
      cases r
      cases r2
      obtain ⟨it1, rv1, p1⟩ := I1.sqB hq1
      obtain ⟨it2, rv2, p2⟩ := I1.sqB hq2
      have lt1 : a1 < s1.heap.objs.size := by obtain ⟨o, e, _⟩ := id p1; exact Heap.lt_size e
      have lt2 : a2 < s1.heap.objs.size := by obtain ⟨o, e, _⟩ := id p2; exact Heap.lt_size e
      refine z_call p1 p2 fun g hz hi ho h1 h2 kk => ?_
      have I2 : Inv X pins σ H1 { s1 with heap := g } := I1.kept (t' := s1.toks) kk
      have D : ZAp (s1.heap.objs.size + 4) (s1.heap.objs.size + 2) (s1.heap.objs.size + 3) s1.heap.objs.size (s1.heap.objs.size + 1) a1 a2 := by
        have ap : ∀ b : Addr, b < s1.heap.objs.size → b ∉ [s1.heap.objs.size + 4, s1.heap.objs.size + 3, s1.heap.objs.size, s1.heap.objs.size + 1] := fun b lt hb => by
          have hb' : b = s1.heap.objs.size + 4 ∨ b = s1.heap.objs.size + 3 ∨ b = s1.heap.objs.size ∨ b = s1.heap.objs.size + 1 := by simpa using hb
          rcases hb' with e | e | e | e
          · exact absurd lt (by rw [e]; exact Nat.not_lt_of_le (Nat.le_add_right _ _))
          · exact absurd lt (by rw [e]; exact Nat.not_lt_of_le (Nat.le_add_right _ _))
          · exact absurd lt (by rw [e]; exact Nat.lt_irrefl _)
          · exact absurd lt (by rw [e]; exact Nat.not_lt_of_le (Nat.le_add_right _ _))
        exact ⟨by simp, ap a1 lt1, ap a2 lt2⟩
      refine wpAny_pyIter_zip hz ⟨s1.heap.objs.size + 4, [s1.heap.objs.size + 4, s1.heap.objs.size + 2, s1.heap.objs.size + 3, s1.heap.objs.size, s1.heap.objs.size + 1], _, _, H1, rfl, I2, turn_zip D, ⟨hz, hi, ⟨_, _, ho⟩, h1, h2⟩, fun b hb => ?_, q⟩
      have hge : s1.heap.objs.size ≤ b := by
        have hb' : b = s1.heap.objs.size + 4 ∨ b = s1.heap.objs.size + 2 ∨ b = s1.heap.objs.size + 3 ∨ b = s1.heap.objs.size ∨ b = s1.heap.objs.size + 1 := by simpa using hb
        rcases hb' with e | e | e | e | e
        · rw [e]; exact Nat.le_add_right _ _
        · rw [e]; exact Nat.le_add_right _ _
        · rw [e]; exact Nat.le_add_right _ _
        · rw [e]; exact Nat.le_refl _
        · rw [e]; exact Nat.le_add_right _ _
      exact I1.fpOk hge (I1.hok.fresh hge)
end
end L2
namespace L2
open PySem PySem.Spec PyProof.Rows
inductive Tr where
  | non | bl (b : Bool) | int (i : Int) | str (x : Str) | tup (ts : List Tr) | lst (ts : List Tr) | dct (kvs : List (Key × Tr)) | ty (n : String)
mutual
inductive Is (K : Fg) (F : Hp) : V → Tr → Prop
  | non : Is K F .non .non
  | bl {b : Bool} : Is K F (.bl b) (.bl b)
  | int {i : Int} : Is K F (.int i) (.int i)
  | str {x : Str} : Is K F (.str x) (.str x)
  | ty {n : String} : Is K F (.ty n) (.ty n)
  | tup {p : Addr} {vs : List V} {ts : List Tr} : SqT K F p vs → IsL K F vs ts → Is K F (.ref p) (.tup ts)
  | lst {p : Addr} {vs : List V} {ts : List Tr} : SqL K F p vs → IsL K F vs ts → Is K F (.ref p) (.lst ts)
  | dct {p : Addr} {kvs : List (Key × V)} {ts : List (Key × Tr)} : F p = some (.dK kvs) → kvs.map (·.1) = ts.map (·.1) → IsL K F (kvs.map (·.2)) (ts.map (·.2)) → Is K F (.ref p) (.dct ts)
inductive IsL (K : Fg) (F : Hp) : List V → List Tr → Prop
  | nil : IsL K F [] []
  | cons {v : V} {t : Tr} {vs : List V} {ts : List Tr} : Is K F v t → IsL K F vs ts → IsL K F (v :: vs) (t :: ts)
end
mutual
theorem Is.same {K : Fg} {F F' : Hp} (s : Same F F') : ∀ {v : V} {t : Tr}, Is K F v t → Is K F' v t
  | _, _, .non => .non
  | _, _, .bl => .bl
  | _, _, .int => .int
  | _, _, .str => .str
  | _, _, .ty => .ty
  | _, _, .tup h g => .tup (s.tup h) (IsL.same s g)
  | _, _, .lst h g => .lst (s.seq h) (IsL.same s g)
  | _, _, .dct h e g => .dct (s _ _ h) e (IsL.same s g)
theorem IsL.same {K : Fg} {F F' : Hp} (s : Same F F') : ∀ {vs : List V} {ts : List Tr}, IsL K F vs ts → IsL K F' vs ts
  | _, _, .nil => .nil
  | _, _, .cons h g => .cons (Is.same s h) (IsL.same s g)
end
section
variable {K : Fg} {F : Hp}
theorem IsL.length : ∀ {vs : List V} {ts : List Tr}, IsL K F vs ts → vs.length = ts.length
  | _, _, .nil => rfl
  | _, _, .cons _ g => congrArg (· + 1) (IsL.length g)
theorem IsL.get : ∀ {vs : List V} {ts : List Tr} {i : Nat} {t : Tr}, IsL K F vs ts → ts[i]? = some t → ∃ v, vs[i]? = some v ∧ Is K F v t
  | _, _, _, _, .nil, e => by simp at e
  | _, _, 0, _, .cons h _, e => by simp at e; subst e; exact ⟨_, rfl, h⟩
  | _, _, i + 1, t, .cons _ g, e => by
    obtain ⟨u, h1, h2⟩ := IsL.get (i := i) (t := t) g (by simpa using e)
    exact ⟨u, by simpa using h1, h2⟩
theorem IsL.get2 : ∀ {vs : List V} {ts : List Tr} {i : Nat} {v : V}, IsL K F vs ts → vs[i]? = some v → ∃ t, ts[i]? = some t ∧ Is K F v t
  | _, _, _, _, .nil, e => by simp at e
  | _, _, 0, _, .cons h _, e => by simp at e; subst e; exact ⟨_, rfl, h⟩
  | _, _, i + 1, t, .cons _ g, e => by
    obtain ⟨u, h1, h2⟩ := IsL.get2 (i := i) (v := t) g (by simpa using e)
    exact ⟨u, by simpa using h1, h2⟩
theorem IsL.app : ∀ {vs ws : List V} {ts us : List Tr}, IsL K F vs ts → IsL K F ws us → IsL K F (vs ++ ws) (ts ++ us)
  | _, _, _, _, .nil, s => s
  | _, _, _, _, .cons h g, s => .cons h (IsL.app g s)
theorem IsL.take : ∀ {vs : List V} {ts : List Tr} (n : Nat), IsL K F vs ts → IsL K F (vs.take n) (ts.take n)
  | _, _, 0, _ => .nil
  | _, _, _ + 1, .nil => .nil
  | _, _, n + 1, .cons h g => .cons h (IsL.take n g)
theorem IsL.drop : ∀ {vs : List V} {ts : List Tr} (n : Nat), IsL K F vs ts → IsL K F (vs.drop n) (ts.drop n)
  | _, _, 0, h => h
  | _, _, _ + 1, .nil => .nil
  | _, _, n + 1, .cons _ g => IsL.drop n g
theorem IsL.snoc {vs : List V} {ts : List Tr} {v : V} {t : Tr} (h : IsL K F vs ts) (g : Is K F v t) : IsL K F (vs ++ [v]) (ts ++ [t]) := h.app (.cons g .nil)
theorem IsL.ints : ∀ {vs : List V} {ns : List Int}, IsL K F vs (ns.map Tr.int) → vs = ns.map V.int
  | _, [], .nil => rfl
  | _, _ :: _, .cons .int g => by rw [List.map_cons, IsL.ints g]
theorem IsL.strs : ∀ {vs : List V} {ns : List Str}, IsL K F vs (ns.map Tr.str) → vs = ns.map V.str
  | _, [], .nil => rfl
  | _, _ :: _, .cons .str g => by rw [List.map_cons, IsL.strs g]
theorem IsL.ofInts : ∀ (ns : List Int), IsL K F (ns.map V.int) (ns.map Tr.int)
  | [] => .nil
  | _ :: r => .cons .int (IsL.ofInts r)
end
def Mb : HO → Prop
  | .lst _ => True
  | .dK _ => True
  | .tbl _ => True
  | _ => False
structure Bk where
  K : Fg
  F0 : Hp
  H0 : Hp
  W : Addr → Prop
  J : Hp → Prop
  rt : Addr
  jl : ∀ H H' : Hp, (∀ p, W p → H p = H' p) → (∀ p φ, H p = some (.ext φ) → H' p = some (.ext φ)) → J H → J H'
  jm : ∀ (H : Hp) (p : Addr), J H → W p → ∃ o, H p = some o ∧ Mb o
structure Up (B : Bk) (F H F' H' : Hp) : Prop where
  f : Same F F'
  h : ∀ p o, ¬ B.W p → H p = some o → H' p = some o
  i : Same F' H'
  m : ∀ p o, H p = some o → Mb o → F p = none → F' p = none
  w : ∀ p, H' p = none → H p = none
  x : ∀ p, B.W p → F p = none → F' p = none
  j : B.J H → B.J H'
theorem Up.refl {B : Bk} {F H : Hp} (i : Same F H) : Up B F H F H := ⟨Same.refl _, fun _ _ _ h => h, i, fun _ _ _ _ h => h, fun _ h => h, fun _ _ h => h, fun h => h⟩
theorem Up.trans {B : Bk} {F H F1 H1 F2 H2 : Hp} (a : Up B F H F1 H1) (b : Up B F1 H1 F2 H2) : Up B F H F2 H2 := ⟨a.f.trans b.f, fun p o n h => b.h p o n (a.h p o n h), b.i, fun p o h mb n => by
  by_cases hw : B.W p
  · exact b.x p hw (a.x p hw n)
  · exact b.m p o (a.h p o hw h) mb (a.m p o h mb n), fun p h => a.w p (b.w p h), fun p hw n => b.x p hw (a.x p hw n), fun h => b.j (a.j h)⟩
inductive Ow (K : Fg) (F H : Hp) (l : Addr) : Tr → Prop
  | lst {vs : List V} {ts : List Tr} : H l = some (.lst vs) → IsL K F vs ts → Ow K F H l (.lst ts)
  | dct {kvs : List (Key × V)} {ts : List (Key × Tr)} : H l = some (.dK kvs) → kvs.map (·.1) = ts.map (·.1) → IsL K F (kvs.map (·.2)) (ts.map (·.2)) → Ow K F H l (.dct ts)
theorem Ow.mb {K : Fg} {F H : Hp} {l : Addr} {t : Tr} (h : Ow K F H l t) : ∃ o, H l = some o ∧ Mb o := by
  cases h with
  | lst h _ => exact ⟨_, h, trivial⟩
  | dct h _ _ => exact ⟨_, h, trivial⟩
theorem Ow.to {K : Fg} {F F' H H' : Hp} {l : Addr} {t : Tr} (h : Ow K F H l t) (s : Same F F') (e : ∀ o, H l = some o → H' l = some o) : Ow K F' H' l t := by
  cases h with
  | lst h g => exact .lst (e _ h) (g.same s)
  | dct h e' g => exact .dct (e _ h) e' (g.same s)
theorem Ow.is {K : Fg} {F H F' : Hp} {l : Addr} {t : Tr} (h : Ow K F H l t) (s : Same F F') (e : F' l = H l) : Is K F' (.ref l) t := by
  cases h with
  | lst h g => exact .lst (SqL.of (by rw [e, h])) (g.same s)
  | dct h e' g => exact .dct (by rw [e, h]) e' (g.same s)
inductive Sl where
  | no | fz (t : Tr) | own (t : Tr) | vw (t : Tr) | wd
abbrev TSt := List Sl
abbrev SAt (σ : St) (i : Nat) (v : V) : Prop := σ[i]? = some (some v)
abbrev TAt (τ : TSt) (i : Nat) (s : Sl) : Prop := τ[i]? = some s
structure Rp (B : Bk) (F H : Hp) (σ : St) (τ : TSt) : Prop where
  up : Up B B.F0 B.H0 F H
  wa : ∀ p, B.W p → B.H0 p ≠ none
  wf : ∀ p, B.W p → F p = none
  wj : B.J H
  wd : ∀ i, TAt τ i .wd → SAt σ i (.ref B.rt)
  len : σ.length = τ.length
  fz : ∀ i t, TAt τ i (.fz t) → ∃ v, SAt σ i v ∧ Is B.K F v t
  ow : ∀ i t, TAt τ i (.own t) → ∃ l, SAt σ i (.ref l) ∧ Ow B.K F H l t ∧ F l = none ∧ B.H0 l = none
  vw : ∀ i t, TAt τ i (.vw t) → ∃ l, SAt σ i (.ref l) ∧ Ow B.K F H l t ∧ F l = none ∧ ¬ B.W l
  ap : ∀ i j t u l, TAt τ i (.own t) → TAt τ j (.own u) → i ≠ j → SAt σ i (.ref l) → SAt σ j (.ref l) → False
  av : ∀ i j t u l, TAt τ i (.own t) → TAt τ j (.vw u) → SAt σ i (.ref l) → SAt σ j (.ref l) → False
inductive Kd where
  | fz (t : Tr) | nw (t : Tr) | sl (i : Nat) | wd
def KdOk (B : Bk) (F H : Hp) (σ : St) (τ : TSt) (v : V) : Kd → Prop
  | .fz t => Is B.K F v t
  | .nw t => ∃ l, v = .ref l ∧ Ow B.K F H l t ∧ F l = none ∧ B.H0 l = none ∧ ∀ i u, TAt τ i (.own u) ∨ TAt τ i (.vw u) → ¬ SAt σ i (.ref l)
  | .sl i => SAt σ i v
  | .wd => v = .ref B.rt
def NewK (H : Hp) (v : V) : Kd → Prop
  | .nw _ => ∀ l, v = .ref l → H l = none
  | _ => True
structure Fr (B : Bk) (σ : St) (τ : TSt) (F H : Hp) (τ' : TSt) (F' H' : Hp) : Prop where
  f : Same F F'
  k : ∀ p o, H p = some o → ¬ B.W p → (∀ i t, TAt τ i (.own t) → ¬ SAt σ i (.ref p)) → H' p = some o ∧ (Mb o → F p = none → F' p = none)
  o : ∀ i t, TAt τ' i (.own t) → ∃ u, TAt τ i (.own u)
  h : ∀ p, H' p = none → H p = none
theorem Fr.refl {B : Bk} {σ : St} {τ : TSt} {F H : Hp} : Fr B σ τ F H τ F H := ⟨Same.refl _, fun _ _ h _ _ => ⟨h, fun _ z => z⟩, fun _ t h => ⟨t, h⟩, fun _ h => h⟩
theorem Fr.trans {B : Bk} {σ : St} {τ τ1 τ2 : TSt} {F H F1 H1 F2 H2 : Hp} (a : Fr B σ τ F H τ1 F1 H1) (b : Fr B σ τ1 F1 H1 τ2 F2 H2) : Fr B σ τ F H τ2 F2 H2 :=
  ⟨a.f.trans b.f, fun p o h nw n => by
    obtain ⟨h1, h2⟩ := a.k p o h nw n
    obtain ⟨h3, h4⟩ := b.k p o h1 nw fun i t e => by
      obtain ⟨u, e'⟩ := a.o i t e
      exact n i u e'
    exact ⟨h3, fun mb z => h4 mb (h2 mb z)⟩, fun i t e => by
    obtain ⟨u, e'⟩ := b.o i t e
    exact a.o i u e', fun p h => a.h p (b.h p h)⟩
abbrev TK := Kd → TSt → Prop
def CT (B : Bk) (σ : St) (τ : TSt) (F H : Hp) (Φ : TK) (Q : VK) : Prop := ∀ v F' H' k τ', Fr B σ τ F H τ' F' H' → Rp B F' H' σ τ' → KdOk B F' H' σ τ' v k → NewK H v k → Φ k τ' → Q v H'
def EV (B : Bk) (te : TE) (τ : TSt) (Φ : TK) : Prop := ∀ σ F H Q, Rp B F H σ τ → CT B σ τ F H Φ Q → te σ H Q
def TV (B : Bk) (tt : TT) (τ : TSt) (Φ : Bool → TSt → Prop) : Prop := ∀ σ F H (Q : Bool → Hp → Prop), Rp B F H σ τ → (∀ b F' H' τ', Fr B σ τ F H τ' F' H' → Rp B F' H' σ τ' → Φ b τ' → Q b H') → tt σ H Q
def EVA (B : Bk) (ta : TA) (τ : TSt) (Φ : List Tr → TSt → Prop) : Prop := ∀ σ F H (Q : List V → Hp → Prop), Rp B F H σ τ → (∀ vs F' H' ts τ', Fr B σ τ F H τ' F' H' → Rp B F' H' σ τ' → IsL B.K F' vs ts → Φ ts τ' → Q vs H') → ta σ H Q
def AsF (k : Kd) (τ : TSt) (S : Tr → TSt → Prop) : Prop := match k with
  | .fz t => S t τ
  | .nw t => S t τ
  | .sl i => (∃ t, TAt τ i (.own t) ∧ S t (τ.set i (.fz t))) ∨ ∃ t, TAt τ i (.fz t) ∧ S t τ
  | .wd => False
def Pnd (k : Kd) (τ : TSt) (S : TK) : Prop := match k with
  | .fz t => S (.fz t) τ
  | .nw t => S (.fz t) τ
  | .sl i => S (.sl i) τ
  | .wd => False
def PdOk (K : Fg) (F : Hp) (σ : St) (v : V) : Kd → Prop
  | .fz t => Is K F v t
  | .nw _ => False
  | .sl i => SAt σ i v
  | .wd => False
theorem PdOk.same {K : Fg} {F F' : Hp} {σ : St} {v : V} {k : Kd} (s : Same F F') (h : PdOk K F σ v k) : PdOk K F' σ v k := by
  cases k with
  | fz t => exact Is.same s h
  | nw t => exact h
  | sl i => exact h
  | wd => exact h
section
variable {B : Bk} {F H F1 H1 F' H' : Hp} {σ : St} {τ τ1 τ' : TSt}
theorem CT.on {Φ : TK} {Q : VK} (c : CT B σ τ F H Φ Q) (f : Fr B σ τ F H τ1 F1 H1) : CT B σ τ1 F1 H1 Φ Q := fun v F' H' k τ' f' r ok n φ => c v F' H' k τ' (f.trans f') r ok (by
  cases k with
  | nw t => exact fun l e => f.h l (n l e)
  | fz t => exact trivial
  | sl i => exact trivial
  | wd => exact trivial) φ
theorem Rp.go (r : Rp B F H σ τ) (u : Up B F H F' H') : Rp B F' H' σ τ where
  up := r.up.trans u
  wa := r.wa
  wf := fun p hw => u.x p hw (r.wf p hw)
  wj := u.j r.wj
  wd := r.wd
  len := r.len
  fz := fun i t h => by obtain ⟨v, e, g⟩ := r.fz i t h; exact ⟨v, e, g.same u.f⟩
  ow := fun i t h => by
    obtain ⟨l, e, g, n, n0⟩ := r.ow i t h
    obtain ⟨o, ho, mb⟩ := g.mb
    exact ⟨l, e, g.to u.f (fun o => u.h l o fun hw => r.wa l hw n0), u.m l o ho mb n, n0⟩
  vw := fun i t h => by
    obtain ⟨l, e, g, n, nw⟩ := r.vw i t h
    obtain ⟨o, ho, mb⟩ := g.mb
    exact ⟨l, e, g.to u.f (fun o => u.h l o nw), u.m l o ho mb n, nw⟩
  ap := r.ap
  av := r.av
theorem Fr.up (u : Up B F H F' H') : Fr B σ τ F H τ F' H' := ⟨u.f, fun p o h nw _ => ⟨u.h p o nw h, fun mb n => u.m p o h mb n⟩, fun _ t h => ⟨t, h⟩, u.w⟩
theorem upd_none {H : Hp} {a b : Addr} {o : HO} (h : upd H a o b = none) : H b = none := by
  by_cases e : b = a
  · rw [e, upd_same] at h; cases h
  · rw [upd_ne e] at h; exact h
theorem Rp.tup {p : Addr} {vs : List V} (r : Rp B F H σ τ) (n : H p = none) : Up B F H (upd F p (.tup vs)) (upd H p (.tup vs)) where
  f := Same.new (r.up.i.free n) _
  h := fun q o _ z => Same.new n _ q o z
  i := fun b o e => by
    by_cases hb : b = p
    · subst hb; rw [upd_same] at e ⊢; exact e
    · rw [upd_ne hb] at e ⊢; exact r.up.i b o e
  m := fun q o h _ z => by
    have : q ≠ p := fun e => by rw [e, n] at h; cases h
    rw [upd_ne this]; exact z
  w := fun q h => upd_none h
  x := fun q hw z => by
    have : q ≠ p := fun e => r.wa q hw (r.up.w q (by rw [e]; exact n))
    rw [upd_ne this]; exact z
  j := fun h => B.jl _ _ (fun q hw => by
    have : q ≠ p := fun e => r.wa q hw (r.up.w q (by rw [e]; exact n))
    rw [upd_ne this]) (fun q φ z => Same.new n _ q _ z) h
theorem Rp.new {p : Addr} {o : HO} (r : Rp B F H σ τ) (n : H p = none) : Up B F H F (upd H p o) where
  f := Same.refl _
  h := fun q o _ z => Same.new n _ q o z
  i := r.up.i.trans (Same.new n _)
  m := fun q o h _ z => z
  w := fun q h => upd_none h
  x := fun q hw z => z
  j := fun h => B.jl _ _ (fun q hw => by
    have : q ≠ p := fun e => r.wa q hw (r.up.w q (by rw [e]; exact n))
    rw [upd_ne this]) (fun q φ z => Same.new n _ q _ z) h
theorem Rp.inc (r : Rp B F H σ τ) : Same F H := r.up.i
theorem Rp.fixA {l : Addr} {o : HO} (r : Rp B F H σ τ) (ho : H l = some o) (n : F l = none) (n0 : B.H0 l = none) (ne : ∀ i u, TAt τ i (.own u) ∨ TAt τ i (.vw u) → ¬ SAt σ i (.ref l)) : Rp B (upd F l o) H σ τ where
  wa := r.wa
  wf := fun p hw => by
    have : p ≠ l := fun e => r.wa p hw (by rw [e]; exact n0)
    rw [upd_ne this]; exact r.wf p hw
  wj := r.wj
  wd := r.wd
  up := { f := r.up.f.trans (Same.new n o), h := r.up.h, w := r.up.w, j := r.up.j
          m := fun p q hp mb z => by
            have : p ≠ l := fun e => by rw [e, n0] at hp; cases hp
            rw [upd_ne this]; exact r.up.m p q hp mb z
          x := fun p hw z => by
            have : p ≠ l := fun e => r.wa p hw (by rw [e]; exact n0)
            rw [upd_ne this]; exact r.up.x p hw z
          i := fun b q e => by
            by_cases hb : b = l
            · subst hb; rw [upd_same] at e; cases e; exact ho
            · rw [upd_ne hb] at e; exact r.up.i b q e }
  len := r.len
  fz := fun i t h => by obtain ⟨v, e, g⟩ := r.fz i t h; exact ⟨v, e, g.same (Same.new n o)⟩
  ow := fun i t h => by
    obtain ⟨l', e, g, n', n0'⟩ := r.ow i t h
    have hl : l' ≠ l := fun z => ne i t (.inl h) (by rw [← z]; exact e)
    exact ⟨l', e, g.to (Same.new n o) (fun _ q => q), by rw [upd_ne hl]; exact n', n0'⟩
  vw := fun i t h => by
    obtain ⟨l', e, g, n', nw⟩ := r.vw i t h
    have hl : l' ≠ l := fun z => ne i t (.inr h) (by rw [← z]; exact e)
    exact ⟨l', e, g.to (Same.new n o) (fun _ q => q), by rw [upd_ne hl]; exact n', nw⟩
  ap := r.ap
  av := r.av
theorem tset {τ : TSt} {i j : Nat} {s u : Sl} (h : TAt (τ.set i s) j u) : (j = i ∧ u = s ∧ i < τ.length) ∨ (j ≠ i ∧ TAt τ j u) := by
  unfold TAt at h
  rw [List.getElem?_set] at h
  by_cases e : i = j
  · subst e
    rw [if_pos rfl] at h
    by_cases g : i < τ.length
    · rw [if_pos g] at h; cases h; exact .inl ⟨rfl, rfl, g⟩
    · rw [if_neg g] at h; cases h
  · rw [if_neg e] at h; exact .inr ⟨fun z => e z.symm, h⟩
theorem sset {σ : St} {i j : Nat} {x : Option V} {v : V} (h : SAt (σ.set i x) j v) : (j = i ∧ x = some v) ∨ (j ≠ i ∧ SAt σ j v) := by
  unfold SAt at h
  rw [List.getElem?_set] at h
  by_cases e : i = j
  · subst e
    rw [if_pos rfl] at h
    by_cases g : i < σ.length
    · rw [if_pos g] at h; cases h; exact .inl ⟨rfl, rfl⟩
    · rw [if_neg g] at h; cases h
  · rw [if_neg e] at h; exact .inr ⟨fun z => e z.symm, h⟩
theorem ssetHere {σ : St} {i : Nat} {v : V} (h : i < σ.length) : SAt (σ.set i (some v)) i v := by
  unfold SAt
  rw [List.getElem?_set, if_pos rfl, if_pos h]
theorem ssetNe {σ : St} {i j : Nat} {x : Option V} {v : V} (n : j ≠ i) (h : SAt σ j v) : SAt (σ.set i x) j v := by
  unfold SAt at h ⊢
  rw [List.getElem?_set, if_neg (fun z => n z.symm)]; exact h
theorem Rp.setF {i : Nat} {v : V} {t : Tr} (r : Rp B F H σ τ) (h : Is B.K F v t) : Rp B F H (σ.set i (some v)) (τ.set i (.fz t)) where
  up := r.up
  wa := r.wa
  wf := r.wf
  wj := r.wj
  wd := fun j e => by
    rcases tset e with ⟨_, e, _⟩ | ⟨n, e⟩
    · cases e
    · exact ssetNe n (r.wd j e)
  len := by rw [List.length_set, List.length_set]; exact r.len
  fz := fun j u e => by
    rcases tset e with ⟨rfl, e, g⟩ | ⟨n, e⟩
    · cases e; exact ⟨v, ssetHere (by rw [r.len]; exact g), h⟩
    · obtain ⟨w, a, b⟩ := r.fz j u e
      exact ⟨w, ssetNe n a, b⟩
  ow := fun j u e => by
    rcases tset e with ⟨rfl, e, g⟩ | ⟨n, e⟩
    · cases e
    · obtain ⟨w, a, b⟩ := r.ow j u e
      exact ⟨w, ssetNe n a, b⟩
  vw := fun j u e => by
    rcases tset e with ⟨rfl, e, g⟩ | ⟨n, e⟩
    · cases e
    · obtain ⟨w, a, b⟩ := r.vw j u e
      exact ⟨w, ssetNe n a, b⟩
  ap := fun a b t u l ha hb ne hi hj => by
    rcases tset ha with ⟨_, e, _⟩ | ⟨na, ha⟩
    · cases e
    rcases tset hb with ⟨_, e, _⟩ | ⟨nb, hb⟩
    · cases e
    rcases sset hi with ⟨e, _⟩ | ⟨_, hi⟩
    · exact na e
    rcases sset hj with ⟨e, _⟩ | ⟨_, hj⟩
    · exact nb e
    exact r.ap a b t u l ha hb ne hi hj
  av := fun a b t u l ha hb hi hj => by
    rcases tset ha with ⟨_, e, _⟩ | ⟨na, ha⟩
    · cases e
    rcases tset hb with ⟨_, e, _⟩ | ⟨nb, hb⟩
    · cases e
    rcases sset hi with ⟨e, _⟩ | ⟨_, hi⟩
    · exact na e
    rcases sset hj with ⟨e, _⟩ | ⟨_, hj⟩
    · exact nb e
    exact r.av a b t u l ha hb hi hj
theorem Rp.setN {i : Nat} {v : V} {t : Tr} (r : Rp B F H σ τ) (h : KdOk B F H σ τ v (.nw t)) : Rp B F H (σ.set i (some v)) (τ.set i (.own t)) := by
  obtain ⟨l0, rfl, hw, n, n0, dis⟩ := h
  exact {
  up := r.up
  wa := r.wa
  wf := r.wf
  wj := r.wj
  wd := fun j e => by
    rcases tset e with ⟨_, e, _⟩ | ⟨n, e⟩
    · cases e
    · exact ssetNe n (r.wd j e)
  len := by rw [List.length_set, List.length_set]; exact r.len
  fz := fun j u e => by
    rcases tset e with ⟨rfl, e, g⟩ | ⟨n, e⟩
    · cases e
    · obtain ⟨w, a, b⟩ := r.fz j u e
      exact ⟨w, ssetNe n a, b⟩
  ow := fun j u e => by
    rcases tset e with ⟨rfl, e, g⟩ | ⟨n, e⟩
    · cases e; exact ⟨l0, ssetHere (by rw [r.len]; exact g), hw, n, n0⟩
    · obtain ⟨w, a, b⟩ := r.ow j u e
      exact ⟨w, ssetNe n a, b⟩
  vw := fun j u e => by
    rcases tset e with ⟨rfl, e, g⟩ | ⟨n, e⟩
    · cases e
    · obtain ⟨w, a, b⟩ := r.vw j u e
      exact ⟨w, ssetNe n a, b⟩
  ap := fun a b t u l ha hb ne hi hj => by
    rcases tset ha with ⟨ea, _, _⟩ | ⟨na, ha⟩
    · rcases tset hb with ⟨eb, _, _⟩ | ⟨nb, hb⟩
      · exact ne (ea.trans eb.symm)
      · rcases sset hi with ⟨_, e⟩ | ⟨na, _⟩
        · cases e
          rcases sset hj with ⟨e, _⟩ | ⟨_, hj⟩
          · exact nb e
          · exact dis b u (.inl hb) hj
        · exact na ea
    · rcases sset hi with ⟨e, _⟩ | ⟨_, hi⟩
      · exact na e
      rcases tset hb with ⟨eb, _, _⟩ | ⟨nb, hb⟩
      · rcases sset hj with ⟨_, e⟩ | ⟨nb, _⟩
        · cases e; exact dis a t (.inl ha) hi
        · exact nb eb
      · rcases sset hj with ⟨e, _⟩ | ⟨_, hj⟩
        · exact nb e
        · exact r.ap a b t u l ha hb ne hi hj
  av := fun a b t u l ha hb hi hj => by
    rcases tset hb with ⟨_, e, _⟩ | ⟨nb, hb⟩
    · cases e
    rcases sset hj with ⟨e, _⟩ | ⟨_, hj⟩
    · exact nb e
    rcases tset ha with ⟨ea, _, _⟩ | ⟨na, ha⟩
    · rcases sset hi with ⟨_, e⟩ | ⟨na, _⟩
      · cases e; exact dis b u (.inr hb) hj
      · exact na ea
    · rcases sset hi with ⟨e, _⟩ | ⟨_, hi⟩
      · exact na e
      · exact r.av a b t u l ha hb hi hj }
theorem Rp.forget {i : Nat} (r : Rp B F H σ τ) : Rp B F H σ (τ.set i .no) where
  up := r.up
  wa := r.wa
  wf := r.wf
  wj := r.wj
  wd := fun j e => by
    rcases tset e with ⟨_, e, _⟩ | ⟨n, e⟩
    · cases e
    · exact r.wd j e
  len := by rw [List.length_set]; exact r.len
  fz := fun j u e => by
    rcases tset e with ⟨_, e, _⟩ | ⟨_, e⟩
    · cases e
    · exact r.fz j u e
  ow := fun j u e => by
    rcases tset e with ⟨_, e, _⟩ | ⟨_, e⟩
    · cases e
    · exact r.ow j u e
  vw := fun j u e => by
    rcases tset e with ⟨_, e, _⟩ | ⟨_, e⟩
    · cases e
    · exact r.vw j u e
  ap := fun a b t u l ha hb => by
    rcases tset ha with ⟨_, e, _⟩ | ⟨_, ha⟩
    · cases e
    rcases tset hb with ⟨_, e, _⟩ | ⟨_, hb⟩
    · cases e
    exact r.ap a b t u l ha hb
  av := fun a b t u l ha hb => by
    rcases tset ha with ⟨_, e, _⟩ | ⟨_, ha⟩
    · cases e
    rcases tset hb with ⟨_, e, _⟩ | ⟨_, hb⟩
    · cases e
    exact r.av a b t u l ha hb
theorem tat_unique {τ : TSt} {i : Nat} {s u : Sl} (h : TAt τ i s) (g : TAt τ i u) : s = u := by
  unfold TAt at h g
  rw [h] at g; exact Option.some.inj g
theorem sat_unique {σ : St} {i : Nat} {v w : V} (h : SAt σ i v) (g : SAt σ i w) : v = w := by
  unfold SAt at h g
  rw [h] at g; exact Option.some.inj (Option.some.inj g)
theorem set_same {σ : St} {i : Nat} {v : V} (h : SAt σ i v) : σ.set i (some v) = σ := by
  apply List.ext_getElem?
  intro j
  rw [List.getElem?_set]
  by_cases e : i = j
  · subst e
    rw [if_pos rfl, if_pos (List.getElem?_eq_some_iff.mp h).1]; exact h.symm
  · rw [if_neg e]
theorem Rp.fixS {i : Nat} {t : Tr} (r : Rp B F H σ τ) (h : TAt τ i (.own t)) : ∃ F2 l, SAt σ i (.ref l) ∧ Same F F2 ∧ Rp B F2 H σ (τ.set i (.fz t)) ∧ Is B.K F2 (.ref l) t ∧ ∀ p, p ≠ l → F2 p = F p := by
  obtain ⟨l, e, g, n, n0⟩ := r.ow i t h
  obtain ⟨o, ho, mb⟩ := g.mb
  have r1 : Rp B F H σ (τ.set i .no) := r.forget
  have r2 := r1.fixA ho n n0 (fun j u hj hs => by
    rcases hj with hj | hj
    · rcases tset hj with ⟨_, z, _⟩ | ⟨nj, hj⟩
      · cases z
      · exact r.ap i j t u l h hj (fun z => nj z.symm) e hs
    · rcases tset hj with ⟨_, z, _⟩ | ⟨nj, hj⟩
      · cases z
      · exact r.av i j t u l h hj e hs)
  have hi : Is B.K (upd F l o) (.ref l) t := g.is (Same.new n o) (by rw [upd_same, ho])
  have r3 := r2.setF (i := i) hi
  rw [set_same e, List.set_set] at r3
  exact ⟨_, l, e, Same.new n o, r3, hi, fun p hp => upd_ne hp⟩
theorem asF_ok {v : V} {k : Kd} {S : Tr → TSt → Prop} (f : Fr B σ τ F H τ1 F1 H1) (r : Rp B F1 H1 σ τ1) (ok : KdOk B F1 H1 σ τ1 v k) (nk : NewK H v k) (h : AsF k τ1 S) : ∃ F2 t τ2, Fr B σ τ F H τ2 F2 H1 ∧ Rp B F2 H1 σ τ2 ∧ Is B.K F2 v t ∧ S t τ2 ∧ Same F1 F2 := by
  cases k with
  | fz t => exact ⟨F1, t, τ1, f, r, ok, h, Same.refl _⟩
  | nw t =>
    obtain ⟨l, rfl, g, n, n0, ne⟩ := ok
    obtain ⟨o, ho, mb⟩ := g.mb
    refine ⟨upd F1 l o, t, τ1, ⟨f.f.trans (Same.new n o), fun p q hp nw no => ?_, f.o, f.h⟩, r.fixA ho n n0 ne, g.is (Same.new n o) (by rw [upd_same, ho]), h, Same.new n o⟩
    obtain ⟨h1, h2⟩ := f.k p q hp nw no
    refine ⟨h1, fun mb z => ?_⟩
    have : p ≠ l := fun e => by rw [e, nk l rfl] at hp; cases hp
    rw [upd_ne this]; exact h2 mb z
  | sl i =>
    rcases h with ⟨t, ht, hs⟩ | ⟨t, ht, hs⟩
    · obtain ⟨F2, l, e, sF, r2, hi, ne⟩ := r.fixS ht
      cases sat_unique e ok
      refine ⟨F2, t, _, ⟨f.f.trans sF, fun p q hp nw no => ?_, fun j u hj => ?_, f.h⟩, r2, hi, hs, sF⟩
      · obtain ⟨h1, h2⟩ := f.k p q hp nw no
        refine ⟨h1, fun mb z => ?_⟩
        obtain ⟨u, hu⟩ := f.o i t ht
        have : p ≠ l := fun e' => no i u hu (by rw [e']; exact e)
        rw [ne p this]; exact h2 mb z
      · rcases tset hj with ⟨_, z, _⟩ | ⟨_, hj⟩
        · cases z
        · exact f.o j u hj
    · obtain ⟨w, e, hi⟩ := r.fz i t ht
      cases sat_unique e ok
      exact ⟨F1, t, τ1, f, r, hi, hs, Same.refl _⟩
  | wd => exact h.elim
theorem pnd_ok {v : V} {k : Kd} {S : TK} (f : Fr B σ τ F H τ1 F1 H1) (r : Rp B F1 H1 σ τ1) (ok : KdOk B F1 H1 σ τ1 v k) (nk : NewK H v k) (h : Pnd k τ1 S) : ∃ F2 k', Fr B σ τ F H τ1 F2 H1 ∧ Rp B F2 H1 σ τ1 ∧ PdOk B.K F2 σ v k' ∧ S k' τ1 ∧ Same F1 F2 := by
  cases k with
  | fz t => exact ⟨F1, .fz t, f, r, ok, h, Same.refl _⟩
  | nw t =>
    obtain ⟨F2, t2, τ2, f2, r2, i2, ⟨s2, rfl, rfl⟩, sF⟩ := asF_ok (S := fun t' τ' => S (.fz t') τ' ∧ t' = t ∧ τ' = τ1) f r ok nk ⟨h, rfl, rfl⟩
    exact ⟨F2, _, f2, r2, (show PdOk B.K F2 σ v (.fz _) from i2), s2, sF⟩
  | sl i => exact ⟨F1, .sl i, f, r, ok, h, Same.refl _⟩
  | wd => exact h.elim
end
end L2
namespace L2
open PySem PySem.Spec PyProof.Rows
inductive Gt {α : Type} : List α → Nat → α → Prop
  | here {v : α} {r : List α} : Gt (v :: r) 0 v
  | next {x v : α} {r : List α} {i : Nat} : Gt r i v → Gt (x :: r) (i + 1) v
theorem Gt.eq {α : Type} {σ : List α} {i : Nat} {v : α} (h : Gt σ i v) : σ[i]? = some v := by
  induction h with
  | here => rfl
  | next _ ih => rw [List.getElem?_cons_succ, ih]
inductive Sto {α : Type} : List α → Nat → α → List α → Prop
  | here {x v : α} {r : List α} : Sto (x :: r) 0 v (v :: r)
  | next {x v : α} {r r' : List α} {i : Nat} : Sto r i v r' → Sto (x :: r) (i + 1) v (x :: r')
theorem Sto.eq {α : Type} {σ σ' : List α} {i : Nat} {v : α} (h : Sto σ i v σ') : σ.set i v = σ' := by
  induction h with
  | here => rfl
  | next _ ih => rw [List.set_cons_succ, ih]
inductive Rk (τ : TSt) : Kd → Tr → Prop
  | fz {t : Tr} : Rk τ (.fz t) t
  | own {i : Nat} {t : Tr} : Gt τ i (.own t) → Rk τ (.sl i) t
  | vw {i : Nat} {t : Tr} : Gt τ i (.vw t) → Rk τ (.sl i) t
  | sfz {i : Nat} {t : Tr} : Gt τ i (.fz t) → Rk τ (.sl i) t
section
variable {B : Bk} {F H : Hp} {σ : St} {τ : TSt}
theorem Rk.list {v : V} {k : Kd} {ts : List Tr} (h : Rk τ k (.lst ts)) (r : Rp B F H σ τ) (ok : PdOk B.K F σ v k) : ∃ p vs, v = .ref p ∧ SqL B.K H p vs ∧ IsL B.K F vs ts := by
  cases h with
  | fz =>
    cases ok with
    | lst a b => exact ⟨_, _, rfl, r.inc.seq a, b⟩
  | own g =>
    obtain ⟨l, e, hw, _⟩ := r.ow _ _ g.eq
    cases sat_unique e ok
    cases hw with
    | lst a b => exact ⟨_, _, rfl, SqL.of a, b⟩
  | vw g =>
    obtain ⟨l, e, hw, _⟩ := r.vw _ _ g.eq
    cases sat_unique e ok
    cases hw with
    | lst a b => exact ⟨_, _, rfl, SqL.of a, b⟩
  | sfz g =>
    obtain ⟨w, e, hi⟩ := r.fz _ _ g.eq
    cases sat_unique e ok
    cases hi with
    | lst a b => exact ⟨_, _, rfl, r.inc.seq a, b⟩
theorem Rk.tuple {v : V} {k : Kd} {ts : List Tr} (h : Rk τ k (.tup ts)) (r : Rp B F H σ τ) (ok : PdOk B.K F σ v k) : ∃ p vs, v = .ref p ∧ SqT B.K H p vs ∧ IsL B.K F vs ts := by
  cases h with
  | fz =>
    cases ok with
    | tup a b => exact ⟨_, _, rfl, r.inc.tup a, b⟩
  | own g =>
    obtain ⟨l, e, hw, _⟩ := r.ow _ _ g.eq
    cases hw
  | vw g =>
    obtain ⟨l, e, hw, _⟩ := r.vw _ _ g.eq
    cases hw
  | sfz g =>
    obtain ⟨w, e, hi⟩ := r.fz _ _ g.eq
    cases sat_unique e ok
    cases hi with
    | tup a b => exact ⟨_, _, rfl, r.inc.tup a, b⟩
theorem Rk.dict {v : V} {k : Kd} {ts : List (Key × Tr)} (h : Rk τ k (.dct ts)) (r : Rp B F H σ τ) (ok : PdOk B.K F σ v k) : ∃ p kvs, v = .ref p ∧ H p = some (.dK kvs) ∧ kvs.map (·.1) = ts.map (·.1) ∧ IsL B.K F (kvs.map (·.2)) (ts.map (·.2)) := by
  cases h with
  | fz =>
    cases ok with
    | dct a b c => exact ⟨_, _, rfl, r.inc _ _ a, b, c⟩
  | own g =>
    obtain ⟨l, e, hw, _⟩ := r.ow _ _ g.eq
    cases sat_unique e ok
    cases hw with
    | dct a b c => exact ⟨_, _, rfl, a, b, c⟩
  | vw g =>
    obtain ⟨l, e, hw, _⟩ := r.vw _ _ g.eq
    cases sat_unique e ok
    cases hw with
    | dct a b c => exact ⟨_, _, rfl, a, b, c⟩
  | sfz g =>
    obtain ⟨w, e, hi⟩ := r.fz _ _ g.eq
    cases sat_unique e ok
    cases hi with
    | dct a b c => exact ⟨_, _, rfl, r.inc _ _ a, b, c⟩
end
section
variable {B : Bk} {τ τ' : TSt} {Φ : TK} {te ta tb tc : TE} {k : Nat} {t : Tr} {i j : Int} {x y : Kd} {b : Bool} {c d : TT} {Ψ : Bool → TSt → Prop}
theorem p_fz {S : TK} (h : S (.fz t) τ) : Pnd (.fz t) τ S := h
theorem p_nw {S : TK} (h : S (.fz t) τ) : Pnd (.nw t) τ S := h
theorem as_fz {S : Tr → TSt → Prop} (h : S t τ) : AsF (.fz t) τ S := h
theorem as_nw {S : Tr → TSt → Prop} (h : S t τ) : AsF (.nw t) τ S := h
theorem as_own {S : Tr → TSt → Prop} (g : Gt τ k (.own t)) (s : Sto τ k (.fz t) τ') (h : S t τ') : AsF (.sl k) τ S := .inl ⟨t, g.eq, by rw [s.eq]; exact h⟩
theorem CT.pl {F H : Hp} {σ : St} {Q : VK} {v : V} (c : CT B σ τ F H Φ Q) (r : Rp B F H σ τ) (h : Is B.K F v t) (φ : Φ (.fz t) τ) : Q v H := c v F H (.fz t) τ Fr.refl r h trivial φ
theorem e_var (g : Gt τ k (.fz t)) (q : Φ (.fz t) τ) : EV B (tVar k) τ Φ := fun σ F H Q r c => by
  obtain ⟨v, e, h⟩ := r.fz _ _ g.eq
  exact ⟨v, e, c.pl r h q⟩
theorem e_varO (g : Gt τ k (.own t)) (q : Φ (.sl k) τ) : EV B (tVar k) τ Φ := fun σ F H Q r c => by
  obtain ⟨l, e, h⟩ := r.ow _ _ g.eq
  exact ⟨_, e, c _ F H (.sl k) τ Fr.refl r e trivial q⟩
theorem e_varW (g : Gt τ k .wd) (q : Φ .wd τ) : EV B (tVar k) τ Φ := fun σ F H Q r c => by
  have e := r.wd _ g.eq
  exact ⟨_, e, c _ F H .wd τ Fr.refl r rfl trivial q⟩
theorem e_cI (q : Φ (.fz (.int i)) τ) : EV B (tC (.int i)) τ Φ := fun _ _ _ _ r c => c.pl r .int q
theorem e_cB (q : Φ (.fz (.bl b)) τ) : EV B (tC (.bl b)) τ Φ := fun _ _ _ _ r c => c.pl r .bl q
theorem e_cN (q : Φ (.fz .non) τ) : EV B (tC .non) τ Φ := fun _ _ _ _ r c => c.pl r .non q
theorem e_cS {z : Str} (q : Φ (.fz (.str z)) τ) : EV B (tC (.str z)) τ Φ := fun _ _ _ _ r c => c.pl r .str q
theorem e_cT {z : String} (q : Φ (.fz (.ty z)) τ) : EV B (tC (.ty z)) τ Φ := fun _ _ _ _ r c => c.pl r .ty q
def RO (B : Bk) (r : R2) (x y : Kd) (τ : TSt) (Φ : TK) : Prop := ∀ σ F H v w Q, Rp B F H σ τ → PdOk B.K F σ v x → PdOk B.K F σ w y → CT B σ τ F H Φ Q → r v w H Q
theorem e_op {r : R2} (h : EV B ta τ fun x τ1 => Pnd x τ1 fun x τ1 => EV B tb τ1 fun y τ2 => Pnd y τ2 fun y τ2 => RO B r x y τ2 Φ) : EV B (tOp r ta tb) τ Φ := fun σ F H Q rp c => by
  refine h σ F H _ rp fun v F1 H1 k τ1 f1 r1 ok1 n1 h1 => ?_
  obtain ⟨F2, k', f2, r2, ok2, h2, _⟩ := pnd_ok f1 r1 ok1 n1 h1
  refine h2 σ F2 H1 _ r2 fun w F3 H3 k3 τ3 f3 r3 ok3 n3 h3 => ?_
  obtain ⟨F4, k4, f4, r4, ok4, h4, _⟩ := pnd_ok f3 r3 ok3 n3 h3
  exact h4 σ F4 H3 v w Q r4 (ok2.same f4.f) ok4 (c.on (f2.trans f4))
def RU (B : Bk) (r : V → Hp → VK → Prop) (x : Kd) (τ : TSt) (Φ : TK) : Prop := ∀ σ F H v Q, Rp B F H σ τ → PdOk B.K F σ v x → CT B σ τ F H Φ Q → r v H Q
theorem e_un {r : V → Hp → VK → Prop} (h : EV B ta τ fun x τ1 => Pnd x τ1 fun x τ1 => RU B r x τ1 Φ) : EV B (tUn r ta) τ Φ := fun σ F H Q rp c => by
  refine h σ F H _ rp fun v F1 H1 k τ1 f1 r1 ok1 n1 h1 => ?_
  obtain ⟨F2, k', f2, r2, ok2, h2, _⟩ := pnd_ok f1 r1 ok1 n1 h1
  exact h2 σ F2 H1 v Q r2 ok2 (c.on f2)
theorem pd_int {K : Fg} {F : Hp} {σ : St} {v : V} (h : PdOk K F σ v (.fz (.int i))) : v = .int i := by cases h; rfl
theorem pd_bl {K : Fg} {F : Hp} {σ : St} {v : V} (h : PdOk K F σ v (.fz (.bl b))) : v = .bl b := by cases h; rfl
theorem pd_str {K : Fg} {F : Hp} {σ : St} {v : V} {z : Str} (h : PdOk K F σ v (.fz (.str z))) : v = .str z := by cases h; rfl
theorem pd_non {K : Fg} {F : Hp} {σ : St} {v : V} (h : PdOk K F σ v (.fz .non)) : v = .non := by cases h; rfl
theorem ro_I {C : Int → Int → Prop} {g : Int → Int → Int} (hc : C i j) (q : Φ (.fz (.int (g i j))) τ) : RO B (rI C fun i j => .int (g i j)) (.fz (.int i)) (.fz (.int j)) τ Φ := fun _ _ _ _ _ _ r a b c => by
  cases pd_int a; cases pd_int b
  exact ⟨i, j, rfl, rfl, hc, c.pl r .int q⟩
theorem ro_I0 {g : Int → Int → Int} (q : Φ (.fz (.int (g i j))) τ) : RO B (rI0 fun i j => .int (g i j)) (.fz (.int i)) (.fz (.int j)) τ Φ := fun _ _ _ _ _ _ r a b c => by
  cases pd_int a; cases pd_int b
  exact ⟨i, j, rfl, rfl, c.pl r .int q⟩
theorem ro_I0B {g : Int → Int → Bool} (q : Φ (.fz (.bl (g i j))) τ) : RO B (rI0 fun i j => .bl (g i j)) (.fz (.int i)) (.fz (.int j)) τ Φ := fun _ _ _ _ _ _ r a b c => by
  cases pd_int a; cases pd_int b
  exact ⟨i, j, rfl, rfl, c.pl r .bl q⟩
theorem ru_U {g : Int → Int} (q : Φ (.fz (.int (g i))) τ) : RU B (rU fun i => .int (g i)) (.fz (.int i)) τ Φ := fun _ _ _ _ _ r a c => by
  cases pd_int a
  exact ⟨i, rfl, c.pl r .int q⟩
theorem ro_EqI (q : Φ (.fz (.bl (decide (i = j)))) τ) : RO B rEq (.fz (.int i)) (.fz (.int j)) τ Φ := fun _ _ _ _ _ _ r a b c => by
  cases pd_int a; cases pd_int b
  exact z_EqI (c.pl r .bl q)
theorem ro_NeI (q : Φ (.fz (.bl (!decide (i = j)))) τ) : RO B rNe (.fz (.int i)) (.fz (.int j)) τ Φ := fun _ _ _ _ _ _ r a b c => by
  cases pd_int a; cases pd_int b
  exact z_NeI (c.pl r .bl q)
theorem ro_EqS {z u : Str} (q : Φ (.fz (.bl (decide (z = u)))) τ) : RO B rEq (.fz (.str z)) (.fz (.str u)) τ Φ := fun _ _ _ _ _ _ r a b c => by
  cases pd_str a; cases pd_str b
  exact z_EqS (c.pl r .bl q)
def Tr.isN : Tr → Bool
  | .non => true
  | _ => false
theorem is_non {K : Fg} {F : Hp} {v : V} (h : Is K F v t) : decide (v = .non) = t.isN := by cases h <;> rfl
theorem ro_isN (q : Φ (.fz (.bl t.isN)) τ) : RO B rIsN (.fz t) (.fz .non) τ Φ := fun _ _ _ v _ _ r a b c => by
  cases pd_non b
  refine ⟨rfl, ?_⟩
  rw [is_non (show Is B.K _ v t from a)]
  exact c.pl r .bl q
theorem ro_notN (q : Φ (.fz (.bl (!t.isN))) τ) : RO B rNotN (.fz t) (.fz .non) τ Φ := fun _ _ _ v _ _ r a b c => by
  cases pd_non b
  refine ⟨rfl, ?_⟩
  rw [is_non (show Is B.K _ v t from a)]
  exact c.pl r .bl q
theorem isl_at {K : Fg} {F : Hp} {vs : List V} {ts : List Tr} (h : IsL K F vs ts) (e : atI ts i = some t) : ∃ v, atI vs i = some v ∧ Is K F v t := by
  unfold atI at e ⊢
  rw [h.length]
  cases hx : ixN ts.length i with
  | none => rw [hx] at e; cases e
  | some n =>
    rw [hx] at e
    exact h.get e
theorem ro_ixL {K : Fg} {ts : List Tr} (hK : K = B.K) (rk : Rk τ x (.lst ts)) (e : atI ts i = some t) (q : Φ (.fz t) τ) : RO B (rIxL K) x (.fz (.int i)) τ Φ := fun _ _ _ _ _ _ r a b c => by
  subst hK
  cases pd_int b
  obtain ⟨p, vs, rfl, s, l⟩ := rk.list r a
  obtain ⟨w, ew, hw⟩ := isl_at l e
  exact ⟨p, vs, i, w, rfl, rfl, s, ew, c.pl r hw q⟩
theorem ro_ixT {K : Fg} {ts : List Tr} (hK : K = B.K) (rk : Rk τ x (.tup ts)) (e : atI ts i = some t) (q : Φ (.fz t) τ) : RO B (rIxT K) x (.fz (.int i)) τ Φ := fun _ _ _ _ _ _ r a b c => by
  subst hK
  cases pd_int b
  obtain ⟨p, vs, rfl, s, l⟩ := rk.tuple r a
  obtain ⟨w, ew, hw⟩ := isl_at l e
  exact ⟨p, vs, i, w, rfl, rfl, s, ew, c.pl r hw q⟩
theorem ro_addS {z u : Str} (hl : z.length + u.length ≤ sizeLine) (q : Φ (.fz (.str (z ++ u))) τ) : RO B rAddS (.fz (.str z)) (.fz (.str u)) τ Φ := fun _ _ _ _ _ _ r a b c => by
  cases pd_str a
  cases pd_str b
  exact ⟨z, u, rfl, rfl, hl, c.pl r .str q⟩
theorem t_test (h : EV B te τ fun x τ1 => ∃ b, x = .fz (.bl b) ∧ Ψ b τ1) : TV B (tTest te) τ Ψ := fun σ F H Q r c => by
  refine h σ F H _ r fun v F1 H1 k τ1 f1 r1 ok1 _ ⟨b, e, h1⟩ => ?_
  subst e
  cases ok1
  exact ⟨b, rfl, c b F1 H1 τ1 f1 r1 h1⟩
theorem t_B (h : EV B te τ fun x τ1 => ∃ b, x = .fz (.bl b) ∧ Ψ b τ1) : TV B (tB te) τ Ψ := t_test h
theorem t_ebl {S : Bool → Prop} (q : S b) : ∃ b', Kd.fz (.bl b) = .fz (.bl b') ∧ S b' := ⟨b, rfl, q⟩
theorem TV.on {σ : St} {F H F1 H1 : Hp} {τ1 : TSt} {Q : Bool → Hp → Prop} (c : ∀ b F' H' τ', Fr B σ τ F H τ' F' H' → Rp B F' H' σ τ' → Ψ b τ' → Q b H') (f : Fr B σ τ F H τ1 F1 H1) : ∀ b F' H' τ', Fr B σ τ1 F1 H1 τ' F' H' → Rp B F' H' σ τ' → Ψ b τ' → Q b H' :=
  fun b F' H' τ' f' r h => c b F' H' τ' (f.trans f') r h
theorem t_and (h : TV B c τ fun k τ1 => if k = true then TV B d τ1 Ψ else Ψ false τ1) : TV B (tAnd c d) τ Ψ := fun σ F H Q r k => by
  refine h σ F H _ r fun b F1 H1 τ1 f1 r1 h1 => ?_
  cases b with
  | true => rw [if_pos rfl] at h1 ⊢; exact h1 σ F1 H1 Q r1 (TV.on k f1)
  | false => rw [if_neg Bool.false_ne_true] at h1 ⊢; exact k _ F1 H1 τ1 f1 r1 h1
theorem t_or (h : TV B c τ fun k τ1 => if k = true then Ψ true τ1 else TV B d τ1 Ψ) : TV B (tOr c d) τ Ψ := fun σ F H Q r k => by
  refine h σ F H _ r fun b F1 H1 τ1 f1 r1 h1 => ?_
  cases b with
  | true => rw [if_pos rfl] at h1 ⊢; exact k _ F1 H1 τ1 f1 r1 h1
  | false => rw [if_neg Bool.false_ne_true] at h1 ⊢; exact h1 σ F1 H1 Q r1 (TV.on k f1)
theorem t_not (h : TV B c τ fun k τ1 => Ψ (!k) τ1) : TV B (tNot c) τ Ψ := fun σ F H Q r k => h σ F H _ r fun b F1 H1 τ1 f1 r1 h1 => k _ F1 H1 τ1 f1 r1 h1
theorem e_andV (h : EV B ta τ fun x τ1 => ∃ b, x = .fz (.bl b) ∧ if b = true then EV B tb τ1 Φ else Φ (.fz (.bl false)) τ1) : EV B (tAndV ta tb) τ Φ := fun σ F H Q r c => by
  refine h σ F H _ r fun v F1 H1 k τ1 f1 r1 ok1 _ ⟨b, e, h1⟩ => ?_
  subst e
  cases ok1
  refine ⟨b, rfl, ?_⟩
  cases b with
  | true => rw [if_pos rfl] at h1 ⊢; exact h1 σ F1 H1 Q r1 (c.on f1)
  | false => rw [if_neg Bool.false_ne_true] at h1 ⊢; exact (c.on f1).pl r1 .bl h1
theorem e_notV (h : EV B ta τ fun x τ1 => ∃ b, x = .fz (.bl b) ∧ Φ (.fz (.bl (!b))) τ1) : EV B (tNotV ta) τ Φ := fun σ F H Q r c => by
  refine h σ F H _ r fun v F1 H1 k τ1 f1 r1 ok1 _ ⟨b, e, h1⟩ => ?_
  subst e
  cases ok1
  exact ⟨b, rfl, (c.on f1).pl r1 .bl h1⟩
theorem e_if (h : TV B c τ fun k τ1 => if k = true then EV B ta τ1 Φ else EV B tb τ1 Φ) : EV B (tIf c ta tb) τ Φ := fun σ F H Q r k => by
  refine h σ F H _ r fun b F1 H1 τ1 f1 r1 h1 => ?_
  cases b with
  | true => rw [if_pos rfl] at h1 ⊢; exact h1 σ F1 H1 Q r1 (k.on f1)
  | false => rw [if_neg Bool.false_ne_true] at h1 ⊢; exact h1 σ F1 H1 Q r1 (k.on f1)
theorem a_nil {S : List Tr → TSt → Prop} (q : S [] τ) : EVA B tNil τ S := fun σ F H Q r c => c [] F H [] τ Fr.refl r .nil q
theorem a_cons {tr : TA} {S : List Tr → TSt → Prop} (h : EV B te τ fun x τ1 => AsF x τ1 fun t τ2 => EVA B tr τ2 fun ts τ3 => S (t :: ts) τ3) : EVA B (tCons te tr) τ S := fun σ F H Q r c => by
  refine h σ F H _ r fun v F1 H1 k τ1 f1 r1 ok1 n1 h1 => ?_
  obtain ⟨F2, t, τ2, f2, r2, i2, h2, _⟩ := asF_ok f1 r1 ok1 n1 h1
  exact h2 σ F2 H1 _ r2 fun vs F3 H3 ts τ3 f3 r3 l3 h3 => c _ F3 H3 _ τ3 (f2.trans f3) r3 (.cons (i2.same f3.f) l3) h3
theorem e_tup {tA : TA} (h : EVA B tA τ fun ts τ1 => ts.length ≤ 1000 ∧ Φ (.fz (.tup ts)) τ1) : EV B (tTup tA) τ Φ := fun σ F H Q r c => by
  refine h σ F H _ r fun vs F1 H1 ts τ1 f1 r1 l1 ⟨hl, h1⟩ => ⟨by rw [l1.length]; exact Nat.le_trans hl (by decide), fun p hp => ?_⟩
  have u := r1.tup (vs := vs) hp
  exact c _ _ _ (.fz (.tup ts)) τ1 (f1.trans (Fr.up u)) (r1.go u) (Is.tup (SqT.of upd_same) (l1.same u.f)) trivial h1
theorem nw_new {F H : Hp} {σ : St} {vs : List V} {ts : List Tr} {p : Addr} (r : Rp B F H σ τ) (l : IsL B.K F vs ts) (hp : H p = none) : KdOk B F (upd H p (.lst vs)) σ τ (.ref p) (.nw (.lst ts)) := by
  refine ⟨p, rfl, .lst upd_same l, r.inc.free hp, r.up.w p hp, fun i u h e => ?_⟩
  rcases h with h | h
  · obtain ⟨l', e', g, _⟩ := r.ow i u h
    obtain ⟨o, ho, _⟩ := g.mb
    have := sat_unique e' e
    cases this
    rw [hp] at ho; cases ho
  · obtain ⟨l', e', g, _⟩ := r.vw i u h
    obtain ⟨o, ho, _⟩ := g.mb
    have := sat_unique e' e
    cases this
    rw [hp] at ho; cases ho
theorem CT.nl {F H : Hp} {σ : St} {Q : VK} {vs : List V} {ts : List Tr} {p : Addr} (c : CT B σ τ F H Φ Q) (r : Rp B F H σ τ) (l : IsL B.K F vs ts) (hp : H p = none) (φ : Φ (.nw (.lst ts)) τ) : Q (.ref p) (upd H p (.lst vs)) :=
  c _ F _ (.nw (.lst ts)) τ (Fr.up (r.new hp)) (r.go (r.new hp)) (nw_new r l hp) (fun l e => by cases e; exact hp) φ
theorem e_lst {tA : TA} (h : EVA B tA τ fun ts τ1 => ts.length ≤ 1000 ∧ Φ (.nw (.lst ts)) τ1) : EV B (tLst tA) τ Φ := fun σ F H Q r c => by
  refine h σ F H _ r fun vs F1 H1 ts τ1 f1 r1 l1 ⟨hl, h1⟩ => ⟨by rw [l1.length]; exact Nat.le_trans hl (by decide), fun p hp => ?_⟩
  exact (c.on f1).nl r1 l1 hp h1
theorem e_cb1 {r : List V → Hp → VK → Prop} (h : EV B te τ fun x τ1 => Pnd x τ1 fun x τ1 => RU B (fun v H Q => r [v] H Q) x τ1 Φ) : EV B (tCB r (tCons te tNil)) τ Φ := fun σ F H Q rp c => by
  refine h σ F H _ rp fun v F1 H1 k τ1 f1 r1 ok1 n1 h1 => ?_
  obtain ⟨F2, k', f2, r2, ok2, h2, _⟩ := pnd_ok f1 r1 ok1 n1 h1
  exact h2 σ F2 H1 v Q r2 ok2 (c.on f2)
theorem e_cb2 {r : List V → Hp → VK → Prop} (h : EV B ta τ fun x τ1 => Pnd x τ1 fun x τ1 => EV B tb τ1 fun y τ2 => Pnd y τ2 fun y τ2 => RO B (fun v w H Q => r [v, w] H Q) x y τ2 Φ) : EV B (tCB r (tCons ta (tCons tb tNil))) τ Φ := fun σ F H Q rp c => by
  refine h σ F H _ rp fun v F1 H1 k τ1 f1 r1 ok1 n1 h1 => ?_
  obtain ⟨F2, k', f2, r2, ok2, h2, _⟩ := pnd_ok f1 r1 ok1 n1 h1
  refine h2 σ F2 H1 _ r2 fun w F3 H3 k3 τ3 f3 r3 ok3 n3 h3 => ?_
  obtain ⟨F4, k4, f4, r4, ok4, h4, _⟩ := pnd_ok f3 r3 ok3 n3 h3
  exact h4 σ F4 H3 v w Q r4 (ok2.same f4.f) ok4 (c.on (f2.trans f4))
def OV (B : Bk) (to : TO) (τ : TSt) (Φ : Option Int → TSt → Prop) : Prop := ∀ σ F H (Q : Option Int → Hp → Prop), Rp B F H σ τ → (∀ b F' H' τ', Fr B σ τ F H τ' F' H' → Rp B F' H' σ τ' → Φ b τ' → Q b H') → to σ H Q
theorem o_no {S : Option Int → TSt → Prop} (q : S none τ) : OV B tNoPart τ S := fun _ F H _ r c => c none F H τ Fr.refl r q
theorem o_part {S : Option Int → TSt → Prop} (h : EV B te τ fun x τ1 => ∃ i, x = .fz (.int i) ∧ S (some i) τ1) : OV B (tPart te) τ S := fun σ F H Q r c => by
  refine h σ F H _ r fun v F1 H1 k τ1 f1 r1 ok1 _ ⟨b, e, h1⟩ => ?_
  subst e
  cases ok1
  exact ⟨b, rfl, c _ F1 H1 τ1 f1 r1 h1⟩
theorem t_eint {S : Int → Prop} (q : S i) : ∃ b', Kd.fz (.int i) = .fz (.int b') ∧ S b' := ⟨i, rfl, q⟩
def RSl (B : Bk) (r : V → Option Int → Option Int → Hp → VK → Prop) (x : Kd) (lo hi : Option Int) (τ : TSt) (Φ : TK) : Prop := RU B (fun v H Q => r v lo hi H Q) x τ Φ
theorem e_sl {r : V → Option Int → Option Int → Hp → VK → Prop} {tl th : TO} (h : EV B te τ fun x τ1 => Pnd x τ1 fun x τ1 => OV B tl τ1 fun lo τ2 => OV B th τ2 fun hi τ3 => RSl B r x lo hi τ3 Φ) : EV B (tSl r te tl th) τ Φ := fun σ F H Q rp c => by
  refine h σ F H _ rp fun v F1 H1 k τ1 f1 r1 ok1 n1 h1 => ?_
  obtain ⟨F2, k', f2, r2, ok2, h2, _⟩ := pnd_ok f1 r1 ok1 n1 h1
  refine h2 σ F2 H1 _ r2 fun lo F3 H3 τ3 f3 r3 h3 => ?_
  refine h3 σ F3 H3 _ r3 fun hi F4 H4 τ4 f4 r4 h4 => ?_
  exact h4 σ F4 H4 v Q r4 ((ok2.same f3.f).same f4.f) (c.on (f2.trans (f3.trans f4)))
def cutT (xs : List Tr) (lo hi : Option Int) : List Tr := (xs.drop (HT.sIx xs.length 0 lo)).take (HT.sIx xs.length xs.length hi - HT.sIx xs.length 0 lo)
theorem isl_cut {K : Fg} {F : Hp} {vs : List V} {ts : List Tr} {lo hi : Option Int} (h : IsL K F vs ts) : IsL K F (cutV vs lo hi) (cutT ts lo hi) := by
  unfold cutV cutT
  rw [h.length]
  exact (h.drop _).take _
theorem rs_L {K : Fg} {ts : List Tr} {lo hi : Option Int} (hK : K = B.K) (rk : Rk τ x (.lst ts)) (q : Φ (.nw (.lst (cutT ts lo hi))) τ) : RSl B (rSlL K) x lo hi τ Φ := fun _ _ _ _ _ r a c => by
  subst hK
  obtain ⟨p, vs, rfl, s, l⟩ := rk.list r a
  exact ⟨p, vs, rfl, s, fun p' hp => c.nl r (isl_cut l) hp q⟩
end
end L2
namespace L2
open PySem PySem.Spec PyProof.Rows
section
variable {B : Bk} {F H : Hp} {σ : St} {τ τ' : TSt}
theorem Rp.setO {i : Nat} {t t' : Tr} {l : Addr} {o' : HO} (r : Rp B F H σ τ) (h : TAt τ i (.own t)) (e : SAt σ i (.ref l)) (g : Ow B.K F (upd H l o') l t') : Rp B F (upd H l o') σ (τ.set i (.own t')) ∧ Fr B σ τ F H (τ.set i (.own t')) F (upd H l o') := by
  obtain ⟨l', e', g0, n, n0⟩ := r.ow i t h
  cases sat_unique e e'
  have keep : ∀ q, q ≠ l → ∀ o, H q = some o → (upd H l o') q = some o := fun q hq o z => by rw [upd_ne hq]; exact z
  have kx : ∀ q φ, H q = some (.ext φ) → (upd H l o') q = some (.ext φ) := fun q φ z => keep q (fun e => by
    obtain ⟨o, ho, mb⟩ := g0.mb
    rw [e, ho] at z; cases z; exact mb) _ z
  refine ⟨{
    wa := r.wa
    wf := r.wf
    wj := B.jl _ _ (fun q hw => by
      have : q ≠ l := fun e => r.wa q hw (by rw [e]; exact n0)
      rw [upd_ne this]) kx r.wj
    wd := fun j z => by
      rcases tset z with ⟨_, z, _⟩ | ⟨_, z⟩
      · cases z
      · exact r.wd j z
    up := { f := r.up.f, h := fun q o nw z => by
              have : q ≠ l := fun e => by rw [e, n0] at z; cases z
              exact keep q this o (r.up.h q o nw z)
            w := fun q z => r.up.w q (upd_none z)
            x := r.up.x
            j := fun z => B.jl _ _ (fun q hw => by
              have : q ≠ l := fun e => r.wa q hw (by rw [e]; exact n0)
              rw [upd_ne this]) kx r.wj
            i := fun q o z => by
              have : q ≠ l := fun e => by rw [e, n] at z; cases z
              exact keep q this o (r.up.i q o z)
            m := r.up.m }
    len := by rw [List.length_set]; exact r.len
    fz := fun j u z => by
      rcases tset z with ⟨_, z, _⟩ | ⟨_, z⟩
      · cases z
      · exact r.fz j u z
    ow := fun j u z => by
      rcases tset z with ⟨rfl, z, _⟩ | ⟨nj, z⟩
      · cases z; exact ⟨l, e, g, n, n0⟩
      · obtain ⟨l2, a, b, c⟩ := r.ow j u z
        have : l2 ≠ l := fun q => r.ap i j t u l h z (fun q => nj q.symm) e (by rw [← q]; exact a)
        exact ⟨l2, a, b.to (Same.refl _) (keep l2 this), c⟩
    vw := fun j u z => by
      rcases tset z with ⟨_, z, _⟩ | ⟨nj, z⟩
      · cases z
      · obtain ⟨l2, a, b, c⟩ := r.vw j u z
        have : l2 ≠ l := fun q => r.av i j t u l h z e (by rw [← q]; exact a)
        exact ⟨l2, a, b.to (Same.refl _) (keep l2 this), c⟩
    ap := fun a b u w l2 ha hb ne hi hj => by
      obtain ⟨u', ha'⟩ : ∃ u, TAt τ a (.own u) := by
        rcases tset ha with ⟨rfl, _, _⟩ | ⟨_, z⟩
        · exact ⟨_, h⟩
        · exact ⟨_, z⟩
      obtain ⟨w', hb'⟩ : ∃ u, TAt τ b (.own u) := by
        rcases tset hb with ⟨rfl, _, _⟩ | ⟨_, z⟩
        · exact ⟨_, h⟩
        · exact ⟨_, z⟩
      exact r.ap a b u' w' l2 ha' hb' ne hi hj
    av := fun a b u w l2 ha hb hi hj => by
      obtain ⟨u', ha'⟩ : ∃ u, TAt τ a (.own u) := by
        rcases tset ha with ⟨rfl, _, _⟩ | ⟨_, z⟩
        · exact ⟨_, h⟩
        · exact ⟨_, z⟩
      rcases tset hb with ⟨_, z, _⟩ | ⟨_, z⟩
      · cases z
      · exact r.av a b u' w l2 ha' z hi hj }, ?_⟩
  refine ⟨Same.refl _, fun p o hp _ no => ?_, fun j u z => ?_, fun p hp => ?_⟩
  · have : p ≠ l := fun q => no i t h (by rw [q]; exact e)
    exact ⟨keep p this o hp, fun _ z => z⟩
  · rcases tset z with ⟨rfl, _, _⟩ | ⟨_, z⟩
    · exact ⟨_, h⟩
    · exact ⟨_, z⟩
  · by_cases q : p = l
    · rw [q, upd_same] at hp; cases hp
    · rw [upd_ne q] at hp; exact hp
end
section
variable {B : Bk} {τ τ' τ2 : TSt} {Φ : TK} {te ta tb : TE} {i k : Nat} {t u : Tr} {x : Kd} {ts us : List Tr}
def tyT (T : String) : Tr → Prop
  | .str _ => T = "str"
  | .lst _ => T = "list"
  | .dct _ => T = "dict"
  | _ => False
def TyK (T : String) (x : Kd) (τ : TSt) : Prop := ∃ t, Rk τ x t ∧ tyT T t
theorem TyK.v {F H : Hp} {σ : St} {T : String} {v : V} (h : TyK T x τ) (r : Rp B F H σ τ) (ok : PdOk B.K F σ v x) : tyV B.K T v H := by
  obtain ⟨t, rk, ht⟩ := h
  cases t with
  | lst ts =>
    obtain ⟨p, vs, rfl, s, _⟩ := rk.list r ok
    exact .inl ⟨ht, vs, s⟩
  | dct ts =>
    obtain ⟨p, vs, rfl, s, _⟩ := rk.dict r ok
    exact .inr (.inr (.inl ⟨ht, .inl ⟨vs, s⟩⟩))
  | str z =>
    have : v = .str z := by
      cases rk with
      | fz => cases ok; rfl
      | own g => obtain ⟨l, e, hw, _⟩ := r.ow _ _ g.eq; cases hw
      | vw g => obtain ⟨l, e, hw, _⟩ := r.vw _ _ g.eq; cases hw
      | sfz g =>
        obtain ⟨w, e, hi⟩ := r.fz _ _ g.eq
        cases sat_unique e ok
        cases hi; rfl
    subst this
    exact ht
  | _ => exact ht.elim
inductive Ar where
  | fz (t : Tr) | wd
def ArOk (B : Bk) (F : Hp) (v : V) : Ar → Prop
  | .fz t => Is B.K F v t
  | .wd => v = .ref B.rt
inductive ArL (B : Bk) (F : Hp) : List V → List Ar → Prop
  | nil : ArL B F [] []
  | cons {v : V} {a : Ar} {vs : List V} {as : List Ar} : ArOk B F v a → ArL B F vs as → ArL B F (v :: vs) (a :: as)
theorem ArL.length {B : Bk} {F : Hp} : ∀ {vs : List V} {as : List Ar}, ArL B F vs as → vs.length = as.length
  | _, _, .nil => rfl
  | _, _, .cons _ g => congrArg (· + 1) (ArL.length g)
theorem ArOk.same {B : Bk} {F F' : Hp} {v : V} {a : Ar} (s : Same F F') (h : ArOk B F v a) : ArOk B F' v a := by
  cases a with
  | fz t => exact Is.same s h
  | wd => exact h
theorem ArL.get {B : Bk} {F : Hp} : ∀ {vs : List V} {as : List Ar} {i : Nat} {a : Ar}, ArL B F vs as → as[i]? = some a → ∃ v, vs[i]? = some v ∧ ArOk B F v a
  | _, _, _, _, .nil, e => by simp at e
  | _, _, 0, _, .cons h _, e => by simp at e; subst e; exact ⟨_, rfl, h⟩
  | _, _, i + 1, t, .cons _ g, e => by
    obtain ⟨u, h1, h2⟩ := ArL.get (i := i) (a := t) g (by simpa using e)
    exact ⟨u, by simpa using h1, h2⟩
theorem ArL.app {B : Bk} {F : Hp} : ∀ {vs ws : List V} {as bs : List Ar}, ArL B F vs as → ArL B F ws bs → ArL B F (vs ++ ws) (as ++ bs)
  | _, _, _, _, .nil, s => s
  | _, _, _, _, .cons h g, s => .cons h (ArL.app g s)
def EVW (B : Bk) (ta : TA) (τ : TSt) (Φ : List Ar → TSt → Prop) : Prop := ∀ σ F H (Q : List V → Hp → Prop), Rp B F H σ τ → (∀ vs F' H' as τ', Fr B σ τ F H τ' F' H' → Rp B F' H' σ τ' → ArL B F' vs as → Φ as τ' → Q vs H') → ta σ H Q
def AsA (k : Kd) (τ : TSt) (S : Ar → TSt → Prop) : Prop := match k with
  | .wd => S .wd τ
  | .fz t => S (.fz t) τ
  | .nw t => S (.fz t) τ
  | .sl i => (∃ t, TAt τ i (.own t) ∧ S (.fz t) (τ.set i (.fz t))) ∨ ∃ t, TAt τ i (.fz t) ∧ S (.fz t) τ
theorem aa_wd {S : Ar → TSt → Prop} (h : S .wd τ) : AsA .wd τ S := h
theorem aa_fz {S : Ar → TSt → Prop} (h : S (.fz t) τ) : AsA (.fz t) τ S := h
theorem aa_nw {S : Ar → TSt → Prop} (h : S (.fz t) τ) : AsA (.nw t) τ S := h
theorem w_nil {S : List Ar → TSt → Prop} (q : S [] τ) : EVW B tNil τ S := fun σ F H Q r c => c [] F H [] τ Fr.refl r .nil q
theorem w_cons {tr : TA} {S : List Ar → TSt → Prop} (h : EV B te τ fun x τ1 => AsA x τ1 fun a τ2 => EVW B tr τ2 fun as τ3 => S (a :: as) τ3) : EVW B (tCons te tr) τ S := fun σ F H Q r c => by
  refine h σ F H _ r fun v F1 H1 k τ1 f1 r1 ok1 n1 h1 => ?_
  have go : AsF k τ1 (fun t τ2 => EVW B tr τ2 fun as τ3 => S (.fz t :: as) τ3) → tr σ H1 fun vs H2 => Q (v :: vs) H2 := fun h => by
    obtain ⟨F2, t, τ2, f2, r2, i2, h2, _⟩ := asF_ok f1 r1 ok1 n1 h
    exact h2 σ F2 H1 _ r2 fun vs F3 H3 ts τ3 f3 r3 l3 h3 => c _ F3 H3 _ τ3 (f2.trans f3) r3 (.cons (ArOk.same (a := .fz t) f3.f i2) l3) h3
  cases k with
  | wd => exact h1 σ F1 H1 _ r1 fun vs F3 H3 ts τ3 f3 r3 l3 h3 => c _ F3 H3 _ τ3 (f1.trans f3) r3 (.cons (a := .wd) ok1 l3) h3
  | fz t => exact go h1
  | nw t => exact go h1
  | sl i => exact go h1
def RetOk (B : Bk) (F H : Hp) (v : V) : Kd → Prop
  | .fz t => Is B.K F v t
  | .nw t => ∃ l, v = .ref l ∧ Ow B.K F H l t ∧ F l = none ∧ B.H0 l = none
  | .sl _ => False
  | .wd => False
abbrev SpT := Bk → List Ar → (Kd → Prop) → (Addr → Prop) → Prop
structure BkOk (B : Bk) : Prop where
  i : Same B.F0 B.H0
  wa : ∀ p, B.W p → B.H0 p ≠ none
  wf : ∀ p, B.W p → B.F0 p = none
  wj : B.J B.H0
def toSp (K : Fg) (S : SpT) : Sp := fun vs H Q E => ∃ B as Φ Ψ, B.K = K ∧ B.H0 = H ∧ BkOk B ∧ ArL B B.F0 vs as ∧ S B as Φ Ψ ∧ (∀ v F' H' k, Up B B.F0 H F' H' → RetOk B F' H' v k → Φ k → Q v H') ∧ ∀ C F' H', Up B B.F0 H F' H' → Ψ C → E (.ref C) none H'
theorem toSp_len {K : Fg} {S : SpT} {n : Nat} (hn : ∀ B as Φ Ψ, S B as Φ Ψ → as.length = n) : ∀ vs H Q E, toSp K S vs H Q E → vs.length = n := fun vs H Q E h => by
  obtain ⟨B, as, Φ, Ψ, _, _, _, l, s, _⟩ := h
  rw [l.length]; exact hn B as Φ Ψ s
theorem ret_kd {F H F' H' : Hp} {σ : St} {v : V} {kd : Kd} {B' : Bk} (r : Rp B F H σ τ) (hK : B'.K = B.K) (hH : B'.H0 = H) (h : RetOk B' F' H' v kd) : KdOk B F' H' σ τ v kd ∧ NewK H v kd := by
  cases kd with
  | fz t => exact ⟨by
      have h2 : Is B'.K F' v t := h
      rw [hK] at h2; exact h2, trivial⟩
  | sl i => exact h.elim
  | wd => exact h.elim
  | nw t =>
    obtain ⟨l, rfl, g, n, n0⟩ := h
    rw [hH] at n0
    rw [hK] at g
    refine ⟨⟨l, rfl, g, n, r.up.w l n0, fun i w h e => ?_⟩, fun l' e => by cases e; exact n0⟩
    rcases h with h | h
    · obtain ⟨l', e', g, _⟩ := r.ow i w h
      obtain ⟨o, ho, _⟩ := g.mb
      cases sat_unique e' e
      rw [n0] at ho; cases ho
    · obtain ⟨l', e', g, _⟩ := r.vw i w h
      obtain ⟨o, ho, _⟩ := g.mb
      cases sat_unique e' e
      rw [n0] at ho; cases ho
abbrev Bk.now (B : Bk) (F H : Hp) : Bk := { B with F0 := F, H0 := H }
theorem Up.of_now {F H F1 H1 F' H' : Hp} (u : Up (B.now F1 H1) F H F' H') : Up B F H F' H' := ⟨u.f, u.h, u.i, u.m, u.w, u.x, u.j⟩
theorem Rp.bkok {F H : Hp} {σ : St} (r : Rp B F H σ τ) : BkOk (B.now F H) := ⟨r.inc, fun p hw z => r.wa p hw (r.up.w p z), r.wf, r.wj⟩
theorem ArL.now {F F1 H1 : Hp} : ∀ {vs : List V} {as : List Ar}, ArL B F vs as → ArL (B.now F1 H1) F vs as
  | _, _, .nil => .nil
  | _, _, .cons (a := .fz _) h g => .cons (a := .fz _) h (ArL.now g)
  | _, _, .cons (a := .wd) h g => .cons (a := .wd) h (ArL.now g)
theorem e_callX {K : Fg} (hK : K = B.K) {S : SpT} {E : XK} {tA : TA} {Ψ : Addr → Prop} (hE : ∀ C F H, Up B B.F0 B.H0 F H → Ψ C → E (.ref C) none H) (h : EVW B tA τ fun as τ1 => ∀ F H, S (B.now F H) as (fun k => Φ k τ1) Ψ) : EV B (tCall (toSp K S) [] E tA) τ Φ := fun σ F H Q rp c => by
  subst hK
  unfold tCall
  simp only [List.append_nil]
  refine h σ F H _ rp fun vs F1 H1 as τ1 f1 r1 l1 h1 => ?_
  refine ⟨B.now F1 H1, as, _, _, rfl, rfl, r1.bkok, ?_, h1 F1 H1, fun v F2 H2 kd u ok φ => ?_, fun C F2 H2 u ψ => hE C F2 H2 (r1.up.trans u.of_now) ψ⟩
  · exact l1.now
  obtain ⟨a, b⟩ := ret_kd r1 (B' := B.now F1 H1) rfl rfl ok
  exact c.on f1 v F2 H2 kd τ1 (Fr.up u.of_now) (r1.go u.of_now) (by
    cases kd with
    | nw t => exact ⟨a.choose, a.choose_spec.1, a.choose_spec.2.1, a.choose_spec.2.2⟩
    | _ => exact a) b φ
theorem e_call {K : Fg} (hK : K = B.K) {S : SpT} {E : XK} {tA : TA} (h : EVW B tA τ fun as τ1 => ∀ F H, S (B.now F H) as (fun k => Φ k τ1) fun _ => False) : EV B (tCall (toSp K S) [] E tA) τ Φ := e_callX hK (fun _ _ _ _ z => z.elim) h
end
structure ET where
  nx : TSt → Prop
  rt : Kd → Prop
  bk : TSt → Prop
  ct : TSt → Prop
structure EO (B : Bk) (F : Hp) (D : Ends) (D' : ET) : Prop where
  nx : ∀ σ F' H τ, Same F F' → Rp B F' H σ τ → D'.nx τ → D.nx σ H
  rt : ∀ v F' H k, Up B B.F0 B.H0 F' H → RetOk B F' H v k → D'.rt k → D.rt v H
  bk : ∀ σ F' H τ, Same F F' → Rp B F' H σ τ → D'.bk τ → D.bk σ H
  ct : ∀ σ F' H τ, Same F F' → Rp B F' H σ τ → D'.ct τ → D.ct σ H
def SV (B : Bk) (t : TS) (τ : TSt) (D' : ET) : Prop := ∀ σ F H D, Rp B F H σ τ → EO B F D D' → t D σ H
section
variable {B : Bk} {τ τ' τ2 : TSt} {te ta tb : TE} {i k : Nat} {t u : Tr} {x : Kd} {ts us : List Tr} {s1 s2 : TS} {nx bk ct : TSt → Prop} {rt : Kd → Prop} {c : TT}
theorem EO.on {F F1 : Hp} {D : Ends} {D' : ET} (e : EO B F D D') (s : Same F F1) : EO B F1 D D' := ⟨fun σ F' H τ z => e.nx σ F' H τ (s.trans z), e.rt, fun σ F' H τ z => e.bk σ F' H τ (s.trans z), fun σ F' H τ z => e.ct σ F' H τ (s.trans z)⟩
theorem s_seq (h : SV B s1 τ ⟨fun τ1 => SV B s2 τ1 ⟨nx, rt, bk, ct⟩, rt, bk, ct⟩) : SV B (tSeq s1 s2) τ ⟨nx, rt, bk, ct⟩ := fun σ F H D r e => h σ F H _ r ⟨fun σ' F' H' τ' s r' h' => h' σ' F' H' D r' (e.on s), e.rt, e.bk, e.ct⟩
theorem s_next (h : nx τ) : SV B tNext τ ⟨nx, rt, bk, ct⟩ := fun σ F H D r e => e.nx σ F H τ (Same.refl _) r h
theorem s_drop (h : EV B te τ fun _ τ1 => nx τ1) : SV B (tDrop te) τ ⟨nx, rt, bk, ct⟩ := fun σ F H D r e => h σ F H _ r fun v F1 H1 k τ1 f r1 _ _ h1 => e.nx σ F1 H1 τ1 f.f r1 h1
def RtK (k : Kd) (τ : TSt) (R : Kd → Prop) : Prop := match k with
  | .fz t => R (.fz t)
  | .nw t => R (.nw t) ∨ R (.fz t)
  | .sl i => (∃ t, TAt τ i (.own t) ∧ (R (.nw t) ∨ R (.fz t))) ∨ ∃ t, TAt τ i (.fz t) ∧ R (.fz t)
  | .wd => False
theorem s_ret (h : EV B te τ fun k τ1 => RtK k τ1 rt) : SV B (tRet te) τ ⟨nx, rt, bk, ct⟩ := fun σ F H D r e => h σ F H _ r fun v F1 H1 k τ1 f r1 ok n h1 => by
  have fixed : ∀ l t, v = .ref l → Ow B.K F1 H1 l t → F1 l = none → B.H0 l = none → rt (.fz t) → D.rt v H1 := fun l t ev g nn n0 h => by
    subst ev
    obtain ⟨o, ho, mb⟩ := g.mb
    refine e.rt _ (upd F1 l o) H1 (.fz t) ⟨r1.up.f.trans (Same.new nn o), r1.up.h, fun q z hz => ?_, fun q z hz mz nz => ?_, r1.up.w, fun q hw nz => ?_, r1.up.j⟩ (g.is (Same.new nn o) (by rw [upd_same, ho])) h
    · by_cases hq : q = l
      · rw [hq, upd_same] at hz; cases hz; rw [hq]; exact ho
      · rw [upd_ne hq] at hz; exact r1.up.i q z hz
    · have : q ≠ l := fun e' => by rw [e', n0] at hz; cases hz
      rw [upd_ne this]; exact r1.up.m q z hz mz nz
    · have : q ≠ l := fun e' => r1.wa q hw (by rw [e']; exact n0)
      rw [upd_ne this]; exact r1.up.x q hw nz
  cases k with
  | fz t => exact e.rt v F1 H1 (.fz t) r1.up ok h1
  | nw t =>
    obtain ⟨l, ev, g, nn, n0, _⟩ := ok
    rcases h1 with h1 | h1
    · exact e.rt v F1 H1 (.nw t) r1.up ⟨l, ev, g, nn, n0⟩ h1
    · exact fixed l t ev g nn n0 h1
  | sl i =>
    rcases h1 with ⟨t, ht, h1⟩ | ⟨t, ht, h1⟩
    · obtain ⟨l, es, g, nn, n0⟩ := r1.ow i t ht
      have ev : v = .ref l := sat_unique ok es
      rcases h1 with h1 | h1
      · exact e.rt v F1 H1 (.nw t) r1.up ⟨l, ev, g, nn, n0⟩ h1
      · exact fixed l t ev g nn n0 h1
    · obtain ⟨w, es, g⟩ := r1.fz i t ht
      cases sat_unique es ok
      exact e.rt v F1 H1 (.fz t) r1.up g h1
  | wd => exact h1.elim
theorem rt_fz {R : Kd → Prop} (h : R (.fz t)) : RtK (.fz t) τ R := h
theorem s_ifs (h : TV B c τ fun b τ1 => if b = true then SV B s1 τ1 ⟨nx, rt, bk, ct⟩ else SV B s2 τ1 ⟨nx, rt, bk, ct⟩) : SV B (tIfS c s1 s2) τ ⟨nx, rt, bk, ct⟩ := fun σ F H D r e => h σ F H _ r fun b F1 H1 τ1 f r1 h1 => by
  cases b with
  | true => rw [if_pos rfl] at h1 ⊢; exact h1 σ F1 H1 D r1 (e.on f.f)
  | false => rw [if_neg Bool.false_ne_true] at h1 ⊢; exact h1 σ F1 H1 D r1 (e.on f.f)
theorem s_cut (J : TSt → Prop) (h : SV B s1 τ ⟨J, rt, bk, ct⟩) (q : ∀ τ', J τ' → nx τ') : SV B s1 τ ⟨nx, rt, bk, ct⟩ := fun σ F H D r e => h σ F H D r ⟨fun σ F' H τ s r h => e.nx σ F' H τ s r (q τ h), e.rt, e.bk, e.ct⟩
def GA (B : Bk) (g : TG) (k : Kd) (τ : TSt) (N : TSt → Prop) : Prop := ∀ σ F H v (S : St → Hp → Prop), Rp B F H σ τ → KdOk B F H σ τ v k → (∀ σ' F' H' τ', Same F F' → Rp B F' H' σ' τ' → N τ' → S σ' H') → g v σ H S
theorem s_asg {g : TG} (h : EV B te τ fun k τ1 => GA B g k τ1 nx) : SV B (tAsg te g) τ ⟨nx, rt, bk, ct⟩ := fun σ F H D r e => h σ F H _ r fun v F1 H1 k τ1 f r1 ok _ h1 => h1 σ F1 H1 v _ r1 ok fun σ' F' H' τ' s r' n => e.nx σ' F' H' τ' (f.f.trans s) r' n
theorem g_fz {N : TSt → Prop} (s : Sto τ k (.fz t) τ') (h : N τ') : GA B (gName k) (.fz t) τ N := fun σ F H v S r ok q => q _ F H τ' (Same.refl _) (by have := r.setF (i := k) ok; rw [s.eq] at this; exact this) h
theorem g_nw {N : TSt → Prop} (s : Sto τ k (.own t) τ') (h : N τ') : GA B (gName k) (.nw t) τ N := fun σ F H v S r ok q => q _ F H τ' (Same.refl _) (by have := r.setN (i := k) ok; rw [s.eq] at this; exact this) h
def GAs (B : Bk) (g : TGs) (ts : List Tr) (τ : TSt) (N : TSt → Prop) : Prop := ∀ σ F H vs (S : St → Hp → Prop), Rp B F H σ τ → IsL B.K F vs ts → (∀ σ' F' H' τ', Same F F' → Rp B F' H' σ' τ' → N τ' → S σ' H') → g vs σ H S
theorem g_tup {K : Fg} (hK : K = B.K) {N : TSt → Prop} {n : Nat} {g : TGs} (hl : ts.length = n) (h : GAs B g ts τ N) : GA B (gTup K n g) (.fz (.tup ts)) τ N := fun σ F H v S r ok q => by
  subst hK
  cases (show Is B.K F v (.tup ts) from ok) with
  | tup a b => exact ⟨_, _, rfl, r.inc.tup a, by rw [b.length]; exact hl, h σ F H _ S r b q⟩
theorem gs_nil {N : TSt → Prop} (h : N τ) : GAs B gNil [] τ N := fun σ F H vs S r l q => by
  cases l
  exact ⟨rfl, q σ F H τ (Same.refl _) r h⟩
theorem gs_cons {N : TSt → Prop} {g : TG} {gr : TGs} (h : GA B g (.fz t) τ fun τ1 => GAs B gr ts τ1 N) : GAs B (gCons g gr) (t :: ts) τ N := fun σ F H vs S r l q => by
  cases l with
  | cons a b => exact ⟨_, _, rfl, h σ F H _ _ r a fun σ1 F1 H1 τ1 s1 r1 h1 => h1 σ1 F1 H1 _ S r1 (b.same s1) fun σ' F' H' τ' s' r' n => q σ' F' H' τ' (s1.trans s') r' n⟩
def ItOk (B : Bk) (F : Hp) (J : It) (ts : List Tr) : Prop := ∀ σ τ F' H', Same F F' → Rp B F' H' σ τ → (∀ i t, ts[i]? = some t → J.go i H' ∧ ∀ x H2, J.yld i H' x H2 → ∃ F2, Up B F' H' F2 H2 ∧ Is B.K F2 x t) ∧ J.stop ts.length H'
def IV (B : Bk) (wi : TI) (τ : TSt) (Φ : List Tr → TSt → Prop) : Prop := ∀ σ F H (R : It → Hp → Prop), Rp B F H σ τ → (∀ J F' H' ts τ', Fr B σ τ F H τ' F' H' → Rp B F' H' σ τ' → ItOk B F' J ts → Φ ts τ' → R J H') → wi σ H R
theorem i_list {K : Fg} (hK : K = B.K) {Φ : List Tr → TSt → Prop} (h : EV B te τ fun x τ1 => AsF x τ1 fun t τ2 => ∃ ts, t = .lst ts ∧ Φ ts τ2) : IV B (iList K te) τ Φ := fun σ F H R r c => by
  subst hK
  refine h σ F H _ r fun v F1 H1 k τ1 f1 r1 ok1 n1 h1 => ?_
  obtain ⟨F2, t, τ2, f2, r2, i2, ⟨ts, e, h2⟩, _⟩ := asF_ok f1 r1 ok1 n1 h1
  subst e
  cases i2 with
  | lst a b =>
    refine ⟨_, rfl, ⟨_, r2.inc.seq a⟩, c _ F2 H1 ts τ2 f2 r2 (fun σ' τ' F' H' sF rH => ⟨fun i t e => ?_, ⟨_, rH.inc.seq (sF.seq a), by rw [b.length]; exact Nat.le_refl _⟩⟩) h2⟩
    obtain ⟨w, ew, hw⟩ := b.get e
    refine ⟨⟨_, w, rH.inc.seq (sF.seq a), ew⟩, fun x H2 y => ?_⟩
    obtain ⟨rfl, y2⟩ := y
    have := y2 _ (rH.inc.seq (sF.seq a))
    rw [ew] at this
    cases this
    exact ⟨F', Up.refl rH.inc, hw.same sF⟩
theorem i_tup {K : Fg} (hK : K = B.K) {Φ : List Tr → TSt → Prop} (h : EV B te τ fun x τ1 => AsF x τ1 fun t τ2 => ∃ ts, t = .tup ts ∧ Φ ts τ2) : IV B (iTup K te) τ Φ := fun σ F H R r c => by
  subst hK
  refine h σ F H _ r fun v F1 H1 k τ1 f1 r1 ok1 n1 h1 => ?_
  obtain ⟨F2, t, τ2, f2, r2, i2, ⟨ts, e, h2⟩, _⟩ := asF_ok f1 r1 ok1 n1 h1
  subst e
  cases i2 with
  | tup a b =>
    refine ⟨_, rfl, ⟨_, r2.inc.tup a⟩, c _ F2 H1 ts τ2 f2 r2 (fun σ' τ' F' H' sF rH => ⟨fun i t e => ?_, ⟨_, rH.inc.tup (sF.tup a), by rw [b.length]; exact Nat.le_refl _⟩⟩) h2⟩
    obtain ⟨w, ew, hw⟩ := b.get e
    refine ⟨⟨_, w, rH.inc.tup (sF.tup a), ew⟩, fun x H2 y => ?_⟩
    obtain ⟨rfl, y2⟩ := y
    have := y2 _ (rH.inc.tup (sF.tup a))
    rw [ew] at this
    cases this
    exact ⟨F', Up.refl rH.inc, hw.same sF⟩
theorem t_lst {S : List Tr → Prop} (q : S ts) : ∃ ts', Tr.lst ts = .lst ts' ∧ S ts' := ⟨ts, rfl, q⟩
theorem t_tup {S : List Tr → Prop} (q : S ts) : ∃ ts', Tr.tup ts = .tup ts' ∧ S ts' := ⟨ts, rfl, q⟩
def rangeT (lo : Int) (n : Nat) : List Tr := (List.range n).map fun i => .int (lo + (i : Nat))
theorem rangeT_at {lo : Int} {n i : Nat} {t : Tr} (h : (rangeT lo n)[i]? = some t) : i < n ∧ t = .int (lo + (i : Nat)) := by
  unfold rangeT at h
  rw [List.getElem?_map] at h
  by_cases hi : i < n
  · rw [List.getElem?_range hi] at h; cases h; exact ⟨hi, rfl⟩
  · rw [List.getElem?_eq_none (by rw [List.length_range]; omega)] at h; cases h
theorem rangeT_len {lo : Int} {n : Nat} : (rangeT lo n).length = n := by unfold rangeT; rw [List.length_map, List.length_range]
theorem itr_ok {F : Hp} {lo : Int} {n : Nat} : ItOk B F (Itr lo n) (rangeT lo n) := fun σ' τ' F' H' sF rH => ⟨fun i t e => by
    obtain ⟨hi, rfl⟩ := rangeT_at e
    exact ⟨hi, fun x H2 y => by obtain ⟨rfl, rfl⟩ := y; exact ⟨F', Up.refl rH.inc, .int⟩⟩, by rw [rangeT_len]; exact Nat.le_refl _⟩
theorem i_rng1 {Φ : List Tr → TSt → Prop} (h : EV B te τ fun x τ1 => ∃ j, x = .fz (.int j) ∧ (-(2 ^ 62) ≤ j ∧ j < 2 ^ 62) ∧ Φ (rangeT 0 j.toNat) τ1) : IV B (iRng1 (tCons te tNil)) τ Φ := fun σ F H R r c => by
  refine h σ F H _ r fun v F1 H1 k τ1 f1 r1 ok1 n1 ⟨j, e, hb, h1⟩ => ?_
  subst e
  cases ok1
  exact ⟨j, rfl, hb.1, hb.2, c _ F1 H1 _ τ1 f1 r1 itr_ok h1⟩
theorem s_for {wi : TI} {g : TG} {tbd : TS} (h : IV B wi τ fun ts τ1 => ∃ I : Nat → TSt → Prop, I 0 τ1 ∧ (∀ i t τ2, ts[i]? = some t → I i τ2 → GA B g (.fz t) τ2 fun τ3 => SV B tbd τ3 ⟨I (i + 1), rt, nx, I (i + 1)⟩) ∧ ∀ τ2, I ts.length τ2 → nx τ2) : SV B (tFor wi g tbd) τ ⟨nx, rt, bk, ct⟩ := fun σ F H D r e => by
  refine h σ F H _ r fun J F1 H1 ts τ1 f1 r1 itk ⟨I, i0, step, fin⟩ => ?_
  refine ⟨fun i m σ H => ∃ F2 τ2, Same F1 F2 ∧ Rp B F2 H σ τ2 ∧ I i τ2 ∧ i ≤ ts.length ∧ m = ts.length - i, ⟨_, F1, τ1, Same.refl _, r1, i0, Nat.zero_le _, rfl⟩, ?_⟩
  rintro i m σ H ⟨F2, τ2, s2, r2, i2, hi, rfl⟩
  obtain ⟨itg, its⟩ := itk σ τ2 F2 H s2 r2
  by_cases hlt : i < ts.length
  · obtain ⟨g1, g2⟩ := itg i ts[i] (List.getElem?_eq_getElem hlt)
    refine .inr ⟨g1, fun σ' H' => ∃ F2 τ2, Same F1 F2 ∧ Rp B F2 H' σ' τ2 ∧ I (i + 1) τ2, fun σ' H' ⟨F2, τ2, a, b, c⟩ => ⟨_, by omega, F2, τ2, a, b, c, hlt, rfl⟩, fun x H3 y => ?_⟩
    obtain ⟨F3, u3, hx⟩ := g2 x H3 y
    refine step i ts[i] τ2 (List.getElem?_eq_getElem hlt) i2 σ F3 H3 x _ (r2.go u3) hx fun σ4 F4 H4 τ4 s4 r4 h4 => ?_
    have s14 := s2.trans (u3.f.trans s4)
    exact h4 σ4 F4 H4 _ r4 ⟨fun σ5 F5 H5 τ5 s5 r5 h5 => ⟨F5, τ5, s14.trans s5, r5, h5⟩, e.rt, fun σ5 F5 H5 τ5 s5 r5 h5 => e.nx σ5 F5 H5 τ5 (f1.f.trans (s14.trans s5)) r5 h5, fun σ5 F5 H5 τ5 s5 r5 h5 => ⟨F5, τ5, s14.trans s5, r5, h5⟩⟩
  · have ei : i = ts.length := by omega
    subst ei
    exact .inl ⟨its, e.nx σ F2 H τ2 (f1.f.trans s2) r2 (fin τ2 i2)⟩
theorem s_while {tbd : TS} (I : Nat → TSt → Prop) (m0 : Nat) (h0 : I m0 τ) (step : ∀ m τ1, I m τ1 → TV B c τ1 fun b τ2 => if b = true then SV B tbd τ2 ⟨fun τ3 => ∃ m', m' < m ∧ I m' τ3, rt, nx, fun τ3 => ∃ m', m' < m ∧ I m' τ3⟩ else nx τ2) : SV B (tWhile c tbd) τ ⟨nx, rt, bk, ct⟩ := fun σ F H D r e => by
  refine ⟨fun m σ H => ∃ F2 τ2, Same F F2 ∧ Rp B F2 H σ τ2 ∧ I m τ2, ⟨m0, F, τ, Same.refl _, r, h0⟩, ?_⟩
  rintro m σ H ⟨F2, τ2, s2, r2, i2⟩
  refine step m τ2 i2 σ F2 H _ r2 fun b F3 H3 τ3 f3 r3 h3 => ?_
  have s3 := s2.trans f3.f
  cases b with
  | true =>
    rw [if_pos rfl] at h3 ⊢
    refine ⟨fun σ' H' => ∃ m', m' < m ∧ ∃ F2 τ2, Same F F2 ∧ Rp B F2 H' σ' τ2 ∧ I m' τ2, fun σ' H' z => z, h3 σ F3 H3 _ r3 ⟨?_, e.rt, fun σ5 F5 H5 τ5 s5 r5 h5 => e.nx σ5 F5 H5 τ5 (s3.trans s5) r5 h5, ?_⟩⟩
    · rintro σ5 F5 H5 τ5 s5 r5 ⟨m', hm, h5⟩
      exact ⟨m', hm, F5, τ5, s3.trans s5, r5, h5⟩
    · rintro σ5 F5 H5 τ5 s5 r5 ⟨m', hm, h5⟩
      exact ⟨m', hm, F5, τ5, s3.trans s5, r5, h5⟩
  | false => rw [if_neg Bool.false_ne_true] at h3 ⊢; exact e.nx σ F3 H3 τ3 s3 r3 h3
end
end L2
namespace L2
open PySem PySem.Spec PyProof.Rows
def slOf : Ar → Sl
  | .fz t => .fz t
  | .wd => .wd
def startT (n : Nat) (as : List Ar) : TSt := as.map slOf ++ List.replicate (n - as.length) Sl.no
theorem startT_at {n : Nat} {as : List Ar} {i : Nat} {s : Sl} (h : TAt (startT n as) i s) : (∃ a, s = slOf a ∧ as[i]? = some a) ∨ s = .no := by
  unfold TAt startT at h
  by_cases hi : i < as.length
  · rw [List.getElem?_append_left (by rw [List.length_map]; exact hi), List.getElem?_map, List.getElem?_eq_getElem hi] at h
    cases h
    exact .inl ⟨_, rfl, List.getElem?_eq_getElem hi⟩
  · rw [List.getElem?_append_right (by rw [List.length_map]; omega), List.getElem?_replicate] at h
    split at h
    · cases h; exact .inr rfl
    · cases h
theorem rp_start {B : Bk} {N : List Str} {vs : List V} {as : List Ar} (k : BkOk B) (l : ArL B B.F0 vs as) : Rp B B.F0 B.H0 (start N vs) (startT N.length as) := by
  have got : ∀ i a, as[i]? = some a → ∃ v, SAt (start N vs) i v ∧ ArOk B B.F0 v a := fun i a h => by
    obtain ⟨v, hv, hi⟩ := l.get h
    refine ⟨v, ?_, hi⟩
    have hj := (List.getElem?_eq_some_iff.mp hv).1
    unfold SAt start
    rw [List.getElem?_append_left (by rw [List.length_map]; exact hj), List.getElem?_map, hv]
    rfl
  exact {
  up := Up.refl k.i
  wa := k.wa
  wf := k.wf
  wj := k.wj
  wd := fun j h => by
    rcases startT_at h with ⟨a, e, hu⟩ | e
    · cases a with
      | fz t => cases e
      | wd =>
        obtain ⟨v, e, hv⟩ := got j _ hu
        cases (show v = .ref B.rt from hv)
        exact e
    · cases e
  len := by unfold start startT; rw [List.length_append, List.length_append, List.length_map, List.length_map, List.length_replicate, List.length_replicate, l.length]
  fz := fun j t h => by
    rcases startT_at h with ⟨a, e, hu⟩ | e
    · cases a with
      | wd => cases e
      | fz u =>
        cases e
        obtain ⟨v, e, hv⟩ := got j _ hu
        exact ⟨v, e, hv⟩
    · cases e
  ow := fun j t h => by
    rcases startT_at h with ⟨a, e, hu⟩ | e
    · cases a <;> cases e
    · cases e
  vw := fun j t h => by
    rcases startT_at h with ⟨a, e, hu⟩ | e
    · cases a <;> cases e
    · cases e
  ap := fun _ b t u l h => by
    rcases startT_at h with ⟨a, e, hu⟩ | e
    · cases a <;> cases e
    · cases e
  av := fun _ b t u l h => by
    rcases startT_at h with ⟨a, e, hu⟩ | e
    · cases a <;> cases e
    · cases e }
theorem toSp_open {K : Fg} {S : SpT} {vs : List V} {H : Hp} {Q : VK} {E : XK} (h : toSp K S vs H Q E) : ∃ B as Φ Ψ, B.K = K ∧ S B as Φ Ψ ∧ (∀ C F' H', Up B B.F0 B.H0 F' H' → Ψ C → E (.ref C) none H') ∧ ∀ (N : List Str) (t : TS), SV B t (startT N.length as) ⟨fun _ => Φ (.fz .non), Φ, fun _ => False, fun _ => False⟩ → t { nx := fun _ H' => Q .non H', rt := Q } (start N vs) H := by
  obtain ⟨B, as, Φ, Ψ, hK, rfl, k, l, s, q, x⟩ := h
  refine ⟨B, as, Φ, Ψ, hK, s, x, fun N t sv => sv _ _ _ _ (rp_start k l) ⟨?_, ?_, ?_, ?_⟩⟩
  · intro σ F' H' τ _ r h
    exact q .non F' H' (.fz .non) r.up .non h
  · intro v F' H' k u ok h
    exact q v F' H' k u ok h
  · exact fun _ _ _ _ _ _ z => z
  · exact fun _ _ _ _ _ _ z => z
theorem s_go {B : Bk} {t : TS} {τ : TSt} {n : Nat} {ts : List Ar} {D : ET} (h : startT n ts = τ) (q : SV B t τ D) : SV B t (startT n ts) D := by rw [h]; exact q
inductive InR (τ : TSt) : List (Str × Nat) → TSt → Prop
  | nil : InR τ [] []
  | fz {x : Str} {k : Nat} {t : Tr} {r : List (Str × Nat)} {r' : TSt} : Gt τ k (.fz t) → InR τ r r' → InR τ ((x, k) :: r) (.fz t :: r')
  | own {x : Str} {k : Nat} {t : Tr} {r : List (Str × Nat)} {r' : TSt} : Gt τ k (.own t) → InR τ r r' → InR τ ((x, k) :: r) (.vw t :: r')
  | vw {x : Str} {k : Nat} {t : Tr} {r : List (Str × Nat)} {r' : TSt} : Gt τ k (.vw t) → InR τ r r' → InR τ ((x, k) :: r) (.vw t :: r')
  | wd {x : Str} {k : Nat} {r : List (Str × Nat)} {r' : TSt} : Gt τ k .wd → InR τ r r' → InR τ ((x, k) :: r) (.wd :: r')
  | no {x : Str} {k : Nat} {r : List (Str × Nat)} {r' : TSt} : InR τ r r' → InR τ ((x, k) :: r) (.no :: r')
theorem InR.at {τ : TSt} {fr : List (Str × Nat)} {τi : TSt} (h : InR τ fr τi) : τi.length = fr.length ∧ ∀ i s, TAt τi i s → ∃ x k, fr[i]? = some (x, k) ∧ ((s = .no ∨ (s = .wd ∧ TAt τ k .wd)) ∨ (∃ t, s = .fz t ∧ TAt τ k (.fz t)) ∨ ∃ t, s = .vw t ∧ (TAt τ k (.own t) ∨ TAt τ k (.vw t))) := by
  induction h with
  | nil => exact ⟨rfl, fun i s h => by unfold TAt at h; simp at h⟩
  | fz g _ ih =>
    refine ⟨by rw [List.length_cons, List.length_cons, ih.1], fun i s h => ?_⟩
    cases i with
    | zero => simp [TAt] at h; subst h; exact ⟨_, _, rfl, .inr (.inl ⟨_, rfl, g.eq⟩)⟩
    | succ i => exact ih.2 i s (by simpa [TAt] using h)
  | own g _ ih =>
    refine ⟨by rw [List.length_cons, List.length_cons, ih.1], fun i s h => ?_⟩
    cases i with
    | zero => simp [TAt] at h; subst h; exact ⟨_, _, rfl, .inr (.inr ⟨_, rfl, .inl g.eq⟩)⟩
    | succ i => exact ih.2 i s (by simpa [TAt] using h)
  | vw g _ ih =>
    refine ⟨by rw [List.length_cons, List.length_cons, ih.1], fun i s h => ?_⟩
    cases i with
    | zero => simp [TAt] at h; subst h; exact ⟨_, _, rfl, .inr (.inr ⟨_, rfl, .inr g.eq⟩)⟩
    | succ i => exact ih.2 i s (by simpa [TAt] using h)
  | no _ ih =>
    refine ⟨by rw [List.length_cons, List.length_cons, ih.1], fun i s h => ?_⟩
    cases i with
    | zero => simp [TAt] at h; subst h; exact ⟨_, _, rfl, .inl (.inl rfl)⟩
    | succ i => exact ih.2 i s (by simpa [TAt] using h)
  | wd g _ ih =>
    refine ⟨by rw [List.length_cons, List.length_cons, ih.1], fun i s h => ?_⟩
    cases i with
    | zero => simp [TAt] at h; subst h; exact ⟨_, _, rfl, .inl (.inr ⟨rfl, g.eq⟩)⟩
    | succ i => exact ih.2 i s (by simpa [TAt] using h)
section
variable {B : Bk} {F H : Hp} {σ : St} {τ τi : TSt} {fr : List (Str × Nat)}
theorem inSt_at {i k : Nat} {x : Str} {v : V} (h : fr[i]? = some (x, k)) (g : SAt σ k v) : SAt (inSt σ fr) i v := by
  unfold SAt inSt at *
  rw [List.getElem?_map, h]
  show some ((σ[k]?).join) = _
  rw [g]; rfl
theorem InR.rp (h : InR τ fr τi) (r : Rp B F H σ τ) : Rp B F H (inSt σ fr) τi where
  up := r.up
  wa := r.wa
  wf := r.wf
  wj := r.wj
  wd := fun i z => by
    obtain ⟨x, k, hk, (e | ⟨e, g⟩) | ⟨u, e, g⟩ | ⟨u, e, g⟩⟩ := h.at.2 i _ z
    · cases e
    · exact inSt_at hk (r.wd _ g)
    · cases e
    · cases e
  len := by unfold inSt; rw [List.length_map, h.at.1]
  fz := fun i t z => by
    obtain ⟨x, k, hk, (e | ⟨e, g⟩) | ⟨u, e, g⟩ | ⟨u, e, g⟩⟩ := h.at.2 i _ z
    · cases e
    · cases e
    · cases e
      obtain ⟨v, a, b⟩ := r.fz _ _ g
      exact ⟨v, inSt_at hk a, b⟩
    · cases e
  ow := fun i t z => by
    obtain ⟨x, k, hk, (e | ⟨e, g⟩) | ⟨u, e, g⟩ | ⟨u, e, g⟩⟩ := h.at.2 i _ z <;> cases e
  vw := fun i t z => by
    obtain ⟨x, k, hk, (e | ⟨e, g⟩) | ⟨u, e, g⟩ | ⟨u, e, g⟩⟩ := h.at.2 i _ z
    · cases e
    · cases e
    · cases e
    · cases e
      rcases g with g | g
      · obtain ⟨l, a, b, c, n0⟩ := r.ow _ _ g
        exact ⟨l, inSt_at hk a, b, c, fun hw => r.wa l hw n0⟩
      · obtain ⟨l, a, b, c⟩ := r.vw _ _ g
        exact ⟨l, inSt_at hk a, b, c⟩
  ap := fun a b t u l z => by
    obtain ⟨x, k, hk, (e | ⟨e, g⟩) | ⟨u, e, g⟩ | ⟨u, e, g⟩⟩ := h.at.2 a _ z <;> cases e
  av := fun a b t u l z => by
    obtain ⟨x, k, hk, (e | ⟨e, g⟩) | ⟨u, e, g⟩ | ⟨u, e, g⟩⟩ := h.at.2 a _ z <;> cases e
theorem InR.noown (h : InR τ fr τi) {i : Nat} {t : Tr} (z : TAt τi i (.own t)) : False := by
  obtain ⟨x, k, hk, (e | ⟨e, g⟩) | ⟨u, e, g⟩ | ⟨u, e, g⟩⟩ := h.at.2 i _ z <;> cases e
theorem Rp.consO {o : Option V} (r : Rp B F H σ τ) : Rp B F H (o :: σ) (.no :: τ) where
  up := r.up
  wa := r.wa
  wf := r.wf
  wj := r.wj
  wd := fun i z => by
    cases i with
    | zero => cases z
    | succ i => exact r.wd i z
  len := by rw [List.length_cons, List.length_cons, r.len]
  fz := fun i t z => by
    cases i with
    | zero => cases z
    | succ i => obtain ⟨v, a, b⟩ := r.fz i t z; exact ⟨v, a, b⟩
  ow := fun i t z => by
    cases i with
    | zero => cases z
    | succ i => exact r.ow i t z
  vw := fun i t z => by
    cases i with
    | zero => cases z
    | succ i => exact r.vw i t z
  ap := fun a b t u l ha hb ne hi hj => by
    cases a with
    | zero => cases ha
    | succ a =>
      cases b with
      | zero => cases hb
      | succ b => exact r.ap a b t u l ha hb (fun z => ne (by rw [z])) hi hj
  av := fun a b t u l ha hb hi hj => by
    cases a with
    | zero => cases ha
    | succ a =>
      cases b with
      | zero => cases hb
      | succ b => exact r.av a b t u l ha hb hi hj
theorem Rp.consF {v : V} {t : Tr} (r : Rp B F H σ τ) (h : Is B.K F v t) : Rp B F H (some v :: σ) (.fz t :: τ) := (r.consO (o := none)).setF (i := 0) h
theorem Rp.back {σi : St} {τ2 τ3 : TSt} {F' H' : Hp} (r : Rp B F H σ τ) (f : Fr B σi τ2 F H τ3 F' H') (no : ∀ i t, ¬ TAt τ2 i (.own t)) (ri : Rp B F' H' σi τ3) : Rp B F' H' σ τ ∧ Up B F H F' H' := by
  have up : Up B F H F' H' := ⟨f.f, fun p o nw hp => (f.k p o hp nw fun i t z => (no i t z).elim).1, ri.up.i, fun p o hp mb n => by
    by_cases hw : B.W p
    · exact ri.wf p hw
    · exact (f.k p o hp hw fun i t z => (no i t z).elim).2 mb n, f.h, fun p hw _ => ri.wf p hw, fun _ => ri.wj⟩
  exact ⟨r.go up, up⟩
theorem Rp.acc {acc : Addr} {o : HO} {ys : List V} (rb : Rp B F H σ τ) (hy : H acc = some (.lst ys)) (h0 : B.H0 acc = none) (na : F acc = none) (dis : ∀ i u, TAt τ i (.own u) ∨ TAt τ i (.vw u) → ¬ SAt σ i (.ref acc)) : Rp B F (upd H acc o) σ τ := {
      wa := rb.wa
      wf := rb.wf
      wj := B.jl _ _ (fun q hw => by
        have : q ≠ acc := fun e => rb.wa q hw (by rw [e]; exact h0)
        rw [upd_ne this]) (fun q φ z => by rw [upd_ne (ne_of z hy nofun)]; exact z) rb.wj
      wd := rb.wd
      up := { f := rb.up.f, h := fun q o nw z => by
                have : q ≠ acc := fun e => by rw [e, h0] at z; cases z
                rw [upd_ne this]; exact rb.up.h q o nw z
              i := fun q o z => by
                have : q ≠ acc := fun e => by rw [e, na] at z; cases z
                rw [upd_ne this]; exact rb.up.i q o z
              m := rb.up.m
              w := fun q z => rb.up.w q (upd_none z)
              x := rb.up.x
              j := fun z => B.jl _ _ (fun q hw => by
                have : q ≠ acc := fun e => rb.wa q hw (by rw [e]; exact h0)
                rw [upd_ne this]) (fun q φ z => by rw [upd_ne (ne_of z hy nofun)]; exact z) rb.wj }
      len := rb.len
      fz := rb.fz
      ow := fun j u z => by
        obtain ⟨l', a, b, c⟩ := rb.ow j u z
        have : l' ≠ acc := fun e => dis j u (.inl z) (by rw [← e]; exact a)
        exact ⟨l', a, b.to (Same.refl _) (fun o ho => by rw [upd_ne this]; exact ho), c⟩
      vw := fun j u z => by
        obtain ⟨l', a, b, c⟩ := rb.vw j u z
        have : l' ≠ acc := fun e => dis j u (.inr z) (by rw [← e]; exact a)
        exact ⟨l', a, b.to (Same.refl _) (fun o ho => by rw [upd_ne this]; exact ho), c⟩
      ap := rb.ap
      av := rb.av }
end
section
variable {B : Bk} {τ τi : TSt} {Φ : TK} {fr : List (Str × Nat)} {wi : TI} {te : TE}
theorem e_lc (h : IV B wi τ fun ts τ1 => ∃ τi, InR τ1 fr τi ∧ ts.length ≤ 100000 ∧ ∃ P : Nat → Tr → Prop, (∀ i t, ts[i]? = some t → EV B te (.fz t :: τi) fun k τ2 => AsF k τ2 fun o _ => P i o) ∧ ∀ os : List Tr, os.length = ts.length → (∀ i o, os[i]? = some o → P i o) → Φ (.nw (.lst os)) τ1) : EV B (tLC fr wi te) τ Φ := fun σ F H Q r c => by
  refine h σ F H _ r fun J F1 H1 ts τ1 f1 r1 itk ⟨τi, inr, hlen, P, step, fin⟩ => ?_
  intro acc hacc
  refine ⟨fun i m H2 => ∃ F2 vs os, Rp B F2 H2 σ τ1 ∧ Fr B σ τ1 F1 H1 τ1 F2 H2 ∧ H2 acc = some (.lst vs) ∧ F2 acc = none ∧ IsL B.K F2 vs os ∧ os.length = i ∧ (∀ j o, os[j]? = some o → P j o) ∧ i ≤ ts.length ∧ m = ts.length - i, ⟨_, F1, [], [], r1.go (r1.new hacc), Fr.up (r1.new hacc), upd_same, r1.inc.free hacc, .nil, rfl, fun j o z => (by cases z), Nat.zero_le _, rfl⟩, ?_⟩
  rintro i m H2 ⟨F2, vs, os, r2, f2, ha, na, l2, hos, hP, hi, rfl⟩
  obtain ⟨itg, its⟩ := itk σ τ1 F2 H2 f2.f r2
  have dis : ∀ (i : Nat) (u : Tr), TAt τ1 i (.own u) ∨ TAt τ1 i (.vw u) → ¬ SAt σ i (.ref acc) := fun i u hu hs => by
    rcases hu with hu | hu
    · obtain ⟨l', e', g, _⟩ := r1.ow i u hu
      obtain ⟨o, ho, _⟩ := g.mb
      cases sat_unique e' hs
      rw [hacc] at ho; cases ho
    · obtain ⟨l', e', g, _⟩ := r1.vw i u hu
      obtain ⟨o, ho, _⟩ := g.mb
      cases sat_unique e' hs
      rw [hacc] at ho; cases ho
  by_cases hlt : i < ts.length
  · obtain ⟨g1, g2⟩ := itg i ts[i] (List.getElem?_eq_getElem hlt)
    refine .inr ⟨g1, fun x H3 y => ?_⟩
    obtain ⟨F3, u3, hx⟩ := g2 x H3 y
    have r3 := r2.go u3
    have ri : Rp B F3 H3 (some x :: inSt σ fr) (.fz ts[i] :: τi) := (inr.rp r3).consF hx
    refine step i ts[i] (List.getElem?_eq_getElem hlt) _ F3 H3 _ ri fun v F4 H4 k τ4 f4 r4 ok4 n4 h4 => ?_
    obtain ⟨F5, o, τ5, f5, r5, i5, hp5, _⟩ := asF_ok f4 r4 ok4 n4 h4
    have noo' : ∀ j t, ¬ TAt (Sl.fz ts[i] :: τi) j (.own t) := fun j t z => by
      cases j with
      | zero => cases z
      | succ j => exact inr.noown z
    obtain ⟨rb, ub⟩ := r3.back f5 noo' r5
    have u25 := u3.trans ub
    have nwa : ¬ B.W acc := fun hw => r1.wa acc hw (r1.up.w acc hacc)
    have ha5 : H4 acc = some (.lst vs) := u25.h _ _ nwa ha
    have na5 : F5 acc = none := u25.m _ _ ha trivial na
    refine ⟨vs, ts.length - (i + 1), ha5, by rw [l2.length, hos]; exact Nat.lt_of_lt_of_le (Nat.lt_of_lt_of_le hlt hlen) (by decide), by omega, ?_⟩
    have r6 : Rp B F5 (upd H4 acc (.lst (vs ++ [v]))) σ τ1 := rb.acc ha5 (r1.up.w acc hacc) na5 dis
    have f6 : Fr B σ τ1 F1 H1 τ1 F5 (upd H4 acc (.lst (vs ++ [v]))) := by
      have f7 := f2.trans (Fr.up u25)
      refine ⟨f7.f, fun p o hp nw no => ?_, f7.o, fun p hp => ?_⟩
      · have : p ≠ acc := fun e => by rw [e, hacc] at hp; cases hp
        rw [upd_ne this]; exact f7.k p o hp nw no
      · by_cases e : p = acc
        · rw [e, upd_same] at hp; cases hp
        · rw [upd_ne e] at hp; exact f7.h p hp
    refine ⟨F5, vs ++ [v], os ++ [o], r6, f6, upd_same, na5, (l2.same u25.f).snoc i5, by rw [List.length_append, hos]; rfl, fun j q hj => ?_, hlt, rfl⟩
    rcases Nat.lt_or_ge j os.length with hjl | hjl
    · rw [List.getElem?_append_left hjl] at hj
      exact hP j q hj
    · rw [List.getElem?_append_right hjl] at hj
      have hz := (List.getElem?_eq_some_iff.mp hj).1
      rw [List.length_singleton] at hz
      have ej : j = i := by omega
      rw [show j - os.length = 0 by omega] at hj
      cases hj
      rw [ej]; exact hp5
  · have ei : i = ts.length := by omega
    subst ei
    exact .inl ⟨its, c _ F2 H2 (.nw (.lst os)) τ1 (f1.trans f2) r2 ⟨acc, rfl, .lst ha l2, na, r1.up.w acc hacc, dis⟩ (fun l e => by cases e; exact f1.h _ hacc) (fin os hos hP)⟩
end
end L2
namespace L2
open PySem PySem.Spec PyProof.Rows
section
variable {B : Bk} {F H : Hp} {σ : St} {τ τi : TSt} {fr : List (Str × Nat)}
theorem Rp.pre (r : Rp B F H σ τ) : ∀ (vs : List V) (ts : List Tr), IsL B.K F vs ts → Rp B F H (vs.map some ++ σ) (ts.map Sl.fz ++ τ)
  | _, _, .nil => r
  | _, _, .cons h g => (Rp.pre r _ _ g).consF h
end
section
variable {B : Bk} {τ τi : TSt} {Φ : TK} {fr : List (Str × Nat)} {wi : TI} {te : TE} {tc : TT} {g : TG} {k : Nat}
theorem e_lcg (Cut : Tr → List Tr → Prop) (hk : ∀ t as, Cut t as → as.length = k)
    (hg : ∀ t as, Cut t as → ∀ (F H : Hp) (v : V) (σb : St) (S : St → Hp → Prop), Same F H → Is B.K F v t → k ≤ σb.length → (∀ ws, IsL B.K F ws as → S (ws.map some ++ σb.drop k) H) → g v σb H S)
    (h : IV B wi τ fun ts τ1 => ∃ τi, InR τ1 fr τi ∧ ts.length ≤ 100000 ∧ ∃ P : Nat → Option Tr → Prop, (∀ i t, ts[i]? = some t → ∃ as, Cut t as ∧ TV B tc (as.map Sl.fz ++ τi) fun b τ2 => if b = true then EV B te τ2 fun k τ3 => AsF k τ3 fun o _ => P i (some o) else P i none) ∧ ∀ os : List (Option Tr), os.length = ts.length → (∀ i o, os[i]? = some o → P i o) → Φ (.nw (.lst (os.filterMap id))) τ1) : EV B (tLCG k fr wi g tc te) τ Φ := fun σ F H Q r c => by
  refine h σ F H _ r fun J F1 H1 ts τ1 f1 r1 itk ⟨τi, inr, hlen, P, step, fin⟩ => ?_
  intro acc hacc
  refine ⟨fun i m σb H2 => ∃ F2 vs os, Rp B F2 H2 σ τ1 ∧ Fr B σ τ1 F1 H1 τ1 F2 H2 ∧ H2 acc = some (.lst vs) ∧ F2 acc = none ∧ IsL B.K F2 vs (os.filterMap id) ∧ os.length = i ∧ (∀ j o, os[j]? = some o → P j o) ∧ i ≤ ts.length ∧ m = ts.length - i ∧ k ≤ σb.length ∧ σb.drop k = inSt σ fr, ⟨_, F1, [], [], r1.go (r1.new hacc), Fr.up (r1.new hacc), upd_same, r1.inc.free hacc, .nil, rfl, fun j o z => (by cases z), Nat.zero_le _, rfl, by rw [List.length_append, List.length_replicate]; omega, by rw [List.drop_append_of_le_length (by rw [List.length_replicate]; exact Nat.le_refl _), List.drop_replicate, Nat.sub_self]; rfl⟩, ?_⟩
  rintro i m σb H2 ⟨F2, vs, os, r2, f2, ha, na, l2, hos, hP, hi, rfl, hkb, hdb⟩
  obtain ⟨itg, its⟩ := itk σ τ1 F2 H2 f2.f r2
  have nwa : ¬ B.W acc := fun hw => r1.wa acc hw (r1.up.w acc hacc)
  have dis : ∀ (i : Nat) (u : Tr), TAt τ1 i (.own u) ∨ TAt τ1 i (.vw u) → ¬ SAt σ i (.ref acc) := fun i u hu hs => by
    rcases hu with hu | hu
    · obtain ⟨l', e', g, _⟩ := r1.ow i u hu
      obtain ⟨o, ho, _⟩ := g.mb
      cases sat_unique e' hs
      rw [hacc] at ho; cases ho
    · obtain ⟨l', e', g, _⟩ := r1.vw i u hu
      obtain ⟨o, ho, _⟩ := g.mb
      cases sat_unique e' hs
      rw [hacc] at ho; cases ho
  have more : ∀ {o : Option Tr}, P i o → ∀ (j : Nat) (q : Option Tr), (os ++ [o])[j]? = some q → P j q := fun {o} hp j q hj => by
    rcases Nat.lt_or_ge j os.length with hjl | hjl
    · rw [List.getElem?_append_left hjl] at hj
      exact hP j q hj
    · rw [List.getElem?_append_right hjl] at hj
      have hz := (List.getElem?_eq_some_iff.mp hj).1
      rw [List.length_singleton] at hz
      have ej : j = i := by omega
      rw [show j - os.length = 0 by omega] at hj
      cases hj
      rw [ej]; exact hp
  by_cases hlt : i < ts.length
  · obtain ⟨g1, g2⟩ := itg i ts[i] (List.getElem?_eq_getElem hlt)
    refine .inr ⟨g1, fun x H3 y => ?_⟩
    obtain ⟨F3, u3, hx⟩ := g2 x H3 y
    have r3 := r2.go u3
    obtain ⟨as, hcut, htv⟩ := step i ts[i] (List.getElem?_eq_getElem hlt)
    refine hg ts[i] as hcut F3 H3 x σb _ r3.inc hx hkb fun ws lw => ?_
    rw [hdb]
    have ri : Rp B F3 H3 (ws.map some ++ inSt σ fr) (as.map Sl.fz ++ τi) := Rp.pre (inr.rp r3) ws as lw
    have noo : ∀ j t, ¬ TAt (as.map Sl.fz ++ τi) j (.own t) := fun j t z => by
      unfold TAt at z
      rcases Nat.lt_or_ge j as.length with q | q
      · rw [List.getElem?_append_left (by rw [List.length_map]; exact q), List.getElem?_map, List.getElem?_eq_getElem q] at z
        cases z
      · rw [List.getElem?_append_right (by rw [List.length_map]; exact q)] at z
        exact inr.noown z
    have hwl : (ws.map some).length = k := by rw [List.length_map, lw.length, hk _ _ hcut]
    have hk2 : k ≤ (ws.map some ++ inSt σ fr).length := by rw [List.length_append, hwl]; omega
    have hd2 : (ws.map some ++ inSt σ fr).drop k = inSt σ fr := by rw [← hwl, List.drop_left]
    refine htv _ F3 H3 _ ri fun b F4 H4 τ4 f4 r4 h4 => ?_
    cases b with
    | false =>
      rw [if_neg Bool.false_ne_true] at h4 ⊢
      obtain ⟨rb, ub⟩ := r3.back f4 noo r4
      have u25 := u3.trans ub
      exact ⟨ts.length - (i + 1), by omega, F4, vs, os ++ [none], rb, f2.trans (Fr.up u25), u25.h _ _ nwa ha, u25.m _ _ ha trivial na, by rw [List.filterMap_append]; simpa using l2.same u25.f, by rw [List.length_append, hos]; rfl, more h4, hlt, rfl, hk2, hd2⟩
    | true =>
      rw [if_pos rfl] at h4 ⊢
      refine h4 _ F4 H4 _ r4 fun v F5 H5 kd τ5 f5 r5 ok5 n5 h5 => ?_
      obtain ⟨F6, o, τ6, f6, r6, i6, hp6, _⟩ := asF_ok f5 r5 ok5 n5 h5
      obtain ⟨rb, ub⟩ := r3.back (f4.trans f6) noo r6
      have u25 := u3.trans ub
      have ha5 : H5 acc = some (.lst vs) := u25.h _ _ nwa ha
      have na5 : F6 acc = none := u25.m _ _ ha trivial na
      have hvl : vs.length ≤ i := by rw [l2.length, ← hos]; exact List.length_filterMap_le _ _
      refine ⟨vs, ts.length - (i + 1), ha5, Nat.lt_of_le_of_lt hvl (Nat.lt_of_lt_of_le (Nat.lt_of_lt_of_le hlt hlen) (by decide)), by omega, ?_⟩
      have f6' : Fr B σ τ1 F1 H1 τ1 F6 (upd H5 acc (.lst (vs ++ [v]))) := by
        have f7 := f2.trans (Fr.up u25)
        refine ⟨f7.f, fun p o hp nw no => ?_, f7.o, fun p hp => ?_⟩
        · have : p ≠ acc := fun e => by rw [e, hacc] at hp; cases hp
          rw [upd_ne this]; exact f7.k p o hp nw no
        · by_cases e : p = acc
          · rw [e, upd_same] at hp; cases hp
          · rw [upd_ne e] at hp; exact f7.h p hp
      exact ⟨F6, vs ++ [v], os ++ [some o], rb.acc ha5 (r1.up.w acc hacc) na5 dis, f6', upd_same, na5, by rw [List.filterMap_append]; exact (l2.same u25.f).snoc i6, by rw [List.length_append, hos]; rfl, more hp6, hlt, rfl, hk2, hd2⟩
  · have ei : i = ts.length := by omega
    subst ei
    exact .inl ⟨its, c _ F2 H2 (.nw (.lst (os.filterMap id))) τ1 (f1.trans f2) r2 ⟨acc, rfl, .lst ha l2, na, r1.up.w acc hacc, dis⟩ (fun l e => by cases e; exact f1.h _ hacc) (fin os hos hP)⟩
theorem e_lcIf (h : IV B wi τ fun ts τ1 => ∃ τi, InR τ1 fr τi ∧ ts.length ≤ 100000 ∧ ∃ P : Nat → Option Tr → Prop, (∀ i t, ts[i]? = some t → TV B tc (.fz t :: τi) fun b τ2 => if b = true then EV B te τ2 fun k τ3 => AsF k τ3 fun o _ => P i (some o) else P i none) ∧ ∀ os : List (Option Tr), os.length = ts.length → (∀ i o, os[i]? = some o → P i o) → Φ (.nw (.lst (os.filterMap id))) τ1) : EV B (tLCG 1 fr wi (gName 0) tc te) τ Φ := by
  refine e_lcg (fun t as => as = [t]) (fun t as e => by rw [e]; rfl) (fun t as e F H v σb S i hi hk q => ?_) ?_
  · subst e
    have := q [v] (.cons hi .nil)
    show S (σb.set 0 (some v)) H
    cases σb with
    | nil => exact absurd hk (by decide)
    | cons x r => exact this
  · intro σ F H R r c
    refine h σ F H R r fun J F' H' ts τ' f r' it ⟨τi, a, b, P, st, fin⟩ => c J F' H' ts τ' f r' it ⟨τi, a, b, P, fun i t e => ⟨[t], rfl, st i t e⟩, fin⟩
theorem e_lcP {K : Fg} (hK : K = B.K) (h : IV B wi τ fun ts τ1 => ∃ τi, InR τ1 fr τi ∧ ts.length ≤ 100000 ∧ ∃ P : Nat → Option Tr → Prop, (∀ i t, ts[i]? = some t → ∃ a b, t = .tup [a, b] ∧ TV B tc (.fz a :: .fz b :: τi) fun b τ2 => if b = true then EV B te τ2 fun k τ3 => AsF k τ3 fun o _ => P i (some o) else P i none) ∧ ∀ os : List (Option Tr), os.length = ts.length → (∀ i o, os[i]? = some o → P i o) → Φ (.nw (.lst (os.filterMap id))) τ1) : EV B (tLCG 2 fr wi (gTup K 2 (gCons (gName 0) (gCons (gName 1) gNil))) tc te) τ Φ := by
  subst hK
  refine e_lcg (fun t as => ∃ a b, t = .tup [a, b] ∧ as = [a, b]) (fun t as e => by obtain ⟨a, b, _, rfl⟩ := e; rfl) (fun t as e F H v σb S i hi hk q => ?_) ?_
  · obtain ⟨a, b, rfl, rfl⟩ := e
    cases hi with
    | tup s l =>
      cases l with
      | cons h1 l =>
        cases l with
        | cons h2 l =>
          cases l
          refine ⟨_, _, rfl, i.tup s, rfl, _, _, rfl, _, _, rfl, rfl, ?_⟩
          have := q _ (.cons h1 (.cons h2 .nil))
          match σb, hk with
          | x :: y :: r, _ => exact this
  · intro σ F H R r c
    refine h σ F H R r fun J F' H' ts τ' f r' it ⟨τi, a, b, P, st, fin⟩ => c J F' H' ts τ' f r' it ⟨τi, a, b, P, fun i t e => ?_, fin⟩
    obtain ⟨a, b, e, tv⟩ := st i t e
    exact ⟨[a, b], ⟨a, b, e, rfl⟩, tv⟩
theorem t_yes {Ψ : Bool → TSt → Prop} (h : Ψ true τ) : TV B tYes τ Ψ := fun σ F H Q r c => c true F H τ Fr.refl r h
theorem s_setlc {iy : Nat} {nx bk ct : TSt → Prop} {rt : Kd → Prop} (h : EV B (tLC fr wi te) τ fun k τ1 => GA B (gName iy) k τ1 nx) : SV B (tSetLC iy fr wi te) τ ⟨nx, rt, bk, ct⟩ := fun σ F H D r e => h σ F H _ r fun v F1 H1 k τ1 f r1 ok _ h1 => h1 σ F1 H1 v _ r1 ok fun σ' F' H' τ' s r' n => e.nx σ' F' H' τ' (f.f.trans s) r' n
end
section
variable {B : Bk} {τ τ' : TSt} {Φ : TK} {x : Kd} {i j : Int} {ts : List Tr} {b : Bool} {t : Tr} {K : Fg}
theorem ru_len (hK : K = B.K) (rk : Rk τ x (.lst ts)) (q : Φ (.fz (.int (ts.length : Nat))) τ) : RU B (fun v H Q => ∃ p ys, [v] = [V.ref p] ∧ (SqL K H p ys ∨ SqT K H p ys) ∧ Q (.int (ys.length : Nat)) H) x τ Φ := fun σ F H v Q r a c => by
  subst hK
  obtain ⟨p, vs, rfl, s, l⟩ := rk.list r a
  refine ⟨p, vs, rfl, .inl s, ?_⟩
  rw [l.length]; exact c.pl r .int q
theorem ru_lenT (hK : K = B.K) (rk : Rk τ x (.tup ts)) (q : Φ (.fz (.int (ts.length : Nat))) τ) : RU B (fun v H Q => ∃ p ys, [v] = [V.ref p] ∧ (SqL K H p ys ∨ SqT K H p ys) ∧ Q (.int (ys.length : Nat)) H) x τ Φ := fun σ F H v Q r a c => by
  subst hK
  obtain ⟨p, vs, rfl, s, l⟩ := rk.tuple r a
  refine ⟨p, vs, rfl, .inr s, ?_⟩
  rw [l.length]; exact c.pl r .int q
theorem ru_abs (q : Φ (.fz (.int (if i < 0 then -i else i))) τ) : RU B (fun v H Q => ∃ i, [v] = [V.int i] ∧ Q (.int (if i < 0 then -i else i)) H) (.fz (.int i)) τ Φ := fun σ F H v Q r a c => by
  cases pd_int a
  exact ⟨i, rfl, c.pl r .int q⟩
theorem ru_toB (q : Φ (.fz (.int (if b = true then 1 else 0))) τ) : RU B (fun v H Q => (∃ i, [v] = [V.int i] ∧ Q (.int i) H) ∨ ∃ k, [v] = [V.bl k] ∧ Q (.int (if k = true then 1 else 0)) H) (.fz (.bl b)) τ Φ := fun σ F H v Q r a c => by
  cases pd_bl a
  exact .inr ⟨b, rfl, c.pl r .int q⟩
theorem ru_str (hb : i.natAbs.log2 < 1920) (q : Φ (.fz (.str (Str.ofString (toString i)))) τ) : RU B (fun v H Q => ∃ i : Int, [v] = [V.int i] ∧ i.natAbs.log2 < 1920 ∧ Q (.str (Str.ofString (toString i))) H) (.fz (.int i)) τ Φ := fun σ F H v Q r a c => by
  cases pd_int a
  exact ⟨i, rfl, hb, c.pl r .str q⟩
theorem ro_max2 (q : Φ (.fz (.int (if j > i then j else i))) τ) : RO B (fun v w H Q => ∃ i j, [v, w] = [V.int i, V.int j] ∧ Q (.int (if j > i then j else i)) H) (.fz (.int i)) (.fz (.int j)) τ Φ := fun σ F H v w Q r a b c => by
  cases pd_int a; cases pd_int b
  exact ⟨i, j, rfl, c.pl r .int q⟩
theorem ro_min2 (q : Φ (.fz (.int (if j < i then j else i))) τ) : RO B (fun v w H Q => ∃ i j, [v, w] = [V.int i, V.int j] ∧ Q (.int (if j < i then j else i)) H) (.fz (.int i)) (.fz (.int j)) τ Φ := fun σ F H v w Q r a b c => by
  cases pd_int a; cases pd_int b
  exact ⟨i, j, rfl, c.pl r .int q⟩
def tgT : Tr → Option Tg
  | .non => some .non
  | .bl _ => some .bl
  | .int _ => some .int
  | .str _ => some .str
  | .tup _ => some .tup
  | .lst _ => some .lst
  | .dct _ => some .dic
  | .ty _ => none
theorem is_tg {F H : Hp} {v : V} {g : Tg} (i : Same F H) (h : Is K F v t) (e : tgT t = some g) : tgIs K H v g := by
  cases h with
  | tup a b => cases e; exact ⟨_, i.tup a⟩
  | lst a b => cases e; exact ⟨_, i.seq a⟩
  | dct a b c => cases e; exact ⟨_, i _ _ a⟩
  | ty => cases e
  | _ => cases e; trivial
theorem ro_isi (hK : K = B.K) {n : String} {f : Tg → Bool} {g : Tg} (e : tgT t = some g) (q : Φ (.fz (.bl (f g))) τ) : RO B (fun v w H Q => rIsi K n f [v, w] H Q) (.fz t) (.fz (.ty n)) τ Φ := fun σ F H v w Q r a b c => by
  subst hK
  cases (show Is B.K F w (.ty n) from b)
  exact ⟨v, g, rfl, is_tg r.inc a e, c.pl r .bl q⟩
theorem ro_isiT (hK : K = B.K) {n : String} {f : Tg → Bool} {g : Tg} (e : tgT t = some g) (hb : f g = true) (q : Φ (.fz (.bl true)) τ) : RO B (fun v w H Q => rIsi K n f [v, w] H Q) (.fz t) (.fz (.ty n)) τ Φ := ro_isi hK e (by rw [hb]; exact q)
theorem ro_isiF (hK : K = B.K) {n : String} {f : Tg → Bool} {g : Tg} (e : tgT t = some g) (hb : f g = false) (q : Φ (.fz (.bl false)) τ) : RO B (fun v w H Q => rIsi K n f [v, w] H Q) (.fz t) (.fz (.ty n)) τ Φ := ro_isi hK e (by rw [hb]; exact q)
theorem ro_isNT (h : t.isN = true) (q : Φ (.fz (.bl true)) τ) : RO B rIsN (.fz t) (.fz .non) τ Φ := ro_isN (by rw [h]; exact q)
theorem ro_isNF (h : t.isN = false) (q : Φ (.fz (.bl false)) τ) : RO B rIsN (.fz t) (.fz .non) τ Φ := ro_isN (by rw [h]; exact q)
theorem ro_notNT (h : t.isN = true) (q : Φ (.fz (.bl false)) τ) : RO B rNotN (.fz t) (.fz .non) τ Φ := ro_notN (by rw [h]; exact q)
theorem ro_notNF (h : t.isN = false) (q : Φ (.fz (.bl true)) τ) : RO B rNotN (.fz t) (.fz .non) τ Φ := ro_notN (by rw [h]; exact q)
end
end L2
namespace L2
open PySem PySem.Spec PyProof.Rows
theorem t_len {α : Type} {l : List α} {n : Nat} {S : Prop} (h : l.length ≤ n) (q : S) : l.length ≤ n ∧ S := ⟨h, q⟩
def zip2T : List Tr → List Tr → List Tr
  | x :: r, y :: q => .tup [x, y] :: zip2T r q
  | _, _ => []
theorem zip2T_len : ∀ xs ys : List Tr, (zip2T xs ys).length = min xs.length ys.length
  | [], _ => by simp [zip2T]
  | _ :: _, [] => by simp [zip2T]
  | _ :: r, _ :: q => by
    simp only [zip2T, List.length_cons, zip2T_len r q]
    omega
theorem zip2T_at : ∀ (xs ys : List Tr) (i : Nat) (t : Tr), (zip2T xs ys)[i]? = some t → ∃ x y, xs[i]? = some x ∧ ys[i]? = some y ∧ t = .tup [x, y]
  | [], _, _, _, h => by simp [zip2T] at h
  | _ :: _, [], _, _, h => by simp [zip2T] at h
  | x :: r, y :: q, 0, t, h => by simp [zip2T] at h; exact ⟨x, y, rfl, rfl, h.symm⟩
  | _ :: r, _ :: q, i + 1, t, h => by
    obtain ⟨x, y, h1, h2, h3⟩ := zip2T_at r q i t (by simpa [zip2T] using h)
    exact ⟨x, y, by simpa using h1, by simpa using h2, h3⟩
def seqT : Tr → Option (Bool × List Tr)
  | .lst ts => some (false, ts)
  | .tup ts => some (true, ts)
  | _ => none
section
variable {B : Bk} {τ : TSt} {ta tb : TE}
theorem is_seq {K : Fg} {F H : Hp} {v : V} {t : Tr} {q : Bool} {ts : List Tr} (i : Same F H) (h : Is K F v t) (e : seqT t = some (q, ts)) : ∃ a xs, v = .ref a ∧ SqB q K H a xs ∧ IsL K F xs ts := by
  cases h with
  | lst a b => cases e; exact ⟨_, _, rfl, i.seq a, b⟩
  | tup a b => cases e; exact ⟨_, _, rfl, i.tup a, b⟩
  | _ => cases e
theorem SqB.same {q : Bool} {K : Fg} {H H' : Hp} {a : Addr} {xs : List V} (s : Same H H') (h : SqB q K H a xs) : SqB q K H' a xs := by
  cases q with
  | true => exact s.tup h
  | false => exact s.seq h
theorem i_zip {K : Fg} (hK : K = B.K) {Φ : List Tr → TSt → Prop} (h : EV B ta τ fun x τ1 => AsF x τ1 fun t τ2 => EV B tb τ2 fun y τ3 => AsF y τ3 fun u τ4 => ∃ q1 ts q2 us, seqT t = some (q1, ts) ∧ seqT u = some (q2, us) ∧ Φ (zip2T ts us) τ4) : IV B (iZip K (tCons ta (tCons tb tNil))) τ Φ := fun σ F H R r c => by
  subst hK
  refine h σ F H _ r fun v F1 H1 k τ1 f1 r1 ok1 n1 h1 => ?_
  obtain ⟨F2, t, τ2, f2, r2, i2, h2, _⟩ := asF_ok f1 r1 ok1 n1 h1
  refine h2 σ F2 H1 _ r2 fun w F3 H3 k3 τ3 f3 r3 ok3 n3 h3 => ?_
  obtain ⟨F4, u, τ4, f4, r4, i4, ⟨q1, ts, q2, us, e1, e2, h4⟩, _⟩ := asF_ok f3 r3 ok3 n3 h3
  obtain ⟨a1, xs, rfl, s1, l1⟩ := is_seq r4.inc (i2.same f4.f) e1
  obtain ⟨a2, ys, rfl, s2, l2⟩ := is_seq r4.inc i4 e2
  obtain ⟨_, _, ea, s1', l1'⟩ := is_seq (Same.refl F4) (i2.same f4.f) e1
  cases ea
  obtain ⟨_, _, eb, s2', l2'⟩ := is_seq (Same.refl F4) i4 e2
  cases eb
  refine ⟨q1, q2, a1, a2, rfl, ⟨xs, s1⟩, ⟨ys, s2⟩, c _ F4 H3 _ τ4 (f2.trans f4) r4 (fun σ' τ' F' H' sF rH => ⟨fun i t e => ?_, ?_⟩) h4⟩
  · obtain ⟨x0, y0, ex, ey, rfl⟩ := zip2T_at ts us i t e
    obtain ⟨w1, ew1, hw1⟩ := l1'.get ex
    obtain ⟨w2, ew2, hw2⟩ := l2'.get ey
    have t1 := SqB.same rH.inc (SqB.same sF s1')
    have t2 := SqB.same rH.inc (SqB.same sF s2')
    refine ⟨⟨_, _, w1, w2, t1, t2, ew1, ew2⟩, ?_⟩
    rintro x H2 ⟨p, y1, y2, rfl, hn, hy1, hy2, rfl⟩
    have g1 := hy1 _ t1
    have g2 := hy2 _ t2
    rw [ew1] at g1
    rw [ew2] at g2
    cases g1
    cases g2
    have u := rH.tup (vs := [w1, w2]) hn
    exact ⟨_, u, .tup (SqT.of upd_same) (.cons ((hw1.same sF).same u.f) (.cons ((hw2.same sF).same u.f) .nil))⟩
  · refine ⟨_, _, SqB.same rH.inc (SqB.same sF s1'), SqB.same rH.inc (SqB.same sF s2'), ?_⟩
    rw [l1'.length, l2'.length, zip2T_len]
    omega
end
section
variable {B : Bk} {τ τ' : TSt} {Φ : TK} {x y : Kd} {ts us : List Tr} {K : Fg}
theorem ro_catL (hK : K = B.K) (r1 : Rk τ x (.lst ts)) (r2 : Rk τ y (.lst us)) (hl : ts.length + us.length ≤ 100000) (q : Φ (.nw (.lst (ts ++ us))) τ) : RO B (rCatL K) x y τ Φ := fun _ _ _ _ _ _ r a b c => by
  subst hK
  obtain ⟨p, vs, rfl, s, l⟩ := r1.list r a
  obtain ⟨p2, ws, rfl, s2, l2⟩ := r2.list r b
  exact ⟨p, p2, vs, ws, rfl, rfl, s, s2, by rw [l.length, l2.length]; exact Nat.le_trans hl (by decide), fun p' hp => c.nl r (l.app l2) hp q⟩
end
end L2
namespace L2
open PySem PySem.Spec PyProof.Rows
inductive Dp : Nat → Tr → Prop
  | non {n : Nat} : Dp n .non
  | bl {n : Nat} {b : Bool} : Dp n (.bl b)
  | int {n : Nat} {i : Int} : Dp n (.int i)
  | str {n : Nat} {x : Str} : Dp n (.str x)
  | tup {n : Nat} {ts : List Tr} : (∀ t ∈ ts, Dp n t) → Dp (n + 1) (.tup ts)
  | lst {n : Nat} {ts : List Tr} : (∀ t ∈ ts, Dp n t) → Dp (n + 1) (.lst ts)
  | dct {n : Nat} : Dp n (.dct [])
theorem dp_nil {n : Nat} : ∀ t ∈ ([] : List Tr), Dp n t := fun _ h => absurd h List.not_mem_nil
theorem dp_cons {n : Nat} {t : Tr} {r : List Tr} (h : Dp n t) (g : ∀ t ∈ r, Dp n t) : ∀ u ∈ t :: r, Dp n u := List.forall_mem_cons.mpr ⟨h, g⟩
theorem alike_of {K : Fg} {F G H : Hp} {n : Nat} {t : Tr} (d : Dp n t) : ∀ {v w : V}, Same F H → Same G H → Is K F v t → Is K G w t → Alike K H n v w := by
  induction d with
  | non => intro v w i j a b; cases a; cases b; exact .non
  | bl => intro v w i j a b; cases a; cases b; exact .bl
  | int => intro v w i j a b; cases a; cases b; exact .int
  | str => intro v w i j a b; cases a; cases b; exact .str
  | dct =>
    intro v w i j a b
    cases a with
    | @dct p kvs _ h1 k1 _ =>
      cases b with
      | @dct q kvs' _ h2 k2 _ =>
        cases kvs with
        | cons _ _ => cases k1
        | nil =>
          cases kvs' with
          | cons _ _ => cases k2
          | nil => exact .dct (i _ _ h1) (j _ _ h2)
  | tup _ ih =>
    intro v w i j a b
    cases a with
    | tup s1 l1 =>
      cases b with
      | tup s2 l2 =>
        refine .tup (i.tup s1) (j.tup s2) (by rw [l1.length, l2.length]) fun k x y hx hy => ?_
        obtain ⟨t1, e1, h1⟩ := l1.get2 hx
        obtain ⟨t2, e2, h2⟩ := l2.get2 hy
        rw [e1] at e2
        cases e2
        exact ih t1 (List.mem_of_getElem? e1) i j h1 h2
  | lst _ ih =>
    intro v w i j a b
    cases a with
    | lst s1 l1 =>
      cases b with
      | lst s2 l2 =>
        refine .lst (i.seq s1) (j.seq s2) (by rw [l1.length, l2.length]) fun k x y hx hy => ?_
        obtain ⟨t1, e1, h1⟩ := l1.get2 hx
        obtain ⟨t2, e2, h2⟩ := l2.get2 hy
        rw [e1] at e2
        cases e2
        exact ih t1 (List.mem_of_getElem? e1) i j h1 h2
section
variable {B : Bk} {τ τ' : TSt} {Φ : TK} {x y : Kd} {ts us : List Tr} {K : Fg} {b : Bool}
theorem ro_alkT (hK : K = B.K) {n : Nat} (d : ∀ t ∈ ts, Dp n t) (hn : n ≤ 100) (r1 : Rk τ x (.tup ts)) (r2 : Rk τ y (.tup ts)) (q : Φ (.fz (.bl b)) τ) : RO B (rAlk K b) x y τ Φ := fun _ _ _ _ _ _ r a b c => by
  subst hK
  obtain ⟨p, vs, rfl, s, l⟩ := r1.tuple r a
  obtain ⟨p2, ws, rfl, s2, l2⟩ := r2.tuple r b
  refine ⟨p, p2, rfl, rfl, ⟨n, vs, ws, hn, .inl ⟨s, s2⟩, by rw [l.length, l2.length], fun j x y hx hy => ?_⟩, c.pl r .bl q⟩
  obtain ⟨t1, e1, h1⟩ := l.get2 hx
  obtain ⟨t2, e2, h2⟩ := l2.get2 hy
  rw [e1] at e2
  cases e2
  exact alike_of (d t1 (List.mem_of_getElem? e1)) r.inc r.inc h1 h2
theorem ro_eqE (hK : K = B.K) {f : Bool → Bool} (r1 : Rk τ x (.lst ts)) (r2 : Rk τ y (.lst [])) (q : Φ (.fz (.bl (f ts.isEmpty))) τ) : RO B (rEqE K f) x y τ Φ := fun σ F H v w Q r a b c => by
  subst hK
  obtain ⟨p, vs, rfl, s, l⟩ := r1.list r a
  obtain ⟨p2, ws, rfl, s2, l2⟩ := r2.list r b
  cases l2
  refine ⟨p, p2, vs, rfl, rfl, s, s2, ?_⟩
  have e : vs.isEmpty = ts.isEmpty := by cases l <;> rfl
  rw [e]; exact c.pl r .bl q
end
section
variable {B : Bk} {τ : TSt} {Φ : TK}
theorem e_callD0 {K : Fg} (hK : K = B.K) {S : SpT} {E : XK} {tA : TA} {j : Int} (h : EVW B tA τ fun as τ1 => ∀ F H, S (B.now F H) (as ++ [.fz (.int j)]) (fun k => Φ k τ1) fun _ => False) : EV B (tCall (toSp K S) [.int j] E tA) τ Φ := fun σ F H Q rp c => by
  subst hK
  unfold tCall
  refine h σ F H _ rp fun vs F1 H1 as τ1 f1 r1 l1 h1 => ?_
  refine ⟨B.now F1 H1, _, _, _, rfl, rfl, r1.bkok, l1.now.app (.cons (a := .fz (.int j)) Is.int .nil), h1 F1 H1, fun v F2 H2 kd u ok φ => ?_, fun C F2 H2 u ψ => ψ.elim⟩
  obtain ⟨a, b⟩ := ret_kd r1 (B' := B.now F1 H1) rfl rfl ok
  exact c.on f1 v F2 H2 kd τ1 (Fr.up u.of_now) (r1.go u.of_now) (by
    cases kd with
    | nw t => exact ⟨a.choose, a.choose_spec.1, a.choose_spec.2.1, a.choose_spec.2.2⟩
    | _ => exact a) b φ
end
end L2
namespace L2
open PySem PySem.Spec PyProof.Rows
theorem isl2 {K : Fg} {F : Hp} {vs : List V} {t u : Tr} (h : IsL K F vs [t, u]) : ∃ v w, vs = [v, w] ∧ Is K F v t ∧ Is K F w u := by
  cases h with
  | cons a b =>
    cases b with
    | cons b c => cases c; exact ⟨_, _, rfl, a, b⟩
theorem arl2 {B : Bk} {F : Hp} {vs : List V} {t u : Tr} (h : ArL B F vs [.fz t, .fz u]) : ∃ v w, vs = [v, w] ∧ Is B.K F v t ∧ Is B.K F w u := by
  cases h with
  | cons a b =>
    cases b with
    | cons b c => cases c; exact ⟨_, _, rfl, a, b⟩
def addT (F H : Hp) : Hp := fun p => match F p with
  | some o => some o
  | none => match H p with
    | some (.tup xs) => some (.tup xs)
    | some (.frz o (.tup xs)) => some (.frz o (.tup xs))
    | _ => none
theorem addT_some {F H : Hp} {p : Addr} {o : HO} (h : addT F H p = some o) : F p = some o ∨ (F p = none ∧ H p = some o ∧ ¬ Mb o) := by
  unfold addT at h
  cases e : F p with
  | some o' => rw [e] at h; exact .inl h
  | none =>
    rw [e] at h
    refine .inr ⟨rfl, ?_⟩
    cases e2 : H p with
    | none => rw [e2] at h; cases h
    | some o2 =>
      rw [e2] at h
      cases o2 with
      | tup xs => cases h; exact ⟨rfl, fun z => z⟩
      | frz o3 u =>
        cases u with
        | tup xs => cases h; exact ⟨rfl, fun z => z⟩
        | _ => cases h
      | _ => cases h
theorem upT {B : Bk} {F H H' : Hp} (k : BkOk B) (hF : B.F0 = F) (hH : B.H0 = H) (s : Same H H') : Up B F H (addT F H') H' where
  f := fun b o e => by unfold addT; rw [e]
  h := fun p o _ e => s p o e
  i := fun p o e => by
    rcases addT_some e with e | ⟨_, e, _⟩
    · exact s p o (by rw [← hH]; exact k.i p o (by rw [hF]; exact e))
    · exact e
  m := fun p o hp mb n => by
    cases e : addT F H' p with
    | none => rfl
    | some o2 =>
      rcases addT_some e with e | ⟨_, e, nm⟩
      · rw [n] at e; cases e
      · have := s p o hp
        rw [this] at e
        cases e
        exact (nm mb).elim
  w := fun p e => s.free e
  x := fun p hw n => by
    cases e : addT F H' p with
    | none => rfl
    | some o2 =>
      rcases addT_some e with e | ⟨_, e, nm⟩
      · rw [n] at e; cases e
      · obtain ⟨o, ho, mb⟩ := B.jm H' p (B.jl H H' (fun p hw => by
          cases e : H p with
          | none => exact absurd (by rw [hH]; exact e) (k.wa p hw)
          | some o => rw [s p o e]) (fun p φ z => s p _ z) (by rw [← hH]; exact k.wj)) hw
        rw [ho] at e
        cases e
        exact (nm mb).elim
  j := fun h => B.jl _ _ (fun p hw => by
    cases e : H p with
    | none => exact absurd (by rw [hH]; exact e) (k.wa p hw)
    | some o => rw [s p o e]) (fun p φ z => s p _ z) h
theorem SqT.addT {K : Fg} {F H : Hp} {p : Addr} {xs : List V} (i : Same F H) (h : SqT K H p xs) : SqT K (addT F H) p xs := by
  rcases h with (h | ⟨o, h⟩) | h
  · refine .inl (.inl ?_)
    unfold L2.addT
    cases e : F p with
    | some o => exact (i p o e).symm.trans h
    | none => show (match H p with | some (.tup xs) => some (HO.tup xs) | some (.frz o (.tup xs)) => some (HO.frz o (.tup xs)) | _ => none) = _; rw [h]
  · refine .inl (.inr ⟨o, ?_⟩)
    unfold L2.addT
    cases e : F p with
    | some o2 => exact (i p o2 e).symm.trans h
    | none => show (match H p with | some (.tup xs) => some (HO.tup xs) | some (.frz o (.tup xs)) => some (HO.frz o (.tup xs)) | _ => none) = _; rw [h]
  · exact .inr h
end L2
namespace L2
open PySem PySem.Spec PyProof.Rows
def SVD (B : Bk) (D : Ends) (t : TS) (τ : TSt) : Prop := ∀ σ F H, Rp B F H σ τ → t D σ H
section
variable {B : Bk} {τ : TSt} {s1 s2 : TS} {D : Ends} {i j : Nat} {ts us : List Tr}
theorem d_seq (h : SV B s1 τ ⟨fun τ' => SVD B D s2 τ', fun _ => False, fun _ => False, fun _ => False⟩) : SVD B D (tSeq s1 s2) τ := fun σ F H r =>
  h σ F H _ r ⟨fun σ' F' H' τ' _ r' h' => h' σ' F' H' r', fun _ _ _ _ _ _ z => z.elim, fun _ _ _ _ _ _ z => z.elim, fun _ _ _ _ _ _ z => z.elim⟩
theorem d_sv {rt : Kd → Prop} (hD : ∀ v F' H' k, Up B B.F0 B.H0 F' H' → RetOk B F' H' v k → rt k → D.rt v H') (h : SV B s1 τ ⟨fun _ => False, rt, fun _ => False, fun _ => False⟩) : SVD B D s1 τ := fun σ F H r =>
  h σ F H _ r ⟨fun _ _ _ _ _ _ z => z.elim, hD, fun _ _ _ _ _ _ z => z.elim, fun _ _ _ _ _ _ z => z.elim⟩
end
def bkL (K : Fg) (F H : Hp) (p : Addr) (l : List (Addr × List V)) : Bk where
  K := K
  F0 := F
  H0 := H
  W := fun q => ∃ vs, (q, vs) ∈ l
  J := fun H' => ∀ x ∈ l, H' x.1 = some (.lst x.2)
  rt := p
  jl := fun H H' e _ h x hx => by rw [← e x.1 ⟨x.2, hx⟩]; exact h x hx
  jm := fun H q h hw => by
    obtain ⟨vs, hx⟩ := hw
    exact ⟨_, h _ hx, trivial⟩
section
variable {B : Bk} {τ : TSt} {σ : St} {F H F' H' : Hp} {p : Addr} {l : List (Addr × List V)} {k : Nat}
def ClB : TSt → Bool
  | [] => true
  | .no :: r => ClB r
  | .fz _ :: r => ClB r
  | _ :: _ => false
theorem cl_b : ∀ {τ : TSt}, ClB τ = true → ∀ i s, TAt τ i s → s = .no ∨ ∃ t, s = .fz t
  | [], _, i, s, h => by cases h
  | .no :: r, h, 0, s, e => by cases e; exact .inl rfl
  | .fz t :: r, h, 0, s, e => by cases e; exact .inr ⟨t, rfl⟩
  | .no :: r, h, i + 1, s, e => cl_b (τ := r) h i s e
  | .fz t :: r, h, i + 1, s, e => cl_b (τ := r) h i s e
variable {D : Ends} {s2 : TS}
variable {B' : Bk} {a b : Addr} {ws : List V} {ts us ms : List Tr}
theorem law_open {K : Fg} {H : Hp} {a : Addr} {ns : List Int} {Q : VK} (hS : SqL K H a (ns.map V.int)) (q : ∀ H', Q (.bl true) H') (N : List Str) (t : TS) (h : ∀ D : Ends, (∀ H', D.rt (.bl true) H') → SVD (bkL K H H a []) D t (startT N.length [.fz (.lst (ns.map Tr.int))])) : t { nx := fun _ H' => Q .non H', rt := Q } (start N [.ref a]) H :=
  h _ q _ H H (rp_start (B := bkL K H H a []) ⟨Same.refl _, fun q hw => (by obtain ⟨_, hx⟩ := hw; exact absurd hx List.not_mem_nil), fun q hw => (by obtain ⟨_, hx⟩ := hw; exact absurd hx List.not_mem_nil), fun x hx => absurd hx List.not_mem_nil⟩ (.cons (a := .fz _) (.lst hS (IsL.ofInts ns)) .nil))
theorem d_true {rt : Kd → Prop} {s1 : TS} (hD : ∀ H', D.rt (.bl true) H') (h : SV B s1 τ ⟨fun _ => False, fun k => k = .fz (.bl true), fun _ => False, fun _ => False⟩) : SVD B D s1 τ := d_sv (rt := fun k => k = .fz (.bl true)) (fun v F' H' k _ ok e => by
  subst e
  cases (show Is B.K F' v (.bl true) from ok)
  exact hD H') h
end
end L2
namespace L2
open PySem PySem.Spec PyProof.Rows
section
variable {B B' : Bk} {τ τ' : TSt} {D : Ends} {s2 : TS} {p a b : Addr} {vs ws : List V} {ts us : List Tr} {k : Nat}
end
end L2
namespace L2
open PySem PySem.Spec PyProof.Rows
section
variable {B : Bk} {τ τ' : TSt} {k : Nat}
abbrev Bk.at (B : Bk) (l : Addr) : Bk := { B with rt := l }
end
end L2
namespace L2
end L2
namespace L2
open PySem PySem.Spec PyProof.Rows
section
variable {B : Bk} {τ τ1 : TSt} {Φ : TK} {te : TE} {K : Fg} {x y : Kd}
theorem e_fv (h : EV B te τ fun x τ1 => ∃ i : Int, x = .fz (.int i) ∧ i.natAbs.log2 < 1920 ∧ Φ (.fz (.str (Str.ofString (toString i)))) τ1) : EV B (tFv te) τ Φ := fun σ F H Q r c => by
  refine h σ F H _ r fun v F1 H1 k τ1 f1 r1 ok1 _ h1 => ?_
  obtain ⟨i, rfl, hi, q⟩ := h1
  cases (show Is B.K F1 v (.int i) from ok1)
  exact ⟨i, rfl, hi, (c.on f1).pl r1 .str q⟩
theorem e_fsn {acc : Str} (q : Φ (.fz (.str acc)) τ) : EV B (tFs [] acc) τ Φ := fun σ F H Q r c => c.pl r .str q
theorem e_fsc {acc : Str} {rs : List TE} (h : EV B te τ fun x τ1 => ∃ a : Str, x = .fz (.str a) ∧ (acc ++ a).length ≤ sizeLine ∧ EV B (tFs rs (acc ++ a)) τ1 Φ) : EV B (tFs (te :: rs) acc) τ Φ := fun σ F H Q r c => by
  refine h σ F H _ r fun v F1 H1 k τ1 f1 r1 ok1 _ h1 => ?_
  obtain ⟨a, rfl, hl, h2⟩ := h1
  cases (show Is B.K F1 v (.str a) from ok1)
  exact ⟨a, rfl, hl, h2 σ F1 H1 Q r1 (c.on f1)⟩
end
end L2
namespace L2
open PySem PySem.Spec PyProof.Rows
section
variable {prog : Program} {w : World} {A : Around} {R : Result → Shared → Prop} {I : Addr} {fp wr : List Addr} {G : Array GenState → Array GenState → Prop} {n : Nat} {P : Nat → Value → Prop} {St : Nat → Shared → Prop}
end
end L2
namespace L2
open PySem PySem.Spec PyProof.Rows
section
variable {prog : Program} {w : World} {A : Around} {E : Value → Shared → Prop} {s : Shared}
abbrev noSet (b : Bool) : Obj := { cls := .type "set", dict := none, data := .set #[] 0 (.fresh 0 0 b) }
end
end L2
namespace L2
open PySem PySem.Spec PyProof.Rows
section
variable {X : Cx}
end
section
variable {B : Bk} {τ : TSt} {Φ : TK} {te : TE} {K : Fg} {P : Program} {w : World}
end
end L2
namespace L2
open PySem PySem.Spec PyProof.Rows
section
variable {prog : Program} {w : World} {A : Around} {E : Value → Shared → Prop} {s : Shared}
end
section
variable {X : Cx}
end
section
variable {B : Bk} {τ : TSt} {Φ : TK} {te : TE} {K : Fg} {P : Program} {w : World}
end
end L2
namespace L2
open PySem PySem.Spec PyProof.Rows
def Bk.lend (B : Bk) (F H : Hp) (l : Addr) (Ok : List V → Prop) : Bk where
  K := B.K
  F0 := F
  H0 := H
  W := fun q => B.W q ∨ q = l
  J := fun H' => B.J H' ∧ ∃ vs, H' l = some (.lst vs) ∧ Ok vs
  rt := l
  jl := fun H H' e x ⟨hj, vs, h, o⟩ => ⟨B.jl H H' (fun p hp => e p (.inl hp)) x hj, vs, by rw [← e l (.inr rfl)]; exact h, o⟩
  jm := fun H q ⟨hj, vs, h, _⟩ hw => by
    rcases hw with hw | rfl
    · exact B.jm H q hj hw
    · exact ⟨_, h, trivial⟩
def OnlyF : Nat → TSt → Bool
  | _, [] => false
  | 0, s :: r => (match s with | .wd => true | _ => false) && ClB r
  | k + 1, s :: r => (match s with | .no => true | .fz _ => true | _ => false) && OnlyF k r
theorem onlyF_at : ∀ {k : Nat} {τ : TSt}, OnlyF k τ = true → TAt τ k .wd ∧ ∀ i s, TAt τ i s → i = k ∨ s = .no ∨ ∃ t, s = .fz t
  | 0, [], h => by cases h
  | _ + 1, [], h => by cases h
  | 0, s :: r, h => by
    unfold OnlyF at h
    rw [Bool.and_eq_true] at h
    cases s with
    | wd =>
      refine ⟨rfl, fun i s e => ?_⟩
      cases i with
      | zero => exact .inl rfl
      | succ i => exact .inr (cl_b h.2 i s e)
    | _ => cases h.1
  | k + 1, s :: r, h => by
    unfold OnlyF at h
    rw [Bool.and_eq_true] at h
    obtain ⟨a, b⟩ := onlyF_at h.2
    refine ⟨a, fun i u e => ?_⟩
    cases i with
    | zero =>
      have e : some s = some u := e
      cases e
      cases s with
      | no => exact .inr (.inl rfl)
      | fz t => exact .inr (.inr ⟨t, rfl⟩)
      | _ => cases h.1
    | succ i =>
      rcases b i u e with z | z
      · exact .inl (congrArg (· + 1) z)
      · exact .inr z
section
variable {B : Bk} {τ τ1 : TSt} {k : Nat} {F H F2 H2 : Hp} {σ : St} {l : Addr} {Ok : List V → Prop}
theorem Rp.lendM {t : Tr} {vs : List V} (r : Rp B F H σ τ) (g : TAt τ k (.own t)) (e : SAt σ k (.ref l)) (fl : F l = none) (hl : H l = some (.lst vs)) (ok : Ok vs) (cl : OnlyF k (τ.set k .wd) = true) : Rp (B.lend F H l Ok) F H σ (τ.set k .wd) := by
  obtain ⟨hk, hc⟩ := onlyF_at cl
  have no : ∀ i u, TAt (τ.set k .wd) i u → (∃ t, u = .own t) ∨ (∃ t, u = .vw t) → False := fun i u h z => by
    rcases hc i u h with rfl | rfl | ⟨t, rfl⟩
    · cases tat_unique hk h
      rcases z with ⟨_, z⟩ | ⟨_, z⟩ <;> cases z
    · rcases z with ⟨_, z⟩ | ⟨_, z⟩ <;> cases z
    · rcases z with ⟨_, z⟩ | ⟨_, z⟩ <;> cases z
  exact {
  up := Up.refl r.inc
  wa := fun q hw z => by
    rcases hw with hw | rfl
    · obtain ⟨o, ho, _⟩ := B.jm H q r.wj hw
      rw [show H q = none from z] at ho; cases ho
    · rw [show H q = none from z] at hl; cases hl
  wf := fun q hw => by
    rcases hw with hw | rfl
    · exact r.wf q hw
    · exact fl
  wj := ⟨r.wj, vs, hl, ok⟩
  wd := fun i h => by
    rcases hc i _ h with rfl | z | ⟨_, z⟩
    · exact e
    · cases z
    · cases z
  len := by rw [List.length_set]; exact r.len
  fz := fun i t h => by
    rcases tset h with ⟨_, z, _⟩ | ⟨_, h⟩
    · cases z
    · exact r.fz i t h
  ow := fun i t h => (no i _ h (.inl ⟨t, rfl⟩)).elim
  vw := fun i t h => (no i _ h (.inr ⟨t, rfl⟩)).elim
  ap := fun i j t u l h => (no i _ h (.inl ⟨t, rfl⟩)).elim
  av := fun i j t u l h => (no i _ h (.inl ⟨t, rfl⟩)).elim }
end
end L2
namespace L2
open PySem PySem.Spec PyProof.Rows
section
variable {B : Bk} {τ : TSt} {ta tb tc : TE}
def stepT (lo c : Int) (n : Nat) : List Tr := (List.range n).map fun i => .int (lo + (i : Nat) * c)
theorem stepT_len {lo c : Int} {n : Nat} : (stepT lo c n).length = n := by unfold stepT; rw [List.length_map, List.length_range]
theorem stepT_at {lo c : Int} {n i : Nat} {t : Tr} (h : (stepT lo c n)[i]? = some t) : i < n ∧ t = .int (lo + (i : Nat) * c) := by
  unfold stepT at h
  rw [List.getElem?_map] at h
  by_cases hi : i < n
  · rw [List.getElem?_range hi] at h
    cases h
    exact ⟨hi, rfl⟩
  · rw [List.getElem?_eq_none (by rw [List.length_range]; omega)] at h
    cases h
end
end L2
namespace L2
open PySem PySem.Spec PyProof.Rows
section
variable {B : Bk} {τ : TSt} {Φ : TK} {x y : Kd} {ts us : List Tr} {K : Fg}
end
end L2
namespace L2
open PySem PySem.Spec PyProof.Rows PySem.W
section
variable {X : Cx} {pins : Pn} {σ : St} {H : Hp} {s : Shared}
end
section
variable {X : Cx} {pins : Pn} {σ : St} {H : Hp} {s : Shared} {A : Around} {f : Value} {b : Bool} {vs : List Value} {kz : List Int} {kS a : Addr} {e1 : Nat} {R : PySem.Fin → Shared → Prop} {E : Value → Shared → Prop}
end
end L2
namespace L2
open PySem PySem.Spec PyProof.Rows PySem.W
section
variable {X : Cx} {pins : Pn} {σ : St} {H : Hp} {s : Shared} {E : Value → Shared → Prop}
end
end L2
namespace L2
open PySem PySem.Spec PyProof.Rows PySem.W PySem.Calls
end L2
namespace L2
open PySem PySem.Spec PyProof.Rows
end L2
namespace L2
open PySem PySem.Spec PyProof.Rows
section
variable {P : Program} {w : World} {K : Fg} {mg : Str → Option Value} {base : Heap}
end
end L2
namespace L2
open PySem PySem.Spec PyProof.Rows PySem.W PySem.Calls
section
variable {X : Cx}
end
end L2
namespace L2
open PySem PySem.Spec PyProof.Rows
section
variable {B : Bk} {K : Fg} {τ : TSt} {Φ : TK} {x : Kd} {ns : List Int}
theorem ru_maxL {m : Int} (hK : K = B.K) (rk : Rk τ x (.lst (ns.map Tr.int))) (hm : IsMax ns m) (q : Φ (.fz (.int m)) τ) : RU B (fun v H Q => rMax K [v] H Q) x τ Φ := fun σ F H v Q r a c => by
  subst hK
  obtain ⟨p, vs, rfl, s, l⟩ := rk.list r a
  cases l.ints
  exact ⟨p, ns, m, rfl, s, hm, c.pl r .int q⟩
end
end L2
namespace L2
open PySem PySem.Spec
section
variable {B : Bk} {τ τ' : TSt} {Φ : TK} {te ta : TE}
theorem e_ext {K : Fg} (hK : K = B.K) (h : EV B te τ fun x τ1 => ∃ k t0, x = .sl k ∧ Rk τ1 (.sl k) (.lst t0) ∧ EV B ta τ1 fun y τ2 => ∃ ts us τ3, y = .nw (.lst us) ∧ Gt τ2 k (.own (.lst ts)) ∧ ts.length + us.length ≤ 1000 ∧ Sto τ2 k (.own (.lst (ts ++ us))) τ3 ∧ Φ (.fz .non) τ3) :
    EV B (tBM K "list" rExtend te (tCons ta tNil)) τ Φ := fun σ F H Q rp c => by
  subst hK
  refine h σ F H _ rp fun v F1 H1 kk τ1 f1 r1 ok1 n1 h1 => ?_
  obtain ⟨k, t0, rfl, rk, h2⟩ := h1
  have ok1 : SAt σ k v := ok1
  refine ⟨TyK.v (x := .sl k) ⟨_, rk, rfl⟩ r1 ok1, ?_⟩
  refine h2 σ F1 H1 _ r1 fun y F2 H2 k2 τ2 f2 r2 ok2 n2 h3 => ?_
  obtain ⟨ts, us, τ3, rfl, g, hl, st, φ⟩ := h3
  obtain ⟨l, rfl, ow, fl, n0, ne⟩ := ok2
  obtain ⟨l0, e, hw, n, m0⟩ := r2.ow _ _ g.eq
  cases sat_unique e ok1
  cases hw with
  | lst a1 a2 =>
    cases ow with
    | lst b1 b2 =>
      have x1 := a2.length
      have x2 := b2.length
      refine ⟨l0, l, _, _, rfl, rfl, a1, b1, Nat.le_trans (by omega) (show 1000 ≤ sizeLine by decide), ?_⟩
      obtain ⟨r3, f3⟩ := r2.setO g.eq e (.lst upd_same (a2.app b2))
      rw [st.eq] at r3 f3
      exact c _ F2 _ (.fz .non) τ3 ((f1.trans f2).trans f3) r3 .non trivial φ
end
end L2
namespace L2
open PySem PySem.Spec
section
variable {B : Bk} {τ τ' : TSt} {N : TSt → Prop} {ti : TE}
variable {Φ : TK} {te : TE}
end
end L2
namespace L2
open PySem PySem.Spec PyProof.Rows
section
variable {X : Cx}
end
section
variable {B : Bk} {τ : TSt} {Φ : TK}
end
end L2
namespace L2
open PySem PySem.Spec PyProof.Rows
section
variable {X : Cx} {x : Str} {C : Addr}
variable {p pos : Pos} {e0 : Expr} {es : List Expr} {t : TA}
end
end L2
namespace PySem
open Sem (wp)
section
open PySem.W
variable {prog : Program} {w : World} {A : Around} {h : Heap} {g : Array GenState} {d : Drawn} {t : Nat} {os : OsState} {E : Value → Shared → Prop}
variable {nm q : Str} {C N fI : Addr} {bs bm bmB : List Value} {hdct : Bool} {sn : List Str} {sub : List Value} {ab : Bool} {col : Option Bool} {dd : Option Addr} {k0 k1 k2 k3 k5 : Option Value} {B Bn newId nid initId inN : String} {bmN : List Value}
end
end PySem
namespace L2
open PySem PySem.Spec PyProof.Rows
section
open PySem.W PySem.Calls PySem.Builtin PySem.Builtin.ObjectAttr
variable {prog : Program} {w : World} {A : Around} {E : Value → Shared → Prop} {s : Shared} {K : Frag} {a C : Addr} {oe : Obj}
end
end L2
namespace L2
open PySem PySem.Spec PyProof.Rows
section
variable {P : Program} {w : World} {H : Hp} {h : Heap} {a C dx t : Addr} {oe : Obj} {vs : Array Value}
end
section
variable {X : Cx} {pins : Pn} {σ : St} {H : Hp} {s : Shared}
end
section
variable {X : Cx} {k : Nat} {C fI : Addr} {fd : FuncData} {f : Str}
end
end L2
namespace L2
open PySem PySem.Spec PyProof.Rows
section
variable {X : Cx} {x : Str} {C fI : Addr} {r : List V → Hp → VK → Prop} {p pos : Pos} {e0 : Expr} {es : List Expr} {t : TA}
end
section
variable {X : Cx} {k : Nat} {f : Addr} {fd : FuncData} {ps : List Str} {sp : Sp} {dvs : List V} {ds : List Value} {fx cx n : Str} {p cpos epos np hpos pos : Pos} {e : Expr} {es : List Expr} {t : TA} {T C : Addr} {b0 : Stmt} {suite : List Stmt} {ts : Addr → TS} {j : Nat}
end
end L2
namespace PySem
section
variable {M : Model} {A : Around} {E : Value → Shared → Prop} {s : Shared} {env : Env}
variable {nm q : Str} {C N : Addr} {bs bm : List Value} {hdct : Bool} {sn : List Str} {sub : List Value} {ab : Bool} {col : Option Bool} {dd : Option Addr} {k0 k1 k2 k3 k5 : Option Value} {newId : String}
end
end PySem
namespace L2
open PySem PySem.Spec PyProof.Rows
section
variable {P : Program} {w : World} {K : Fg} {mg : Str → Option Value} {base : Heap} {N : List Str} {qual : Str} {scope : Scope} {f : Addr} {cd : Value} {A : Around} {outer : List Env} {s : Shared} {H : Hp} {E : XK}
  {pins : Pn} {σ : St} {H1 : Hp} {s1 : Shared} {a C dx : Addr} {fld : Str} {v : V}
end
section
variable {X : Cx} {k : Nat} {C fI : Addr} {fd : FuncData} {f : Str}
variable {E : XK} {x : Str} {np cpos pos : Pos} {e0 : Expr} {es : List Expr} {t : TA}
end
end L2
namespace PySem
section
variable {M : Model} {A : Around} {E : Value → Shared → Prop} {s : Shared} {base : Heap} {env : Env} {outer l : List Env} {L e : Addr} {cls : Value} {dx : Option Addr} {Q : Unit → Shared → Prop}
theorem flightX {fl : Value} {fr : Option Addr} (z : Heap.OnX base l e cls dx fl s.heap) (k : ∀ h', Heap.OnX base l e cls dx (fr.elim .none fun f => rawInt f) h' → s.heap.UpToSlots h' → Q () { s with heap := h' }) : wpAny M A (setFlight (.ref e) fr) Q E s := by
  obtain ⟨hB, hn, hF, x, vs, T, y, ts, hx, hc, hv, h1, nT, Te, hT, hy, h3⟩ := z
  have ot : ∀ b, b ≠ T → (s.heap.update T (Obj.mapFields (·.setIfInBounds 3 (fr.elim Value.none fun f => rawInt f)))).get? b = s.heap.get? b := fun b hb => Heap.get?_update_other _ _ (Ne.symm hb)
  have nr : ∀ b o, s.heap.get? b = some o → (∀ vs, o.data ≠ .fields vs) → b ≠ T := fun b o q hnf z => by rw [z, hT] at q; cases q; exact hnf ts hy
  have sz := (Array.getElem?_eq_some_iff.mp h3).1
  unfold setFlight
  refine wpAny_bind (wpAny_field hx hv h1 ?_)
  rw [if_pos (show (Value.ref T != Value.none) = true from by simp)]
  refine wpAny_setField hT hy sz (k _ ⟨fun b o q => (ot b fun z => by rw [z, nT] at q; cases q).trans (hB b o q), hn, hF.of_keeps fun b o q hnf => ⟨o, (ot b (nr b o q hnf)).trans q, rfl⟩,
    x, vs, T, _, _, (ot e (Ne.symm Te)).trans hx, hc, hv, h1, nT, Te, Heap.get?_update_self _ hT (Obj.isFreed_of_fields (Obj.data_mapFields hy _)), Obj.data_mapFields hy _, by simp [sz]⟩
    fun b o q hnf => ⟨o.slots, (ot b (nr b o q hnf)).trans q⟩)
def Heap.StX (h base : Heap) (e : Addr) (cls : Value) (dx : Option Addr) (L : Addr) : Prop :=
  (∃ (x : Obj) (vs : Array Value), h.get? e = some x ∧ (x.cls = cls ∧ x.dict = dx ∧ (dx = none → vs[2]? = some .none)) ∧ x.data = .fields vs ∧ vs[1]? = some .none) ∨ h.TrX base e cls dx .none ∨ h.TrX base e cls dx (rawInt L)
theorem noteS (hA : A.frames = some (env :: outer)) (hL : env.frame = some L) (hB : base.StaysIn s.heap) (hn : base.get? e = none) (hF : s.heap.FunFrames base (env :: outer)) (z : s.heap.StX base e cls dx L)
    (k : ∀ h', Heap.OnX base (env :: outer) e cls dx (rawInt L) h' → s.heap.UpToSlots h' → Q () { s with heap := h' }) : wpAny M A (noteFrame (.ref e) env) Q E s := by
  rcases z with ⟨x, vs, hx, ⟨hc, hd, hc2⟩, hv, h1⟩ | z | z
  · subst hc hd
    unfold noteFrame
    simp only [hL]
    refine wpAny_bind (wpAny_field hx hv h1 ?_)
    rw [if_neg (by decide)]
    exact noteX hA hF hL hx hB hn hv (Array.getElem?_eq_some_iff.mp h1).1 hc2 k
  · exact looksX hA hL ⟨hB, hn, hF, z⟩ k
  · obtain ⟨x, vs, T, y, ts, hx, hc, hv, h1, nT, Te, hT, hy, h3⟩ := id z
    unfold noteFrame
    simp only [hL]
    refine wpAny_bind (wpAny_field hx hv h1 ?_)
    rw [if_pos (show (Value.ref T != Value.none) = true from by simp)]
    refine wpAny_bind (wpAny_field hT hy h3 ?_)
    rw [if_pos (show (rawInt L == rawInt L) = true from by simp)]
    exact wpAny_pure (k s.heap ⟨hB, hn, hF, z⟩ (.refl _))
end
end PySem
namespace L2
open PySem PySem.Spec PyProof.Rows
structure Way (X : Cx) (H' : Hp) (B : Heap) (a : Addr) (s' : Shared) : Prop where
  os : s'.os = X.s₀.os
  bare : AllBare s'.gens
  hok : HOk X.prog X.w H' B
  st : B.StaysIn s'.heap
  na : B.get? a = none
  ff : s'.heap.FunFrames B X.stack
  un : Un (frs X.outer) [] X.H₀ H' X.s₀.heap s'.heap
  kU : ∀ b o, X.s₀.heap.get? b = some o → X.H₀ b = none → b ∉ frs X.outer → B.get? b = some o
  kT : ∀ b o, X.s₀.heap.get? b = some o → b ∉ frs X.outer → ∃ o', B.get? b = some o'
def XeS (X : Cx) (E : XK) : Value → Shared → Prop := fun e s' => ∃ (a C : Addr) (dx : Option Addr) (H' : Hp) (B : Heap), e = .ref a ∧ Way X H' B a s' ∧ s'.heap.StX B a (.ref C) dx X.env.locals ∧ E (.ref C) dx H'
section
variable {X : Cx} {E : XK} {H' : Hp} {B h2 : Heap} {a : Addr} {s' : Shared} {cls : Value} {dx : Option Addr} {fl : Value}
theorem Way.move (w : Way X H' B a s') (hst : X.stack = X.env :: X.outer) (z : Heap.OnX B X.stack a cls dx fl h2) (us : s'.heap.UpToSlots h2) : Way X H' B a { s' with heap := h2 } := by
  have sub : ∀ b ∈ frs X.outer, b ∈ frs X.stack := fun b hb => by
    rw [hst]
    obtain ⟨env, hm, hf⟩ := List.mem_filterMap.mp (show b ∈ X.outer.filterMap (·.frame) from hb)
    exact List.mem_filterMap.mpr ⟨env, List.mem_cons_of_mem _ hm, hf⟩
  have cs : ∀ b ∈ frs X.outer, ∀ o, s'.heap.get? b = some o → ∃ sl, h2.get? b = some { o with slots := sl } := fun b hb o e => by
    obtain ⟨_, o', e', hd⟩ := w.ff.mem (sub b hb)
    rw [e] at e'; cases e'
    exact us b o e hd
  exact ⟨w.os, w.bare, w.hok, z.1, w.na, z.2.2.1, {
    keep := fun b o e n hb _ => z.1 b o (w.kU b o e n hb)
    slot := fun b o e n hb hx => by
      obtain ⟨sl, e1⟩ := w.un.slot b o e n hb hx
      obtain ⟨sl', e2⟩ := cs b hb _ e1
      exact ⟨sl', e2⟩
    free := w.un.free
    there := fun b o e hx => by
      by_cases hb : b ∈ frs X.outer
      · obtain ⟨o2, e2⟩ := w.un.there b o e hx
        obtain ⟨sl, e3⟩ := cs b hb _ e2
        exact ⟨_, e3⟩
      · obtain ⟨o2, e2⟩ := w.kT b o e hb
        exact ⟨o2, z.1 b o2 e2⟩
    tups := w.un.tups
    frzs := w.un.frzs
    tbls := w.un.tbls }, w.kU, w.kT⟩
theorem passAtS {M : Model} {A' A : Around} (h1 : A'.frames = some X.stack) (hst : X.stack = X.env :: X.outer) (hf : X.env.frame = some X.env.locals) : PassesOwnAt M A' A X.env (XeS X E) := by
  intro e s1 z
  obtain ⟨a, C, dx, H', B, rfl, w, st, q⟩ := z
  have ff := w.ff
  rw [hst] at h1 ff
  refine noteS h1 hf w.st w.na ff st fun h2 z2 us => ?_
  have z2' : Heap.OnX B X.stack a (.ref C) dx (rawInt X.env.locals) h2 := by rw [hst]; exact z2
  have w2 := w.move hst z2' us
  obtain ⟨hB, hn, hF, x, vs, T, y, ts, hx, hc, hv, h1, nT, Te, hT, hy, h3⟩ := id z2'
  unfold cameBackBy
  refine wpAny_bind (wpAny_field (s := { s1 with heap := h2 }) hx hv h1 ?_)
  show wpAny _ _ (if (Value.ref T == Value.none) = true then _ else setFlight (.ref a) X.env.frame) _ _ _
  rw [if_neg (show ¬ ((Value.ref T == Value.none) = true) from by simp), hf]
  refine flightX (s := { s1 with heap := h2 }) (fr := some X.env.locals) z2' fun h3 z3 us3 => ?_
  exact ⟨a, C, dx, H', B, rfl, w2.move hst z3 us3, .inr (.inr z3.2.2.2), q⟩
theorem passOwnS {M : Model} {A : Around} (h1 : A.frames = some X.stack) (hst : X.stack = X.env :: X.outer) (hf : X.env.frame = some X.env.locals) : PassesOwn M A X.env (XeS X E) := passAtS (A' := A) h1 hst hf
end
section
variable {P : Program} {w : World} {K : Fg} {mg : Str → Option Value} {base : Heap} {N : List Str} {qual : Str} {scope : Scope} {f : Addr} {cd : Value} {A : Around} {outer : List Env} {s : Shared} {H : Hp} {E : XK}
theorem leaveS {e : Value} {s' : Shared} (hA : (cxOf (CXe P w) P w K mg base N qual scope f cd A outer s H E).A.frames = some (cxOf (CXe P w) P w K mg base N qual scope f cd A outer s H E).stack) (z : XeS (cxOf (CXe P w) P w K mg base N qual scope f cd A outer s H E) E e s') :
    (cxOf (CXe P w) P w K mg base N qual scope f cd A outer s H E).xe e s' := by
  obtain ⟨a, C, dx, H', B, rfl, wy, st, q⟩ := z
  show wpAny _ _ (leaving _ _) _ _ _
  unfold leaving
  refine wpAny_bind (noteS hA rfl wy.st wy.na wy.ff st fun h2 z2 us => ?_)
  have w2 := wy.move rfl z2 us
  refine landsX (s := { s' with heap := h2 }) z2 fun h3 z3 us3 => ?_
  have w3 := w2.move rfl z3 us3
  obtain ⟨k1, k2, ⟨_, _, k3⟩, k4⟩ := z3
  exact ⟨a, C, dx, H', B, rfl, w3.os, w3.bare, w3.un, w3.hok, ⟨k1, k2, k3, k4⟩, w3.kU, w3.kT, q⟩
abbrev cxS (P : Program) (w : World) (K : Fg) (mg : Str → Option Value) (base : Heap) (N : List Str) (qual : Str) (scope : Scope) (f : Addr) (cd : Value) (A : Around) (outer : List Env) (s : Shared) (H : Hp) (E : XK) : Cx :=
  (cxOf (CXe P w) P w K mg base N qual scope f cd A outer s H E).wish (XeS (cxOf (CXe P w) P w K mg base N qual scope f cd A outer s H E) E)
theorem FunD.okS {x qual : Str} {st : Stmt} {f : Addr} {fd : FuncData} {N ps : List Str} {k : Nat} {sp : Sp} (F : FunD K x qual st f fd) (S : FnScope N ps (defScope st)) (len : ∀ vs H Q E, sp vs H Q E → vs.length = ps.length)
    (hbody : ∀ (cdv : Value) (A : Around) (outer : List Env) (s : Shared) (H : Hp) (vs : List V) (Q : VK) (E : XK), Room k (A.deeper (envOfC qual (defScope st) s.heap.objs.size f cdv)) → sp vs H Q E →
      ∃ t, PSs (cxS P w K mg base N qual (defScope st) f cdv A outer s H E) (defBody st) t ∧ t { nx := fun _ H' => Q .non H', rt := Q } (start N vs) H) : FnOk P w K mg base (CXe P w) (k + 1) f fd ps sp :=
  F.okE S len fun cdv A outer s H vs Q E hr hsp => by
    obtain ⟨t, ht, hq⟩ := hbody cdv A outer s H vs Q E hr hsp
    refine ⟨t, fun pins s1 σ H1 D I h => ?_, hq⟩
    exact wpAny_mono (ht pins s1 σ H1 D (I.wish _) h) (fun fl s' z => z.unwish) fun e s' z => leaveS I.ok.frames z
theorem FunD.okL {x qual : Str} {st : Stmt} {f : Addr} {fd : FuncData} {N ps : List Str} {k : Nat} {sp : Sp} (F : FunD K x qual st f fd) (S : FnScope N ps (defScope st)) (len : ∀ vs H Q E, sp vs H Q E → vs.length = ps.length)
    (hbody : ∀ (cdv : Value) (A : Around) (outer : List Env) (s : Shared) (H : Hp) (vs : List V) (Q : VK) (E : XK), Room k (A.deeper (envOfC qual (defScope st) s.heap.objs.size f cdv)) → (A.deeper (envOfC qual (defScope st) s.heap.objs.size f cdv)).frames = some (envOfC qual (defScope st) s.heap.objs.size f cdv :: outer) → sp vs H Q E →
      ∃ t, PSs (cxS P w K mg base N qual (defScope st) f cdv A outer s H E) (defBody st) t ∧ t { nx := fun _ H' => Q .non H', rt := Q } (start N vs) H) : FnOk P w K mg base (CXe P w) (k + 1) f fd ps sp :=
  F.okS S len fun cdv A outer s H vs Q E hr hsp => by
    by_cases hf : (A.deeper (envOfC qual (defScope st) s.heap.objs.size f cdv)).frames = some (envOfC qual (defScope st) s.heap.objs.size f cdv :: outer)
    · exact hbody cdv A outer s H vs Q E hr hf hsp
    · exact ⟨fun _ _ _ => True, fun pins s1 σ H1 D I _ => absurd I.ok.frames hf, True.intro⟩
end
section
variable {P : Program} {w : World} {K : Fg} {mg : Str → Option Value} {base : Heap} {N : List Str} {qual : Str} {scope : Scope} {f : Addr} {cd : Value} {A : Around} {outer : List Env} {s : Shared} {H : Hp} {E : XK}
theorem nstkS {b : Addr} {o : Obj} (e : s.heap.get? b = some o) (n : b ∉ frs outer) : b ∉ frs (cxOf (CXe P w) P w K mg base N qual scope f cd A outer s H E).stack := fun z => by
  rcases frs_own.mp z with z | z
  · rw [z] at e
    exact absurd (Heap.lt_size e) (Nat.lt_irrefl _)
  · exact n z
theorem wayS {pins : Pn} {σ : St} {H1 H3 : Hp} {s1 : Shared} {h' : Heap} {a : Addr} (I : Inv (cxOf (CXe P w) P w K mg base N qual scope f cd A outer s H E) pins σ H1 s1) (kp : ∀ b o, b ≠ a → s1.heap.get? b = some o → h'.get? b = some o) (nos : s.heap.get? a = none) (na : a ∉ frs (cxOf (CXe P w) P w K mg base N qual scope f cd A outer s H E).stack) (eq : ∀ b, b ≠ a → H1 b = H3 b) (ha : H3 a = none) (ht : ∀ xs, H1 a ≠ some (.tup xs)) (hw : ∀ b, H1 a ≠ some (.own b)) (hz : ∀ o u, H1 a ≠ some (.frz o u)) (hl : ∀ ps, H1 a ≠ some (.tbl ps)) :
    Way (cxOf (CXe P w) P w K mg base N qual scope f cd A outer s H E) H3 (PySem.W.hideAll s1.heap (a :: frs (cxOf (CXe P w) P w K mg base N qual scope f cd A outer s H E).stack)) a { s1 with heap := h' } := by
  have hin : ∀ env ∈ (cxOf (CXe P w) P w K mg base N qual scope f cd A outer s H E).stack, ∀ b, env.frame = some b → b ∈ a :: frs (cxOf (CXe P w) P w K mg base N qual scope f cd A outer s H E).stack := fun env he b hb => List.mem_cons_of_mem _ (List.mem_filterMap.mpr ⟨env, he, hb⟩)
  have toB : ∀ b o, s1.heap.get? b = some o → b ≠ a → b ∉ frs (cxOf (CXe P w) P w K mg base N qual scope f cd A outer s H E).stack → (PySem.W.hideAll s1.heap (a :: frs (cxOf (CXe P w) P w K mg base N qual scope f cd A outer s H E).stack)).get? b = some o := fun b o e n1 n2 => PySem.W.hideAll_get _ e (fun z => (List.mem_cons.mp z).elim n1 n2)
  have nb : ∀ b o, s.heap.get? b = some o → b ≠ a := fun b o e z => by rw [z, nos] at e; cases e
  have st : (PySem.W.hideAll s1.heap (a :: frs (cxOf (CXe P w) P w K mg base N qual scope f cd A outer s H E).stack)).StaysIn h' := fun b o q => kp b o (fun z => by rw [z, PySem.W.hideAll_none _ (List.mem_cons_self ..)] at q; cases q) (PySem.W.of_hideAll _ q)
  have ff := PySem.W.funFrames_hide (as := a :: frs (cxOf (CXe P w) P w K mg base N qual scope f cd A outer s H E).stack) I.stack hin
  have fn : ∀ b ∈ frs (cxOf (CXe P w) P w K mg base N qual scope f cd A outer s H E).stack, b ≠ a := fun b hb z => na (z ▸ hb)
  refine ⟨I.os, I.bare, fun b u eu => ?_, st, PySem.W.hideAll_none _ (List.mem_cons_self ..), ?_, ?_, ?_, ?_⟩
  · have hba : b ≠ a := fun z => by rw [z, ha] at eu; cases eu
    have e2 : H1 b = some u := by rw [eq b hba]; exact eu
    refine (I.hok b u e2).stay (fun c o hc q => toB c o q (fun z => ?_) fun z => ?_) (fun c q => ?_) fun c xs q => ?_
    · rcases hc with hc | hc
      · exact hba (hc.symm.trans z)
      · rw [z] at hc; exact hw _ hc
    · have n := I.stkFree c z
      rcases hc with hc | hc
      · rw [hc, e2] at n; cases n
      · rw [hc] at n; cases n
    · by_cases z : c = a
      · rw [z] at q; exact absurd q (hw _)
      · rw [← eq c z]; exact q
    · by_cases z : c = a
      · rw [z] at q; exact absurd q (ht _)
      · rw [← eq c z]; exact q
  · have go : ∀ l : List Env, (∀ b ∈ frs l, b ≠ a) → s1.heap.FunFrames (PySem.W.hideAll s1.heap (a :: frs (cxOf (CXe P w) P w K mg base N qual scope f cd A outer s H E).stack)) l → h'.FunFrames (PySem.W.hideAll s1.heap (a :: frs (cxOf (CXe P w) P w K mg base N qual scope f cd A outer s H E).stack)) l := fun l => by
      induction l with
      | nil => exact fun _ _ => trivial
      | cons env r ih =>
        intro hn z
        obtain ⟨z1, ⟨L, o, z2, z3, z4, z5⟩, z6⟩ := z
        refine ⟨z1, ⟨L, o, z2, z3, kp L o (hn L ?_) z4, z5⟩, ih (fun b hb => hn b ?_) z6⟩
        · exact List.mem_filterMap.mpr ⟨env, List.mem_cons_self, z2⟩
        · obtain ⟨e2, hm, hf⟩ := List.mem_filterMap.mp (show b ∈ r.filterMap (·.frame) from hb)
          exact List.mem_filterMap.mpr ⟨e2, List.mem_cons_of_mem _ hm, hf⟩
    exact go _ fn ff
  · exact {
      keep := fun b o e n hb _ => kp b o (nb b o e) (I.base.keep b o e n hb (by exact fun z => nomatch z))
      slot := fun b o e n hb _ => by
        obtain ⟨sl, e1⟩ := I.base.slot b o e n hb (by exact fun z => nomatch z)
        exact ⟨sl, kp b _ (nb b o e) e1⟩
      free := fun b o e n _ => by rw [← eq b (nb b o e)]; exact I.base.free b o e n (by exact fun z => nomatch z)
      there := fun b o e _ => by
        obtain ⟨o', e1⟩ := I.base.there b o e (by exact fun z => nomatch z)
        exact ⟨o', kp b o' (nb b o e) e1⟩
      tups := fun b xs z => by
        have := I.base.tups b xs z
        by_cases y : b = a
        · rw [y] at this; exact absurd this (ht _)
        · rw [← eq b y]; exact this
      frzs := fun b o u z => by
        have := I.base.frzs b o u z
        by_cases y : b = a
        · rw [y] at this; exact absurd this (hz _ _)
        · rw [← eq b y]; exact this
      tbls := fun b ps z => by
        obtain ⟨m, this⟩ := I.base.tbls b ps z
        by_cases y : b = a
        · rw [y] at this; exact absurd this (hl _)
        · exact ⟨m, by rw [← eq b y]; exact this⟩ }
  · exact fun b o e n hb => toB b o (I.base.keep b o e n hb (by exact fun z => nomatch z)) (nb b o e) (nstkS e hb)
  · intro b o e hb
    obtain ⟨o', e1⟩ := I.base.there b o e (by exact fun z => nomatch z)
    exact ⟨o', toB b o' e1 (nb b o e) (nstkS e hb)⟩
theorem raisesS {C : Addr} : Raises (cxS P w K mg base N qual scope f cd A outer s H E) C E := by
  intro pins σ H1 s1 h' e vs I0 me q
  have I : Inv (cxOf (CXe P w) P w K mg base N qual scope f cd A outer s H E) pins σ H1 s1 := I0.unwish
  obtain ⟨tt, hmade, _, _⟩ := me.there
  have hfree : H1 e = none := by
    cases z : H1 e with
    | none => rfl
    | some o =>
      obtain ⟨u, hu⟩ := ObjOk.thereIs (I.hok e o z)
      rw [me.new] at hu; cases hu
  have nos : s.heap.get? e = none := by
    cases z : s.heap.get? e with
    | none => rfl
    | some o =>
      obtain ⟨o', e1⟩ := I.base.there e o z (by exact fun z => nomatch z)
      rw [me.new] at e1; cases e1
  have na : e ∉ frs (cxOf (CXe P w) P w K mg base N qual scope f cd A outer s H E).stack := fun z => by
    obtain ⟨_, o, ho, _⟩ := I.stack.mem z
    rw [me.new] at ho; cases ho
  refine ⟨e, C, none, H1, _, rfl, wayS I (fun b o _ => me.keeps b o) nos na (fun _ _ => rfl) hfree (fun xs z => by rw [hfree] at z; cases z) (fun xs z => by rw [hfree] at z; cases z) (fun xs u z => by rw [hfree] at z; cases z) (fun xs z => by rw [hfree] at z; cases z), .inl ⟨_, _, hmade, ⟨rfl, rfl, fun _ => rfl⟩, rfl, rfl⟩, q⟩
end
end L2
namespace PySem
section
variable {prog : Program} {w : World} {A : Around} {E : Value → Shared → Prop} {s : Shared} {env : Env}
variable {nm q : Str} {C N : Addr} {bs bm : List Value} {hdct : Bool} {sn : List Str} {sub : List Value} {ab : Bool} {col : Option Bool} {dd : Option Addr} {k0 k1 k2 k3 k5 : Option Value} {newId : String}
end
end PySem
namespace L2
open PySem PySem.Spec PyProof.Rows
section
variable {X : Cx} {k : Nat} {C fI : Addr} {fd : FuncData} {f : Str}
end
section
variable {P : Program} {w : World} {K : Fg} {mg : Str → Option Value} {base : Heap} {N : List Str} {qual : Str} {scope : Scope} {f : Addr} {cd : Value} {A : Around} {outer : List Env} {s : Shared} {H : Hp} {E : XK}
end
section
variable {X : Cx} {k k2 : Nat} {f fI : Addr} {fd fd2 : FuncData} {ps : List Str} {sp : Sp} {dvs : List V} {ds : List Value} {fx x c1 c2 cx : Str} {p cpos px apos q1 q2 tpos np c2pos kpos rpos spos hpos pos : Pos} {e : Expr} {es : List Expr} {t : TA} {T1 T2 C : Addr} {i : Nat} {E : XK} {fld : Str} {tx n1 n2 : Nat}
end
end L2
namespace L2
open PySem PySem.Spec PyProof.Rows
section
variable {X : Cx} {pins : Pn} {σ : St} {H : Hp} {s : Shared}
end
section
variable {X : Cx} {pins : Pn} {σ : St} {H : Hp} {s s' : Shared} {E : XK} {ex : Value} {x n : Str} {T C : Addr} {np hpos : Pos} {b0 : Stmt} {suite : List Stmt} {ts : Addr → TS} {D : Ends} {j : Nat}
end
section
variable {X : Cx} {k : Nat} {f : Addr} {fd : FuncData} {ps : List Str} {sp : Sp} {dvs : List V} {ds : List Value} {fx cx n : Str} {p cpos epos np hpos pos : Pos} {e : Expr} {es : List Expr} {t : TA} {T C : Addr} {b0 : Stmt} {suite : List Stmt} {ts : Addr → TS} {j : Nat}
end
end L2
namespace L2
open PySem PySem.Spec PyProof.Rows PySem.SeqAt
section
end
section
variable {X : Cx}
end
section
variable {B : Bk} {τ τ' : TSt} {Φ : TK} {K : Fg}
end
end L2
namespace L2
open PySem PySem.Spec PyProof.Rows
section
variable {X : Cx} {k : Nat} {f : Addr} {fd : FuncData} {ps : List Str} {sp : Sp} {fx cx n : Str} {p cpos cmpos kpos ipos np hpos pos : Pos} {e : Expr} {es : List Expr} {t : TA} {T C : Addr} {b0 : Stmt} {suite body : List Stmt} {ts : Addr → TS} {i j : Nat} {kj}
end
end L2
namespace L2
open PySem PySem.Spec PyProof.Rows
section
variable {X : Cx}
end
end L2
namespace L2
open PySem PySem.Spec PyProof.Rows
section
variable {X : Cx} {k : Nat} {f : Bool → Addr} {fd : Bool → FuncData} {ps : List Str} {sp : Bool → Sp} {fx x cx n : Str} {p cpos px apos np hpos pos : Pos} {e : Expr} {es : List Expr} {t : TA} {T C : Addr} {b0 : Stmt} {suite : List Stmt} {ts : Addr → TS} {i0 i j : Nat}
end
end L2
namespace L2
open PySem PySem.Spec PyProof.Rows
section
variable {B : Bk} {τ : TSt} {Φ : TK} {K : Fg}
end
end L2
namespace L2
open PySem PySem.Spec PyProof.Rows
section
variable {K : Fg} {F : Hp}
end
section
variable {B : Bk} {τ : TSt} {Φ : TK} {td ty tv : TE} {nx bk ct : TSt → Prop} {rt : Kd → Prop}
end
end L2
namespace L2
open PySem PySem.Spec PyProof.Rows
section
variable {P : Program} {w : World} {A : Around} {E : Value → Shared → Prop} {s : Shared} {q1 q2 : Bool} {z ti to n1 n2 a1 a2 : Addr} {k : Nat} {us vs : Array Value} {u v c d : Value}
end
section
variable {X : Cx} {pins : Pn} {σ : St} {H H0 : Hp} {s : Shared}
end
end L2
namespace L2
open PySem PySem.Spec PyProof.Rows
def tNeverE : TE := fun _ _ _ => False
theorem pe_never {X : Cx} {e : Expr} : PE X e tNeverE := fun _ _ _ _ _ _ h => h.elim
section
variable {X : Cx} {k : Nat} {f : Addr} {fd : FuncData} {ps : List Str} {sp : Sp} {dvs dv1 dv2 : List V} {ds ds1 ds2 : List Value} {fx x cx : Str} {p cpos px apos q cpos2 qx apos2 np hpos pos ipos : Pos} {e e2 c : Expr} {es es2 : List Expr} {t t1 t2 : TA} {tc : TT} {T : Addr} {b0 : Stmt} {suite : List Stmt} {ts : TS} {i : Nat}
end
end L2
namespace L2
open PySem PySem.Spec PyProof.Rows
section
variable {X : Cx}
end
section
variable {B : Bk} {τ : TSt} {ta tb tc : TE} {Φ : TK}
end
end L2
namespace L2
open PySem PySem.Spec PyProof.Rows
section
variable {prog : Program} {w : World} {A : Around} {R : Result → Shared → Prop} {I : Addr} {fp wr : List Addr} {n : Nat} {P : Nat → Value → Prop} {St : Nat → Heap → Prop} {kw : List (Str × Value)}
end
section
variable {X : Cx}
end
end L2
namespace L2
open PySem PySem.Spec PyProof.Rows
theorem turn_long {P : Program} {w : World} {K : Fg} {tg : Expr} (it : Addr) (lo c : Int) (n : Nat) : Turn P w K tg (Itr3 lo c n) [it] it (fun i h => IsLongIter h it (lo + (i : Nat) * c) ((n : Int) - (i : Nat)) c) where
  mem := by simp
  obj := fun i h st b hb => by
    have e : b = it := by simpa using hb
    subst e
    exact ⟨_, st, fun v z => by
      have z' : Data.fields _ = Data.cell v := z
      cases z'⟩
  keep := fun i h h' st k => k it (by simp) _ st
  item := by
    intro X hP hw hK hc i pins s σ H E I hf st hg
    subst hP hw hK
    obtain ⟨f0, f1, f2, f3, f4, f5⟩ := hf it (by simp)
    have W := Walks.longrange (prog := X.prog) (w := X.w) (I.ok.hd hc) it lo c n
    refine W.item i s _ _ hg st fun v h' tk hv st' kk => ?_
    obtain ⟨t, rfl⟩ := hv
    have I1 : Inv X pins σ H { s with heap := h', toks := tk } := I.turned (fun b o hb e => kk b o (by simpa using hb) e) f0 f1 f3 f4 f5
    exact ⟨_, rfl, go_of (s := { s with heap := h', toks := tk }) (n := "longrange_iterator") st' rfl rfl (by decide) ⟨.int (lo + (i : Nat) * c), H, I1, ⟨t, rfl⟩, ⟨rfl, rfl⟩, st', fun b hb => (hf b hb).1⟩⟩
  done := by
    intro X hP hw hK hc i pins s σ H E I hf st hg
    subst hP hw hK
    obtain ⟨f0, f1, f2, f3, f4, f5⟩ := hf it (by simp)
    exact wpAny_pyNext_long_end (I.ok.hd hc) st (by have : n ≤ i := hg; omega) fun h' eb => ⟨rfl, I.turned (t' := s.toks) (fun b o hb e => eb b o hb e) f0 f1 f3 f4 f5⟩
  self := fun _ _ _ _ _ st h => wpAny_pyIter_longiter st h
def iRngL (ta : TA) : TI := fun σ H R => ta σ H fun vs H1 => ∃ i j : Int, vs = [.int i, .int j] ∧ R (Itr3 i 1 (rngN i j 1)) H1
section
variable {X : Cx} {tg : Expr}
theorem range_itL {pins : Pn} {σ : St} {H : Hp} {s : Shared} {R : It → Hp → Prop} {E : Value → Shared → Prop} {lo hi : Int} {t u v : Tok} {tk : Nat} (I : Inv X pins σ H s)
    (q : R (Itr3 lo 1 (rngN lo hi 1)) H) : wpAny (model X.prog X.w) X.A (pyIter (.ref s.heap.objs.size)) (PIE X pins σ tg R) E { s with heap := s.heap.push { cls := .type "range", data := .fields #[.int lo t, .int hi u, .int 1 v] }, toks := tk } := by
  have I1 : Inv X pins σ H { s with heap := s.heap.push { cls := .type "range", data := .fields #[.int lo t, .int hi u, .int 1 v] }, toks := tk } := I.kept fun b o e => Heap.get?_push_of_some _ e
  have e1 : lo + ((0 : Nat) : Int) * 1 = lo := by simp
  have e2 : ((rngN lo hi 1 : Nat) : Int) - ((0 : Nat) : Int) = Builtin.Range.rangeSize lo hi 1 := by
    have := rng_nonneg (i := lo) (j := hi) (show (0 : Int) < 1 by decide)
    unfold rngN
    omega
  cases hsm : Builtin.Range.small lo hi 1 with
  | true =>
    refine wpAny_pyIter_range (IsRange.new ..) hsm ?_
    refine ⟨(s.heap.push { cls := .type "range", data := .fields #[.int lo t, .int hi u, .int 1 v] }).objs.size, [(s.heap.push { cls := .type "range", data := .fields #[.int lo t, .int hi u, .int 1 v] }).objs.size], _, _, H, rfl, I1.kept (t' := tk) fun b o e => Heap.get?_push_of_some _ e, turn_range3 _ lo 1 (rngN lo hi 1), ?_, fun b hb => ?_, q⟩
    · show IsRangeIter _ _ (lo + ((0 : Nat) : Int) * 1) (((rngN lo hi 1 : Nat) : Int) - ((0 : Nat) : Int)) 1
      rw [e1, e2]
      exact Heap.get?_push_size _ rfl
    · have e : b = (s.heap.push { cls := .type "range", data := .fields #[.int lo t, .int hi u, .int 1 v] }).objs.size := by simpa using hb
      subst e
      exact I1.fpOk (Nat.le_refl _) (I1.hok.fresh (Nat.le_refl _))
  | false =>
    refine wpAny_pyIter_longrange (IsRange.new ..) hsm ?_
    refine ⟨(s.heap.push { cls := .type "range", data := .fields #[.int lo t, .int hi u, .int 1 v] }).objs.size, [(s.heap.push { cls := .type "range", data := .fields #[.int lo t, .int hi u, .int 1 v] }).objs.size], _, _, H, rfl, I1.kept (t' := tk) fun b o e => Heap.get?_push_of_some _ e, turn_long _ lo 1 (rngN lo hi 1), ?_, fun b hb => ?_, q⟩
    · show IsLongIter _ _ (lo + ((0 : Nat) : Int) * 1) (((rngN lo hi 1 : Nat) : Int) - ((0 : Nat) : Int)) 1
      rw [e1, e2]
      exact Heap.get?_push_size _ rfl
    · have e : b = (s.heap.push { cls := .type "range", data := .fields #[.int lo t, .int hi u, .int 1 v] }).objs.size := by simpa using hb
      subst e
      exact I1.fpOk (Nat.le_refl _) (I1.hok.fresh (Nat.le_refl _))
theorem pi_rangeL {a b : Expr} {ta : TA} {p pos : Pos} (hg : Gl X "range") (hm : X.mg "range" = none) (ha : PA X [a, b] ta) (hs : starEach [a, b] X.env = [(false, eval a X.env), (false, eval b X.env)] := by rfl) (hs2 : starEach [b] X.env = [(false, eval b X.env)] := by rfl) :
    PI X tg (.Call (.Name "range" p) [a, b] [] pos) (iRngL ta) := by
  intro pins s σ H R I h
  refine Call_ (ld_blt I hg hm boot_range (PyProof.Rows.callWith_type1 (thn (ha pos pins s σ H _ I h) fun us s1 ⟨vs, H1, I1, r1, q1⟩ => ?_) (by rw [hs, hs2]) (by rw [hs2]; rfl)))
  obtain ⟨i, j, e, q⟩ := q1
  subst e
  cases r1 with
  | cons r rr =>
  cases rr with
  | cons r' rr =>
  cases rr
  obtain ⟨t, rfl⟩ := r
  obtain ⟨t', rfl⟩ := r'
  exact call_range_2 (range_itL I1 q)
end
section
variable {B : Bk} {τ : TSt} {ta tb : TE}
theorem i_rngL {Φ : List Tr → TSt → Prop} (h : EV B ta τ fun x τ1 => ∃ i, x = .fz (.int i) ∧ EV B tb τ1 fun y τ2 => ∃ j, y = .fz (.int j) ∧ Φ (stepT i 1 (rngN i j 1)) τ2) : IV B (iRngL (tCons ta (tCons tb tNil))) τ Φ := fun σ F H R r c => by
  refine h σ F H _ r fun v F1 H1 k τ1 f1 r1 ok1 _ h1 => ?_
  obtain ⟨i, rfl, h1⟩ := h1
  cases (show Is B.K F1 v (.int i) from ok1)
  refine h1 σ F1 H1 _ r1 fun v F2 H2 k τ2 f2 r2 ok2 _ h2 => ?_
  obtain ⟨j, rfl, h2⟩ := h2
  cases (show Is B.K F2 v (.int j) from ok2)
  refine ⟨i, j, rfl, c _ F2 H2 _ τ2 (f1.trans f2) r2 (fun σ' τ' F' H' sF rH => ⟨fun m t e => ?_, by rw [stepT_len]; exact Nat.le_refl _⟩) h2⟩
  obtain ⟨hm, rfl⟩ := stepT_at e
  exact ⟨hm, fun x H2 y => by obtain ⟨rfl, rfl⟩ := y; exact ⟨F', Up.refl rH.inc, .int⟩⟩
end
end L2
namespace L2
open PySem PySem.Spec PyProof.Rows
section
variable {X : Cx} {CX : CXT} {k : Nat} {f : Addr} {fd : FuncData} {ps : List Str} {sp : Sp} {E : XK} {x nm : Str} {p pos kp : Pos} {e ke : Expr} {es : List Expr} {te : TE} {t : TA} {g : List Value → List Value → List Value} {gV : List V → List V → List V}
end
def tTryK (i : Nat) (sp : Sp) (gV : List V → List V → List V) (dv2 : List V) (Mt : Addr → Prop) (tc : TT) (t1 : TA) (tk : TE) (t2 : TA) (ts : TS) : TS := fun D σ H => tc σ H fun b H0 =>
  if b = true then t1 σ H0 fun vs H1 => tCons tk tNil σ H1 fun zs H2 => sp (gV vs zs) H2 (fun v H3 => D.nx (σ.set i (some v)) H3) fun cls _ H3 => ∃ C, cls = .ref C ∧ Mt C ∧ ts D σ H3
  else t2 σ H0 fun vs H1 => sp (vs ++ dv2) H1 (fun v H2 => D.nx (σ.set i (some v)) H2) fun cls _ H2 => ∃ C, cls = .ref C ∧ Mt C ∧ ts D σ H2
section
variable {X : Cx} {k : Nat} {f : Addr} {fd : FuncData} {ps : List Str} {sp : Sp} {dvs dv1 dv2 : List V} {ds ds1 ds2 : List Value} {fx x cx : Str} {p cpos px apos q cpos2 qx apos2 np hpos pos ipos : Pos} {e e2 c : Expr} {es es2 : List Expr} {t t1 t2 : TA} {tc : TT} {T : Addr} {b0 : Stmt} {suite : List Stmt} {ts : TS} {i : Nat} {nm : Str} {ke : Expr} {kp : Pos} {tk : TE} {g : List Value → List Value → List Value} {gV : List V → List V → List V}
theorem ps_tryK (F : FnOk X.prog X.w X.K X.mg X.base (CXe X.prog X.w) k f fd ps sp) (hr : Room k X.A) (hg : Gl X fx) (hm : X.mg fx = some (.ref f)) (hk : PySem.W.keepIn X.K (.ref f) = true) (hb1 : KBinds X.K fd ps [nm] g gV) (hb2 : Binds X.K fd ps ds2) (hd2 : Vals dv2 ds2) (h0 : ∀ e s, X.xe e s → False)
    (hst : X.stack = X.env :: X.outer) (hf : X.env.frame = some X.env.locals) (hc : PT X c tc) (ha1 : PA X (e :: es) t1) (hke : PE X ke tk) (ha2 : PA X (e2 :: es2) t2) (hN : X.N.Nodup) (hi : X.N[i]? = some x) (hx : Loc X.env.scope x)
    (hs : ∀ a, PSs (X.marked a) (b0 :: suite) ts) (hdb : (fx == ("__debug__" : Str)) = false := by decide) (he1 : starEach (e :: es) X.env = (false, eval e X.env) :: starEach es X.env := by rfl) (hpl1 : (backTo cpos (starEach (e :: es) X.env)).any (·.1) = false := by rfl) (he2 : starEach (e2 :: es2) X.env = (false, eval e2 X.env) :: starEach es2 X.env := by rfl) (hpl2 : (backTo cpos2 (starEach es2 X.env)).any (·.1) = false := by rfl)
    (hsw1 : swapsWith (.Call (.Name fx p) (e :: es) [⟨some nm, ke, kp⟩] cpos) (some (.Name x px)) apos.line X.env = pure false := by rfl) (hsw2 : swapsWith (.Call (.Name fx q) (e2 :: es2) [] cpos2) (some (.Name x qx)) apos2.line X.env = pure false := by rfl) (hfn : X.fn x = true ∨ X.env.scope.names.lookup x = some .local := by first | exact .inl rfl | exact .inr rfl | assumption) :
    PS X (.Try [.If c [.Assign [.Name x px] (.Call (.Name fx p) (e :: es) [⟨some nm, ke, kp⟩] cpos) apos] [.Assign [.Name x qx] (.Call (.Name fx q) (e2 :: es2) [] cpos2) apos2] ipos] [.ExceptHandler (some (.Name cx np)) none (b0 :: suite) hpos] [] [] pos) (tTryK i sp gV dv2 (fun C => Meets1 X cx T C true) tc t1 tk t2 ts) := by
  intro pins s σ H D I h
  refine wpAny_Try_except ?_
  refine wpAny_execs_cons ?_
  refine wpAny_If (wpAny_mono (hc pins s σ H _ I h) (fun d s0 ⟨H0, I0, q0⟩ => ?_) fun e s z => (h0 e s z).elim)
  cases d with
  | true =>
    rw [if_pos rfl] at q0
    refine wpAny_execs_cons ?_
    refine wpAny_Assign_Name ?_ hsw1
    refine wpAny_Call_Name_kw (ld_glob I0 hg hm ?_ hdb)
    refine PySem.W.callWith_KW (h₀ := X.base) I0.ok.mod.kin hk rfl (wpAny_mono (ha1 cpos pins s0 σ H0 _ I0 q0) (fun us s1 z => ?_) fun e s z => (h0 e s z).elim) (by rw [hpl1]; rfl) he1
    obtain ⟨vs, H1', I1', r, q'⟩ := z
    refine wpAny_mono (pk_cons hke pk_nil cpos pins s1 σ H1' _ I1' q') (fun ws s2 z => ?_) fun e s z => (h0 e s z).elim
    obtain ⟨zs, H1, I1, rz, q⟩ := z
    refine ⟨I1.kIn, ?_⟩
    show wpAny _ _ (call (.ref f) us ([nm].zip ws)) _ _ s2
    have r2 := hb1.rel r rz
    have hl : (g us ws).length = ps.length := by rw [← r2.length]; exact F.len _ _ _ _ q
    refine wpAny_call (codeAny_mono (F.run X.A X.stack s2 H1 ⟨us, [nm].zip ws⟩ (g us ws) (gV vs zs) _ _ hr I1.env0 (hb1.to s2 us ws I1.kIn hl) r2 q) fun rr s' hq => ?_)
    cases rr with
    | error ex => exact caught_ok (ts := ts) I1 hst hf h0 (show CXe X.prog X.w X.stack H1 s2 (fun cls _ H2 => ∃ C, cls = .ref C ∧ Meets1 X cx T C true ∧ ts D σ H2) ex s' from hq) (fun C _ H' z => by
        obtain ⟨C', ec, m, z⟩ := z
        cases ec
        exact ⟨m, z⟩) hs
    | ok fl =>
      cases fl with
      | ret u =>
        obtain ⟨v, H2, I2, rv, q2⟩ := I1.after hq
        refine store_ok I2 hN hi hx rv (fun s2 I3 => ?_) hfn
        exact wpAny_execs_nil (wpAny_execs_nil (wpAny_execs_nil ⟨_, H2, I3, q2⟩))
      | next => exact False.elim hq
      | brk => exact False.elim hq
      | cont => exact False.elim hq
  | false =>
    rw [if_neg Bool.false_ne_true] at q0
    refine wpAny_execs_cons ?_
    refine wpAny_Assign_Name ?_ hsw2
    refine wpAny_Call_Name_kw (ld_glob I0 hg hm ?_ hdb)
    refine PySem.W.callWith_K (h₀ := X.base) I0.ok.mod.kin hk (wpAny_mono (ha2 cpos2 pins s0 σ H0 _ I0 q0) (fun us s1 z => ?_) fun e s z => (h0 e s z).elim) he2 hpl2
    obtain ⟨vs, H1, I1, r, q⟩ := z
    refine ⟨I1.kIn, ?_⟩
    have r2 : Vals (vs ++ dv2) (us ++ ds2) := r.append hd2
    have hl : (us ++ ds2).length = ps.length := by rw [← r2.length]; exact F.len _ _ _ _ q
    refine wpAny_call (codeAny_mono (F.run X.A X.stack s1 H1 ⟨us, []⟩ (us ++ ds2) (vs ++ dv2) _ _ hr I1.env0 (hb2 s1 us I1.kIn hl) r2 q) fun rr s' hq => ?_)
    cases rr with
    | error ex => exact caught_ok (ts := ts) I1 hst hf h0 (show CXe X.prog X.w X.stack H1 s1 (fun cls _ H2 => ∃ C, cls = .ref C ∧ Meets1 X cx T C true ∧ ts D σ H2) ex s' from hq) (fun C _ H' z => by
        obtain ⟨C', ec, m, z⟩ := z
        cases ec
        exact ⟨m, z⟩) hs
    | ok fl =>
      cases fl with
      | ret u =>
        obtain ⟨v, H2, I2, rv, q2⟩ := I1.after hq
        refine store_ok I2 hN hi hx rv (fun s2 I3 => ?_) hfn
        exact wpAny_execs_nil (wpAny_execs_nil (wpAny_execs_nil ⟨_, H2, I3, q2⟩))
      | next => exact False.elim hq
      | brk => exact False.elim hq
      | cont => exact False.elim hq
end
theorem z_tryK {i : Nat} {sp : Sp} {gV : List V → List V → List V} {dv2 : List V} {Mt : Addr → Prop} {tc : TT} {t1 t2 : TA} {tk : TE} {ts : TS} {D : Ends} {σ : St} {H : Hp} (h : tc σ H fun b H0 =>
  if b = true then t1 σ H0 fun vs H1 => tCons tk tNil σ H1 fun zs H2 => sp (gV vs zs) H2 (fun v H3 => D.nx (σ.set i (some v)) H3) fun cls _ H3 => ∃ C, cls = .ref C ∧ Mt C ∧ ts D σ H3
  else t2 σ H0 fun vs H1 => sp (vs ++ dv2) H1 (fun v H2 => D.nx (σ.set i (some v)) H2) fun cls _ H2 => ∃ C, cls = .ref C ∧ Mt C ∧ ts D σ H2) : tTryK i sp gV dv2 Mt tc t1 tk t2 ts D σ H := h
end L2
set_option Elab.async false
set_option linter.all false
set_option maxRecDepth 100000
set_option maxHeartbeats 4000000
namespace MyLaw
open PySem L2
def top (i : Nat) : Stmt := PySem.Challenge.pw_markscale_k27_least_round_step.main.body.getD i (.Pass ⟨0, 0, 0, 0⟩)
abbrev s_is_whole : Stmt := top 6
theorem sc_is_whole : FnScope ["thing"] ["thing"] (defScope s_is_whole) := ⟨rfl, rfl, rfl, by decide +kernel, rfl, by decide +kernel, by decide +kernel⟩
abbrev s_divisor_of : Stmt := top 7
theorem sc_divisor_of : FnScope ["one", "other", "high", "low", "rest"] ["one", "other"] (defScope s_divisor_of) := ⟨rfl, rfl, rfl, by decide +kernel, rfl, by decide +kernel, by decide +kernel⟩
abbrev s_number : Stmt := top 8
theorem sc_number : FnScope ["top", "bottom", "divisor"] ["top", "bottom"] (defScope s_number) := ⟨rfl, rfl, rfl, by decide +kernel, rfl, by decide +kernel, by decide +kernel⟩
abbrev s_plus : Stmt := top 9
theorem sc_plus : FnScope ["one", "other"] ["one", "other"] (defScope s_plus) := ⟨rfl, rfl, rfl, by decide +kernel, rfl, by decide +kernel, by decide +kernel⟩
abbrev s_minus : Stmt := top 10
theorem sc_minus : FnScope ["one", "other"] ["one", "other"] (defScope s_minus) := ⟨rfl, rfl, rfl, by decide +kernel, rfl, by decide +kernel, by decide +kernel⟩
abbrev s_times : Stmt := top 11
theorem sc_times : FnScope ["one", "other"] ["one", "other"] (defScope s_times) := ⟨rfl, rfl, rfl, by decide +kernel, rfl, by decide +kernel, by decide +kernel⟩
abbrev s_over : Stmt := top 12
theorem sc_over : FnScope ["one", "other"] ["one", "other"] (defScope s_over) := ⟨rfl, rfl, rfl, by decide +kernel, rfl, by decide +kernel, by decide +kernel⟩
abbrev s_under : Stmt := top 13
theorem sc_under : FnScope ["one", "other"] ["one", "other"] (defScope s_under) := ⟨rfl, rfl, rfl, by decide +kernel, rfl, by decide +kernel, by decide +kernel⟩
abbrev s_floor_of : Stmt := top 14
theorem sc_floor_of : FnScope ["one"] ["one"] (defScope s_floor_of) := ⟨rfl, rfl, rfl, by decide +kernel, rfl, by decide +kernel, by decide +kernel⟩
abbrev s_rounded : Stmt := top 15
theorem sc_rounded : FnScope ["one"] ["one"] (defScope s_rounded) := ⟨rfl, rfl, rfl, by decide +kernel, rfl, by decide +kernel, by decide +kernel⟩
abbrev s_show_number : Stmt := top 17
theorem sc_show_number : FnScope ["one", "top", "bottom"] ["one"] (defScope s_show_number) := ⟨rfl, rfl, rfl, by decide +kernel, rfl, by decide +kernel, by decide +kernel⟩
abbrev s_comes_before : Stmt := top 32
theorem sc_comes_before : FnScope ["one", "other"] ["one", "other"] (defScope s_comes_before) := ⟨rfl, rfl, rfl, by decide +kernel, rfl, by decide +kernel, by decide +kernel⟩
abbrev s_least_of : Stmt := top 35
theorem sc_least_of : FnScope ["cells", "least", "cell"] ["cells"] (defScope s_least_of) := ⟨rfl, rfl, rfl, by decide +kernel, rfl, by decide +kernel, by decide +kernel⟩
abbrev s_greatest_of : Stmt := top 36
theorem sc_greatest_of : FnScope ["cells", "greatest", "cell"] ["cells"] (defScope s_greatest_of) := ⟨rfl, rfl, rfl, by decide +kernel, rfl, by decide +kernel, by decide +kernel⟩
abbrev s_straight_place : Stmt := top 38
theorem sc_straight_place : FnScope ["one", "lo", "hi", "begin", "end", "part"] ["one", "lo", "hi", "begin", "end"] (defScope s_straight_place) := ⟨rfl, rfl, rfl, by decide +kernel, rfl, by decide +kernel, by decide +kernel⟩
abbrev s_is_within : Stmt := top 39
theorem sc_is_within : FnScope ["one", "lo", "hi"] ["one", "lo", "hi"] (defScope s_is_within) := ⟨rfl, rfl, rfl, by decide +kernel, rfl, by decide +kernel, by decide +kernel⟩
abbrev s_straight_ends : Stmt := top 40
theorem sc_straight_ends : FnScope ["numbers", "lo", "hi"] ["numbers"] (defScope s_straight_ends) := ⟨rfl, rfl, rfl, by decide +kernel, rfl, by decide +kernel, by decide +kernel⟩
abbrev s_power_of : Stmt := top 41
theorem sc_power_of : FnScope ["base", "exponent", "product", "turn"] ["base", "exponent"] (defScope s_power_of) := ⟨rfl, rfl, rfl, by decide +kernel, rfl, by decide +kernel, by decide +kernel⟩
abbrev s_power_below : Stmt := top 42
theorem sc_power_below : FnScope ["base", "one", "top", "bottom", "exponent"] ["base", "one"] (defScope s_power_below) := ⟨rfl, rfl, rfl, by decide +kernel, rfl, by decide +kernel, by decide +kernel⟩
abbrev s_place_on_straight : Stmt := top 43
theorem sc_place_on_straight : FnScope ["scale", "cell"] ["scale", "cell"] (defScope s_place_on_straight) := ⟨rfl, rfl, rfl, by decide +kernel, rfl, by decide +kernel, by decide +kernel⟩
abbrev s_place_on : Stmt := top 48
theorem sc_place_on : FnScope ["scale", "cell"] ["scale", "cell"] (defScope s_place_on) := ⟨rfl, rfl, rfl, by decide +kernel, rfl, by decide +kernel, by decide +kernel⟩
abbrev s_widest_of : Stmt := top 63
theorem sc_widest_of : FnScope ["labels"] ["labels"] (defScope s_widest_of) := ⟨rfl, rfl, rfl, by decide +kernel, rfl, by decide +kernel, by decide +kernel⟩
abbrev s_labels_fit : Stmt := top 64
theorem sc_labels_fit : FnScope ["labels", "gap", "way", "widest"] ["labels", "gap", "way"] (defScope s_labels_fit) := ⟨rfl, rfl, rfl, by decide +kernel, rfl, by decide +kernel, by decide +kernel⟩
abbrev s_with_ticks : Stmt := top 65
theorem sc_with_ticks : FnScope ["scale", "cells", "labels"] ["scale", "cells", "labels"] (defScope s_with_ticks) := ⟨rfl, rfl, rfl, by decide +kernel, rfl, by decide +kernel, by decide +kernel⟩
abbrev s_ceiling_of : Stmt := top 66
theorem sc_ceiling_of : FnScope ["one"] ["one"] (defScope s_ceiling_of) := ⟨rfl, rfl, rfl, by decide +kernel, rfl, by decide +kernel, by decide +kernel⟩
abbrev s_round_steps : Stmt := top 67
theorem sc_round_steps : FnScope ["least", "most", "power", "steps"] ["least", "most"] (defScope s_round_steps) := ⟨rfl, rfl, rfl, by decide +kernel, rfl, by decide +kernel, by decide +kernel⟩
abbrev s_straight_by : Stmt := top 68
theorem sc_straight_by : FnScope ["step", "ends", "length", "way", "first", "last", "gap", "cells", "labels"] ["step", "ends", "length", "way"] (defScope s_straight_by) := ⟨rfl, rfl, rfl, by decide +kernel, rfl, by decide +kernel, by decide +kernel⟩
abbrev s_straight_axis : Stmt := top 69
theorem sc_straight_axis : FnScope ["cells", "length", "way", "nought", "ends", "span", "sizes", "step", "axis"] ["cells", "length", "way", "nought"] (defScope s_straight_axis) := ⟨rfl, rfl, rfl, by decide +kernel, rfl, by decide +kernel, by decide +kernel⟩
abbrev s_axis_for : Stmt := top 82
theorem sc_axis_for : FnScope ["wish", "cells", "length", "way", "nought"] ["wish", "cells", "length", "way", "nought"] (defScope s_axis_for) := ⟨rfl, rfl, rfl, by decide +kernel, rfl, by decide +kernel, by decide +kernel⟩
abbrev s_l_cell_at : Stmt := top 84
theorem sc_l_cell_at : FnScope ["_law_script", "_law_k"] ["_law_script", "_law_k"] (defScope s_l_cell_at) := ⟨rfl, rfl, rfl, by decide +kernel, rfl, by decide +kernel, by decide +kernel⟩
abbrev s_l_source : Stmt := top 85
theorem sc_l_source : FnScope ["_law_script", "_law_k", "_law_cell", "_law_seed"] ["_law_script", "_law_k"] (defScope s_l_source) := ⟨rfl, rfl, rfl, by decide +kernel, rfl, by decide +kernel, by decide +kernel⟩
abbrev s_l_draw : Stmt := top 86
theorem sc_l_draw : FnScope ["_law_source_here", "_law_many", "_law_digit"] ["_law_source_here", "_law_many"] (defScope s_l_draw) := ⟨rfl, rfl, rfl, by decide +kernel, rfl, by decide +kernel, by decide +kernel⟩
abbrev s_l_great : Stmt := top 87
theorem sc_l_great : FnScope ["_law_source_here", "_law_many", "_law_found", "_law_turn"] ["_law_source_here", "_law_many"] (defScope s_l_great) := ⟨rfl, rfl, rfl, by decide +kernel, rfl, by decide +kernel, by decide +kernel⟩
abbrev s_l_low : Stmt := top 88
theorem sc_l_low : FnScope ["_law_top", "_law_bottom", "_law_one", "_law_other"] ["_law_top", "_law_bottom"] (defScope s_l_low) := ⟨rfl, rfl, rfl, by decide +kernel, rfl, by decide +kernel, by decide +kernel⟩
abbrev s_l_text : Stmt := top 89
theorem sc_l_text : FnScope ["_law_one"] ["_law_one"] (defScope s_l_text) := ⟨rfl, rfl, rfl, by decide +kernel, rfl, by decide +kernel, by decide +kernel⟩
abbrev s_l_asked : Stmt := top 90
theorem sc_l_asked : FnScope ["_law_wish", "_law_cells", "_law_length", "_law_way", "_law_beside", "_law_found"] ["_law_wish", "_law_cells", "_law_length", "_law_way", "_law_beside"] (defScope s_l_asked) := ⟨rfl, rfl, rfl, by decide +kernel, rfl, by decide +kernel, by decide +kernel⟩
abbrev s_l_is_axis : Stmt := top 91
theorem sc_l_is_axis : FnScope ["_law_found", "_law_due_here", "_law_tick"] ["_law_found", "_law_due_here"] (defScope s_l_is_axis) := ⟨rfl, rfl, rfl, by decide +kernel, rfl, by decide +kernel, by decide +kernel⟩
abbrev s_l_right : Stmt := top 92
theorem sc_l_right : FnScope ["_law_wish", "_law_cells", "_law_length", "_law_way", "_law_beside", "_law_due_here", "_law_handed", "_law_found"] ["_law_wish", "_law_cells", "_law_length", "_law_way", "_law_beside", "_law_due_here"] (defScope s_l_right) := ⟨rfl, rfl, rfl, by decide +kernel, rfl, by decide +kernel, by decide +kernel⟩
abbrev s_l_numbers : Stmt := top 93
theorem sc_l_numbers : FnScope ["_law_source_here", "_law_most", "_law_bottom", "_law_base", "_law_spread", "_law_many"] ["_law_source_here"] (defScope s_l_numbers) := ⟨rfl, rfl, rfl, by decide +kernel, rfl, by decide +kernel, by decide +kernel⟩
abbrev s_l_under : Stmt := top 94
theorem sc_l_under : FnScope ["_law_one", "_law_other"] ["_law_one", "_law_other"] (defScope s_l_under) := ⟨rfl, rfl, rfl, by decide +kernel, rfl, by decide +kernel, by decide +kernel⟩
abbrev s_l_ends : Stmt := top 95
theorem sc_l_ends : FnScope ["_law_cells", "_law_beside", "_law_some", "_law_lo", "_law_hi", "_law_one"] ["_law_cells", "_law_beside"] (defScope s_l_ends) := ⟨rfl, rfl, rfl, by decide +kernel, rfl, by decide +kernel, by decide +kernel⟩
abbrev s_l_by : Stmt := top 96
theorem sc_l_by : FnScope ["_law_top", "_law_bottom", "_law_ends_here", "_law_length", "_law_way", "_law_first", "_law_last", "_law_many", "_law_cells", "_law_labels", "_law_longest", "_law_ticks", "_law_lo", "_law_hi"] ["_law_top", "_law_bottom", "_law_ends_here", "_law_length", "_law_way"] (defScope s_l_by) := ⟨rfl, rfl, rfl, by decide +kernel, rfl, by decide +kernel, by decide +kernel⟩
abbrev s_l_due : Stmt := top 97
theorem sc_l_due : FnScope ["_law_ends_here", "_law_length", "_law_way", "_law_between", "_law_greats", "_law_top", "_law_bottom", "_law_lo", "_law_hi", "_law_digit", "_law_found"] ["_law_ends_here", "_law_length", "_law_way"] (defScope s_l_due) := ⟨rfl, rfl, rfl, by decide +kernel, rfl, by decide +kernel, by decide +kernel⟩
abbrev s_law : Stmt := top 98
theorem sc_law : FnScope ["_law_script", "_law_k", "_law_source_here", "_law_cells", "_law_beside", "_law_length", "_law_ends_here", "_law_way"] ["_law_script"] (defScope s_law) := ⟨rfl, rfl, rfl, by decide +kernel, rfl, by decide +kernel, by decide +kernel⟩
def kb41 {α : Type} (us ws : List α) : List α := match us, ws with
  | [a, b, c, d], [e] => [a, b, c, d, e]
  | _, _ => []
theorem kb_rel {vs : List V} {us : List Value} {zs : List V} {ws : List Value} (r : Vals vs us) (rz : Vals zs ws) : Vals (kb41 vs zs) (kb41 us ws) := by
  cases r with
  | nil => exact .nil
  | cons a r =>
  cases r with
  | nil => exact .nil
  | cons b r =>
  cases r with
  | nil => exact .nil
  | cons c r =>
  cases r with
  | nil => exact .nil
  | cons d r =>
  cases r with
  | cons _ _ => exact .nil
  | nil =>
  cases rz with
  | nil => exact .nil
  | cons e rz =>
  cases rz with
  | nil => exact .cons a (.cons b (.cons c (.cons d (.cons e .nil))))
  | cons _ _ => exact .nil
theorem kb_five {us ws : List Value} (h : (kb41 us ws).length = 5) : ∃ a b c d e, us = [a, b, c, d] ∧ ws = [e] := by
  match us, ws, h with
  | [a, b, c, d], [e], _ => exact ⟨a, b, c, d, e, rfl, rfl⟩
theorem us_1 {us : List Value} (h : us.length = 1) : ∃ a0, us = [a0] := by
  match us, h with
  | [a0], _ => exact ⟨a0, rfl⟩
theorem us_2 {us : List Value} (h : us.length = 2) : ∃ a0 a1, us = [a0, a1] := by
  match us, h with
  | [a0, a1], _ => exact ⟨a0, a1, rfl⟩
theorem us_3 {us : List Value} (h : us.length = 3) : ∃ a0 a1 a2, us = [a0, a1, a2] := by
  match us, h with
  | [a0, a1, a2], _ => exact ⟨a0, a1, a2, rfl⟩
theorem us_4 {us : List Value} (h : us.length = 4) : ∃ a0 a1 a2 a3, us = [a0, a1, a2, a3] := by
  match us, h with
  | [a0, a1, a2, a3], _ => exact ⟨a0, a1, a2, a3, rfl⟩
theorem us_5 {us : List Value} (h : us.length = 5) : ∃ a0 a1 a2 a3 a4, us = [a0, a1, a2, a3, a4] := by
  match us, h with
  | [a0, a1, a2, a3, a4], _ => exact ⟨a0, a1, a2, a3, a4, rfl⟩
theorem us_6 {us : List Value} (h : us.length = 6) : ∃ a0 a1 a2 a3 a4 a5, us = [a0, a1, a2, a3, a4, a5] := by
  match us, h with
  | [a0, a1, a2, a3, a4, a5], _ => exact ⟨a0, a1, a2, a3, a4, a5, rfl⟩
set_option genInjectivity false in
structure Adr where
  (f_is_whole : Addr) (d_is_whole : FuncData)
  (f_divisor_of : Addr) (d_divisor_of : FuncData)
  (f_number : Addr) (d_number : FuncData)
  (f_plus : Addr) (d_plus : FuncData)
  (f_minus : Addr) (d_minus : FuncData)
  (f_times : Addr) (d_times : FuncData)
  (f_over : Addr) (d_over : FuncData)
  (f_under : Addr) (d_under : FuncData)
  (f_floor_of : Addr) (d_floor_of : FuncData)
  (f_rounded : Addr) (d_rounded : FuncData)
  (f_show_number : Addr) (d_show_number : FuncData)
  (f_comes_before : Addr) (d_comes_before : FuncData)
  (f_least_of : Addr) (d_least_of : FuncData)
  (f_greatest_of : Addr) (d_greatest_of : FuncData)
  (f_straight_place : Addr) (d_straight_place : FuncData)
  (f_is_within : Addr) (d_is_within : FuncData)
  (f_straight_ends : Addr) (d_straight_ends : FuncData)
  (f_power_of : Addr) (d_power_of : FuncData)
  (f_power_below : Addr) (d_power_below : FuncData)
  (f_place_on_straight : Addr) (d_place_on_straight : FuncData)
  (f_place_on : Addr) (d_place_on : FuncData)
  (f_widest_of : Addr) (d_widest_of : FuncData)
  (f_labels_fit : Addr) (d_labels_fit : FuncData)
  (f_with_ticks : Addr) (d_with_ticks : FuncData)
  (f_ceiling_of : Addr) (d_ceiling_of : FuncData)
  (f_round_steps : Addr) (d_round_steps : FuncData)
  (f_straight_by : Addr) (d_straight_by : FuncData)
  (f_straight_axis : Addr) (d_straight_axis : FuncData)
  (f_axis_for : Addr) (d_axis_for : FuncData)
  (f_l_cell_at : Addr) (d_l_cell_at : FuncData)
  (f_l_source : Addr) (d_l_source : FuncData)
  (f_l_draw : Addr) (d_l_draw : FuncData)
  (f_l_great : Addr) (d_l_great : FuncData)
  (f_l_low : Addr) (d_l_low : FuncData)
  (f_l_text : Addr) (d_l_text : FuncData)
  (f_l_asked : Addr) (d_l_asked : FuncData)
  (f_l_is_axis : Addr) (d_l_is_axis : FuncData)
  (f_l_right : Addr) (d_l_right : FuncData)
  (f_l_numbers : Addr) (d_l_numbers : FuncData)
  (f_l_under : Addr) (d_l_under : FuncData)
  (f_l_ends : Addr) (d_l_ends : FuncData)
  (f_l_by : Addr) (d_l_by : FuncData)
  (f_l_due : Addr) (d_l_due : FuncData)
  (f_law : Addr) (d_law : FuncData)
  (c_NoNumber : Addr)
  (c_NoSpace : Addr)
  (g_SIGN_WIDTH : Tok)
  (g_WIDEST_LABEL : Tok)
  (g_LEAST_UPRIGHT : Tok)
  (g_ROOM_BESIDE : Tok)
structure Txt (K : Fg) (mg : Str → Option Value) (t : Adr) : Prop where
  F_is_whole : Fun K "is_whole" "is_whole" s_is_whole t.f_is_whole t.d_is_whole
  m_is_whole : mg "is_whole" = some (.ref t.f_is_whole)
  k_is_whole : PySem.W.keepIn K (.ref t.f_is_whole) = true
  b_is_whole : Binds K t.d_is_whole ["thing"] []
  F_divisor_of : Fun K "divisor_of" "divisor_of" s_divisor_of t.f_divisor_of t.d_divisor_of
  m_divisor_of : mg "divisor_of" = some (.ref t.f_divisor_of)
  k_divisor_of : PySem.W.keepIn K (.ref t.f_divisor_of) = true
  b_divisor_of : Binds K t.d_divisor_of ["one", "other"] []
  F_number : FunD K "number" "number" s_number t.f_number t.d_number
  m_number : mg "number" = some (.ref t.f_number)
  k_number : PySem.W.keepIn K (.ref t.f_number) = true
  b_number : Binds K t.d_number ["top", "bottom"] []
  b_number1 : ∃ ds, Vals [V.int 1] ds ∧ Binds K t.d_number ["top", "bottom"] ds
  F_plus : Fun K "plus" "plus" s_plus t.f_plus t.d_plus
  m_plus : mg "plus" = some (.ref t.f_plus)
  k_plus : PySem.W.keepIn K (.ref t.f_plus) = true
  b_plus : Binds K t.d_plus ["one", "other"] []
  F_minus : Fun K "minus" "minus" s_minus t.f_minus t.d_minus
  m_minus : mg "minus" = some (.ref t.f_minus)
  k_minus : PySem.W.keepIn K (.ref t.f_minus) = true
  b_minus : Binds K t.d_minus ["one", "other"] []
  F_times : Fun K "times" "times" s_times t.f_times t.d_times
  m_times : mg "times" = some (.ref t.f_times)
  k_times : PySem.W.keepIn K (.ref t.f_times) = true
  b_times : Binds K t.d_times ["one", "other"] []
  F_over : Fun K "over" "over" s_over t.f_over t.d_over
  m_over : mg "over" = some (.ref t.f_over)
  k_over : PySem.W.keepIn K (.ref t.f_over) = true
  b_over : Binds K t.d_over ["one", "other"] []
  F_under : Fun K "under" "under" s_under t.f_under t.d_under
  m_under : mg "under" = some (.ref t.f_under)
  k_under : PySem.W.keepIn K (.ref t.f_under) = true
  b_under : Binds K t.d_under ["one", "other"] []
  F_floor_of : Fun K "floor_of" "floor_of" s_floor_of t.f_floor_of t.d_floor_of
  m_floor_of : mg "floor_of" = some (.ref t.f_floor_of)
  k_floor_of : PySem.W.keepIn K (.ref t.f_floor_of) = true
  b_floor_of : Binds K t.d_floor_of ["one"] []
  F_rounded : Fun K "rounded" "rounded" s_rounded t.f_rounded t.d_rounded
  m_rounded : mg "rounded" = some (.ref t.f_rounded)
  k_rounded : PySem.W.keepIn K (.ref t.f_rounded) = true
  b_rounded : Binds K t.d_rounded ["one"] []
  F_show_number : Fun K "show_number" "show_number" s_show_number t.f_show_number t.d_show_number
  m_show_number : mg "show_number" = some (.ref t.f_show_number)
  k_show_number : PySem.W.keepIn K (.ref t.f_show_number) = true
  b_show_number : Binds K t.d_show_number ["one"] []
  F_comes_before : Fun K "comes_before" "comes_before" s_comes_before t.f_comes_before t.d_comes_before
  m_comes_before : mg "comes_before" = some (.ref t.f_comes_before)
  k_comes_before : PySem.W.keepIn K (.ref t.f_comes_before) = true
  b_comes_before : Binds K t.d_comes_before ["one", "other"] []
  F_least_of : Fun K "least_of" "least_of" s_least_of t.f_least_of t.d_least_of
  m_least_of : mg "least_of" = some (.ref t.f_least_of)
  k_least_of : PySem.W.keepIn K (.ref t.f_least_of) = true
  b_least_of : Binds K t.d_least_of ["cells"] []
  F_greatest_of : Fun K "greatest_of" "greatest_of" s_greatest_of t.f_greatest_of t.d_greatest_of
  m_greatest_of : mg "greatest_of" = some (.ref t.f_greatest_of)
  k_greatest_of : PySem.W.keepIn K (.ref t.f_greatest_of) = true
  b_greatest_of : Binds K t.d_greatest_of ["cells"] []
  F_straight_place : Fun K "straight_place" "straight_place" s_straight_place t.f_straight_place t.d_straight_place
  m_straight_place : mg "straight_place" = some (.ref t.f_straight_place)
  k_straight_place : PySem.W.keepIn K (.ref t.f_straight_place) = true
  b_straight_place : Binds K t.d_straight_place ["one", "lo", "hi", "begin", "end"] []
  F_is_within : Fun K "is_within" "is_within" s_is_within t.f_is_within t.d_is_within
  m_is_within : mg "is_within" = some (.ref t.f_is_within)
  k_is_within : PySem.W.keepIn K (.ref t.f_is_within) = true
  b_is_within : Binds K t.d_is_within ["one", "lo", "hi"] []
  F_straight_ends : Fun K "straight_ends" "straight_ends" s_straight_ends t.f_straight_ends t.d_straight_ends
  m_straight_ends : mg "straight_ends" = some (.ref t.f_straight_ends)
  k_straight_ends : PySem.W.keepIn K (.ref t.f_straight_ends) = true
  b_straight_ends : Binds K t.d_straight_ends ["numbers"] []
  F_power_of : Fun K "power_of" "power_of" s_power_of t.f_power_of t.d_power_of
  m_power_of : mg "power_of" = some (.ref t.f_power_of)
  k_power_of : PySem.W.keepIn K (.ref t.f_power_of) = true
  b_power_of : Binds K t.d_power_of ["base", "exponent"] []
  F_power_below : Fun K "power_below" "power_below" s_power_below t.f_power_below t.d_power_below
  m_power_below : mg "power_below" = some (.ref t.f_power_below)
  k_power_below : PySem.W.keepIn K (.ref t.f_power_below) = true
  b_power_below : Binds K t.d_power_below ["base", "one"] []
  F_place_on_straight : Fun K "place_on_straight" "place_on_straight" s_place_on_straight t.f_place_on_straight t.d_place_on_straight
  m_place_on_straight : mg "place_on_straight" = some (.ref t.f_place_on_straight)
  k_place_on_straight : PySem.W.keepIn K (.ref t.f_place_on_straight) = true
  b_place_on_straight : Binds K t.d_place_on_straight ["scale", "cell"] []
  F_place_on : Fun K "place_on" "place_on" s_place_on t.f_place_on t.d_place_on
  m_place_on : mg "place_on" = some (.ref t.f_place_on)
  k_place_on : PySem.W.keepIn K (.ref t.f_place_on) = true
  b_place_on : Binds K t.d_place_on ["scale", "cell"] []
  F_widest_of : Fun K "widest_of" "widest_of" s_widest_of t.f_widest_of t.d_widest_of
  m_widest_of : mg "widest_of" = some (.ref t.f_widest_of)
  k_widest_of : PySem.W.keepIn K (.ref t.f_widest_of) = true
  b_widest_of : Binds K t.d_widest_of ["labels"] []
  F_labels_fit : Fun K "labels_fit" "labels_fit" s_labels_fit t.f_labels_fit t.d_labels_fit
  m_labels_fit : mg "labels_fit" = some (.ref t.f_labels_fit)
  k_labels_fit : PySem.W.keepIn K (.ref t.f_labels_fit) = true
  b_labels_fit : Binds K t.d_labels_fit ["labels", "gap", "way"] []
  F_with_ticks : Fun K "with_ticks" "with_ticks" s_with_ticks t.f_with_ticks t.d_with_ticks
  m_with_ticks : mg "with_ticks" = some (.ref t.f_with_ticks)
  k_with_ticks : PySem.W.keepIn K (.ref t.f_with_ticks) = true
  b_with_ticks : Binds K t.d_with_ticks ["scale", "cells", "labels"] []
  F_ceiling_of : Fun K "ceiling_of" "ceiling_of" s_ceiling_of t.f_ceiling_of t.d_ceiling_of
  m_ceiling_of : mg "ceiling_of" = some (.ref t.f_ceiling_of)
  k_ceiling_of : PySem.W.keepIn K (.ref t.f_ceiling_of) = true
  b_ceiling_of : Binds K t.d_ceiling_of ["one"] []
  F_round_steps : Fun K "round_steps" "round_steps" s_round_steps t.f_round_steps t.d_round_steps
  m_round_steps : mg "round_steps" = some (.ref t.f_round_steps)
  k_round_steps : PySem.W.keepIn K (.ref t.f_round_steps) = true
  b_round_steps : Binds K t.d_round_steps ["least", "most"] []
  F_straight_by : Fun K "straight_by" "straight_by" s_straight_by t.f_straight_by t.d_straight_by
  m_straight_by : mg "straight_by" = some (.ref t.f_straight_by)
  k_straight_by : PySem.W.keepIn K (.ref t.f_straight_by) = true
  b_straight_by : Binds K t.d_straight_by ["step", "ends", "length", "way"] []
  F_straight_axis : Fun K "straight_axis" "straight_axis" s_straight_axis t.f_straight_axis t.d_straight_axis
  m_straight_axis : mg "straight_axis" = some (.ref t.f_straight_axis)
  k_straight_axis : PySem.W.keepIn K (.ref t.f_straight_axis) = true
  b_straight_axis : Binds K t.d_straight_axis ["cells", "length", "way", "nought"] []
  F_axis_for : FunD K "axis_for" "axis_for" s_axis_for t.f_axis_for t.d_axis_for
  m_axis_for : mg "axis_for" = some (.ref t.f_axis_for)
  k_axis_for : PySem.W.keepIn K (.ref t.f_axis_for) = true
  b_axis_for : Binds K t.d_axis_for ["wish", "cells", "length", "way", "nought"] []
  b_axis_for4 : ∃ ds, Vals [V.bl false] ds ∧ Binds K t.d_axis_for ["wish", "cells", "length", "way", "nought"] ds
  kb_axis_for : KBinds K t.d_axis_for ["wish", "cells", "length", "way", "nought"] ["nought"] kb41 kb41
  F_l_cell_at : Fun K "_law_cell_at" "_law_cell_at" s_l_cell_at t.f_l_cell_at t.d_l_cell_at
  m_l_cell_at : mg "_law_cell_at" = some (.ref t.f_l_cell_at)
  k_l_cell_at : PySem.W.keepIn K (.ref t.f_l_cell_at) = true
  b_l_cell_at : Binds K t.d_l_cell_at ["_law_script", "_law_k"] []
  F_l_source : Fun K "_law_source" "_law_source" s_l_source t.f_l_source t.d_l_source
  m_l_source : mg "_law_source" = some (.ref t.f_l_source)
  k_l_source : PySem.W.keepIn K (.ref t.f_l_source) = true
  b_l_source : Binds K t.d_l_source ["_law_script", "_law_k"] []
  F_l_draw : Fun K "_law_draw" "_law_draw" s_l_draw t.f_l_draw t.d_l_draw
  m_l_draw : mg "_law_draw" = some (.ref t.f_l_draw)
  k_l_draw : PySem.W.keepIn K (.ref t.f_l_draw) = true
  b_l_draw : Binds K t.d_l_draw ["_law_source_here", "_law_many"] []
  F_l_great : Fun K "_law_great" "_law_great" s_l_great t.f_l_great t.d_l_great
  m_l_great : mg "_law_great" = some (.ref t.f_l_great)
  k_l_great : PySem.W.keepIn K (.ref t.f_l_great) = true
  b_l_great : Binds K t.d_l_great ["_law_source_here", "_law_many"] []
  F_l_low : Fun K "_law_low" "_law_low" s_l_low t.f_l_low t.d_l_low
  m_l_low : mg "_law_low" = some (.ref t.f_l_low)
  k_l_low : PySem.W.keepIn K (.ref t.f_l_low) = true
  b_l_low : Binds K t.d_l_low ["_law_top", "_law_bottom"] []
  F_l_text : Fun K "_law_text" "_law_text" s_l_text t.f_l_text t.d_l_text
  m_l_text : mg "_law_text" = some (.ref t.f_l_text)
  k_l_text : PySem.W.keepIn K (.ref t.f_l_text) = true
  b_l_text : Binds K t.d_l_text ["_law_one"] []
  F_l_asked : Fun K "_law_asked" "_law_asked" s_l_asked t.f_l_asked t.d_l_asked
  m_l_asked : mg "_law_asked" = some (.ref t.f_l_asked)
  k_l_asked : PySem.W.keepIn K (.ref t.f_l_asked) = true
  b_l_asked : Binds K t.d_l_asked ["_law_wish", "_law_cells", "_law_length", "_law_way", "_law_beside"] []
  F_l_is_axis : Fun K "_law_is_axis" "_law_is_axis" s_l_is_axis t.f_l_is_axis t.d_l_is_axis
  m_l_is_axis : mg "_law_is_axis" = some (.ref t.f_l_is_axis)
  k_l_is_axis : PySem.W.keepIn K (.ref t.f_l_is_axis) = true
  b_l_is_axis : Binds K t.d_l_is_axis ["_law_found", "_law_due_here"] []
  F_l_right : Fun K "_law_right" "_law_right" s_l_right t.f_l_right t.d_l_right
  m_l_right : mg "_law_right" = some (.ref t.f_l_right)
  k_l_right : PySem.W.keepIn K (.ref t.f_l_right) = true
  b_l_right : Binds K t.d_l_right ["_law_wish", "_law_cells", "_law_length", "_law_way", "_law_beside", "_law_due_here"] []
  F_l_numbers : Fun K "_law_numbers" "_law_numbers" s_l_numbers t.f_l_numbers t.d_l_numbers
  m_l_numbers : mg "_law_numbers" = some (.ref t.f_l_numbers)
  k_l_numbers : PySem.W.keepIn K (.ref t.f_l_numbers) = true
  b_l_numbers : Binds K t.d_l_numbers ["_law_source_here"] []
  F_l_under : Fun K "_law_under" "_law_under" s_l_under t.f_l_under t.d_l_under
  m_l_under : mg "_law_under" = some (.ref t.f_l_under)
  k_l_under : PySem.W.keepIn K (.ref t.f_l_under) = true
  b_l_under : Binds K t.d_l_under ["_law_one", "_law_other"] []
  F_l_ends : Fun K "_law_ends" "_law_ends" s_l_ends t.f_l_ends t.d_l_ends
  m_l_ends : mg "_law_ends" = some (.ref t.f_l_ends)
  k_l_ends : PySem.W.keepIn K (.ref t.f_l_ends) = true
  b_l_ends : Binds K t.d_l_ends ["_law_cells", "_law_beside"] []
  F_l_by : Fun K "_law_by" "_law_by" s_l_by t.f_l_by t.d_l_by
  m_l_by : mg "_law_by" = some (.ref t.f_l_by)
  k_l_by : PySem.W.keepIn K (.ref t.f_l_by) = true
  b_l_by : Binds K t.d_l_by ["_law_top", "_law_bottom", "_law_ends_here", "_law_length", "_law_way"] []
  F_l_due : Fun K "_law_due" "_law_due" s_l_due t.f_l_due t.d_l_due
  m_l_due : mg "_law_due" = some (.ref t.f_l_due)
  k_l_due : PySem.W.keepIn K (.ref t.f_l_due) = true
  b_l_due : Binds K t.d_l_due ["_law_ends_here", "_law_length", "_law_way"] []
  F_law : Fun K "law" "law" s_law t.f_law t.d_law
  m_law : mg "law" = some (.ref t.f_law)
  k_law : PySem.W.keepIn K (.ref t.f_law) = true
  b_law : Binds K t.d_law ["_law_script"] []
  m_NoNumber : mg "NoNumber" = some (.ref t.c_NoNumber)
  n_NoNumber : PySem.W.nsIn K mainGlobals "NoNumber" = some (some (.ref t.c_NoNumber))
  x_NoNumber : PySem.W.excIn K t.c_NoNumber bmVE "ValueError.__new__" = true
  e_NoNumber : PySem.W.exmOne K (.ref t.c_NoNumber) (.ref t.c_NoNumber) = some true
  m_NoSpace : mg "NoSpace" = some (.ref t.c_NoSpace)
  n_NoSpace : PySem.W.nsIn K mainGlobals "NoSpace" = some (some (.ref t.c_NoSpace))
  x_NoSpace : PySem.W.excIn K t.c_NoSpace bmVE "ValueError.__new__" = true
  e_NoSpace : PySem.W.exmOne K (.ref t.c_NoSpace) (.ref t.c_NoSpace) = some true
  g_SIGN_WIDTH : mg "SIGN_WIDTH" = some (.int 6 t.g_SIGN_WIDTH)
  g_WIDEST_LABEL : mg "WIDEST_LABEL" = some (.int 60 t.g_WIDEST_LABEL)
  g_LEAST_UPRIGHT : mg "LEAST_UPRIGHT" = some (.int 12 t.g_LEAST_UPRIGHT)
  g_ROOM_BESIDE : mg "ROOM_BESIDE" = some (.int 6 t.g_ROOM_BESIDE)
  z_isinstance : mg "isinstance" = none
  z_int : mg "int" = none
  z_bool : mg "bool" = none
  z_tuple : mg "tuple" = none
  z_str : mg "str" = none
  z_list : mg "list" = none
  z_abs : mg "abs" = none
  z_len : mg "len" = none
  z_range : mg "range" = none
  z_max : mg "max" = none
  z_min : mg "min" = none
  z_zip : mg "zip" = none
theorem at0 {α : Type} (x y : α) : atI [x, y] 0 = some x := rfl
theorem at1 {α : Type} (x y : α) : atI [x, y] 1 = some y := rfl
theorem iteBT {b : Bool} {A B : Prop} (hb : b = true) (h : A) : if b = true then A else B := by
  rw [if_pos hb]; exact h
theorem iteDF {c A B : Prop} [Decidable c] (hc : ¬ c) (h : B) : if decide c = true then A else B := by
  rw [decide_eq_false hc]; exact iteF h
theorem iteDT {c A B : Prop} [Decidable c] (hc : c) (h : A) : if decide c = true then A else B := by
  rw [decide_eq_true hc]; exact iteT h
theorem mid2 : Mid 2 := by unfold Mid My.Bd; decide
theorem midB {n : Int} (h1 : 0 ≤ n) (h2 : n < 1152921504606846976) : Mid n := (show My.Bd 60 n by unfold My.Bd; omega).mono (by decide)
def cellAt (ns : List Int) (k : Int) : Int := ns.getD k.toNat 0
def sp_whole (K : Fg) : Sp := fun vs H Q _ => ∃ x g, vs = [x] ∧ tgIs K H x g ∧ Q (.bl (match g with | .int => true | _ => false)) H
def sp_cell (K : Fg) : Sp := fun vs H Q _ => ∃ (a : Addr) (ns : List Int) (k : Int), vs = [.ref a, .int k] ∧ SqL K H a (ns.map V.int) ∧ 0 ≤ k ∧ Q (.int (cellAt ns k)) H
def sp_law (K : Fg) : Sp := fun vs H Q _ => ∃ (a : Addr) (ns : List Int), vs = [.ref a] ∧ SqL K H a (ns.map V.int) ∧ ns.length ≤ 63 ∧ (∀ x ∈ ns, My.Bd 1048576 x) ∧ ∀ H', Q (.bl true) H'
def sp_gcd : Sp := fun vs H Q _ => ∃ a b : Int, vs = [.int a, .int b] ∧ Q (.int ((Int.gcd a b : Nat) : Int)) H
structure Pr (K : Fg) (H : Hp) (p : Addr) (a b : Int) (n : Nat) : Prop where
  s : SqT K H p [.int a, .int b]
  pos : 0 < b
  ba : My.Bd n a
  bb : My.Bd n b
theorem Pr.ne {K : Fg} {H : Hp} {p : Addr} {a b : Int} {n : Nat} (h : Pr K H p a b n) : b ≠ 0 := Int.ne_of_gt h.pos
def NewQ (K : Fg) (H : Hp) (Q : VK) (n : Nat) (v : Rat) : Prop := ∀ (p : Addr) (H' : Hp) (x y : Int), Same H H' → Pr K H' p x y n → Int.gcd x y = 1 → My.qv x y = v → Q (.ref p) H'
def sp_number (K : Fg) : Sp := fun vs H Q _ => ∃ (t m : Int) (n : Nat), vs = [.int t, .int m] ∧ My.Bd n t ∧ My.Bd n m ∧ n ≤ 3900 ∧ m ≠ 0 ∧ NewQ K H Q n (My.qv t m)
def sp_two (K : Fg) (f : Rat → Rat → Rat) (ok : Int → Prop) : Sp := fun vs H Q _ => ∃ (p r : Addr) (a b c d : Int) (n1 n2 : Nat), vs = [.ref p, .ref r] ∧ Pr K H p a b n1 ∧ Pr K H r c d n2 ∧ n1 + n2 + 1 ≤ 3900 ∧ ok c ∧ NewQ K H Q (n1 + n2 + 1) (f (My.qv a b) (My.qv c d))
def sp_cmp (K : Fg) (f : Int → Int → Int → Int → V) : Sp := fun vs H Q _ => ∃ (p r : Addr) (a b c d : Int) (n1 n2 : Nat), vs = [.ref p, .ref r] ∧ Pr K H p a b n1 ∧ Pr K H r c d n2 ∧ n1 + n2 ≤ 3900 ∧ Q (f a b c d) H
section
variable {P : Program} {w : World} {K : Fg} {mg : Str → Option Value} {base : Heap} {t : Adr}
theorem ok_is_whole (T : Txt K mg t) : FnOk P w K mg base CX0 1 t.f_is_whole t.d_is_whole ["thing"] (sp_whole K) := by
  refine T.F_is_whole.ok sc_is_whole (fun vs H Q E h => ?_) (fun cdv A outer s H vs Q E hr h => ?_)
  · obtain ⟨x, g, rfl, _⟩ := h
    rfl
  obtain ⟨x, g, rfl, hg, q⟩ := h
  refine ⟨_, (pso (ps_ret (pe_and (pe_isi isi_int rfl rfl T.z_isinstance T.z_int bt_int (pv 0)) (pe_one (pe_not (pe_isi isi_bool rfl rfl T.z_isinstance T.z_bool bt_bool (pv 0))))))), ?_⟩
  refine ⟨_, rfl, _, g, rfl, hg, _, rfl, ?_⟩
  cases g with
  | int => exact iteT ⟨_, rfl, _, .int, rfl, hg, _, rfl, q⟩
  | bl => exact iteT ⟨_, rfl, _, .bl, rfl, hg, _, rfl, q⟩
  | non => exact iteF q
  | str => exact iteF q
  | tup => exact iteF q
  | lst => exact iteF q
  | dic => exact iteF q
theorem ok_l_cell_at (T : Txt K mg t) : FnOk P w K mg base CX0 1 t.f_l_cell_at t.d_l_cell_at ["_law_script", "_law_k"] (sp_cell K) := by
  refine T.F_l_cell_at.ok sc_l_cell_at (fun vs H Q E h => ?_) (fun cdv A outer s H vs Q E hr h => ?_)
  · obtain ⟨a, ns, k, rfl, _⟩ := h
    rfl
  obtain ⟨a, ns, k, rfl, hS, h0, q⟩ := h
  refine ⟨_, (psc (ps_if (pt_cmpR op_lt (pv 1) (pe_callB call_len_seq rfl T.z_len PySem.boot_len (pcn (pv 0) pnl)) (nomark _)) (pso (ps_ret (pe_ix ixl (pv 0) (pv 1) (fun _ _ => rfl)))) pss_nil)
  (pso (ps_ret pei))), ?_⟩
  have hl : (ns.map V.int).length = ns.length := List.length_map _
  refine ⟨_, rfl, _, rfl, a, _, rfl, .inl hS, _, _, rfl, rfl, _, rfl, ?_⟩
  refine ite2 (fun c => ?_) (fun c => ?_)
  · have c' : k < (((ns.map V.int).length : Nat) : Int) := of_decide_eq_true c
    rw [hl] at c'
    have hk : k.toNat < ns.length := by omega
    have hv : atI (ns.map V.int) k = some (.int (cellAt ns k)) := by
      have ek : k = ((k.toNat : Nat) : Int) := by omega
      have q : atI (ns.map V.int) ((k.toNat : Nat) : Int) = some (.int (cellAt ns k)) := atI_nat (by
        rw [List.getElem?_map, List.getElem?_eq_getElem hk]
        unfold cellAt
        rw [List.getD_eq_getElem?_getD, List.getElem?_eq_getElem hk] <;> rfl)
      rw [← ek] at q
      exact q
    exact ⟨_, rfl, _, rfl, _, _, _, _, rfl, rfl, hS, hv, q⟩
  · have c' : ¬ k < (((ns.map V.int).length : Nat) : Int) := of_decide_eq_false (Bool.eq_false_iff.mpr c)
    rw [hl] at c'
    have e : cellAt ns k = 0 := by
      unfold cellAt
      rw [List.getD_eq_getElem?_getD, List.getElem?_eq_none (by omega)] <;> rfl
    rw [e] at q
    exact q
theorem gcd_abs (a b : Int) : Int.gcd (if a < 0 then -a else a) (if b < 0 then -b else b) = Int.gcd a b := by
  rw [My.natAbs_abs, My.natAbs_abs]
  rfl
theorem ok_divisor_of (T : Txt K mg t) : FnOk P w K mg base CX0 1 t.f_divisor_of t.d_divisor_of ["one", "other"] sp_gcd := by
  refine T.F_divisor_of.ok sc_divisor_of (fun vs H Q E h => ?_) (fun cdv A outer s H vs Q E hr h => ?_)
  · obtain ⟨a, b, rfl, _⟩ := h
    rfl
  obtain ⟨a, b, rfl, q⟩ := h
  refine ⟨_, (psc (ps_set (i := 2) sc_divisor_of.nd rfl (Or.inl rfl) (pe_callB call_abs rfl T.z_abs bt_abs (pcn (pv 0) pnl)))
  (psc (ps_set (i := 3) sc_divisor_of.nd rfl (Or.inl rfl) (pe_callB call_abs rfl T.z_abs bt_abs (pcn (pv 1) pnl)))
  (psc (ps_while PassesOwn.never (pt_truth (pv 3) (fun _ => rfl)) (psc (ps_set (i := 4) sc_divisor_of.nd rfl (Or.inl rfl) (pe_op op_mod (pv 2) (pv 3)))
  (psc (ps_set (i := 2) sc_divisor_of.nd rfl (Or.inl rfl) (pv 3))
  (pso (ps_set (i := 3) sc_divisor_of.nd rfl (Or.inl rfl) (pv 4))))))
  (pso (ps_ret (pv 2)))))), ?_⟩
  refine ⟨_, rfl, _, rfl, ?_⟩
  refine ⟨_, rfl, _, rfl, ?_⟩
  dsimp only [gName, tSeq]
  refine while_by (fun σ H' => ∃ (x y : Int) (r : Option V), σ = [some (.int a), some (.int b), some (.int x), some (.int y), r] ∧ H' = H ∧ 0 ≤ x ∧ 0 ≤ y ∧ Int.gcd x y = Int.gcd a b)
    (fun σ _ => match σ with | [_, _, _, some (.int y), _] => y.toNat | _ => 0) ⟨_, _, none, rfl, rfl, by split <;> omega, by split <;> omega, gcd_abs a b⟩ ?_ ?_
  · rintro σ H' ⟨x, y, r, rfl, rfl, hx, hy, hg⟩
    refine ⟨_, rfl, _, rfl, ?_⟩
    by_cases h0 : y = 0
    · subst h0
      refine iteF ?_
      have e : x = ((Int.gcd a b : Nat) : Int) := by
        rw [← hg, Int.gcd_zero_right]
        omega
      refine ⟨_, rfl, ?_⟩
      rw [e]
      exact q
    · have hb : (y != 0) = true := by simpa using h0
      refine iteBT hb ?_
      have hp : 0 < y := by omega
      have h1 := Int.emod_nonneg x h0
      have h2 := Int.emod_lt_of_pos x hp
      refine ⟨_, rfl, _, rfl, _, _, rfl, rfl, hp, _, rfl, _, rfl, ⟨y, x % y, _, rfl, rfl, hy, h1, ?_⟩, ?_⟩
      · rw [My.gcd_step, hg]
      · show (x % y).toNat < y.toNat
        omega
  · rintro σ H' Q1 Q2 hi ⟨v, e, k, tr, q'⟩
    exact ⟨v, e, k, tr, hi _ _ q'⟩
theorem ok_number (T : Txt K mg t) : FnOk P w K mg base (CXe P w) 2 t.f_number t.d_number ["top", "bottom"] (sp_number K) := by
  have G_is_whole := ok_is_whole (P := P) (w := w) (base := base) T
  have G_divisor_of := ok_divisor_of (P := P) (w := w) (base := base) T
  refine T.F_number.okE sc_number (fun vs H Q E h => ?_) (fun cdv A outer s H vs Q E hr h => ?_)
  · obtain ⟨a, b, n, rfl, _⟩ := h
    rfl
  obtain ⟨tp, m, n, rfl, bt, bm, hn, h0, hQ⟩ := h
  refine ⟨_, (psc (ps_if (PW.pt (pw_or (pt_not (pt_val (pe_call G_is_whole (hr.mono (by decide)) rfl T.m_is_whole T.k_is_whole T.b_is_whole .nil pass0 (pcn (pv 0) pnl)))) (pw_or1 (pt_not (pt_val (pe_call G_is_whole (hr.mono (by decide)) rfl T.m_is_whole T.k_is_whole T.b_is_whole .nil pass0 (pcn (pv 1) pnl))))))) (pso (ps_raise rfl T.x_NoNumber T.n_NoNumber T.m_NoNumber rfl raisesE (pcn pe_str pnl))) pss_nil)
  (psc (ps_if (pt_cmpR op_eq (pv 1) pei (nomark _)) (pso (ps_raise rfl T.x_NoNumber T.n_NoNumber T.m_NoNumber rfl raisesE (pcn pe_str pnl))) pss_nil)
  (psc (ps_set (i := 2) sc_number.nd rfl (Or.inl rfl) (pe_call G_divisor_of (hr.mono (by decide)) rfl T.m_divisor_of T.k_divisor_of T.b_divisor_of .nil pass0 (pcn (pv 0) (pcn (pv 1) pnl))))
  (psc (ps_if (pt_cmpR op_lt (pv 1) pei (nomark _)) (pso (ps_set (i := 2) sc_number.nd rfl (Or.inl rfl) (pe_un un_neg (pv 2)))) pss_nil)
  (pso (ps_ret (pe_tup (pcn (pe_op op_fdivNB (pv 0) (pv 2)) (pcn (pe_op op_fdivNB (pv 1) (pv 2)) pnl))))))))), ?_⟩
  refine ⟨_, rfl, _, .int, rfl, True.intro, _, rfl, ?_⟩
  refine iteF ?_
  refine ⟨_, rfl, _, .int, rfl, True.intro, _, rfl, ?_⟩
  refine iteF ?_
  refine ⟨_, rfl, rfl, _, rfl, ?_⟩
  refine iteDF (fun z => h0 (V.int.inj z)) ?_
  have M := My.made_of (t := tp) h0
  refine ⟨_, rfl, _, rfl, _, _, rfl, ?_⟩
  refine ⟨_, rfl, _, _, rfl, rfl, _, rfl, ?_⟩
  have hg : 0 < Int.gcd tp m := Int.gcd_pos_of_ne_zero_right tp h0
  have hm : Mid ((Int.gcd tp m : Nat) : Int) := (My.Bd.of_natAbs (x := ((Int.gcd tp m : Nat) : Int)) (y := m) (by
    rw [Int.natAbs_natCast]
    exact Nat.le_of_dvd (by omega) (Nat.gcd_dvd_right tp.natAbs m.natAbs)) bm).mono (by omega)
  by_cases hneg : m < 0
  · refine iteDT hneg ?_
    have e : My.sg tp m = -((Int.gcd tp m : Nat) : Int) := if_pos hneg
    refine ⟨_, rfl, _, rfl, ?_⟩
    refine ⟨_, rfl, _, rfl, _, _, rfl, rfl, ⟨by omega, hm.neg⟩, _, rfl, _, rfl, _, _, rfl, rfl, ⟨by omega, hm.neg⟩, (by show 2 ≤ sizeLine; decide), fun p hp => ?_⟩
    exact hQ p _ _ _ (Same.new hp _) ⟨SqT.of (by rw [e]; exact upd_same), M.pos, My.Bd.of_natAbs M.ba bt, My.Bd.of_natAbs M.bb bm⟩ M.low (My.qv_eq (Int.ne_of_gt M.pos) h0 M.same)
  · refine iteDF hneg ?_
    have e : My.sg tp m = ((Int.gcd tp m : Nat) : Int) := if_neg hneg
    refine ⟨_, rfl, _, rfl, _, _, rfl, rfl, ⟨by omega, hm⟩, _, rfl, _, rfl, _, _, rfl, rfl, ⟨by omega, hm⟩, (by show 2 ≤ sizeLine; decide), fun p hp => ?_⟩
    exact hQ p _ _ _ (Same.new hp _) ⟨SqT.of (by rw [e]; exact upd_same), M.pos, My.Bd.of_natAbs M.ba bt, My.Bd.of_natAbs M.bb bm⟩ M.low (My.qv_eq (Int.ne_of_gt M.pos) h0 M.same)
theorem prod_ne {b d : Int} (hb : 0 < b) (hd : 0 < d) : b * d ≠ 0 := Int.ne_of_gt (Int.mul_pos hb hd)
theorem ok_plus (T : Txt K mg t) : FnOk P w K mg base CX0 3 t.f_plus t.d_plus ["one", "other"] (sp_two K (fun x y => x + y) (fun _ => True)) := by
  have G_number := ok_number (P := P) (w := w) (base := base) T
  refine T.F_plus.ok sc_plus (fun vs H Q E h => ?_) (fun cdv A outer s H vs Q E hr h => ?_)
  · obtain ⟨p, r, a, b, c, d, n1, n2, rfl, _⟩ := h
    rfl
  obtain ⟨p, r, a, b, c, d, n1, n2, rfl, h1, h2, hn, hok, q⟩ := h
  have m1 : Mid a := h1.ba.mono (by omega)
  have m2 : Mid b := h1.bb.mono (by omega)
  have m3 : Mid c := h2.ba.mono (by omega)
  have m4 : Mid d := h2.bb.mono (by omega)
  refine ⟨_, (pso (ps_ret (pe_call G_number (hr.mono (by decide)) rfl T.m_number T.k_number T.b_number .nil passE0 (pcn (pe_op op_add (pe_op op_mulB (pe_ix ixt (pv 0) pei (fun _ _ => rfl)) (pe_ix ixt (pv 1) pei (fun _ _ => rfl))) (pe_op op_mulB (pe_ix ixt (pv 1) pei (fun _ _ => rfl)) (pe_ix ixt (pv 0) pei (fun _ _ => rfl)))) (pcn (pe_op op_mulB (pe_ix ixt (pv 0) pei (fun _ _ => rfl)) (pe_ix ixt (pv 1) pei (fun _ _ => rfl))) pnl))))), ?_⟩
  exact ⟨_, rfl, _, _, _, _, rfl, rfl, h1.s, at0 _ _, _, rfl, _, _, _, _, rfl, rfl, h2.s, at1 _ _, _, _, rfl, rfl, ⟨m1, m4⟩, _, rfl, _, _, _, _, rfl, rfl, h2.s, at0 _ _, _, rfl, _, _, _, _, rfl, rfl, h1.s, at1 _ _, _, _, rfl, rfl, ⟨m3, m2⟩, _, _, rfl, rfl, _, rfl, _, _, _, _, rfl, rfl, h1.s, at1 _ _, _, rfl, _, _, _, _, rfl, rfl, h2.s, at1 _ _, _, _, rfl, rfl, ⟨m2, m4⟩, _, _, n1 + n2 + 1, rfl, ((h1.ba.mul h2.bb).add ((h2.ba.mul h1.bb).mono (by omega))).mono (by omega), (h1.bb.mul h2.bb).mono (by omega), hn, prod_ne h1.pos h2.pos, fun p' H' x y s' P g e => q p' H' x y s' P g (e.trans (My.qv_plus h1.ne h2.ne))⟩
theorem ok_minus (T : Txt K mg t) : FnOk P w K mg base CX0 3 t.f_minus t.d_minus ["one", "other"] (sp_two K (fun x y => x - y) (fun _ => True)) := by
  have G_number := ok_number (P := P) (w := w) (base := base) T
  refine T.F_minus.ok sc_minus (fun vs H Q E h => ?_) (fun cdv A outer s H vs Q E hr h => ?_)
  · obtain ⟨p, r, a, b, c, d, n1, n2, rfl, _⟩ := h
    rfl
  obtain ⟨p, r, a, b, c, d, n1, n2, rfl, h1, h2, hn, hok, q⟩ := h
  have m1 : Mid a := h1.ba.mono (by omega)
  have m2 : Mid b := h1.bb.mono (by omega)
  have m3 : Mid c := h2.ba.mono (by omega)
  have m4 : Mid d := h2.bb.mono (by omega)
  refine ⟨_, (pso (ps_ret (pe_call G_number (hr.mono (by decide)) rfl T.m_number T.k_number T.b_number .nil passE0 (pcn (pe_op op_sub (pe_op op_mulB (pe_ix ixt (pv 0) pei (fun _ _ => rfl)) (pe_ix ixt (pv 1) pei (fun _ _ => rfl))) (pe_op op_mulB (pe_ix ixt (pv 1) pei (fun _ _ => rfl)) (pe_ix ixt (pv 0) pei (fun _ _ => rfl)))) (pcn (pe_op op_mulB (pe_ix ixt (pv 0) pei (fun _ _ => rfl)) (pe_ix ixt (pv 1) pei (fun _ _ => rfl))) pnl))))), ?_⟩
  exact ⟨_, rfl, _, _, _, _, rfl, rfl, h1.s, at0 _ _, _, rfl, _, _, _, _, rfl, rfl, h2.s, at1 _ _, _, _, rfl, rfl, ⟨m1, m4⟩, _, rfl, _, _, _, _, rfl, rfl, h2.s, at0 _ _, _, rfl, _, _, _, _, rfl, rfl, h1.s, at1 _ _, _, _, rfl, rfl, ⟨m3, m2⟩, _, _, rfl, rfl, _, rfl, _, _, _, _, rfl, rfl, h1.s, at1 _ _, _, rfl, _, _, _, _, rfl, rfl, h2.s, at1 _ _, _, _, rfl, rfl, ⟨m2, m4⟩, _, _, n1 + n2 + 1, rfl, ((h1.ba.mul h2.bb).sub ((h2.ba.mul h1.bb).mono (by omega))).mono (by omega), (h1.bb.mul h2.bb).mono (by omega), hn, prod_ne h1.pos h2.pos, fun p' H' x y s' P g e => q p' H' x y s' P g (e.trans (My.qv_minus h1.ne h2.ne))⟩
theorem ok_times (T : Txt K mg t) : FnOk P w K mg base CX0 3 t.f_times t.d_times ["one", "other"] (sp_two K (fun x y => x * y) (fun _ => True)) := by
  have G_number := ok_number (P := P) (w := w) (base := base) T
  refine T.F_times.ok sc_times (fun vs H Q E h => ?_) (fun cdv A outer s H vs Q E hr h => ?_)
  · obtain ⟨p, r, a, b, c, d, n1, n2, rfl, _⟩ := h
    rfl
  obtain ⟨p, r, a, b, c, d, n1, n2, rfl, h1, h2, hn, hok, q⟩ := h
  have m1 : Mid a := h1.ba.mono (by omega)
  have m2 : Mid b := h1.bb.mono (by omega)
  have m3 : Mid c := h2.ba.mono (by omega)
  have m4 : Mid d := h2.bb.mono (by omega)
  refine ⟨_, (pso (ps_ret (pe_call G_number (hr.mono (by decide)) rfl T.m_number T.k_number T.b_number .nil passE0 (pcn (pe_op op_mulB (pe_ix ixt (pv 0) pei (fun _ _ => rfl)) (pe_ix ixt (pv 1) pei (fun _ _ => rfl))) (pcn (pe_op op_mulB (pe_ix ixt (pv 0) pei (fun _ _ => rfl)) (pe_ix ixt (pv 1) pei (fun _ _ => rfl))) pnl))))), ?_⟩
  exact ⟨_, rfl, _, _, _, _, rfl, rfl, h1.s, at0 _ _, _, rfl, _, _, _, _, rfl, rfl, h2.s, at0 _ _, _, _, rfl, rfl, ⟨m1, m3⟩, _, rfl, _, _, _, _, rfl, rfl, h1.s, at1 _ _, _, rfl, _, _, _, _, rfl, rfl, h2.s, at1 _ _, _, _, rfl, rfl, ⟨m2, m4⟩, _, _, n1 + n2 + 1, rfl, (h1.ba.mul h2.ba).mono (by omega), (h1.bb.mul h2.bb).mono (by omega), hn, prod_ne h1.pos h2.pos, fun p' H' x y s' P g e => q p' H' x y s' P g (e.trans (My.qv_times h1.ne h2.ne))⟩
theorem ok_over (T : Txt K mg t) : FnOk P w K mg base CX0 3 t.f_over t.d_over ["one", "other"] (sp_two K (fun x y => x / y) (fun c => c ≠ 0)) := by
  have G_number := ok_number (P := P) (w := w) (base := base) T
  refine T.F_over.ok sc_over (fun vs H Q E h => ?_) (fun cdv A outer s H vs Q E hr h => ?_)
  · obtain ⟨p, r, a, b, c, d, n1, n2, rfl, _⟩ := h
    rfl
  obtain ⟨p, r, a, b, c, d, n1, n2, rfl, h1, h2, hn, hok, q⟩ := h
  have m1 : Mid a := h1.ba.mono (by omega)
  have m2 : Mid b := h1.bb.mono (by omega)
  have m3 : Mid c := h2.ba.mono (by omega)
  have m4 : Mid d := h2.bb.mono (by omega)
  refine ⟨_, (pso (ps_ret (pe_call G_number (hr.mono (by decide)) rfl T.m_number T.k_number T.b_number .nil passE0 (pcn (pe_op op_mulB (pe_ix ixt (pv 0) pei (fun _ _ => rfl)) (pe_ix ixt (pv 1) pei (fun _ _ => rfl))) (pcn (pe_op op_mulB (pe_ix ixt (pv 0) pei (fun _ _ => rfl)) (pe_ix ixt (pv 1) pei (fun _ _ => rfl))) pnl))))), ?_⟩
  exact ⟨_, rfl, _, _, _, _, rfl, rfl, h1.s, at0 _ _, _, rfl, _, _, _, _, rfl, rfl, h2.s, at1 _ _, _, _, rfl, rfl, ⟨m1, m4⟩, _, rfl, _, _, _, _, rfl, rfl, h1.s, at1 _ _, _, rfl, _, _, _, _, rfl, rfl, h2.s, at0 _ _, _, _, rfl, rfl, ⟨m2, m3⟩, _, _, n1 + n2 + 1, rfl, (h1.ba.mul h2.bb).mono (by omega), (h1.bb.mul h2.ba).mono (by omega), hn, Int.mul_ne_zero h1.ne hok, fun p' H' x y s' P g e => q p' H' x y s' P g (e.trans (My.qv_over h1.ne h2.ne hok))⟩
theorem ok_under (T : Txt K mg t) : FnOk P w K mg base CX0 1 t.f_under t.d_under ["one", "other"] (sp_cmp K fun a b c d => .bl (decide (a * d < c * b))) := by
  refine T.F_under.ok sc_under (fun vs H Q E h => ?_) (fun cdv A outer s H vs Q E hr h => ?_)
  · obtain ⟨p, r, a, b, c, d, n1, n2, rfl, _⟩ := h
    rfl
  obtain ⟨p, r, a, b, c, d, n1, n2, rfl, h1, h2, hn, q⟩ := h
  have m1 : Mid a := h1.ba.mono (by omega)
  have m2 : Mid b := h1.bb.mono (by omega)
  have m3 : Mid c := h2.ba.mono (by omega)
  have m4 : Mid d := h2.bb.mono (by omega)
  refine ⟨_, (pso (ps_ret (pe_cmpR op_lt (pe_op op_mulB (pe_ix ixt (pv 0) pei (fun _ _ => rfl)) (pe_ix ixt (pv 1) pei (fun _ _ => rfl))) (pe_op op_mulB (pe_ix ixt (pv 1) pei (fun _ _ => rfl)) (pe_ix ixt (pv 0) pei (fun _ _ => rfl))) (nomark _)))), ?_⟩
  exact ⟨_, rfl, _, _, _, _, rfl, rfl, h1.s, at0 _ _, _, rfl, _, _, _, _, rfl, rfl, h2.s, at1 _ _, _, _, rfl, rfl, ⟨m1, m4⟩, _, rfl, _, _, _, _, rfl, rfl, h2.s, at0 _ _, _, rfl, _, _, _, _, rfl, rfl, h1.s, at1 _ _, _, _, rfl, rfl, ⟨m3, m2⟩, _, _, rfl, rfl, q⟩
end
section
variable {K : Fg} {H : Hp} {Q : VK} {E : XK} {p r : Addr} {a b c d t m : Int} {n1 n2 : Nat} {f : Rat → Rat → Rat} {ok : Int → Prop} {F : Int → Int → Int → Int → V}
end
theorem a_cell {K : Fg} {H : Hp} {Q : VK} {E : XK} {a : Addr} {ns : List Int} {k : Int} (hs : SqL K H a (ns.map V.int)) (h0 : 0 ≤ k) (q : Q (.int (cellAt ns k)) H) : sp_cell K [.ref a, .int k] H Q E := ⟨a, ns, k, rfl, hs, h0, q⟩
local macro_rules | `(tactic| walk_at "get") => `(tactic| repeat (first | exact GetTo.here | apply GetTo.next))
local macro_rules | `(tactic| walk_at "set") => `(tactic| repeat (first | exact SetTo.here | apply SetTo.next))
local macro_rules | `(tactic| walk_at "tp") => `(tactic| first | assumption | exact SqT.of (by assumption) | ((apply Same.tup); (focus assumption); (walk_at "tp")) | ((apply But.tup); (focus assumption); (focus assumption); (walk_at "tp")))
local macro_rules | `(tactic| walk_at "lq") => `(tactic| first | assumption | exact SqL.of (by assumption) | ((apply Same.seq); (focus assumption); (walk_at "lq")) | ((apply But.seq); (focus assumption); (focus assumption); (walk_at "lq")))
local macro_rules | `(tactic| walk_at "hl") => `(tactic| first | assumption | exact (show Same _ _ by assumption) _ _ (by walk_at "hl") | exact (show But _ _ _ by assumption) _ _ (by assumption) (by walk_at "hl"))
local macro_rules | `(tactic| walk_at "sm") => `(tactic| first | assumption | exact Same.refl _ | ((apply sm2); (focus assumption); (walk_at "sm")))
local macro_rules | `(tactic| walk_at "isi") => `(tactic| ((with_reducible refine z_isi0 ?_); first | (with_reducible refine z_isI_int ?_) | (with_reducible refine z_isB_int ?_) | (with_reducible refine z_isS_int ?_) | (with_reducible refine z_isN_int ?_) | (with_reducible refine z_isI_bool ?_) | (with_reducible refine z_isB_bool ?_) | (with_reducible refine z_isS_bool ?_) | (with_reducible refine z_isN_bool ?_) | (with_reducible refine z_isI_str ?_) | (with_reducible refine z_isB_str ?_) | (with_reducible refine z_isS_str ?_) | (with_reducible refine z_isN_str ?_) | (with_reducible refine z_isI_tuple ?_) | (with_reducible refine z_isB_tuple ?_) | (with_reducible refine z_isS_tuple ?_) | (with_reducible refine z_isN_tuple ?_) | (with_reducible refine z_isI_list ?_) | (with_reducible refine z_isB_list ?_) | (with_reducible refine z_isS_list ?_) | (with_reducible refine z_isN_list ?_) | ((with_reducible apply z_isT_int); (focus (walk_at "tp"))) | ((with_reducible apply z_isL_int); (focus (walk_at "lq"))) | ((with_reducible apply z_isT_bool); (focus (walk_at "tp"))) | ((with_reducible apply z_isL_bool); (focus (walk_at "lq"))) | ((with_reducible apply z_isT_str); (focus (walk_at "tp"))) | ((with_reducible apply z_isL_str); (focus (walk_at "lq"))) | ((with_reducible apply z_isT_tuple); (focus (walk_at "tp"))) | ((with_reducible apply z_isL_tuple); (focus (walk_at "lq"))) | ((with_reducible apply z_isT_list); (focus (walk_at "tp"))) | ((with_reducible apply z_isL_list); (focus (walk_at "lq")))))
local macro_rules | `(tactic| walk_at "non") => `(tactic| with_reducible (first | refine z_nonR ?_ | refine z_notR ?_ | refine z_nonN ?_ | refine z_notN ?_ | refine z_nonI ?_ | refine z_notI ?_ | refine z_nonS ?_ | refine z_notS ?_))
local macro_rules | `(tactic| walk_at "z1") => `(tactic| (first | ((with_reducible apply z_var); (focus (walk_at "get"))) | with_reducible (first | refine z_c ?_ | refine z_op ?_ | refine z_I0 ?_ | refine z_asg ?_ | refine z_seq ?_ | refine z_EqI ?_ | refine z_NeI ?_ | refine z_EqS ?_ | refine z_NeS ?_ | refine z_test ?_ | refine z_tB ?_ | refine z_ebl ?_ | refine z_ifs ?_ | refine z_ret ?_ | refine z_cons ?_ | refine z_nil ?_ | refine z_call0 ?_ | refine z_callD ?_ | refine z_un ?_ | refine z_U ?_ | refine z_and ?_ | refine z_or ?_ | refine z_not ?_ | refine z_andV ?_ | refine z_orV ?_ | refine z_notV ?_ | refine z_if ?_ | refine z_chain ?_ | refine z_next ?_ | refine z_drop ?_ | refine z_par ?_ | refine z_cb ?_ | refine z_e1 ?_ | refine z_e2 ?_ | refine z_tup ?_ | refine iteT ?_ | refine iteF ?_ | refine z_iteNb ?_ | refine z_eint ?_ | refine z_gcons ?_ | refine z_gnil ?_ | refine z_sl ?_ | refine z_noP ?_ | refine z_part ?_ | refine z_lst ?_ | refine z_bm ?_ | refine z_for ?_ | refine z_iL ?_ | refine z_iT ?_ | refine z_iR1 ?_ | refine z_iR2 ?_ | refine z_iR3 ?_ | refine z_toI ?_ | refine z_toB ?_ | refine z_whN ?_) | ((with_reducible apply z_name); (focus (walk_at "set"))) | ((with_reducible apply z_par2); (focus (walk_at "set")); (focus (walk_at "set"))) | ((with_reducible apply z_mkt); (focus (exact Nat.le_of_ble_eq_true rfl)); (intro p H' n s e))))
local macro_rules | `(tactic| walk_at "z2") => `(tactic| first | ((with_reducible apply z_I); (focus (walk_at "cd"))) | ((with_reducible apply z_ixT); (focus (walk_at "tp")); (focus rfl)) | walk_at "isi" | walk_at "non" | ((with_reducible apply z_len); (focus (first | exact .inl (by walk_at "lq") | exact .inr (by walk_at "tp")))) | ((with_reducible apply z_gtup); (focus (walk_at "tp")); (focus rfl)) | ((with_reducible apply z_iL2); (focus (walk_at "lq"))) | ((with_reducible apply z_iT2); (focus (walk_at "tp"))) | ((with_reducible apply z_r1c); (focus (first | decide | omega)); (focus (first | decide | omega))) | ((with_reducible apply z_r2c); (focus (first | decide | omega)); (focus (first | decide | omega)); (focus (first | decide | omega)); (focus (first | decide | omega))))
local macro_rules | `(tactic| walk_at "bd") => `(tactic| first | assumption | exact Pr.ba (by assumption) | exact Pr.bb (by assumption) | exact (show My.Bd 64 _ by unfold My.Bd; decide) | ((with_reducible apply bd_mul) <;> (walk_at "bd")) | ((with_reducible apply bd_add) <;> (walk_at "bd")) | ((with_reducible apply bd_sub) <;> (walk_at "bd")) | ((with_reducible apply My.Bd.neg); (walk_at "bd")) | ((with_reducible apply My.Bd.mod); (focus (first | decide | omega | assumption)); (walk_at "bd")) | ((with_reducible apply My.Bd.div); (focus (first | decide | omega | assumption)); (walk_at "bd")) | exact bd_60 (by omega) (by omega) | exact (show My.Bd 256 _ by unfold My.Bd; decide))
local macro_rules | `(tactic| walk_at "mid") => `(tactic| first | assumption | ((apply My.Bd.mono); (focus (walk_at "bd")); (first | decide | omega)))
local macro_rules | `(tactic| walk_at "cd") => `(tactic| first | assumption | exact True.intro | decide | omega | exact ⟨by first | decide | omega, by first | decide | omega⟩ | exact ⟨by decide, by decide, by decide⟩ | exact .inl ⟨by first | decide | omega, by first | decide | omega⟩ | exact .inr ⟨by first | decide | omega, by first | decide | omega⟩ | exact ⟨by walk_at "mid", by walk_at "mid"⟩ | exact ⟨by first | decide | omega | assumption, by walk_at "mid"⟩)
local macro_rules | `(tactic| walk_at "pr") => `(tactic| first | assumption | ((apply Pr.kp); (focus assumption); (walk_at "pr")))
local macro_rules | `(tactic| walk_at "sp") => `(tactic| ((with_reducible apply a_number); (focus (walk_at "bd")); (focus (walk_at "bd")); (focus (first | decide | omega)); (focus (first | decide | omega)); (intro p H' x y s R g e)))
local macro_rules | `(tactic| walk_at "sp") => `(tactic| ((with_reducible apply a_numberD); (focus (walk_at "bd")); (focus (walk_at "bd")); (focus (first | decide | omega)); (focus (first | decide | omega)); (intro p H' x y s R g e)))
local macro_rules | `(tactic| walk_at "sp") => `(tactic| ((with_reducible apply a_two); (focus (walk_at "pr")); (focus (walk_at "pr")); (focus (first | decide | omega)); (focus (first | exact True.intro | assumption)); (intro p H' x y s R g e)))
local macro_rules | `(tactic| walk_at "sp") => `(tactic| ((with_reducible apply a_cmp); (focus (walk_at "pr")); (focus (walk_at "pr")); (focus (first | decide | omega))))
local macro_rules | `(tactic| walk_at "ji") => `(tactic| ((with_reducible apply z_joinI); (focus ((intro S q); (walk_at "run"); (exact q))); (focus ((intro hb S q); (walk_at "run"); (exact q))); (focus (walk_at "get")); (focus (walk_at "set"))))
local macro_rules | `(tactic| walk_at "run") => `(tactic| repeat (first | walk_at "ji" | walk_at "z1" | walk_at "z2" | walk_at "sp"))
local macro_rules | `(tactic| walk_at "bd6") => `(tactic| first | assumption | exact bd_60 (by omega) (by omega))
local macro_rules | `(tactic| walk_at "sp") => `(tactic| ((with_reducible apply a_cell); (focus (walk_at "lq")); (focus (first | decide | omega))))
section
variable {P : Program} {w : World} {K : Fg} {mg : Str → Option Value} {base : Heap} {t : Adr}
theorem atI_first {α : Type} {xs : List α} {x : α} (h : xs[0]? = some x) : atI xs 0 = some x := atI_nat (j := 0) h
theorem atI_last {α : Type} {xs : List α} {x : α} (h : xs[xs.length - 1]? = some x) : atI xs (-1) = some x := by
  have hl : 0 < xs.length := by
    rcases Nat.eq_zero_or_pos xs.length with z | z
    · rw [List.getElem?_eq_none (by omega)] at h; cases h
    · exact z
  unfold atI ixN
  rw [if_neg (by decide), if_pos (by omega)]
  show xs[(-1 + (xs.length : Int)).toNat]? = some x
  rw [show (-1 + (xs.length : Int)).toNat = xs.length - 1 by omega]
  exact h
theorem map_at {α β : Type} {g : α → β} {xs : List α} {j : Nat} {x : α} (h : xs[j]? = some x) : (xs.map g)[j]? = some (g x) := by rw [List.getElem?_map, h]; rfl
theorem of_map_at {α β : Type} {g : α → β} {xs : List α} {j : Nat} {v : β} (h : (xs.map g)[j]? = some v) : ∃ x, xs[j]? = some x ∧ v = g x := by
  rw [List.getElem?_map] at h
  cases q : xs[j]? with
  | none => rw [q] at h; cases h
  | some x => rw [q] at h; exact ⟨x, rfl, (Option.some.inj h).symm⟩
local macro_rules | `(tactic| walk_at "sp") => `(tactic| with_reducible (first | refine z_fv ?_ | refine z_fsn ?_ | refine z_fsc ?_ | refine z_iS ?_ | refine z_iS2 ?_ | refine z_inS ?_ | refine z_tyS ?_ | refine z_starts ?_ | refine z_lcn ?_))
theorem le_size {n : Nat} (h : n ≤ 1000) : n ≤ sizeLine := Nat.le_trans h (by decide)
local macro_rules | `(tactic| walk_at "sp") => `(tactic| ((with_reducible apply a_within); (focus (walk_at "pr")); (focus (walk_at "pr")); (focus (walk_at "pr")); (focus (first | decide | omega)); (focus (first | decide | omega))))
local macro_rules | `(tactic| walk_at "sp") => `(tactic| ((with_reducible apply a_splace); (focus (walk_at "pr")); (focus (walk_at "pr")); (focus (walk_at "pr")); (focus (first | decide | omega)); (focus (walk_at "bd6")); (focus (walk_at "bd6")); (focus (assumption)); (intro p H' x y s R g e)))
local macro_rules | `(tactic| walk_at "sp") => `(tactic| ((with_reducible apply a_sback); (focus (walk_at "pr")); (focus (walk_at "pr")); (focus (walk_at "pr")); (focus (first | decide | omega)); (focus (walk_at "bd6")); (focus (walk_at "bd6")); (focus (omega)); (intro p H' x y s R g e)))
theorem zp_nat (b : Int) (n : Nat) : (b : Rat) ^ (n : Int) = ((b ^ n : Int) : Rat) := by
  induction n with
  | zero => simp
  | succ n ih =>
    by_cases hb : b = 0
    · subst hb
      rw [Int.pow_succ, Int.mul_zero]
      have e : ((0 : Int) : Rat) = 0 := rfl
      rw [e, Rat.zpow_natCast, Rat.pow_succ, Rat.mul_zero]
    · rw [show ((n + 1 : Nat) : Int) = (n : Int) + 1 by omega, Rat.zpow_add_one (My.cast_ne hb), ih, Int.pow_succ, Rat.intCast_mul]
theorem pow_bd {b : Int} (h0 : 2 ≤ b) (h1 : b ≤ 10) : ∀ n : Nat, 0 < b ^ n ∧ My.Bd (4 * n + 1) (b ^ n)
  | 0 => ⟨by simp, by unfold My.Bd; simp⟩
  | n + 1 => by
    obtain ⟨p, q⟩ := pow_bd h0 h1 n
    rw [Int.pow_succ]
    refine ⟨Int.mul_pos p (by omega), ?_⟩
    have hb : My.Bd 4 b := by unfold My.Bd; omega
    exact (q.mul hb).mono (by omega)
def sp_power (K : Fg) : Sp := fun vs H Q _ => ∃ b e : Int, vs = [.int b, .int e] ∧ 2 ≤ b ∧ b ≤ 10 ∧ -900 ≤ e ∧ e ≤ 900 ∧ NewQ K H Q (4 * e.natAbs + 1) ((b : Rat) ^ e)
theorem ok_power_of (T : Txt K mg t) : FnOk P w K mg base CX0 3 t.f_power_of t.d_power_of ["base", "exponent"] (sp_power K) := by
  have G_number := ok_number (P := P) (w := w) (base := base) T
  obtain ⟨ds1, DV_number, BD_number⟩ := T.b_number1
  refine T.F_power_of.ok sc_power_of (fun vs H Q E h => ?_) (fun cdv A outer s H vs Q E hr h => ?_)
  · obtain ⟨b, e, rfl, _⟩ := h
    rfl
  obtain ⟨b, e, rfl, b2, b10, e0, e1, q⟩ := h
  have mb : Mid b := midB (by omega) (by omega)
  refine ⟨_, (psc (ps_set (i := 2) sc_power_of.nd rfl (Or.inl rfl) pei)
  (psc (ps_for PassesOwn.never rfl (pi_range1 rfl T.z_range (pcn (pe_callB call_abs rfl T.z_abs bt_abs (pcn (pv 1) pnl)) pnl)) (pg_name (i := 3) sc_power_of.nd rfl (Or.inl rfl)) (pso (ps_set (i := 2) sc_power_of.nd rfl (Or.inl rfl) (pe_op op_mulB (pv 2) (pv 0)))))
  (pso (ps_ret (pe_ifExp (pt_cmpR op_ge (pv 1) pei (nomark _)) (pe_call G_number (hr.mono (by decide)) rfl T.m_number T.k_number BD_number DV_number passE0 (pcn (pv 2) pnl)) (pe_call G_number (hr.mono (by decide)) rfl T.m_number T.k_number T.b_number .nil passE0 (pcn pei (pcn (pv 2) pnl)))))))), ?_⟩
  refine ⟨_, rfl, _, rfl, _, rfl, by split <;> omega, by split <;> omega, ?_⟩
  have en : (if e < 0 then -e else e).toNat = e.natAbs := by split <;> omega
  rw [en]
  refine for_range (fun i σ H2 => (∃ u, σ = [some (.int b), some (.int e), some (.int (b ^ i)), u]) ∧ H2 = H) ⟨⟨none, by rw [Int.pow_zero]; rfl⟩, rfl⟩ ?_ ?_
  · rintro i σ H2 hi ⟨⟨u, rfl⟩, rfl⟩
    have mp : Mid (b ^ i) := (pow_bd b2 b10 i).2.mono (by omega)
    refine ⟨_, rfl, _, rfl, _, _, rfl, rfl, ⟨mp, mb⟩, ?_⟩
    exact ⟨⟨_, by rw [Int.pow_succ]; rfl⟩, rfl⟩
  · rintro σ H2 ⟨⟨u, rfl⟩, rfl⟩
    obtain ⟨pp, pq⟩ := pow_bd b2 b10 e.natAbs
    refine ⟨_, rfl, _, _, rfl, rfl, _, rfl, ?_⟩
    by_cases hs : e ≥ 0
    · refine iteDT hs ?_
      refine ⟨_, rfl, _, _, 4 * e.natAbs + 1, rfl, pq, (show My.Bd 1 1 by unfold My.Bd; decide).mono (by omega), by omega, by decide, fun p H' x y s' R g v => q p H' x y s' R g (v.trans ?_)⟩
      rw [My.qv_int, ← zp_nat, show ((e.natAbs : Nat) : Int) = e by omega]
    · refine iteDF hs ?_
      refine ⟨_, rfl, _, _, 4 * e.natAbs + 1, rfl, (show My.Bd 1 1 by unfold My.Bd; decide).mono (by omega), pq, by omega, Int.ne_of_gt pp, fun p H' x y s' R g v => q p H' x y s' R g (v.trans ?_)⟩
      unfold My.qv
      rw [← zp_nat, show ((e.natAbs : Nat) : Int) = -e by omega, Rat.zpow_neg]
      grind
def Below (p a b E : Int) : Prop := (0 ≤ E → b * p ^ E.toNat ≤ a ∧ a < b * p ^ (E.toNat + 1)) ∧ (E < 0 → b ≤ a * p ^ (-E).toNat ∧ a * p ^ (-E - 1).toNat < b)
def sp_below (K : Fg) : Sp := fun vs H Q _ => ∃ (pr : Addr) (p a b : Int) (n : Nat), vs = [.int p, .ref pr] ∧ 2 ≤ p ∧ p ≤ 10 ∧ Pr K H pr a b n ∧ 0 < a ∧ n ≤ 800 ∧ ∀ E : Int, Below p a b E → -(n : Int) - 1 ≤ E → E ≤ n → Q (.int E) H
theorem two_pow_le {p : Int} (h : 2 ≤ p) : ∀ n : Nat, (2 : Int) ^ n ≤ p ^ n
  | 0 => by simp
  | n + 1 => by
    have ih := two_pow_le h n
    rw [Int.pow_succ, Int.pow_succ]
    have z : (0 : Int) ≤ 2 ^ n := Int.pow_nonneg (by decide)
    exact Int.mul_le_mul ih h (by decide) (Int.le_trans z ih)
theorem below_len {p a b : Int} {n k : Nat} (h2 : 2 ≤ p) (hb : 0 < b) (ha : My.Bd n a) (h : b * p ^ k ≤ a) : k ≤ n := by
  have e1 := two_pow_le h2 k
  have e0 : (0 : Int) ≤ p ^ k := Int.pow_nonneg (by omega)
  have e2 : p ^ k ≤ b * p ^ k := by
    have := Int.mul_le_mul_of_nonneg_right (show (1 : Int) ≤ b by omega) e0
    rw [Int.one_mul] at this
    exact this
  have e3 : (2 : Int) ^ k ≤ a := by omega
  unfold My.Bd at ha
  rcases Nat.lt_or_ge n k with z | z
  · have m : (2 : Nat) ^ n ≤ 2 ^ k := Nat.pow_le_pow_right (by decide) (by omega)
    have c : ((2 ^ k : Nat) : Int) = (2 : Int) ^ k := by simp
    omega
  · exact z
theorem below_end {p a b : Int} {n k j : Nat} (p2 : 2 ≤ p) (b0 : 0 < b) (a0 : 0 < a) (Ra : My.Bd n a) (Rb : My.Bd n b) (hle : ¬ b * p ^ k * p ≤ a) (hk : k = 0 ∨ b * p ^ k ≤ a) (hj : j = 0 ∨ (k = 0 ∧ a * p ^ (j - 1) < b)) (hlt : ¬ a * p ^ j < b * p ^ k) :
    Below p a b ((k : Int) - (j : Int)) ∧ -(n : Int) - 1 ≤ (k : Int) - (j : Int) ∧ (k : Int) - (j : Int) ≤ n := by
  by_cases j0 : j = 0
  · subst j0
    rw [Int.pow_zero, Int.mul_one] at hlt
    have e : (k : Int) - ((0 : Nat) : Int) = (k : Int) := by omega
    rw [e]
    have l := below_len (k := k) p2 b0 Ra (by omega)
    refine ⟨⟨fun _ => ?_, fun z => absurd z (by omega)⟩, by omega, by omega⟩
    rw [Int.toNat_natCast, Int.pow_succ, ← Int.mul_assoc]
    exact ⟨by omega, by omega⟩
  · rcases hj with z | ⟨k0, z⟩
    · exact absurd z j0
    · subst k0
      rw [Int.pow_zero, Int.mul_one] at hlt
      have l := below_len (k := j - 1) p2 a0 Rb (Int.le_of_lt z)
      refine ⟨⟨fun z => absurd z (by omega), fun _ => ?_⟩, by omega, by omega⟩
      have e1 : (-(((0 : Nat) : Int) - (j : Int))).toNat = j := by omega
      have e2 : (-(((0 : Nat) : Int) - (j : Int)) - 1).toNat = j - 1 := by omega
      rw [e1, e2]
      exact ⟨by omega, z⟩
theorem ok_power_below (T : Txt K mg t) : FnOk P w K mg base CX0 1 t.f_power_below t.d_power_below ["base", "one"] (sp_below K) := by
  refine T.F_power_below.ok sc_power_below (fun vs H Q E h => ?_) (fun cdv A outer s H vs Q E hr h => ?_)
  · obtain ⟨pr, p, a, b, n, rfl, _⟩ := h
    rfl
  obtain ⟨pr, p, a, b, n, rfl, p2, p10, R, a0, hn, q⟩ := h
  have b0 := R.pos
  have mp : Mid p := midB (by omega) (by omega)
  have bp4 : My.Bd 4 p := by unfold My.Bd; omega
  have ma : Mid a := R.ba.mono (by omega)
  refine ⟨_, (psc (ps_set (i := 2) sc_power_below.nd rfl (Or.inl rfl) (pe_ix ixt (pv 1) pei (fun _ _ => rfl)))
  (psc (ps_set (i := 3) sc_power_below.nd rfl (Or.inl rfl) (pe_ix ixt (pv 1) pei (fun _ _ => rfl)))
  (psc (ps_set (i := 4) sc_power_below.nd rfl (Or.inl rfl) pei)
  (psc (ps_while PassesOwn.never (pt_cmpR op_le (pe_op op_mulB (pv 3) (pv 0)) (pv 2) (nomark _)) (psc (ps_set (i := 3) sc_power_below.nd rfl (Or.inl rfl) (pe_op op_mulB (pv 3) (pv 0)))
  (pso (ps_aug (i := 4) sc_power_below.nd rfl (Or.inl rfl) pei ip_add))))
  (psc (ps_while PassesOwn.never (pt_cmpR op_lt (pv 2) (pv 3) (nomark _)) (psc (ps_set (i := 2) sc_power_below.nd rfl (Or.inl rfl) (pe_op op_mulB (pv 2) (pv 0)))
  (pso (ps_aug (i := 4) sc_power_below.nd rfl (Or.inl rfl) pei ip_sub))))
  (pso (ps_ret (pv 4)))))))), ?_⟩
  refine ⟨_, rfl, _, _, _, _, rfl, rfl, R.s, at0 _ _, ?_⟩
  refine ⟨_, rfl, _, _, _, _, rfl, rfl, R.s, at1 _ _, ?_⟩
  dsimp only [gName, tSeq]
  refine while_by (fun σ H' => ∃ k : Nat, σ = [some (.int p), some (.ref pr), some (.int a), some (.int (b * p ^ k)), some (.int (k : Int))] ∧ H' = H ∧ (k = 0 ∨ b * p ^ k ≤ a))
    (fun σ _ => match σ with | [_, _, _, some (.int y), _] => (a + b - y).toNat | _ => 0) ⟨0, by rw [Int.pow_zero, Int.mul_one]; rfl, rfl, .inl rfl⟩ ?_ ?_
  · rintro σ H' ⟨k, rfl, rfl, hk⟩
    have pk := (pow_bd p2 p10 k).1
    have bk0 : 0 < b * p ^ k := Int.mul_pos b0 pk
    have bdk : My.Bd 3000 (b * p ^ k) := by
      rcases hk with z | z
      · subst z
        simp only [Int.pow_zero, Int.mul_one]
        exact R.bb.mono (by omega)
      · exact (My.Bd.of_le R.ba (Int.le_of_lt bk0) z).mono (by omega)
    refine ⟨_, rfl, _, rfl, _, _, rfl, rfl, ⟨bdk.mono (by decide), mp⟩, _, rfl, _, _, rfl, rfl, _, rfl, ?_⟩
    have es : b * p ^ (k + 1) = b * p ^ k * p := by rw [Int.pow_succ, Int.mul_assoc]
    by_cases hle : b * p ^ k * p ≤ a
    · refine iteDT hle ?_
      refine ⟨_, rfl, _, rfl, _, _, rfl, rfl, ⟨bdk.mono (by decide), mp⟩, ?_⟩
      refine ⟨_, rfl, _, _, rfl, rfl, ⟨k + 1, ?_, rfl, .inr (by rw [es]; exact hle)⟩, ?_⟩
      · rw [es]
        rfl
      · show (a + b - b * p ^ k * p).toNat < (a + b - b * p ^ k).toNat
        have z : b * p ^ k * 2 ≤ b * p ^ k * p := Int.mul_le_mul_of_nonneg_left p2 (Int.le_of_lt bk0)
        omega
    · refine iteDF hle ?_
      dsimp only [gName, tSeq]
      refine while_by (fun σ H'' => ∃ j : Nat, σ = [some (.int p), some (.ref pr), some (.int (a * p ^ j)), some (.int (b * p ^ k)), some (.int ((k : Int) - (j : Int)))] ∧ H'' = H' ∧ (j = 0 ∨ (k = 0 ∧ a * p ^ (j - 1) < b)))
        (fun σ _ => match σ with | [_, _, some (.int x), some (.int y), _] => (y - x).toNat | _ => 0) ⟨0, by rw [Int.pow_zero, Int.mul_one]; simp, rfl, .inl rfl⟩ ?_ ?_
      · rintro σ H'' ⟨j, rfl, rfl, hj⟩
        have pj := (pow_bd p2 p10 j).1
        have aj0 : 0 < a * p ^ j := Int.mul_pos a0 pj
        have bdj : My.Bd 3000 (a * p ^ j) := by
          rcases hj with z | ⟨_, z⟩
          · subst z
            simp only [Int.pow_zero, Int.mul_one]
            exact R.ba.mono (by omega)
          · cases j with
            | zero =>
              simp only [Int.pow_zero, Int.mul_one]
              exact R.ba.mono (by omega)
            | succ i =>
              have z : a * p ^ i < b := z
              have pi := (pow_bd p2 p10 i).1
              have w : My.Bd n (a * p ^ i) := My.Bd.of_le R.bb (Int.le_of_lt (Int.mul_pos a0 pi)) (Int.le_of_lt z)
              rw [Int.pow_succ, ← Int.mul_assoc]
              exact (w.mul bp4).mono (by omega)
        refine ⟨_, rfl, _, rfl, _, _, rfl, rfl, _, rfl, ?_⟩
        by_cases hlt : a * p ^ j < b * p ^ k
        · refine iteDT hlt ?_
          have k0 : k = 0 := by
            rcases hk with z | z
            · exact z
            · rcases hj with z2 | z2
              · subst z2
                rw [Int.pow_zero, Int.mul_one] at hlt
                omega
              · exact z2.1
          refine ⟨_, rfl, _, rfl, _, _, rfl, rfl, ⟨bdj.mono (by decide), mp⟩, ?_⟩
          refine ⟨_, rfl, _, _, rfl, rfl, ⟨j + 1, ?_, rfl, .inr ⟨k0, ?_⟩⟩, ?_⟩
          · rw [show a * p ^ (j + 1) = a * p ^ j * p by rw [Int.pow_succ, Int.mul_assoc], show ((j + 1 : Nat) : Int) = (j : Int) + 1 by omega, show (k : Int) - ((j : Int) + 1) = (k : Int) - (j : Int) - 1 by omega]
            rfl
          · subst k0
            rw [Int.pow_zero, Int.mul_one] at hlt
            exact hlt
          · show (b * p ^ k - a * p ^ j * p).toNat < (b * p ^ k - a * p ^ j).toNat
            have z : a * p ^ j * 2 ≤ a * p ^ j * p := Int.mul_le_mul_of_nonneg_left p2 (Int.le_of_lt aj0)
            omega
        · refine iteDF hlt ?_
          obtain ⟨w1, w2, w3⟩ := below_end p2 b0 a0 R.ba R.bb hle hk hj hlt
          exact ⟨_, rfl, q _ w1 w2 w3⟩
      · rintro σ H'' Q1 Q2 hi ⟨v1, e1, v2, e2, i1, j1, e3, e4, kk, ek, q'⟩
        exact ⟨v1, e1, v2, e2, i1, j1, e3, e4, kk, ek, hi _ _ q'⟩
  · rintro σ H' Q1 Q2 hi ⟨v1, e1, v2, e2, i1, j1, e3, e4, hm, v3, e5, i2, j2, e6, e7, kk, ek, q'⟩
    exact ⟨v1, e1, v2, e2, i1, j1, e3, e4, hm, v3, e5, i2, j2, e6, e7, kk, ek, hi _ _ q'⟩
structure Huge (x : Int) : Prop where
  b : My.Bd 3000000 x
theorem Huge.of {n : Nat} {x : Int} (h : My.Bd n x) (hn : n ≤ 3000000) : Huge x := ⟨h.mono hn⟩
open PySem.Spec PyProof.Rows in
theorem op_mulG {X : Cx} : OpR X (binaryOp .Mult) (rI (fun i j => Huge i ∧ Huge j) fun i j => .int (i * j)) := opI fun _ _ _ _ _ _ _ hc q =>
  mul_int q (IntMulOk.of_le (PySem.intBits_le_iff.mpr hc.1.b) (PySem.intBits_le_iff.mpr hc.2.b) (by decide))
theorem hg60 {n : Int} (h1 : -1152921504606846976 < n) (h2 : n < 1152921504606846976) : Huge n := .of (bd_60 h1 h2) (by decide)
structure Src (H : Hp) (r : Addr) (a b : Int) : Prop where
  l : H r = some (.lst [.int a, .int b])
  a0 : 0 ≤ a
  b0 : 0 ≤ b
  b1 : b < 2147483647
def sp_source (K : Fg) : Sp := fun vs H Q _ => ∃ (s : Addr) (ns : List Int) (k : Int), vs = [.ref s, .int k] ∧ SqL K H s (ns.map V.int) ∧ (∀ x ∈ ns, My.Bd 1048576 x) ∧ 0 ≤ k ∧ k ≤ 1000 ∧ ∀ (r : Addr) (H' : Hp) (a b : Int), H r = none → Same H H' → Src H' r a b → Q (.ref r) H'
theorem cell_bd {ns : List Int} (h : ∀ x ∈ ns, My.Bd 1048576 x) (k : Int) : My.Bd 1048576 (cellAt ns k) := by
  unfold cellAt
  rw [List.getD_eq_getElem?_getD]
  cases q : ns[k.toNat]? with
  | none => exact (show My.Bd 64 (0 : Int) by unfold My.Bd; decide).mono (by decide)
  | some x => exact h x (List.mem_of_getElem? q)
theorem ok_l_source (T : Txt K mg t) : FnOk P w K mg base CX0 2 t.f_l_source t.d_l_source ["_law_script", "_law_k"] (sp_source K) := by
  have G_l_cell_at := ok_l_cell_at (P := P) (w := w) (base := base) T
  refine T.F_l_source.ok sc_l_source (fun vs H Q E h => ?_) (fun cdv A outer s H vs Q E hr h => ?_)
  · obtain ⟨s, ns, k, rfl, _⟩ := h
    rfl
  obtain ⟨s, ns, k, rfl, hS, hb, k0, k1, q⟩ := h
  refine ⟨_, (psc (ps_set (i := 2) sc_l_source.nd rfl (Or.inl rfl) (pe_call G_l_cell_at (hr.mono (by decide)) rfl T.m_l_cell_at T.k_l_cell_at T.b_l_cell_at .nil pass0 (pcn (pv 0) (pcn (pv 1) pnl))))
  (psc (ps_set (i := 3) sc_l_source.nd rfl (Or.inl rfl) (pe_op op_mod (pe_op op_mulG (pe_op op_add (pe_op op_add (pe_op op_mod (pv 2) pei) (pe_op op_mulG pei (pv 1))) pei) pei) pei))
  (pso (ps_ret (pe_lst (pcn (pe_op op_mulG (pv 2) (pe_callTy call_int1 rfl T.z_int bt_int (pcn (pe_cmpR op_ge (pv 2) (pe_op op_pow pei pei) (nomark _)) pnl))) (pcn (pe_op op_mod (pe_op op_mulG (pv 3) (pv 3)) pei) pnl))))))), z_go (σ := [some _, some _, none, none]) rfl ?_⟩
  have cb := cell_bd hb k
  walk_at "run"
  generalize cellAt ns k = c at *
  have m1 := Int.emod_nonneg c (show (2147483647 : Int) ≠ 0 by decide)
  have m2 := Int.emod_lt_of_pos c (show (0 : Int) < 2147483647 by decide)
  refine z_I ⟨hg60 (by decide) (by decide), hg60 (by omega) (by omega)⟩ ?_
  walk_at "run"
  refine z_I ⟨hg60 (by omega) (by omega), hg60 (by decide) (by decide)⟩ ?_
  walk_at "run"
  have n1 := Int.emod_nonneg ((c % 2147483647 + 104729 * k + 7) * 48271) (show (2147483629 : Int) ≠ 0 by decide)
  have n2 := Int.emod_lt_of_pos ((c % 2147483647 + 104729 * k + 7) * 48271) (show (0 : Int) < 2147483629 by decide)
  generalize (c % 2147483647 + 104729 * k + 7) * 48271 % 2147483629 = d at *
  refine z_I ⟨.of cb (by decide), hg60 (by split <;> decide) (by split <;> decide)⟩ ?_
  walk_at "run"
  refine z_I ⟨hg60 (by omega) (by omega), hg60 (by omega) (by omega)⟩ ?_
  walk_at "run"
  have o1 := Int.emod_nonneg (d * d) (show (2147483587 : Int) ≠ 0 by decide)
  have o2 := Int.emod_lt_of_pos (d * d) (show (0 : Int) < 2147483587 by decide)
  refine z_mkl (Nat.le_of_ble_eq_true rfl) (fun l H1 hp s1 hl => ?_)
  refine q l H1 _ _ hp s1 ⟨hl, ?_, o1, by omega⟩
  have e18 : (10 : Int) ^ (18 : Int).toNat = 1000000000000000000 := by decide
  rw [e18]
  by_cases h : (1000000000000000000 : Int) ≤ c
  · rw [decide_eq_true h]
    show 0 ≤ c * 1
    omega
  · rw [decide_eq_false h]
    show 0 ≤ c * 0
    omega
def sp_draw : Sp := fun vs H Q _ => ∃ (r : Addr) (a b m : Int), vs = [.ref r, .int m] ∧ Src H r a b ∧ 1 ≤ m ∧ m < 2147483647 ∧ ∀ (d : Int) (H' : Hp) (a' b' : Int), 0 ≤ d → d < m → But r H H' → Src H' r a' b' → Q (.int d) H'
theorem ok_l_draw (T : Txt K mg t) : FnOk P w K mg base CX0 1 t.f_l_draw t.d_l_draw ["_law_source_here", "_law_many"] (sp_draw) := by
  refine T.F_l_draw.ok sc_l_draw (fun vs H Q E h => ?_) (fun cdv A outer s H vs Q E hr h => ?_)
  · obtain ⟨r, a, b, m, rfl, _⟩ := h
    rfl
  obtain ⟨r, a, b, m, rfl, S, m0, m1, q⟩ := h
  refine ⟨_, (psc (ps_if (pt_cmpR op_gt (pe_ix ixl (pv 0) pei (fun _ _ => rfl)) pei (nomark _)) (psc (ps_set (i := 2) sc_l_draw.nd rfl (Or.inl rfl) (pe_op op_mod (pe_ix ixl (pv 0) pei (fun _ _ => rfl)) (pv 1)))
  (psc (ps_asg (pe_op op_fdivB (pe_ix ixl (pv 0) pei (fun _ _ => rfl)) (pv 1)) (pg_sub (pv 0) pei set_list))
  (pso (ps_ret (pv 2))))) pss_nil)
  (psc (ps_asg (pe_op op_mod (pe_op op_add (pe_op op_mulB (pe_ix ixl (pv 0) pei (fun _ _ => rfl)) pei) pei) pei) (pg_sub (pv 0) pei set_list))
  (pso (ps_ret (pe_op op_mod (pe_op op_fdivB (pe_op op_mod (pe_op op_mulB (pe_ix ixl (pv 0) pei (fun _ _ => rfl)) (pe_ix ixl (pv 0) pei (fun _ _ => rfl))) pei) pei) (pv 1)))))), z_go (σ := [some _, some _, none]) rfl ?_⟩
  have hl : SqL K H r [.int a, .int b] := SqL.of S.l
  have a0 := S.a0
  have b0 := S.b0
  have b1 := S.b1
  walk_at "run"
  refine z_ixL hl (at0 _ _) ?_
  walk_at "run"
  refine z_iteD (fun h => ?_) (fun h => ?_)
  · walk_at "run"
    refine z_ixL hl (at0 _ _) ?_
    walk_at "run"
    refine z_ixL hl (at0 _ _) ?_
    walk_at "run"
    refine z_gsub ?_
    walk_at "run"
    refine z_setL S.l rfl (fun H1 b1' l1 => ?_)
    walk_at "run"
    exact q _ _ _ _ (Int.emod_nonneg _ (by omega)) (Int.emod_lt_of_pos _ (by omega)) b1' ⟨l1, Int.ediv_nonneg a0 (by omega), b0, b1⟩
  · walk_at "run"
    refine z_ixL hl (at1 _ _) ?_
    walk_at "run"
    refine z_gsub ?_
    walk_at "run"
    have c1 := Int.emod_nonneg (b * 48271 + 11) (show (2147483647 : Int) ≠ 0 by decide)
    have c2 := Int.emod_lt_of_pos (b * 48271 + 11) (show (0 : Int) < 2147483647 by decide)
    generalize (b * 48271 + 11) % 2147483647 = c at *
    refine z_setL S.l rfl (fun H1 b1' l1 => ?_)
    have hl1 : SqL K H1 r [.int a, .int c] := SqL.of l1
    walk_at "run"
    refine z_ixL hl1 (at1 _ _) ?_
    walk_at "run"
    refine z_ixL hl1 (at1 _ _) ?_
    walk_at "run"
    exact q _ _ _ _ (Int.emod_nonneg _ (by omega)) (Int.emod_lt_of_pos _ (by omega)) b1' ⟨l1, a0, c1, c2⟩
local macro_rules | `(tactic| walk_at "sp") => `(tactic| ((with_reducible apply a_draw); (focus assumption); (focus (first | decide | omega)); (focus (first | decide | omega)); (intro d H' a' b' d0 d1 bt Sr)))
def sp_low (K : Fg) : Sp := fun vs H Q _ => ∃ (tp bt : Int) (n : Nat), vs = [.int tp, .int bt] ∧ 0 < bt ∧ My.Bd n tp ∧ My.Bd n bt ∧ n ≤ 3900 ∧ NewQ K H Q n (My.qv tp bt)
theorem low_ok {tp bt : Int} (hb : 0 < bt) : 0 < bt / ((Int.gcd tp bt : Nat) : Int) ∧ Int.gcd (tp / ((Int.gcd tp bt : Nat) : Int)) (bt / ((Int.gcd tp bt : Nat) : Int)) = 1 ∧ My.qv (tp / ((Int.gcd tp bt : Nat) : Int)) (bt / ((Int.gcd tp bt : Nat) : Int)) = My.qv tp bt := by
  have g0 := My.gcd_pos (a := tp) hb
  have M := My.made_of (t := tp) (m := bt) (by omega)
  have e : My.sg tp bt = ((Int.gcd tp bt : Nat) : Int) := if_neg (by omega)
  have e1 : tp.fdiv (My.sg tp bt) = tp / ((Int.gcd tp bt : Nat) : Int) := by rw [e]; exact Int.fdiv_eq_ediv_of_nonneg _ (by omega)
  have e2 : bt.fdiv (My.sg tp bt) = bt / ((Int.gcd tp bt : Nat) : Int) := by rw [e]; exact Int.fdiv_eq_ediv_of_nonneg _ (by omega)
  rw [e1, e2] at M
  exact ⟨M.pos, M.low, My.qv_eq (Int.ne_of_gt M.pos) (by omega) M.same⟩
theorem ok_l_low (T : Txt K mg t) : FnOk P w K mg base CX0 1 t.f_l_low t.d_l_low ["_law_top", "_law_bottom"] (sp_low K) := by
  refine T.F_l_low.ok sc_l_low (fun vs H Q E h => ?_) (fun cdv A outer s H vs Q E hr h => ?_)
  · obtain ⟨tp, bt, n, rfl, _⟩ := h
    rfl
  obtain ⟨tp, bt, n, rfl, hb, h1, h2, hn, q⟩ := h
  have g0 := My.gcd_pos (a := tp) hb
  have g1 : Mid ((Int.gcd tp bt : Nat) : Int) := (My.Bd.of_le h2 (Int.le_of_lt g0) (My.gcd_le hb)).mono (by omega)
  obtain ⟨r1, r2, r3⟩ := low_ok (tp := tp) hb
  refine ⟨_, (psc (ps_set (i := 2) sc_l_low.nd rfl (Or.inl rfl) (pe_callB call_abs rfl T.z_abs bt_abs (pcn (pv 0) pnl)))
  (psc (ps_set (i := 3) sc_l_low.nd rfl (Or.inl rfl) (pv 1))
  (psc (ps_while PassesOwn.never (pt_cmpR op_gt (pv 3) pei (nomark _)) (pso (ps_par (i := 2) (j := 3) rfl sc_l_low.nd rfl rfl (by decide) rfl rfl (pcn (pv 3) (pcn (pe_op op_mod (pv 2) (pv 3)) pnl)) rfl)))
  (pso (ps_ret (pe_tup (pcn (pe_op op_fdivB (pv 0) (pv 2)) (pcn (pe_op op_fdivB (pv 1) (pv 2)) pnl)))))))), z_go (σ := [some _, some _, none, none]) rfl ?_⟩
  walk_at "run"
  refine z_while (fun m σ H2 => ∃ x y : Int, σ = [some (.int tp), some (.int bt), some (.int x), some (.int y)] ∧ H2 = H ∧ 0 ≤ x ∧ 0 ≤ y ∧ m = y.toNat ∧ Int.gcd x y = Int.gcd tp bt) bt.toNat ⟨_, bt, rfl, rfl, by split <;> omega, Int.le_of_lt hb, rfl, ?_⟩ ?_
  · rw [Int.gcd, My.natAbs_abs]; rfl
  · rintro m σ H2 ⟨x, y, rfl, rfl, x0, y0, rfl, hg⟩
    walk_at "run"
    refine z_iteD (fun h => ?_) (fun h => ?_)
    · have w1 := Int.emod_nonneg x (show y ≠ 0 by omega)
      have w2 := Int.emod_lt_of_pos x (show 0 < y by omega)
      walk_at "run"
      exact ⟨_, _, rfl, (x % y).toNat, by omega, y, x % y, rfl, rfl, y0, w1, rfl, by rw [My.gcd_step, hg]⟩
    · have e : y = 0 := by omega
      subst e
      have ex : x = ((Int.gcd tp bt : Nat) : Int) := by
        rw [← hg, Int.gcd_zero_right]
        omega
      rw [ex]
      walk_at "run"
      rename_i p H3 np s3 e3
      exact q _ _ _ _ s3 ⟨SqT.of e3, r1, h1.div g0, h2.div g0⟩ r2 r3
def lng : List Str → Int
  | [] => 0
  | t :: r => if lng r < (t.length : Int) then (t.length : Int) else lng r
theorem lng_nn : ∀ ts, 0 ≤ lng ts
  | [] => Int.le_refl _
  | t :: r => by
    have := lng_nn r
    unfold lng
    split <;> omega
theorem lng_ge : ∀ (ts : List Str), ∀ t ∈ ts, (t.length : Int) ≤ lng ts
  | x :: r, t, h => by
    unfold lng
    rcases List.mem_cons.mp h with z | z
    · subst z
      split <;> omega
    · have := lng_ge r t z
      split <;> omega
theorem lng_mem : ∀ (ts : List Str), lng ts = 0 ∨ ∃ t ∈ ts, (t.length : Int) = lng ts
  | [] => .inl rfl
  | x :: r => by
    unfold lng
    split
    · exact .inr ⟨x, List.mem_cons_self, rfl⟩
    · rcases lng_mem r with z | ⟨t, h, e⟩
      · exact .inl z
      · exact .inr ⟨t, List.mem_cons_of_mem _ h, e⟩
theorem lng_le {ts : List Str} (h : ∀ t ∈ ts, t.length ≤ 1000) : lng ts ≤ 1000 := by
  rcases lng_mem ts with z | ⟨t, ht, e⟩
  · omega
  · have := h t ht
    omega
theorem max_lng6 {ts : List Str} (h : ts ≠ []) : IsMax (ts.map fun t => 6 * (t.length : Int)) (6 * lng ts) := by
  refine ⟨?_, fun n hn => ?_⟩
  · rcases lng_mem ts with z | ⟨t, ht, e⟩
    · cases ts with
      | nil => exact absurd rfl h
      | cons x r =>
        have := lng_ge (x :: r) x List.mem_cons_self
        exact List.mem_map.mpr ⟨x, List.mem_cons_self, by omega⟩
    · exact List.mem_map.mpr ⟨t, ht, by omega⟩
  · obtain ⟨t, ht, rfl⟩ := List.mem_map.mp hn
    have := lng_ge ts t ht
    omega
structure Lab (K : Fg) (H : Hp) (l : Addr) (ts : List Str) : Prop where
  s : SqL K H l (ts.map V.str)
  n : ts.length ≤ 1000
  t : ∀ t ∈ ts, t.length ≤ 1000
def lenOf6 : V → V
  | .str z => .int (6 * z.length)
  | _ => .non
def sp_widest (K : Fg) : Sp := fun vs H Q _ => ∃ (l : Addr) (ts : List Str), vs = [.ref l] ∧ Lab K H l ts ∧ ∀ H', Same H H' → Q (.int (6 * lng ts)) H'
theorem ok_widest_of (T : Txt K mg t) : FnOk P w K mg base CX0 1 t.f_widest_of t.d_widest_of ["labels"] (sp_widest K) := by
  refine T.F_widest_of.ok sc_widest_of (fun vs H Q E h => ?_) (fun cdv A outer s H vs Q E hr h => ?_)
  · obtain ⟨l, ts, rfl, _⟩ := h
    rfl
  obtain ⟨l, ts, rfl, L, q⟩ := h
  refine ⟨_, (pso (ps_ret (pe_maxD rfl rfl T.z_max (pcn (pe_lc rfl (compOk_of (fr := []) (osc := defScope s_widest_of) (N := ["labels"]) rfl rfl (by decide +kernel)) (pi_list (pv 0)) (fun _ _ _ _ _ => (pe_op op_mulB (pe_glob (v := .int 6) rfl T.g_SIGN_WIDTH ⟨_, rfl⟩) (pe_callB call_len_str rfl T.z_len PySem.boot_len (pcn (pv 0) pnl))))) pnl) (pk_cons pei pk_nil)))), z_go (σ := [some _]) rfl ?_⟩
  have hl := L.s
  have hn := L.n
  walk_at "run"
  refine z_maxD ?_
  walk_at "run"
  refine lcn_list lenOf6 hl (le_size (by rw [List.length_map]; omega)) ?_ ?_
  · intro x H2 S hx s2 k
    obtain ⟨z, hz, rfl⟩ := List.mem_map.mp hx
    walk_at "run"
    refine ⟨z, rfl, Nat.le_trans (L.t z hz) (by decide), ?_⟩
    have := L.t z hz
    walk_at "run"
    exact k _ (Same.refl _)
  · intro acc H2 hacc s2 ha
    walk_at "run"
    have e : (ts.map V.str).map lenOf6 = (ts.map fun t => 6 * (t.length : Int)).map V.int := by
      rw [List.map_map, List.map_map]; rfl
    rw [e] at ha
    refine ⟨acc, _, _, rfl, rfl, SqL.of ha, ?_⟩
    by_cases z : ts = []
    · subst z
      exact .inl ⟨rfl, q _ s2⟩
    · exact .inr ⟨_, max_lng6 z, q _ s2⟩
local macro_rules | `(tactic| walk_at "tg") => `(tactic| repeat (first | exact Gt.here | apply Gt.next))
local macro_rules | `(tactic| walk_at "ts") => `(tactic| repeat (first | exact Sto.here | apply Sto.next))
local macro_rules | `(tactic| walk_at "rk") => `(tactic| first | exact Rk.fz | ((with_reducible apply Rk.own); (focus ((walk_at "tg"); done))) | ((with_reducible apply Rk.sfz); (focus ((walk_at "tg"); done))) | ((with_reducible apply Rk.vw); (focus ((walk_at "tg"); done))))
local macro_rules | `(tactic| walk_at "tvar") => `(tactic| first | ((with_reducible apply e_var); (focus ((walk_at "tg"); done))) | ((with_reducible apply e_varO); (focus ((walk_at "tg"); done))) | ((with_reducible apply e_varV); (focus ((walk_at "tg"); done))) | ((with_reducible apply e_varW); (focus ((walk_at "tg"); done))))
local macro_rules | `(tactic| walk_at "t1I") => `(tactic| first | walk_at "tvar" | with_reducible (first | refine p_fz ?_ | refine p_nw ?_ | refine p_sl ?_ | refine as_fz ?_ | refine as_nw ?_ | refine aa_fz ?_ | refine aa_nw ?_ | refine aa_wd ?_ | refine e_cI ?_ | refine e_cB ?_ | refine e_cN ?_ | refine e_cS ?_ | refine e_cT ?_ | refine e_cb1 ?_ | refine e_cb2 ?_ | refine e_un ?_ | refine e_andV ?_ | refine e_orV ?_ | refine e_notV ?_ | refine e_if ?_ | refine e_chain ?_ | refine t_test ?_ | refine t_B ?_ | refine t_ebl ?_ | refine t_and ?_ | refine t_or ?_ | refine t_not ?_ | refine t_eint ?_ | refine t_lst ?_ | refine t_tup ?_ | refine a_nil ?_ | refine a_cons ?_ | refine a_ints ?_ | refine w_nil ?_ | refine w_cons ?_ | refine e_tup ?_ | refine e_lst ?_ | refine e_sl ?_ | refine o_no ?_ | refine o_part ?_ | refine s_seq ?_ | refine s_next ?_ | refine s_drop ?_ | refine s_ret ?_ | refine s_asg ?_ | refine s_par ?_ | refine s_for ?_ | refine s_setlc ?_ | refine t_yes ?_ | refine i_rng1 ?_ | refine i_rng2 ?_ | refine iteT ?_ | refine iteF ?_ | refine z_iteNb ?_ | refine gs_nil ?_ | refine gs_cons ?_ | refine rt_fz ?_) | ((with_reducible apply as_own); (focus ((walk_at "tg"); done)); (focus ((walk_at "ts"); done))) | ((with_reducible apply as_sfz); (focus ((walk_at "tg"); done))) | ((with_reducible apply aa_own); (focus ((walk_at "tg"); done)); (focus ((walk_at "ts"); done))) | ((with_reducible apply aa_sfz); (focus ((walk_at "tg"); done))) | ((with_reducible apply g_fz); (focus ((walk_at "ts"); done))) | ((with_reducible apply g_nw); (focus ((walk_at "ts"); done))) | ((with_reducible apply g_sl); (focus ((walk_at "tg"); done)); (focus ((walk_at "ts"); done)); (focus ((walk_at "ts"); done))) | ((with_reducible apply sto2); (focus ((walk_at "ts"); done))) | ((with_reducible apply par2); (focus ((walk_at "ts"); done)); (focus ((walk_at "ts"); done))) | ((with_reducible apply t_len); (focus (exact Nat.le_of_ble_eq_true rfl))) | ((with_reducible apply i_list); (focus rfl)) | ((with_reducible apply i_tup); (focus rfl)) | ((with_reducible apply i_enum); (focus rfl)) | ((with_reducible apply e_bm); (focus rfl)) | ((with_reducible apply e_bm0); (focus rfl)) | ((with_reducible apply g_tup); (focus rfl); (focus rfl)) | ((with_reducible apply e_isiTL); (focus rfl)))
local macro_rules | `(tactic| walk_at "t1") => `(tactic| first | walk_at "t1I" | (with_reducible refine s_ifs ?_))
local macro_rules | `(tactic| walk_at "t2") => `(tactic| first | ((with_reducible apply e_repLit); (focus decide); (focus decide)) | (with_reducible refine e_op ?_) | ((with_reducible apply ro_I); (focus (walk_at "cd"))) | ((with_reducible apply ro_IB); (focus (walk_at "cd"))) | with_reducible (first | refine ro_I0 ?_ | refine ro_I0B ?_ | refine ru_U ?_ | refine ro_EqI ?_ | refine ro_NeI ?_ | refine ro_EqS ?_ | refine ro_NeS ?_ | refine ro_EqB ?_ | refine ro_NeB ?_ | refine ro_isB ?_ | refine ro_notB ?_ | refine ru_abs ?_ | refine ru_toI ?_ | refine ru_toB ?_ | refine ro_max2 ?_ | refine ro_min2 ?_ | refine ru_lenK ?_) | ((with_reducible apply ro_isNT); (focus rfl)) | ((with_reducible apply ro_isNF); (focus rfl)) | ((with_reducible apply ro_notNT); (focus rfl)) | ((with_reducible apply ro_notNF); (focus rfl)) | ((with_reducible apply ro_ixL); (focus rfl); (focus (walk_at "rk")); (focus rfl)) | ((with_reducible apply ro_ixT); (focus rfl); (focus (walk_at "rk")); (focus rfl)) | ((with_reducible apply ru_len); (focus rfl); (focus (walk_at "rk"))) | ((with_reducible apply ru_lenT); (focus rfl); (focus (walk_at "rk"))) | ((with_reducible apply ro_isiT); (focus rfl); (focus rfl); (focus rfl)) | ((with_reducible apply ro_isiF); (focus rfl); (focus rfl); (focus rfl)) | ((with_reducible apply t_efzT); (focus rfl); (focus rfl)) | ((with_reducible apply t_efzF); (focus rfl); (focus rfl)) | ((with_reducible apply ru_list); (focus rfl); (focus (walk_at "rk"))) | ((with_reducible apply ru_listT); (focus rfl); (focus (walk_at "rk"))) | ((with_reducible apply ru_tup); (focus rfl); (focus (walk_at "rk"))) | ((with_reducible apply rs_L); (focus rfl); (focus (walk_at "rk"))) | ((with_reducible apply ty_list); (focus (walk_at "rk"))) | (with_reducible refine ty_str ?_) | ((with_reducible apply rm_append); (focus ((walk_at "tg"); done)); (focus (walk_at "tl")); (focus ((walk_at "ts"); done))) | ((with_reducible apply rm_clear); (focus ((walk_at "tg"); done)); (focus ((walk_at "ts"); done))) | ((with_reducible apply rm_reverse); (focus ((walk_at "tg"); done)); (focus ((walk_at "ts"); done))) | ((with_reducible apply e_call); (focus rfl)) | ((with_reducible apply e_callD0); (focus rfl)))
local macro_rules | `(tactic| walk_at "tl") => `(tactic| first | (exact Nat.le_of_ble_eq_true rfl) | omega | (simp; omega))
local macro_rules | `(tactic| walk_at "trun") => `(tactic| repeat (first | walk_at "t1" | walk_at "t2" | walk_at "tsp"))
local macro_rules | `(tactic| walk_at "tsp") => `(tactic| fail)
local macro_rules | `(tactic| walk_at "trunI") => `(tactic| repeat (first | walk_at "t1I" | walk_at "t2" | walk_at "tsp"))
def OkS (vs : List V) : Prop := ∃ a b : Int, vs = [.int a, .int b] ∧ 0 ≤ a ∧ 0 ≤ b ∧ b < 2147483647
def SrcJ (H : Hp) (r : Addr) : Prop := ∃ vs, H r = some (.lst vs) ∧ OkS vs
structure SrcB (B : Bk) : Prop where
  j : ∀ H, B.J H ↔ SrcJ H B.rt
  w : ∀ q, B.W q ↔ q = B.rt
theorem SrcB.now {B : Bk} {F H : Hp} (h : SrcB B) : SrcB (B.now F H) := ⟨h.j, h.w⟩
theorem srcj_src {H : Hp} {r : Addr} (h : SrcJ H r) : ∃ a b, Src H r a b := by
  obtain ⟨vs, e, a, b, rfl, h1, h2, h3⟩ := h
  exact ⟨a, b, e, h1, h2, h3⟩
theorem src_srcj {H : Hp} {r : Addr} {a b : Int} (h : Src H r a b) : SrcJ H r := ⟨_, h.l, a, b, rfl, h.a0, h.b0, h.b1⟩
def st_draw : SpT := fun B as Φ _ => ∃ m : Int, as = [.wd, .fz (.int m)] ∧ SrcB B ∧ 1 ≤ m ∧ m < 2147483647 ∧ ∀ d, 0 ≤ d → d < m → Φ (.fz (.int d))
theorem okT_l_draw (T : Txt K mg t) : FnOk P w K mg base CX0 1 t.f_l_draw t.d_l_draw ["_law_source_here", "_law_many"] (toSp K st_draw) := by
  refine (ok_l_draw (P := P) (w := w) (base := base) T).imp fun vs H Q E h => ?_
  obtain ⟨B, as, Φ, Ψ, rfl, rfl, bk, la, ⟨m, rfl, hs, m0, m1, φ⟩, q, _⟩ := h
  cases la with
  | cons a1 l1 =>
    cases l1 with
    | cons a2 l2 =>
      cases l2
      cases (show _ = V.ref B.rt from a1)
      cases (show Is B.K B.F0 _ (.int m) from a2)
      obtain ⟨a, b, S⟩ := srcj_src ((hs.j _).mp bk.wj)
      refine ⟨B.rt, a, b, m, rfl, S, m0, m1, fun d H' a' b' d0 d1 bt Sr => q (.int d) B.F0 H' (.fz (.int d)) ?_ .int (φ d d0 d1)⟩
      have nr : ∀ p, ¬ B.W p → p ≠ B.rt := fun p h e => h ((hs.w p).mpr e)
      exact {
        f := Same.refl _
        h := fun p o nw e => bt p o (nr p nw) e
        i := fun p o e => bt p o (fun z => by
          have := bk.wf p ((hs.w p).mpr z)
          rw [this] at e; cases e) (bk.i p o e)
        m := fun _ _ _ _ z => z
        w := fun p z => by
          by_cases e : p = B.rt
          · rw [e, Sr.l] at z; cases z
          · cases q : B.H0 p with
            | none => rfl
            | some o => rw [bt p o e q] at z; cases z
        x := fun _ _ z => z
        j := fun _ => (hs.j _).mpr (src_srcj Sr) }
theorem a_drawT {B : Bk} {m : Int} {Φ : Kd → Prop} {Ψ : Addr → Prop} (hs : SrcB B) (h1 : 1 ≤ m) (h2 : m < 2147483647) (q : ∀ d, 0 ≤ d → d < m → Φ (.fz (.int d))) : st_draw B [.wd, .fz (.int m)] Φ Ψ := ⟨m, rfl, hs, h1, h2, q⟩
def st_great : SpT := fun B as Φ _ => ∃ m : Int, as = [.wd, .fz (.int m)] ∧ SrcB B ∧ 1 ≤ m ∧ ∀ d, 0 ≤ d → d < m → Φ (.fz (.int d))
theorem okT_l_great (T : Txt K mg t) : FnOk P w K mg base CX0 2 t.f_l_great t.d_l_great ["_law_source_here", "_law_many"] (toSp K st_great) := by
  have G_l_draw := okT_l_draw (P := P) (w := w) (base := base) T
  refine T.F_l_great.ok sc_l_great (toSp_len (fun B as Φ Ψ h => by obtain ⟨_, rfl, _⟩ := h; rfl)) (fun cdv A outer s H vs Q E hr h => ?_)
  obtain ⟨B, as, Φ, Ψ, rfl, hS, hx, go⟩ := toSp_open h
  obtain ⟨m, rfl, hs, m1, φ⟩ := hS
  refine ⟨_, (psc (ps_set (i := 2) sc_l_great.nd rfl (Or.inl rfl) pei)
  (psc (ps_for PassesOwn.never rfl (pi_range1 rfl T.z_range (pcn pei pnl)) (pg_name (i := 3) sc_l_great.nd rfl (Or.inl rfl)) (pso (ps_set (i := 2) sc_l_great.nd rfl (Or.inl rfl) (pe_op op_add (pe_op op_mulB (pv 2) pei) (pe_call G_l_draw (hr.mono (by decide)) rfl T.m_l_draw T.k_l_draw T.b_l_draw .nil pass0 (pcn (pv 0) (pcn pei pnl)))))))
  (pso (ps_ret (pe_op op_mod (pv 2) (pv 1)))))), go _ _ (s_go (τ := [.wd, .fz _, .no, .no]) rfl ?_)⟩
  walk_at "trun"
  refine ⟨⟨by decide, by decide⟩, ?_⟩
  refine ⟨fun i τ => ∃ (f : Int) (u : Sl), τ = [.wd, .fz (.int m), .fz (.int f), u] ∧ 0 ≤ f ∧ f < 1000003 ^ i, ⟨0, _, rfl, by decide, by decide⟩, ?_, ?_⟩
  · rintro i tt τ hi ⟨f, u, rfl, f0, f1⟩
    obtain ⟨hin, rfl⟩ := rangeT_at hi
    have hin : i < 4 := hin
    have mf : Mid f := by
      have h1 : (1000003 : Int) ^ i ≤ 1000003 ^ 4 := by
        rcases (show i = 0 ∨ i = 1 ∨ i = 2 ∨ i = 3 by omega) with rfl | rfl | rfl | rfl <;> decide
      have h2 : (1000003 : Int) ^ 4 = 1000012000054000108000081 := by decide
      exact (show My.Bd 100 f by unfold My.Bd; omega).mono (by decide)
    walk_at "trun"
    intro _ _
    refine a_drawT hs.now (by decide) (by decide) fun d d0 d1 => ?_
    walk_at "trun"
    refine ⟨_, _, rfl, by omega, ?_⟩
    have : (f + 1) * 1000003 ≤ 1000003 ^ i * 1000003 := Int.mul_le_mul_of_nonneg_right (by omega) (by decide)
    rw [Int.pow_succ]
    omega
  · rintro τ ⟨f, u, rfl, f0, f1⟩
    walk_at "trun"
    exact φ _ (Int.emod_nonneg _ (by omega)) (Int.emod_lt_of_pos _ (by omega))
theorem a_great {B : Bk} {m : Int} {Φ : Kd → Prop} {Ψ : Addr → Prop} (hs : SrcB B) (h1 : 1 ≤ m) (q : ∀ d, 0 ≤ d → d < m → Φ (.fz (.int d))) : st_great B [.wd, .fz (.int m)] Φ Ψ := ⟨m, rfl, hs, h1, q⟩
local macro_rules | `(tactic| walk_at "t2N") => `(tactic| first | ((with_reducible apply e_repLit); (focus decide); (focus decide)) | (with_reducible refine e_op ?_) | ((with_reducible apply ro_I); (focus (walk_at "cd"))) | ((with_reducible apply ro_IB); (focus (walk_at "cd"))) | with_reducible (first | refine ro_I0 ?_ | refine ro_I0B ?_ | refine ru_U ?_ | refine ro_EqI ?_ | refine ro_NeI ?_ | refine ro_EqS ?_ | refine ro_NeS ?_ | refine ro_EqB ?_ | refine ro_NeB ?_ | refine ro_isB ?_ | refine ro_notB ?_ | refine ru_abs ?_ | refine ru_toI ?_ | refine ru_toB ?_ | refine ro_max2 ?_ | refine ro_min2 ?_ | refine ru_lenK ?_) | ((with_reducible apply ro_isNT); (focus rfl)) | ((with_reducible apply ro_isNF); (focus rfl)) | ((with_reducible apply ro_notNT); (focus rfl)) | ((with_reducible apply ro_notNF); (focus rfl)) | ((with_reducible apply ro_ixL); (focus rfl); (focus (walk_at "rk")); (focus rfl)) | ((with_reducible apply ro_ixT); (focus rfl); (focus (walk_at "rk")); (focus rfl)) | ((with_reducible apply ru_len); (focus rfl); (focus (walk_at "rk"))) | ((with_reducible apply ru_lenT); (focus rfl); (focus (walk_at "rk"))) | ((with_reducible apply ro_isiT); (focus rfl); (focus rfl); (focus rfl)) | ((with_reducible apply ro_isiF); (focus rfl); (focus rfl); (focus rfl)) | ((with_reducible apply t_efzT); (focus rfl); (focus rfl)) | ((with_reducible apply t_efzF); (focus rfl); (focus rfl)) | ((with_reducible apply ru_list); (focus rfl); (focus (walk_at "rk"))) | ((with_reducible apply ru_listT); (focus rfl); (focus (walk_at "rk"))) | ((with_reducible apply ru_tup); (focus rfl); (focus (walk_at "rk"))) | ((with_reducible apply rs_L); (focus rfl); (focus (walk_at "rk"))) | ((with_reducible apply ty_list); (focus (walk_at "rk"))) | (with_reducible refine ty_str ?_) | ((with_reducible apply rm_append); (focus ((walk_at "tg"); done)); (focus (walk_at "tl")); (focus ((walk_at "ts"); done))) | ((with_reducible apply rm_clear); (focus ((walk_at "tg"); done)); (focus ((walk_at "ts"); done))) | ((with_reducible apply rm_reverse); (focus ((walk_at "tg"); done)); (focus ((walk_at "ts"); done))))
local macro_rules | `(tactic| walk_at "trunN") => `(tactic| repeat (first | walk_at "t1" | walk_at "t2N" | walk_at "tsp"))
theorem s_forget {B : Bk} {s : TS} {τ : TSt} {D' : ET} (i : Nat) (h : SV B s (τ.set i .no) D') : SV B s τ D' := fun σ F H D r e => h σ F H D r.forget e
def st_source : SpT := fun _ as Φ _ => ∃ (ns : List Int) (k : Int), as = [.fz (.lst (ns.map Tr.int)), .fz (.int k)] ∧ (∀ x ∈ ns, My.Bd 1048576 x) ∧ 0 ≤ k ∧ k ≤ 1000 ∧ ∀ a b : Int, 0 ≤ a → 0 ≤ b → b < 2147483647 → Φ (.nw (.lst [.int a, .int b]))
theorem okT_l_source (T : Txt K mg t) : FnOk P w K mg base CX0 2 t.f_l_source t.d_l_source ["_law_script", "_law_k"] (toSp K st_source) := by
  refine (ok_l_source (P := P) (w := w) (base := base) T).imp fun vs H Q E h => ?_
  obtain ⟨B, as, Φ, Ψ, rfl, rfl, bk, la, ⟨ns, k, rfl, hb, k0, k1, φ⟩, q, _⟩ := h
  obtain ⟨v, w', rfl, iv, iw⟩ := arl2 la
  cases iw
  cases iv.same bk.i with
  | lst hs il =>
    cases il.ints
    refine ⟨_, ns, k, rfl, hs, hb, k0, k1, fun r H' a b hr sm src => q (.ref r) B.F0 H' (.nw (.lst [.int a, .int b])) ?_ ?_ (φ a b src.a0 src.b0 src.b1)⟩
    · exact {
        f := Same.refl _
        h := fun p o _ h => sm p o h
        i := fun p o h => sm p o (bk.i p o h)
        m := fun _ _ _ _ h => h
        w := fun p h => by
          cases e : B.H0 p with
          | none => rfl
          | some o => rw [sm p o e] at h; cases h
        x := fun _ _ h => h
        j := fun hj => B.jl _ _ (fun p hp => by
          obtain ⟨o, ho, _⟩ := B.jm _ p hj hp
          rw [ho, sm p o ho]) (fun p φ z => sm p _ z) hj }
    · refine ⟨r, rfl, .lst src.l (.cons .int (.cons .int .nil)), ?_, hr⟩
      cases e : B.F0 r with
      | none => rfl
      | some o => rw [bk.i r o e] at hr; cases hr
def TOk (ts : List Tr) : Prop := ∃ a b : Int, ts = [.int a, .int b] ∧ 0 ≤ a ∧ 0 ≤ b ∧ b < 2147483647
theorem tok_in {K : Fg} {F : Hp} {vs : List V} {ts : List Tr} (ht : TOk ts) (h : IsL K F vs ts) : OkS vs := by
  obtain ⟨a, b, rfl, h1, h2, h3⟩ := ht
  cases h with
  | cons x y =>
    cases x
    cases y with
    | cons x y =>
      cases x
      cases y
      exact ⟨a, b, rfl, h1, h2, h3⟩
theorem pk2' {d : Int} (h0 : 0 ≤ d) (h1 : d < 2) : d = 0 ∨ d = 1 := by omega
def cleanT (τ : TSt) : TSt := τ.map fun s => match s with | .fz t => .fz t | _ => .no
theorem clean_at {τ : TSt} {i : Nat} {s : Sl} (h : TAt (cleanT τ) i s) : s = .no ∨ ∃ t, s = .fz t ∧ TAt τ i (.fz t) := by
  unfold TAt cleanT at h
  rw [List.getElem?_map] at h
  cases e : τ[i]? with
  | none => rw [e] at h; cases h
  | some s' =>
    rw [e] at h
    cases s' <;> cases h
    · exact .inl rfl
    · exact .inr ⟨_, rfl, e⟩
    · exact .inl rfl
    · exact .inl rfl
    · exact .inl rfl
theorem s_lendM {B : Bk} {s : TS} {τ : TSt} {k : Nat} {ts : List Tr} {nx bk ct : TSt → Prop} {rt : Kd → Prop} (nw : ∀ p, ¬ B.W p) (nj : ∀ H, B.J H) (g : Gt τ k (.own (.lst ts))) (cl : OnlyF k (τ.set k .wd) = true) (ok : TOk ts)
    (h : ∀ F H l, SrcB (B.lend F H l OkS) → SV (B.lend F H l OkS) s (τ.set k .wd) ⟨fun τ' => nx (cleanT τ'), fun _ => False, fun _ => False, fun _ => False⟩) : SV B s τ ⟨nx, rt, bk, ct⟩ := fun σ F H D r e => by
  obtain ⟨l, es, ow, fl, n0⟩ := r.ow k _ g.eq
  cases ow with
  | @lst vs _ hl gl =>
    have r1 := r.lendM g.eq es fl hl (tok_in ok gl) cl
    have sb : SrcB (B.lend F H l OkS) := ⟨fun H' => ⟨fun x => x.2, fun x => ⟨nj _, x⟩⟩, fun q => ⟨fun x => x.elim (fun y => absurd y (nw q)) fun y => y, .inr⟩⟩
    refine h F H l sb σ F H D r1 ⟨fun σ' F' H' τ' sF r2 hn => ?_, fun _ _ _ _ _ _ z => z.elim, fun _ _ _ _ _ _ z => z.elim, fun _ _ _ _ _ _ z => z.elim⟩
    have u := r2.up
    refine e.nx σ' F' H' (cleanT τ') sF ?_ hn
    exact {
      up := ⟨r.up.f.trans u.f, fun q o n z => u.h q o (fun x => x.elim n fun y => by rw [y, n0] at z; cases z) (r.up.h q o n z), u.i, fun q o z mb n => u.m q o (r.up.h q o (nw q) z) mb (r.up.m q o z mb n), fun q z => r.up.w q (u.w q z), fun q hw => absurd hw (nw q), fun _ => nj _⟩
      wa := fun p hw => absurd hw (nw p)
      wf := fun p hw => absurd hw (nw p)
      wj := nj _
      wd := fun i z => by rcases clean_at z with z | ⟨_, z, _⟩ <;> cases z
      len := by unfold cleanT; rw [List.length_map]; exact r2.len
      fz := fun i t z => by
        rcases clean_at z with z | ⟨t', z, y⟩
        · cases z
        · cases z; exact r2.fz i t y
      ow := fun i t z => by rcases clean_at z with z | ⟨_, z, _⟩ <;> cases z
      vw := fun i t z => by rcases clean_at z with z | ⟨_, z, _⟩ <;> cases z
      ap := fun i j t u l z => by rcases clean_at z with z | ⟨_, z, _⟩ <;> cases z
      av := fun i j t u l z => by rcases clean_at z with z | ⟨_, z, _⟩ <;> cases z }
def N2 (a b : Int) : Tr := .tup [.int a, .int b]
def numT (q : Rat) : Tr := N2 q.num q.den
theorem qv_num {x y : Int} {q : Rat} (hy : 0 < y) (g : Int.gcd x y = 1) (e : My.qv x y = q) : x = q.num ∧ y = (q.den : Int) := by
  have hd : (0 : Int) < (q.den : Int) := Int.natCast_pos.mpr q.den_pos
  have e2 : My.qv q.num q.den = q := by
    show (q.num : Rat) / ((q.den : Int) : Rat) = q
    rw [← Rat.divInt_eq_div]
    exact Rat.num_divInt_den q
  refine My.low_unique hy hd g ?_ (My.eq_of_qv (by omega) (by omega) (e.trans e2.symm))
  have := q.reduced
  show Nat.gcd q.num.natAbs (q.den : Int).natAbs = 1
  exact this
theorem isN2 {K : Fg} {F : Hp} {v : V} {a b : Int} (h : Is K F v (N2 a b)) : ∃ p, v = .ref p ∧ SqT K F p [.int a, .int b] := by
  cases h with
  | tup s l =>
    obtain ⟨v1, v2, rfl, h1, h2⟩ := isl2 l
    cases h1
    cases h2
    exact ⟨_, rfl, s⟩
structure QN (n : Nat) (q : Rat) : Prop where
  a : My.Bd n q.num
  b : My.Bd n (q.den : Int)
theorem qv_self (q : Rat) : My.qv q.num q.den = q := by
  show (q.num : Rat) / ((q.den : Int) : Rat) = q
  rw [← Rat.divInt_eq_div]
  exact Rat.num_divInt_den q
theorem newT {B : Bk} {Q : VK} {n : Nat} {v : Rat} {Φ : Kd → Prop} (bk : BkOk B) (q : ∀ u F' H' k, Up B B.F0 B.H0 F' H' → RetOk B F' H' u k → Φ k → Q u H') (φ : QN n v → Φ (.fz (numT v))) : NewQ B.K B.H0 Q n v := fun p H' x y sH r g e => by
  obtain ⟨e1, e2⟩ := qv_num r.pos g e
  have u := upT bk rfl rfl sH
  refine q (.ref p) _ H' (.fz (numT v)) u ?_ (φ ⟨by rw [← e1]; exact r.ba, by rw [← e2]; exact r.bb⟩)
  show Is B.K _ (.ref p) (N2 v.num v.den)
  rw [← e1, ← e2]
  exact .tup (SqT.addT (bk.i.trans sH) r.s) (.cons .int (.cons .int .nil))
def st_numb : SpT := fun _ as Φ _ => ∃ (t m : Int) (n : Nat), as = [.fz (.int t), .fz (.int m)] ∧ My.Bd n t ∧ My.Bd n m ∧ n ≤ 3900 ∧ m ≠ 0 ∧ (QN n (My.qv t m) → Φ (.fz (numT (My.qv t m))))
theorem okT_number (T : Txt K mg t) : FnOk P w K mg base (CXe P w) 2 t.f_number t.d_number ["top", "bottom"] (toSp K st_numb) := by
  refine (ok_number (P := P) (w := w) (base := base) T).imp fun vs H Q E h => ?_
  obtain ⟨B, as, Φ, Ψ, rfl, rfl, bk, la, ⟨a, b, n, rfl, h1, h2, hn, hb, φ⟩, q, _⟩ := h
  obtain ⟨v, w', rfl, iv, iw⟩ := arl2 la
  cases iv
  cases iw
  exact ⟨a, b, n, rfl, h1, h2, hn, hb, newT bk q φ⟩
theorem a_num {B : Bk} {t m : Int} {n : Nat} {Φ : Kd → Prop} {Ψ : Addr → Prop} (h1 : My.Bd n t) (h2 : My.Bd n m) (hn : n ≤ 3900) (hm : m ≠ 0) (q : QN n (My.qv t m) → Φ (.fz (numT (My.qv t m)))) : st_numb B [.fz (.int t), .fz (.int m)] Φ Ψ := ⟨t, m, n, rfl, h1, h2, hn, hm, q⟩
def st_two (f : Rat → Rat → Rat) (ok : Rat → Prop) : SpT := fun _ as Φ _ => ∃ (x y : Rat) (n m : Nat), as = [.fz (numT x), .fz (numT y)] ∧ QN n x ∧ QN m y ∧ n + m + 1 ≤ 3900 ∧ ok y ∧ (QN (n + m + 1) (f x y) → Φ (.fz (numT (f x y))))
theorem two_imp {K : Fg} {f : Rat → Rat → Rat} {ok : Rat → Prop} {ok' : Int → Prop} (ho : ∀ y : Rat, ok y → ok' y.num) : ∀ vs H Q E, toSp K (st_two f ok) vs H Q E → sp_two K f ok' vs H Q E := fun vs H Q E h => by
  obtain ⟨B, as, Φ, Ψ, rfl, rfl, bk, la, ⟨x, y, n, m, rfl, h1, h2, hn, hy, φ⟩, q, _⟩ := h
  obtain ⟨v, w', rfl, iv, iw⟩ := arl2 la
  obtain ⟨p, rfl, s1⟩ := isN2 iv
  obtain ⟨r, rfl, s2⟩ := isN2 iw
  refine ⟨p, r, x.num, x.den, y.num, y.den, n, m, rfl, ⟨bk.i.tup s1, Int.natCast_pos.mpr x.den_pos, h1.a, h1.b⟩, ⟨bk.i.tup s2, Int.natCast_pos.mpr y.den_pos, h2.a, h2.b⟩, hn, ho y hy, ?_⟩
  rw [qv_self, qv_self]
  exact newT bk q φ
theorem okT_plus (T : Txt K mg t) : FnOk P w K mg base CX0 3 t.f_plus t.d_plus ["one", "other"] (toSp K (st_two (fun x y => x + y) fun _ => True)) := by
  exact (ok_plus (P := P) (w := w) (base := base) T).imp (two_imp fun _ _ => trivial)
theorem okT_minus (T : Txt K mg t) : FnOk P w K mg base CX0 3 t.f_minus t.d_minus ["one", "other"] (toSp K (st_two (fun x y => x - y) fun _ => True)) := by
  exact (ok_minus (P := P) (w := w) (base := base) T).imp (two_imp fun _ _ => trivial)
theorem okT_times (T : Txt K mg t) : FnOk P w K mg base CX0 3 t.f_times t.d_times ["one", "other"] (toSp K (st_two (fun x y => x * y) fun _ => True)) := by
  exact (ok_times (P := P) (w := w) (base := base) T).imp (two_imp fun _ _ => trivial)
theorem a_two2 {B : Bk} {x y : Rat} {n m : Nat} {f : Rat → Rat → Rat} {ok : Rat → Prop} {Φ : Kd → Prop} {Ψ : Addr → Prop} (h1 : QN n x) (h2 : QN m y) (hn : n + m + 1 ≤ 3900) (hy : ok y) (q : QN (n + m + 1) (f x y) → Φ (.fz (numT (f x y)))) : st_two f ok B [.fz (numT x), .fz (numT y)] Φ Ψ := ⟨x, y, n, m, rfl, h1, h2, hn, hy, q⟩
theorem okT_over (T : Txt K mg t) : FnOk P w K mg base CX0 3 t.f_over t.d_over ["one", "other"] (toSp K (st_two (fun x y => x / y) fun y => y.num ≠ 0)) := by
  exact (ok_over (P := P) (w := w) (base := base) T).imp (two_imp fun _ h => h)
def st_low15 : SpT := fun _ as Φ _ => ∃ (t m : Int) (n : Nat), as = [.fz (.int t), .fz (.int m)] ∧ 0 < m ∧ My.Bd n t ∧ My.Bd n m ∧ n ≤ 3900 ∧ (QN n (My.qv t m) → Φ (.fz (numT (My.qv t m))))
theorem okT_l_low (T : Txt K mg t) : FnOk P w K mg base CX0 1 t.f_l_low t.d_l_low ["_law_top", "_law_bottom"] (toSp K st_low15) := by
  refine (ok_l_low (P := P) (w := w) (base := base) T).imp fun vs H Q E h => ?_
  obtain ⟨B, as, Φ, Ψ, rfl, rfl, bk, la, ⟨a, b, n, rfl, hb, h1, h2, hn, φ⟩, q, _⟩ := h
  obtain ⟨v, w', rfl, iv, iw⟩ := arl2 la
  cases iv
  cases iw
  exact ⟨a, b, n, rfl, hb, h1, h2, hn, newT bk q φ⟩
theorem a_low15 {B : Bk} {t m : Int} {n : Nat} {Φ : Kd → Prop} {Ψ : Addr → Prop} (hm : 0 < m) (h1 : My.Bd n t) (h2 : My.Bd n m) (hn : n ≤ 3900) (q : QN n (My.qv t m) → Φ (.fz (numT (My.qv t m)))) : st_low15 B [.fz (.int t), .fz (.int m)] Φ Ψ := ⟨t, m, n, rfl, hm, h1, h2, hn, q⟩
theorem ite_t {b : Bool} {A B : Prop} (h : b = true) (a : A) : if b = true then A else B := by rw [if_pos h]; exact a
theorem ite_f {b : Bool} {A B : Prop} (h : b = false) (a : B) : if b = true then A else B := by rw [h, if_neg (by decide)]; exact a
theorem QN.up {n m : Nat} {q : Rat} (h : QN n q) (e : n ≤ m) : QN m q := ⟨h.a.mono e, h.b.mono e⟩
def flo (q : Rat) : Int := q.num / (q.den : Int)
def rnd (q : Rat) : Int := (2 * q.num + q.den) / (2 * q.den)
def st_floor : SpT := fun _ as Φ _ => ∃ (q : Rat) (n : Nat), as = [.fz (numT q)] ∧ QN n q ∧ n ≤ 3000 ∧ Φ (.fz (.int (flo q)))
theorem okT_floor_of (T : Txt K mg t) : FnOk P w K mg base CX0 1 t.f_floor_of t.d_floor_of ["one"] (toSp K st_floor) := by
  refine T.F_floor_of.ok sc_floor_of (toSp_len (fun B as Φ Ψ h => by obtain ⟨_, _, rfl, _⟩ := h; rfl)) (fun cdv A outer s H vs Q E hr h => ?_)
  obtain ⟨B, as, Φ, Ψ, rfl, hS, hx, go⟩ := toSp_open h
  obtain ⟨q, n, rfl, h1, hn, φ⟩ := hS
  have a1 : Mid q.num := h1.a.mono (by omega)
  have a2 : Mid (q.den : Int) := h1.b.mono (by omega)
  have a3 : (0 : Int) < (q.den : Int) := Int.natCast_pos.mpr q.den_pos
  unfold numT N2 at *
  refine ⟨_, (pso (ps_ret (pe_op op_fdivB (pe_ix ixt (pv 0) pei (fun _ _ => rfl)) (pe_ix ixt (pv 0) pei (fun _ _ => rfl))))), go _ _ (s_go (τ := [.fz _]) rfl ?_)⟩
  walk_at "trun"
  exact φ
def st_rnd : SpT := fun _ as Φ _ => ∃ (q : Rat) (n : Nat), as = [.fz (numT q)] ∧ QN n q ∧ n ≤ 3000 ∧ Φ (.fz (.int (rnd q)))
theorem okT_rounded (T : Txt K mg t) : FnOk P w K mg base CX0 1 t.f_rounded t.d_rounded ["one"] (toSp K st_rnd) := by
  refine T.F_rounded.ok sc_rounded (toSp_len (fun B as Φ Ψ h => by obtain ⟨_, _, rfl, _⟩ := h; rfl)) (fun cdv A outer s H vs Q E hr h => ?_)
  obtain ⟨B, as, Φ, Ψ, rfl, hS, hx, go⟩ := toSp_open h
  obtain ⟨q, n, rfl, h1, hn, φ⟩ := hS
  have b1 := h1.a.mono (show n ≤ 3000 by omega)
  have b2 := h1.b.mono (show n ≤ 3000 by omega)
  have a1 : Mid q.num := b1.mono (by decide)
  have a2 : Mid (q.den : Int) := b2.mono (by decide)
  have a3 : (0 : Int) < (q.den : Int) := Int.natCast_pos.mpr q.den_pos
  have m1 : Mid (2 * q.num + (q.den : Int)) := by
    unfold Mid
    unfold My.Bd at b1 b2 ⊢
    have : (2 : Int) ^ 4000 = 2 ^ 3000 * 2 ^ 1000 := by rw [← Int.pow_add]
    have h4 : (4 : Int) ≤ 2 ^ 1000 := by decide +kernel
    have h5 : (0 : Int) < 2 ^ 3000 := Int.pow_pos (by decide)
    have h6 : (2 : Int) ^ 3000 * 4 ≤ 2 ^ 3000 * 2 ^ 1000 := Int.mul_le_mul_of_nonneg_left h4 (Int.le_of_lt h5)
    omega
  have m2 : Mid (2 * (q.den : Int)) := by
    unfold Mid
    unfold My.Bd at b1 b2 ⊢
    have : (2 : Int) ^ 4000 = 2 ^ 3000 * 2 ^ 1000 := by rw [← Int.pow_add]
    have h4 : (4 : Int) ≤ 2 ^ 1000 := by decide +kernel
    have h5 : (0 : Int) < 2 ^ 3000 := Int.pow_pos (by decide)
    have h6 : (2 : Int) ^ 3000 * 4 ≤ 2 ^ 3000 * 2 ^ 1000 := Int.mul_le_mul_of_nonneg_left h4 (Int.le_of_lt h5)
    omega
  have m3 : Mid 2 := mid2
  unfold numT N2 at *
  refine ⟨_, (pso (ps_ret (pe_op op_fdivB (pe_op op_add (pe_op op_mulB pei (pe_ix ixt (pv 0) pei (fun _ _ => rfl))) (pe_ix ixt (pv 0) pei (fun _ _ => rfl))) (pe_op op_mulB pei (pe_ix ixt (pv 0) pei (fun _ _ => rfl)))))), go _ _ (s_go (τ := [.fz _]) rfl ?_)⟩
  walk_at "trun"
  exact φ
def st_undr : SpT := fun _ as Φ _ => ∃ (x y : Rat) (n m : Nat), as = [.fz (numT x), .fz (numT y)] ∧ QN n x ∧ QN m y ∧ n + m ≤ 3900 ∧ Φ (.fz (.bl (decide (x < y))))
theorem okT_under (T : Txt K mg t) : FnOk P w K mg base CX0 1 t.f_under t.d_under ["one", "other"] (toSp K st_undr) := by
  refine (ok_under (P := P) (w := w) (base := base) T).imp fun vs H Q E h => ?_
  obtain ⟨B, as, Φ, Ψ, rfl, rfl, bk, la, ⟨x, y, n, m, rfl, h1, h2, hn, φ⟩, q, _⟩ := h
  obtain ⟨v, w', rfl, iv, iw⟩ := arl2 la
  obtain ⟨p, rfl, s1⟩ := isN2 iv
  obtain ⟨r, rfl, s2⟩ := isN2 iw
  have d1 : (0 : Int) < (x.den : Int) := Int.natCast_pos.mpr x.den_pos
  have d2 : (0 : Int) < (y.den : Int) := Int.natCast_pos.mpr y.den_pos
  refine ⟨p, r, x.num, x.den, y.num, y.den, n, m, rfl, ⟨bk.i.tup s1, d1, h1.a, h1.b⟩, ⟨bk.i.tup s2, d2, h2.a, h2.b⟩, hn, q (.bl _) _ _ (.fz (.bl _)) (Up.refl bk.i) .bl ?_⟩
  have e : (x < y) ↔ x.num * (y.den : Int) < y.num * (x.den : Int) := by
    rw [← My.lt_qv d1 d2, qv_self, qv_self]
  rw [← decide_eq_decide.mpr e]
  exact φ
def st_within : SpT := fun _ as Φ _ => ∃ (x lo hi : Rat) (n : Nat), as = [.fz (numT x), .fz (numT lo), .fz (numT hi)] ∧ QN n x ∧ QN n lo ∧ QN n hi ∧ n ≤ 1000 ∧ Φ (.fz (.bl (decide (lo ≤ x ∧ x ≤ hi))))
theorem okT_is_within (T : Txt K mg t) : FnOk P w K mg base CX0 2 t.f_is_within t.d_is_within ["one", "lo", "hi"] (toSp K st_within) := by
  have G_under := okT_under (P := P) (w := w) (base := base) T
  refine T.F_is_within.ok sc_is_within (toSp_len (fun B as Φ Ψ h => by obtain ⟨_, _, _, _, rfl, _⟩ := h; rfl)) (fun cdv A outer s H vs Q E hr h => ?_)
  obtain ⟨B, as, Φ, Ψ, rfl, hS, hx, go⟩ := toSp_open h
  obtain ⟨x, lo, hi, n, rfl, h1, h2, h3, hn, φ⟩ := hS
  refine ⟨_, (pso (ps_ret (pe_and (pe_not (pe_call G_under (hr.mono (by decide)) rfl T.m_under T.k_under T.b_under .nil pass0 (pcn (pv 0) (pcn (pv 1) pnl)))) (pe_one (pe_not (pe_call G_under (hr.mono (by decide)) rfl T.m_under T.k_under T.b_under .nil pass0 (pcn (pv 2) (pcn (pv 0) pnl)))))))), go _ _ (s_go (τ := [.fz _, .fz _, .fz _]) rfl ?_)⟩
  walk_at "trun"
  intro _ _
  refine ⟨x, lo, n, n, rfl, h1, h2, by omega, ?_⟩
  walk_at "trun"
  by_cases c1 : x < lo
  · rw [decide_eq_true c1]
    rw [decide_eq_false (fun h => absurd c1 (Rat.not_lt.mpr h.1))] at φ
    walk_at "trun"
    exact φ
  · rw [decide_eq_false c1]
    walk_at "trun"
    intro _ _
    refine ⟨hi, x, n, n, rfl, h3, h1, by omega, ?_⟩
    walk_at "trun"
    by_cases c2 : hi < x
    · rw [decide_eq_true c2]
      rw [decide_eq_false (fun h => absurd c2 (Rat.not_lt.mpr h.2))] at φ
      walk_at "trun"
      exact φ
    · rw [decide_eq_false c2]
      rw [decide_eq_true ⟨Rat.not_lt.mp c1, Rat.not_lt.mp c2⟩] at φ
      walk_at "trun"
      exact φ
def plq (x lo hi : Rat) (b e : Int) : Rat := My.qv b 1 + (x - lo) / (hi - lo) * My.qv (e - b) 1
def st_splace : SpT := fun _ as Φ _ => ∃ (x lo hi : Rat) (b e : Int), as = [.fz (numT x), .fz (numT lo), .fz (numT hi), .fz (.int b), .fz (.int e)] ∧ QN 500 x ∧ QN 500 lo ∧ QN 500 hi ∧ (hi - lo).num ≠ 0 ∧ My.Bd 64 b ∧ My.Bd 64 (e - b) ∧ (QN 2200 (plq x lo hi b e) → Φ (.fz (numT (plq x lo hi b e))))
theorem okT_straight_place (T : Txt K mg t) : FnOk P w K mg base CX0 4 t.f_straight_place t.d_straight_place ["one", "lo", "hi", "begin", "end"] (toSp K st_splace) := by
  have G_over := okT_over (P := P) (w := w) (base := base) T
  have G_minus := okT_minus (P := P) (w := w) (base := base) T
  have G_plus := okT_plus (P := P) (w := w) (base := base) T
  have G_times := okT_times (P := P) (w := w) (base := base) T
  have G_number := okT_number (P := P) (w := w) (base := base) T
  obtain ⟨ds_number, DV_number, BD_number⟩ := T.b_number1
  refine T.F_straight_place.ok sc_straight_place (toSp_len (fun B as Φ Ψ h => by obtain ⟨_, _, _, _, _, rfl, _⟩ := h; rfl)) (fun cdv A outer s H vs Q E hr h => ?_)
  obtain ⟨B, as, Φ, Ψ, rfl, hS, hx, go⟩ := toSp_open h
  obtain ⟨x, lo, hi, b, e, rfl, h1, h2, h3, hne, hb, he, φ⟩ := hS
  have b1 : My.Bd 64 1 := by unfold My.Bd; decide
  refine ⟨_, (psc (ps_set (i := 5) sc_straight_place.nd rfl (Or.inl rfl) (pe_call G_over (hr.mono (by decide)) rfl T.m_over T.k_over T.b_over .nil pass0 (pcn (pe_call G_minus (hr.mono (by decide)) rfl T.m_minus T.k_minus T.b_minus .nil pass0 (pcn (pv 0) (pcn (pv 1) pnl))) (pcn (pe_call G_minus (hr.mono (by decide)) rfl T.m_minus T.k_minus T.b_minus .nil pass0 (pcn (pv 2) (pcn (pv 1) pnl))) pnl))))
  (pso (ps_ret (pe_call G_plus (hr.mono (by decide)) rfl T.m_plus T.k_plus T.b_plus .nil pass0 (pcn (pe_call G_number (hr.mono (by decide)) rfl T.m_number T.k_number BD_number DV_number passE0 (pcn (pv 3) pnl)) (pcn (pe_call G_times (hr.mono (by decide)) rfl T.m_times T.k_times T.b_times .nil pass0 (pcn (pv 5) (pcn (pe_call G_number (hr.mono (by decide)) rfl T.m_number T.k_number BD_number DV_number passE0 (pcn (pe_op op_sub (pv 4) (pv 3)) pnl)) pnl))) pnl)))))), go _ _ (s_go (τ := [.fz _, .fz _, .fz _, .fz _, .fz _, .no]) rfl ?_)⟩
  walk_at "trun"
  intro _ _
  refine a_two2 h1 h2 (by decide) trivial fun q1 => ?_
  walk_at "trun"
  intro _ _
  refine a_two2 h3 h2 (by decide) trivial fun q2 => ?_
  walk_at "trun"
  intro _ _
  refine a_two2 q1 q2 (by decide) hne fun q3 => ?_
  walk_at "trun"
  intro _ _
  refine a_num (n := 64) hb b1 (by decide) (by decide) fun q4 => ?_
  walk_at "trun"
  intro _ _
  refine a_num (n := 64) he b1 (by decide) (by decide) fun q5 => ?_
  walk_at "trun"
  intro _ _
  refine a_two2 q3 q5 (by decide) trivial fun q6 => ?_
  walk_at "trun"
  intro _ _
  refine a_two2 q4 q6 (by decide) trivial fun q7 => ?_
  walk_at "trun"
  exact φ (q7.up (by decide))
def strT (lo hi : Rat) (len : Int) : Tr := .tup [.str "straight", numT lo, numT hi, .int len]
structure StrOk (lo hi : Rat) (len : Int) : Prop where
  l : QN 500 lo
  h : QN 500 hi
  lt : lo < hi
  n0 : 0 ≤ len
  n1 : len ≤ 1000000
theorem StrOk.ne {lo hi : Rat} {len : Int} (h : StrOk lo hi len) : (hi - lo).num ≠ 0 := fun z => by
  have : hi - lo = 0 := Rat.num_eq_zero.mp z
  have := h.lt
  grind
def st_pstr : SpT := fun _ as Φ _ => ∃ (x lo hi : Rat) (len : Int), as = [.fz (strT lo hi len), .fz (numT x)] ∧ StrOk lo hi len ∧ QN 500 x ∧ lo ≤ x ∧ x ≤ hi ∧ (QN 2200 (plq x lo hi 0 len) → Φ (.fz (numT (plq x lo hi 0 len))))
theorem okT_place_on_straight (T : Txt K mg t) : FnOk P w K mg base CX0 5 t.f_place_on_straight t.d_place_on_straight ["scale", "cell"] (toSp K st_pstr) := by
  have G_is_within := okT_is_within (P := P) (w := w) (base := base) T
  have G_straight_place := okT_straight_place (P := P) (w := w) (base := base) T
  refine T.F_place_on_straight.ok sc_place_on_straight (toSp_len (fun B as Φ Ψ h => by obtain ⟨_, _, _, _, rfl, _⟩ := h; rfl)) (fun cdv A outer s H vs Q E hr h => ?_)
  obtain ⟨B, as, Φ, Ψ, rfl, hS, hx, go⟩ := toSp_open h
  obtain ⟨x, lo, hi, len, rfl, ok, h1, h2, h3, φ⟩ := hS
  have b0 : My.Bd 64 0 := by unfold My.Bd; decide
  have bl : My.Bd 64 (len - 0) := by have := ok.n0; have := ok.n1; unfold My.Bd; omega
  unfold strT at *
  refine ⟨_, (psc (ps_if (pt_not (pt_val (pe_call G_is_within (hr.mono (by decide)) rfl T.m_is_within T.k_is_within T.b_is_within .nil pass0 (pcn (pv 1) (pcn (pe_ix ixt (pv 0) pei (fun _ _ => rfl)) (pcn (pe_ix ixt (pv 0) pei (fun _ _ => rfl)) pnl)))))) (pso (ps_ret pe_str)) pss_nil)
  (pso (ps_ret (pe_call G_straight_place (hr.mono (by decide)) rfl T.m_straight_place T.k_straight_place T.b_straight_place .nil pass0 (pcn (pv 1) (pcn (pe_ix ixt (pv 0) pei (fun _ _ => rfl)) (pcn (pe_ix ixt (pv 0) pei (fun _ _ => rfl)) (pcn pei (pcn (pe_ix ixt (pv 0) pei (fun _ _ => rfl)) pnl))))))))), go _ _ (s_go (τ := [.fz _, .fz _]) rfl ?_)⟩
  walk_at "trun"
  intro _ _
  refine ⟨x, lo, hi, 500, rfl, h1, ok.l, ok.h, by decide, ?_⟩
  rw [decide_eq_true ⟨h2, h3⟩]
  walk_at "trun"
  intro _ _
  refine ⟨x, lo, hi, 0, len, rfl, h1, ok.l, ok.h, ok.ne, b0, bl, fun q => ?_⟩
  walk_at "trun"
  exact φ q
theorem okT_place_on (T : Txt K mg t) : FnOk P w K mg base CX0 6 t.f_place_on t.d_place_on ["scale", "cell"] (toSp K st_pstr) := by
  have G_place_on_straight := okT_place_on_straight (P := P) (w := w) (base := base) T
  refine T.F_place_on.ok sc_place_on (toSp_len (fun B as Φ Ψ h => by obtain ⟨_, _, _, _, rfl, _⟩ := h; rfl)) (fun cdv A outer s H vs Q E hr h => ?_)
  obtain ⟨B, as, Φ, Ψ, rfl, hS, hx, go⟩ := toSp_open h
  obtain ⟨x, lo, hi, len, rfl, ok, h1, h2, h3, φ⟩ := hS
  unfold strT at *
  rw [show numT x = Tr.tup [.int x.num, .int (x.den : Int)] from rfl] at *
  refine ⟨_, (psc (ps_if (pt_cmpR op_isN' (pv 1) pe_non (nomark _)) (pso (ps_ret pe_str)) pss_nil)
  (psc (ps_if (pt_cmpR op_eq (pe_ix ixt (pv 0) pei (fun _ _ => rfl)) pe_str (nomark _)) (pso (ps_ret (pe_call G_place_on_straight (hr.mono (by decide)) rfl T.m_place_on_straight T.k_place_on_straight T.b_place_on_straight .nil pass0 (pcn (pv 0) (pcn (pv 1) pnl))))) pss_nil)
  (psc (ps_if (pt_cmpR op_eq (pe_ix ixt (pv 0) pei (fun _ _ => rfl)) pe_str (nomark _)) (pso ps_never) pss_nil)
  (psc (ps_if (pt_cmpR op_eq (pe_ix ixt (pv 0) pei (fun _ _ => rfl)) pe_str (nomark _)) (pso ps_never) pss_nil)
  (psc (ps_if (pt_cmpR op_eq (pe_ix ixt (pv 0) pei (fun _ _ => rfl)) pe_str (nomark _)) (pso ps_never) pss_nil)
  (pso ps_never)))))), go _ _ (s_go (τ := [.fz _, .fz _]) rfl ?_)⟩
  walk_at "trun"
  refine ite_t (by decide) ?_
  walk_at "trun"
  intro _ _
  refine ⟨x, lo, hi, len, rfl, ok, h1, h2, h3, fun q => ?_⟩
  walk_at "trun"
  exact φ q
theorem arl1' {B : Bk} {F : Hp} {vs : List V} {t : Tr} (h : ArL B F vs [.fz t]) : ∃ v, vs = [v] ∧ Is B.K F v t := by
  cases h with
  | cons a l => cases l; exact ⟨_, rfl, a⟩
def shS (q : Rat) : Str := ⟨⟨My.shw q.num q.den⟩⟩
theorem shS_of {z : Str} {q : Rat} (h : My.cs z = My.shw q.num q.den) : z = shS q := by
  unfold shS
  rw [← h]
theorem n300 {x : Int} (h : My.Bd 900 x) : x.natAbs < 10 ^ 300 := Nat.lt_of_lt_of_le h (by decide +kernel)
theorem log300 {x : Int} (h : My.Bd 900 x) : x.natAbs.log2 < 1920 := by
  by_cases z : x.natAbs = 0
  · rw [z]; decide
  · rw [Nat.log2_lt z]
    exact Nat.lt_of_lt_of_le h (Nat.pow_le_pow_right (by decide) (by decide))
theorem txt300 {x : Int} (h : My.Bd 900 x) : (My.txt x).length ≤ 301 := by
  have := My.dg_len (by decide) (n300 h)
  unfold My.txt
  split
  · rw [List.length_cons]; omega
  · omega
theorem shS_len {q : Rat} (h : QN 900 q) : (shS q).length ≤ 900 := by
  have e1 := txt300 h.a
  have e2 := txt300 h.b
  show (My.shw q.num q.den).length ≤ 900
  unfold My.shw
  split
  · omega
  · rw [List.length_append, List.length_cons]; omega
def st_shown : SpT := fun _ as Φ _ => ∃ q : Rat, as = [.fz (numT q)] ∧ QN 900 q ∧ Φ (.fz (.str (shS q)))
theorem okT_show_number (T : Txt K mg t) : FnOk P w K mg base CX0 1 t.f_show_number t.d_show_number ["one"] (toSp K st_shown) := by
  refine T.F_show_number.ok sc_show_number (toSp_len (fun B as Φ Ψ h => by obtain ⟨_, rfl, _⟩ := h; rfl)) (fun cdv A outer s H vs Q E hr h => ?_)
  obtain ⟨B, as, Φ, Ψ, rfl, hS, hx, go⟩ := toSp_open h
  obtain ⟨q, rfl, h1, φ⟩ := hS
  have lx : (Str.ofString (toString q.num)).length ≤ 301 := by rw [← My.cs_len, My.cs_str]; exact txt300 h1.a
  have ly : (Str.ofString (toString (q.den : Int))).length ≤ 301 := by rw [← My.cs_len, My.cs_str]; exact txt300 h1.b
  have g1 := log300 h1.a
  have g2 := log300 h1.b
  unfold numT N2 at *
  refine ⟨_, (psc (ps_set (i := 1) sc_show_number.nd rfl (Or.inl rfl) (pe_ix ixt (pv 0) pei (fun _ _ => rfl)))
  (psc (ps_set (i := 2) sc_show_number.nd rfl (Or.inl rfl) (pe_ix ixt (pv 0) pei (fun _ _ => rfl)))
  (psc (ps_if (pt_cmpR op_eq (pv 2) pei (nomark _)) (pso (ps_ret (pe_fs1 (pe_fv (pv 1))))) pss_nil)
  (pso (ps_ret (pe_fs (PFs.cons (pe_fv (pv 1)) (PFs.cons pe_str (PFs.cons (pe_fv (pv 2)) PFs.nil))))))))), go _ _ (s_go (τ := [.fz _, .no, .no]) rfl ?_)⟩
  walk_at "trun"
  refine z_iteD (fun c => ?_) (fun c => ?_)
  · have e : Str.ofString (toString q.num) = shS q := shS_of (by rw [My.cs_str]; unfold My.shw; rw [if_pos c])
    walk_at "trun"
    refine e_fv ?_
    walk_at "trun"
    refine ⟨g1, ?_⟩
    rw [e]
    walk_at "trun"
    exact φ
  · have e : Str.empty ++ Str.ofString (toString q.num) ++ "/" ++ Str.ofString (toString (q.den : Int)) = shS q := shS_of (by rw [My.cs_app, My.cs_app, My.cs_app, My.cs_str, My.cs_str]; unfold My.shw; rw [if_neg c]; show ([] ++ _ ++ _) ++ _ = _; rw [List.nil_append, List.append_assoc]; rfl)
    walk_at "trun"
    refine e_fsc (e_fv ?_)
    walk_at "trun"
    refine ⟨g1, _, rfl, ?_, ?_⟩
    · rw [Str.length_append]; exact le_size (by show 0 + _ ≤ 1000; omega)
    refine e_fsc ?_
    walk_at "trun"
    refine ⟨_, rfl, ?_, ?_⟩
    · rw [Str.length_append, Str.length_append]; exact le_size (by show 0 + _ + 1 ≤ 1000; omega)
    refine e_fsc (e_fv ?_)
    walk_at "trun"
    refine ⟨g2, _, rfl, ?_, ?_⟩
    · rw [Str.length_append, Str.length_append, Str.length_append]; exact le_size (by show 0 + _ + 1 + _ ≤ 1000; omega)
    refine e_fsn ?_
    rw [e]
    walk_at "trun"
    exact φ
theorem okT_l_text (T : Txt K mg t) : FnOk P w K mg base CX0 1 t.f_l_text t.d_l_text ["_law_one"] (toSp K st_shown) := by
  refine T.F_l_text.ok sc_l_text (toSp_len (fun B as Φ Ψ h => by obtain ⟨_, rfl, _⟩ := h; rfl)) (fun cdv A outer s H vs Q E hr h => ?_)
  obtain ⟨B, as, Φ, Ψ, rfl, hS, hx, go⟩ := toSp_open h
  obtain ⟨q, rfl, h1, φ⟩ := hS
  have lx : (Str.ofString (toString q.num)).length ≤ 301 := by rw [← My.cs_len, My.cs_str]; exact txt300 h1.a
  have ly : (Str.ofString (toString (q.den : Int))).length ≤ 301 := by rw [← My.cs_len, My.cs_str]; exact txt300 h1.b
  have g1 := log300 h1.a
  have g2 := log300 h1.b
  unfold numT N2 at *
  refine ⟨_, (psc (ps_if (pt_cmpR op_eq (pe_ix ixt (pv 0) pei (fun _ _ => rfl)) pei (nomark _)) (pso (ps_ret (pe_callTy call_str_int rfl T.z_str bt_str (pcn (pe_ix ixt (pv 0) pei (fun _ _ => rfl)) pnl)))) pss_nil)
  (pso (ps_ret (pe_op op_addS (pe_op op_addS (pe_callTy call_str_int rfl T.z_str bt_str (pcn (pe_ix ixt (pv 0) pei (fun _ _ => rfl)) pnl)) pe_str) (pe_callTy call_str_int rfl T.z_str bt_str (pcn (pe_ix ixt (pv 0) pei (fun _ _ => rfl)) pnl)))))), go _ _ (s_go (τ := [.fz _]) rfl ?_)⟩
  walk_at "trun"
  refine z_iteD (fun c => ?_) (fun c => ?_)
  · walk_at "trun"
    refine ru_str g1 ?_
    walk_at "trun"
    have e : Str.ofString (toString q.num) = shS q := shS_of (by rw [My.cs_str]; unfold My.shw; rw [if_pos c])
    rw [e]
    exact φ
  · walk_at "trun"
    refine ru_str g1 ?_
    walk_at "trun"
    refine ro_addS ?_ ?_
    · exact le_size (by show _ + 1 ≤ 1000; omega)
    walk_at "trun"
    refine ru_str g2 ?_
    walk_at "trun"
    refine ro_addS ?_ ?_
    · rw [Str.length_append]; exact le_size (by show _ + 1 + _ ≤ 1000; omega)
    walk_at "trun"
    have e : Str.ofString (toString q.num) ++ "/" ++ Str.ofString (toString (q.den : Int)) = shS q := shS_of (by rw [My.cs_app, My.cs_app, My.cs_str, My.cs_str]; unfold My.shw; rw [if_neg c, List.append_assoc]; rfl)
    rw [e]
    exact φ
def st_pow : SpT := fun _ as Φ _ => ∃ b e : Int, as = [.fz (.int b), .fz (.int e)] ∧ 2 ≤ b ∧ b ≤ 10 ∧ -200 ≤ e ∧ e ≤ 200 ∧ (QN 801 ((b : Rat) ^ e) → Φ (.fz (numT ((b : Rat) ^ e))))
theorem okT_power_of (T : Txt K mg t) : FnOk P w K mg base CX0 3 t.f_power_of t.d_power_of ["base", "exponent"] (toSp K st_pow) := by
  refine (ok_power_of (P := P) (w := w) (base := base) T).imp fun vs H Q E h => ?_
  obtain ⟨B, as, Φ, Ψ, rfl, rfl, bk, la, ⟨b, e, rfl, b0, b1, e0, e1, φ⟩, q, _⟩ := h
  obtain ⟨v, w', rfl, iv, iw⟩ := arl2 la
  cases iv
  cases iw
  exact ⟨b, e, rfl, b0, b1, by omega, by omega, newT bk q fun qn => φ (qn.up (by omega))⟩
def Lg (p : Int) (q : Rat) (E : Int) : Prop := (p : Rat) ^ E ≤ q ∧ q < (p : Rat) ^ (E + 1)
def st_below : SpT := fun _ as Φ _ => ∃ (p : Int) (q : Rat) (n : Nat), as = [.fz (.int p), .fz (numT q)] ∧ 2 ≤ p ∧ p ≤ 10 ∧ QN n q ∧ 0 < q.num ∧ n ≤ 800 ∧ ∀ E : Int, Below p q.num q.den E → -(n : Int) - 1 ≤ E → E ≤ n → Φ (.fz (.int E))
theorem okT_power_below (T : Txt K mg t) : FnOk P w K mg base CX0 1 t.f_power_below t.d_power_below ["base", "one"] (toSp K st_below) := by
  refine (ok_power_below (P := P) (w := w) (base := base) T).imp fun vs H Q E h => ?_
  obtain ⟨B, as, Φ, Ψ, rfl, rfl, bk, la, ⟨p, q', n, rfl, p0, p1, h1, h2, hn, φ⟩, q, _⟩ := h
  obtain ⟨v, w', rfl, iv, iw⟩ := arl2 la
  cases iv
  obtain ⟨r, rfl, s1⟩ := isN2 iw
  exact ⟨r, p, q'.num, q'.den, n, rfl, p0, p1, ⟨bk.i.tup s1, Int.natCast_pos.mpr q'.den_pos, h1.a, h1.b⟩, h2, hn, fun E hE e0 e1 => q (.int E) _ _ (.fz (.int E)) (Up.refl bk.i) .int (φ E hE e0 e1)⟩
theorem ro_eqTI {B : Bk} {K : Fg} {f : Bool → Bool} {x y : Kd} {τ : TSt} {Φ : TK} (hK : K = B.K) {ns ms : List Int} (r1 : Rk τ x (.tup (ns.map Tr.int))) (r2 : Rk τ y (.tup (ms.map Tr.int))) (q : Φ (.fz (.bl (f (decide (ns = ms))))) τ) : RO B (rEqT K f) x y τ Φ := fun σ F H v w Q r a b c => by
  subst hK
  obtain ⟨p, vs, rfl, s, l⟩ := r1.tuple r a
  obtain ⟨p2, ws, rfl, s2, l2⟩ := r2.tuple r b
  cases l.ints
  cases l2.ints
  exact ⟨p, p2, ns, ms, rfl, rfl, s, s2, c.pl r .bl q⟩
theorem one_lt {p : Int} (h : 2 ≤ p) : (1 : Rat) < (p : Rat) := Rat.intCast_lt_intCast.mpr (show (1 : Int) < p by omega)
theorem below_qv {p e f E : Int} (p2 : 2 ≤ p) (hf : 0 < f) (h : Below p e f E) : (p : Rat) ^ E ≤ My.qv e f ∧ My.qv e f < (p : Rat) ^ (E + 1) := by
  have hp : (0 : Rat) < (p : Rat) := My.cast_pos (by omega)
  have hf' := My.cast_pos hf
  have pn : ∀ n : Nat, (p : Rat) ^ (n : Int) = ((p ^ n : Int) : Rat) := fun n => zp_nat p n
  unfold My.qv
  rcases Int.le_total 0 E with z | z
  · obtain ⟨a, b⟩ := h.1 z
    have e1 : E = ((E.toNat : Nat) : Int) := by omega
    rw [← Rat.not_lt, Rat.div_lt_iff hf', Rat.div_lt_iff hf', Rat.not_lt]
    constructor
    · rw [e1, pn, ← Rat.intCast_mul]
      exact Rat.intCast_le_intCast.mpr (by rw [Int.mul_comm]; exact a)
    · rw [show E + 1 = ((E.toNat + 1 : Nat) : Int) by omega, pn, ← Rat.intCast_mul]
      exact Rat.intCast_lt_intCast.mpr (by rw [Int.mul_comm]; exact b)
  · rcases Int.lt_or_le E 0 with z2 | z2
    · obtain ⟨a, b⟩ := h.2 z2
      have q1 := My.zp_pos hp (((-E).toNat : Nat) : Int)
      have q2 := My.zp_pos hp (((-E - 1).toNat : Nat) : Int)
      have e1 : (p : Rat) ^ E = 1 / (p : Rat) ^ (((-E).toNat : Nat) : Int) := by
        rw [show E = -(((-E).toNat : Nat) : Int) by omega, Rat.zpow_neg]
        rw [show (-(-(((-E).toNat : Nat) : Int))).toNat = (-E).toNat by omega]
        grind
      have e2 : (p : Rat) ^ (E + 1) = 1 / (p : Rat) ^ (((-E - 1).toNat : Nat) : Int) := by
        rw [show E + 1 = -(((-E - 1).toNat : Nat) : Int) by omega, Rat.zpow_neg]
        grind
      rw [e1, e2]
      constructor
      · rw [← Rat.not_lt, Rat.div_lt_iff hf', Rat.not_lt]
        rw [show 1 / (p : Rat) ^ (((-E).toNat : Nat) : Int) * (f : Rat) = (f : Rat) / (p : Rat) ^ (((-E).toNat : Nat) : Int) by grind]
        rw [← Rat.not_lt, Rat.lt_div_iff q1, Rat.not_lt, pn, ← Rat.intCast_mul]
        exact Rat.intCast_le_intCast.mpr a
      · rw [Rat.div_lt_iff hf', show 1 / (p : Rat) ^ (((-E - 1).toNat : Nat) : Int) * (f : Rat) = (f : Rat) / (p : Rat) ^ (((-E - 1).toNat : Nat) : Int) by grind]
        rw [Rat.lt_div_iff q2, pn, ← Rat.intCast_mul]
        exact Rat.intCast_lt_intCast.mpr b
    · have : E = 0 := by omega
      subst this
      obtain ⟨a, b⟩ := h.1 (by omega)
      rw [← Rat.not_lt, Rat.div_lt_iff hf', Rat.div_lt_iff hf', Rat.not_lt]
      constructor
      · rw [show (0 : Int) = ((0 : Nat) : Int) from rfl, pn, ← Rat.intCast_mul]
        exact Rat.intCast_le_intCast.mpr (by rw [Int.mul_comm]; exact a)
      · rw [show (0 : Int) + 1 = ((0 + 1 : Nat) : Int) from rfl, pn, ← Rat.intCast_mul]
        exact Rat.intCast_lt_intCast.mpr (by rw [Int.mul_comm]; exact b)
theorem Lg.of {p : Int} {q : Rat} {E : Int} (p2 : 2 ≤ p) (h : Below p q.num q.den E) : Lg p q E := by
  have := below_qv p2 (Int.natCast_pos.mpr q.den_pos) h
  rw [qv_self] at this
  exact this
theorem Lg.le {p : Int} {q r : Rat} {E F : Int} (p2 : 2 ≤ p) (h : Lg p q E) (g : Lg p r F) (l : q ≤ r) : E ≤ F := by
  have := My.zp_exp (one_lt p2) h.1 (show q < (p : Rat) ^ (F + 1) by have := g.2; grind)
  omega
theorem Lg.eq {p : Int} {q : Rat} {E F : Int} (p2 : 2 ≤ p) (h : Lg p q E) (g : Lg p q F) : E = F := by
  have h1 := h.le p2 g Rat.le_refl
  have h2 := g.le p2 h Rat.le_refl
  omega
theorem num_eq {q r : Rat} : ([q.num, (q.den : Int)] = [r.num, (r.den : Int)]) ↔ q = r := by
  constructor
  · intro h
    simp only [List.cons.injEq, and_true] at h
    exact Rat.ext h.1 (by have := h.2; omega)
  · intro h; rw [h]
def st_bef : SpT := fun _ as Φ _ => ∃ (x y : Rat) (n m : Nat), as = [.fz (numT x), .fz (numT y)] ∧ QN n x ∧ QN m y ∧ n + m ≤ 3900 ∧ Φ (.fz (.bl (decide (x < y))))
theorem okT_comes_before (T : Txt K mg t) : FnOk P w K mg base CX0 2 t.f_comes_before t.d_comes_before ["one", "other"] (toSp K st_bef) := by
  have G_under := okT_under (P := P) (w := w) (base := base) T
  refine T.F_comes_before.ok sc_comes_before (toSp_len (fun B as Φ Ψ h => by obtain ⟨_, _, _, _, rfl, _⟩ := h; rfl)) (fun cdv A outer s H vs Q E hr h => ?_)
  obtain ⟨B, as, Φ, Ψ, rfl, hS, hx, go⟩ := toSp_open h
  obtain ⟨x, y, n, m, rfl, h1, h2, hn, φ⟩ := hS
  refine ⟨_, (psc (ps_if (pt_val (pe_isi isi_tuple rfl rfl T.z_isinstance T.z_tuple bt_tuple (pv 0))) (pso (ps_ret (pe_call G_under (hr.mono (by decide)) rfl T.m_under T.k_under T.b_under .nil pass0 (pcn (pv 0) (pcn (pv 1) pnl))))) pss_nil)
  (pso (ps_ret (pe_cmpR op_lt (pv 0) (pv 1) (nomark _))))), go _ _ (s_go (τ := [.fz _, .fz _]) rfl ?_)⟩
  rw [show numT x = Tr.tup [.int x.num, .int (x.den : Int)] from rfl] at *
  walk_at "trun"
  intro _ _
  refine ⟨x, y, n, m, rfl, h1, h2, hn, ?_⟩
  walk_at "trun"
  exact φ
def st_lst : SpT := fun _ as Φ _ => ∃ cs : List Rat, as = [.fz (.lst (cs.map numT))] ∧ cs ≠ [] ∧ (∀ c ∈ cs, QN 300 c) ∧ ∀ m, m ∈ cs → (∀ c ∈ cs, m ≤ c) → Φ (.fz (numT m))
theorem okT_least_of (T : Txt K mg t) : FnOk P w K mg base CX0 3 t.f_least_of t.d_least_of ["cells"] (toSp K st_lst) := by
  have G_comes_before := okT_comes_before (P := P) (w := w) (base := base) T
  refine T.F_least_of.ok sc_least_of (toSp_len (fun B as Φ Ψ h => by obtain ⟨_, rfl, _⟩ := h; rfl)) (fun cdv A outer s H vs Q E hr h => ?_)
  obtain ⟨B, as, Φ, Ψ, rfl, hS, hx, go⟩ := toSp_open h
  obtain ⟨cs, rfl, hne, hq, φ⟩ := hS
  obtain ⟨c0, r, rfl⟩ := List.exists_cons_of_ne_nil hne
  refine ⟨_, (psc (ps_set (i := 1) sc_least_of.nd rfl (Or.inl rfl) (pe_ix ixl (pv 0) pei (fun _ _ => rfl)))
  (psc (ps_for PassesOwn.never rfl (pi_list (pv 0)) (pg_name (i := 2) sc_least_of.nd rfl (Or.inl rfl)) (pso (ps_if (pt_val (pe_call G_comes_before (hr.mono (by decide)) rfl T.m_comes_before T.k_comes_before T.b_comes_before .nil pass0 (pcn (pv 2) (pcn (pv 1) pnl)))) (pso (ps_set (i := 1) sc_least_of.nd rfl (Or.inl rfl) (pv 2))) pss_nil)))
  (pso (ps_ret (pv 1))))), go _ _ (s_go (τ := [.fz _, .no, .no]) rfl ?_)⟩
  walk_at "trun"
  refine ro_ixL rfl Rk.fz (atI_nat (j := 0) (v := numT c0) rfl) ?_
  walk_at "trun"
  refine ⟨fun i τ => ∃ (m : Rat) (u : Sl), τ = [.fz (.lst ((c0 :: r).map numT)), .fz (numT m), u] ∧ m ∈ c0 :: r ∧ ∀ (j : Nat) (c : Rat), j < i → (c0 :: r)[j]? = some c → m ≤ c, ⟨c0, _, rfl, List.mem_cons_self, fun j c h => absurd h (Nat.not_lt_zero _)⟩, ?_, ?_⟩
  · rintro i tt τ hi ⟨m, u, rfl, hm, hle⟩
    obtain ⟨c, hc, rfl⟩ := of_map_at hi
    have hcm := List.mem_of_getElem? hc
    walk_at "trun"
    intro _ _
    refine ⟨c, m, 300, 300, rfl, hq c hcm, hq m hm, by decide, ?_⟩
    walk_at "trun"
    refine z_iteD (fun l => ?_) (fun l => ?_)
    · walk_at "trun"
      refine ⟨c, _, rfl, hcm, fun j c' hj hc' => ?_⟩
      rcases Nat.lt_or_ge j i with z | z
      · have := hle j c' z hc'; grind
      · have : j = i := by omega
        subst this
        rw [hc] at hc'
        cases hc'
        exact Rat.le_refl
    · walk_at "trun"
      refine ⟨m, _, rfl, hm, fun j c' hj hc' => ?_⟩
      rcases Nat.lt_or_ge j i with z | z
      · exact hle j c' z hc'
      · have : j = i := by omega
        subst this
        rw [hc] at hc'
        cases hc'
        exact Rat.not_lt.mp l
  · rintro τ ⟨m, u, rfl, hm, hle⟩
    rw [List.length_map] at hle
    walk_at "trun"
    refine φ m hm fun c hc => ?_
    obtain ⟨j, hj, e⟩ := List.getElem_of_mem hc
    exact hle j c hj (by rw [List.getElem?_eq_getElem hj, e])
def st_grt : SpT := fun _ as Φ _ => ∃ cs : List Rat, as = [.fz (.lst (cs.map numT))] ∧ cs ≠ [] ∧ (∀ c ∈ cs, QN 300 c) ∧ ∀ m, m ∈ cs → (∀ c ∈ cs, c ≤ m) → Φ (.fz (numT m))
theorem okT_greatest_of (T : Txt K mg t) : FnOk P w K mg base CX0 3 t.f_greatest_of t.d_greatest_of ["cells"] (toSp K st_grt) := by
  have G_comes_before := okT_comes_before (P := P) (w := w) (base := base) T
  refine T.F_greatest_of.ok sc_greatest_of (toSp_len (fun B as Φ Ψ h => by obtain ⟨_, rfl, _⟩ := h; rfl)) (fun cdv A outer s H vs Q E hr h => ?_)
  obtain ⟨B, as, Φ, Ψ, rfl, hS, hx, go⟩ := toSp_open h
  obtain ⟨cs, rfl, hne, hq, φ⟩ := hS
  obtain ⟨c0, r, rfl⟩ := List.exists_cons_of_ne_nil hne
  refine ⟨_, (psc (ps_set (i := 1) sc_greatest_of.nd rfl (Or.inl rfl) (pe_ix ixl (pv 0) pei (fun _ _ => rfl)))
  (psc (ps_for PassesOwn.never rfl (pi_list (pv 0)) (pg_name (i := 2) sc_greatest_of.nd rfl (Or.inl rfl)) (pso (ps_if (pt_val (pe_call G_comes_before (hr.mono (by decide)) rfl T.m_comes_before T.k_comes_before T.b_comes_before .nil pass0 (pcn (pv 1) (pcn (pv 2) pnl)))) (pso (ps_set (i := 1) sc_greatest_of.nd rfl (Or.inl rfl) (pv 2))) pss_nil)))
  (pso (ps_ret (pv 1))))), go _ _ (s_go (τ := [.fz _, .no, .no]) rfl ?_)⟩
  walk_at "trun"
  refine ro_ixL rfl Rk.fz (atI_nat (j := 0) (v := numT c0) rfl) ?_
  walk_at "trun"
  refine ⟨fun i τ => ∃ (m : Rat) (u : Sl), τ = [.fz (.lst ((c0 :: r).map numT)), .fz (numT m), u] ∧ m ∈ c0 :: r ∧ ∀ (j : Nat) (c : Rat), j < i → (c0 :: r)[j]? = some c → c ≤ m, ⟨c0, _, rfl, List.mem_cons_self, fun j c h => absurd h (Nat.not_lt_zero _)⟩, ?_, ?_⟩
  · rintro i tt τ hi ⟨m, u, rfl, hm, hle⟩
    obtain ⟨c, hc, rfl⟩ := of_map_at hi
    have hcm := List.mem_of_getElem? hc
    walk_at "trun"
    intro _ _
    refine ⟨m, c, 300, 300, rfl, hq m hm, hq c hcm, by decide, ?_⟩
    walk_at "trun"
    refine z_iteD (fun l => ?_) (fun l => ?_)
    · walk_at "trun"
      refine ⟨c, _, rfl, hcm, fun j c' hj hc' => ?_⟩
      rcases Nat.lt_or_ge j i with z | z
      · have := hle j c' z hc'; grind
      · have : j = i := by omega
        subst this
        rw [hc] at hc'
        cases hc'
        exact Rat.le_refl
    · walk_at "trun"
      refine ⟨m, _, rfl, hm, fun j c' hj hc' => ?_⟩
      rcases Nat.lt_or_ge j i with z | z
      · exact hle j c' z hc'
      · have : j = i := by omega
        subst this
        rw [hc] at hc'
        cases hc'
        exact Rat.not_lt.mp l
  · rintro τ ⟨m, u, rfl, hm, hle⟩
    rw [List.length_map] at hle
    walk_at "trun"
    refine φ m hm fun c hc => ?_
    obtain ⟨j, hj, e⟩ := List.getElem_of_mem hc
    exact hle j c hj (by rw [List.getElem?_eq_getElem hj, e])
def bkN (K : Fg) (F H : Hp) (a : Addr) : Bk where
  K := K
  F0 := F
  H0 := H
  W := fun _ => False
  J := fun _ => True
  rt := a
  jl := fun _ _ _ _ _ => trivial
  jm := fun _ _ _ h => h.elim
theorem bkN_ok {K : Fg} {H : Hp} {a : Addr} : BkOk (bkN K H H a) := ⟨Same.refl _, fun _ h => h.elim, fun _ h => h.elim, trivial⟩
theorem toSp_at {K : Fg} {S : SpT} {vs : List V} {H : Hp} {Q : VK} {E : XK} {a : Addr} {as : List Ar} {Φ : Kd → Prop} (la : ArL (bkN K H H a) H vs as) (s : S (bkN K H H a) as Φ fun _ => False) (q : ∀ v F' H' k, Same H H' → Same F' H' → Same H F' → RetOk (bkN K H H a) F' H' v k → Φ k → Q v H') : toSp K S vs H Q E :=
  ⟨bkN K H H a, as, Φ, fun _ => False, rfl, rfl, bkN_ok, la, s, fun v F' H' k u r p => q v F' H' k (fun p o e => u.h p o (fun h => h) e) u.i u.f r p, fun _ _ _ _ h => h.elim⟩
theorem d_go {B : Bk} {D : Ends} {t : TS} {τ : TSt} {n : Nat} {ts : List Ar} (h : startT n ts = τ) (q : SVD B D t τ) : SVD B D t (startT n ts) := by rw [h]; exact q
theorem open_at {K : Fg} {H : Hp} {vs : List V} {as : List Ar} {a : Addr} {D : Ends} {N : List Str} {t : TS} (la : ArL (bkN K H H a) H vs as) (h : SVD (bkN K H H a) D t (startT N.length as)) : t D (start N vs) H := h _ _ _ (rp_start (B := bkN K H H a) bkN_ok la)
theorem d_pair {B : Bk} {D : Ends} {τ : TSt} {i : Nat} {te : TE} {t : Tr} {Φ : List Tr → Prop} (g : Gt τ i (.fz t)) (h : EV B te τ fun k _ => ∃ ts, k = .nw (.lst ts) ∧ Φ ts)
    (hD : ∀ p v l F' H' ts, Up B B.F0 B.H0 F' H' → H' p = some (.tup [v, .ref l]) → Is B.K F' v t → Ow B.K F' H' l (.lst ts) → B.H0 l = none → Φ ts → D.rt (.ref p) H') : SVD B D (tRet (tTup (tCons (tVar i) (tCons te tNil)))) τ := fun σ F H r => by
  obtain ⟨v, e, iv⟩ := r.fz i _ g.eq
  refine ⟨v, e, ?_⟩
  refine h σ F H _ r fun w F1 H1 k τ1 f1 r1 ok1 n1 ⟨ts, ek, φ⟩ => ?_
  subst ek
  obtain ⟨l, rfl, ow, fl, nl, _⟩ := ok1
  refine ⟨show 2 ≤ sizeLine by decide, fun p hp => ?_⟩
  have u := r1.tup (vs := [v, .ref l]) hp
  exact hD p v l _ _ ts (r1.up.trans u) upd_same (iv.same (f1.f.trans u.f)) (ow.to u.f (fun o => u.h l o fun hw => r.wa l hw nl)) nl φ
def AxAt (K : Fg) (H H' : Hp) (x : V) (sc : Tr) (ts : List Tr) : Prop := ∃ p v l xs, x = .ref p ∧ H' p = some (.tup [v, .ref l]) ∧ H l = none ∧ H' l = some (.lst xs) ∧ IsL K H' xs ts ∧ Is K H' v sc
theorem AxAt.sub {K : Fg} {H0 H H' : Hp} {x : V} {sc : Tr} {ts : List Tr} (s : Same H0 H) (h : AxAt K H H' x sc ts) : AxAt K H0 H' x sc ts := by
  obtain ⟨p, v, l, xs, e, hp, n, hl, g, sa⟩ := h
  exact ⟨p, v, l, xs, e, hp, s.free n, hl, g, sa⟩
theorem rnd_qv {x y : Int} (hy : 0 < y) : rnd (My.qv x y) = (2 * x + y) / (2 * y) := by
  have hd : (0 : Int) < ((My.qv x y).den : Int) := Int.natCast_pos.mpr (My.qv x y).den_pos
  have e := My.eq_of_qv (a := (My.qv x y).num) (b := (My.qv x y).den) (t := x) (m := y) (by omega) (by omega) (qv_self _)
  unfold rnd
  generalize (My.qv x y).num = a at *
  generalize ((My.qv x y).den : Int) = b at *
  rw [← Int.mul_ediv_mul_of_pos_left (2 * a + b) (2 * b) hy, show (2 * a + b) * y = (2 * x + y) * b by rw [Int.add_mul, Int.add_mul, Int.mul_assoc, e, Int.mul_assoc, Int.mul_comm b y], show 2 * b * y = 2 * y * b by rw [Int.mul_assoc, Int.mul_comm b y, Int.mul_assoc], Int.mul_ediv_mul_of_pos_left _ _ hd]
theorem midZ {x : Int} (h1 : -1000000 ≤ x) (h2 : x ≤ 1000000) : Mid x := (show My.Bd 64 x by unfold My.Bd; omega).mono (by decide)
theorem d_seqN {B : Bk} {D : Ends} {s1 s2 : TS} {τ : TSt} (C : Prop) (hD : C → ∀ F' H', Up B B.F0 B.H0 F' H' → D.rt .non H') (h : SV B s1 τ ⟨fun τ' => SVD B D s2 τ', fun k => k = .fz .non ∧ C, fun _ => False, fun _ => False⟩) : SVD B D (tSeq s1 s2) τ := fun σ F H r =>
  h σ F H _ r ⟨fun σ' F' H' τ' _ r' h' => h' σ' F' H' r', fun v F' H' k u ok z => by
    obtain ⟨z, c⟩ := z
    subst z
    cases (show Is B.K F' v .non from ok)
    exact hD c F' H' u, fun _ _ _ _ _ _ z => z.elim, fun _ _ _ _ _ _ z => z.elim⟩
theorem d_fix {B : Bk} {D : Ends} {s : TS} {τ τ' : TSt} {k : Nat} {t : Tr} (g : Gt τ k (.own t)) (st : Sto τ k (.fz t) τ') (h : SVD B D s τ') : SVD B D s τ := fun σ F H r => by
  obtain ⟨F2, l, e', sF, r2, _⟩ := r.fixS g.eq
  rw [st.eq] at r2
  exact h σ F2 H r2
theorem lc_rng {os : List Tr} {n : Nat} {f : Nat → Tr} (hl : os.length = n) (h : ∀ (j : Nat) (o : Tr), os[j]? = some o → o = f j) : os = (List.range n).map f := by
  refine List.ext_getElem? fun j => ?_
  rw [List.getElem?_map]
  by_cases hj : j < n
  · rw [List.getElem?_range hj, List.getElem?_eq_getElem (by omega)]
    exact congrArg some (h j _ (List.getElem?_eq_getElem (by omega)))
  · rw [List.getElem?_eq_none (by omega), List.getElem?_eq_none (by rw [List.length_range]; omega)]
    rfl
theorem lc_maps {α : Type} {os : List Tr} {xs : List α} {f : α → Tr} (hl : os.length = xs.length) (h : ∀ (i : Nat) (o : Tr), os[i]? = some o → ∃ x, xs[i]? = some x ∧ o = f x) : os = xs.map f := by
  apply List.ext_getElem?
  intro i
  rw [List.getElem?_map]
  cases e : os[i]? with
  | none =>
    have : xs[i]? = none := by rw [List.getElem?_eq_none_iff] at e ⊢; omega
    rw [this]; rfl
  | some o =>
    obtain ⟨x, ex, rfl⟩ := h i o e
    rw [ex]; rfl
theorem max_len {ts : List Str} (h : ts ≠ []) : IsMax (ts.map fun t => (t.length : Int)) (lng ts) := by
  refine ⟨?_, fun n hn => ?_⟩
  · rcases lng_mem ts with z | ⟨t, ht, e⟩
    · cases ts with
      | nil => exact absurd rfl h
      | cons x r =>
        have := lng_ge (x :: r) x List.mem_cons_self
        exact List.mem_map.mpr ⟨x, List.mem_cons_self, by omega⟩
    · exact List.mem_map.mpr ⟨t, ht, e⟩
  · obtain ⟨t, ht, rfl⟩ := List.mem_map.mp hn
    exact lng_ge ts t ht
theorem ru_lenZ {B : Bk} {τ : TSt} {Φ : TK} {z : Str} (h : z.length ≤ sizeLine) (q : Φ (.fz (.int (z.length : Int))) τ) : RU B (fun v H Q => ∃ z, [v] = [V.str z] ∧ z.length ≤ sizeLine ∧ Q (.int z.length) H) (.fz (.str z)) τ Φ := fun σ F H v Q r a c => by
  cases (show Is B.K F v (.str z) from a)
  exact ⟨z, rfl, h, c.pl r .int q⟩
theorem some_map {α : Type} {g : α → Tr} : ∀ {xs : List α} {os : List (Option Tr)}, os.length = xs.length → (∀ (j : Nat) (o : Option Tr), os[j]? = some o → ∃ x, xs[j]? = some x ∧ o = some (g x)) → os.filterMap id = xs.map g
  | [], os, hl, _ => by rw [List.eq_nil_of_length_eq_zero hl]; rfl
  | x :: xs, [], hl, _ => by simp at hl
  | x :: xs, o :: os, hl, h => by
    obtain ⟨x', e, rfl⟩ := h 0 o rfl
    cases e
    have ih := some_map (g := g) (xs := xs) (os := os) (by simpa using hl) fun j o e => h (j + 1) o e
    show g x :: os.filterMap id = _
    rw [ih]
    rfl
theorem s_fix {B : Bk} {s : TS} {τ τ' : TSt} {D' : ET} {k : Nat} {t : Tr} (g : Gt τ k (.own t)) (st : Sto τ k (.fz t) τ') (h : SV B s τ' D') : SV B s τ D' := fun σ F H D r e => by
  obtain ⟨F2, l, e', sF, r2, _⟩ := r.fixS g.eq
  rw [st.eq] at r2
  exact h σ F2 H D r2 (e.on sF)
theorem flo_qv {x y : Int} (hy : 0 < y) : flo (My.qv x y) = x / y := by
  have hd : (0 : Int) < ((My.qv x y).den : Int) := Int.natCast_pos.mpr (My.qv x y).den_pos
  have e := My.eq_of_qv (a := (My.qv x y).num) (b := (My.qv x y).den) (t := x) (m := y) (by omega) (by omega) (qv_self _)
  unfold flo
  rw [← Int.mul_ediv_mul_of_pos_left (My.qv x y).num _ hy, e, Int.mul_comm ((My.qv x y).den : Int) y, Int.mul_ediv_mul_of_pos_left x y hd]
theorem drop_at {α : Type} {xs : List α} {i : Nat} {x : α} (h : xs[i]? = some x) : xs.drop i = x :: xs.drop (i + 1) := by
  obtain ⟨hi, e⟩ := List.getElem?_eq_some_iff.mp h
  rw [List.drop_eq_getElem_cons hi, e]
theorem dg_len1 (n : Nat) : 1 ≤ (My.dg n).length := by
  have := My.dg_ne n
  cases e : My.dg n with
  | nil => exact absurd e this
  | cons a b => simp
def st_widest : SpT := fun _ as Φ _ => ∃ ts : List Str, as = [.fz (.lst (ts.map Tr.str))] ∧ ts.length ≤ 1000 ∧ (∀ z ∈ ts, z.length ≤ 1000) ∧ Φ (.fz (.int (6 * lng ts)))
theorem okT_widest_of (T : Txt K mg t) : FnOk P w K mg base CX0 1 t.f_widest_of t.d_widest_of ["labels"] (toSp K st_widest) := by
  refine (ok_widest_of (P := P) (w := w) (base := base) T).imp fun vs H Q E h => ?_
  obtain ⟨B, as, Φ, Ψ, rfl, rfl, bk, la, ⟨ts, rfl, h1, h2, φ⟩, q, _⟩ := h
  obtain ⟨v, rfl, iv⟩ := arl1' la
  cases iv.same bk.i with
  | lst hs il =>
    rw [il.strs] at hs
    exact ⟨_, ts, rfl, ⟨hs, h1, h2⟩, fun H' sH => q (.int _) _ H' (.fz (.int _)) (upT bk rfl rfl sH) .int φ⟩
def wayS (up : Bool) : Str := if up = true then "upright" else "level"
def tfit (ls : List Str) (g : Rat) (up : Bool) : Bool := if up = true then !decide (g < My.qv 12 1) else decide (6 * lng ls ≤ 60) && !decide (g < My.qv (6 + 6 * lng ls) 1)
def st_tfit : SpT := fun _ as Φ _ => ∃ (ls : List Str) (g : Rat) (up : Bool), as = [.fz (.lst (ls.map Tr.str)), .fz (numT g), .fz (.str (wayS up))] ∧ ls.length ≤ 1000 ∧ (∀ z ∈ ls, z.length ≤ 1000) ∧ QN 1000 g ∧ Φ (.fz (.bl (tfit ls g up)))
theorem okT_labels_fit (T : Txt K mg t) : FnOk P w K mg base CX0 3 t.f_labels_fit t.d_labels_fit ["labels", "gap", "way"] (toSp K st_tfit) := by
  have G_widest_of := okT_widest_of (P := P) (w := w) (base := base) T
  have G_under := okT_under (P := P) (w := w) (base := base) T
  have G_number := okT_number (P := P) (w := w) (base := base) T
  obtain ⟨ds_number, DV_number, BD_number⟩ := T.b_number1
  refine T.F_labels_fit.ok sc_labels_fit (toSp_len (fun B as Φ Ψ h => by obtain ⟨_, _, _, rfl, _⟩ := h; rfl)) (fun cdv A outer s H vs Q E hr h => ?_)
  obtain ⟨B, as, Φ, Ψ, rfl, hS, hx, go⟩ := toSp_open h
  obtain ⟨ls, g, up, rfl, h2, h3, h4, φ⟩ := hS
  have b1 : My.Bd 64 1 := by unfold My.Bd; decide
  have b12 : My.Bd 64 12 := by unfold My.Bd; decide
  refine ⟨_, (psc (ps_if (pt_cmpR op_eq (pv 2) pe_str (nomark _)) (pso (ps_ret (pe_not (pe_call G_under (hr.mono (by decide)) rfl T.m_under T.k_under T.b_under .nil pass0 (pcn (pv 1) (pcn (pe_call G_number (hr.mono (by decide)) rfl T.m_number T.k_number BD_number DV_number passE0 (pcn (pe_glob (v := .int 12) rfl T.g_LEAST_UPRIGHT ⟨_, rfl⟩) pnl)) pnl)))))) pss_nil)
  (psc (ps_set (i := 3) sc_labels_fit.nd rfl (Or.inl rfl) (pe_call G_widest_of (hr.mono (by decide)) rfl T.m_widest_of T.k_widest_of T.b_widest_of .nil pass0 (pcn (pv 0) pnl)))
  (pso (ps_ret (pe_and (pe_cmpR op_le (pv 3) (pe_glob (v := .int 60) rfl T.g_WIDEST_LABEL ⟨_, rfl⟩) (nomark _)) (pe_one (pe_not (pe_call G_under (hr.mono (by decide)) rfl T.m_under T.k_under T.b_under .nil pass0 (pcn (pv 1) (pcn (pe_call G_number (hr.mono (by decide)) rfl T.m_number T.k_number BD_number DV_number passE0 (pcn (pe_op op_add (pe_glob (v := .int 6) rfl T.g_ROOM_BESIDE ⟨_, rfl⟩) (pv 3)) pnl)) pnl)))))))))), go _ _ (s_go (τ := [.fz _, .fz _, .fz _, .no]) rfl ?_)⟩
  unfold tfit at φ
  cases up with
  | true =>
    rw [if_pos rfl] at φ
    rw [show wayS true = "upright" from rfl]
    walk_at "trun"
    refine ite_t (by decide) ?_
    walk_at "trun"
    intro _ _
    refine a_num (n := 64) b12 b1 (by decide) (by decide) fun q1 => ?_
    walk_at "trun"
    intro _ _
    refine ⟨g, _, 1000, 64, rfl, h4, q1, by decide, ?_⟩
    walk_at "trun"
    exact φ
  | false =>
    rw [if_neg Bool.false_ne_true] at φ
    rw [show wayS false = "level" from rfl]
    walk_at "trun"
    refine ite_f (by decide) ?_
    walk_at "trun"
    intro _ _
    refine ⟨ls, rfl, h2, h3, ?_⟩
    walk_at "trun"
    by_cases c : 6 * lng ls ≤ 60
    · have bl : My.Bd 64 (6 + 6 * lng ls) := by
        have := lng_nn ls
        unfold My.Bd; omega
      rw [decide_eq_true c, Bool.true_and] at φ
      rw [decide_eq_true c]
      walk_at "trun"
      intro _ _
      refine a_num (n := 64) bl b1 (by decide) (by decide) fun q1 => ?_
      walk_at "trun"
      intro _ _
      refine ⟨g, _, 1000, 64, rfl, h4, q1, by decide, ?_⟩
      walk_at "trun"
      exact φ
    · rw [decide_eq_false c, Bool.false_and] at φ
      rw [decide_eq_false c]
      walk_at "trun"
      exact φ
theorem fit_up {ls : List Str} {len g : Int} (hg : 0 < g) : (tfit ls (My.qv len g) true = true) ↔ 12 * g ≤ len := by
  unfold tfit
  rw [if_pos rfl, Bool.not_eq_true', decide_eq_false_iff_not, My.lt_qv hg (by decide)]
  omega
theorem fit_lv {ls : List Str} {len g : Int} (hg : 0 < g) : (tfit ls (My.qv len g) false = true) ↔ lng ls ≤ 10 ∧ (6 + 6 * lng ls) * g ≤ len := by
  unfold tfit
  rw [if_neg Bool.false_ne_true, Bool.and_eq_true, decide_eq_true_eq, Bool.not_eq_true', decide_eq_false_iff_not, My.lt_qv hg (by decide), Int.mul_one]
  omega
theorem pt_bd {e : Int} (h0 : -40 ≤ e) (h1 : e ≤ 40) : QN 140 ((10 : Rat) ^ e) := by
  have o1 : My.Bd 140 1 := by unfold My.Bd; decide +kernel
  have bd : ∀ n : Nat, n ≤ 40 → My.Bd 140 ((10 : Int) ^ n) := fun n h => by
    unfold My.Bd
    rw [Int.natAbs_pow]
    exact Nat.lt_of_le_of_lt (Nat.pow_le_pow_right (by decide) h) (by decide +kernel)
  have pos : ∀ n : Nat, ((10 : Rat) ^ (n : Int)) = (((10 : Int) ^ n : Int) : Rat) := fun n => zp_nat 10 n
  rcases Int.lt_or_le e 0 with z | z
  · have hp : 0 < (10 : Int) ^ (-e).toNat := Int.pow_pos (by decide)
    have e1 : (10 : Rat) ^ e = 1 / (10 : Rat) ^ (((-e).toNat : Nat) : Int) := by
      rw [show e = -(((-e).toNat : Nat) : Int) by omega, Rat.zpow_neg]
      rw [show (-(-(((-e).toNat : Nat) : Int))).toNat = (-e).toNat by omega]
      grind
    have e2 : My.qv 1 ((10 : Int) ^ (-e).toNat) = (10 : Rat) ^ e := by
      rw [e1, pos]
      rfl
    obtain ⟨a, b⟩ := qv_num hp (by show Nat.gcd 1 _ = 1; exact Nat.gcd_one_left _) e2
    exact ⟨by rw [← a]; exact o1, by rw [← b]; exact bd _ (by omega)⟩
  · have e1 : (10 : Rat) ^ e = (((10 : Int) ^ e.toNat : Int) : Rat) := by rw [← pos, show ((e.toNat : Nat) : Int) = e by omega]
    rw [e1]
    exact ⟨bd _ (by omega), o1⟩
theorem pt_pos (e : Int) : (0 : Rat) < (10 : Rat) ^ e := My.zp_pos (by decide) e
theorem pt_succ (e : Int) : (10 : Rat) ^ (e + 1) = 10 * (10 : Rat) ^ e := by
  rw [Rat.zpow_add (by decide), Rat.zpow_one]
  grind
def stepsL (j : Int) : Nat → List Rat
  | 0 => []
  | n + 1 => My.qv 1 1 * (10 : Rat) ^ j :: My.qv 2 1 * (10 : Rat) ^ j :: My.qv 5 1 * (10 : Rat) ^ j :: stepsL (j + 1) n
theorem steps_snoc : ∀ (n : Nat) (j : Int), stepsL j (n + 1) = stepsL j n ++ [My.qv 1 1 * (10 : Rat) ^ (j + (n : Int)), My.qv 2 1 * (10 : Rat) ^ (j + (n : Int)), My.qv 5 1 * (10 : Rat) ^ (j + (n : Int))]
  | 0, j => by
    show [_, _, _] = [] ++ _
    simp
  | n + 1, j => by
    show _ :: _ :: _ :: stepsL (j + 1) (n + 1) = (_ :: _ :: _ :: stepsL (j + 1) n) ++ _
    rw [steps_snoc n (j + 1), show j + 1 + (n : Int) = j + ((n + 1 : Nat) : Int) by omega]
    rfl
theorem steps_len : ∀ (n : Nat) (j : Int), (stepsL j n).length = 3 * n
  | 0, _ => rfl
  | n + 1, j => by
    show (stepsL (j + 1) n).length + 1 + 1 + 1 = _
    rw [steps_len]
    omega
theorem steps_mem : ∀ {n : Nat} {j : Int} {s : Rat}, s ∈ stepsL j n → ∃ (d : Int) (e : Int), (d = 1 ∨ d = 2 ∨ d = 5) ∧ j ≤ e ∧ e < j + (n : Int) ∧ s = My.qv d 1 * (10 : Rat) ^ e
  | n + 1, j, s, h => by
    rcases List.mem_cons.mp h with rfl | h
    · exact ⟨1, j, .inl rfl, by omega, by omega, rfl⟩
    rcases List.mem_cons.mp h with rfl | h
    · exact ⟨2, j, .inr (.inl rfl), by omega, by omega, rfl⟩
    rcases List.mem_cons.mp h with rfl | h
    · exact ⟨5, j, .inr (.inr rfl), by omega, by omega, rfl⟩
    obtain ⟨d, e, h1, h2, h3, h4⟩ := steps_mem h
    exact ⟨d, e, h1, by omega, by omega, h4⟩
def roundL (j : Int) (n : Nat) (most : Rat) : List Rat := (stepsL j n).filter fun s => decide (s ≤ most)
def cei (q : Rat) : Int := -(flo (My.qv 0 1 - q))
def st_ceil : SpT := fun _ as Φ _ => ∃ (q : Rat) (n : Nat), as = [.fz (numT q)] ∧ QN n q ∧ n ≤ 2900 ∧ Φ (.fz (.int (cei q)))
theorem okT_ceiling_of (T : Txt K mg t) : FnOk P w K mg base CX0 4 t.f_ceiling_of t.d_ceiling_of ["one"] (toSp K st_ceil) := by
  have G_floor_of := okT_floor_of (P := P) (w := w) (base := base) T
  have G_minus := okT_minus (P := P) (w := w) (base := base) T
  have G_number := okT_number (P := P) (w := w) (base := base) T
  obtain ⟨ds_number, DV_number, BD_number⟩ := T.b_number1
  refine T.F_ceiling_of.ok sc_ceiling_of (toSp_len (fun B as Φ Ψ h => by obtain ⟨_, _, rfl, _⟩ := h; rfl)) (fun cdv A outer s H vs Q E hr h => ?_)
  obtain ⟨B, as, Φ, Ψ, rfl, hS, hx, go⟩ := toSp_open h
  obtain ⟨q, n, rfl, h1, hn, φ⟩ := hS
  have b0 : My.Bd 64 0 := by unfold My.Bd; decide
  have b1 : My.Bd 64 1 := by unfold My.Bd; decide
  refine ⟨_, (pso (ps_ret (pe_un un_neg (pe_call G_floor_of (hr.mono (by decide)) rfl T.m_floor_of T.k_floor_of T.b_floor_of .nil pass0 (pcn (pe_call G_minus (hr.mono (by decide)) rfl T.m_minus T.k_minus T.b_minus .nil pass0 (pcn (pe_call G_number (hr.mono (by decide)) rfl T.m_number T.k_number BD_number DV_number passE0 (pcn pei pnl)) (pcn (pv 0) pnl))) pnl))))), go _ _ (s_go (τ := [.fz _]) rfl ?_)⟩
  walk_at "trun"
  intro _ _
  refine a_num (n := 64) b0 b1 (by decide) (by decide) fun q1 => ?_
  walk_at "trun"
  intro _ _
  refine a_two2 q1 h1 (by omega) trivial fun q2 => ?_
  walk_at "trun"
  intro _ _
  refine ⟨_, _, rfl, q2, by omega, ?_⟩
  walk_at "trun"
  exact φ
theorem filt_map {p : Rat → Prop} [DecidablePred p] : ∀ {xs : List Rat} {os : List (Option Tr)}, os.length = xs.length → (∀ (j : Nat) (o : Option Tr), os[j]? = some o → ∃ x, xs[j]? = some x ∧ o = if p x then some (numT x) else none) → os.filterMap id = (xs.filter fun x => decide (p x)).map numT
  | [], os, hl, _ => by rw [List.eq_nil_of_length_eq_zero hl]; rfl
  | x :: xs, [], hl, _ => by simp at hl
  | x :: xs, o :: os, hl, h => by
    obtain ⟨x', e, ho⟩ := h 0 o rfl
    cases e
    have ih := filt_map (p := p) (xs := xs) (os := os) (by simpa using hl) fun j o e => h (j + 1) o e
    rw [List.filterMap_cons, ho, List.filter_cons]
    by_cases hb : p x
    · rw [if_pos hb, if_pos (decide_eq_true hb)]
      show numT x :: os.filterMap id = _
      rw [ih]
      rfl
    · rw [if_neg hb, if_neg (by rw [decide_eq_false hb]; exact Bool.false_ne_true)]
      exact ih
theorem low_bd {x y : Int} {n : Nat} (hy : 0 < y) (hx : My.Bd n x) (hb : My.Bd n y) : QN n (My.qv x y) := by
  obtain ⟨p1, p2, p3⟩ := low_ok (tp := x) (bt := y) hy
  obtain ⟨e1, e2⟩ := qv_num p1 p2 p3
  have g0 : (0 : Int) < ((Int.gcd x y : Nat) : Int) := Int.natCast_pos.mpr (Int.gcd_pos_of_ne_zero_right _ (by omega))
  have m1 : x / ((Int.gcd x y : Nat) : Int) * ((Int.gcd x y : Nat) : Int) = x := Int.ediv_mul_cancel (Int.gcd_dvd_left ..)
  have m2 : y / ((Int.gcd x y : Nat) : Int) ≤ y := Int.ediv_le_self _ (by omega)
  have m3 : (x / ((Int.gcd x y : Nat) : Int)).natAbs ≤ x.natAbs := by
    have := congrArg Int.natAbs m1
    rw [Int.natAbs_mul] at this
    rw [← this]
    exact Nat.le_mul_of_pos_right _ (by omega)
  refine ⟨?_, ?_⟩
  · rw [← e1]; exact Nat.lt_of_le_of_lt m3 hx
  · rw [← e2]
    refine Nat.lt_of_le_of_lt ?_ hb
    have := Int.ediv_nonneg (show 0 ≤ y by omega) (Int.le_of_lt g0)
    omega
theorem step_qn {d e : Int} (hd : d = 1 ∨ d = 2 ∨ d = 5) (h0 : -40 ≤ e) (h1 : e ≤ 40) : QN 149 (My.qv d 1 * (10 : Rat) ^ e) := by
  have qa := (pt_bd h0 h1).a
  have qb : My.Bd 149 (((10 : Rat) ^ e).den : Int) := (pt_bd h0 h1).b.mono (by decide)
  have hd2 : (0 : Int) < (((10 : Rat) ^ e).den : Int) := Int.natCast_pos.mpr ((10 : Rat) ^ e).den_pos
  have e1 : My.qv d 1 * (10 : Rat) ^ e = My.qv (d * ((10 : Rat) ^ e).num) ((10 : Rat) ^ e).den := by
    conv => lhs; rw [← qv_self ((10 : Rat) ^ e)]
    unfold My.qv
    rw [Rat.intCast_mul]
    grind
  rw [e1]
  generalize ((10 : Rat) ^ e).num = x at *
  generalize (((10 : Rat) ^ e).den : Int) = y at *
  have bx : My.Bd 149 (d * x) := (show My.Bd (8 + 140) (d * x) from (show My.Bd 8 d by unfold My.Bd; omega).mul qa).mono (by decide)
  exact low_bd hd2 bx qb
def st_round : SpT := fun _ as Φ _ => ∃ (least most : Rat), as = [.fz (numT least), .fz (numT most)] ∧ QN 799 least ∧ QN 799 most ∧ 0 < least.num ∧ ∀ (E : Int), Lg 10 least E → -30 ≤ E ∧ ∃ N : Nat, E + (N : Int) ≤ 35 ∧ most < (10 : Rat) ^ (E + (N : Int)) ∧ (∀ n : Nat, (n : Int) < (N : Int) → (10 : Rat) ^ (E + (n : Int)) ≤ most) ∧ Φ (.nw (.lst ((roundL E N most).map numT)))
theorem okT_round_steps (T : Txt K mg t) : FnOk P w K mg base CX0 4 t.f_round_steps t.d_round_steps ["least", "most"] (toSp K st_round) := by
  have G_power_of := okT_power_of (P := P) (w := w) (base := base) T
  have G_power_below := okT_power_below (P := P) (w := w) (base := base) T
  have G_times := okT_times (P := P) (w := w) (base := base) T
  have G_under := okT_under (P := P) (w := w) (base := base) T
  have G_number := okT_number (P := P) (w := w) (base := base) T
  obtain ⟨ds_number, DV_number, BD_number⟩ := T.b_number1
  refine T.F_round_steps.ok sc_round_steps (toSp_len (fun B as Φ Ψ h => by obtain ⟨_, _, rfl, _⟩ := h; rfl)) (fun cdv A outer s H vs Q E hr h => ?_)
  obtain ⟨B, as, Φ, Ψ, rfl, hS, hx, go⟩ := toSp_open h
  obtain ⟨least, most, rfl, h1, h2, h3, φ⟩ := hS
  have b1 : My.Bd 8 1 := by unfold My.Bd; decide
  have b10 : My.Bd 8 10 := by unfold My.Bd; decide
  refine ⟨_, (psc (ps_set (i := 2) sc_round_steps.nd rfl (Or.inr rfl) (pe_call G_power_of (hr.mono (by decide)) rfl T.m_power_of T.k_power_of T.b_power_of .nil pass0 (pcn pei (pcn (pe_call G_power_below (hr.mono (by decide)) rfl T.m_power_below T.k_power_below T.b_power_below .nil pass0 (pcn pei (pcn (pv 0) pnl))) pnl))))
  (psc (ps_set (i := 3) sc_round_steps.nd rfl (Or.inl rfl) (pe_lst pnl))
  (psc (ps_while PassesOwn.never (pt_not (pt_val (pe_call G_under (hr.mono (by decide)) rfl T.m_under T.k_under T.b_under .nil pass0 (pcn (pv 1) (pcn (pv 2) pnl))))) (psc (ps_expr (pe_bm PySem.F.plainAttrs_list PySem.F.slot_list_extend PySem.F.type_list_extend mt_extend (pv 3) (pcn (pe_lc rfl (compOk_of (fr := [("power", 2)]) (osc := defScope s_round_steps) (N := ["least", "most", "power", "steps"]) rfl rfl (by decide +kernel)) (pi_tup (pe_tup (pcn pei (pcn pei (pcn pei pnl))))) (fun _ _ _ _ _ => (pe_call G_times (hr.mono (by decide)) rfl T.m_times T.k_times T.b_times .nil pass0 (pcn (pe_call G_number (hr.mono (by decide)) rfl T.m_number T.k_number BD_number DV_number passE0 (pcn (pv 0) pnl)) (pcn (pv 1) pnl))))) pnl)))
  (pso (ps_set (i := 2) sc_round_steps.nd rfl (Or.inr rfl) (pe_call G_times (hr.mono (by decide)) rfl T.m_times T.k_times T.b_times .nil pass0 (pcn (pe_call G_number (hr.mono (by decide)) rfl T.m_number T.k_number BD_number DV_number passE0 (pcn pei pnl)) (pcn (pv 2) pnl)))))))
  (pso (ps_ret (pe_lcIf (tg := "step") (fr := [("most", 1)]) rfl (compOkG_of (osc := defScope s_round_steps) (N := ["least", "most", "power", "steps"]) rfl rfl (by decide +kernel)) (pi_list (pv 3)) (fun _ _ _ _ _ => (pt_not (pt_val (pe_call G_under (hr.mono (by decide)) rfl T.m_under T.k_under T.b_under .nil pass0 (pcn (pv 1) (pcn (pv 0) pnl)))))) (fun _ _ _ _ _ => (pv 0)))))))), go _ _ (s_go (τ := [.fz _, .fz _, .no, .no]) rfl ?_)⟩
  walk_at "trun"
  intro _ _
  refine ⟨10, least, 799, rfl, by decide, by decide, h1, h3, by decide, fun E hE _ _ => ?_⟩
  obtain ⟨e0, N, e1, hN, hle, φ⟩ := φ E (Lg.of (by decide) hE)
  have pc : ((10 : Int) : Rat) = 10 := rfl
  have eN : -30 ≤ E + (N : Int) := by omega
  walk_at "trun"
  intro _ _
  refine ⟨10, E, rfl, by decide, by decide, by omega, by omega, fun _ => ?_⟩
  rw [pc]
  walk_at "trun"
  refine s_while (fun n τ => ∃ i : Nat, n = N - i ∧ i ≤ N ∧ τ = [.fz (numT least), .fz (numT most), .fz (numT ((10 : Rat) ^ (E + (i : Int)))), .own (.lst ((stepsL E i).map numT))]) N ⟨0, by omega, by omega, by rw [show E + ((0 : Nat) : Int) = E by omega]; rfl⟩ ?_
  rintro n τ ⟨i, rfl, hi, rfl⟩
  have qe := pt_bd (e := E + (i : Int)) (by omega) (by omega)
  have sl := steps_len i E
  walk_at "trun"
  intro _ _
  refine ⟨most, _, 799, 140, rfl, h2, qe, by decide, ?_⟩
  walk_at "trun"
  refine z_iteD (fun c => ?_) (fun c => ?_)
  rotate_left
  · have iN : i < N := by
      rcases Nat.lt_or_ge i N with z | z
      · exact z
      · have : i = N := by omega
        subst this
        exact absurd hN c
    refine s_seq ?_
    refine s_drop ?_
    refine e_ext rfl ?_
    walk_at "trun"
    refine ⟨3, _, rfl, by walk_at "rk", ?_⟩
    walk_at "trun"
    refine e_lc (i_tup rfl ?_)
    walk_at "trun"
    refine ⟨_, .fz (by walk_at "tg") .nil, show 3 ≤ 100000 by decide, fun j o => ∃ d, [(1 : Int), 2, 5][j]? = some d ∧ o = numT (My.qv d 1 * (10 : Rat) ^ (E + (i : Int))), fun j tt ht => ?_, fun os hl2 ho => ?_⟩
    · obtain ⟨d, hd, rfl, db⟩ : ∃ d : Int, [(1 : Int), 2, 5][j]? = some d ∧ tt = .int d ∧ My.Bd 8 d := by
        match j, ht with
        | 0, h => cases h; exact ⟨1, rfl, rfl, by unfold My.Bd; decide⟩
        | 1, h => cases h; exact ⟨2, rfl, rfl, by unfold My.Bd; decide⟩
        | 2, h => cases h; exact ⟨5, rfl, rfl, by unfold My.Bd; decide⟩
      walk_at "trun"
      intro _ _
      refine a_num (n := 8) db b1 (by decide) (by decide) fun q1 => ?_
      walk_at "trun"
      intro _ _
      refine a_two2 q1 qe (by decide) trivial fun q2 => ?_
      walk_at "trun"
      exact ⟨d, hd, rfl⟩
    obtain rfl := lc_maps (xs := [(1 : Int), 2, 5]) (f := fun d => numT (My.qv d 1 * (10 : Rat) ^ (E + (i : Int)))) hl2 ho
    refine ⟨_, _, _, rfl, by walk_at "tg", by rw [List.length_map, sl]; show _ + 3 ≤ _; omega, by walk_at "ts", ?_⟩
    walk_at "trun"
    intro _ _
    refine a_num (n := 8) b10 b1 (by decide) (by decide) fun q1 => ?_
    walk_at "trun"
    intro _ _
    refine a_two2 q1 qe (by decide) trivial fun q2 => ?_
    walk_at "trun"
    refine ⟨N - (i + 1), by omega, i + 1, rfl, by omega, ?_⟩
    rw [steps_snoc, List.map_append, show E + ((i + 1 : Nat) : Int) = E + (i : Int) + 1 by omega, pt_succ, My.qv_int]
    rfl
  · have iN : i = N := by
      rcases Nat.lt_or_ge i N with z | z
      · have := hle i (by omega)
        exact absurd c (Rat.not_lt.mpr this)
      · omega
    subst iN
    walk_at "trun"
    refine e_lcIf (i_list rfl ?_)
    walk_at "trun"
    refine ⟨_, .fz (by walk_at "tg") .nil, by rw [List.length_map, sl]; omega, fun j o => ∃ s, (stepsL E i)[j]? = some s ∧ o = if s ≤ most then some (numT s) else none, fun j tt ht => ?_, fun os hl2 ho => ?_⟩
    · obtain ⟨s', hs, rfl⟩ := of_map_at ht
      obtain ⟨d, e, hd, d0, d1, rfl⟩ := steps_mem (List.mem_of_getElem? hs)
      have qs : QN 149 (My.qv d 1 * (10 : Rat) ^ e) := step_qn hd (by omega) (by omega)
      walk_at "trun"
      intro _ _
      refine ⟨most, _, 799, 149, rfl, h2, qs, by decide, ?_⟩
      walk_at "trun"
      refine z_iteD (fun c => ?_) (fun c => ?_)
      rotate_left
      · walk_at "trun"
        exact ⟨_, hs, by rw [if_pos (Rat.not_lt.mp c)]⟩
      · exact ⟨_, hs, by rw [if_neg (fun z => absurd c (Rat.not_lt.mpr z))]⟩
    rw [List.length_map] at hl2
    rw [filt_map hl2 ho]
    walk_at "trun"
    exact .inl φ
def lsQ (cs : List Rat) (m : Rat) : Prop := m ∈ cs ∧ ∀ c ∈ cs, m ≤ c
def gsQ (cs : List Rat) (m : Rat) : Prop := m ∈ cs ∧ ∀ c ∈ cs, c ≤ m
def EndQ (cs : List Rat) (lo hi : Rat) : Prop := (cs = [] ∧ lo = My.qv 0 1 ∧ hi = My.qv 1 1) ∨ ∃ g, lsQ cs lo ∧ gsQ cs g ∧ hi = if lo = g then lo + My.qv 1 1 else g
def st_ends : SpT := fun _ as Φ _ => ∃ cs : List Rat, as = [.fz (.lst (cs.map numT))] ∧ (∀ c ∈ cs, QN 100 c) ∧ ∀ lo hi, EndQ cs lo hi → QN 100 lo → QN 165 hi → Φ (.fz (.tup [numT lo, numT hi]))
theorem okT_straight_ends (T : Txt K mg t) : FnOk P w K mg base CX0 4 t.f_straight_ends t.d_straight_ends ["numbers"] (toSp K st_ends) := by
  have G_least_of := okT_least_of (P := P) (w := w) (base := base) T
  have G_greatest_of := okT_greatest_of (P := P) (w := w) (base := base) T
  have G_plus := okT_plus (P := P) (w := w) (base := base) T
  have G_number := okT_number (P := P) (w := w) (base := base) T
  obtain ⟨ds_number, DV_number, BD_number⟩ := T.b_number1
  refine T.F_straight_ends.ok sc_straight_ends (toSp_len (fun B as Φ Ψ h => by obtain ⟨_, rfl, _⟩ := h; rfl)) (fun cdv A outer s H vs Q E hr h => ?_)
  obtain ⟨B, as, Φ, Ψ, rfl, hS, hx, go⟩ := toSp_open h
  obtain ⟨cs, rfl, hq, φ⟩ := hS
  have b0 : My.Bd 64 0 := by unfold My.Bd; decide
  have b1 : My.Bd 64 1 := by unfold My.Bd; decide
  refine ⟨_, (psc (ps_if (pt_cmpR (op_eqE hr.units0) (pv 0) (pe_lst pnl) (nomark _)) (pso (ps_ret (pe_tup (pcn (pe_call G_number (hr.mono (by decide)) rfl T.m_number T.k_number BD_number DV_number passE0 (pcn pei pnl)) (pcn (pe_call G_number (hr.mono (by decide)) rfl T.m_number T.k_number BD_number DV_number passE0 (pcn pei pnl)) pnl))))) pss_nil)
  (psc (ps_set (i := 1) sc_straight_ends.nd rfl (Or.inl rfl) (pe_call G_least_of (hr.mono (by decide)) rfl T.m_least_of T.k_least_of T.b_least_of .nil pass0 (pcn (pv 0) pnl)))
  (psc (ps_set (i := 2) sc_straight_ends.nd rfl (Or.inl rfl) (pe_call G_greatest_of (hr.mono (by decide)) rfl T.m_greatest_of T.k_greatest_of T.b_greatest_of .nil pass0 (pcn (pv 0) pnl)))
  (pso (ps_ret (pe_tup (pcn (pv 1) (pcn (pe_ifExp (pt_cmpR (op_eqT hr.units0) (pv 1) (pv 2) (nomark _)) (pe_call G_plus (hr.mono (by decide)) rfl T.m_plus T.k_plus T.b_plus .nil pass0 (pcn (pv 1) (pcn (pe_call G_number (hr.mono (by decide)) rfl T.m_number T.k_number BD_number DV_number passE0 (pcn pei pnl)) pnl))) (pv 2)) pnl)))))))), go _ _ (s_go (τ := [.fz _, .no, .no]) rfl ?_)⟩
  walk_at "trun"
  refine ro_eqE rfl (by walk_at "rk") Rk.fz ?_
  walk_at "trun"
  cases he : (cs.map numT).isEmpty with
  | true =>
    have z : cs = [] := by
      rw [List.isEmpty_iff_length_eq_zero, List.length_map] at he
      exact List.eq_nil_of_length_eq_zero he
    refine ite_t rfl ?_
    walk_at "trun"
    intro _ _
    refine a_num (n := 64) b0 b1 (by decide) (by decide) fun q1 => ?_
    walk_at "trun"
    intro _ _
    refine a_num (n := 64) b1 b1 (by decide) (by decide) fun q2 => ?_
    walk_at "trun"
    exact φ _ _ (.inl ⟨z, rfl, rfl⟩) (q1.up (by decide)) (q2.up (by decide))
  | false =>
    have z : cs ≠ [] := fun z => by rw [z] at he; cases he
    refine ite_f rfl ?_
    walk_at "trun"
    intro _ _
    refine ⟨cs, rfl, z, fun c hc => (hq c hc).up (by decide), fun lo hlo hmin => ?_⟩
    walk_at "trun"
    intro _ _
    refine ⟨cs, rfl, z, fun c hc => (hq c hc).up (by decide), fun g hg hmax => ?_⟩
    walk_at "trun"
    refine ro_eqTI rfl (ns := [lo.num, (lo.den : Int)]) (ms := [g.num, (g.den : Int)]) Rk.fz Rk.fz ?_
    walk_at "trun"
    refine z_iteD (fun c => ?_) (fun c => ?_)
    · have e := num_eq.mp c
      walk_at "trun"
      intro _ _
      refine a_num (n := 64) b1 b1 (by decide) (by decide) fun q2 => ?_
      walk_at "trun"
      intro _ _
      refine a_two2 (hq lo hlo) q2 (by decide) trivial fun q3 => ?_
      walk_at "trun"
      exact φ lo _ (.inr ⟨g, ⟨hlo, hmin⟩, ⟨hg, hmax⟩, by rw [if_pos e]⟩) (hq lo hlo) (q3.up (by decide))
    · have e : ¬ lo = g := fun z => c (num_eq.mpr z)
      walk_at "trun"
      exact φ lo g (.inr ⟨g, ⟨hlo, hmin⟩, ⟨hg, hmax⟩, by rw [if_neg e]⟩) (hq lo hlo) ((hq g hg).up (by decide))
def tckS (lo hi : Rat) (len : Int) (c : Rat) : Tr := .tup [.int (rnd (plq c lo hi 0 len)), .str (shS c)]
def sp_ticks (K : Fg) : Sp := fun vs H Q _ => ∃ (sv cv lv : V) (lo hi : Rat) (len : Int) (cs : List Rat), vs = [sv, cv, lv] ∧ Is K H sv (strT lo hi len) ∧ Is K H cv (.lst (cs.map numT)) ∧ Is K H lv (.lst (cs.map fun c => .str (shS c))) ∧ StrOk lo hi len ∧ (∀ c ∈ cs, QN 500 c ∧ lo ≤ c ∧ c ≤ hi) ∧ cs.length ≤ 1000 ∧ ∀ x H', Same H H' → AxAt K H H' x (strT lo hi len) (cs.map (tckS lo hi len)) → Q x H'
theorem ok_with_ticks (T : Txt K mg t) : FnOk P w K mg base CX0 7 t.f_with_ticks t.d_with_ticks ["scale", "cells", "labels"] (sp_ticks K) := by
  have G_rounded := okT_rounded (P := P) (w := w) (base := base) T
  have G_place_on := okT_place_on (P := P) (w := w) (base := base) T
  refine T.F_with_ticks.ok sc_with_ticks (fun vs H Q E h => ?_) (fun cdv A outer s H vs Q E hr h => ?_)
  · obtain ⟨_, _, _, _, _, _, _, rfl, _⟩ := h
    rfl
  obtain ⟨sv, cv, lv, lo, hi, len, cs, rfl, i1, i2, i3, ok, hc, hl, q⟩ := h
  refine ⟨_, (pso (ps_ret (pe_tup (pcn (pv 0) (pcn (pe_lcP (fr := [("scale", 0)]) rfl (compOkG2_of (osc := defScope s_with_ticks) (N := ["scale", "cells", "labels"]) rfl rfl (by decide +kernel) (by decide +kernel) (by decide)) (pi_zip rfl T.z_zip (pcn (pv 1) (pcn (pv 2) pnl))) (fun _ _ _ _ _ => (pe_tup (pcn (pe_call G_rounded (hr.mono (by decide)) rfl T.m_rounded T.k_rounded T.b_rounded .nil pass0 (pcn (pe_call G_place_on (hr.mono (by decide)) rfl T.m_place_on T.k_place_on T.b_place_on .nil pass0 (pcn (pv 2) (pcn (pv 0) pnl))) pnl)) (pcn (pv 1) pnl))))) pnl))))), ?_⟩
  refine open_at (K := K) (a := (0 : Nat)) (as := [.fz (strT lo hi len), .fz (.lst (cs.map numT)), .fz (.lst (cs.map fun c => Tr.str (shS c)))]) (.cons i1 (.cons i2 (.cons i3 .nil))) ?_
  refine d_go (τ := [.fz (strT lo hi len), .fz (.lst (cs.map numT)), .fz (.lst (cs.map fun c => Tr.str (shS c)))]) rfl ?_
  refine d_pair (t := strT lo hi len) (Φ := fun ts => ts = cs.map (tckS lo hi len)) (by walk_at "tg") ?_ (fun p' v l F' H' ts u hp iv ow nl e' => ?_)
  · refine e_lcP rfl (i_zip rfl ?_)
    walk_at "trun"
    refine ⟨_, cs.map numT, _, cs.map (fun c => Tr.str (shS c)), rfl, rfl, [.fz (strT lo hi len)], by repeat (first | exact .nil | refine .fz (by walk_at "tg") ?_), by rw [zip2T_len, List.length_map, List.length_map]; omega, fun j o => ∃ c, cs[j]? = some c ∧ o = some (tckS lo hi len c), fun j tt ht => ?_, fun os hl2 ho => ⟨_, rfl, some_map (by rw [hl2, zip2T_len, List.length_map, List.length_map]; omega) ho⟩⟩
    obtain ⟨x, y, ex, ey, rfl⟩ := zip2T_at _ _ j tt ht
    obtain ⟨c, hc1, rfl⟩ := of_map_at ex
    obtain ⟨c', hc2, rfl⟩ := of_map_at ey
    rw [hc1] at hc2
    cases hc2
    obtain ⟨q1, q2, q3⟩ := hc c (List.mem_of_getElem? hc1)
    refine ⟨_, _, rfl, ?_⟩
    walk_at "trun"
    intro _ _
    refine ⟨c, lo, hi, len, rfl, ok, q1, q2, q3, fun q4 => ?_⟩
    walk_at "trun"
    intro _ _
    refine ⟨_, _, rfl, q4, by decide, ?_⟩
    walk_at "trun"
    exact ⟨c, hc1, rfl⟩
  · have sH : Same H H' := fun p o e => u.h p o (fun h => h) e
    subst e'
    cases ow with
    | lst h g => exact q _ H' sH ⟨p', v, l, _, rfl, hp, nl, h, g.same u.i, iv.same u.i⟩
theorem flo_le (q : Rat) : My.qv (flo q) 1 ≤ q := by
  have d : (0 : Int) < (q.den : Int) := Int.natCast_pos.mpr q.den_pos
  conv => rhs; rw [← qv_self q]
  rw [My.le_qv (by decide) d, Int.mul_one]
  have := Int.ediv_mul_le q.num (show (q.den : Int) ≠ 0 by omega)
  unfold flo
  omega
theorem le_cei (q : Rat) : q ≤ My.qv (cei q) 1 := by
  have h := flo_le (My.qv 0 1 - q)
  unfold cei
  generalize flo (My.qv 0 1 - q) = z at h ⊢
  rw [My.qv_int, My.qv_int] at h
  rw [My.qv_int, Rat.intCast_neg]
  have : ((0 : Int) : Rat) = 0 := rfl
  grind
theorem flo_bd {q : Rat} {n : Nat} (h : QN n q) : My.Bd (n + 1) (flo q) := by
  have d : (0 : Int) < (q.den : Int) := Int.natCast_pos.mpr q.den_pos
  have h1 := h.a
  unfold My.Bd at h1 ⊢
  have e : (2 : Nat) ^ (n + 1) = 2 ^ n * 2 := Nat.pow_succ ..
  have p : 0 < (2 : Nat) ^ n := Nat.pow_pos (by decide)
  generalize (2 : Nat) ^ n = P at *
  unfold flo
  rcases Int.lt_or_le q.num 0 with z | z
  · have a1 := Int.ediv_neg_of_neg_of_pos z d
    have a2 : q.num ≤ q.num / (q.den : Int) := by
      rw [Int.le_ediv_iff_mul_le d]
      have : q.num * (q.den : Int) ≤ q.num * 1 := Int.mul_le_mul_of_nonpos_left (by omega) (by omega)
      omega
    omega
  · have a1 := Int.ediv_nonneg z (Int.le_of_lt d)
    have a2 := Int.ediv_le_self (q.den : Int) z
    omega
theorem QN0 {q : Rat} (h : QN 315 q) : QN 380 (My.qv 0 1 - q) := by
  have d : (0 : Int) < (q.den : Int) := Int.natCast_pos.mpr q.den_pos
  have e : My.qv 0 1 - q = My.qv (-q.num) q.den := by
    conv => lhs; rw [← qv_self q]
    unfold My.qv
    rw [Rat.intCast_neg]
    grind
  rw [e]
  exact low_bd d ((show My.Bd 315 (-q.num) by have := h.a; unfold My.Bd at this ⊢; rw [Int.natAbs_neg]; exact this).mono (by decide)) (h.b.mono (by decide))
theorem qn_mul {a : Int} {s : Rat} (h : My.Bd 332 a) (g : QN 149 s) : QN 500 (My.qv a 1 * s) := by
  have d : (0 : Int) < (s.den : Int) := Int.natCast_pos.mpr s.den_pos
  have e : My.qv a 1 * s = My.qv (a * s.num) s.den := by
    conv => lhs; rw [← qv_self s]
    unfold My.qv
    rw [Rat.intCast_mul]
    grind
  rw [e]
  exact low_bd d ((show My.Bd (332 + 149) (a * s.num) from h.mul g.a).mono (by decide)) (g.b.mono (by decide))
theorem mul_mono {a b : Int} {s : Rat} (hs : 0 < s) (h : a ≤ b) : My.qv a 1 * s ≤ My.qv b 1 * s := by
  rw [My.qv_int, My.qv_int]
  exact Rat.mul_le_mul_of_nonneg_right (Rat.intCast_le_intCast.mpr h) (Rat.le_of_lt hs)
theorem mul_lt {a b : Int} {s : Rat} (hs : 0 < s) (h : a < b) : My.qv a 1 * s < My.qv b 1 * s := by
  rw [My.qv_int, My.qv_int]
  exact Rat.mul_lt_mul_of_pos_right (Rat.intCast_lt_intCast.mpr h) hs
def celS (f : Int) (s : Rat) (n : Nat) : List Rat := (List.range n).map fun k : Nat => My.qv (f + (k : Int)) 1 * s
def tryS (lo hi : Rat) (len : Int) (up : Bool) (s : Rat) : Option (Tr × List Tr) :=
  if tfit [] (My.qv len (cei (hi / s) - flo (lo / s))) up = true ∧ tfit ((celS (flo (lo / s)) s (cei (hi / s) - flo (lo / s) + 1).toNat).map shS) (My.qv len (cei (hi / s) - flo (lo / s))) up = true
  then some (strT (My.qv (flo (lo / s)) 1 * s) (My.qv (cei (hi / s)) 1 * s) len, (celS (flo (lo / s)) s (cei (hi / s) - flo (lo / s) + 1).toNat).map (tckS (My.qv (flo (lo / s)) 1 * s) (My.qv (cei (hi / s)) 1 * s) len)) else none
theorem gapS {lo hi s : Rat} (h : lo < hi) (hs : 0 < s) : flo (lo / s) < cei (hi / s) := by
  have h1 := flo_le (lo / s)
  have h2 := le_cei (hi / s)
  have h3 : lo / s < hi / s := by rw [Rat.div_lt_iff hs, Rat.div_mul_cancel (by grind)]; exact h
  have h4 : My.qv (flo (lo / s)) 1 < My.qv (cei (hi / s)) 1 := by grind
  rw [My.lt_qv (by decide) (by decide)] at h4
  omega
theorem fit_gap {ls : List Str} {x y : Int} {up : Bool} (hy : 0 < y) (h : tfit ls (My.qv x y) up = true) : 6 * y ≤ x := by
  cases up with
  | true => rw [fit_up hy] at h; omega
  | false =>
    rw [fit_lv hy] at h
    have l0 := lng_nn ls
    have := Int.mul_le_mul_of_nonneg_right (show 6 ≤ 6 + 6 * lng ls by omega) (show 0 ≤ y by omega)
    omega
structure SOk (lo hi : Rat) (len : Int) : Prop where
  l : QN 100 lo
  h : QN 165 hi
  lt : lo < hi
  l0 : 24 ≤ len
  l1 : len ≤ 2000
theorem len_succ {α : Type} {l : List α} {n : Nat} (h : l.length = n + 1) : ∃ a r, l = a :: r ∧ r.length = n := by
  cases l with
  | nil => cases h
  | cons a r => exact ⟨a, r, rfl, Nat.succ.inj h⟩
theorem nine {α : Type} {l : List α} (h : l.length = 9) : ∃ a b c d e f g k m, l = [a, b, c, d, e, f, g, k, m] := by
  obtain ⟨a, l1, rfl, h1⟩ := len_succ h
  obtain ⟨b, l2, rfl, h2⟩ := len_succ h1
  obtain ⟨c, l3, rfl, h3⟩ := len_succ h2
  obtain ⟨d, l4, rfl, h4⟩ := len_succ h3
  obtain ⟨e, l5, rfl, h5⟩ := len_succ h4
  obtain ⟨f, l6, rfl, h6⟩ := len_succ h5
  obtain ⟨g, l7, rfl, h7⟩ := len_succ h6
  obtain ⟨k, l8, rfl, h8⟩ := len_succ h7
  obtain ⟨m, l9, rfl, h9⟩ := len_succ h8
  exact ⟨a, b, c, d, e, f, g, k, m, by rw [List.eq_nil_of_length_eq_zero h9]⟩
theorem isl_at {K : Fg} {F : Hp} {vs : List V} {ts : List Tr} {j : Nat} {t : Tr} (h : IsL K F vs ts) (e : ts[j]? = some t) : ∃ v, vs[j]? = some v ∧ Is K F v t := by
  have hj : j < vs.length := by rw [h.length]; exact (List.getElem?_eq_some_iff.mp e).1
  obtain ⟨t', h1, h2⟩ := h.get2 (List.getElem?_eq_getElem hj)
  rw [e] at h1
  cases h1
  exact ⟨_, List.getElem?_eq_getElem hj, h2⟩
def sp_sby (K : Fg) : Sp := fun vs H Q _ => ∃ (sv ev : V) (s lo hi : Rat) (len : Int) (up : Bool), vs = [sv, ev, .int len, .str (wayS up)] ∧ Is K H sv (numT s) ∧ Is K H ev (.tup [numT lo, numT hi]) ∧ SOk lo hi len ∧ QN 149 s ∧ 0 < s ∧
  (tryS lo hi len up s = none → ∀ H', Same H H' → Q .non H') ∧ ∀ sc ts, tryS lo hi len up s = some (sc, ts) → ∀ x H', Same H H' → AxAt K H H' x sc ts → Q x H'
theorem ok_straight_by (T : Txt K mg t) : FnOk P w K mg base CX0 8 t.f_straight_by t.d_straight_by ["step", "ends", "length", "way"] (sp_sby K) := by
  have G_number := okT_number (P := P) (w := w) (base := base) T
  have G_labels_fit := okT_labels_fit (P := P) (w := w) (base := base) T
  have G_floor_of := okT_floor_of (P := P) (w := w) (base := base) T
  have G_ceiling_of := okT_ceiling_of (P := P) (w := w) (base := base) T
  have G_over := okT_over (P := P) (w := w) (base := base) T
  have G_times := okT_times (P := P) (w := w) (base := base) T
  have G_show_number := okT_show_number (P := P) (w := w) (base := base) T
  have G_with_ticks := ok_with_ticks (P := P) (w := w) (base := base) T
  obtain ⟨ds_number, DV_number, BD_number⟩ := T.b_number1
  refine T.F_straight_by.ok sc_straight_by (fun vs H Q E h => ?_) (fun cdv A outer s H vs Q E hr h => ?_)
  · obtain ⟨_, _, _, _, _, _, _, rfl, _⟩ := h
    rfl
  obtain ⟨sv, ev, s, lo, hi, len, up, rfl, is, ie, ok, qs0, s0, qn, qs⟩ := h
  obtain ⟨hl, hh, lt, l0, l1⟩ := ok
  have sn : s.num ≠ 0 := fun z => by rw [Rat.num_eq_zero.mp z] at s0; exact absurd s0 (by decide)
  have g0 := gapS lt s0
  unfold tryS at qn qs
  refine ⟨_, (psc (ps_set (i := 4) sc_straight_by.nd rfl (Or.inl rfl) (pe_call G_floor_of (hr.mono (by decide)) rfl T.m_floor_of T.k_floor_of T.b_floor_of .nil pass0 (pcn (pe_call G_over (hr.mono (by decide)) rfl T.m_over T.k_over T.b_over .nil pass0 (pcn (pe_ix ixt (pv 1) pei (fun _ _ => rfl)) (pcn (pv 0) pnl))) pnl)))
  (psc (ps_set (i := 5) sc_straight_by.nd rfl (Or.inl rfl) (pe_call G_ceiling_of (hr.mono (by decide)) rfl T.m_ceiling_of T.k_ceiling_of T.b_ceiling_of .nil pass0 (pcn (pe_call G_over (hr.mono (by decide)) rfl T.m_over T.k_over T.b_over .nil pass0 (pcn (pe_ix ixt (pv 1) pei (fun _ _ => rfl)) (pcn (pv 0) pnl))) pnl)))
  (psc (ps_set (i := 6) sc_straight_by.nd rfl (Or.inl rfl) (pe_call G_number (hr.mono (by decide)) rfl T.m_number T.k_number T.b_number .nil passE0 (pcn (pv 2) (pcn (pe_op op_sub (pv 5) (pv 4)) pnl))))
  (psc (ps_if (pt_not (pt_val (pe_call G_labels_fit (hr.mono (by decide)) rfl T.m_labels_fit T.k_labels_fit T.b_labels_fit .nil pass0 (pcn (pe_lst pnl) (pcn (pv 6) (pcn (pv 3) pnl)))))) (pso (ps_ret pe_non)) pss_nil)
  (psc (ps_setLC (iy := 7) sc_straight_by.nd rfl (Or.inl rfl) rfl (compOk_of (fr := [("step", 0)]) (osc := defScope s_straight_by) (N := ["step", "ends", "length", "way", "first", "last", "gap", "cells", "labels"]) rfl rfl (by decide +kernel)) (pi_rangeL rfl T.z_range (pcn (pv 4) (pcn (pe_op op_add (pv 5) pei) pnl))) (fun _ _ _ _ _ => (pe_call G_times (hr.mono (by decide)) rfl T.m_times T.k_times T.b_times .nil pass0 (pcn (pe_call G_number (hr.mono (by decide)) rfl T.m_number T.k_number BD_number DV_number passE0 (pcn (pv 0) pnl)) (pcn (pv 1) pnl)))))
  (psc (ps_setLC (iy := 8) sc_straight_by.nd rfl (Or.inl rfl) rfl (compOk_of (fr := []) (osc := defScope s_straight_by) (N := ["step", "ends", "length", "way", "first", "last", "gap", "cells", "labels"]) rfl rfl (by decide +kernel)) (pi_list (pv 7)) (fun _ _ _ _ _ => (pe_call G_show_number (hr.mono (by decide)) rfl T.m_show_number T.k_show_number T.b_show_number .nil pass0 (pcn (pv 0) pnl))))
  (psc (ps_if (pt_not (pt_val (pe_call G_labels_fit (hr.mono (by decide)) rfl T.m_labels_fit T.k_labels_fit T.b_labels_fit .nil pass0 (pcn (pv 8) (pcn (pv 6) (pcn (pv 3) pnl)))))) (pso (ps_ret pe_non)) pss_nil)
  (pso (ps_ret (pe_call G_with_ticks (hr.mono (by decide)) rfl T.m_with_ticks T.k_with_ticks T.b_with_ticks .nil pass0 (pcn (pe_tup (pcn pe_str (pcn (pe_ix ixl (pv 7) pei (fun _ _ => rfl)) (pcn (pe_ix ixl (pv 7) (pe_un un_neg pei) (fun _ _ => rfl)) (pcn (pv 2) pnl))))) (pcn (pv 7) (pcn (pv 8) pnl))))))))))))), ?_⟩
  refine open_at (K := K) (a := (0 : Nat)) (as := [.fz (numT s), .fz (.tup [numT lo, numT hi]), .fz (.int len), .fz (.str (wayS up))]) (.cons is (.cons ie (.cons .int (.cons .str .nil)))) ?_
  refine d_go (τ := [.fz (numT s), .fz (.tup [numT lo, numT hi]), .fz (.int len), .fz (.str (wayS up)), .no, .no, .no, .no, .no]) rfl (d_seq ?_)
  walk_at "trun"
  intro _ _
  refine a_two2 hl qs0 (by decide) sn fun q1 => ?_
  walk_at "trun"
  intro _ _
  refine ⟨_, _, rfl, q1, by decide, ?_⟩
  walk_at "trun"
  refine d_seq ?_
  walk_at "trun"
  intro _ _
  refine a_two2 hh qs0 (by decide) sn fun q2 => ?_
  walk_at "trun"
  intro _ _
  refine ⟨_, _, rfl, q2, by decide, ?_⟩
  walk_at "trun"
  refine d_seq ?_
  have bf : My.Bd 320 (flo (lo / s)) := (flo_bd q1).mono (by decide)
  have bl : My.Bd 390 (cei (hi / s)) := by
    have q3 : QN 380 (My.qv 0 1 - hi / s) := QN0 q2
    have := flo_bd q3
    unfold cei
    unfold My.Bd at this ⊢
    rw [Int.natAbs_neg]
    exact Nat.lt_of_lt_of_le this (Nat.pow_le_pow_right (by decide) (by decide))
  generalize flo (lo / s) = f at *
  generalize cei (hi / s) = l at *
  have bg : My.Bd 400 (l - f) := by
    have e : (2 : Nat) ^ 400 = 2 ^ 390 * 1024 := by decide +kernel
    have e2 : (2 : Nat) ^ 390 = 2 ^ 320 * 2 ^ 70 := by decide +kernel
    have e3 : (1 : Nat) ≤ 2 ^ 70 := by decide +kernel
    have b2 := bf.mono (show 320 ≤ 390 by decide)
    unfold My.Bd at bl b2 ⊢
    rw [e]
    generalize (2 : Nat) ^ 390 = P at *
    omega
  walk_at "trun"
  intro _ _
  refine a_num (n := 400) (t := len) (m := l - f) ((show My.Bd 64 len by unfold My.Bd; omega).mono (by decide)) bg (by decide) (by omega) fun q3 => ?_
  walk_at "trun"
  have none_ : ¬ (tfit [] (My.qv len (l - f)) up = true ∧ tfit ((celS f s (l - f + 1).toNat).map shS) (My.qv len (l - f)) up = true) → ∀ F' H', Up (bkN K H H (0 : Nat)) H H F' H' → Q .non H' := fun c F' H' u => qn (if_neg c) H' (fun p o z => u.h p o (fun h => h) z)
  refine d_seqN _ none_ ?_
  walk_at "trun"
  intro _ _
  refine ⟨[], My.qv len (l - f), up, rfl, Nat.zero_le _, fun _ h => absurd h List.not_mem_nil, q3.up (by decide), ?_⟩
  walk_at "trun"
  cases hf : tfit [] (My.qv len (l - f)) up with
  | false =>
    walk_at "trun"
    exact ⟨rfl, fun h => absurd h.1 Bool.false_ne_true⟩
  | true =>
  walk_at "trun"
  have g6 := fit_gap (by omega) hf
  refine d_seq ?_
  walk_at "trun"
  refine e_lc (i_rngL ?_)
  walk_at "trun"
  have rn : rngN f (l + 1) 1 = (l - f + 1).toNat := by
    unfold rngN Builtin.Range.rangeSize
    rw [if_pos (by decide), if_pos (by omega), Int.ediv_one]
    congr 1
    omega
  rw [rn]
  have nn : ((l - f + 1).toNat : Int) = l - f + 1 := by omega
  have bm : ∀ k : Nat, k < (l - f + 1).toNat → My.Bd 332 (f + (k : Int)) := fun k hk => by
    have e : (2 : Nat) ^ 332 = 2 ^ 320 * 4096 := by decide +kernel
    have p : 1 ≤ (2 : Nat) ^ 320 := Nat.pow_pos (by decide)
    unfold My.Bd at bf ⊢
    rw [e]
    generalize (2 : Nat) ^ 320 = P at *
    omega
  have b1 : My.Bd 332 1 := by unfold My.Bd; decide +kernel
  have cq : ∀ k : Nat, k < (l - f + 1).toNat → QN 500 (My.qv (f + (k : Int)) 1 * s) := fun k hk => qn_mul (bm k hk) qs0
  refine ⟨_, .fz (by walk_at "tg") .nil, by rw [stepT_len]; omega, fun j o => o = numT (My.qv (f + (j : Int)) 1 * s), fun j tt ht => ?_, fun os hl2 ho => ?_⟩
  · obtain ⟨hj, rfl⟩ := stepT_at ht
    rw [Int.mul_one]
    walk_at "trun"
    intro _ _
    refine a_num (n := 332) (bm j hj) b1 (by decide) (by decide) fun q4 => ?_
    walk_at "trun"
    intro _ _
    refine a_two2 q4 qs0 (by decide) trivial fun q5 => ?_
    walk_at "trun"
    rfl
  rw [stepT_len] at hl2
  obtain rfl := lc_rng hl2 ho
  rw [show ((List.range (l - f + 1).toNat).map fun j : Nat => numT (My.qv (f + (j : Int)) 1 * s)) = (celS f s (l - f + 1).toNat).map numT by unfold celS; rw [List.map_map]; rfl]
  have cl : (celS f s (l - f + 1).toNat).length = (l - f + 1).toNat := by unfold celS; rw [List.length_map, List.length_range]
  have cm : ∀ c ∈ celS f s (l - f + 1).toNat, QN 500 c ∧ My.qv f 1 * s ≤ c ∧ c ≤ My.qv l 1 * s := fun c hc => by
    obtain ⟨k, hk, rfl⟩ := List.mem_map.mp hc
    have hk := List.mem_range.mp hk
    exact ⟨cq k hk, mul_mono s0 (by omega), mul_mono s0 (by omega)⟩
  have c0 : (celS f s (l - f + 1).toNat)[0]? = some (My.qv f 1 * s) := by
    unfold celS
    rw [List.getElem?_map, List.getElem?_range (by omega)]
    show some (My.qv (f + ((0 : Nat) : Int)) 1 * s) = _
    rw [show f + ((0 : Nat) : Int) = f by omega]
  have cN : (celS f s (l - f + 1).toNat)[(celS f s (l - f + 1).toNat).length - 1]? = some (My.qv l 1 * s) := by
    rw [cl]
    unfold celS
    rw [List.getElem?_map, List.getElem?_range (by omega)]
    show some (My.qv (f + (((l - f + 1).toNat - 1 : Nat) : Int)) 1 * s) = _
    rw [show f + (((l - f + 1).toNat - 1 : Nat) : Int) = l by omega]
  generalize celS f s (l - f + 1).toNat = C at *
  refine g_nw (by walk_at "ts") ?_
  refine d_fix (k := 7) (by walk_at "tg") (by walk_at "ts") ?_
  refine d_seq ?_
  refine s_setlc (e_lc (i_list rfl ?_))
  walk_at "trun"
  refine ⟨[], .nil, by rw [List.length_map]; omega, fun j o => ∃ c, C[j]? = some c ∧ o = .str (shS c), fun j tt ht => ?_, fun os hl3 ho3 => ?_⟩
  · obtain ⟨c, hc, rfl⟩ := of_map_at ht
    walk_at "trun"
    intro _ _
    refine ⟨c, rfl, (cm c (List.mem_of_getElem? hc)).1.up (by decide), ?_⟩
    walk_at "trun"
    exact ⟨c, hc, rfl⟩
  rw [List.length_map] at hl3
  obtain rfl := lc_maps (xs := C) (f := fun c => Tr.str (shS c)) hl3 ho3
  refine g_nw (by walk_at "ts") ?_
  refine d_fix (k := 8) (by walk_at "tg") (by walk_at "ts") ?_
  refine d_seqN _ none_ ?_
  walk_at "trun"
  intro _ _
  refine ⟨C.map shS, My.qv len (l - f), up, by rw [List.map_map]; rfl, by rw [List.length_map]; omega, fun z hz => ?_, q3.up (by decide), ?_⟩
  · obtain ⟨c, hc, rfl⟩ := List.mem_map.mp hz
    exact Nat.le_trans (shS_len ((cm c hc).1.up (by decide))) (by decide)
  walk_at "trun"
  cases hf2 : tfit (C.map shS) (My.qv len (l - f)) up with
  | false =>
    walk_at "trun"
    exact ⟨rfl, fun h => absurd h.2 Bool.false_ne_true⟩
  | true =>
  walk_at "trun"
  rw [hf, hf2, if_pos ⟨rfl, rfl⟩] at qs
  have qs := qs _ _ rfl
  refine fun σ F H' r => ?_
  have sH : Same H H' := fun p o e => r.up.h p o (fun h => h) e
  obtain ⟨v2, s2, i2⟩ := r.fz 2 _ rfl
  obtain ⟨v7, s7, i7⟩ := r.fz 7 _ rfl
  obtain ⟨v8, s8, i8⟩ := r.fz 8 _ rfl
  have hlen : σ.length = 9 := r.len
  have i7 : Is K H' v7 _ := i7.same r.up.i
  have i8 : Is K H' v8 _ := i8.same r.up.i
  obtain ⟨w0, w1, w2, w3, w4, w5, w6, w7, w8, rfl⟩ := nine hlen
  cases (show w2 = some v2 from Option.some.inj s2)
  cases (show w7 = some v7 from Option.some.inj s7)
  cases (show w8 = some v8 from Option.some.inj s8)
  cases (show Is K F v2 (.int len) from i2)
  have j7 := i7
  cases i7 with
  | @lst l7 y7 _ hs7 g7 =>
  obtain ⟨z0, hz0, iz0⟩ := isl_at g7 (map_at c0)
  obtain ⟨zN, hzN, izN⟩ := isl_at g7 (map_at cN)
  have yl : y7.length = C.length := by rw [g7.length, List.length_map]
  walk_at "run"
  refine z_ixL hs7 (atI_first hz0) ?_
  walk_at "run"
  refine z_ixL hs7 (atI_last (by rw [yl]; exact hzN)) ?_
  walk_at "run"
  rename_i p1 H1 n1 s1' e1'
  have qf : QN 500 (My.qv f 1 * s) := (cm _ (List.mem_of_getElem? c0)).1
  have ql : QN 500 (My.qv l 1 * s) := (cm _ (List.mem_of_getElem? cN)).1
  refine ⟨.ref p1, .ref l7, v8, _, _, len, C, rfl, .tup (SqT.of e1') (.cons .str (.cons (iz0.same s1') (.cons (izN.same s1') (.cons .int .nil)))), j7.same s1', i8.same s1', ⟨qf, ql, mul_lt s0 (by omega), by omega, by omega⟩, cm, by omega, fun x H2 s2 a => qs x H2 (sH.trans (s1'.trans s2)) (a.sub (sH.trans s1'))⟩
theorem rp_no {B : Bk} {F H : Hp} {σ : St} {τ : TSt} {k : Nat} (r : Rp B F H σ τ) (h : TAt τ k .no) (x : Option V) : Rp B F H (σ.set k x) τ := by
  have ne : ∀ {i : Nat} {s : Sl}, TAt τ i s → s ≠ .no → i ≠ k := fun hi hs e => by
    subst e
    unfold TAt at h hi
    rw [h] at hi
    cases hi
    exact hs rfl
  have st : ∀ {i : Nat} {v : V}, i ≠ k → SAt σ i v → SAt (σ.set k x) i v := fun hk e => by
    unfold SAt at e ⊢
    rw [List.getElem?_set_ne (Ne.symm hk)]
    exact e
  have ts : ∀ {i : Nat} {v : V}, i ≠ k → SAt (σ.set k x) i v → SAt σ i v := fun hk e => by
    unfold SAt at e ⊢
    rw [List.getElem?_set_ne (Ne.symm hk)] at e
    exact e
  exact {
    up := r.up
    wa := r.wa
    wf := r.wf
    wj := r.wj
    wd := fun i z => st (ne z (by simp)) (r.wd i z)
    len := by rw [List.length_set]; exact r.len
    fz := fun i t z => by
      obtain ⟨v, e, iv⟩ := r.fz i t z
      exact ⟨v, st (ne z (by simp)) e, iv⟩
    ow := fun i t z => by
      obtain ⟨l, e, rest⟩ := r.ow i t z
      exact ⟨l, st (ne z (by simp)) e, rest⟩
    vw := fun i t z => by
      obtain ⟨l, e, rest⟩ := r.vw i t z
      exact ⟨l, st (ne z (by simp)) e, rest⟩
    ap := fun i j t u l z z2 hij e e2 => r.ap i j t u l z z2 hij (ts (ne z (by simp)) e) (ts (ne z2 (by simp)) e2)
    av := fun i j t u l z z2 e e2 => r.av i j t u l z z2 (ts (ne z (by simp)) e) (ts (ne z2 (by simp)) e2) }
theorem d_for {B : Bk} {D : Ends} {τ : TSt} {wi : TI} {g : TG} {tbd s2 : TS} (h : IV B wi τ fun ts τ1 => ∃ I : Nat → TSt → Prop, I 0 τ1 ∧ (∀ i t τ2, ts[i]? = some t → I i τ2 → GA B g (.fz t) τ2 fun τ3 => ∀ (N : St → Hp → Prop) σ F H, Rp B F H σ τ3 → (∀ σ' F' H' τ', Same F F' → Rp B F' H' σ' τ' → I (i + 1) τ' → N σ' H') → tbd { D with nx := N, ct := N, bk := s2 D } σ H) ∧ ∀ τ2, I ts.length τ2 → SVD B D s2 τ2) : SVD B D (tSeq (tFor wi g tbd) s2) τ := fun σ F H r => by
  refine h σ F H _ r fun J F1 H1 ts τ1 f1 r1 itk ⟨I, i0, step, fin⟩ => ?_
  refine ⟨fun i m σ H => ∃ F2 τ2, Same F1 F2 ∧ Rp B F2 H σ τ2 ∧ I i τ2 ∧ i ≤ ts.length ∧ m = ts.length - i, ⟨_, F1, τ1, Same.refl _, r1, i0, Nat.zero_le _, rfl⟩, ?_⟩
  rintro i m σ H ⟨F2, τ2, s2', r2, i2, hi, rfl⟩
  obtain ⟨itg, its⟩ := itk σ τ2 F2 H s2' r2
  by_cases hlt : i < ts.length
  · obtain ⟨g1, g2⟩ := itg i ts[i] (List.getElem?_eq_getElem hlt)
    refine .inr ⟨g1, fun σ' H' => ∃ F2 τ2, Same F1 F2 ∧ Rp B F2 H' σ' τ2 ∧ I (i + 1) τ2, fun σ' H' ⟨F2, τ2, a, b, c⟩ => ⟨_, by omega, F2, τ2, a, b, c, hlt, rfl⟩, fun x H3 y => ?_⟩
    obtain ⟨F3, u3, hx⟩ := g2 x H3 y
    refine step i ts[i] τ2 (List.getElem?_eq_getElem hlt) i2 σ F3 H3 x _ (r2.go u3) hx fun σ4 F4 H4 τ4 s4 r4 h4 => ?_
    have s14 := s2'.trans (u3.f.trans s4)
    exact h4 _ σ4 F4 H4 r4 fun σ5 F5 H5 τ5 s5 r5 h5 => ⟨F5, τ5, s14.trans s5, r5, h5⟩
  · have ei : i = ts.length := by omega
    subst ei
    exact .inl ⟨its, fin τ2 i2 σ F2 H r2⟩
def fstL (f : Rat → Option (Tr × List Tr)) : List Rat → Option (Tr × List Tr)
  | [] => none
  | x :: r => match f x with
    | some y => some y
    | none => fstL f r
theorem fl_some {f : Rat → Option (Tr × List Tr)} {x : Rat} {r : List Rat} {y : Tr × List Tr} (h : f x = some y) : fstL f (x :: r) = some y := by
  show (match f x with | some y => some y | none => fstL f r) = _
  rw [h]
theorem fl_none {f : Rat → Option (Tr × List Tr)} {x : Rat} {r : List Rat} (h : f x = none) : fstL f (x :: r) = fstL f r := by
  show (match f x with | some y => some y | none => fstL f r) = _
  rw [h]
theorem ex_n {E : Int} {most : Rat} : ∀ K : Nat, most < (10 : Rat) ^ (E + (K : Int)) → ∃ N : Nat, N ≤ K ∧ most < (10 : Rat) ^ (E + (N : Int)) ∧ ∀ n : Nat, (n : Int) < (N : Int) → (10 : Rat) ^ (E + (n : Int)) ≤ most
  | 0, h => ⟨0, Nat.le_refl _, h, fun n hn => by omega⟩
  | K + 1, h => by
    by_cases z : most < (10 : Rat) ^ (E + (K : Int))
    · obtain ⟨N, h1, h2, h3⟩ := ex_n K z
      exact ⟨N, by omega, h2, h3⟩
    · refine ⟨K + 1, Nat.le_refl _, h, fun n hn => ?_⟩
      exact Rat.le_trans (My.zp_le (by decide) (by omega)) (Rat.not_lt.mp z)
theorem n_one {E : Int} {most : Rat} {N M : Nat} (h1 : most < (10 : Rat) ^ (E + (N : Int))) (h2 : ∀ n : Nat, (n : Int) < (N : Int) → (10 : Rat) ^ (E + (n : Int)) ≤ most) (g1 : most < (10 : Rat) ^ (E + (M : Int))) (g2 : ∀ n : Nat, (n : Int) < (M : Int) → (10 : Rat) ^ (E + (n : Int)) ≤ most) : N = M := by
  rcases Nat.lt_trichotomy N M with z | z | z
  · exact absurd h1 (Rat.not_lt.mpr (g2 N (by omega)))
  · exact z
  · exact absurd g1 (Rat.not_lt.mpr (h2 M (by omega)))
def StepsAre (lo hi : Rat) (len : Int) (L : List Rat) : Prop := ∃ (E : Int) (N : Nat) (g : Rat), gsQ [My.qv 1 1, hi - lo, My.qv (if lo.num < 0 then -lo.num else lo.num) lo.den, My.qv (if hi.num < 0 then -hi.num else hi.num) hi.den] g ∧ Lg 10 ((hi - lo) / My.qv len 1) E ∧ My.qv 10 1 * g < (10 : Rat) ^ (E + (N : Int)) ∧ (∀ n : Nat, (n : Int) < (N : Int) → (10 : Rat) ^ (E + (n : Int)) ≤ My.qv 10 1 * g) ∧ L = roundL E N (My.qv 10 1 * g)
theorem steps_one {lo hi : Rat} {len : Int} {L M : List Rat} (h : StepsAre lo hi len L) (g : StepsAre lo hi len M) : L = M := by
  obtain ⟨E, N, x, h1, h2, h3, h4, rfl⟩ := h
  obtain ⟨E', N', x', g1, g2, g3, g4, rfl⟩ := g
  have e1 : x = x' := Rat.le_antisymm (g1.2 x h1.1) (h1.2 x' g1.1)
  subst e1
  have e2 := h2.eq (by decide) g2
  subst e2
  rw [n_one h3 h4 g3 g4]
open Classical in
def stepsOf (lo hi : Rat) (len : Int) : List Rat := if h : ∃ L, StepsAre lo hi len L then Classical.choose h else []
theorem stepsOf_is {lo hi : Rat} {len : Int} {L : List Rat} (h : StepsAre lo hi len L) : stepsOf lo hi len = L := by
  unfold stepsOf
  rw [dif_pos ⟨L, h⟩]
  exact steps_one (Classical.choose_spec (⟨L, h⟩ : ∃ L, StepsAre lo hi len L)) h
def csN (cs : List Rat) (nb : Bool) : List Rat := if nb = true then cs ++ [My.qv 0 1] else cs
structure AOk (lo hi : Rat) (len : Int) : Prop where
  s : SOk lo hi len
  e : ∀ E, Lg 10 ((hi - lo) / My.qv len 1) E → -30 ≤ E ∧ E ≤ 25
  m : ∀ g, gsQ [My.qv 1 1, hi - lo, My.qv (if lo.num < 0 then -lo.num else lo.num) lo.den, My.qv (if hi.num < 0 then -hi.num else hi.num) hi.den] g → My.qv 10 1 * g < (10 : Rat) ^ (25 : Int)
def sp_saxis (K : Fg) (C : Addr) : Sp := fun vs H Q E => ∃ (cv : V) (cs : List Rat) (len : Int) (up nb : Bool), vs = [cv, .int len, .str (wayS up), .bl nb] ∧ Is K H cv (.lst (cs.map numT)) ∧ (∀ c ∈ cs, QN 100 c) ∧ cs.length ≤ 100 ∧ 24 ≤ len ∧ len ≤ 2000 ∧ ∀ lo hi, EndQ (csN cs nb) lo hi → AOk lo hi len ∧
  (∀ sc ts, fstL (tryS lo hi len up) (stepsOf lo hi len) = some (sc, ts) → ∀ x H', Same H H' → AxAt K H H' x sc ts → Q x H') ∧ (fstL (tryS lo hi len up) (stepsOf lo hi len) = none → ∀ H', Same H H' → E (.ref C) none H')
theorem ok_straight_axis (T : Txt K mg t) : FnOk P w K mg base (CXe P w) 9 t.f_straight_axis t.d_straight_axis ["cells", "length", "way", "nought"] (sp_saxis K t.c_NoSpace) := by
  have G_straight_ends := okT_straight_ends (P := P) (w := w) (base := base) T
  have G_minus := okT_minus (P := P) (w := w) (base := base) T
  have G_over := okT_over (P := P) (w := w) (base := base) T
  have G_times := okT_times (P := P) (w := w) (base := base) T
  have G_number := okT_number (P := P) (w := w) (base := base) T
  have G_greatest_of := okT_greatest_of (P := P) (w := w) (base := base) T
  have G_round_steps := okT_round_steps (P := P) (w := w) (base := base) T
  have G_straight_by := ok_straight_by (P := P) (w := w) (base := base) T
  obtain ⟨ds_number, DV_number, BD_number⟩ := T.b_number1
  refine T.F_straight_axis.toD.okL sc_straight_axis (fun vs H Q E h => ?_) (fun cdv A outer s H vs Q E hr hfr h => ?_)
  · obtain ⟨_, _, _, _, _, rfl, _⟩ := h
    rfl
  obtain ⟨cv, cs, len, up, nb, rfl, ic, hq, hcl, l0, l1, fin⟩ := h
  have b0 : My.Bd 64 0 := by unfold My.Bd; decide
  have b1 : My.Bd 64 1 := by unfold My.Bd; decide
  refine ⟨_, (psc (ps_set (i := 4) sc_straight_axis.nd rfl (Or.inl rfl) (pe_call G_straight_ends (hr.mono (by decide)) rfl T.m_straight_ends T.k_straight_ends T.b_straight_ends .nil pass0 (pcn (pe_ifExp (pt_val (pv 3)) (pe_op op_catL (pv 0) (pe_lst (pcn (pe_call G_number (hr.mono (by decide)) rfl T.m_number T.k_number BD_number DV_number passE0 (pcn pei pnl)) pnl))) (pv 0)) pnl)))
  (psc (ps_set (i := 5) sc_straight_axis.nd rfl (Or.inl rfl) (pe_call G_minus (hr.mono (by decide)) rfl T.m_minus T.k_minus T.b_minus .nil pass0 (pcn (pe_ix ixt (pv 4) pei (fun _ _ => rfl)) (pcn (pe_ix ixt (pv 4) pei (fun _ _ => rfl)) pnl))))
  (psc (ps_set (i := 6) sc_straight_axis.nd rfl (Or.inl rfl) (pe_lst (pcn (pe_call G_number (hr.mono (by decide)) rfl T.m_number T.k_number BD_number DV_number passE0 (pcn pei pnl)) (pcn (pv 5) (pcn (pe_call G_number (hr.mono (by decide)) rfl T.m_number T.k_number T.b_number .nil passE0 (pcn (pe_callB call_abs rfl T.z_abs bt_abs (pcn (pe_ix ixt (pe_ix ixt (pv 4) pei (fun _ _ => rfl)) pei (fun _ _ => rfl)) pnl)) (pcn (pe_ix ixt (pe_ix ixt (pv 4) pei (fun _ _ => rfl)) pei (fun _ _ => rfl)) pnl))) (pcn (pe_call G_number (hr.mono (by decide)) rfl T.m_number T.k_number T.b_number .nil passE0 (pcn (pe_callB call_abs rfl T.z_abs bt_abs (pcn (pe_ix ixt (pe_ix ixt (pv 4) pei (fun _ _ => rfl)) pei (fun _ _ => rfl)) pnl)) (pcn (pe_ix ixt (pe_ix ixt (pv 4) pei (fun _ _ => rfl)) pei (fun _ _ => rfl)) pnl))) pnl))))))
  (psc (ps_for (passOwnS hfr rfl rfl) rfl (pi_list (pe_call G_round_steps (hr.mono (by decide)) rfl T.m_round_steps T.k_round_steps T.b_round_steps .nil pass0 (pcn (pe_call G_over (hr.mono (by decide)) rfl T.m_over T.k_over T.b_over .nil pass0 (pcn (pv 5) (pcn (pe_call G_number (hr.mono (by decide)) rfl T.m_number T.k_number BD_number DV_number passE0 (pcn (pv 1) pnl)) pnl))) (pcn (pe_call G_times (hr.mono (by decide)) rfl T.m_times T.k_times T.b_times .nil pass0 (pcn (pe_call G_number (hr.mono (by decide)) rfl T.m_number T.k_number BD_number DV_number passE0 (pcn pei pnl)) (pcn (pe_call G_greatest_of (hr.mono (by decide)) rfl T.m_greatest_of T.k_greatest_of T.b_greatest_of .nil pass0 (pcn (pv 6) pnl)) pnl))) pnl)))) (pg_name (i := 7) sc_straight_axis.nd rfl (Or.inl rfl)) (psc (ps_set (i := 8) sc_straight_axis.nd rfl (Or.inl rfl) (pe_call G_straight_by (hr.mono (by decide)) rfl T.m_straight_by T.k_straight_by T.b_straight_by .nil pass0 (pcn (pv 7) (pcn (pv 4) (pcn (pv 1) (pcn (pv 2) pnl))))))
  (pso (ps_if (pt_cmpR op_notN' (pv 8) pe_non (nomark _)) (pso (ps_ret (pv 8))) pss_nil))))
  (pso (ps_raise rfl T.x_NoSpace T.n_NoSpace T.m_NoSpace rfl raisesS (pcn pe_str pnl))))))), ?_⟩
  refine open_at (K := K) (a := (0 : Nat)) (as := [.fz (.lst (cs.map numT)), .fz (.int len), .fz (.str (wayS up)), .fz (.bl nb)]) (.cons ic (.cons .int (.cons .str (.cons .bl .nil)))) ?_
  refine d_go (τ := [.fz (.lst (cs.map numT)), .fz (.int len), .fz (.str (wayS up)), .fz (.bl nb), .no, .no, .no, .no, .no]) rfl (d_seq ?_)
  refine s_cut (fun τ' => ∃ lo hi, EndQ (csN cs nb) lo hi ∧ QN 100 lo ∧ QN 165 hi ∧ τ' = [.fz (.lst (cs.map numT)), .fz (.int len), .fz (.str (wayS up)), .fz (.bl nb), .fz (.tup [numT lo, numT hi]), .no, .no, .no, .no]) ?_ ?_
  · cases nb with
    | true =>
      walk_at "trun"
      intro _ _
      refine a_num (n := 64) b0 b1 (by decide) (by decide) fun q0 => ?_
      walk_at "trun"
      refine ro_catL rfl Rk.fz Rk.fz (by rw [List.length_map]; show _ + 1 ≤ _; omega) ?_
      walk_at "trun"
      intro _ _
      refine ⟨cs ++ [My.qv 0 1], by rw [List.map_append]; rfl, fun c hc => ?_, fun lo hi e q1 q2 => ?_⟩
      · rcases List.mem_append.mp hc with z | z
        · exact hq c z
        · rw [List.mem_singleton.mp z]; exact q0.up (by decide)
      walk_at "trun"
      exact ⟨lo, hi, e, q1, q2, rfl⟩
    | false =>
      walk_at "trun"
      intro _ _
      refine ⟨cs, rfl, hq, fun lo hi e q1 q2 => ?_⟩
      walk_at "trun"
      exact ⟨lo, hi, e, q1, q2, rfl⟩
  rintro τ' ⟨lo, hi, eq, q1, q2, rfl⟩
  obtain ⟨aok, qn, qe⟩ := fin lo hi eq
  refine d_seq ?_
  walk_at "trun"
  intro _ _
  refine a_two2 q2 q1 (by decide) trivial fun q3 => ?_
  walk_at "trun"
  refine d_seq ?_
  rw [show numT lo = Tr.tup [.int lo.num, .int (lo.den : Int)] from rfl, show numT hi = Tr.tup [.int hi.num, .int (hi.den : Int)] from rfl]
  walk_at "trun"
  intro _ _
  refine a_num (n := 64) b1 b1 (by decide) (by decide) fun p1 => ?_
  walk_at "trun"
  intro _ _
  have dl : (0 : Int) < (lo.den : Int) := Int.natCast_pos.mpr lo.den_pos
  have dh : (0 : Int) < (hi.den : Int) := Int.natCast_pos.mpr hi.den_pos
  have ab : ∀ {n : Nat} {x : Int}, My.Bd n x → My.Bd n (if x < 0 then -x else x) := fun h => by
    split
    · unfold My.Bd at h ⊢; rw [Int.natAbs_neg]; exact h
    · exact h
  refine a_num (n := 100) (ab q1.a) q1.b (by decide) (by omega) fun p2 => ?_
  walk_at "trun"
  intro _ _
  refine a_num (n := 165) (ab q2.a) q2.b (by decide) (by omega) fun p3 => ?_
  walk_at "trun"
  refine d_fix (k := 6) (by walk_at "tg") (by walk_at "ts") ?_
  have sz : ∀ c ∈ [My.qv 1 1, hi - lo, My.qv (if lo.num < 0 then -lo.num else lo.num) lo.den, My.qv (if hi.num < 0 then -hi.num else hi.num) hi.den], QN 300 c := fun c hc => by
    rcases List.mem_cons.mp hc with rfl | hc
    · exact p1.up (by decide)
    rcases List.mem_cons.mp hc with rfl | hc
    · exact q3.up (by decide)
    rcases List.mem_cons.mp hc with rfl | hc
    · exact p2.up (by decide)
    · rw [List.mem_singleton.mp hc]; exact p3.up (by decide)
  have lt := aok.s.lt
  have ln : (My.qv len 1).num ≠ 0 := fun z => by
    have := Rat.num_eq_zero.mp z
    rw [My.qv_int] at this
    exact My.cast_ne (show len ≠ 0 by omega) this
  have b10 : My.Bd 64 10 := by unfold My.Bd; decide
  have ble : My.Bd 64 len := by unfold My.Bd; omega
  refine d_for (i_list rfl ?_)
  walk_at "trun"
  intro _ _
  refine a_num (n := 64) ble b1 (by decide) (by decide) fun p4 => ?_
  walk_at "trun"
  intro _ _
  refine a_two2 q3 p4 (by decide) ln fun p5 => ?_
  walk_at "trun"
  intro _ _
  refine a_num (n := 64) b10 b1 (by decide) (by decide) fun p6 => ?_
  walk_at "trun"
  intro _ _
  refine ⟨[My.qv 1 1, hi - lo, My.qv (if lo.num < 0 then -lo.num else lo.num) lo.den, My.qv (if hi.num < 0 then -hi.num else hi.num) hi.den], rfl, by simp, sz, fun g hg1 hg2 => ?_⟩
  have gq : gsQ _ g := ⟨hg1, hg2⟩
  walk_at "trun"
  intro _ _
  refine a_two2 p6 (sz g hg1) (by decide) trivial fun p7 => ?_
  walk_at "trun"
  intro _ _
  have lp : 0 < ((hi - lo) / My.qv len 1).num := by
    have h1 : (0 : Rat) < (hi - lo) / My.qv len 1 := by
      rw [My.qv_int, Rat.lt_div_iff (My.cast_pos (by omega))]
      grind
    generalize (hi - lo) / My.qv len 1 = z at h1 ⊢
    have d : (0 : Int) < (z.den : Int) := Int.natCast_pos.mpr z.den_pos
    have e0 : (0 : Rat) = My.qv 0 1 := by rw [My.qv_int]; rfl
    rw [e0, ← qv_self z, My.lt_qv (by decide) d] at h1
    omega
  refine ⟨_, _, rfl, p5.up (by decide), p7.up (by decide), lp, fun E' hE => ?_⟩
  obtain ⟨e0, e1⟩ := aok.e E' hE
  have mo := aok.m g gq
  obtain ⟨N, n1, n2, n3⟩ := ex_n (E := E') (most := My.qv 10 1 * g) (26 - E').toNat (by have := My.zp_le (p := 10) (by decide) (show (25 : Int) ≤ E' + (((26 - E').toNat : Nat) : Int) by omega); grind)
  refine ⟨e0, N, by omega, n2, n3, ?_⟩
  have sa : stepsOf lo hi len = roundL E' N (My.qv 10 1 * g) := stepsOf_is ⟨E', N, g, gq, hE, n2, n3, rfl⟩
  rw [sa] at qn qe
  have sm : ∀ s' ∈ roundL E' N (My.qv 10 1 * g), QN 149 s' ∧ 0 < s' := fun s' hs => by
    obtain ⟨d, e, hd, d0, d1, rfl⟩ := steps_mem (List.mem_filter.mp hs).1
    refine ⟨step_qn hd (by omega) (by omega), ?_⟩
    rw [My.qv_int]
    exact Rat.mul_pos (My.cast_pos (by omega)) (pt_pos e)
  generalize roundL E' N (My.qv 10 1 * g) = L at *
  walk_at "trun"
  refine ⟨fun i τ => ∃ u7, τ = [.fz (.lst (cs.map numT)), .fz (.int len), .fz (.str (wayS up)), .fz (.bl nb), .fz (.tup [.tup [.int lo.num, .int (lo.den : Int)], .tup [.int hi.num, .int (hi.den : Int)]]), .fz (numT (hi - lo)), .fz (.lst [numT (My.qv 1 1), numT (hi - lo), numT (My.qv (if lo.num < 0 then -lo.num else lo.num) lo.den), numT (My.qv (if hi.num < 0 then -hi.num else hi.num) hi.den)]), u7, .no] ∧ fstL (tryS lo hi len up) L = fstL (tryS lo hi len up) (L.drop i), ⟨_, rfl, rfl⟩, ?_, ?_⟩
  · rintro i tt τ2 hi' ⟨u7, rfl, hb⟩
    obtain ⟨s', hs', rfl⟩ := of_map_at hi'
    obtain ⟨qs1, qs2⟩ := sm s' (List.mem_of_getElem? hs')
    rw [drop_at hs'] at hb
    refine g_fz (by walk_at "ts") ?_
    intro N σ F H' r kN
    have sH : Same H H' := fun p o e => r.up.h p o (fun h => h) e
    obtain ⟨v1, s1, i1⟩ := r.fz 1 _ rfl
    obtain ⟨v2, s2, i2⟩ := r.fz 2 _ rfl
    obtain ⟨v4, s4, i4⟩ := r.fz 4 _ rfl
    obtain ⟨v7, s7, i7⟩ := r.fz 7 _ rfl
    have hlen : σ.length = 9 := r.len
    have i4 : Is K H' v4 (.tup [numT lo, numT hi]) := i4.same r.up.i
    have i7 : Is K H' v7 (numT s') := i7.same r.up.i
    obtain ⟨w0, w1, w2, w3, w4, w5, w6, w7, w8, rfl⟩ := nine hlen
    cases (show w1 = some v1 from Option.some.inj s1)
    cases (show w2 = some v2 from Option.some.inj s2)
    cases (show w4 = some v4 from Option.some.inj s4)
    cases (show w7 = some v7 from Option.some.inj s7)
    cases (show Is K F v1 (.int len) from i1)
    cases (show Is K F v2 (.str (wayS up)) from i2)
    walk_at "run"
    refine ⟨v7, v4, s', lo, hi, len, up, rfl, i7, i4, aok.s, qs1, qs2, fun e H2 s2 => ?_, fun sc ts e x H2 s2 a => ?_⟩
    · rw [fl_none e] at hb
      have u : Up (bkN K H H (0 : Nat)) F H' F H2 := {
        f := Same.refl _
        h := fun p o _ h => s2 p o h
        i := fun p o h => s2 p o (r.up.i p o h)
        m := fun _ _ _ _ h => h
        w := fun p h => by
          cases e : H' p with
          | none => rfl
          | some o => rw [s2 p o e] at h; cases h
        x := fun _ _ h => h
        j := fun _ => trivial }
      walk_at "run"
      exact kN _ F H2 _ (Same.refl _) (rp_no (k := 8) (r.go u) rfl (some .non)) ⟨_, rfl, hb⟩
    · rw [fl_some e] at hb
      obtain ⟨p', v, l, xs, rfl, hrest⟩ := id a
      walk_at "run"
      exact qn sc ts hb _ H2 (sH.trans s2) (a.sub sH)
  · rintro τ2 ⟨u7, rfl, hb⟩
    rw [List.length_map, List.drop_length] at hb
    exact fun σ F H' r => ⟨show 1 ≤ sizeLine by decide, qe hb H' (fun p o e => r.up.h p o (fun h => h) e)⟩
def wT : Tr := .tup [.str "straight"]
def axV (lo hi : Rat) (len : Int) (up : Bool) : Option (Tr × List Tr) := fstL (tryS lo hi len up) (stepsOf lo hi len)
structure CsOk (cs : List Rat) (len : Int) (nb : Bool) : Prop where
  q : ∀ c ∈ cs, QN 100 c
  n : cs.length ≤ 100
  l0 : 24 ≤ len
  l1 : len ≤ 2000
  a : ∀ lo hi, EndQ (csN cs nb) lo hi → AOk lo hi len
theorem end_one {cs : List Rat} {lo hi lo' hi' : Rat} (h : EndQ cs lo hi) (g : EndQ cs lo' hi') : lo = lo' ∧ hi = hi' := by
  rcases h with ⟨z, rfl, rfl⟩ | ⟨x, h1, h2, h3⟩
  · rcases g with ⟨_, rfl, rfl⟩ | ⟨y, g1, _⟩
    · exact ⟨rfl, rfl⟩
    · rw [z] at g1; exact absurd g1.1 List.not_mem_nil
  · rcases g with ⟨z, rfl, rfl⟩ | ⟨y, g1, g2, g3⟩
    · rw [z] at h1; exact absurd h1.1 List.not_mem_nil
    · have e1 : lo = lo' := Rat.le_antisymm (h1.2 _ g1.1) (g1.2 _ h1.1)
      have e2 : x = y := Rat.le_antisymm (g2.2 _ h2.1) (h2.2 _ g2.1)
      subst e1 e2
      exact ⟨rfl, h3.trans g3.symm⟩
def sp_axis (K : Fg) (C : Addr) : Sp := fun vs H Q E => ∃ (wv cv : V) (cs : List Rat) (lo hi : Rat) (len : Int) (up nb : Bool), vs = [wv, cv, .int len, .str (wayS up), .bl nb] ∧ Is K H wv wT ∧ Is K H cv (.lst (cs.map numT)) ∧ CsOk cs len nb ∧ EndQ (csN cs nb) lo hi ∧
  (∀ sc ts, axV lo hi len up = some (sc, ts) → ∀ x H', Same H H' → AxAt K H H' x sc ts → Q x H') ∧ (axV lo hi len up = none → ∀ H', Same H H' → E (.ref C) none H')
theorem ok_axis_for (T : Txt K mg t) : FnOk P w K mg base (CXe P w) 10 t.f_axis_for t.d_axis_for ["wish", "cells", "length", "way", "nought"] (sp_axis K t.c_NoSpace) := by
  have G_straight_axis := ok_straight_axis (P := P) (w := w) (base := base) T
  refine T.F_axis_for.okE sc_axis_for (fun vs H Q E h => ?_) (fun cdv A outer s H vs Q E hr h => ?_)
  · obtain ⟨_, _, _, _, _, _, _, _, rfl, _⟩ := h
    rfl
  obtain ⟨wv, cv, cs, lo, hi, len, up, nb, rfl, iw, ic, ok, eq, qn, qe⟩ := h
  refine ⟨_, (psc (ps_if (pt_cmpR op_eq (pe_ix ixt (pv 0) pei (fun _ _ => rfl)) pe_str (nomark _)) (pso (ps_ret (pe_ifExp (pt_cmpR op_eq (pe_callB call_len_seq rfl T.z_len PySem.boot_len (pcn (pv 0) pnl)) pei (nomark _)) pe_never (pe_call G_straight_axis (hr.mono (by decide)) rfl T.m_straight_axis T.k_straight_axis T.b_straight_axis .nil passes_on (pcn (pv 1) (pcn (pv 2) (pcn (pv 3) (pcn (pv 4) pnl)))))))) pss_nil)
  (psc (ps_if (pt_cmpR op_eq (pe_ix ixt (pv 0) pei (fun _ _ => rfl)) pe_str (nomark _)) (pso ps_never) pss_nil)
  (psc (ps_if (pt_cmpR op_eq (pe_ix ixt (pv 0) pei (fun _ _ => rfl)) pe_str (nomark _)) (pso ps_never) pss_nil)
  (psc (ps_if (pt_cmpR op_eq (pe_ix ixt (pv 0) pei (fun _ _ => rfl)) pe_str (nomark _)) (pso ps_never) pss_nil)
  (pso ps_never))))), z_go (σ := [some _, some _, some _, some _, some _]) rfl ?_⟩
  cases iw with
  | @tup pw _ _ hs g =>
  cases g with
  | @cons v0 _ _ _ g0 g =>
  cases g
  cases g0
  walk_at "run"
  refine ite_t (by decide) ?_
  walk_at "run"
  refine ite_f rfl ?_
  walk_at "run"
  refine ⟨cv, cs, len, up, nb, rfl, ic, ok.q, ok.n, ok.l0, ok.l1, fun lo' hi' e' => ?_⟩
  obtain ⟨rfl, rfl⟩ := end_one eq e'
  exact ⟨ok.a _ _ eq, qn, qe⟩
def sp_asked (K : Fg) : Sp := fun vs H Q _ => ∃ (wv cv : V) (cs : List Rat) (lo hi : Rat) (len : Int) (up b : Bool), vs = [wv, cv, .int len, .str (wayS up), .bl b] ∧ Is K H wv wT ∧ Is K H cv (.lst (cs.map numT)) ∧ CsOk cs len b ∧ EndQ (csN cs b) lo hi ∧
  (∀ sc ts, axV lo hi len up = some (sc, ts) → ∀ x H', Same H H' → AxAt K H H' x sc ts → Q x H') ∧ (axV lo hi len up = none → ∀ H', Same H H' → Q (.str "none") H')
theorem ok_l_asked (T : Txt K mg t) : FnOk P w K mg base CX0 11 t.f_l_asked t.d_l_asked ["_law_wish", "_law_cells", "_law_length", "_law_way", "_law_beside"] (sp_asked K) := by
  have G_axis_for := ok_axis_for (P := P) (w := w) (base := base) T
  obtain ⟨ds_axis_for, DV_axis_for, BD_axis_for⟩ := T.b_axis_for4
  refine T.F_l_asked.ok sc_l_asked (fun vs H Q E h => ?_) (fun cdv A outer s H vs Q E hr h => ?_)
  · obtain ⟨_, _, _, _, _, _, _, _, rfl, _⟩ := h
    rfl
  obtain ⟨wv, cv, cs, lo, hi, len, up, b, rfl, iw, ic, ok, eq, qn, qe⟩ := h
  refine ⟨_, (psc (ps_set (i := 5) sc_l_asked.nd rfl (Or.inl rfl) pe_str)
  (psc (ps_tryK (T := t.c_NoSpace) G_axis_for (hr.mono (by decide)) rfl T.m_axis_for T.k_axis_for T.kb_axis_for BD_axis_for DV_axis_for (fun _ _ z => z) rfl rfl (pt_val (pv 4)) (pcn (pv 0) (pcn (pv 1) (pcn (pv 2) (pcn (pv 3) pnl)))) pe_bl (pcn (pv 0) (pcn (pv 1) (pcn (pv 2) (pcn (pv 3) pnl)))) sc_l_asked.nd rfl (Or.inl rfl) (fun _ => (pso (ps_set (i := 5) sc_l_asked.nd rfl (Or.inl rfl) pe_str))) (i := 5))
  (pso (ps_ret (pv 5))))), z_go (σ := [some _, some _, some _, some _, some _, none]) rfl ?_⟩
  walk_at "run"
  refine z_tryK ?_
  walk_at "run"
  cases b with
  | true =>
    walk_at "run"
    refine ⟨wv, cv, cs, lo, hi, len, up, _, rfl, iw, ic, ok, eq, fun sc ts e x H' s a => ?_, fun e H' s => ⟨_, rfl, ⟨rfl, T.m_NoSpace, T.e_NoSpace, by decide⟩, ?_⟩⟩
    · simp only [List.set_cons_succ, List.set_cons_zero]
      walk_at "run"
      exact qn sc ts e x H' s a
    · walk_at "run"
      exact qe e H' s
  | false =>
    walk_at "run"
    refine ⟨wv, cv, cs, lo, hi, len, up, _, rfl, iw, ic, ok, eq, fun sc ts e x H' s a => ?_, fun e H' s => ⟨_, rfl, ⟨rfl, T.m_NoSpace, T.e_NoSpace, by decide⟩, ?_⟩⟩
    · simp only [List.set_cons_succ, List.set_cons_zero]
      walk_at "run"
      exact qn sc ts e x H' s a
    · walk_at "run"
      exact qe e H' s
abbrev AxO := Option (Tr × List Tr)
def fT : AxO → Tr
  | none => .str "none"
  | some x => .tup [x.1, .lst x.2]
def dT : AxO → Tr
  | none => .non
  | some x => .tup [x.1, .lst x.2]
def AxGood (o : AxO) : Prop := ∀ x, o = some x → Dp 8 x.1 ∧ ∀ t ∈ x.2, ∃ (i : Int) (z : Str), t = .tup [.int i, .str z]
def st_isax : SpT := fun _ as Φ _ => ∃ o : AxO, as = [.fz (fT o), .fz (dT o)] ∧ AxGood o ∧ Φ (.fz (.bl true))
theorem okT_l_is_axis (T : Txt K mg t) : FnOk P w K mg base CX0 1 t.f_l_is_axis t.d_l_is_axis ["_law_found", "_law_due_here"] (toSp K st_isax) := by
  refine T.F_l_is_axis.ok sc_l_is_axis (toSp_len (fun B as Φ Ψ h => by obtain ⟨_, rfl, _⟩ := h; rfl)) (fun cdv A outer s H vs Q E hr h => ?_)
  obtain ⟨B, as, Φ, Ψ, rfl, hS, hx, go⟩ := toSp_open h
  obtain ⟨o, rfl, hg, φ⟩ := hS
  refine ⟨_, (psc (ps_if (pt_cmpR op_isN' (pv 1) pe_non (nomark _)) (pso (ps_ret (pe_cmpR op_eq (pv 0) pe_str (nomark _)))) pss_nil)
  (psc (ps_if (PW.pt (pw_or (pt_not (pt_val (pe_isi isi_tuple rfl rfl T.z_isinstance T.z_tuple bt_tuple (pv 0)))) (pw_or (pt_cmpR op_ne (pe_callB call_len_seq rfl T.z_len PySem.boot_len (pcn (pv 0) pnl)) pei (nomark _)) (pw_or (pt_cmpR (op_neA hr.un150) (pv 0) (pv 1) (nomark _)) (pw_or1 (pt_not (pt_val (pe_isi isi_list rfl rfl T.z_isinstance T.z_list bt_list (pe_ix ixt (pv 0) pei (fun _ _ => rfl)))))))))) (pso (ps_ret pe_bl)) pss_nil)
  (psc (ps_for PassesOwn.never rfl (pi_list (pe_ix ixt (pv 0) pei (fun _ _ => rfl))) (pg_name (i := 2) sc_l_is_axis.nd rfl (Or.inl rfl)) (pso (ps_if (PW.pt (pw_or (pt_not (pt_val (pe_isi isi_tuple rfl rfl T.z_isinstance T.z_tuple bt_tuple (pv 2)))) (pw_or (pt_val (pe_isi isi_bool rfl rfl T.z_isinstance T.z_bool bt_bool (pe_ix ixt (pv 2) pei (fun _ _ => rfl)))) (pw_or1 (pt_not (pt_val (pe_isi isi_int rfl rfl T.z_isinstance T.z_int bt_int (pe_ix ixt (pv 2) pei (fun _ _ => rfl))))))))) (pso (ps_ret pe_bl)) pss_nil)))
  (pso (ps_ret pe_bl))))), go _ _ (s_go (τ := [.fz _, .fz _, .no]) rfl ?_)⟩
  cases o with
  | none =>
    rw [show fT none = Tr.str "none" from rfl, show dT none = Tr.non from rfl]
    walk_at "trun"
    exact φ
  | some x =>
    obtain ⟨h1, h2⟩ := hg x rfl
    rw [show fT (some x) = Tr.tup [x.1, .lst x.2] from rfl, show dT (some x) = Tr.tup [x.1, .lst x.2] from rfl]
    walk_at "trun"
    refine ite_t rfl ?_
    walk_at "trun"
    refine ro_alkT rfl (n := 8) (dp_cons h1 (dp_cons (.lst fun t ht => by obtain ⟨i, z, rfl⟩ := h2 t ht; exact .tup (dp_cons .int (dp_cons .str dp_nil))) dp_nil)) (by decide) Rk.fz Rk.fz ?_
    walk_at "trun"
    refine ⟨fun i τ => ∃ u : Sl, τ = [.fz (.tup [x.1, .lst x.2]), .fz (.tup [x.1, .lst x.2]), u], ⟨_, rfl⟩, ?_, ?_⟩
    · rintro i tt τ hi ⟨u, rfl⟩
      obtain ⟨j, z, rfl⟩ := h2 tt (List.mem_of_getElem? hi)
      walk_at "trun"
      exact ⟨_, rfl⟩
    · rintro τ ⟨u, rfl⟩
      walk_at "trun"
      exact φ
theorem AxAt.is {K : Fg} {H H' : Hp} {x : V} {sc : Tr} {ts : List Tr} (h : AxAt K H H' x sc ts) : Is K H' x (.tup [sc, .lst ts]) := by
  obtain ⟨p, v, l, xs, rfl, hp, _, hl, g, sa⟩ := h
  exact .tup (SqT.of hp) (.cons sa (.cons (.lst (SqL.of hl) g) .nil))
theorem num_dp {n : Nat} (q : Rat) : Dp (n + 1) (numT q) := .tup (dp_cons .int (dp_cons .int dp_nil))
theorem a_isax {K : Fg} {H : Hp} {Q : VK} {E : XK} {x d : V} {o : AxO} (i1 : Is K H x (fT o)) (i2 : Is K H d (dT o)) (g : AxGood o) (k : ∀ H', Same H H' → Q (.bl true) H') : toSp K st_isax [x, d] H Q E :=
  toSp_at (a := (0 : Nat)) (as := [.fz (fT o), .fz (dT o)]) (Φ := fun k => k = .fz (.bl true)) (.cons i1 (.cons i2 .nil)) ⟨o, rfl, g, rfl⟩ fun v F' H' k' s _ _ r e => by
    subst e
    cases (show Is K F' v (.bl true) from r)
    exact k H' s
theorem alkL {K : Fg} {H : Hp} {p q : Addr} {xs ys : List V} {ts : List Tr} {n : Nat} (hp : SqL K H p xs) (hq : SqL K H q ys) (ix : IsL K H xs ts) (iy : IsL K H ys ts) (hn : n ≤ 100) (d : ∀ t ∈ ts, Dp n t) : AlikeS K H p q :=
  ⟨n, xs, ys, hn, .inr ⟨hp, hq⟩, by rw [ix.length, iy.length], fun j x y hx hy => by
    obtain ⟨a, ha, ia⟩ := ix.get2 hx
    obtain ⟨b, hb, ib⟩ := iy.get2 hy
    rw [ha] at hb
    cases hb
    exact alike_of (d a (List.mem_of_getElem? ha)) (Same.refl _) (Same.refl _) ia ib⟩
theorem fl_inv {f : Rat → Option (Tr × List Tr)} {x : Tr × List Tr} : ∀ {l : List Rat}, fstL f l = some x → ∃ y ∈ l, f y = some x
  | [], h => nomatch h
  | y :: r, h => by
    cases e : f y with
    | some z => rw [fl_some e] at h; cases h; exact ⟨y, List.mem_cons_self, e⟩
    | none => rw [fl_none e] at h; obtain ⟨z, h1, h2⟩ := fl_inv h; exact ⟨z, List.mem_cons_of_mem _ h1, h2⟩
theorem ax_is {lo hi : Rat} {len : Int} {up : Bool} {sc : Tr} {ts : List Tr} (h : axV lo hi len up = some (sc, ts)) : ∃ (a b : Rat) (C : List Rat), sc = strT a b len ∧ ts = C.map (tckS a b len) ∧ (len ≤ 2000 → C.length ≤ 1000) := by
  unfold axV at h
  obtain ⟨s, hm, h⟩ := fl_inv h
  unfold tryS at h
  split at h
  · rename_i c
    cases h
    refine ⟨_, _, _, rfl, rfl, fun l1 => ?_⟩
    unfold celS
    rw [List.length_map, List.length_range]
    rcases Int.lt_or_le 0 (cei (hi / s) - flo (lo / s)) with z | z
    · have := fit_gap z c.1
      omega
    · omega
  · cases h
theorem ax_good (lo hi : Rat) (len : Int) (up : Bool) : AxGood (axV lo hi len up) := fun x hx => by
  obtain ⟨a, b, C, e1, e2, _⟩ := ax_is hx
  rw [e1, e2]
  refine ⟨.tup (dp_cons .str (dp_cons (num_dp _) (dp_cons (num_dp _) (dp_cons .int dp_nil)))), fun t ht => ?_⟩
  obtain ⟨k, _, rfl⟩ := List.mem_map.mp ht
  exact ⟨_, _, rfl⟩
theorem ne_lt {H : Hp} {p l : Addr} {xs ys : List V} (h1 : H p = some (.tup xs)) (h2 : H l = some (.lst ys)) : p ≠ l := fun z => by rw [z, h2] at h1; cases h1
def sp_right (K : Fg) : Sp := fun vs H Q _ => ∃ (wv cv dv : V) (cs : List Rat) (lo hi : Rat) (len : Int) (up b : Bool), vs = [wv, cv, .int len, .str (wayS up), .bl b, dv] ∧ Is K H wv wT ∧ Is K H cv (.lst (cs.map numT)) ∧ Is K H dv (dT (axV lo hi len up)) ∧ CsOk cs len b ∧ EndQ (csN cs b) lo hi ∧ ∀ H', Same H H' → Q (.bl true) H'
theorem ok_l_right (T : Txt K mg t) : FnOk P w K mg base CX0 12 t.f_l_right t.d_l_right ["_law_wish", "_law_cells", "_law_length", "_law_way", "_law_beside", "_law_due_here"] (sp_right K) := by
  have G_l_asked := ok_l_asked (P := P) (w := w) (base := base) T
  have G_l_is_axis := okT_l_is_axis (P := P) (w := w) (base := base) T
  refine T.F_l_right.ok sc_l_right (fun vs H Q E h => ?_) (fun cdv A outer s H vs Q E hr h => ?_)
  · obtain ⟨_, _, _, _, _, _, _, _, _, rfl, _⟩ := h
    rfl
  obtain ⟨wv, cv, dv, cs, lo, hi, len, up, b, rfl, iw, ic, id, ok, eqE, q⟩ := h
  have dc : ∀ t ∈ cs.map numT, Dp 5 t := fun t ht => by
    obtain ⟨c, _, rfl⟩ := List.mem_map.mp ht
    exact num_dp c
  refine ⟨_, (psc (ps_set (i := 6) sc_l_right.nd rfl (Or.inl rfl) (pe_callTy call_list_of rfl T.z_list bt_list (pcn (pv 1) pnl)))
  (psc (ps_set (i := 7) sc_l_right.nd rfl (Or.inl rfl) (pe_call G_l_asked (hr.mono (by decide)) rfl T.m_l_asked T.k_l_asked T.b_l_asked .nil pass0 (pcn (pv 0) (pcn (pv 6) (pcn (pv 2) (pcn (pv 3) (pcn (pv 4) pnl)))))))
  (psc (ps_if (PW.pt (pw_or (pt_not (pt_val (pe_call G_l_is_axis (hr.mono (by decide)) rfl T.m_l_is_axis T.k_l_is_axis T.b_l_is_axis .nil pass0 (pcn (pv 7) (pcn (pv 5) pnl))))) (pw_or1 (pt_cmpR (op_neA hr.un150) (pv 6) (pv 1) (nomark _))))) (pso (ps_ret pe_bl)) pss_nil)
  (psc (ps_if (pt_cmpR op_notN' (pv 5) pe_non (nomark _)) (psc (ps_expr (pe_bm PySem.F.plainAttrs_list PySem.F.slot_list_append PySem.F.type_list_append mt_append (pe_ix ixt (pv 7) pei (fun _ _ => rfl)) (pcn (pe_tup (pcn (pv 2) (pcn pe_str pnl))) pnl)))
  (pso (ps_if (pt_val (pe_isi isi_list rfl rfl T.z_isinstance T.z_list bt_list (pe_ix ixt (pe_ix ixt (pv 7) pei (fun _ _ => rfl)) pei (fun _ _ => rfl)))) (pso (ps_expr (pe_bm PySem.F.plainAttrs_list PySem.F.slot_list_append PySem.F.type_list_append mt_append (pe_ix ixt (pe_ix ixt (pv 7) pei (fun _ _ => rfl)) pei (fun _ _ => rfl)) (pcn pe_str pnl)))) pss_nil))) pss_nil)
  (pso (ps_ret (pe_call G_l_is_axis (hr.mono (by decide)) rfl T.m_l_is_axis T.k_l_is_axis T.b_l_is_axis .nil pass0 (pcn (pe_call G_l_asked (hr.mono (by decide)) rfl T.m_l_asked T.k_l_asked T.b_l_asked .nil pass0 (pcn (pv 0) (pcn (pv 6) (pcn (pv 2) (pcn (pv 3) (pcn (pv 4) pnl)))))) (pcn (pv 5) pnl))))))))), z_go (σ := [some _, some _, some _, some _, some _, some _, none, none]) rfl ?_⟩
  have gd := ax_good lo hi len up
  cases ic with
  | @lst pc xs _ qc gc =>
  walk_at "run"
  intro la ha
  have sa : Same H (upd H la (.lst xs)) := Same.new ha _
  have ea : (upd H la (.lst xs)) la = some (.lst xs) := upd_same
  generalize upd H la (.lst xs) = H1 at sa ea ⊢
  have iw := iw.same sa
  have id := id.same sa
  have gc := gc.same sa
  have qc := sa.seq qc
  have q : ∀ H', Same H1 H' → Q (.bl true) H' := fun H' s => q H' (sa.trans s)
  have fin : ∀ H5 (Qa : VK) E', Same H1 H5 → (∀ x H6, Same H5 H6 → Is K H6 x (fT (axV lo hi len up)) → Qa x H6) → sp_asked K [wv, .ref la, .int len, .str (wayS up), .bl b] H5 Qa E' := fun H5 Qa E' s5 k =>
    ⟨wv, .ref la, cs, lo, hi, len, up, b, rfl, iw.same s5, .lst (SqL.of (s5 _ _ ea)) (gc.same s5), ok, eqE, fun sc ts e x H' s a => k x H' s (by rw [e]; exact a.is), fun e H' s => k _ H' s (by rw [e]; exact .str)⟩
  walk_at "run"
  refine ⟨wv, .ref la, cs, lo, hi, len, up, b, rfl, iw, .lst (SqL.of ea) gc, ok, eqE, fun sc ts e x H2 s2 a => ?_, fun e H2 s2 => ?_⟩
  · rw [e] at id gd
    walk_at "run"
    refine a_isax (o := some (sc, ts)) a.is (id.same s2) gd (fun H3 s3 => ?_)
    have s23 := s2.trans s3
    walk_at "run"
    refine z_alk (alkL (n := 5) (SqL.of (s23 _ _ ea)) (s23.seq qc) (gc.same s23) (gc.same s23) (by decide) dc) ?_
    walk_at "run"
    obtain ⟨p0, v, l, ys, rfl, hp, nl, hl, g, sc'⟩ := a
    have hp3 := s3 _ _ hp
    have hl3 := s3 _ _ hl
    have id0 := id
    cases id with
    | @tup pd yd _ hd gdd =>
    walk_at "run"
    obtain ⟨da, dbb, C, e1, e2, tl8⟩ := ax_is e
    subst e1
    have tl8 := tl8 ok.l1
    have tl : ts.length = C.length := by rw [e2, List.length_map]
    have yl := g.length
    refine z_tyL (SqL.of hl3) ?_
    walk_at "run"
    rename_i p4 H4 n4 s4 e4
    have hl4 := s4 _ _ hl3
    have hp4 := s4 _ _ hp3
    have s14 := s23.trans s4
    refine z_append hl4 (Nat.lt_of_le_of_lt (show ys.length ≤ 1000 by omega) (by decide)) (fun H5 b5 e5 => ?_)
    have s15 : Same H1 H5 := s14.but nl b5
    have hp5 := b5 _ _ (ne_lt hp4 hl4) hp4
    have id5 : Is K H5 (.ref pd) (.tup [strT da dbb len, .lst ts]) := id0.same s15
    cases sc' with
    | @tup qv zs _ hq gq =>
    cases gq with
    | @cons z0 _ _ _ g0 gq =>
    cases gq with
    | @cons z1 _ _ _ g1 gq =>
    have hq5 : SqT K H5 qv _ := b5.tup hl4 ((s3.trans s4).tup hq)
    obtain ⟨r1, rfl, hr1⟩ := isN2 g1
    have hr5 : SqT K H5 r1 _ := b5.tup hl4 ((s3.trans s4).tup hr1)
    walk_at "run"
    refine z_ixT hq5 (atI_nat (j := 1) rfl) ?_
    walk_at "run"
    refine fin H5 _ _ s15 (fun x H6 s6 ix => ?_)
    walk_at "run"
    rw [e] at ix
    refine a_isax (o := some (_, ts)) ix (id5.same s6) gd (fun H7 s7 => ?_)
    walk_at "run"
    exact q H7 (s15.trans (s6.trans s7))
  · rw [e] at id gd
    walk_at "run"
    refine a_isax (o := none) .str (id.same s2) gd (fun H3 s3 => ?_)
    have s23 := s2.trans s3
    walk_at "run"
    refine z_alk (alkL (n := 5) (SqL.of (s23 _ _ ea)) (s23.seq qc) (gc.same s23) (gc.same s23) (by decide) dc) ?_
    have id0 := id
    cases id
    walk_at "run"
    refine fin H3 _ _ s23 (fun x H6 s6 ix => ?_)
    walk_at "run"
    rw [e] at ix
    refine a_isax (o := none) ix .non gd (fun H7 s7 => ?_)
    walk_at "run"
    exact q H7 (s23.trans (s6.trans s7))
def st_right : SpT := fun _ as Φ _ => ∃ (cs : List Rat) (lo hi : Rat) (len : Int) (up b : Bool), as = [.fz wT, .fz (.lst (cs.map numT)), .fz (.int len), .fz (.str (wayS up)), .fz (.bl b), .fz (dT (axV lo hi len up))] ∧ CsOk cs len b ∧ EndQ (csN cs b) lo hi ∧ Φ (.fz (.bl true))
theorem okT_l_right (T : Txt K mg t) : FnOk P w K mg base CX0 12 t.f_l_right t.d_l_right ["_law_wish", "_law_cells", "_law_length", "_law_way", "_law_beside", "_law_due_here"] (toSp K st_right) := by
  refine (ok_l_right (P := P) (w := w) (base := base) T).imp fun vs H Q E h => ?_
  obtain ⟨B, as, Φ, Ψ, rfl, rfl, bk, la, ⟨cs, lo, hi, len, up, b, rfl, ok, eqE, φ⟩, q, _⟩ := h
  cases la with
  | cons a0 la =>
  cases la with
  | cons a1 la =>
  cases la with
  | cons a2 la =>
  cases la with
  | cons a3 la =>
  cases la with
  | cons a4 la =>
  cases la with
  | cons a5 la =>
  cases la
  cases (show Is B.K B.F0 _ (.int len) from a2)
  cases (show Is B.K B.F0 _ (.str (wayS up)) from a3)
  cases (show Is B.K B.F0 _ (.bl b) from a4)
  exact ⟨_, _, _, cs, lo, hi, len, up, b, rfl, (show Is B.K B.F0 _ wT from a0).same bk.i, (show Is B.K B.F0 _ (.lst (cs.map numT)) from a1).same bk.i, (show Is B.K B.F0 _ (dT (axV lo hi len up)) from a5).same bk.i, ok, eqE, fun H' sH => q (.bl true) _ H' (.fz (.bl true)) (upT bk rfl rfl sH) .bl φ⟩
def CellQ (b : Int) (c : Rat) : Prop := ∃ t : Int, c = My.qv t b ∧ -400000000000000000000 ≤ t ∧ t ≤ 400000000000000000000
def st_numbers : SpT := fun B as Φ _ => as = [.wd] ∧ SrcB B ∧ ∀ (b : Int) (cs : List Rat), 1 ≤ b → b ≤ 1000000000 → cs.length ≤ 100 → (∀ c ∈ cs, CellQ b c) → Φ (.nw (.lst (cs.map numT)))
theorem okT_l_numbers (T : Txt K mg t) : FnOk P w K mg base CX0 3 t.f_l_numbers t.d_l_numbers ["_law_source_here"] (toSp K st_numbers) := by
  have G_l_draw := okT_l_draw (P := P) (w := w) (base := base) T
  have G_l_great := okT_l_great (P := P) (w := w) (base := base) T
  have G_l_low := okT_l_low (P := P) (w := w) (base := base) T
  refine T.F_l_numbers.ok sc_l_numbers (toSp_len (fun B as Φ Ψ h => by obtain ⟨rfl, _⟩ := h; rfl)) (fun cdv A outer s H vs Q E hr h => ?_)
  obtain ⟨B, as, Φ, Ψ, rfl, hS, hx, go⟩ := toSp_open h
  obtain ⟨rfl, hs, φ⟩ := hS
  refine ⟨_, (psc (ps_set (i := 1) sc_l_numbers.nd rfl (Or.inl rfl) (pe_ix ixl (pe_lst (pcn pei (pcn pei (pcn (pe_op op_pow pei pei) (pcn (pe_op op_pow pei pei) (pcn (pe_op op_pow pei pei) pnl)))))) (pe_call G_l_draw (hr.mono (by decide)) rfl T.m_l_draw T.k_l_draw T.b_l_draw .nil pass0 (pcn (pv 0) (pcn pei pnl))) (fun _ _ => rfl)))
  (psc (ps_set (i := 2) sc_l_numbers.nd rfl (Or.inr rfl) (pe_ix ixl (pe_lst (pcn pei (pcn (pe_op op_add pei (pe_call G_l_draw (hr.mono (by decide)) rfl T.m_l_draw T.k_l_draw T.b_l_draw .nil pass0 (pcn (pv 0) (pcn pei pnl)))) (pcn pei (pcn (pe_op op_pow pei pei) pnl))))) (pe_call G_l_draw (hr.mono (by decide)) rfl T.m_l_draw T.k_l_draw T.b_l_draw .nil pass0 (pcn (pv 0) (pcn pei pnl))) (fun _ _ => rfl)))
  (psc (ps_set (i := 3) sc_l_numbers.nd rfl (Or.inr rfl) (pe_op op_mulB (pe_call G_l_draw (hr.mono (by decide)) rfl T.m_l_draw T.k_l_draw T.b_l_draw .nil pass0 (pcn (pv 0) (pcn pei pnl))) (pe_op op_sub (pe_call G_l_great (hr.mono (by decide)) rfl T.m_l_great T.k_l_great T.b_l_great .nil pass0 (pcn (pv 0) (pcn (pe_op op_add (pe_op op_mulB pei (pv 1)) pei) pnl))) (pv 1))))
  (psc (ps_set (i := 4) sc_l_numbers.nd rfl (Or.inr rfl) (pe_ix ixl (pe_lst (pcn pei (pcn pei (pcn (pv 1) pnl)))) (pe_call G_l_draw (hr.mono (by decide)) rfl T.m_l_draw T.k_l_draw T.b_l_draw .nil pass0 (pcn (pv 0) (pcn pei pnl))) (fun _ _ => rfl)))
  (psc (ps_set (i := 5) sc_l_numbers.nd rfl (Or.inl rfl) (pe_call G_l_draw (hr.mono (by decide)) rfl T.m_l_draw T.k_l_draw T.b_l_draw .nil pass0 (pcn (pv 0) (pcn pei pnl))))
  (pso (ps_ret (pe_lc rfl (compOk_of (fr := [("_law_source_here", 0), ("_law_bottom", 2), ("_law_base", 3), ("_law_spread", 4)]) (osc := defScope s_l_numbers) (N := ["_law_source_here", "_law_most", "_law_bottom", "_law_base", "_law_spread", "_law_many"]) rfl rfl (by decide +kernel)) (pi_range1 rfl T.z_range (pcn (pv 5) pnl)) (fun _ _ _ _ _ => (pe_call G_l_low (hr.mono (by decide)) rfl T.m_l_low T.k_l_low T.b_l_low .nil pass0 (pcn (pe_op op_sub (pe_op op_add (pv 3) (pe_call G_l_great (hr.mono (by decide)) rfl T.m_l_great T.k_l_great T.b_l_great .nil pass0 (pcn (pv 1) (pcn (pe_op op_add (pe_op op_mulB pei (pv 4)) pei) pnl)))) (pv 4)) (pcn (pv 2) pnl)))))))))))), go _ _ (s_go (τ := [.wd, .no, .no, .no, .no, .no]) rfl ?_)⟩
  walk_at "trun"
  intro _ _
  refine a_drawT hs.now (by decide) (by decide) fun d1 d10 d11 => ?_
  obtain ⟨mo, em, m0, m1⟩ : ∃ mo : Int, atI [Tr.int 6, .int 100, .int ((10 : Int) ^ (6 : Int).toNat), .int ((10 : Int) ^ (17 : Int).toNat), .int ((10 : Int) ^ (20 : Int).toNat)] d1 = some (.int mo) ∧ 1 ≤ mo ∧ mo ≤ 100000000000000000000 := by
    have : d1 = 0 ∨ d1 = 1 ∨ d1 = 2 ∨ d1 = 3 ∨ d1 = 4 := by omega
    rcases this with rfl | rfl | rfl | rfl | rfl
    · exact ⟨_, rfl, by decide, by decide⟩
    · exact ⟨_, rfl, by decide, by decide⟩
    · exact ⟨_, rfl, by decide, by decide⟩
    · exact ⟨_, rfl, by decide, by decide⟩
    · exact ⟨_, rfl, by decide, by decide⟩
  walk_at "trun"
  refine ro_ixL rfl Rk.fz em ?_
  clear em
  walk_at "trun"
  intro _ _
  refine a_drawT hs.now (by decide) (by decide) fun d2 d20 d21 => ?_
  walk_at "trun"
  intro _ _
  refine a_drawT hs.now (by decide) (by decide) fun d3 d30 d31 => ?_
  obtain ⟨bt, eb, b0, b1⟩ : ∃ bt : Int, atI [Tr.int 1, .int (1 + d2), .int 1000, .int ((10 : Int) ^ (9 : Int).toNat)] d3 = some (.int bt) ∧ 1 ≤ bt ∧ bt ≤ 1000000000 := by
    have : d3 = 0 ∨ d3 = 1 ∨ d3 = 2 ∨ d3 = 3 := by omega
    rcases this with rfl | rfl | rfl | rfl
    · exact ⟨_, rfl, by decide, by decide⟩
    · exact ⟨_, rfl, by omega, by omega⟩
    · exact ⟨_, rfl, by decide, by decide⟩
    · exact ⟨_, rfl, by decide, by decide⟩
  walk_at "trun"
  refine ro_ixL rfl Rk.fz eb ?_
  clear eb
  have bmo : My.Bd 70 mo := by unfold My.Bd; omega
  have mmo : Mid mo := bmo.mono (by decide)
  walk_at "trun"
  intro _ _
  refine a_drawT hs.now (by decide) (by decide) fun d4 d40 d41 => ?_
  walk_at "trun"
  intro _ _
  refine a_great hs.now (by omega) fun g g0 g1 => ?_
  have m4 : Mid d4 := midZ (by omega) (by omega)
  have mg' : Mid (g - mo) := (show My.Bd 70 (g - mo) by unfold My.Bd; omega).mono (by decide)
  walk_at "trun"
  obtain ⟨bs, hbs, s0, s1⟩ : ∃ bs : Int, d4 * (g - mo) = bs ∧ -100000000000000000000 ≤ bs ∧ bs ≤ 100000000000000000000 := by
    rcases pk2' d40 d41 with rfl | rfl
    · exact ⟨0, by omega, by decide, by decide⟩
    · exact ⟨g - mo, by omega, by omega, by omega⟩
  rw [hbs]
  clear hbs
  intro _ _
  refine a_drawT hs.now (by decide) (by decide) fun d5 d50 d51 => ?_
  obtain ⟨sp, es, p0, p1⟩ : ∃ sp : Int, atI [Tr.int 1, .int 3, .int mo] d5 = some (.int sp) ∧ 1 ≤ sp ∧ sp ≤ 100000000000000000000 := by
    have : d5 = 0 ∨ d5 = 1 ∨ d5 = 2 := by omega
    rcases this with rfl | rfl | rfl
    · exact ⟨_, rfl, by decide, by decide⟩
    · exact ⟨_, rfl, by decide, by decide⟩
    · exact ⟨_, rfl, m0, m1⟩
  walk_at "trun"
  refine ro_ixL rfl Rk.fz es ?_
  clear es
  have msp : Mid sp := (show My.Bd 70 sp by unfold My.Bd; omega).mono (by decide)
  walk_at "trun"
  intro _ _
  refine a_drawT hs.now (by decide) (by decide) fun d6 d60 d61 => ?_
  walk_at "trun"
  refine e_lc (i_rng1 ?_)
  walk_at "trun"
  refine ⟨⟨by omega, by omega⟩, _, .wd (by walk_at "tg") (.fz (by walk_at "tg") (.fz (by walk_at "tg") (.fz (by walk_at "tg") .nil))), by rw [rangeT_len]; omega, fun i o => ∃ c, CellQ bt c ∧ o = numT c, fun i tt ht => ?_, fun os hl2 ho => ?_⟩
  · obtain ⟨hin, rfl⟩ := rangeT_at ht
    walk_at "trun"
    intro _ _
    refine a_great hs.now (by omega) fun e e0 e1 => ?_
    walk_at "trun"
    intro _ _
    refine a_low15 (n := 75) (t := bs + e - sp) (m := bt) (by omega) (by unfold My.Bd; omega) (by unfold My.Bd; omega) (by decide) fun qz => ?_
    walk_at "trun"
    exact ⟨_, ⟨bs + e - sp, rfl, by omega, by omega⟩, rfl⟩
  obtain ⟨cs, rfl, hc⟩ : ∃ cs : List Rat, os = cs.map numT ∧ ∀ c ∈ cs, CellQ bt c := by
    clear hl2
    induction os with
    | nil => exact ⟨[], rfl, fun _ h => absurd h List.not_mem_nil⟩
    | cons o os ih =>
      obtain ⟨c, h1, rfl⟩ := ho 0 o rfl
      obtain ⟨cs, rfl, h2⟩ := ih fun i o e => ho (i + 1) o e
      refine ⟨c :: cs, rfl, fun x hx => ?_⟩
      rcases List.mem_cons.mp hx with rfl | hx
      · exact h1
      · exact h2 x hx
  rw [List.length_map, rangeT_len] at hl2
  exact .inl (φ bt cs b0 b1 (by omega) hc)
def st_lund : SpT := fun _ as Φ _ => ∃ (x y : Rat) (n m : Nat), as = [.fz (numT x), .fz (numT y)] ∧ QN n x ∧ QN m y ∧ n ≤ 2000 ∧ m ≤ 2000 ∧ Φ (.fz (.bl (decide (x < y))))
theorem okT_l_under (T : Txt K mg t) : FnOk P w K mg base CX0 1 t.f_l_under t.d_l_under ["_law_one", "_law_other"] (toSp K st_lund) := by
  refine T.F_l_under.ok sc_l_under (toSp_len (fun B as Φ Ψ h => by obtain ⟨_, _, _, _, rfl, _⟩ := h; rfl)) (fun cdv A outer s H vs Q E hr h => ?_)
  obtain ⟨B, as, Φ, Ψ, rfl, hS, hx, go⟩ := toSp_open h
  obtain ⟨x, y, n, m, rfl, h1, h2, n1, m1, φ⟩ := hS
  have a1 : Mid x.num := h1.a.mono (by omega)
  have a2 : Mid (x.den : Int) := h1.b.mono (by omega)
  have a3 : Mid y.num := h2.a.mono (by omega)
  have a4 : Mid (y.den : Int) := h2.b.mono (by omega)
  have d1 : (0 : Int) < (x.den : Int) := Int.natCast_pos.mpr x.den_pos
  have d2 : (0 : Int) < (y.den : Int) := Int.natCast_pos.mpr y.den_pos
  have e : (x < y) ↔ x.num * (y.den : Int) < y.num * (x.den : Int) := by
    rw [← My.lt_qv d1 d2, qv_self, qv_self]
  rw [decide_eq_decide.mpr e] at φ
  unfold numT N2 at *
  refine ⟨_, (pso (ps_ret (pe_cmpR op_lt (pe_op op_mulB (pe_ix ixt (pv 0) pei (fun _ _ => rfl)) (pe_ix ixt (pv 1) pei (fun _ _ => rfl))) (pe_op op_mulB (pe_ix ixt (pv 1) pei (fun _ _ => rfl)) (pe_ix ixt (pv 0) pei (fun _ _ => rfl))) (nomark _)))), go _ _ (s_go (τ := [.fz _, .fz _]) rfl ?_)⟩
  walk_at "trun"
  exact φ
section
variable {B : Bk} {F H : Hp} {σ : St} {τ : TSt}
theorem rp_lstF {p : Addr} {vs : List V} (r : Rp B F H σ τ) (n : H p = none) : Up B F H (upd F p (.lst vs)) (upd H p (.lst vs)) where
  f := Same.new (r.up.i.free n) _
  h := fun q o _ z => Same.new n _ q o z
  i := fun b o e => by
    by_cases hb : b = p
    · subst hb; rw [upd_same] at e ⊢; exact e
    · rw [upd_ne hb] at e ⊢; exact r.up.i b o e
  m := fun q o h _ z => by
    have : q ≠ p := fun e => by rw [e, n] at h; cases h
    rw [upd_ne this]; exact z
  w := fun q h => upd_none h
  x := fun q hw z => by
    have : q ≠ p := fun e => r.wa q hw (r.up.w q (by rw [e]; exact n))
    rw [upd_ne this]; exact z
  j := fun h => B.jl _ _ (fun q hw => by
    have : q ≠ p := fun e => r.wa q hw (r.up.w q (by rw [e]; exact n))
    rw [upd_ne this]) (fun q φ z => Same.new n _ q _ z) h
theorem e_repE {Φ : TK} {tA : TA} {te : TE} (h : EVA B tA τ fun ts τ1 => ts.length ≤ 1000 ∧ EV B te τ1 fun k τ2 => ∃ n : Int, k = .fz (.int n) ∧ 0 ≤ n ∧ n ≤ 1000 ∧ Φ (.nw (.lst (List.replicate n.toNat ts).flatten)) τ2) : EV B (tOp rRep (tLst tA) te) τ Φ := fun σ F H Q r c => by
  refine h σ F H _ r fun vs F1 H1 ts τ1 f1 r1 l1 ⟨hl, h2⟩ => ⟨by rw [l1.length]; exact Nat.le_trans hl (by decide), fun p hp => ?_⟩
  have u := rp_lstF (vs := vs) r1 hp
  have f2 := f1.trans (Fr.up u)
  refine h2 σ _ _ _ (r1.go u) fun v F3 H3 k τ3 f3 r3 ok3 n3 ⟨n, ek, h0, h1, h3⟩ => ?_
  subst ek
  cases (show Is B.K F3 v (.int n) from ok3)
  have e3 : H3 p = some (.lst vs) := r3.up.i _ _ (f3.f _ _ upd_same)
  refine ⟨p, n, vs, rfl, rfl, e3, by omega, by omega, Nat.le_trans (Nat.mul_le_mul (show vs.length ≤ 1000 by rw [l1.length]; exact hl) (show n.toNat ≤ 1000 by omega)) (by decide), fun p' hp' => ?_⟩
  refine (c.on (f2.trans f3)).nl r3 ?_ hp' h3
  have l3 := l1.same (u.f.trans f3.f)
  generalize n.toNat = m
  induction m with
  | zero => exact .nil
  | succ m ih => rw [List.replicate_succ, List.replicate_succ, List.flatten_cons, List.flatten_cons]; exact l3.app ih
end
local macro_rules | `(tactic| walk_at "t2") => `(tactic| with_reducible refine e_repE ?_)
def someQ (cs : List Rat) (nb : Bool) : List Rat := (cs ++ (if cs = [] then [My.qv 0 1, My.qv 1 1] else [])) ++ (if nb = true then [My.qv 0 1] else [])
theorem some_nil {cs : List Rat} {nb : Bool} (h : cs = []) : someQ cs nb = [My.qv 0 1, My.qv 1 1] ++ (if nb = true then [My.qv 0 1] else []) := by
  unfold someQ
  rw [if_pos h, h]
  rfl
theorem some_some {cs : List Rat} {nb : Bool} (h : cs ≠ []) : someQ cs nb = csN cs nb := by
  unfold someQ csN
  rw [if_neg h, List.append_nil]
  cases nb with
  | true => rfl
  | false => exact List.append_nil _
theorem ends_some {cs : List Rat} {nb : Bool} {lo g : Rat} (h1 : lsQ (someQ cs nb) lo) (h2 : gsQ (someQ cs nb) g) : EndQ (csN cs nb) lo (if lo = g then lo + My.qv 1 1 else g) := by
  by_cases z : cs = []
  · rw [some_nil z] at h1 h2
    have e0 : My.qv 0 1 = 0 := by rw [My.qv_int]; rfl
    have e1 : My.qv 1 1 = 1 := by rw [My.qv_int]; rfl
    rw [e0, e1] at h1 h2
    have m0 : (0 : Rat) ∈ [0, 1] ++ (if nb = true then [(0 : Rat)] else []) := by simp
    have m1 : (1 : Rat) ∈ [0, 1] ++ (if nb = true then [(0 : Rat)] else []) := by simp
    have all : ∀ c ∈ [(0 : Rat), 1] ++ (if nb = true then [(0 : Rat)] else []), c = 0 ∨ c = 1 := fun c hc => by
      cases nb <;> simp at hc <;> grind
    have l0 : lo = 0 := by
      have a := h1.2 0 m0
      rcases all lo h1.1 with e | e
      · exact e
      · rw [e] at a; exact absurd a (by decide)
    have g1 : g = 1 := by
      have a := h2.2 1 m1
      rcases all g h2.1 with e | e
      · rw [e] at a; exact absurd a (by decide)
      · exact e
    subst l0 g1
    rw [if_neg (by decide)]
    unfold csN
    subst z
    cases nb with
    | false => exact .inl ⟨rfl, e0.symm, e1.symm⟩
    | true =>
      refine .inr ⟨0, ⟨?_, fun c hc => ?_⟩, ⟨?_, fun c hc => ?_⟩, ?_⟩
      · simp [e0]
      · simp [e0] at hc; rw [hc]; exact Rat.le_refl
      · simp [e0]
      · simp [e0] at hc; rw [hc]; exact Rat.le_refl
      · rw [if_pos rfl, e1]; grind
  · rw [some_some z] at h1 h2
    exact .inr ⟨g, h1, h2, rfl⟩
theorem some_len {cs : List Rat} {nb : Bool} : (someQ cs nb).length ≤ cs.length + 3 := by
  unfold someQ
  rw [List.length_append, List.length_append]
  split <;> split <;> simp <;> omega
theorem some_ne {cs : List Rat} {nb : Bool} : someQ cs nb ≠ [] := by
  by_cases z : cs = []
  · rw [some_nil z]; simp
  · unfold someQ
    intro e
    have := (List.append_eq_nil_iff.mp (List.append_eq_nil_iff.mp e).1).1
    exact z this
theorem some_qn {cs : List Rat} {nb : Bool} (h : ∀ c ∈ cs, QN 100 c) : ∀ c ∈ someQ cs nb, QN 100 c := fun c hc => by
  have q0 : QN 100 (My.qv 0 1) := low_bd (by decide) (by unfold My.Bd; decide +kernel) (by unfold My.Bd; decide +kernel)
  have q1 : QN 100 (My.qv 1 1) := low_bd (by decide) (by unfold My.Bd; decide +kernel) (by unfold My.Bd; decide +kernel)
  unfold someQ at hc
  rcases List.mem_append.mp hc with hc | hc
  · rcases List.mem_append.mp hc with hc | hc
    · exact h c hc
    · split at hc
      · simp at hc
        rcases hc with rfl | rfl
        · exact q0
        · exact q1
      · simp at hc
  · split at hc
    · simp at hc
      rw [hc]; exact q0
    · simp at hc
def st_lends : SpT := fun _ as Φ _ => ∃ (cs : List Rat) (nb : Bool), as = [.fz (.lst (cs.map numT)), .fz (.bl nb)] ∧ (∀ c ∈ cs, QN 100 c) ∧ cs.length ≤ 100 ∧ ∀ lo hi, EndQ (csN cs nb) lo hi → Φ (.fz (.tup [numT lo, numT hi]))
theorem okT_l_ends (T : Txt K mg t) : FnOk P w K mg base CX0 2 t.f_l_ends t.d_l_ends ["_law_cells", "_law_beside"] (toSp K st_lends) := by
  have G_l_under := okT_l_under (P := P) (w := w) (base := base) T
  have G_l_low := okT_l_low (P := P) (w := w) (base := base) T
  refine T.F_l_ends.ok sc_l_ends (toSp_len (fun B as Φ Ψ h => by obtain ⟨_, _, rfl, _⟩ := h; rfl)) (fun cdv A outer s H vs Q E hr h => ?_)
  obtain ⟨B, as, Φ, Ψ, rfl, hS, hx, go⟩ := toSp_open h
  obtain ⟨cs, nb, rfl, hq, hl, φ⟩ := hS
  have n0 : numT (My.qv 0 1) = Tr.tup [.int 0, .int 1] := by rw [My.qv_int]; rfl
  have n1 : numT (My.qv 1 1) = Tr.tup [.int 1, .int 1] := by rw [My.qv_int]; rfl
  refine ⟨_, (psc (ps_set (i := 2) sc_l_ends.nd rfl (Or.inl rfl) (pe_op op_catL (pe_op op_catL (pv 0) (pe_slice sl_list (pe_lst (pcn (pe_tup (pcn pei (pcn pei pnl))) (pcn (pe_tup (pcn pei (pcn pei pnl))) pnl))) po_none (po_some (pe_op op_mulB pei (pe_callTy call_int1 rfl T.z_int bt_int (pcn (pe_cmpR (op_eqE hr.units0) (pv 0) (pe_lst pnl) (nomark _)) pnl)))))) (pe_op op_rep (pe_lst (pcn (pe_tup (pcn pei (pcn pei pnl))) pnl)) (pe_callTy call_int1 rfl T.z_int bt_int (pcn (pv 1) pnl)))))
  (psc (ps_set (i := 3) sc_l_ends.nd rfl (Or.inl rfl) (pe_ix ixl (pv 2) pei (fun _ _ => rfl)))
  (psc (ps_set (i := 4) sc_l_ends.nd rfl (Or.inl rfl) (pe_ix ixl (pv 2) pei (fun _ _ => rfl)))
  (psc (ps_for PassesOwn.never rfl (pi_list (pv 2)) (pg_name (i := 5) sc_l_ends.nd rfl (Or.inl rfl)) (psc (ps_if (pt_val (pe_call G_l_under (hr.mono (by decide)) rfl T.m_l_under T.k_l_under T.b_l_under .nil pass0 (pcn (pv 5) (pcn (pv 3) pnl)))) (pso (ps_set (i := 3) sc_l_ends.nd rfl (Or.inl rfl) (pv 5))) pss_nil)
  (pso (ps_if (pt_val (pe_call G_l_under (hr.mono (by decide)) rfl T.m_l_under T.k_l_under T.b_l_under .nil pass0 (pcn (pv 4) (pcn (pv 5) pnl)))) (pso (ps_set (i := 4) sc_l_ends.nd rfl (Or.inl rfl) (pv 5))) pss_nil))))
  (psc (ps_if (pt_cmpR (op_eqT hr.units0) (pv 3) (pv 4) (nomark _)) (pso (ps_set (i := 4) sc_l_ends.nd rfl (Or.inl rfl) (pe_call G_l_low (hr.mono (by decide)) rfl T.m_l_low T.k_l_low T.b_l_low .nil pass0 (pcn (pe_op op_add (pe_ix ixt (pv 3) pei (fun _ _ => rfl)) (pe_ix ixt (pv 3) pei (fun _ _ => rfl))) (pcn (pe_ix ixt (pv 3) pei (fun _ _ => rfl)) pnl))))) pss_nil)
  (pso (ps_ret (pe_tup (pcn (pv 3) (pcn (pv 4) pnl)))))))))), go _ _ (s_go (τ := [.fz _, .fz _, .no, .no, .no, .no]) rfl ?_)⟩
  walk_at "trun"
  refine ro_eqE rfl (by walk_at "rk") Rk.fz ?_
  have mb : ∀ b : Bool, Mid (if b = true then 1 else 0) := fun b => by cases b <;> exact midZ (by decide) (by decide)
  have mm := mb (cs.map numT).isEmpty
  walk_at "trun"
  have es : cutT [Tr.tup [.int 0, .int 1], Tr.tup [.int 1, .int 1]] none (some (2 * if (cs.map numT).isEmpty = true then 1 else 0)) = (if cs = [] then [My.qv 0 1, My.qv 1 1] else []).map numT := by
    by_cases z : cs = []
    · subst z
      rw [if_pos rfl, List.map_cons, List.map_cons, n0, n1]
      rfl
    · rw [if_neg z]
      have : (cs.map numT).isEmpty = false := by
        cases cs with
        | nil => exact absurd rfl z
        | cons a b => rfl
      rw [this]
      rfl
  rw [es]
  walk_at "trun"
  refine ro_catL rfl Rk.fz Rk.fz (by rw [List.length_map, List.length_map]; split <;> simp <;> omega) ?_
  rw [← List.map_append]
  have lc : (cs ++ if cs = [] then [My.qv 0 1, My.qv 1 1] else []).length ≤ 200 := by rw [List.length_append]; split <;> simp <;> omega
  walk_at "trun"
  refine ⟨by split <;> decide, by split <;> decide, ?_⟩
  walk_at "trun"
  have er : (List.replicate (Int.toNat (if nb = true then 1 else 0)) [Tr.tup [.int 0, .int 1]]).flatten = (if nb = true then [My.qv 0 1] else []).map numT := by
    cases nb with
    | true => show _ = [numT (My.qv 0 1)]; rw [n0]; rfl
    | false => rfl
  rw [er]
  have lb : (if nb = true then [My.qv 0 1] else []).length ≤ 1 := by split <;> simp
  refine ro_catL rfl Rk.fz Rk.fz (by rw [List.length_map, List.length_map]; omega) ?_
  rw [← List.map_append]
  have fold : (cs ++ if cs = [] then [My.qv 0 1, My.qv 1 1] else []) ++ (if nb = true then [My.qv 0 1] else []) = someQ cs nb := rfl
  rw [fold]
  have sl := some_len (cs := cs) (nb := nb)
  have sn := some_ne (cs := cs) (nb := nb)
  have sq := some_qn (nb := nb) hq
  have fin := @ends_some cs nb
  clear fold er es lc mm lb
  generalize someQ cs nb = ss at *
  obtain ⟨x0, e0⟩ : ∃ x0, ss[0]? = some x0 := by
    cases ss with
    | nil => exact absurd rfl sn
    | cons a b => exact ⟨a, rfl⟩
  have x0m := List.mem_of_getElem? e0
  have at0 : atI (ss.map numT) 0 = some (numT x0) := atI_first (map_at e0)
  refine g_nw (by walk_at "ts") ?_
  refine s_fix (k := 2) (by walk_at "tg") (by walk_at "ts") ?_
  walk_at "trun"
  refine ro_ixL rfl Rk.fz at0 ?_
  walk_at "trun"
  refine ro_ixL rfl Rk.fz at0 ?_
  walk_at "trun"
  refine ⟨fun i τ => ∃ lo hi u5, τ = [.fz (.lst (cs.map numT)), .fz (.bl nb), .fz (.lst (ss.map numT)), .fz (numT lo), .fz (numT hi), u5] ∧ lo ∈ ss ∧ hi ∈ ss ∧ ∀ (j : Nat) c, j < i → ss[j]? = some c → lo ≤ c ∧ c ≤ hi, ⟨x0, x0, _, rfl, x0m, x0m, fun j c h => absurd h (Nat.not_lt_zero _)⟩, ?_, ?_⟩
  · rintro i tt τ hi' ⟨lo, hi, u5, rfl, lm, hm, hb⟩
    obtain ⟨c, hc, rfl⟩ := of_map_at hi'
    have cm := List.mem_of_getElem? hc
    refine g_fz (by walk_at "ts") ?_
    have q1 := sq lo lm
    have q2 := sq hi hm
    have q3 := sq c cm
    refine s_seq ?_
    refine s_cut (fun τ' => ∃ lo', lo' ∈ ss ∧ τ' = [.fz (.lst (cs.map numT)), .fz (.bl nb), .fz (.lst (ss.map numT)), .fz (numT lo'), .fz (numT hi), .fz (numT c)] ∧ lo' ≤ lo ∧ lo' ≤ c) ?_ ?_
    · walk_at "trun"
      intro _ _
      refine ⟨c, lo, 100, 100, rfl, q3, q1, by decide, by decide, ?_⟩
      walk_at "trun"
      refine z_iteD (fun d => ?_) (fun d => ?_)
      · walk_at "trun"
        exact ⟨c, cm, rfl, Rat.le_of_lt d, Rat.le_refl⟩
      · walk_at "trun"
        exact ⟨lo, lm, rfl, Rat.le_refl, Rat.not_lt.mp d⟩
    rintro τ' ⟨lo', lm', rfl, h1, h2⟩
    walk_at "trun"
    intro _ _
    refine ⟨hi, c, 100, 100, rfl, q2, q3, by decide, by decide, ?_⟩
    walk_at "trun"
    refine z_iteD (fun d => ?_) (fun d => ?_)
    · walk_at "trun"
      refine ⟨lo', c, _, rfl, lm', cm, fun j x hj hx => ?_⟩
      rcases Nat.lt_or_ge j i with z | z
      · obtain ⟨a, b⟩ := hb j x z hx
        exact ⟨Rat.le_trans h1 a, Rat.le_trans b (Rat.le_of_lt d)⟩
      · have : j = i := by omega
        subst this
        rw [hc] at hx
        cases hx
        exact ⟨h2, Rat.le_refl⟩
    · walk_at "trun"
      refine ⟨lo', hi, _, rfl, lm', hm, fun j x hj hx => ?_⟩
      rcases Nat.lt_or_ge j i with z | z
      · obtain ⟨a, b⟩ := hb j x z hx
        exact ⟨Rat.le_trans h1 a, b⟩
      · have : j = i := by omega
        subst this
        rw [hc] at hx
        cases hx
        exact ⟨h2, Rat.not_lt.mp d⟩
  · rintro τ ⟨lo, hi, u5, rfl, lm, hm, hb⟩
    rw [List.length_map] at hb
    have all : ∀ c ∈ ss, lo ≤ c ∧ c ≤ hi := fun c hc => by
      obtain ⟨j, hj, e⟩ := List.getElem_of_mem hc
      exact hb j c hj (by rw [List.getElem?_eq_getElem hj, e])
    have en := fin (lo := lo) (g := hi) ⟨lm, fun c hc => (all c hc).1⟩ ⟨hm, fun c hc => (all c hc).2⟩
    have q1 := sq lo lm
    walk_at "trun"
    refine ro_eqTI rfl (ns := [lo.num, (lo.den : Int)]) (ms := [hi.num, (hi.den : Int)]) Rk.fz Rk.fz ?_
    walk_at "trun"
    refine z_iteD (fun c => ?_) (fun c => ?_)
    · have e := num_eq.mp c
      rw [if_pos e] at en
      have dl : (0 : Int) < (lo.den : Int) := Int.natCast_pos.mpr lo.den_pos
      have es : lo + My.qv 1 1 = My.qv (lo.num + (lo.den : Int)) lo.den := by
        conv => lhs; rw [← qv_self lo]
        unfold My.qv
        rw [Rat.intCast_add]
        have := My.cast_ne (show (lo.den : Int) ≠ 0 by omega)
        grind
      rw [es] at en
      have ba := q1.a
      have bb := q1.b
      have ff := φ _ _ en
      rw [show numT lo = Tr.tup [.int lo.num, .int (lo.den : Int)] from rfl] at *
      walk_at "trun"
      intro _ _
      refine a_low15 (n := 110) (t := lo.num + lo.den) (m := lo.den) dl ?_ (bb.mono (by decide)) (by decide) fun qz => ?_
      · have e2 : (2 : Nat) ^ 110 = 2 ^ 100 * 1024 := by decide +kernel
        unfold My.Bd at ba bb ⊢
        rw [e2]
        generalize (2 : Nat) ^ 100 = P at *
        omega
      walk_at "trun"
      exact ff
    · rw [if_neg (fun z => c (num_eq.mpr z))] at en
      walk_at "trun"
      exact φ _ _ en
theorem qv_div {a b c d : Int} (hb : b ≠ 0) (hc : c ≠ 0) (hd : d ≠ 0) : My.qv a b / My.qv c d = My.qv (a * d) (b * c) := by
  have h1 := My.cast_ne hb
  have h2 := My.cast_ne hc
  have h3 := My.cast_ne hd
  unfold My.qv
  rw [Rat.intCast_mul, Rat.intCast_mul]
  grind
theorem flo_lo {lo : Rat} {tp bt : Int} (ht : 0 < tp) (hb : 0 < bt) : flo (lo / My.qv tp bt) = lo.num * bt / ((lo.den : Int) * tp) := by
  have d : (0 : Int) < (lo.den : Int) := Int.natCast_pos.mpr lo.den_pos
  conv => lhs; rw [← qv_self lo]
  rw [qv_div (by omega) (by omega) (by omega), flo_qv (Int.mul_pos d ht)]
theorem cei_hi {hi : Rat} {tp bt : Int} (ht : 0 < tp) (hb : 0 < bt) : cei (hi / My.qv tp bt) = 0 - (0 - hi.num) * bt / ((hi.den : Int) * tp) := by
  have d : (0 : Int) < (hi.den : Int) := Int.natCast_pos.mpr hi.den_pos
  have hm := Int.mul_pos d ht
  unfold cei
  conv => lhs; rw [← qv_self hi]
  rw [qv_div (by omega) (by omega) (by omega)]
  have e : My.qv 0 1 - My.qv (hi.num * bt) ((hi.den : Int) * tp) = My.qv ((0 - hi.num) * bt) ((hi.den : Int) * tp) := by
    have := My.cast_ne (show (hi.den : Int) * tp ≠ 0 by omega)
    rw [show (0 - hi.num) * bt = -(hi.num * bt) by rw [Int.zero_sub, Int.neg_mul]]
    generalize hi.num * bt = x at *
    generalize (hi.den : Int) * tp = y at *
    unfold My.qv
    rw [Rat.intCast_neg]
    grind
  rw [e, flo_qv hm]
  omega
theorem plq_k {f l len : Int} {s : Rat} {k : Nat} (hs : 0 < s) (h : f < l) : plq (My.qv (f + (k : Int)) 1 * s) (My.qv f 1 * s) (My.qv l 1 * s) 0 len = My.qv (len * (k : Int)) (l - f) := by
  have hg := My.cast_ne (show l - f ≠ 0 by omega)
  rw [Rat.intCast_sub] at hg
  unfold plq
  rw [My.qv_int, My.qv_int, My.qv_int, My.qv_int, My.qv_int]
  unfold My.qv
  rw [Rat.intCast_add, Int.sub_zero, Rat.intCast_sub, Rat.intCast_mul]
  have z : ((0 : Int) : Rat) = 0 := rfl
  rw [z]
  have hs' : s ≠ 0 := by grind
  have e : (l : Rat) * s - (f : Rat) * s = ((l : Rat) - (f : Rat)) * s := by grind
  have e2 : ((f : Rat) + ((k : Int) : Rat)) * s - (f : Rat) * s = ((k : Int) : Rat) * s := by grind
  rw [e, e2]
  grind
theorem sh_one (q : Rat) : 1 ≤ (shS q).length := by
  show 1 ≤ (My.shw q.num q.den).length
  have h : 1 ≤ (My.txt q.num).length := by
    unfold My.txt
    split
    · simp
    · exact dg_len1 _
  unfold My.shw
  split
  · exact h
  · rw [List.length_append]; omega
theorem cel_one {f : Int} {s : Rat} {n : Nat} (hn : 0 < n) : 1 ≤ lng ((celS f s n).map shS) := by
  have hm : My.qv (f + ((0 : Nat) : Int)) 1 * s ∈ celS f s n := List.mem_map.mpr ⟨0, List.mem_range.mpr hn, rfl⟩
  have := lng_ge ((celS f s n).map shS) (shS (My.qv (f + ((0 : Nat) : Int)) 1 * s)) (List.mem_map.mpr ⟨_, hm, rfl⟩)
  have := sh_one (My.qv (f + ((0 : Nat) : Int)) 1 * s)
  omega
def axB (f l len : Int) (s : Rat) : Tr × List Tr := (strT (My.qv f 1 * s) (My.qv l 1 * s) len, (celS f s (l - f + 1).toNat).map (tckS (My.qv f 1 * s) (My.qv l 1 * s) len))
theorem try_upS {lo hi : Rat} {len : Int} {s : Rat} (g : flo (lo / s) < cei (hi / s)) : tryS lo hi len true s = if 12 * (cei (hi / s) - flo (lo / s)) ≤ len then some (axB (flo (lo / s)) (cei (hi / s)) len s) else none := by
  unfold tryS
  have e : ∀ ls, tfit ls (My.qv len (cei (hi / s) - flo (lo / s))) true = true ↔ 12 * (cei (hi / s) - flo (lo / s)) ≤ len := fun ls => fit_up (by omega)
  split
  · rename_i c
    rw [if_pos ((e _).mp c.1)]
    rfl
  · rename_i c
    rw [if_neg fun d => c ⟨(e _).mpr d, (e _).mpr d⟩]
theorem try_lvS {lo hi : Rat} {len : Int} {s : Rat} (g : flo (lo / s) < cei (hi / s)) : tryS lo hi len false s = if 12 * (cei (hi / s) - flo (lo / s)) ≤ len ∧ lng ((celS (flo (lo / s)) s (cei (hi / s) - flo (lo / s) + 1).toNat).map shS) ≤ 10 ∧ (6 + 6 * lng ((celS (flo (lo / s)) s (cei (hi / s) - flo (lo / s) + 1).toNat).map shS)) * (cei (hi / s) - flo (lo / s)) ≤ len then some (axB (flo (lo / s)) (cei (hi / s)) len s) else none := by
  unfold tryS axB
  generalize flo (lo / s) = f at *
  generalize cei (hi / s) = l at *
  have l1 := cel_one (f := f) (s := s) (n := (l - f + 1).toNat) (by omega)
  have e0 : lng [] = 0 := rfl
  have f1 := fit_lv (ls := []) (len := len) (show 0 < l - f by omega)
  have f2 := fit_lv (ls := (celS f s (l - f + 1).toNat).map shS) (len := len) (show 0 < l - f by omega)
  rw [e0] at f1
  generalize hL : lng ((celS f s (l - f + 1).toNat).map shS) = L at *
  have e1 : (6 + 6 * L) * (l - f) = 6 * (l - f) + 6 * (L * (l - f)) := by grind
  have e2 : 1 * (l - f) ≤ L * (l - f) := Int.mul_le_mul_of_nonneg_right l1 (by omega)
  split
  · rename_i c
    have c2 := f2.mp c.2
    rw [if_pos ⟨by have := c2.2; omega, c2⟩]
  · rename_i c
    rw [if_neg fun d => c ⟨f1.mpr ⟨by decide, by have := d.1; omega⟩, f2.mpr d.2⟩]
def st_lby : SpT := fun _ as Φ _ => ∃ (tp bt : Int) (lo hi : Rat) (len : Int) (up : Bool), as = [.fz (.int tp), .fz (.int bt), .fz (.tup [numT lo, numT hi]), .fz (.int len), .fz (.str (wayS up))] ∧ 0 < tp ∧ 0 < bt ∧ My.Bd 149 tp ∧ My.Bd 149 bt ∧ SOk lo hi len ∧ Φ (.fz (dT (tryS lo hi len up (My.qv tp bt))))
theorem okT_l_by (T : Txt K mg t) : FnOk P w K mg base CX0 2 t.f_l_by t.d_l_by ["_law_top", "_law_bottom", "_law_ends_here", "_law_length", "_law_way"] (toSp K st_lby) := by
  have G_l_low := okT_l_low (P := P) (w := w) (base := base) T
  have G_l_text := okT_l_text (P := P) (w := w) (base := base) T
  refine T.F_l_by.ok sc_l_by (toSp_len (fun B as Φ Ψ h => by obtain ⟨_, _, _, _, _, _, rfl, _⟩ := h; rfl)) (fun cdv A outer s H vs Q E hr h => ?_)
  obtain ⟨B, as, Φ, Ψ, rfl, hS, hx, go⟩ := toSp_open h
  obtain ⟨tp, bt, lo, hi, len, up, rfl, t0, b0, tb, bb, ok, φ⟩ := hS
  obtain ⟨hl, hh, lt, l0, l1⟩ := ok
  have s0 : 0 < My.qv tp bt := by
    have e0 : (0 : Rat) = My.qv 0 1 := by rw [My.qv_int]; rfl
    rw [e0, My.lt_qv (by decide) b0]
    omega
  have g0 := gapS lt s0
  have qs0 : QN 149 (My.qv tp bt) := low_bd b0 tb bb
  have sn : (My.qv tp bt).num ≠ 0 := fun z => by rw [Rat.num_eq_zero.mp z] at s0; exact absurd s0 (by decide)
  have eT := try_upS (len := len) g0
  have eL := try_lvS (len := len) g0
  have ef := flo_lo (lo := lo) t0 b0
  have el := cei_hi (hi := hi) t0 b0
  have dl : (0 : Int) < (lo.den : Int) := Int.natCast_pos.mpr lo.den_pos
  have dh : (0 : Int) < (hi.den : Int) := Int.natCast_pos.mpr hi.den_pos
  have p1 := Int.mul_pos dl t0
  have p2 := Int.mul_pos dh t0
  have h1a := hl.a
  have h1b := hl.b
  have h2a := hh.a
  have h2b := hh.b
  have mt : Mid tp := tb.mono (by decide)
  have mb : Mid bt := bb.mono (by decide)
  have m1 : Mid lo.num := h1a.mono (by decide)
  have m2 : Mid (lo.den : Int) := h1b.mono (by decide)
  have m3 : Mid (0 - hi.num) := (show My.Bd 165 (0 - hi.num) by rw [Int.zero_sub]; unfold My.Bd at h2a ⊢; rw [Int.natAbs_neg]; exact h2a).mono (by decide)
  have m4 : Mid (hi.den : Int) := h2b.mono (by decide)
  have m5 : Mid ((lo.den : Int) * tp) := (h1b.mul tb).mono (by decide)
  have m6 : Mid ((hi.den : Int) * tp) := (h2b.mul tb).mono (by decide)
  have bf : My.Bd 320 (flo (lo / My.qv tp bt)) := by
    rw [ef, ← flo_qv p1]
    exact (flo_bd (low_bd p1 (show My.Bd 315 _ from (h1a.mul bb).mono (by decide)) ((h1b.mul tb).mono (by decide)))).mono (by decide)
  refine ⟨_, (psc (ps_asg (pv 2) (pg_tup rfl (pgs_cons (pg_name (i := 12) sc_l_by.nd rfl (Or.inl rfl)) (pgs_cons (pg_name (i := 13) sc_l_by.nd rfl (Or.inl rfl)) pgs_nil))))
  (psc (ps_set (i := 5) sc_l_by.nd rfl (Or.inl rfl) (pe_op op_fdivB (pe_op op_mulB (pe_ix ixt (pv 12) pei (fun _ _ => rfl)) (pv 1)) (pe_op op_mulB (pe_ix ixt (pv 12) pei (fun _ _ => rfl)) (pv 0))))
  (psc (ps_set (i := 6) sc_l_by.nd rfl (Or.inl rfl) (pe_op op_sub pei (pe_op op_fdivB (pe_op op_mulB (pe_op op_sub pei (pe_ix ixt (pv 13) pei (fun _ _ => rfl))) (pv 1)) (pe_op op_mulB (pe_ix ixt (pv 13) pei (fun _ _ => rfl)) (pv 0)))))
  (psc (ps_set (i := 7) sc_l_by.nd rfl (Or.inr rfl) (pe_op op_sub (pv 6) (pv 5)))
  (psc (ps_if (pt_cmpR op_gt (pe_op op_mulB pei (pv 7)) (pv 3) (nomark _)) (pso (ps_ret pe_non)) pss_nil)
  (psc (ps_setLC (iy := 8) sc_l_by.nd rfl (Or.inl rfl) rfl (compOk_of (fr := [("_law_top", 0), ("_law_bottom", 1)]) (osc := defScope s_l_by) (N := ["_law_top", "_law_bottom", "_law_ends_here", "_law_length", "_law_way", "_law_first", "_law_last", "_law_many", "_law_cells", "_law_labels", "_law_longest", "_law_ticks", "_law_lo", "_law_hi"]) rfl rfl (by decide +kernel)) (pi_rangeL rfl T.z_range (pcn (pv 5) (pcn (pe_op op_add (pv 6) pei) pnl))) (fun _ _ _ _ _ => (pe_call G_l_low (hr.mono (by decide)) rfl T.m_l_low T.k_l_low T.b_l_low .nil pass0 (pcn (pe_op op_mulB (pv 0) (pv 1)) (pcn (pv 2) pnl)))))
  (psc (ps_set (i := 9) sc_l_by.nd rfl (Or.inr rfl) (pe_lc rfl (compOk_of (fr := []) (osc := defScope s_l_by) (N := ["_law_top", "_law_bottom", "_law_ends_here", "_law_length", "_law_way", "_law_first", "_law_last", "_law_many", "_law_cells", "_law_labels", "_law_longest", "_law_ticks", "_law_lo", "_law_hi"]) rfl rfl (by decide +kernel)) (pi_list (pv 8)) (fun _ _ _ _ _ => (pe_call G_l_text (hr.mono (by decide)) rfl T.m_l_text T.k_l_text T.b_l_text .nil pass0 (pcn (pv 0) pnl)))))
  (psc (ps_set (i := 10) sc_l_by.nd rfl (Or.inl rfl) (pe_callB (call_maxL rfl) rfl T.z_max bt_max (pcn (pe_lc rfl (compOk_of (fr := []) (osc := defScope s_l_by) (N := ["_law_top", "_law_bottom", "_law_ends_here", "_law_length", "_law_way", "_law_first", "_law_last", "_law_many", "_law_cells", "_law_labels", "_law_longest", "_law_ticks", "_law_lo", "_law_hi"]) rfl rfl (by decide +kernel)) (pi_list (pv 9)) (fun _ _ _ _ _ => (pe_callB call_len_str rfl T.z_len PySem.boot_len (pcn (pv 0) pnl)))) pnl)))
  (psc (ps_if (PW.pt (pw_and (pt_cmpR op_eq (pv 4) pe_str (nomark _)) (pw_and1 (PW.pt (pw_or (pt_cmpR op_gt (pv 10) pei (nomark _)) (pw_or1 (pt_cmpR op_gt (pe_op op_mulB (pe_op op_add pei (pe_op op_mulB pei (pv 10))) (pv 7)) (pv 3) (nomark _)))))))) (pso (ps_ret pe_non)) pss_nil)
  (psc (ps_setLC (iy := 11) sc_l_by.nd rfl (Or.inl rfl) rfl (compOk_of (fr := [("_law_length", 3), ("_law_many", 7), ("_law_labels", 9)]) (osc := defScope s_l_by) (N := ["_law_top", "_law_bottom", "_law_ends_here", "_law_length", "_law_way", "_law_first", "_law_last", "_law_many", "_law_cells", "_law_labels", "_law_longest", "_law_ticks", "_law_lo", "_law_hi"]) rfl rfl (by decide +kernel)) (pi_range1 rfl T.z_range (pcn (pe_op op_add (pv 7) pei) pnl)) (fun _ _ _ _ _ => (pe_tup (pcn (pe_op op_fdivB (pe_op op_add (pe_op op_mulB (pe_op op_mulB pei (pv 1)) (pv 0)) (pv 2)) (pe_op op_mulB pei (pv 2))) (pcn (pe_ix (r := rIxL B.K) ixl (pv 3) (pv 0) (fun _ _ => rfl)) pnl)))))
  (pso (ps_ret (pe_tup (pcn (pe_tup (pcn pe_str (pcn (pe_ix ixl (pv 8) pei (fun _ _ => rfl)) (pcn (pe_ix ixl (pv 8) (pe_un un_neg pei) (fun _ _ => rfl)) (pcn (pv 3) pnl))))) (pcn (pv 11) pnl))))))))))))))), go _ _ (s_go (τ := [.fz _, .fz _, .fz _, .fz _, .fz _, .no, .no, .no, .no, .no, .no, .no, .no, .no]) rfl ?_)⟩
  rw [show numT lo = Tr.tup [.int lo.num, .int (lo.den : Int)] from rfl, show numT hi = Tr.tup [.int hi.num, .int (hi.den : Int)] from rfl]
  walk_at "trun"
  rw [← ef, ← el]
  have bl : My.Bd 390 (cei (hi / My.qv tp bt)) := by
    have e : My.qv 0 1 - hi / My.qv tp bt = My.qv ((0 - hi.num) * bt) ((hi.den : Int) * tp) := by
      conv => lhs; rw [← qv_self hi]
      rw [qv_div (by omega) (by omega) (by omega)]
      have := My.cast_ne (show (hi.den : Int) * tp ≠ 0 by omega)
      rw [show (0 - hi.num) * bt = -(hi.num * bt) by rw [Int.zero_sub, Int.neg_mul]]
      generalize hi.num * bt = x at *
      generalize (hi.den : Int) * tp = y at *
      unfold My.qv
      rw [Rat.intCast_neg]
      grind
    have m3' : My.Bd 165 (0 - hi.num) := by rw [Int.zero_sub]; unfold My.Bd at h2a ⊢; rw [Int.natAbs_neg]; exact h2a
    have q3 : QN 380 (My.qv 0 1 - hi / My.qv tp bt) := by
      rw [e]
      exact low_bd p2 ((m3'.mul bb).mono (by decide)) ((h2b.mul tb).mono (by decide))
    have := flo_bd q3
    unfold cei
    unfold My.Bd at this ⊢
    rw [Int.natAbs_neg]
    exact Nat.lt_of_lt_of_le this (Nat.pow_le_pow_right (by decide) (by decide))
  clear ef el m1 m2 m3 m4 m5 m6 p1 p2 h1a h1b h2a h2b dl dh
  generalize flo (lo / My.qv tp bt) = f at *
  generalize cei (hi / My.qv tp bt) = l at *
  have bg : My.Bd 400 (l - f) := by
    have e : (2 : Nat) ^ 400 = 2 ^ 390 * 1024 := by decide +kernel
    have b2 := bf.mono (show 320 ≤ 390 by decide)
    unfold My.Bd at bl b2 ⊢
    rw [e]
    generalize (2 : Nat) ^ 390 = P at *
    omega
  have mg' : Mid (l - f) := bg.mono (by decide)
  walk_at "trun"
  refine z_iteD (fun c => ?_) (fun c => ?_)
  · have : tryS lo hi len up (My.qv tp bt) = none := by
      cases up with
      | true => rw [eT, if_neg (by omega)]
      | false => rw [eL, if_neg fun d => absurd d.1 (by omega)]
    rw [this] at φ
    walk_at "trun"
    exact φ
  have g6 : 12 * (l - f) ≤ len := by omega
  walk_at "trun"
  refine e_lc (i_rngL ?_)
  walk_at "trun"
  have rn : rngN f (l + 1) 1 = (l - f + 1).toNat := by
    unfold rngN Builtin.Range.rangeSize
    rw [if_pos (by decide), if_pos (by omega), Int.ediv_one]
    congr 1
    omega
  rw [rn]
  have nn : ((l - f + 1).toNat : Int) = l - f + 1 := by omega
  have bm : ∀ k : Nat, k < (l - f + 1).toNat → My.Bd 332 (f + (k : Int)) := fun k hk => by
    have e : (2 : Nat) ^ 332 = 2 ^ 320 * 4096 := by decide +kernel
    have p : 1 ≤ (2 : Nat) ^ 320 := Nat.pow_pos (by decide)
    unfold My.Bd at bf ⊢
    rw [e]
    generalize (2 : Nat) ^ 320 = P at *
    omega
  have cq : ∀ k : Nat, k < (l - f + 1).toNat → QN 500 (My.qv (f + (k : Int)) 1 * My.qv tp bt) := fun k hk => qn_mul (bm k hk) qs0
  have ek : ∀ a : Int, My.qv (a * tp) bt = My.qv a 1 * My.qv tp bt := fun a => by
    unfold My.qv
    rw [Rat.intCast_mul]
    grind
  refine ⟨_, .fz (by walk_at "tg") (.fz (by walk_at "tg") .nil), by rw [stepT_len]; omega, fun j o => o = numT (My.qv (f + (j : Int)) 1 * My.qv tp bt), fun j tt ht => ?_, fun os hl2 ho => ?_⟩
  · obtain ⟨hj, rfl⟩ := stepT_at ht
    rw [Int.mul_one]
    have mk : Mid (f + (j : Int)) := (bm j hj).mono (by decide)
    walk_at "trun"
    intro _ _
    refine a_low15 (n := 500) (t := (f + (j : Int)) * tp) (m := bt) b0 (((bm j hj).mul tb).mono (by decide)) (bb.mono (by decide)) (by decide) fun qz => ?_
    rw [ek]
    walk_at "trun"
    rfl
  rw [stepT_len] at hl2
  obtain rfl := lc_rng hl2 ho
  rw [show ((List.range (l - f + 1).toNat).map fun j : Nat => numT (My.qv (f + (j : Int)) 1 * My.qv tp bt)) = (celS f (My.qv tp bt) (l - f + 1).toNat).map numT by unfold celS; rw [List.map_map]; rfl]
  have cl : (celS f (My.qv tp bt) (l - f + 1).toNat).length = (l - f + 1).toNat := by unfold celS; rw [List.length_map, List.length_range]
  have cm : ∀ c ∈ celS f (My.qv tp bt) (l - f + 1).toNat, QN 500 c := fun c hc => by
    obtain ⟨k, hk, rfl⟩ := List.mem_map.mp hc
    exact cq k (List.mem_range.mp hk)
  have ck : ∀ k : Nat, k < (l - f + 1).toNat → (celS f (My.qv tp bt) (l - f + 1).toNat)[k]? = some (My.qv (f + (k : Int)) 1 * My.qv tp bt) := fun k hk => by
    unfold celS
    rw [List.getElem?_map, List.getElem?_range hk]
    rfl
  have c0 : (celS f (My.qv tp bt) (l - f + 1).toNat)[0]? = some (My.qv f 1 * My.qv tp bt) := by
    rw [ck 0 (by omega), show f + ((0 : Nat) : Int) = f by omega]
  have cN : (celS f (My.qv tp bt) (l - f + 1).toNat)[(celS f (My.qv tp bt) (l - f + 1).toNat).length - 1]? = some (My.qv l 1 * My.qv tp bt) := by
    rw [cl, ck _ (by omega), show f + (((l - f + 1).toNat - 1 : Nat) : Int) = l by omega]
  have tk : (celS f (My.qv tp bt) (l - f + 1).toNat).map (tckS (My.qv f 1 * My.qv tp bt) (My.qv l 1 * My.qv tp bt) len) = (List.range (l - f + 1).toNat).map fun j : Nat => Tr.tup [.int ((2 * len * (j : Int) + (l - f)) / (2 * (l - f))), .str (shS (My.qv (f + (j : Int)) 1 * My.qv tp bt))] := by
    unfold celS
    rw [List.map_map]
    refine List.map_congr_left fun k _ => ?_
    show tckS _ _ len (My.qv (f + (k : Int)) 1 * My.qv tp bt) = _
    unfold tckS
    rw [plq_k s0 g0, rnd_qv (by omega), ← Int.mul_assoc]
  unfold axB at eT eL
  rw [tk] at eT eL
  generalize celS f (My.qv tp bt) (l - f + 1).toNat = C at *
  refine g_nw (by walk_at "ts") ?_
  refine s_fix (k := 8) (by walk_at "tg") (by walk_at "ts") ?_
  walk_at "trun"
  refine e_lc (i_list rfl ?_)
  walk_at "trun"
  refine ⟨[], .nil, by rw [List.length_map]; omega, fun j o => ∃ c, C[j]? = some c ∧ o = .str (shS c), fun j tt ht => ?_, fun os hl3 ho3 => ?_⟩
  · obtain ⟨c, hc, rfl⟩ := of_map_at ht
    walk_at "trun"
    intro _ _
    refine ⟨c, rfl, (cm c (List.mem_of_getElem? hc)).up (by decide), ?_⟩
    walk_at "trun"
    exact ⟨c, hc, rfl⟩
  rw [List.length_map] at hl3
  obtain rfl := lc_maps (xs := C) (f := fun c => Tr.str (shS c)) hl3 ho3
  rw [show (C.map fun c => Tr.str (shS c)) = (C.map shS).map Tr.str by rw [List.map_map]; rfl]
  have ll : (C.map shS).length = C.length := List.length_map ..
  have lz : ∀ z ∈ C.map shS, z.length ≤ 1000 := fun z hz => by
    obtain ⟨c, hc, rfl⟩ := List.mem_map.mp hz
    exact Nat.le_trans (shS_len ((cm c hc).up (by decide))) (by decide)
  have lk : ∀ k : Nat, k < (l - f + 1).toNat → (C.map shS)[k]? = some (shS (My.qv (f + (k : Int)) 1 * My.qv tp bt)) := fun k hk => map_at (ck k hk)
  have lne : C.map shS ≠ [] := fun z => by rw [List.map_eq_nil_iff] at z; rw [z] at c0; cases c0
  have lnn := lng_nn (C.map shS)
  have lnl := lng_le lz
  generalize C.map shS = L at *
  refine g_nw (by walk_at "ts") ?_
  refine s_fix (k := 9) (by walk_at "tg") (by walk_at "ts") ?_
  walk_at "trun"
  refine e_lc (i_list rfl ?_)
  walk_at "trun"
  refine ⟨[], .nil, by rw [List.length_map, ll]; omega, fun j o => ∃ z, L[j]? = some z ∧ o = .int (z.length : Int), fun j tt ht => ?_, fun os hl4 ho4 => ?_⟩
  · obtain ⟨z, hz, rfl⟩ := of_map_at ht
    have := lz z (List.mem_of_getElem? hz)
    walk_at "trun"
    refine ru_lenZ (le_size (by omega)) ?_
    walk_at "trun"
    exact ⟨z, hz, rfl⟩
  rw [List.length_map] at hl4
  obtain rfl := lc_maps hl4 ho4
  rw [show (L.map fun z => Tr.int (z.length : Int)) = (L.map fun z => (z.length : Int)).map Tr.int by rw [List.map_map]; rfl]
  walk_at "trun"
  refine ru_maxL rfl Rk.fz (max_len lne) ?_
  have mL : Mid (lng L) := midZ (by omega) (by omega)
  have mL6 : Mid (6 + 6 * lng L) := midZ (by omega) (by omega)
  walk_at "trunI"
  refine s_cut (fun τ' => τ' = [.fz (.int tp), .fz (.int bt), .fz (.tup [.tup [.int lo.num, .int (lo.den : Int)], .tup [.int hi.num, .int (hi.den : Int)]]), .fz (.int len), .fz (.str (wayS up)), .fz (.int f), .fz (.int l), .fz (.int (l - f)), .fz (.lst (C.map numT)), .fz (.lst (L.map Tr.str)), .fz (.int (lng L)), .no, .fz (.tup [.int lo.num, .int (lo.den : Int)]), .fz (.tup [.int hi.num, .int (hi.den : Int)])] ∧ tryS lo hi len up (My.qv tp bt) = some (strT (My.qv f 1 * My.qv tp bt) (My.qv l 1 * My.qv tp bt) len, (List.range (l - f + 1).toNat).map fun j : Nat => Tr.tup [.int ((2 * len * (j : Int) + (l - f)) / (2 * (l - f))), .str (shS (My.qv (f + (j : Int)) 1 * My.qv tp bt))])) ?_ ?_
  · cases up with
    | true =>
      rw [if_pos g6] at eT
      rw [show wayS true = "upright" from rfl]
      walk_at "trun"
      refine ite_f (by decide) ?_
      walk_at "trun"
      exact ⟨rfl, eT⟩
    | false =>
      rw [show wayS false = "level" from rfl]
      walk_at "trun"
      refine ite_t (by decide) ?_
      walk_at "trun"
      refine z_iteD (fun c1 => ?_) (fun c1 => ?_)
      · rw [eL, if_neg fun d => absurd d.2.1 (by omega)] at φ
        walk_at "trun"
        exact φ
      walk_at "trun"
      refine z_iteD (fun c2 => ?_) (fun c2 => ?_)
      · rw [eL, if_neg fun d => absurd d.2.2 (by omega)] at φ
        walk_at "trun"
        exact φ
      rw [if_pos ⟨g6, by omega, by omega⟩] at eL
      walk_at "trun"
      exact ⟨rfl, eL⟩
  rintro τ' ⟨rfl, et⟩
  rw [et] at φ
  have m2l : Mid (2 * len) := midZ (by omega) (by omega)
  have m2g : Mid (2 * (l - f)) := midZ (by omega) (by omega)
  have mlen : Mid len := midZ (by omega) (by omega)
  walk_at "trun"
  refine e_lc (i_rng1 ?_)
  walk_at "trun"
  refine ⟨⟨by omega, by omega⟩, _, .fz (by walk_at "tg") (.fz (by walk_at "tg") (.fz (by walk_at "tg") .nil)), by rw [rangeT_len]; omega, fun j o => o = .tup [.int ((2 * len * (j : Int) + (l - f)) / (2 * (l - f))), .str (shS (My.qv (f + (j : Int)) 1 * My.qv tp bt))], fun j tt ht => ?_, fun os hl5 ho5 => ?_⟩
  · obtain ⟨hj, rfl⟩ := rangeT_at ht
    rw [Int.zero_add]
    have mj : Mid (j : Nat) := midZ (by omega) (by omega)
    have ej : atI (L.map Tr.str) ((j : Nat) : Int) = some (.str (shS (My.qv (f + (j : Int)) 1 * My.qv tp bt))) := atI_nat (map_at (lk j (by omega)))
    walk_at "trun"
    refine ro_ixL rfl Rk.fz ej ?_
    walk_at "trun"
    rfl
  rw [rangeT_len] at hl5
  obtain rfl := lc_rng hl5 ho5
  refine g_nw (by walk_at "ts") ?_
  refine s_fix (k := 11) (by walk_at "tg") (by walk_at "ts") ?_
  walk_at "trun"
  refine ro_ixL rfl Rk.fz (atI_first (map_at c0)) ?_
  walk_at "trun"
  refine ro_ixL rfl Rk.fz (atI_last (by rw [List.length_map]; exact map_at cN)) ?_
  walk_at "trun"
  exact φ
def tpE (e : Int) : Int := if 0 ≤ e then (10 : Int) ^ e.toNat else 1
def btE (e : Int) : Int := if 0 ≤ e then 1 else (10 : Int) ^ (-e).toNat
theorem tpE_pos (e : Int) : 0 < tpE e := by
  unfold tpE
  split
  · exact Int.pow_pos (by decide)
  · decide
theorem btE_pos (e : Int) : 0 < btE e := by
  unfold btE
  split
  · decide
  · exact Int.pow_pos (by decide)
theorem te_qv (e : Int) : My.qv (tpE e) (btE e) = (10 : Rat) ^ e := by
  unfold tpE btE
  rcases Int.lt_or_le e 0 with z | z
  · rw [if_neg (by omega), if_neg (by omega)]
    have e1 : (10 : Rat) ^ e = 1 / (10 : Rat) ^ (((-e).toNat : Nat) : Int) := by
      rw [show e = -(((-e).toNat : Nat) : Int) by omega, Rat.zpow_neg]
      rw [show (-(-(((-e).toNat : Nat) : Int))).toNat = (-e).toNat by omega]
      grind
    rw [e1, show ((10 : Rat) ^ (((-e).toNat : Nat) : Int)) = (((10 : Int) ^ (-e).toNat : Int) : Rat) from zp_nat 10 _]
    rfl
  · rw [if_pos z, if_pos z, My.qv_int]
    have := zp_nat 10 e.toNat
    rw [show ((e.toNat : Nat) : Int) = e by omega] at this
    exact this.symm
theorem te_bd {e : Int} (h0 : -40 ≤ e) (h1 : e ≤ 40) : My.Bd 140 (tpE e) ∧ My.Bd 140 (btE e) := by
  have o1 : My.Bd 140 1 := by unfold My.Bd; decide +kernel
  have bd : ∀ n : Nat, n ≤ 40 → My.Bd 140 ((10 : Int) ^ n) := fun n h => by
    unfold My.Bd
    rw [Int.natAbs_pow]
    exact Nat.lt_of_le_of_lt (Nat.pow_le_pow_right (by decide) h) (by decide +kernel)
  unfold tpE btE
  split
  · exact ⟨bd _ (by omega), o1⟩
  · exact ⟨o1, bd _ (by omega)⟩
theorem tpE_succ {e : Int} (h : 0 ≤ e) : tpE (e + 1) = tpE e * 10 := by
  unfold tpE
  rw [if_pos (by omega), if_pos h, show (e + 1).toNat = e.toNat + 1 by omega, Int.pow_succ]
theorem btE_pred {e : Int} (h : e ≤ 0) : btE (e - 1) = btE e * 10 := by
  unfold btE
  rw [if_neg (by omega)]
  split
  · rw [show e = 0 by omega]; rfl
  · rw [show (-(e - 1)).toNat = (-e).toNat + 1 by omega, Int.pow_succ]
theorem btE_half {e : Int} (h : e < 0) : btE e / 10 = btE (e + 1) := by
  have := btE_pred (e := e + 1) (by omega)
  rw [show e + 1 - 1 = e by omega] at this
  rw [this, Int.mul_ediv_cancel _ (by decide)]
theorem tpE_np {e : Int} (h : e ≤ 0) : tpE e = 1 := by
  unfold tpE
  split
  · rw [show e = 0 by omega]; rfl
  · rfl
theorem btE_nn {e : Int} (h : 0 ≤ e) : btE e = 1 := by
  unfold btE
  rw [if_pos h]
theorem btE_gt {e : Int} : 1 < btE e ↔ e < 0 := by
  constructor
  · intro h
    rcases Int.lt_or_le e 0 with z | z
    · exact z
    · rw [btE_nn z] at h; omega
  · intro h
    have := btE_pred (e := e + 1) (by omega)
    rw [show e + 1 - 1 = e by omega] at this
    have := btE_pos (e + 1)
    omega
def pT (p : Int × Int) : Tr := .tup [.int p.1, .int p.2]
theorem filt_any {c : Int × Int → Prop} [DecidablePred c] : ∀ {gs : List (Int × Int)} {os : List (Option Tr)}, os.length = gs.length → (∀ (j : Nat) (o : Option Tr), os[j]? = some o → ∃ p, gs[j]? = some p ∧ o = if c p then some (pT p) else none) → ((os.filterMap id).isEmpty = false ↔ ∃ p ∈ gs, c p)
  | [], os, hl, _ => by
    rw [List.eq_nil_of_length_eq_zero hl]
    simp
  | x :: xs, [], hl, _ => by simp at hl
  | x :: xs, o :: os, hl, h => by
    obtain ⟨x', e, ho⟩ := h 0 o rfl
    cases e
    have ih := filt_any (c := c) (gs := xs) (os := os) (by simpa using hl) fun j o e => h (j + 1) o e
    rw [List.filterMap_cons, ho]
    by_cases hb : c x
    · rw [if_pos hb]
      exact ⟨fun _ => ⟨x, List.mem_cons_self, hb⟩, fun _ => rfl⟩
    · rw [if_neg hb]
      show (os.filterMap id).isEmpty = false ↔ _
      rw [ih]
      exact ⟨fun ⟨p, h1, h2⟩ => ⟨p, List.mem_cons_of_mem _ h1, h2⟩, fun ⟨p, h1, h2⟩ => by
        rcases List.mem_cons.mp h1 with rfl | h1
        · exact absurd h2 hb
        · exact ⟨p, h1, h2⟩⟩
theorem ex_max : ∀ (x : Rat) (xs : List Rat), ∃ g, gsQ (x :: xs) g
  | x, [] => ⟨x, List.mem_cons_self, fun c hc => by rw [List.mem_singleton.mp hc]; exact Rat.le_refl⟩
  | x, y :: ys => by
    obtain ⟨g, h1, h2⟩ := ex_max y ys
    rcases (Rat.le_total : x ≤ g ∨ g ≤ x) with z | z
    · refine ⟨g, List.mem_cons_of_mem _ h1, fun c hc => ?_⟩
      rcases List.mem_cons.mp hc with rfl | hc
      · exact z
      · exact h2 c hc
    · refine ⟨x, List.mem_cons_self, fun c hc => ?_⟩
      rcases List.mem_cons.mp hc with rfl | hc
      · exact Rat.le_refl
      · exact Rat.le_trans (h2 c hc) z
theorem ex_lg {s : Rat} {a : Int} : ∀ n : Nat, (10 : Rat) ^ a ≤ s → s < (10 : Rat) ^ (a + (n : Int)) → ∃ E, Lg 10 s E
  | 0, h, g => by
    rw [show a + ((0 : Nat) : Int) = a by omega] at g
    exact absurd g (Rat.not_lt.mpr h)
  | n + 1, h, g => by
    by_cases z : s < (10 : Rat) ^ (a + (n : Int))
    · exact ex_lg n h z
    · exact ⟨a + (n : Int), Rat.not_lt.mp z, by rw [show a + (n : Int) + 1 = a + ((n + 1 : Nat) : Int) by omega]; exact g⟩
def greats (lo hi : Rat) : List (Int × Int) := [(1, 1), (if lo.num < 0 then -lo.num else lo.num, (lo.den : Int)), (if hi.num < 0 then -hi.num else hi.num, (hi.den : Int)), (hi.num * lo.den - lo.num * hi.den, (hi.den : Int) * lo.den)]
theorem span_qv {lo hi : Rat} : My.qv (hi.num * lo.den - lo.num * hi.den) ((hi.den : Int) * lo.den) = hi - lo := by
  have d : (0 : Int) < (lo.den : Int) := Int.natCast_pos.mpr lo.den_pos
  have d2 : (0 : Int) < (hi.den : Int) := Int.natCast_pos.mpr hi.den_pos
  rw [My.qv_minus (by omega) (by omega), qv_self, qv_self]
theorem great_any {lo hi g : Rat} {a b : Int} (hg : gsQ [My.qv 1 1, hi - lo, My.qv (if lo.num < 0 then -lo.num else lo.num) lo.den, My.qv (if hi.num < 0 then -hi.num else hi.num) hi.den] g) (hb : 0 < b) : (∃ p ∈ greats lo hi, a * p.2 ≤ 10 * p.1 * b) ↔ My.qv a b ≤ My.qv 10 1 * g := by
  have d : (0 : Int) < (lo.den : Int) := Int.natCast_pos.mpr lo.den_pos
  have d2 : (0 : Int) < (hi.den : Int) := Int.natCast_pos.mpr hi.den_pos
  have one : ∀ x y : Int, 0 < y → (a * y ≤ 10 * x * b ↔ My.qv a b ≤ My.qv 10 1 * My.qv x y) := fun x y hy => by
    rw [← My.qv_times (by decide) (by omega), My.le_qv hb (by omega), Int.one_mul]
    omega
  have t10 : (0 : Rat) < My.qv 10 1 := by rw [My.qv_int]; decide
  constructor
  · rintro ⟨⟨x, y⟩, hm, h⟩
    have key : My.qv x y ≤ g ∧ 0 < y := by
      unfold greats at hm
      simp only [List.mem_cons, Prod.mk.injEq, List.not_mem_nil, or_false] at hm
      rcases hm with ⟨rfl, rfl⟩ | ⟨rfl, rfl⟩ | ⟨rfl, rfl⟩ | ⟨rfl, rfl⟩
      · exact ⟨hg.2 _ (by simp), by decide⟩
      · exact ⟨hg.2 _ (by simp), d⟩
      · exact ⟨hg.2 _ (by simp), d2⟩
      · rw [span_qv]; exact ⟨hg.2 _ (by simp), Int.mul_pos d2 d⟩
    have h := (one x y key.2).mp h
    refine Rat.le_trans h ?_
    exact Rat.mul_le_mul_of_nonneg_left key.1 (Rat.le_of_lt t10)
  · intro h
    have hm := hg.1
    simp only [List.mem_cons, List.not_mem_nil, or_false] at hm
    unfold greats
    rcases hm with rfl | rfl | rfl | rfl
    · exact ⟨(1, 1), by simp, (one 1 1 (by decide)).mpr h⟩
    · refine ⟨(hi.num * lo.den - lo.num * hi.den, (hi.den : Int) * lo.den), by simp, (one _ _ (Int.mul_pos d2 d)).mpr ?_⟩
      rw [span_qv]; exact h
    · exact ⟨_, List.mem_cons_of_mem _ List.mem_cons_self, (one _ _ d).mpr h⟩
    · exact ⟨_, List.mem_cons_of_mem _ (List.mem_cons_of_mem _ List.mem_cons_self), (one _ _ d2).mpr h⟩
def three (e : Int) : List Rat := [(1 : Int), 2, 5].map fun d => My.qv d 1 * (10 : Rat) ^ e
theorem round_succ {e : Int} {n : Nat} {m : Rat} : roundL e (n + 1) m = ((three e).filter fun s => decide (s ≤ m)) ++ roundL (e + 1) n m := by
  unfold roundL
  rw [← List.filter_append]
  rfl
theorem fl_filt {f : Rat → Option (Tr × List Tr)} {x m : Rat} {r q : List Rat} : fstL f (((x :: r).filter fun s => decide (s ≤ m)) ++ q) = if x ≤ m then (match f x with | some y => some y | none => fstL f ((r.filter fun s => decide (s ≤ m)) ++ q)) else fstL f ((r.filter fun s => decide (s ≤ m)) ++ q) := by
  rw [List.filter_cons]
  by_cases z : x ≤ m
  · rw [if_pos (decide_eq_true z), if_pos z]
    rfl
  · rw [if_neg (by rw [decide_eq_false z]; exact Bool.false_ne_true), if_neg z]
theorem lg_le {s : Rat} {E e : Int} (h : Lg 10 s E) : (10 : Rat) ^ e ≤ s ↔ e ≤ E := by
  constructor
  · intro z
    have := My.zp_exp (p := 10) (by decide) z h.2
    omega
  · intro z
    exact Rat.le_trans (My.zp_le (by decide) z) h.1
theorem te_d (d e : Int) : My.qv (d * tpE e) (btE e) = My.qv d 1 * (10 : Rat) ^ e := by
  rw [← te_qv, ← My.qv_times (by decide) (by have := btE_pos e; omega), Int.one_mul]
theorem te_10 (e : Int) : My.qv (tpE e * 10) (btE e) = (10 : Rat) ^ (e + 1) := by
  rw [Int.mul_comm, te_d, pt_succ, My.qv_int]
  rfl
def st_due : SpT := fun _ as Φ _ => ∃ (lo hi : Rat) (len : Int) (up : Bool), as = [.fz (.tup [numT lo, numT hi]), .fz (.int len), .fz (.str (wayS up))] ∧ AOk lo hi len ∧ (10 : Rat) ^ (-30 : Int) ≤ (hi - lo) / My.qv len 1 ∧ (hi - lo) / My.qv len 1 < (10 : Rat) ^ (25 : Int) ∧ Φ (.fz (dT (axV lo hi len up)))
theorem okT_l_due (T : Txt K mg t) : FnOk P w K mg base CX0 3 t.f_l_due t.d_l_due ["_law_ends_here", "_law_length", "_law_way"] (toSp K st_due) := by
  have G_l_by := okT_l_by (P := P) (w := w) (base := base) T
  refine T.F_l_due.ok sc_l_due (toSp_len (fun B as Φ Ψ h => by obtain ⟨_, _, _, _, rfl, _⟩ := h; rfl)) (fun cdv A outer s H vs Q E hr h => ?_)
  obtain ⟨B, as, Φ, Ψ, rfl, hS, hx, go⟩ := toSp_open h
  obtain ⟨lo, hi, len, up, rfl, ok, k0, k1, φ⟩ := hS
  obtain ⟨E, hE⟩ := ex_lg 55 k0 (show _ < (10 : Rat) ^ (-30 + ((55 : Nat) : Int)) from k1)
  obtain ⟨e0, e1⟩ := ok.e E hE
  obtain ⟨g, hg⟩ := ex_max (My.qv 1 1) [hi - lo, My.qv (if lo.num < 0 then -lo.num else lo.num) lo.den, My.qv (if hi.num < 0 then -hi.num else hi.num) hi.den]
  have mo := ok.m g hg
  obtain ⟨N, n1, n2, n3⟩ := ex_n (E := E) (most := My.qv 10 1 * g) (26 - E).toNat (by have := My.zp_le (p := 10) (by decide) (show (25 : Int) ≤ E + (((26 - E).toNat : Nat) : Int) by omega); grind)
  have sa : stepsOf lo hi len = roundL E N (My.qv 10 1 * g) := stepsOf_is ⟨E, N, g, hg, hE, n2, n3, rfl⟩
  unfold axV at φ
  rw [sa] at φ
  have any := fun (a b : Int) (hb : 0 < b) => great_any (a := a) (b := b) hg hb
  generalize My.qv 10 1 * g = most at *
  obtain ⟨hl, hh, lt, l0, l1⟩ := ok.s
  have dl : (0 : Int) < (lo.den : Int) := Int.natCast_pos.mpr lo.den_pos
  have dh : (0 : Int) < (hi.den : Int) := Int.natCast_pos.mpr hi.den_pos
  have m1 : Mid lo.num := hl.a.mono (by decide)
  have m2 : Mid (lo.den : Int) := hl.b.mono (by decide)
  have m3 : Mid hi.num := hh.a.mono (by decide)
  have m4 : Mid (hi.den : Int) := hh.b.mono (by decide)
  have bd1 : My.Bd 300 (hi.num * (lo.den : Int) - lo.num * (hi.den : Int)) := by
    have h1 : My.Bd 265 (hi.num * (lo.den : Int)) := hh.a.mul hl.b
    have h2 : My.Bd 265 (lo.num * (hi.den : Int)) := hl.a.mul hh.b
    have e2 : (2 : Nat) ^ 300 = 2 ^ 265 * 34359738368 := by decide +kernel
    unfold My.Bd at h1 h2 ⊢
    rw [e2]
    generalize (2 : Nat) ^ 265 = P at *
    omega
  have bd2 : My.Bd 300 ((hi.den : Int) * (lo.den : Int)) := (show My.Bd 265 _ from hh.b.mul hl.b).mono (by decide)
  have m5 : Mid (hi.num * (lo.den : Int) - lo.num * (hi.den : Int)) := bd1.mono (by decide)
  have m6 : Mid ((hi.den : Int) * (lo.den : Int)) := bd2.mono (by decide)
  have p6 : 0 < (hi.den : Int) * (lo.den : Int) := Int.mul_pos dh dl
  have mlen : Mid len := midZ (by omega) (by omega)
  have sp : (hi - lo) / My.qv len 1 = My.qv (hi.num * lo.den - lo.num * hi.den) (len * ((hi.den : Int) * lo.den)) := by
    rw [← span_qv, ← My.qv_over (by omega) (by decide) (by omega), Int.mul_one, Int.mul_comm len]
  have ge : ∀ a b : Int, 0 < b → (a * ((hi.den : Int) * lo.den) * len ≤ (hi.num * lo.den - lo.num * hi.den) * b ↔ My.qv a b ≤ (hi - lo) / My.qv len 1) := fun a b hb => by
    rw [sp, My.le_qv hb (Int.mul_pos (by omega) p6), Int.mul_assoc, Int.mul_comm len]
    omega
  have te := fun e h0 h1 => te_bd (e := e) h0 h1
  refine ⟨_, (psc (ps_asg (pv 0) (pg_tup rfl (pgs_cons (pg_name (i := 7) sc_l_due.nd rfl (Or.inl rfl)) (pgs_cons (pg_name (i := 8) sc_l_due.nd rfl (Or.inl rfl)) pgs_nil))))
  (psc (ps_set (i := 3) sc_l_due.nd rfl (Or.inl rfl) (pe_tup (pcn (pe_op op_sub (pe_op op_mulB (pe_ix ixt (pv 8) pei (fun _ _ => rfl)) (pe_ix ixt (pv 7) pei (fun _ _ => rfl))) (pe_op op_mulB (pe_ix ixt (pv 7) pei (fun _ _ => rfl)) (pe_ix ixt (pv 8) pei (fun _ _ => rfl)))) (pcn (pe_op op_mulB (pe_ix ixt (pv 8) pei (fun _ _ => rfl)) (pe_ix ixt (pv 7) pei (fun _ _ => rfl))) pnl))))
  (psc (ps_set (i := 4) sc_l_due.nd rfl (Or.inl rfl) (pe_lst (pcn (pe_tup (pcn pei (pcn pei pnl))) (pcn (pe_tup (pcn (pe_callB call_abs rfl T.z_abs bt_abs (pcn (pe_ix ixt (pv 7) pei (fun _ _ => rfl)) pnl)) (pcn (pe_ix ixt (pv 7) pei (fun _ _ => rfl)) pnl))) (pcn (pe_tup (pcn (pe_callB call_abs rfl T.z_abs bt_abs (pcn (pe_ix ixt (pv 8) pei (fun _ _ => rfl)) pnl)) (pcn (pe_ix ixt (pv 8) pei (fun _ _ => rfl)) pnl))) (pcn (pv 3) pnl))))))
  (psc (ps_set (i := 5) sc_l_due.nd rfl (Or.inr rfl) pei)
  (psc (ps_set (i := 6) sc_l_due.nd rfl (Or.inr rfl) pei)
  (psc (ps_while PassesOwn.never (pt_cmpR op_gt (pe_op op_mulB (pe_op op_mulB (pv 5) (pe_ix ixt (pv 3) pei (fun _ _ => rfl))) (pv 1)) (pe_op op_mulB (pe_ix ixt (pv 3) pei (fun _ _ => rfl)) (pv 6)) (nomark _)) (pso (ps_set (i := 6) sc_l_due.nd rfl (Or.inr rfl) (pe_op op_mulB (pv 6) pei))))
  (psc (ps_while PassesOwn.never (pt_cmpR op_le (pe_op op_mulB (pe_op op_mulB (pe_op op_mulB (pv 5) pei) (pe_ix ixt (pv 3) pei (fun _ _ => rfl))) (pv 1)) (pe_op op_mulB (pe_ix ixt (pv 3) pei (fun _ _ => rfl)) (pv 6)) (nomark _)) (pso (ps_set (i := 5) sc_l_due.nd rfl (Or.inr rfl) (pe_op op_mulB (pv 5) pei))))
  (psc (ps_while PassesOwn.never (pt_cmpR (op_neE hr.units0) (pe_lcIf (tg := "_law_one") (fr := [("_law_top", 5), ("_law_bottom", 6)]) rfl (compOkG_of (osc := defScope s_l_due) (N := ["_law_ends_here", "_law_length", "_law_way", "_law_between", "_law_greats", "_law_top", "_law_bottom", "_law_lo", "_law_hi", "_law_digit", "_law_found"]) rfl rfl (by decide +kernel)) (pi_list (pv 4)) (fun _ _ _ _ _ => (pt_cmpR op_le (pe_op op_mulB (pv 1) (pe_ix (r := rIxT B.K) ixt (pv 0) pei (fun _ _ => rfl))) (pe_op op_mulB (pe_op op_mulB pei (pe_ix (r := rIxT B.K) ixt (pv 0) pei (fun _ _ => rfl))) (pv 2)) (nomark _))) (fun _ _ _ _ _ => (pv 0))) (pe_lst pnl) (nomark _)) (psc (ps_for PassesOwn.never rfl (pi_list (pe_lst (pcn pei (pcn pei (pcn pei pnl))))) (pg_name (i := 9) sc_l_due.nd rfl (Or.inr rfl)) (pso (ps_if (pt_cmpR (op_neE hr.units0) (pe_lcIf (tg := "_law_one") (fr := [("_law_top", 5), ("_law_bottom", 6), ("_law_digit", 9)]) rfl (compOkG_of (osc := defScope s_l_due) (N := ["_law_ends_here", "_law_length", "_law_way", "_law_between", "_law_greats", "_law_top", "_law_bottom", "_law_lo", "_law_hi", "_law_digit", "_law_found"]) rfl rfl (by decide +kernel)) (pi_list (pv 4)) (fun _ _ _ _ _ => (pt_cmpR op_le (pe_op op_mulB (pe_op op_mulB (pv 3) (pv 1)) (pe_ix (r := rIxT B.K) ixt (pv 0) pei (fun _ _ => rfl))) (pe_op op_mulB (pe_op op_mulB pei (pe_ix (r := rIxT B.K) ixt (pv 0) pei (fun _ _ => rfl))) (pv 2)) (nomark _))) (fun _ _ _ _ _ => (pv 0))) (pe_lst pnl) (nomark _)) (psc (ps_set (i := 10) sc_l_due.nd rfl (Or.inl rfl) (pe_call G_l_by (hr.mono (by decide)) rfl T.m_l_by T.k_l_by T.b_l_by .nil pass0 (pcn (pe_op op_mulB (pv 9) (pv 5)) (pcn (pv 6) (pcn (pv 0) (pcn (pv 1) (pcn (pv 2) pnl)))))))
  (pso (ps_if (pt_cmpR op_notN' (pv 10) pe_non (nomark _)) (pso (ps_ret (pv 10))) pss_nil))) pss_nil)))
  (pso (ps_if (pt_cmpR op_gt (pv 6) pei (nomark _)) (pso (ps_set (i := 6) sc_l_due.nd rfl (Or.inr rfl) (pe_op op_fdivB (pv 6) pei))) (pso (ps_set (i := 5) sc_l_due.nd rfl (Or.inr rfl) (pe_op op_mulB (pv 5) pei)))))))
  (pso (ps_ret pe_non)))))))))), go _ _ (s_go (τ := [.fz _, .fz _, .fz _, .no, .no, .no, .no, .no, .no, .no, .no]) rfl ?_)⟩
  rw [show numT lo = Tr.tup [.int lo.num, .int (lo.den : Int)] from rfl, show numT hi = Tr.tup [.int hi.num, .int (hi.den : Int)] from rfl]
  walk_at "trun"
  refine s_fix (k := 4) (by walk_at "tg") (by walk_at "ts") ?_
  have gb : ∀ p ∈ greats lo hi, My.Bd 300 p.1 ∧ My.Bd 300 p.2 := fun p hp => by
    have ab : ∀ {n : Nat} {x : Int}, My.Bd n x → My.Bd n (if x < 0 then -x else x) := fun h => by
      split
      · unfold My.Bd at h ⊢; rw [Int.natAbs_neg]; exact h
      · exact h
    unfold greats at hp
    rcases List.mem_cons.mp hp with rfl | hp
    · exact ⟨by unfold My.Bd; decide +kernel, by unfold My.Bd; decide +kernel⟩
    rcases List.mem_cons.mp hp with rfl | hp
    · exact ⟨(ab hl.a).mono (by decide), hl.b.mono (by decide)⟩
    rcases List.mem_cons.mp hp with rfl | hp
    · exact ⟨(ab hh.a).mono (by decide), hh.b.mono (by decide)⟩
    · rw [List.mem_singleton.mp hp]; exact ⟨bd1, bd2⟩
  have gl : (greats lo hi).length = 4 := rfl
  rw [show [Tr.tup [.int 1, .int 1], Tr.tup [.int (if lo.num < 0 then -lo.num else lo.num), .int (lo.den : Int)], Tr.tup [.int (if hi.num < 0 then -hi.num else hi.num), .int (hi.den : Int)], Tr.tup [.int (hi.num * lo.den - lo.num * hi.den), .int ((hi.den : Int) * lo.den)]] = (greats lo hi).map pT from rfl]
  generalize greats lo hi = gs at *
  generalize hi.num * (lo.den : Int) - lo.num * (hi.den : Int) = x4 at *
  generalize (hi.den : Int) * (lo.den : Int) = y4 at *
  refine s_while (fun m τ => ∃ k : Nat, m = 300 - k ∧ k ≤ 30 ∧ (k = 0 ∨ E ≤ -(k : Int)) ∧ τ = [.fz (.tup [.tup [.int lo.num, .int (lo.den : Int)], .tup [.int hi.num, .int (hi.den : Int)]]), .fz (.int len), .fz (.str (wayS up)), .fz (.tup [.int x4, .int y4]), .fz (.lst (gs.map pT)), .fz (.int 1), .fz (.int (btE (-(k : Int)))), .fz (.tup [.int lo.num, .int (lo.den : Int)]), .fz (.tup [.int hi.num, .int (hi.den : Int)]), .no, .no]) 300 ⟨0, rfl, by omega, .inl rfl, rfl⟩ ?_
  rintro m τ ⟨k, rfl, hk, hkE, rfl⟩
  have mb : Mid (btE (-(k : Int))) := (te _ (by omega) (by omega)).2.mono (by decide)
  have m1y : Mid (1 * y4) := by rw [Int.one_mul]; exact m6
  walk_at "trun"
  have t1 : (1 * y4 * len ≤ x4 * btE (-(k : Int))) ↔ -(k : Int) ≤ E := by
    rw [ge 1 _ (btE_pos _), ← lg_le hE, ← te_qv, tpE_np (by omega)]
  refine z_iteD (fun c => ?_) (fun c => ?_)
  · walk_at "trun"
    refine ⟨300 - (k + 1), by omega, k + 1, rfl, by omega, .inr (by omega), ?_⟩
    rw [show -((k + 1 : Nat) : Int) = -(k : Int) - 1 by omega, btE_pred (by omega)]
  have hk1 : -(k : Int) ≤ E := by omega
  walk_at "trun"
  refine s_while (fun m τ => ∃ e : Int, m = (100 - e).toNat ∧ -30 ≤ e ∧ e ≤ E ∧ (0 ≤ e ∨ e = E) ∧ τ = [.fz (.tup [.tup [.int lo.num, .int (lo.den : Int)], .tup [.int hi.num, .int (hi.den : Int)]]), .fz (.int len), .fz (.str (wayS up)), .fz (.tup [.int x4, .int y4]), .fz (.lst (gs.map pT)), .fz (.int (tpE e)), .fz (.int (btE e)), .fz (.tup [.int lo.num, .int (lo.den : Int)]), .fz (.tup [.int hi.num, .int (hi.den : Int)]), .no, .no]) (100 - -(k : Int)).toNat ⟨-(k : Int), rfl, by omega, hk1, by omega, by rw [tpE_np (by omega)]⟩ ?_
  clear mb m1y t1 c
  rintro m τ ⟨e, rfl, he0, he1, he2, rfl⟩
  have mt : Mid (tpE e) := (te _ (by omega) (by omega)).1.mono (by decide)
  have mb : Mid (btE e) := (te _ (by omega) (by omega)).2.mono (by decide)
  have b10 : My.Bd 8 10 := by unfold My.Bd; decide
  have mt10 : Mid (tpE e * 10) := ((te e (by omega) (by omega)).1.mul b10).mono (by decide)
  have mty : Mid (tpE e * 10 * y4) := (((te e (by omega) (by omega)).1.mul b10).mul bd2).mono (by decide)
  walk_at "trun"
  have t2 : (tpE e * 10 * y4 * len ≤ x4 * btE e) ↔ e + 1 ≤ E := by
    rw [ge _ _ (btE_pos _), ← lg_le hE, te_10]
  refine z_iteD (fun c => ?_) (fun c => ?_)
  · walk_at "trun"
    refine ⟨(100 - (e + 1)).toNat, by omega, e + 1, rfl, by omega, by omega, by omega, ?_⟩
    rw [tpE_succ (by omega), btE_nn (e := e + 1) (by omega), btE_nn (e := e) (by omega)]
  have : e = E := by omega
  subst this
  clear mt mb mt10 mty t2 c he0 he1 he2 hk hkE hk1
  have tst : ∀ a b : Int, 0 < b → ∀ os : List (Option Tr), os.length = gs.length → (∀ (j : Nat) (o : Option Tr), os[j]? = some o → ∃ p : Int × Int, gs[j]? = some p ∧ o = if a * p.2 ≤ 10 * p.1 * b then some (pT p) else none) → (os.filterMap id).isEmpty = !decide (My.qv a b ≤ most) := fun a b hb os hl ho => by
    have h := (filt_any (c := fun p : Int × Int => a * p.2 ≤ 10 * p.1 * b) hl ho).trans (any a b hb)
    by_cases z : My.qv a b ≤ most
    · rw [decide_eq_true z, h.mpr z]; rfl
    · rw [decide_eq_false z]
      cases q : (os.filterMap id).isEmpty with
      | true => rfl
      | false => exact absurd (h.mp q) z
  walk_at "trun"
  refine s_while (fun m τ => ∃ (n : Nat) (u9 u10 : Sl), m = N - n ∧ n ≤ N ∧ fstL (tryS lo hi len up) (roundL e N most) = fstL (tryS lo hi len up) (roundL (e + (n : Int)) (N - n) most) ∧ τ = [.fz (.tup [.tup [.int lo.num, .int (lo.den : Int)], .tup [.int hi.num, .int (hi.den : Int)]]), .fz (.int len), .fz (.str (wayS up)), .fz (.tup [.int x4, .int y4]), .fz (.lst (gs.map pT)), .fz (.int (tpE (e + (n : Int)))), .fz (.int (btE (e + (n : Int)))), .fz (.tup [.int lo.num, .int (lo.den : Int)]), .fz (.tup [.int hi.num, .int (hi.den : Int)]), u9, u10]) N ⟨0, _, _, rfl, Nat.zero_le _, by rw [show e + ((0 : Nat) : Int) = e by omega]; rfl, by rw [show e + ((0 : Nat) : Int) = e by omega]⟩ ?_
  rintro m τ ⟨n, u9, u10, rfl, hn, hb, rfl⟩
  generalize hf : e + (n : Int) = f at *
  have bt' := te f (by omega) (by omega)
  have mt : Mid (tpE f) := bt'.1.mono (by decide)
  have mb : Mid (btE f) := bt'.2.mono (by decide)
  have b10 : My.Bd 8 10 := by unfold My.Bd; decide
  walk_at "trun"
  refine e_lcIf (i_list rfl ?_)
  walk_at "trun"
  refine ⟨_, .fz (by walk_at "tg") (.fz (by walk_at "tg") .nil), by rw [List.length_map, gl]; decide, fun j o => ∃ p : Int × Int, gs[j]? = some p ∧ o = if tpE f * p.2 ≤ 10 * p.1 * btE f then some (pT p) else none, fun j tt ht => ?_, fun os hl2 ho => ?_⟩
  · obtain ⟨p, hp, rfl⟩ := of_map_at ht
    obtain ⟨g1, g2⟩ := gb p (List.mem_of_getElem? hp)
    have mp1 : Mid p.1 := g1.mono (by decide)
    have mp2 : Mid p.2 := g2.mono (by decide)
    have mp3 : Mid (10 * p.1) := (b10.mul g1).mono (by decide)
    rw [show pT p = Tr.tup [.int p.1, .int p.2] from rfl]
    walk_at "trun"
    refine z_iteD (fun c => ?_) (fun c => ?_)
    · walk_at "trun"
      exact ⟨p, hp, by rw [if_pos c]; rfl⟩
    · exact ⟨p, hp, by rw [if_neg c]⟩
  rw [List.length_map] at hl2
  have tt := tst _ _ (btE_pos f) os hl2 ho
  rw [te_qv] at tt
  clear ho hl2
  walk_at "trun"
  refine ro_eqE rfl (by walk_at "rk") Rk.fz ?_
  rw [tt, Bool.not_not]
  walk_at "trun"
  refine z_iteD (fun c => ?_) (fun c => ?_)
  rotate_left
  · have : n = N := by
      rcases Nat.lt_or_ge n N with z | z
      · have := n3 n (by omega)
        rw [hf] at this
        exact absurd this c
      · omega
    subst this
    rw [Nat.sub_self] at hb
    rw [hb] at φ
    walk_at "trun"
    exact φ
  have hnN : n < N := by
    rcases Nat.lt_or_ge n N with z | z
    · exact z
    · have : n = N := by omega
      subst this
      rw [hf] at n2
      exact absurd c (Rat.not_le.mpr n2)
  rw [show N - n = N - (n + 1) + 1 by omega, round_succ] at hb
  walk_at "trun"
  refine ⟨fun i τ => ∃ u9 u10, τ = [.fz (.tup [.tup [.int lo.num, .int (lo.den : Int)], .tup [.int hi.num, .int (hi.den : Int)]]), .fz (.int len), .fz (.str (wayS up)), .fz (.tup [.int x4, .int y4]), .fz (.lst (gs.map pT)), .fz (.int (tpE f)), .fz (.int (btE f)), .fz (.tup [.int lo.num, .int (lo.den : Int)]), .fz (.tup [.int hi.num, .int (hi.den : Int)]), u9, u10] ∧ fstL (tryS lo hi len up) (roundL e N most) = fstL (tryS lo hi len up) ((((three f).drop i).filter fun s => decide (s ≤ most)) ++ roundL (f + 1) (N - (n + 1)) most), ⟨_, _, rfl, hb⟩, ?_, ?_⟩
  · clear u9 u10 hb tt c
    rintro i tt τ hi' ⟨u9, u10, rfl, hb⟩
    obtain ⟨d, rfl, d0, d1, hd⟩ : ∃ d : Int, tt = .int d ∧ 1 ≤ d ∧ d ≤ 5 ∧ (three f)[i]? = some (My.qv d 1 * (10 : Rat) ^ f) := by
      match i, hi' with
      | 0, h => cases h; exact ⟨1, rfl, by decide, by decide, rfl⟩
      | 1, h => cases h; exact ⟨2, rfl, by decide, by decide, rfl⟩
      | 2, h => cases h; exact ⟨5, rfl, by decide, by decide, rfl⟩
    rw [drop_at hd, fl_filt, ← te_d] at hb
    have bd : My.Bd 8 d := by unfold My.Bd; omega
    have md : Mid d := bd.mono (by decide)
    have bdt : My.Bd 149 (d * tpE f) := (bd.mul bt'.1).mono (by decide)
    have mdt : Mid (d * tpE f) := bdt.mono (by decide)
    refine g_fz (by walk_at "ts") ?_
    walk_at "trun"
    refine e_lcIf (i_list rfl ?_)
    walk_at "trun"
    refine ⟨_, .fz (by walk_at "tg") (.fz (by walk_at "tg") (.fz (by walk_at "tg") .nil)), by rw [List.length_map, gl]; decide, fun j o => ∃ p : Int × Int, gs[j]? = some p ∧ o = if d * tpE f * p.2 ≤ 10 * p.1 * btE f then some (pT p) else none, fun j tt ht => ?_, fun os hl2 ho => ?_⟩
    · obtain ⟨p, hp, rfl⟩ := of_map_at ht
      obtain ⟨g1, g2⟩ := gb p (List.mem_of_getElem? hp)
      have mp1 : Mid p.1 := g1.mono (by decide)
      have mp2 : Mid p.2 := g2.mono (by decide)
      have mp3 : Mid (10 * p.1) := (b10.mul g1).mono (by decide)
      rw [show pT p = Tr.tup [.int p.1, .int p.2] from rfl]
      walk_at "trun"
      refine z_iteD (fun c => ?_) (fun c => ?_)
      · walk_at "trun"
        exact ⟨p, hp, by rw [if_pos c]; rfl⟩
      · exact ⟨p, hp, by rw [if_neg c]⟩
    rw [List.length_map] at hl2
    have tt := tst _ _ (btE_pos f) os hl2 ho
    clear ho hl2
    walk_at "trun"
    refine ro_eqE rfl (by walk_at "rk") Rk.fz ?_
    rw [tt, Bool.not_not]
    walk_at "trun"
    refine z_iteD (fun c => ?_) (fun c => ?_)
    rotate_left
    · rw [if_neg c] at hb
      walk_at "trun"
      exact ⟨_, _, rfl, hb⟩
    rw [if_pos c] at hb
    walk_at "trun"
    intro _ _
    refine ⟨d * tpE f, btE f, lo, hi, len, up, rfl, Int.mul_pos (by omega) (tpE_pos f), btE_pos f, bdt, bt'.2.mono (by decide), ok.s, ?_⟩
    cases ht : tryS lo hi len up (My.qv (d * tpE f) (btE f)) with
    | none =>
      rw [ht] at hb
      rw [show dT none = Tr.non from rfl]
      walk_at "trun"
      exact ⟨_, _, rfl, hb⟩
    | some y =>
      obtain ⟨sc, ts⟩ := y
      rw [ht] at hb
      rw [hb] at φ
      rw [show dT (some (sc, ts)) = Tr.tup [sc, .lst ts] from rfl]
      walk_at "trun"
      exact φ
  · rintro τ ⟨u9, u10, rfl, hb⟩
    have hb : fstL (tryS lo hi len up) (roundL e N most) = fstL (tryS lo hi len up) (roundL (f + 1) (N - (n + 1)) most) := hb
    have en : e + ((n + 1 : Nat) : Int) = f + 1 := by omega
    walk_at "trun"
    refine z_iteD (fun c => ?_) (fun c => ?_)
    · have c := btE_gt.mp c
      walk_at "trun"
      refine ⟨N - (n + 1), by omega, n + 1, u9, u10, rfl, by omega, by rw [en]; exact hb, ?_⟩
      rw [en, btE_half c, tpE_np (e := f) (by omega), tpE_np (e := f + 1) (by omega)]
    · have c : 0 ≤ f := by
        have : ¬ f < 0 := fun z => c (btE_gt.mpr z)
        omega
      walk_at "trun"
      refine ⟨N - (n + 1), by omega, n + 1, u9, u10, rfl, by omega, by rw [en]; exact hb, ?_⟩
      rw [en, tpE_succ c, btE_nn (e := f) c, btE_nn (e := f + 1) (by omega)]
def EndB (b t t' : Int) (lo hi : Rat) : Prop := lo = My.qv t b ∧ hi = My.qv t' b ∧ t < t' ∧ -500000000000000000000 ≤ t ∧ t' ≤ 500000000000000000000
theorem end_cells {cs : List Rat} {b : Int} {nb : Bool} {lo hi : Rat} (b0 : 1 ≤ b) (b1 : b ≤ 1000000000) (hc : ∀ c ∈ cs, CellQ b c) (h : EndQ (csN cs nb) lo hi) : ∃ t t', EndB b t t' lo hi := by
  have hb := My.cast_ne (show b ≠ 0 by omega)
  have all : ∀ c ∈ csN cs nb, CellQ b c := fun c m => by
    unfold csN at m
    split at m
    · rcases List.mem_append.mp m with m | m
      · exact hc c m
      · rw [List.mem_singleton.mp m]
        exact ⟨0, My.qv_eq (by decide) (by omega) (by omega), by decide, by decide⟩
    · exact hc c m
  rcases h with ⟨_, rfl, rfl⟩ | ⟨g, h1, h2, rfl⟩
  · exact ⟨0, b, My.qv_eq (by decide) (by omega) (by omega), My.qv_eq (by decide) (by omega) (by omega), by omega, by omega, by omega⟩
  obtain ⟨t, rfl, t0, t1⟩ := all lo h1.1
  obtain ⟨t', rfl, p0, p1⟩ := all g h2.1
  by_cases z : My.qv t b = My.qv t' b
  · refine ⟨t, t + b, rfl, ?_, by omega, by omega, by omega⟩
    rw [if_pos z]
    rw [show My.qv 1 1 = (1 : Rat) by rw [My.qv_int]; rfl]
    unfold My.qv
    rw [Rat.intCast_add]
    grind
  · refine ⟨t, t', rfl, by rw [if_neg z], ?_, by omega, by omega⟩
    have le := h2.2 _ h1.1
    rcases Int.lt_or_le t t' with y | y
    · exact y
    · have : t = t' := by
        rw [My.le_qv (by omega) (by omega)] at le
        have : t * b ≤ t' * b := by omega
        have := Int.le_of_mul_le_mul_right this (by omega)
        omega
      rw [this] at z
      exact absurd rfl z
theorem end_span {b t t' len : Int} {lo hi : Rat} (b0 : 1 ≤ b) (b1 : b ≤ 1000000000) (l0 : 24 ≤ len) (l1 : len ≤ 2000) (h : EndB b t t' lo hi) : (10 : Rat) ^ (-30 : Int) ≤ (hi - lo) / My.qv len 1 ∧ (hi - lo) / My.qv len 1 < (10 : Rat) ^ (25 : Int) ∧ hi - lo = My.qv (t' - t) b := by
  obtain ⟨rfl, rfl, h1, h2, h3⟩ := h
  have hb := My.cast_ne (show b ≠ 0 by omega)
  have e : My.qv t' b - My.qv t b = My.qv (t' - t) b := by
    unfold My.qv
    rw [Rat.intCast_sub]
    grind
  have p : 0 < b * len := Int.mul_pos (by omega) (by omega)
  have e2 : My.qv (t' - t) b / My.qv len 1 = My.qv (t' - t) (b * len) := by
    rw [← My.qv_over (by omega) (by decide) (by omega), Int.mul_one]
  have q : b * len ≤ 1000000000 * 2000 := Int.mul_le_mul b1 l1 (by omega) (by decide)
  refine ⟨?_, ?_, e⟩
  · rw [e, e2, ← te_qv, show tpE (-30) = 1 from by decide, show btE (-30) = 1000000000000000000000000000000 from by decide +kernel, My.le_qv (by decide) p]
    omega
  · rw [e, e2, ← te_qv, show tpE 25 = 10000000000000000000000000 from by decide +kernel, show btE 25 = 1 from by decide, My.lt_qv p (by decide)]
    omega
theorem end_ok {b t t' len : Int} {lo hi : Rat} (b0 : 1 ≤ b) (b1 : b ≤ 1000000000) (l0 : 24 ≤ len) (l1 : len ≤ 2000) (h : EndB b t t' lo hi) : AOk lo hi len := by
  obtain ⟨s1, s2, s3⟩ := end_span b0 b1 l0 l1 h
  obtain ⟨h4, h5, h1, h2, h3⟩ := h
  have big : ∀ x : Int, -500000000000000000000 ≤ x → x ≤ 500000000000000000000 → My.Bd 100 x := fun x a c => by
    have : (1267650600228229401496703205376 : Nat) = 2 ^ 100 := by decide +kernel
    unfold My.Bd
    rw [← this]
    omega
  have ab : ∀ q : Rat, ∀ u : Int, q = My.qv u b → -500000000000000000000 ≤ u → u ≤ 500000000000000000000 → My.qv (if q.num < 0 then -q.num else q.num) q.den ≤ My.qv 500000000000000000000 1 := fun q u e u0 u1 => by
    have d : (0 : Int) < (q.den : Int) := Int.natCast_pos.mpr q.den_pos
    have lo' : My.qv (-500000000000000000000) 1 ≤ q := by
      rw [e, My.le_qv (by decide) (by omega)]
      omega
    have hi' : q ≤ My.qv 500000000000000000000 1 := by
      rw [e, My.le_qv (by omega) (by decide)]
      omega
    rw [← qv_self q] at lo' hi'
    rw [My.le_qv (by decide) d] at lo'
    rw [My.le_qv d (by decide)] at hi'
    rw [My.le_qv d (by decide)]
    split <;> omega
  refine ⟨⟨?_, ?_, ?_, l0, l1⟩, fun E hE => ?_, fun g hg => ?_⟩
  · rw [h4]; exact low_bd (by omega) (big t (by omega) (by omega)) (big b (by omega) (by omega))
  · rw [h5]; exact low_bd (by omega) ((big t' (by omega) (by omega)).mono (by decide)) ((big b (by omega) (by omega)).mono (by decide))
  · rw [h4, h5, My.lt_qv (by omega) (by omega)]
    exact Int.mul_lt_mul_of_pos_right h1 (by omega)
  · have a1 := My.zp_exp (p := 10) (by decide) hE.1 s2
    have a2 := My.zp_exp (p := 10) (by decide) s1 hE.2
    omega
  · have le : g ≤ My.qv 1000000000000000000000 1 := by
      have up : My.qv 500000000000000000000 1 ≤ My.qv 1000000000000000000000 1 := by rw [My.le_qv (by decide) (by decide)]; decide
      have hm := hg.1
      simp only [List.mem_cons, List.not_mem_nil, or_false] at hm
      rcases hm with z | z | z | z
      · rw [z, My.le_qv (by decide) (by decide)]; decide
      · rw [z, s3, My.le_qv (by omega) (by decide)]; omega
      · rw [z]; exact Rat.le_trans (ab lo t h4 (by omega) (by omega)) up
      · rw [z]; exact Rat.le_trans (ab hi t' h5 (by omega) (by omega)) up
    have t10 : (0 : Rat) < My.qv 10 1 := by rw [My.qv_int]; decide
    have h6 : My.qv 10 1 * g ≤ My.qv 10 1 * My.qv 1000000000000000000000 1 := Rat.mul_le_mul_of_nonneg_left le (Rat.le_of_lt t10)
    rw [← My.qv_times (by decide) (by decide)] at h6
    have h7 : My.qv (10 * 1000000000000000000000) (1 * 1) < (10 : Rat) ^ (25 : Int) := by
      rw [← te_qv, show tpE 25 = 10000000000000000000000000 from by decide +kernel, show btE 25 = 1 from by decide, My.lt_qv (by decide) (by decide)]
      decide
    exact Std.lt_of_le_of_lt h6 h7
theorem cell_qn {b : Int} {c : Rat} (b0 : 1 ≤ b) (b1 : b ≤ 1000000000) (h : CellQ b c) : QN 100 c := by
  obtain ⟨t, rfl, t0, t1⟩ := h
  have big : ∀ x : Int, -500000000000000000000 ≤ x → x ≤ 500000000000000000000 → My.Bd 100 x := fun x a c => by
    have : (1267650600228229401496703205376 : Nat) = 2 ^ 100 := by decide +kernel
    unfold My.Bd
    rw [← this]
    omega
  exact low_bd (by omega) (big t (by omega) (by omega)) (big b (by omega) (by omega))
theorem ok_law (T : Txt K mg t) : FnOk P w K mg base CX0 13 t.f_law t.d_law ["_law_script"] (sp_law K) := by
  have G_l_source := okT_l_source (P := P) (w := w) (base := base) T
  have G_l_draw := okT_l_draw (P := P) (w := w) (base := base) T
  have G_l_great := okT_l_great (P := P) (w := w) (base := base) T
  have G_l_numbers := okT_l_numbers (P := P) (w := w) (base := base) T
  have G_l_right := okT_l_right (P := P) (w := w) (base := base) T
  have G_l_ends := okT_l_ends (P := P) (w := w) (base := base) T
  have G_l_due := okT_l_due (P := P) (w := w) (base := base) T
  refine T.F_law.ok sc_law (fun vs H Q E h => ?_) (fun cdv A outer s H vs Q E hr h => ?_)
  · obtain ⟨a, ns, rfl, _⟩ := h
    rfl
  obtain ⟨a, ns, rfl, hS, hn, hb, q⟩ := h
  refine ⟨_, (psc (ps_for PassesOwn.never rfl (pi_range1 rfl T.z_range (pcn (pe_callB (call_max2 rfl) rfl T.z_max bt_max (pcn pei (pcn (pe_callB (call_min2 rfl) rfl T.z_min bt_min (pcn (pe_callB call_len_seq rfl T.z_len PySem.boot_len (pcn (pv 0) pnl)) (pcn pei pnl))) pnl))) pnl)) (pg_name (i := 1) sc_law.nd rfl (Or.inl rfl)) (psc (ps_set (i := 2) sc_law.nd rfl (Or.inl rfl) (pe_call G_l_source (hr.mono (by decide)) rfl T.m_l_source T.k_l_source T.b_l_source .nil pass0 (pcn (pv 0) (pcn (pv 1) pnl))))
  (psc (ps_set (i := 3) sc_law.nd rfl (Or.inl rfl) (pe_call G_l_numbers (hr.mono (by decide)) rfl T.m_l_numbers T.k_l_numbers T.b_l_numbers .nil pass0 (pcn (pv 2) pnl)))
  (psc (ps_set (i := 4) sc_law.nd rfl (Or.inl rfl) (pe_cmpR op_eq (pe_call G_l_draw (hr.mono (by decide)) rfl T.m_l_draw T.k_l_draw T.b_l_draw .nil pass0 (pcn (pv 2) (pcn pei pnl))) pei (nomark _)))
  (psc (ps_set (i := 5) sc_law.nd rfl (Or.inl rfl) (pe_op op_add pei (pe_call G_l_great (hr.mono (by decide)) rfl T.m_l_great T.k_l_great T.b_l_great .nil pass0 (pcn (pv 2) (pcn pei pnl)))))
  (psc (ps_set (i := 6) sc_law.nd rfl (Or.inl rfl) (pe_call G_l_ends (hr.mono (by decide)) rfl T.m_l_ends T.k_l_ends T.b_l_ends .nil pass0 (pcn (pv 3) (pcn (pv 4) pnl))))
  (pso (ps_for PassesOwn.never rfl (pi_list (pe_lst (pcn pe_str (pcn pe_str pnl)))) (pg_name (i := 7) sc_law.nd rfl (Or.inl rfl)) (pso (ps_if (pt_not (pt_val (pe_call G_l_right (hr.mono (by decide)) rfl T.m_l_right T.k_l_right T.b_l_right .nil pass0 (pcn (pe_tup (pcn pe_str pnl)) (pcn (pv 3) (pcn (pv 5) (pcn (pv 7) (pcn (pv 4) (pcn (pe_call G_l_due (hr.mono (by decide)) rfl T.m_l_due T.k_l_due T.b_l_due .nil pass0 (pcn (pv 6) (pcn (pv 5) (pcn (pv 7) pnl)))) pnl))))))))) (pso (ps_ret pe_bl)) pss_nil))))))))))
  (pso (ps_ret pe_bl))), law_open hS q _ _ fun D hD => ?_⟩
  refine d_go (τ := [.fz (.lst (ns.map Tr.int)), .no, .no, .no, .no, .no, .no, .no]) rfl (d_true (rt := fun _ => True) hD ?_)
  walk_at "trun"
  refine ⟨by omega, ?_⟩
  refine ⟨fun _ τ => ∃ u1 u2 u3 u4 u5 u6 u7, τ = [.fz (.lst (ns.map Tr.int)), u1, u2, u3, u4, u5, u6, u7], ⟨_, _, _, _, _, _, _, rfl⟩, fun i tt τ2 ht hI => ?_, fun τ2 hI => ?_⟩
  · obtain ⟨u1, u2, u3, u4, u5, u6, u7, rfl⟩ := hI
    obtain ⟨hi, rfl⟩ := rangeT_at ht
    refine g_fz (by walk_at "ts") ?_
    refine s_forget 2 (s_forget 3 (s_forget 4 (s_forget 5 (s_forget 6 (s_forget 7 ?_)))))
    show SV _ _ [.fz (.lst (ns.map Tr.int)), .fz (.int (0 + (i : Nat))), .no, .no, .no, .no, .no, .no] _
    walk_at "trun"
    intro _ _
    refine ⟨ns, _, rfl, hb, by omega, by omega, fun a0 b0 h1 h2 h3 => ?_⟩
    refine g_nw (by walk_at "ts") ?_
    refine s_lendM (fun p ⟨vs, hx⟩ => absurd hx List.not_mem_nil) (fun H x hx => absurd hx List.not_mem_nil) (k := 2) (by walk_at "tg") rfl ⟨_, _, rfl, h1, h2, h3⟩ (fun F0 H0 l sb => ?_)
    show SV _ _ [.fz (.lst (ns.map Tr.int)), .fz (.int (0 + (i : Nat))), .wd, .no, .no, .no, .no, .no] _
    walk_at "trun"
    intro _ _
    refine ⟨rfl, sb.now, fun b cs b0 b1 hc hq => ?_⟩
    refine g_nw (by walk_at "ts") ?_
    refine s_fix (k := 3) (by walk_at "tg") (by walk_at "ts") ?_
    walk_at "trun"
    intro _ _
    refine a_drawT sb.now (by decide) (by decide) fun d2 d20 d21 => ?_
    walk_at "trun"
    generalize decide (d2 = 1) = nb
    intro _ _
    refine a_great sb.now (by decide) fun g g0 g1 => ?_
    walk_at "trun"
    generalize hlen : 24 + g = len
    have qn : ∀ c ∈ cs, QN 100 c := fun c hc => cell_qn b0 b1 (hq c hc)
    intro _ _
    refine ⟨cs, nb, rfl, qn, hc, fun lo hi' eq => ?_⟩
    have ok : CsOk cs len nb := ⟨qn, hc, by omega, by omega, fun lo hi e => by
      obtain ⟨t, t', h⟩ := end_cells b0 b1 hq e
      exact end_ok b0 b1 (by omega) (by omega) h⟩
    have aok := ok.a _ _ eq
    obtain ⟨s1, s2⟩ : (10 : Rat) ^ (-30 : Int) ≤ (hi' - lo) / My.qv len 1 ∧ (hi' - lo) / My.qv len 1 < (10 : Rat) ^ (25 : Int) := by
      obtain ⟨t, t', h⟩ := end_cells b0 b1 hq eq
      obtain ⟨s1, s2, _⟩ := end_span (len := len) b0 b1 (by omega) (by omega) h
      exact ⟨s1, s2⟩
    walk_at "trun"
    refine ⟨fun _ τ => ∃ u7, τ = [.fz (.lst (ns.map Tr.int)), .fz (.int (0 + (i : Nat))), .wd, .fz (.lst (cs.map numT)), .fz (.bl nb), .fz (.int len), .fz (.tup [numT lo, numT hi']), u7], ⟨_, rfl⟩, fun i2 tt τ3 hi2 hI => ?_, fun τ3 hI => ?_⟩
    · obtain ⟨u7, rfl⟩ := hI
      obtain ⟨up, rfl⟩ : ∃ up : Bool, tt = .str (wayS up) := by
        match i2, hi2 with
        | 0, h => cases h; exact ⟨true, rfl⟩
        | 1, h => cases h; exact ⟨false, rfl⟩
      walk_at "trun"
      intro _ _
      refine ⟨lo, hi', len, up, rfl, aok, s1, s2, ?_⟩
      walk_at "trun"
      intro _ _
      refine ⟨cs, lo, hi', len, up, nb, rfl, ok, eq, ?_⟩
      walk_at "trun"
      exact ⟨_, rfl⟩
    · obtain ⟨u7, rfl⟩ := hI
      walk_at "trun"
      exact ⟨_, _, _, _, _, _, _, rfl⟩
  · obtain ⟨u1, u2, u3, u4, u5, u6, u7, rfl⟩ := hI
    walk_at "trun"
    rfl
end
theorem all_mk {l : PySem.W.OpenLaw} {w : World} {K : Fg} {h : Heap} {mg : Str → Option Value} {fa f0 f1 f2 f3 f4 f5 f6 f7 f8 f9 f10 f11 f12 f13 f14 f15 f16 f17 f18 f19 f20 f21 f22 f23 f24 f25 f26 f27 f28 f29 f30 f31 f32 f33 f34 f35 f36 f37 f38 f39 f40 f41 f42 f43 C_NoNumber C_NoSpace dT2 dT28 : Addr} (X : K.In h) (G : h.Ns mainGlobals mg) (hfa : mg "law" = some (.ref fa))
    {od0 an0 od1 an1 od2 an2 od3 an3 od4 an4 od5 an5 od6 an6 od7 an7 od8 an8 od9 an9 od10 an10 od11 an11 od12 an12 od13 an13 od14 an14 od15 an15 od16 an16 od17 an17 od18 an18 od19 an19 od20 an20 od21 an21 od22 an22 od23 an23 od24 an24 od25 an25 od26 an26 od27 an27 od28 an28 od29 an29 od30 an30 od31 an31 od32 an32 od33 an33 od34 an34 od35 an35 od36 an36 od37 an37 od38 an38 od39 an39 od40 an40 od41 an41 od42 an42 od43 an43 : Option Addr} {sl0 sl1 sl2 sl3 sl4 sl5 sl6 sl7 sl8 sl9 sl10 sl11 sl12 sl13 sl14 sl15 sl16 sl17 sl18 sl19 sl20 sl21 sl22 sl23 sl24 sl25 sl26 sl27 sl28 sl29 sl30 sl31 sl32 sl33 sl34 sl35 sl36 sl37 sl38 sl39 sl40 sl41 sl42 sl43 : Array (Option Value)} {oc0 kV0 dc0 pm0 cd0 ct0 oc1 kV1 dc1 pm1 cd1 ct1 oc2 kV2 dc2 pm2 cd2 ct2 oc3 kV3 dc3 pm3 cd3 ct3 oc4 kV4 dc4 pm4 cd4 ct4 oc5 kV5 dc5 pm5 cd5 ct5 oc6 kV6 dc6 pm6 cd6 ct6 oc7 kV7 dc7 pm7 cd7 ct7 oc8 kV8 dc8 pm8 cd8 ct8 oc9 kV9 dc9 pm9 cd9 ct9 oc10 kV10 dc10 pm10 cd10 ct10 oc11 kV11 dc11 pm11 cd11 ct11 oc12 kV12 dc12 pm12 cd12 ct12 oc13 kV13 dc13 pm13 cd13 ct13 oc14 kV14 dc14 pm14 cd14 ct14 oc15 kV15 dc15 pm15 cd15 ct15 oc16 kV16 dc16 pm16 cd16 ct16 oc17 kV17 dc17 pm17 cd17 ct17 oc18 kV18 dc18 pm18 cd18 ct18 oc19 kV19 dc19 pm19 cd19 ct19 oc20 kV20 dc20 pm20 cd20 ct20 oc21 kV21 dc21 pm21 cd21 ct21 oc22 kV22 dc22 pm22 cd22 ct22 oc23 kV23 dc23 pm23 cd23 ct23 oc24 kV24 dc24 pm24 cd24 ct24 oc25 kV25 dc25 pm25 cd25 ct25 oc26 kV26 dc26 pm26 cd26 ct26 oc27 kV27 dc27 pm27 cd27 ct27 oc28 kV28 dc28 pm28 cd28 ct28 oc29 kV29 dc29 pm29 cd29 ct29 oc30 kV30 dc30 pm30 cd30 ct30 oc31 kV31 dc31 pm31 cd31 ct31 oc32 kV32 dc32 pm32 cd32 ct32 oc33 kV33 dc33 pm33 cd33 ct33 oc34 kV34 dc34 pm34 cd34 ct34 oc35 kV35 dc35 pm35 cd35 ct35 oc36 kV36 dc36 pm36 cd36 ct36 oc37 kV37 dc37 pm37 cd37 ct37 oc38 kV38 dc38 pm38 cd38 ct38 oc39 kV39 dc39 pm39 cd39 ct39 oc40 kV40 dc40 pm40 cd40 ct40 oc41 kV41 dc41 pm41 cd41 ct41 oc42 kV42 dc42 pm42 cd42 ct42 oc43 kV43 dc43 pm43 cd43 ct43 : Value}
    {g_SIGN_WIDTH : Tok}
    {g_WIDEST_LABEL : Tok}
    {g_LEAST_UPRIGHT : Tok}
    {g_ROOM_BESIDE : Tok}
    {tc2 : Value} {td2 : Option Addr} {tn2 : Nat} {ts2 : Array (Option Value)} {tk2 : Tok}
    {tc28 : Value} {td28 : Option Addr} {tn28 : Nat} {ts28 : Array (Option Value)}
    (a0 : PySem.W.nsIn K mainGlobals "is_whole" = some (some (.ref f0))) (l0 : K.lookup f0 = some ⟨oc0, od0, .func (PySem.W.fnOf "is_whole" "is_whole" (defArgs s_is_whole) (defBody s_is_whole) (defScope s_is_whole) .none kV0 dc0 pm0 an0 cd0 ct0), sl0⟩) (c0 : PySem.W.codeIn K cd0 "is_whole" = true) (k0 : PySem.W.keepIn K (.ref f0) = true)
    (a1 : PySem.W.nsIn K mainGlobals "divisor_of" = some (some (.ref f1))) (l1 : K.lookup f1 = some ⟨oc1, od1, .func (PySem.W.fnOf "divisor_of" "divisor_of" (defArgs s_divisor_of) (defBody s_divisor_of) (defScope s_divisor_of) .none kV1 dc1 pm1 an1 cd1 ct1), sl1⟩) (c1 : PySem.W.codeIn K cd1 "divisor_of" = true) (k1 : PySem.W.keepIn K (.ref f1) = true)
    (a2 : PySem.W.nsIn K mainGlobals "number" = some (some (.ref f2))) (l2 : K.lookup f2 = some ⟨oc2, od2, .func (PySem.W.fnOf "number" "number" (defArgs s_number) (defBody s_number) (defScope s_number) (.ref dT2) kV2 dc2 pm2 an2 cd2 ct2), sl2⟩) (c2 : PySem.W.codeIn K cd2 "number" = true) (k2 : PySem.W.keepIn K (.ref f2) = true)
    (dl2 : K.lookup dT2 = some ⟨tc2, td2, .seq #[.int 1 tk2] tn2, ts2⟩)
    (a3 : PySem.W.nsIn K mainGlobals "plus" = some (some (.ref f3))) (l3 : K.lookup f3 = some ⟨oc3, od3, .func (PySem.W.fnOf "plus" "plus" (defArgs s_plus) (defBody s_plus) (defScope s_plus) .none kV3 dc3 pm3 an3 cd3 ct3), sl3⟩) (c3 : PySem.W.codeIn K cd3 "plus" = true) (k3 : PySem.W.keepIn K (.ref f3) = true)
    (a4 : PySem.W.nsIn K mainGlobals "minus" = some (some (.ref f4))) (l4 : K.lookup f4 = some ⟨oc4, od4, .func (PySem.W.fnOf "minus" "minus" (defArgs s_minus) (defBody s_minus) (defScope s_minus) .none kV4 dc4 pm4 an4 cd4 ct4), sl4⟩) (c4 : PySem.W.codeIn K cd4 "minus" = true) (k4 : PySem.W.keepIn K (.ref f4) = true)
    (a5 : PySem.W.nsIn K mainGlobals "times" = some (some (.ref f5))) (l5 : K.lookup f5 = some ⟨oc5, od5, .func (PySem.W.fnOf "times" "times" (defArgs s_times) (defBody s_times) (defScope s_times) .none kV5 dc5 pm5 an5 cd5 ct5), sl5⟩) (c5 : PySem.W.codeIn K cd5 "times" = true) (k5 : PySem.W.keepIn K (.ref f5) = true)
    (a6 : PySem.W.nsIn K mainGlobals "over" = some (some (.ref f6))) (l6 : K.lookup f6 = some ⟨oc6, od6, .func (PySem.W.fnOf "over" "over" (defArgs s_over) (defBody s_over) (defScope s_over) .none kV6 dc6 pm6 an6 cd6 ct6), sl6⟩) (c6 : PySem.W.codeIn K cd6 "over" = true) (k6 : PySem.W.keepIn K (.ref f6) = true)
    (a7 : PySem.W.nsIn K mainGlobals "under" = some (some (.ref f7))) (l7 : K.lookup f7 = some ⟨oc7, od7, .func (PySem.W.fnOf "under" "under" (defArgs s_under) (defBody s_under) (defScope s_under) .none kV7 dc7 pm7 an7 cd7 ct7), sl7⟩) (c7 : PySem.W.codeIn K cd7 "under" = true) (k7 : PySem.W.keepIn K (.ref f7) = true)
    (a8 : PySem.W.nsIn K mainGlobals "floor_of" = some (some (.ref f8))) (l8 : K.lookup f8 = some ⟨oc8, od8, .func (PySem.W.fnOf "floor_of" "floor_of" (defArgs s_floor_of) (defBody s_floor_of) (defScope s_floor_of) .none kV8 dc8 pm8 an8 cd8 ct8), sl8⟩) (c8 : PySem.W.codeIn K cd8 "floor_of" = true) (k8 : PySem.W.keepIn K (.ref f8) = true)
    (a9 : PySem.W.nsIn K mainGlobals "rounded" = some (some (.ref f9))) (l9 : K.lookup f9 = some ⟨oc9, od9, .func (PySem.W.fnOf "rounded" "rounded" (defArgs s_rounded) (defBody s_rounded) (defScope s_rounded) .none kV9 dc9 pm9 an9 cd9 ct9), sl9⟩) (c9 : PySem.W.codeIn K cd9 "rounded" = true) (k9 : PySem.W.keepIn K (.ref f9) = true)
    (a10 : PySem.W.nsIn K mainGlobals "show_number" = some (some (.ref f10))) (l10 : K.lookup f10 = some ⟨oc10, od10, .func (PySem.W.fnOf "show_number" "show_number" (defArgs s_show_number) (defBody s_show_number) (defScope s_show_number) .none kV10 dc10 pm10 an10 cd10 ct10), sl10⟩) (c10 : PySem.W.codeIn K cd10 "show_number" = true) (k10 : PySem.W.keepIn K (.ref f10) = true)
    (a11 : PySem.W.nsIn K mainGlobals "comes_before" = some (some (.ref f11))) (l11 : K.lookup f11 = some ⟨oc11, od11, .func (PySem.W.fnOf "comes_before" "comes_before" (defArgs s_comes_before) (defBody s_comes_before) (defScope s_comes_before) .none kV11 dc11 pm11 an11 cd11 ct11), sl11⟩) (c11 : PySem.W.codeIn K cd11 "comes_before" = true) (k11 : PySem.W.keepIn K (.ref f11) = true)
    (a12 : PySem.W.nsIn K mainGlobals "least_of" = some (some (.ref f12))) (l12 : K.lookup f12 = some ⟨oc12, od12, .func (PySem.W.fnOf "least_of" "least_of" (defArgs s_least_of) (defBody s_least_of) (defScope s_least_of) .none kV12 dc12 pm12 an12 cd12 ct12), sl12⟩) (c12 : PySem.W.codeIn K cd12 "least_of" = true) (k12 : PySem.W.keepIn K (.ref f12) = true)
    (a13 : PySem.W.nsIn K mainGlobals "greatest_of" = some (some (.ref f13))) (l13 : K.lookup f13 = some ⟨oc13, od13, .func (PySem.W.fnOf "greatest_of" "greatest_of" (defArgs s_greatest_of) (defBody s_greatest_of) (defScope s_greatest_of) .none kV13 dc13 pm13 an13 cd13 ct13), sl13⟩) (c13 : PySem.W.codeIn K cd13 "greatest_of" = true) (k13 : PySem.W.keepIn K (.ref f13) = true)
    (a14 : PySem.W.nsIn K mainGlobals "straight_place" = some (some (.ref f14))) (l14 : K.lookup f14 = some ⟨oc14, od14, .func (PySem.W.fnOf "straight_place" "straight_place" (defArgs s_straight_place) (defBody s_straight_place) (defScope s_straight_place) .none kV14 dc14 pm14 an14 cd14 ct14), sl14⟩) (c14 : PySem.W.codeIn K cd14 "straight_place" = true) (k14 : PySem.W.keepIn K (.ref f14) = true)
    (a15 : PySem.W.nsIn K mainGlobals "is_within" = some (some (.ref f15))) (l15 : K.lookup f15 = some ⟨oc15, od15, .func (PySem.W.fnOf "is_within" "is_within" (defArgs s_is_within) (defBody s_is_within) (defScope s_is_within) .none kV15 dc15 pm15 an15 cd15 ct15), sl15⟩) (c15 : PySem.W.codeIn K cd15 "is_within" = true) (k15 : PySem.W.keepIn K (.ref f15) = true)
    (a16 : PySem.W.nsIn K mainGlobals "straight_ends" = some (some (.ref f16))) (l16 : K.lookup f16 = some ⟨oc16, od16, .func (PySem.W.fnOf "straight_ends" "straight_ends" (defArgs s_straight_ends) (defBody s_straight_ends) (defScope s_straight_ends) .none kV16 dc16 pm16 an16 cd16 ct16), sl16⟩) (c16 : PySem.W.codeIn K cd16 "straight_ends" = true) (k16 : PySem.W.keepIn K (.ref f16) = true)
    (a17 : PySem.W.nsIn K mainGlobals "power_of" = some (some (.ref f17))) (l17 : K.lookup f17 = some ⟨oc17, od17, .func (PySem.W.fnOf "power_of" "power_of" (defArgs s_power_of) (defBody s_power_of) (defScope s_power_of) .none kV17 dc17 pm17 an17 cd17 ct17), sl17⟩) (c17 : PySem.W.codeIn K cd17 "power_of" = true) (k17 : PySem.W.keepIn K (.ref f17) = true)
    (a18 : PySem.W.nsIn K mainGlobals "power_below" = some (some (.ref f18))) (l18 : K.lookup f18 = some ⟨oc18, od18, .func (PySem.W.fnOf "power_below" "power_below" (defArgs s_power_below) (defBody s_power_below) (defScope s_power_below) .none kV18 dc18 pm18 an18 cd18 ct18), sl18⟩) (c18 : PySem.W.codeIn K cd18 "power_below" = true) (k18 : PySem.W.keepIn K (.ref f18) = true)
    (a19 : PySem.W.nsIn K mainGlobals "place_on_straight" = some (some (.ref f19))) (l19 : K.lookup f19 = some ⟨oc19, od19, .func (PySem.W.fnOf "place_on_straight" "place_on_straight" (defArgs s_place_on_straight) (defBody s_place_on_straight) (defScope s_place_on_straight) .none kV19 dc19 pm19 an19 cd19 ct19), sl19⟩) (c19 : PySem.W.codeIn K cd19 "place_on_straight" = true) (k19 : PySem.W.keepIn K (.ref f19) = true)
    (a20 : PySem.W.nsIn K mainGlobals "place_on" = some (some (.ref f20))) (l20 : K.lookup f20 = some ⟨oc20, od20, .func (PySem.W.fnOf "place_on" "place_on" (defArgs s_place_on) (defBody s_place_on) (defScope s_place_on) .none kV20 dc20 pm20 an20 cd20 ct20), sl20⟩) (c20 : PySem.W.codeIn K cd20 "place_on" = true) (k20 : PySem.W.keepIn K (.ref f20) = true)
    (a21 : PySem.W.nsIn K mainGlobals "widest_of" = some (some (.ref f21))) (l21 : K.lookup f21 = some ⟨oc21, od21, .func (PySem.W.fnOf "widest_of" "widest_of" (defArgs s_widest_of) (defBody s_widest_of) (defScope s_widest_of) .none kV21 dc21 pm21 an21 cd21 ct21), sl21⟩) (c21 : PySem.W.codeIn K cd21 "widest_of" = true) (k21 : PySem.W.keepIn K (.ref f21) = true)
    (a22 : PySem.W.nsIn K mainGlobals "labels_fit" = some (some (.ref f22))) (l22 : K.lookup f22 = some ⟨oc22, od22, .func (PySem.W.fnOf "labels_fit" "labels_fit" (defArgs s_labels_fit) (defBody s_labels_fit) (defScope s_labels_fit) .none kV22 dc22 pm22 an22 cd22 ct22), sl22⟩) (c22 : PySem.W.codeIn K cd22 "labels_fit" = true) (k22 : PySem.W.keepIn K (.ref f22) = true)
    (a23 : PySem.W.nsIn K mainGlobals "with_ticks" = some (some (.ref f23))) (l23 : K.lookup f23 = some ⟨oc23, od23, .func (PySem.W.fnOf "with_ticks" "with_ticks" (defArgs s_with_ticks) (defBody s_with_ticks) (defScope s_with_ticks) .none kV23 dc23 pm23 an23 cd23 ct23), sl23⟩) (c23 : PySem.W.codeIn K cd23 "with_ticks" = true) (k23 : PySem.W.keepIn K (.ref f23) = true)
    (a24 : PySem.W.nsIn K mainGlobals "ceiling_of" = some (some (.ref f24))) (l24 : K.lookup f24 = some ⟨oc24, od24, .func (PySem.W.fnOf "ceiling_of" "ceiling_of" (defArgs s_ceiling_of) (defBody s_ceiling_of) (defScope s_ceiling_of) .none kV24 dc24 pm24 an24 cd24 ct24), sl24⟩) (c24 : PySem.W.codeIn K cd24 "ceiling_of" = true) (k24 : PySem.W.keepIn K (.ref f24) = true)
    (a25 : PySem.W.nsIn K mainGlobals "round_steps" = some (some (.ref f25))) (l25 : K.lookup f25 = some ⟨oc25, od25, .func (PySem.W.fnOf "round_steps" "round_steps" (defArgs s_round_steps) (defBody s_round_steps) (defScope s_round_steps) .none kV25 dc25 pm25 an25 cd25 ct25), sl25⟩) (c25 : PySem.W.codeIn K cd25 "round_steps" = true) (k25 : PySem.W.keepIn K (.ref f25) = true)
    (a26 : PySem.W.nsIn K mainGlobals "straight_by" = some (some (.ref f26))) (l26 : K.lookup f26 = some ⟨oc26, od26, .func (PySem.W.fnOf "straight_by" "straight_by" (defArgs s_straight_by) (defBody s_straight_by) (defScope s_straight_by) .none kV26 dc26 pm26 an26 cd26 ct26), sl26⟩) (c26 : PySem.W.codeIn K cd26 "straight_by" = true) (k26 : PySem.W.keepIn K (.ref f26) = true)
    (a27 : PySem.W.nsIn K mainGlobals "straight_axis" = some (some (.ref f27))) (l27 : K.lookup f27 = some ⟨oc27, od27, .func (PySem.W.fnOf "straight_axis" "straight_axis" (defArgs s_straight_axis) (defBody s_straight_axis) (defScope s_straight_axis) .none kV27 dc27 pm27 an27 cd27 ct27), sl27⟩) (c27 : PySem.W.codeIn K cd27 "straight_axis" = true) (k27 : PySem.W.keepIn K (.ref f27) = true)
    (a28 : PySem.W.nsIn K mainGlobals "axis_for" = some (some (.ref f28))) (l28 : K.lookup f28 = some ⟨oc28, od28, .func (PySem.W.fnOf "axis_for" "axis_for" (defArgs s_axis_for) (defBody s_axis_for) (defScope s_axis_for) (.ref dT28) kV28 dc28 pm28 an28 cd28 ct28), sl28⟩) (c28 : PySem.W.codeIn K cd28 "axis_for" = true) (k28 : PySem.W.keepIn K (.ref f28) = true)
    (dl28 : K.lookup dT28 = some ⟨tc28, td28, .seq #[.bool false] tn28, ts28⟩)
    (a29 : PySem.W.nsIn K mainGlobals "_law_cell_at" = some (some (.ref f29))) (l29 : K.lookup f29 = some ⟨oc29, od29, .func (PySem.W.fnOf "_law_cell_at" "_law_cell_at" (defArgs s_l_cell_at) (defBody s_l_cell_at) (defScope s_l_cell_at) .none kV29 dc29 pm29 an29 cd29 ct29), sl29⟩) (c29 : PySem.W.codeIn K cd29 "_law_cell_at" = true) (k29 : PySem.W.keepIn K (.ref f29) = true)
    (a30 : PySem.W.nsIn K mainGlobals "_law_source" = some (some (.ref f30))) (l30 : K.lookup f30 = some ⟨oc30, od30, .func (PySem.W.fnOf "_law_source" "_law_source" (defArgs s_l_source) (defBody s_l_source) (defScope s_l_source) .none kV30 dc30 pm30 an30 cd30 ct30), sl30⟩) (c30 : PySem.W.codeIn K cd30 "_law_source" = true) (k30 : PySem.W.keepIn K (.ref f30) = true)
    (a31 : PySem.W.nsIn K mainGlobals "_law_draw" = some (some (.ref f31))) (l31 : K.lookup f31 = some ⟨oc31, od31, .func (PySem.W.fnOf "_law_draw" "_law_draw" (defArgs s_l_draw) (defBody s_l_draw) (defScope s_l_draw) .none kV31 dc31 pm31 an31 cd31 ct31), sl31⟩) (c31 : PySem.W.codeIn K cd31 "_law_draw" = true) (k31 : PySem.W.keepIn K (.ref f31) = true)
    (a32 : PySem.W.nsIn K mainGlobals "_law_great" = some (some (.ref f32))) (l32 : K.lookup f32 = some ⟨oc32, od32, .func (PySem.W.fnOf "_law_great" "_law_great" (defArgs s_l_great) (defBody s_l_great) (defScope s_l_great) .none kV32 dc32 pm32 an32 cd32 ct32), sl32⟩) (c32 : PySem.W.codeIn K cd32 "_law_great" = true) (k32 : PySem.W.keepIn K (.ref f32) = true)
    (a33 : PySem.W.nsIn K mainGlobals "_law_low" = some (some (.ref f33))) (l33 : K.lookup f33 = some ⟨oc33, od33, .func (PySem.W.fnOf "_law_low" "_law_low" (defArgs s_l_low) (defBody s_l_low) (defScope s_l_low) .none kV33 dc33 pm33 an33 cd33 ct33), sl33⟩) (c33 : PySem.W.codeIn K cd33 "_law_low" = true) (k33 : PySem.W.keepIn K (.ref f33) = true)
    (a34 : PySem.W.nsIn K mainGlobals "_law_text" = some (some (.ref f34))) (l34 : K.lookup f34 = some ⟨oc34, od34, .func (PySem.W.fnOf "_law_text" "_law_text" (defArgs s_l_text) (defBody s_l_text) (defScope s_l_text) .none kV34 dc34 pm34 an34 cd34 ct34), sl34⟩) (c34 : PySem.W.codeIn K cd34 "_law_text" = true) (k34 : PySem.W.keepIn K (.ref f34) = true)
    (a35 : PySem.W.nsIn K mainGlobals "_law_asked" = some (some (.ref f35))) (l35 : K.lookup f35 = some ⟨oc35, od35, .func (PySem.W.fnOf "_law_asked" "_law_asked" (defArgs s_l_asked) (defBody s_l_asked) (defScope s_l_asked) .none kV35 dc35 pm35 an35 cd35 ct35), sl35⟩) (c35 : PySem.W.codeIn K cd35 "_law_asked" = true) (k35 : PySem.W.keepIn K (.ref f35) = true)
    (a36 : PySem.W.nsIn K mainGlobals "_law_is_axis" = some (some (.ref f36))) (l36 : K.lookup f36 = some ⟨oc36, od36, .func (PySem.W.fnOf "_law_is_axis" "_law_is_axis" (defArgs s_l_is_axis) (defBody s_l_is_axis) (defScope s_l_is_axis) .none kV36 dc36 pm36 an36 cd36 ct36), sl36⟩) (c36 : PySem.W.codeIn K cd36 "_law_is_axis" = true) (k36 : PySem.W.keepIn K (.ref f36) = true)
    (a37 : PySem.W.nsIn K mainGlobals "_law_right" = some (some (.ref f37))) (l37 : K.lookup f37 = some ⟨oc37, od37, .func (PySem.W.fnOf "_law_right" "_law_right" (defArgs s_l_right) (defBody s_l_right) (defScope s_l_right) .none kV37 dc37 pm37 an37 cd37 ct37), sl37⟩) (c37 : PySem.W.codeIn K cd37 "_law_right" = true) (k37 : PySem.W.keepIn K (.ref f37) = true)
    (a38 : PySem.W.nsIn K mainGlobals "_law_numbers" = some (some (.ref f38))) (l38 : K.lookup f38 = some ⟨oc38, od38, .func (PySem.W.fnOf "_law_numbers" "_law_numbers" (defArgs s_l_numbers) (defBody s_l_numbers) (defScope s_l_numbers) .none kV38 dc38 pm38 an38 cd38 ct38), sl38⟩) (c38 : PySem.W.codeIn K cd38 "_law_numbers" = true) (k38 : PySem.W.keepIn K (.ref f38) = true)
    (a39 : PySem.W.nsIn K mainGlobals "_law_under" = some (some (.ref f39))) (l39 : K.lookup f39 = some ⟨oc39, od39, .func (PySem.W.fnOf "_law_under" "_law_under" (defArgs s_l_under) (defBody s_l_under) (defScope s_l_under) .none kV39 dc39 pm39 an39 cd39 ct39), sl39⟩) (c39 : PySem.W.codeIn K cd39 "_law_under" = true) (k39 : PySem.W.keepIn K (.ref f39) = true)
    (a40 : PySem.W.nsIn K mainGlobals "_law_ends" = some (some (.ref f40))) (l40 : K.lookup f40 = some ⟨oc40, od40, .func (PySem.W.fnOf "_law_ends" "_law_ends" (defArgs s_l_ends) (defBody s_l_ends) (defScope s_l_ends) .none kV40 dc40 pm40 an40 cd40 ct40), sl40⟩) (c40 : PySem.W.codeIn K cd40 "_law_ends" = true) (k40 : PySem.W.keepIn K (.ref f40) = true)
    (a41 : PySem.W.nsIn K mainGlobals "_law_by" = some (some (.ref f41))) (l41 : K.lookup f41 = some ⟨oc41, od41, .func (PySem.W.fnOf "_law_by" "_law_by" (defArgs s_l_by) (defBody s_l_by) (defScope s_l_by) .none kV41 dc41 pm41 an41 cd41 ct41), sl41⟩) (c41 : PySem.W.codeIn K cd41 "_law_by" = true) (k41 : PySem.W.keepIn K (.ref f41) = true)
    (a42 : PySem.W.nsIn K mainGlobals "_law_due" = some (some (.ref f42))) (l42 : K.lookup f42 = some ⟨oc42, od42, .func (PySem.W.fnOf "_law_due" "_law_due" (defArgs s_l_due) (defBody s_l_due) (defScope s_l_due) .none kV42 dc42 pm42 an42 cd42 ct42), sl42⟩) (c42 : PySem.W.codeIn K cd42 "_law_due" = true) (k42 : PySem.W.keepIn K (.ref f42) = true)
    (a43 : PySem.W.nsIn K mainGlobals "law" = some (some (.ref f43))) (l43 : K.lookup f43 = some ⟨oc43, od43, .func (PySem.W.fnOf "law" "law" (defArgs s_law) (defBody s_law) (defScope s_law) .none kV43 dc43 pm43 an43 cd43 ct43), sl43⟩) (c43 : PySem.W.codeIn K cd43 "law" = true) (k43 : PySem.W.keepIn K (.ref f43) = true)
    (w_SIGN_WIDTH : PySem.W.nsIn K mainGlobals "SIGN_WIDTH" = some (some (.int 6 g_SIGN_WIDTH)))
    (w_WIDEST_LABEL : PySem.W.nsIn K mainGlobals "WIDEST_LABEL" = some (some (.int 60 g_WIDEST_LABEL)))
    (w_LEAST_UPRIGHT : PySem.W.nsIn K mainGlobals "LEAST_UPRIGHT" = some (some (.int 12 g_LEAST_UPRIGHT)))
    (w_ROOM_BESIDE : PySem.W.nsIn K mainGlobals "ROOM_BESIDE" = some (some (.int 6 g_ROOM_BESIDE)))
    (n_NoNumber : PySem.W.nsIn K mainGlobals "NoNumber" = some (some (.ref C_NoNumber))) (x_NoNumber : PySem.W.excIn K C_NoNumber bmVE "ValueError.__new__" = true) (e_NoNumber : PySem.W.exmOne K (.ref C_NoNumber) (.ref C_NoNumber) = some true)
    (n_NoSpace : PySem.W.nsIn K mainGlobals "NoSpace" = some (some (.ref C_NoSpace))) (x_NoSpace : PySem.W.excIn K C_NoSpace bmVE "ValueError.__new__" = true) (e_NoSpace : PySem.W.exmOne K (.ref C_NoSpace) (.ref C_NoSpace) = some true)
    (z_isinstance : PySem.W.nsIn K mainGlobals "isinstance" = some none)
    (z_int : PySem.W.nsIn K mainGlobals "int" = some none)
    (z_bool : PySem.W.nsIn K mainGlobals "bool" = some none)
    (z_tuple : PySem.W.nsIn K mainGlobals "tuple" = some none)
    (z_str : PySem.W.nsIn K mainGlobals "str" = some none)
    (z_list : PySem.W.nsIn K mainGlobals "list" = some none)
    (z_abs : PySem.W.nsIn K mainGlobals "abs" = some none)
    (z_len : PySem.W.nsIn K mainGlobals "len" = some none)
    (z_range : PySem.W.nsIn K mainGlobals "range" = some none)
    (z_max : PySem.W.nsIn K mainGlobals "max" = some none)
    (z_min : PySem.W.nsIn K mainGlobals "min" = some none)
    (z_zip : PySem.W.nsIn K mainGlobals "zip" = some none)
    : ∃ fd : FuncData, (∀ (s : Shared) (v : Value), BindsTo s fd ⟨[v], []⟩ [("_law_script", v)]) ∧ ∀ base : Heap, K.In base → base.Ns mainGlobals mg → FnOk l.prog w K mg base CX0 13 fa fd ["_law_script"] (sp_law K) := by
  have e := hfa.symm.trans (PySem.W.mg_of X G a43)
  cases e
  have F0 := fun_mk (st := s_is_whole) l0 c0 k0
  have b0 := F0.binds (ps := ["thing"]) fun _ _ _ _ _ _ us hl => by obtain ⟨_, rfl⟩ := us_1 hl; rfl
  have F1 := fun_mk (st := s_divisor_of) l1 c1 k1
  have b1 := F1.binds (ps := ["one", "other"]) fun _ _ _ _ _ _ us hl => by obtain ⟨_, _, rfl⟩ := us_2 hl; rfl
  have F2 := fun_mkD (st := s_number) l2 c2 k2
  have b2 : Binds K (PySem.W.fnOf "number" "number" (defArgs s_number) (defBody s_number) (defScope s_number) (.ref dT2) kV2 dc2 pm2 an2 cd2 ct2) ["top", "bottom"] [] := fun s us X hl => by obtain ⟨_, _, rfl⟩ := us_2 (us := us) (by simpa using hl); exact BindsTo.of_defaults rfl (X _ _ dl2) rfl rfl rfl
  have bd2 : ∃ ds, Vals [V.int 1] ds ∧ Binds K (PySem.W.fnOf "number" "number" (defArgs s_number) (defBody s_number) (defScope s_number) (.ref dT2) kV2 dc2 pm2 an2 cd2 ct2) ["top", "bottom"] ds := ⟨[.int 1 tk2], .cons ⟨_, rfl⟩ .nil, fun s us X hl => by obtain ⟨_, rfl⟩ := us_1 (us := us) (by simpa using hl); exact BindsTo.of_defaults rfl (X _ _ dl2) rfl rfl rfl⟩
  have F3 := fun_mk (st := s_plus) l3 c3 k3
  have b3 := F3.binds (ps := ["one", "other"]) fun _ _ _ _ _ _ us hl => by obtain ⟨_, _, rfl⟩ := us_2 hl; rfl
  have F4 := fun_mk (st := s_minus) l4 c4 k4
  have b4 := F4.binds (ps := ["one", "other"]) fun _ _ _ _ _ _ us hl => by obtain ⟨_, _, rfl⟩ := us_2 hl; rfl
  have F5 := fun_mk (st := s_times) l5 c5 k5
  have b5 := F5.binds (ps := ["one", "other"]) fun _ _ _ _ _ _ us hl => by obtain ⟨_, _, rfl⟩ := us_2 hl; rfl
  have F6 := fun_mk (st := s_over) l6 c6 k6
  have b6 := F6.binds (ps := ["one", "other"]) fun _ _ _ _ _ _ us hl => by obtain ⟨_, _, rfl⟩ := us_2 hl; rfl
  have F7 := fun_mk (st := s_under) l7 c7 k7
  have b7 := F7.binds (ps := ["one", "other"]) fun _ _ _ _ _ _ us hl => by obtain ⟨_, _, rfl⟩ := us_2 hl; rfl
  have F8 := fun_mk (st := s_floor_of) l8 c8 k8
  have b8 := F8.binds (ps := ["one"]) fun _ _ _ _ _ _ us hl => by obtain ⟨_, rfl⟩ := us_1 hl; rfl
  have F9 := fun_mk (st := s_rounded) l9 c9 k9
  have b9 := F9.binds (ps := ["one"]) fun _ _ _ _ _ _ us hl => by obtain ⟨_, rfl⟩ := us_1 hl; rfl
  have F10 := fun_mk (st := s_show_number) l10 c10 k10
  have b10 := F10.binds (ps := ["one"]) fun _ _ _ _ _ _ us hl => by obtain ⟨_, rfl⟩ := us_1 hl; rfl
  have F11 := fun_mk (st := s_comes_before) l11 c11 k11
  have b11 := F11.binds (ps := ["one", "other"]) fun _ _ _ _ _ _ us hl => by obtain ⟨_, _, rfl⟩ := us_2 hl; rfl
  have F12 := fun_mk (st := s_least_of) l12 c12 k12
  have b12 := F12.binds (ps := ["cells"]) fun _ _ _ _ _ _ us hl => by obtain ⟨_, rfl⟩ := us_1 hl; rfl
  have F13 := fun_mk (st := s_greatest_of) l13 c13 k13
  have b13 := F13.binds (ps := ["cells"]) fun _ _ _ _ _ _ us hl => by obtain ⟨_, rfl⟩ := us_1 hl; rfl
  have F14 := fun_mk (st := s_straight_place) l14 c14 k14
  have b14 := F14.binds (ps := ["one", "lo", "hi", "begin", "end"]) fun _ _ _ _ _ _ us hl => by obtain ⟨_, _, _, _, _, rfl⟩ := us_5 hl; rfl
  have F15 := fun_mk (st := s_is_within) l15 c15 k15
  have b15 := F15.binds (ps := ["one", "lo", "hi"]) fun _ _ _ _ _ _ us hl => by obtain ⟨_, _, _, rfl⟩ := us_3 hl; rfl
  have F16 := fun_mk (st := s_straight_ends) l16 c16 k16
  have b16 := F16.binds (ps := ["numbers"]) fun _ _ _ _ _ _ us hl => by obtain ⟨_, rfl⟩ := us_1 hl; rfl
  have F17 := fun_mk (st := s_power_of) l17 c17 k17
  have b17 := F17.binds (ps := ["base", "exponent"]) fun _ _ _ _ _ _ us hl => by obtain ⟨_, _, rfl⟩ := us_2 hl; rfl
  have F18 := fun_mk (st := s_power_below) l18 c18 k18
  have b18 := F18.binds (ps := ["base", "one"]) fun _ _ _ _ _ _ us hl => by obtain ⟨_, _, rfl⟩ := us_2 hl; rfl
  have F19 := fun_mk (st := s_place_on_straight) l19 c19 k19
  have b19 := F19.binds (ps := ["scale", "cell"]) fun _ _ _ _ _ _ us hl => by obtain ⟨_, _, rfl⟩ := us_2 hl; rfl
  have F20 := fun_mk (st := s_place_on) l20 c20 k20
  have b20 := F20.binds (ps := ["scale", "cell"]) fun _ _ _ _ _ _ us hl => by obtain ⟨_, _, rfl⟩ := us_2 hl; rfl
  have F21 := fun_mk (st := s_widest_of) l21 c21 k21
  have b21 := F21.binds (ps := ["labels"]) fun _ _ _ _ _ _ us hl => by obtain ⟨_, rfl⟩ := us_1 hl; rfl
  have F22 := fun_mk (st := s_labels_fit) l22 c22 k22
  have b22 := F22.binds (ps := ["labels", "gap", "way"]) fun _ _ _ _ _ _ us hl => by obtain ⟨_, _, _, rfl⟩ := us_3 hl; rfl
  have F23 := fun_mk (st := s_with_ticks) l23 c23 k23
  have b23 := F23.binds (ps := ["scale", "cells", "labels"]) fun _ _ _ _ _ _ us hl => by obtain ⟨_, _, _, rfl⟩ := us_3 hl; rfl
  have F24 := fun_mk (st := s_ceiling_of) l24 c24 k24
  have b24 := F24.binds (ps := ["one"]) fun _ _ _ _ _ _ us hl => by obtain ⟨_, rfl⟩ := us_1 hl; rfl
  have F25 := fun_mk (st := s_round_steps) l25 c25 k25
  have b25 := F25.binds (ps := ["least", "most"]) fun _ _ _ _ _ _ us hl => by obtain ⟨_, _, rfl⟩ := us_2 hl; rfl
  have F26 := fun_mk (st := s_straight_by) l26 c26 k26
  have b26 := F26.binds (ps := ["step", "ends", "length", "way"]) fun _ _ _ _ _ _ us hl => by obtain ⟨_, _, _, _, rfl⟩ := us_4 hl; rfl
  have F27 := fun_mk (st := s_straight_axis) l27 c27 k27
  have b27 := F27.binds (ps := ["cells", "length", "way", "nought"]) fun _ _ _ _ _ _ us hl => by obtain ⟨_, _, _, _, rfl⟩ := us_4 hl; rfl
  have F28 := fun_mkD (st := s_axis_for) l28 c28 k28
  have b28 : Binds K (PySem.W.fnOf "axis_for" "axis_for" (defArgs s_axis_for) (defBody s_axis_for) (defScope s_axis_for) (.ref dT28) kV28 dc28 pm28 an28 cd28 ct28) ["wish", "cells", "length", "way", "nought"] [] := fun s us X hl => by obtain ⟨_, _, _, _, _, rfl⟩ := us_5 (us := us) (by simpa using hl); exact BindsTo.of_defaults rfl (X _ _ dl28) rfl rfl rfl
  have bd28 : ∃ ds, Vals [V.bl false] ds ∧ Binds K (PySem.W.fnOf "axis_for" "axis_for" (defArgs s_axis_for) (defBody s_axis_for) (defScope s_axis_for) (.ref dT28) kV28 dc28 pm28 an28 cd28 ct28) ["wish", "cells", "length", "way", "nought"] ds := ⟨[.bool false], .cons rfl .nil, fun s us X hl => by obtain ⟨_, _, _, _, rfl⟩ := us_4 (us := us) (by simpa using hl); exact BindsTo.of_defaults rfl (X _ _ dl28) rfl rfl rfl⟩
  have kb28 : KBinds K (PySem.W.fnOf "axis_for" "axis_for" (defArgs s_axis_for) (defBody s_axis_for) (defScope s_axis_for) (.ref dT28) kV28 dc28 pm28 an28 cd28 ct28) ["wish", "cells", "length", "way", "nought"] ["nought"] kb41 kb41 := ⟨fun s us ws X hl => by obtain ⟨_, _, _, _, _, rfl, rfl⟩ := kb_five hl; exact BindsTo.of_defaults rfl (X _ _ dl28) rfl rfl rfl, kb_rel⟩
  have F29 := fun_mk (st := s_l_cell_at) l29 c29 k29
  have b29 := F29.binds (ps := ["_law_script", "_law_k"]) fun _ _ _ _ _ _ us hl => by obtain ⟨_, _, rfl⟩ := us_2 hl; rfl
  have F30 := fun_mk (st := s_l_source) l30 c30 k30
  have b30 := F30.binds (ps := ["_law_script", "_law_k"]) fun _ _ _ _ _ _ us hl => by obtain ⟨_, _, rfl⟩ := us_2 hl; rfl
  have F31 := fun_mk (st := s_l_draw) l31 c31 k31
  have b31 := F31.binds (ps := ["_law_source_here", "_law_many"]) fun _ _ _ _ _ _ us hl => by obtain ⟨_, _, rfl⟩ := us_2 hl; rfl
  have F32 := fun_mk (st := s_l_great) l32 c32 k32
  have b32 := F32.binds (ps := ["_law_source_here", "_law_many"]) fun _ _ _ _ _ _ us hl => by obtain ⟨_, _, rfl⟩ := us_2 hl; rfl
  have F33 := fun_mk (st := s_l_low) l33 c33 k33
  have b33 := F33.binds (ps := ["_law_top", "_law_bottom"]) fun _ _ _ _ _ _ us hl => by obtain ⟨_, _, rfl⟩ := us_2 hl; rfl
  have F34 := fun_mk (st := s_l_text) l34 c34 k34
  have b34 := F34.binds (ps := ["_law_one"]) fun _ _ _ _ _ _ us hl => by obtain ⟨_, rfl⟩ := us_1 hl; rfl
  have F35 := fun_mk (st := s_l_asked) l35 c35 k35
  have b35 := F35.binds (ps := ["_law_wish", "_law_cells", "_law_length", "_law_way", "_law_beside"]) fun _ _ _ _ _ _ us hl => by obtain ⟨_, _, _, _, _, rfl⟩ := us_5 hl; rfl
  have F36 := fun_mk (st := s_l_is_axis) l36 c36 k36
  have b36 := F36.binds (ps := ["_law_found", "_law_due_here"]) fun _ _ _ _ _ _ us hl => by obtain ⟨_, _, rfl⟩ := us_2 hl; rfl
  have F37 := fun_mk (st := s_l_right) l37 c37 k37
  have b37 := F37.binds (ps := ["_law_wish", "_law_cells", "_law_length", "_law_way", "_law_beside", "_law_due_here"]) fun _ _ _ _ _ _ us hl => by obtain ⟨_, _, _, _, _, _, rfl⟩ := us_6 hl; rfl
  have F38 := fun_mk (st := s_l_numbers) l38 c38 k38
  have b38 := F38.binds (ps := ["_law_source_here"]) fun _ _ _ _ _ _ us hl => by obtain ⟨_, rfl⟩ := us_1 hl; rfl
  have F39 := fun_mk (st := s_l_under) l39 c39 k39
  have b39 := F39.binds (ps := ["_law_one", "_law_other"]) fun _ _ _ _ _ _ us hl => by obtain ⟨_, _, rfl⟩ := us_2 hl; rfl
  have F40 := fun_mk (st := s_l_ends) l40 c40 k40
  have b40 := F40.binds (ps := ["_law_cells", "_law_beside"]) fun _ _ _ _ _ _ us hl => by obtain ⟨_, _, rfl⟩ := us_2 hl; rfl
  have F41 := fun_mk (st := s_l_by) l41 c41 k41
  have b41 := F41.binds (ps := ["_law_top", "_law_bottom", "_law_ends_here", "_law_length", "_law_way"]) fun _ _ _ _ _ _ us hl => by obtain ⟨_, _, _, _, _, rfl⟩ := us_5 hl; rfl
  have F42 := fun_mk (st := s_l_due) l42 c42 k42
  have b42 := F42.binds (ps := ["_law_ends_here", "_law_length", "_law_way"]) fun _ _ _ _ _ _ us hl => by obtain ⟨_, _, _, rfl⟩ := us_3 hl; rfl
  have F43 := fun_mk (st := s_law) l43 c43 k43
  have b43 := F43.binds (ps := ["_law_script"]) fun _ _ _ _ _ _ us hl => by obtain ⟨_, rfl⟩ := us_1 hl; rfl
  have T : Txt K mg ⟨_, _, _, _, _, _, _, _, _, _, _, _, _, _, _, _, _, _, _, _, _, _, _, _, _, _, _, _, _, _, _, _, _, _, _, _, _, _, _, _, _, _, _, _, _, _, _, _, _, _, _, _, _, _, _, _, _, _, _, _, _, _, _, _, _, _, _, _, _, _, _, _, _, _, _, _, _, _, _, _, _, _, _, _, _, _, _, _, C_NoNumber, C_NoSpace, g_SIGN_WIDTH, g_WIDEST_LABEL, g_LEAST_UPRIGHT, g_ROOM_BESIDE⟩ := ⟨F0, PySem.W.mg_of X G a0, k0, b0, F1, PySem.W.mg_of X G a1, k1, b1, F2, PySem.W.mg_of X G a2, k2, b2, bd2, F3, PySem.W.mg_of X G a3, k3, b3, F4, PySem.W.mg_of X G a4, k4, b4, F5, PySem.W.mg_of X G a5, k5, b5, F6, PySem.W.mg_of X G a6, k6, b6, F7, PySem.W.mg_of X G a7, k7, b7, F8, PySem.W.mg_of X G a8, k8, b8, F9, PySem.W.mg_of X G a9, k9, b9, F10, PySem.W.mg_of X G a10, k10, b10, F11, PySem.W.mg_of X G a11, k11, b11, F12, PySem.W.mg_of X G a12, k12, b12, F13, PySem.W.mg_of X G a13, k13, b13, F14, PySem.W.mg_of X G a14, k14, b14, F15, PySem.W.mg_of X G a15, k15, b15, F16, PySem.W.mg_of X G a16, k16, b16, F17, PySem.W.mg_of X G a17, k17, b17, F18, PySem.W.mg_of X G a18, k18, b18, F19, PySem.W.mg_of X G a19, k19, b19, F20, PySem.W.mg_of X G a20, k20, b20, F21, PySem.W.mg_of X G a21, k21, b21, F22, PySem.W.mg_of X G a22, k22, b22, F23, PySem.W.mg_of X G a23, k23, b23, F24, PySem.W.mg_of X G a24, k24, b24, F25, PySem.W.mg_of X G a25, k25, b25, F26, PySem.W.mg_of X G a26, k26, b26, F27, PySem.W.mg_of X G a27, k27, b27, F28, PySem.W.mg_of X G a28, k28, b28, bd28, kb28, F29, PySem.W.mg_of X G a29, k29, b29, F30, PySem.W.mg_of X G a30, k30, b30, F31, PySem.W.mg_of X G a31, k31, b31, F32, PySem.W.mg_of X G a32, k32, b32, F33, PySem.W.mg_of X G a33, k33, b33, F34, PySem.W.mg_of X G a34, k34, b34, F35, PySem.W.mg_of X G a35, k35, b35, F36, PySem.W.mg_of X G a36, k36, b36, F37, PySem.W.mg_of X G a37, k37, b37, F38, PySem.W.mg_of X G a38, k38, b38, F39, PySem.W.mg_of X G a39, k39, b39, F40, PySem.W.mg_of X G a40, k40, b40, F41, PySem.W.mg_of X G a41, k41, b41, F42, PySem.W.mg_of X G a42, k42, b42, F43, PySem.W.mg_of X G a43, k43, b43, PySem.W.mg_of X G n_NoNumber, n_NoNumber, x_NoNumber, e_NoNumber, PySem.W.mg_of X G n_NoSpace, n_NoSpace, x_NoSpace, e_NoSpace, PySem.W.mg_of X G w_SIGN_WIDTH, PySem.W.mg_of X G w_WIDEST_LABEL, PySem.W.mg_of X G w_LEAST_UPRIGHT, PySem.W.mg_of X G w_ROOM_BESIDE, PySem.W.mg_none_of X G z_isinstance, PySem.W.mg_none_of X G z_int, PySem.W.mg_none_of X G z_bool, PySem.W.mg_none_of X G z_tuple, PySem.W.mg_none_of X G z_str, PySem.W.mg_none_of X G z_list, PySem.W.mg_none_of X G z_abs, PySem.W.mg_none_of X G z_len, PySem.W.mg_none_of X G z_range, PySem.W.mg_none_of X G z_max, PySem.W.mg_none_of X G z_min, PySem.W.mg_none_of X G z_zip⟩
  exact ⟨PySem.W.fnOf "law" "law" (defArgs s_law) (defBody s_law) (defScope s_law) .none kV43 dc43 pm43 an43 cd43 ct43, fun s v => .of_eq rfl, fun base _ _ => ok_law T⟩
theorem walk {l : PySem.W.OpenLaw} {q : Program} {loose : List Str} {XP : (Str → Option Value) → Heap → Prop} {YP : World → Heap → Prop} {d : DefRec} {K : Params → Fg} (hn : l.most = some 63) (hdf : d.params.defaults = [])
    (hY : ∀ (w : World) (h : Heap), YP w h → (K w.params).In h)
    (F : ∀ (w : World) (mg : Str → Option Value) (fa : Addr) (h : Heap), (K w.params).In h → h.Ns mainGlobals mg → mg d.name = some (.ref fa) →
      ∃ fd : FuncData, (∀ (s : Shared) (u : Value), BindsTo s fd ⟨[u], []⟩ [("_law_script", u)]) ∧ ∀ base : Heap, (K w.params).In base → base.Ns mainGlobals mg → FnOk l.prog w (K w.params) mg base CX0 13 fa fd ["_law_script"] (sp_law (K w.params))) :
    PySem.W.WalkO q loose XP YP l.row.toRowW d [] (fun f vs => PySem.call f vs) :=
  L2.walk_ofB (n := 63) (k := 13) (x := "_law_script") (CX := fun _ => CX0) (sp := fun w => sp_law (K w.params)) hn (by decide) hdf ⟨rfl, by decide, by decide⟩ hY F (fun _ _ a ns hl hbt _ hS => ⟨a, ns, rfl, hS, hl, hbt, fun _ => rfl⟩) fun _ _ _ _ _ z => z
end MyLaw
open PySem PySem.W PyProof.Rows
set_option maxRecDepth 100000 in
set_option maxHeartbeats 0 in
theorem PySem.Challenge.cw_markscale_k27_least_round_step_holds : PySem.Challenge.rw_markscale_k27_least_round_step.Holds := by
  w_on; o_law
  refine holds_open (q := MyLaw.hdV) (loose := [Str.ofString "number", Str.ofString "axis_for"]) (Xt := MyLaw.hdX MyLaw.hdV) (XP := XL MyLaw.hdV [])
    (Yf := Hook.obs (kHook MyLaw.hdKs.heap_1 MyLaw.hdKs MyLaw.hdKe)) (Ya := Hook.val (kHook MyLaw.hdKs.heap_1 MyLaw.hdKs MyLaw.hdKe)) (YP := Hook.says (kHook MyLaw.hdKs.heap_1 MyLaw.hdKs MyLaw.hdKe)) (N := 6664)
    MyLaw.hdL (Hook.of _) (Hook.keeps _) (fun s z => xl_of s (Bool.and_eq_true_iff.mp z).1) XL.keeps (by rfl)
    (by rfl) (by rfl) (fun s z => recFacts_of (Bool.and_eq_true_iff.mp z).2) (by rfl)
    (by first | assumption | decide +kernel) (by decide +kernel)
    ⟨rfl, rfl, rfl, rfl, rfl, by decide +kernel⟩ ?hw ?hc
  (case hw => w_witness2)
  k_fill
  refine MyLaw.walk (l := PySem.Challenge.rw_markscale_k27_least_round_step) rfl rfl (fun w h Y => PySem.W.kIn_of Y) ?F
  case F =>
    intro w mg fa h KX G hmg
    refine' MyLaw.all_mk KX G hmg ?a0 ?l0 ?c0 ?k0 ?a1 ?l1 ?c1 ?k1 ?a2 ?l2 ?c2 ?k2 ?dl2 ?a3 ?l3 ?c3 ?k3 ?a4 ?l4 ?c4 ?k4 ?a5 ?l5 ?c5 ?k5 ?a6 ?l6 ?c6 ?k6 ?a7 ?l7 ?c7 ?k7 ?a8 ?l8 ?c8 ?k8 ?a9 ?l9 ?c9 ?k9 ?a10 ?l10 ?c10 ?k10 ?a11 ?l11 ?c11 ?k11 ?a12 ?l12 ?c12 ?k12 ?a13 ?l13 ?c13 ?k13 ?a14 ?l14 ?c14 ?k14 ?a15 ?l15 ?c15 ?k15 ?a16 ?l16 ?c16 ?k16 ?a17 ?l17 ?c17 ?k17 ?a18 ?l18 ?c18 ?k18 ?a19 ?l19 ?c19 ?k19 ?a20 ?l20 ?c20 ?k20 ?a21 ?l21 ?c21 ?k21 ?a22 ?l22 ?c22 ?k22 ?a23 ?l23 ?c23 ?k23 ?a24 ?l24 ?c24 ?k24 ?a25 ?l25 ?c25 ?k25 ?a26 ?l26 ?c26 ?k26 ?a27 ?l27 ?c27 ?k27 ?a28 ?l28 ?c28 ?k28 ?dl28 ?a29 ?l29 ?c29 ?k29 ?a30 ?l30 ?c30 ?k30 ?a31 ?l31 ?c31 ?k31 ?a32 ?l32 ?c32 ?k32 ?a33 ?l33 ?c33 ?k33 ?a34 ?l34 ?c34 ?k34 ?a35 ?l35 ?c35 ?k35 ?a36 ?l36 ?c36 ?k36 ?a37 ?l37 ?c37 ?k37 ?a38 ?l38 ?c38 ?k38 ?a39 ?l39 ?c39 ?k39 ?a40 ?l40 ?c40 ?k40 ?a41 ?l41 ?c41 ?k41 ?a42 ?l42 ?c42 ?k42 ?a43 ?l43 ?c43 ?k43 ?w_SIGN_WIDTH ?w_WIDEST_LABEL ?w_LEAST_UPRIGHT ?w_ROOM_BESIDE ?n_NoNumber ?x_NoNumber ?e_NoNumber ?n_NoSpace ?x_NoSpace ?e_NoSpace ?z_isinstance ?z_int ?z_bool ?z_tuple ?z_str ?z_list ?z_abs ?z_len ?z_range ?z_max ?z_min ?z_zip
    all_goals try k_is
    (case x_NoNumber => k_exc)
    (case e_NoNumber => kts_exm)
    (case x_NoSpace => k_exc)
    (case e_NoSpace => kts_exm)
