import PyProof.Rows.All
import Wide.All
import OpenK.AllK
import Wide.FinOn
import Lean
import PyProof.EqAt
import PyProof.EqKinds
import PyProof.TupleCall
import PyProof.NeKinds
import PyProof.SumWalkG
import PySem.Challenge.RW_markscale_k30_days_by_steps
set_option compiler.extract_closed false
set_option Elab.async false
set_option linter.all false
set_option maxRecDepth 100000
noncomputable section
abbrev Fg := PySem.W.Frag
abbrev Pn := List (PySem.Addr × PySem.Obj)
section
set_option maxRecDepth 100000
set_option maxHeartbeats 0
namespace MyLaw
open PySem PySem.W
def hdF (s : String) : Str := ⟨⟨(PySem.W.S.toListS s).map Char.toNat⟩⟩
theorem hdFe : @Str.ofString = hdF := by
  rw [Str.ofString_eq_byList]; funext s
  show (⟨⟨(String.toList s).map Char.toNat⟩⟩ : Str) = _
  rw [PySem.W.S.toListS_eq]; rfl
abbrev hdP : Program := PySem.Challenge.pw_markscale_k30_days_by_steps
abbrev hdR : OpenRow := OpenLaw.row PySem.Challenge.rw_markscale_k30_days_by_steps
def hdG : PSigma fun G : (String → Str) → Program => PySem.Challenge.pw_markscale_k30_days_by_steps = G Str.ofString := by
  apply PSigma.mk
  case snd =>
    delta PySem.Challenge.pw_markscale_k30_days_by_steps
    generalize Str.ofString = f
    exact rfl
def hdK : List Nat := [1, 2, 3, 4, 6, 7, 9, 10, 11, 12, 13, 14, 15, 17, 19, 20, 21, 22, 23, 24, 25, 26, 27, 28, 29, 30, 32, 34, 35, 36, 38, 39, 40, 41, 42, 43, 44, 45, 46, 47, 48, 50, 51, 53, 54, 55, 56, 57, 58, 59, 60, 61, 62, 63, 64, 65, 66, 67, 68, 69, 70, 71, 72, 73, 74, 75, 76, 77, 78, 79, 80, 81, 84, 85, 86, 87, 88, 89, 90, 91, 92, 93, 94, 95, 96]
def hdV : Program := PySem.W.view hdP hdK
end MyLaw
def PySem.W.Fast.tw6444938589511152353 : PySem.Program := MyLaw.hdG.1 MyLaw.hdF
theorem PySem.W.Fast.te6444938589511152353 : PySem.Challenge.pw_markscale_k30_days_by_steps = PySem.W.Fast.tw6444938589511152353 := MyLaw.hdG.2.trans (congrArg MyLaw.hdG.1 MyLaw.hdFe)
namespace MyLaw
open PySem PySem.W
abbrev hdQ : Program := PySem.W.Fast.tw6444938589511152353
def hdT : Program := PySem.W.view hdQ hdK
theorem hdE : hdV = hdT := congrArg (fun p => PySem.W.view p hdK) PySem.W.Fast.te6444938589511152353
abbrev hdX (q : Program) (s : Shared) : Bool := xlAt q [] s && recOk (OpenRow.toRowW hdR).records s
def HdHyp (K : Params → Frag) (as : List Addr) : Prop := ∀ (K' : Params → Frag) (as' : List Addr), (∀ P, as' = (K' P).map (·.1)) → K' = K → as' = as → hdR.Holds
def hdPick (K : Params → Frag) (as : List Addr) (_ : HdHyp K as → hdR.Holds) (e : ∀ P, as = (K P).map (·.1)) : List Addr := let _ := e; as
local macro_rules
  | `(tactic| o_head (kHook $K $as $e)) => `(tactic| exact (show MyLaw.HdHyp _ _ from by assumption) $K $as $e rfl rfl)
def hdKs : List Addr := by
  apply hdPick
  case x => intro hyp; k_head
  case e => intro P; kernel_rfl
abbrev hdKf : Params → Frag := MyLaw.hdKs.heap_1
theorem hdKe : ∀ P, hdKs = (MyLaw.hdKs.heap_1 P).map (·.1) := by intro P; kernel_rfl
def hdKG : PSigma fun G : (String → Str) → Params → Frag => MyLaw.hdKs.heap_1 = G Str.ofString := by
  apply PSigma.mk
  case snd =>
    delta MyLaw.hdKs.heap_1
    generalize Str.ofString = f
    exact rfl
def hdTp (tb : String → Option Builtin) (p : Program) (w : World) (n₀ : Nat) (ann : Option Value) : Nat → SharedT → Thread → Option SharedT
  | 0, _, _ => none
  | n + 1, s, t => match through t with
    | true => some s
    | false => match PySem.W.Fast.tw6613529449190102663 n₀ ann t with
      | false => none
      | true => match PySem.W.Fast.tw10156331382660048174 (PySem.W.Fast.tw11892475500146522536 tb) p w s t with
        | some (s', t') => hdTp tb p w n₀ ann n s' t'
        | none => none
theorem hdTp_of {tb : String → Option Builtin} {p : Program} {w : World} {n₀ : Nat} {ann : Option Value} : ∀ {n : Nat} {s r : SharedT} {t : Thread}, hdTp tb p w n₀ ann n s t = some r → topRun tb p w n₀ ann n s.abs t = some r.abs
  | 0, _, _, _, h => by cases h
  | n + 1, s, r, t, h => by
    unfold hdTp at h
    rw [← PySem.W.Fast.te6613529449190102663, ← PySem.W.Fast.te10156331382660048174, ← PySem.W.Fast.te11892475500146522536] at h
    unfold topRun
    cases he : through t with
    | true => rw [he] at h; cases h; rfl
    | false =>
      rw [he] at h
      cases hk : stepOk n₀ ann t with
      | false => rw [hk] at h; cases h
      | true =>
        rw [hk] at h
        cases hs : stepT (denote tb) p w s t with
        | none => rw [hs] at h; cases h
        | some q => obtain ⟨s₂, t₂⟩ := q; rw [hs] at h; rw [stepT_spec hs]; exact hdTp_of h
def hdFill : List Obj → Nat → BT → BT
  | [], _, t => t
  | o :: r, i, t => hdFill r (i + 1) (t.ins i o)
def hdTo (s : Shared) : SharedT := ⟨hdFill s.heap.objs.toList 0 .nil, s.heap.objs.size, s.heap.life, s.gens, s.drawn, s.toks, s.os⟩
abbrev hdTb := PySem.W.Fast.tw14364793385576792824
abbrev hdAft (s₀ s₁ : Shared) : Option Shared := match staticsOk (importedModules hdQ.main.body) s₀.heap s₁.heap && namesBound hdQ s₁.heap && gensDone s₁ && laidKept s₀.heap s₁.heap with
  | true => some s₁
  | false => none
def hdFrom (w : World) (s₀ : Shared) : Option Shared := match s₀.heap.isNs mainGlobals && s₀.gens.size == 0 with
  | true => (hdTp hdTb hdQ w s₀.heap.objs.size (s₀.heap.nsMap mainGlobals "__annotations__") 6542 (hdTo s₀) (topStub hdQ)).bind fun r => hdAft s₀ r.abs
  | false => none
def hdRun (w : World) : Option Shared := (fencedOpening hdTb hdQ w 6542).bind (hdFrom w)
theorem hdO : ∀ w : World, (fencedOpening hdTb hdQ w 6542).map (fun s => (hdTo s).abs) = fencedOpening hdTb hdQ w 6542 := by intro w; kernel_rfl
theorem hdRun_of {w : World} {s : Shared} (h : hdRun w = some s) : openEnds hdTb hdQ w 6542 = some s := by
  unfold hdRun at h
  unfold openEnds
  have o := hdO w
  generalize fencedOpening hdTb hdQ w 6542 = x at h o ⊢
  cases x with
  | none => cases h
  | some s₀ =>
    have o : (hdTo s₀).abs = s₀ := Option.some.inj o
    have h : hdFrom w s₀ = some s := h
    show topFrom hdTb hdQ w 6542 s₀ = some s
    unfold hdFrom at h
    unfold topFrom
    cases hb : (s₀.heap.isNs mainGlobals && s₀.gens.size == 0) with
    | false => rw [hb] at h; cases h
    | true =>
      rw [hb] at h
      dsimp only at h ⊢
      obtain ⟨r, h1, h2⟩ := Option.bind_eq_some_iff.mp h
      have h3 := hdTp_of h1
      rw [o] at h3
      rw [h3]
      exact h2
abbrev hdSee (s : Shared) := PySem.W.Fast.tw4187177175401517315 hdT [hdF "number", hdF "axis_for"] (PySem.W.Fast.tw5923862056798008813 hdQ.main.body) (hdX hdT) true s
abbrev hdGood := openGood hdT [hdF "number", hdF "axis_for"]
open PyProof PyProof.Rows
theorem hdA : ∀ w : World, Option.map (fun s => (hdSee s).1) (hdRun w) = some (expectedOf hdT) := by intro w; kernel_rfl
theorem hdB : ∀ w : World, Option.map (fun s => ((hdSee s).2.1, (hdSee s).2.2.1, (hdSee s).2.2.2.1)) (hdRun w) = some (bltViewBooted, true, true) := by intro w; kernel_rfl
theorem hdC : ∀ w : World, Option.map (fun s => (hdSee s).2.2.2.2) (hdRun w) = some (pinGoodD (drecsOf hdT), plainGoodE hdT (looseW hdT [hdF "number", hdF "axis_for"]), plainGoodD hdT [hdF "number", hdF "axis_for"], wideGood hdT, clsGoodW hdT [hdF "number", hdF "axis_for"]) := by intro w; kernel_rfl
theorem hdD : ∀ w : World, Option.map (fun s => hdKs.map s.heap.get?) (hdRun w) = some ((hdKG.1 hdF w.params).map fun p => some p.2) := by intro w; kernel_rfl
theorem hdL : LeftO hdR.prog hdV [Str.ofString "number", Str.ofString "axis_for"] (hdX hdV) (kHook hdKf hdKs hdKe).obs (kHook hdKf hdKs hdKe).val 6542 := by
  intro w
  show Option.map (fun s => (openSeen hdV [Str.ofString "number", Str.ofString "axis_for"] (importedModules (PySem.Challenge.pw_markscale_k30_days_by_steps).main.body) (hdX hdV) true s, hdKs.map s.heap.get?)) (openEnds treeTable PySem.Challenge.pw_markscale_k30_days_by_steps w 6542) = some (openGood hdV [Str.ofString "number", Str.ofString "axis_for"], (hdKf w.params).map fun p => some p.2)
  have eK : hdKf = hdKG.1 hdF := hdKG.2.trans (congrArg hdKG.1 hdFe)
  rw [hdE, hdFe, PySem.W.Fast.te6444938589511152353, PySem.W.Fast.te4187177175401517315, PySem.W.Fast.te5923862056798008813, PySem.W.Fast.te14364793385576792824, eK]
  have a := hdA w
  have b := hdB w
  have c := hdC w
  have d := hdD w
  cases hx : hdRun w with
  | none => rw [hx] at a; cases a
  | some s =>
    rw [hx] at a b c d
    rw [show openEnds PySem.W.Fast.tw14364793385576792824 PySem.W.Fast.tw6444938589511152353 w 6542 = some s from hdRun_of hx]
    have a : (hdSee s).1 = expectedOf hdT := Option.some.inj a
    have b := Option.some.inj b
    have c : (hdSee s).2.2.2.2 = _ := Option.some.inj c
    have d : hdKs.map s.heap.get? = (hdKG.1 hdF w.params).map fun p => some p.2 := Option.some.inj d
    obtain ⟨b1, b2⟩ := Prod.mk.inj b
    obtain ⟨b2, b3⟩ := Prod.mk.inj b2
    show some (hdSee s, hdKs.map s.heap.get?) = some (hdGood, _)
    rw [d]
    generalize hdSee s = y at a b1 b2 b3 c ⊢
    obtain ⟨y1, y2, y3, y4, y5⟩ := y
    subst a b1 b2 b3 c
    rfl
end MyLaw
end
namespace L2
open PySem PySem.Spec PyProof.Rows
abbrev Key := Sum Int Str
def keyIs : Key → Value → Bool
  | .inl k, v => Value.isInt k v
  | .inr x, v => Value.isStrOf x v
def keyH (w : World) : Key → Int
  | .inl k => hashInt k
  | .inr x => hashStr w x
theorem keyIs_shape : ∀ {k : Key} {v : Value}, keyIs k v = true → (∃ i t, k = Sum.inl i ∧ v = Value.int i t) ∨ (∃ x t, k = Sum.inr x ∧ v = Value.str x t)
  | .inl i, v, h => by
    obtain ⟨t, e⟩ := Value.isInt_shape (k := i) (v := v) h
    exact .inl ⟨i, t, rfl, e⟩
  | .inr x, v, h => by
    obtain ⟨t, e⟩ := Value.isStrOf_shape (x := x) (v := v) h
    exact .inr ⟨x, t, rfl, e⟩
theorem key_ll (a b : Int) : decide ((Sum.inl a : Key) = Sum.inl b) = (a == b) := by
  by_cases e : a = b
  · subst e; simp
  · have h : ¬ (Sum.inl a : Key) = Sum.inl b := fun q => e (Sum.inl.inj q)
    rw [decide_eq_false h]
    exact (beq_eq_false_iff_ne.mpr e).symm
theorem key_rr (a b : Str) : decide ((Sum.inr a : Key) = Sum.inr b) = decide (a = b) := by
  by_cases e : a = b
  · subst e; simp
  · have h : ¬ (Sum.inr a : Key) = Sum.inr b := fun q => e (Sum.inr.inj q)
    rw [decide_eq_false h, decide_eq_false e]
theorem key_lr (a : Int) (b : Str) : decide ((Sum.inl a : Key) = Sum.inr b) = false := decide_eq_false (fun q => nomatch q)
theorem key_rl (a : Str) (b : Int) : decide ((Sum.inr a : Key) = Sum.inl b) = false := decide_eq_false (fun q => nomatch q)
def mixKind (prog : Program) (w : World) : PySem.KeyKind prog w Key where
  is := keyIs
  hash := keyH w
  inj := fun v a b ha hb => by
    rcases keyIs_shape ha with ⟨i, t, rfl, rfl⟩ | ⟨x, t, rfl, rfl⟩
    · rcases keyIs_shape hb with ⟨j, u, rfl, e⟩ | ⟨y, u, rfl, e⟩
      · injection e with e1 _; rw [e1]
      · exact nomatch e
    · rcases keyIs_shape hb with ⟨j, u, rfl, e⟩ | ⟨y, u, rfl, e⟩
      · exact nomatch e
      · injection e with e1 _; rw [e1]
  byValue := fun k v h => by
    rcases keyIs_shape h with ⟨i, t, rfl, rfl⟩ | ⟨x, t, rfl, rfl⟩ <;> rfl
  pyHash := fun hv h => by
    rcases keyIs_shape hv with ⟨i, t, rfl, rfl⟩ | ⟨x, t, rfl, rfl⟩
    · exact wpAny_pyHash_int h
    · exact wpAny_pyHash_str h
  eqBool := fun hu hv h => by
    rcases keyIs_shape hu with ⟨i, t, rfl, rfl⟩ | ⟨x, t, rfl, rfl⟩
    · rcases keyIs_shape hv with ⟨j, u, rfl, rfl⟩ | ⟨y, u, rfl, rfl⟩
      · rw [key_ll] at h; exact wpAny_eqBool_int h
      · rw [key_lr] at h; exact SeqAt.EqAt.int_str i t y u _ _ _ _ h
    · rcases keyIs_shape hv with ⟨j, u, rfl, rfl⟩ | ⟨y, u, rfl, rfl⟩
      · rw [key_rl] at h; exact SeqAt.EqAt.str_int x t j u _ _ _ _ h
      · rw [key_rr] at h; exact wpAny_eqBool_str h
  «strs» := fun k x t v h => by
    rcases keyIs_shape h with ⟨i, u, rfl, e⟩ | ⟨y, u, rfl, e⟩
    · exact nomatch e
    · injection e with e1 _
      subst e1
      cases v <;> rfl
end L2
namespace L2
open PySem PySem.Spec PyProof.Rows
inductive V where
  | non | bl (b : Bool) | int (i : Int) | str (x : Str) | byt (b : Array UInt8) | flt (b : UInt64) | ref (a : Addr) | ty (n : String)
  deriving DecidableEq
def RelV : V → Value → Prop
  | .non, u => u = Value.none
  | .bl b, u => u = Value.bool b
  | .int i, u => ∃ t, u = Value.int i t
  | .str x, u => ∃ t, u = Value.str x t
  | .byt b, u => ∃ t, u = Value.bytes b t
  | .flt b, u => ∃ t, u = Value.float b t
  | .ref a, u => u = Value.ref a
  | .ty n, u => u = Value.type n
abbrev Vals : List V → List Value → Prop := Paired RelV
theorem Vals.length {xs : List V} {us : List Value} (r : Vals xs us) : xs.length = us.length := Paired.length r
theorem Vals.get : ∀ {xs : List V} {us : List Value} {i : Nat} {x : V}, Vals xs us → xs[i]? = some x → ∃ u, us[i]? = some u ∧ RelV x u
  | _, _, _, _, .nil, e => by simp at e
  | _, _, 0, _, .cons r _, e => by simp at e; subst e; exact ⟨_, rfl, r⟩
  | _, _, i + 1, x, .cons _ t, e => by
    obtain ⟨u, h1, h2⟩ := Vals.get (i := i) (x := x) t (by simpa using e)
    exact ⟨u, by simpa using h1, h2⟩
theorem Vals.set {x : V} {u : Value} (r : RelV x u) : ∀ {xs : List V} {us : List Value} (i : Nat), Vals xs us → Vals (xs.set i x) (us.set i u)
  | _, _, _, .nil => .nil
  | _, _, 0, .cons _ t => .cons r t
  | _, _, i + 1, .cons q t => .cons q (Vals.set r i t)
theorem Vals.append : ∀ {xs ys : List V} {us ws : List Value}, Vals xs us → Vals ys ws → Vals (xs ++ ys) (us ++ ws)
  | _, _, _, _, .nil, s => s
  | _, _, _, _, .cons r t, s => .cons r (Vals.append t s)
theorem Vals.take : ∀ {xs : List V} {us : List Value} (n : Nat), Vals xs us → Vals (xs.take n) (us.take n)
  | _, _, 0, _ => .nil
  | _, _, _ + 1, .nil => .nil
  | _, _, n + 1, .cons r t => .cons r (Vals.take n t)
theorem Vals.drop : ∀ {xs : List V} {us : List Value} (n : Nat), Vals xs us → Vals (xs.drop n) (us.drop n)
  | _, _, 0, r => r
  | _, _, _ + 1, .nil => .nil
  | _, _, n + 1, .cons _ t => Vals.drop n t
def RelO : Option V → Option Value → Prop
  | some v, some u => RelV v u
  | none, none => True
  | _, _ => False
def KV {κ : Type} : List (κ × V) → List (κ × Value) → Prop := Paired fun (p : κ × V) (q : κ × Value) => p.1 = q.1 ∧ RelV p.2 q.2
def kV : Key → V
  | .inl i => .int i
  | .inr x => .str x
inductive HO where
  /-- a list -/
  | lst (xs : List V)
  /-- a tuple (never changes) -/
  | tup (xs : List V)
  /-- a dict whose keys are ints and texts; one whose keys are tuples of ints and texts (the empty one is both) -/
  | dK (kvs : List (Key × V)) | dT (kvs : List (List Key × V))
  /-- a set of ints: its members, its size -/
  | set (S : Int → Bool) (n : Nat)
  /-- an instance of the class at C, its dict at dx, its attributes -/
  | ins (C dx : Addr) (fs : List (Str × V))
  /-- the dict of the instance at x -/
  | own (x : Addr)
  /-- the dict of an exception -/
  | xd (fs : List (Str × V))
  /-- a bound method, f of x -/
  | met (f x : Addr)
  /-- a range object lo, lo + 1, .. below hi -/
  | rng (lo hi : Int)
  /-- a thing that is known to the object (the script; a dict while a loop walks it): read, never written while it is so -/
  | frz (o : Obj) (u : HO)
  /-- a code object's table -/
  | tbl (ps : Array Value)
  /-- any other thing, by what is true of its one object (a def of one's own: SetO a S n := HO.ext fun h => ..) -/
  | ext (φ : Heap → Prop)
abbrev Hp := Addr → Option HO
def upd (H : Hp) (a : Addr) (o : HO) : Hp := fun b => if b = a then some o else H b
theorem upd_same {H : Hp} {a : Addr} {o : HO} : upd H a o a = some o := by unfold upd; rw [if_pos rfl]
theorem upd_ne {H : Hp} {a b : Addr} {o : HO} (h : b ≠ a) : upd H a o b = H b := by unfold upd; rw [if_neg h]
theorem ne_of {H : Hp} {a b : Addr} {o u : HO} (h : H a = some o) (h' : H b = some u) (d : o ≠ u) : a ≠ b := by
  intro e; subst e; rw [h] at h'; exact d (Option.some.inj h')
theorem ne_of_none {H : Hp} {a b : Addr} {o : HO} (h : H a = some o) (h' : H b = none) : a ≠ b := by
  intro e; subst e; rw [h] at h'; cases h'
section
variable (P : Program) (w : World)
def ObjOk (H : Hp) (h : Heap) (a : Addr) : HO → Prop
  | .lst xs => xs.length ≤ sizeLine ∧ ∃ (its : List Value) (n : Nat), Vals xs its ∧ h.get? a = some { cls := .type "list", data := .seq its.toArray n }
  | .tup xs => xs.length ≤ sizeLine ∧ ∃ its : List Value, Vals xs its ∧ IsTup h a its.toArray
  | .dK kvs => kvs.length ≤ sizeLine ∧ (a == sysModules) = false ∧ ∃ vs, KV kvs vs ∧ h.DictOf (mixKind P w) a vs
  | .dT kvs => kvs.length ≤ sizeLine ∧ (a == sysModules) = false ∧ ∃ xs : List (List Key × Addr × Value),
      Paired (fun (p : List Key × V) (q : List Key × Addr × Value) => p.1 = q.1 ∧ H q.2.1 = some (.tup (p.1.map kV)) ∧ RelV p.2 q.2.2) kvs xs ∧
      ∃ o es ep, h.get? a = some o ∧ o.ExactDict ∧ o.data = .dict es ep ∧ es.toList = xs.map (entryOfKey (tupleKind (mixKind P w))) ∧ (xs.map (·.1)).Nodup
  | .set S n => h.SetOf (intKind P w) a S n
  | .ins C dx fs => H dx = some (.own a) ∧ fs.length ≤ 1000 ∧ dx ≠ a ∧ h.get? a = some (PySem.W.instObj C dx) ∧
      ∃ mA, h.Ns1 dx mA ∧ (∀ f, RelO (fs.lookup f) (mA f)) ∧ PySem.Within mA (fs.map (·.1))
  | .own _ => ∃ o, h.get? a = some o
  | .xd fs => ∃ mA, h.Ns1 a mA ∧ ∀ f, RelO (fs.lookup f) (mA f)
  | .rng lo hi => ∃ t u v, h.get? a = some { cls := .type "range", data := .fields #[.int lo t, .int hi u, .int 1 v] }
  | .frz o u => h.get? a = some o ∧ ObjOk H h a u
  | .tbl ps => h.get? a = some { cls := .none, data := .fields ps }
  | .met f x => h.get? a = some (PySem.W.methodObj (.ref f) (.ref x))
  | .ext φ => φ h ∧ (∃ o, h.get? a = some o) ∧ ∀ h1 h2 : Heap, φ h1 → (∀ o, h1.get? a = some o → h2.get? a = some o) → φ h2
def HOk (H : Hp) (h : Heap) : Prop := ∀ a o, H a = some o → ObjOk P w H h a o
end
section
variable {P : Program} {w : World} {H H' : Hp} {h h' : Heap} {a : Addr} {o : HO}
theorem ObjOk.lt (x : ObjOk P w H h a o) : a < h.objs.size := by
  cases o with
  | lst xs => obtain ⟨_, _, _, _, e⟩ := x; exact Heap.lt_size e
  | tup xs => obtain ⟨_, _, _, p⟩ := x; exact p.lt
  | dK kvs => obtain ⟨_, _, _, _, o, _, _, e, _⟩ := x; exact Heap.lt_size e
  | dT kvs => obtain ⟨_, _, _, _, o, _, _, e, _⟩ := x; exact Heap.lt_size e
  | set S n => obtain ⟨o, _, _, _, e, _⟩ := x; exact Heap.lt_size e
  | ins C dx fs => obtain ⟨_, _, _, e, _⟩ := x; exact Heap.lt_size e
  | own y => obtain ⟨_, e⟩ := x; exact Heap.lt_size e
  | xd fs => obtain ⟨_, ⟨_, _, _, e, _⟩, _⟩ := x; exact Heap.lt_size e
  | rng lo hi => obtain ⟨_, _, _, e⟩ := x; exact Heap.lt_size e
  | frz ob u => obtain ⟨e, _⟩ := x; exact Heap.lt_size e
  | tbl ps => exact Heap.lt_size (show h.get? a = some _ from x)
  | met f y => exact Heap.lt_size (show h.get? a = some _ from x)
  | ext φ => obtain ⟨_, ⟨_, e⟩, _⟩ := x; exact Heap.lt_size e
theorem Paired.mapP {α β : Type} {F G : α → β → Prop} : ∀ {l₁ : List α} {l₂ : List β}, Paired F l₁ l₂ → (∀ a b, F a b → G a b) → Paired G l₁ l₂
  | _, _, .nil, _ => .nil
  | _, _, .cons r t, f => .cons (f _ _ r) (Paired.mapP t f)
theorem ObjOk.stay (x : ObjOk P w H h a o) (k : ∀ b u, (b = a ∨ H b = some (.own a)) → h.get? b = some u → h'.get? b = some u)
    (ho : ∀ b, H b = some (.own a) → H' b = some (.own a)) (ht : ∀ b xs, H b = some (.tup xs) → H' b = some (.tup xs)) : ObjOk P w H' h' a o := by
  induction o with
  | lst xs => obtain ⟨z, its, n, r, e⟩ := x; exact ⟨z, its, n, r, k _ _ (.inl rfl) e⟩
  | tup xs => obtain ⟨z, its, r, ob, e, c⟩ := x; exact ⟨z, its, r, ob, k _ _ (.inl rfl) e, c⟩
  | dK kvs => obtain ⟨z, y, vs, r, ob, es, ep, e, c⟩ := x; exact ⟨z, y, vs, r, ob, es, ep, k _ _ (.inl rfl) e, c⟩
  | dT kvs =>
    obtain ⟨z, y, xs, r, ob, es, ep, e, c⟩ := x
    exact ⟨z, y, xs, Paired.mapP r fun p q z => ⟨z.1, ht _ _ z.2.1, z.2.2⟩, ob, es, ep, k _ _ (.inl rfl) e, c⟩
  | set S n => obtain ⟨ob, es, ep, t, e, c⟩ := x; exact ⟨ob, es, ep, t, k _ _ (.inl rfl) e, c⟩
  | ins C dx fs =>
    obtain ⟨d, z, ne, e, mA, ⟨od, es, ep, e2, c⟩, r⟩ := x
    exact ⟨ho _ d, z, ne, k _ _ (.inl rfl) e, mA, ⟨od, es, ep, k _ _ (.inr d) e2, c⟩, r⟩
  | own y => obtain ⟨ob, e⟩ := x; exact ⟨ob, k _ _ (.inl rfl) e⟩
  | xd fs => obtain ⟨mA, ⟨od, es, ep, e, c⟩, r⟩ := x; exact ⟨mA, ⟨od, es, ep, k _ _ (.inl rfl) e, c⟩, r⟩
  | rng lo hi => obtain ⟨t, u, v, e⟩ := x; exact ⟨t, u, v, k _ _ (.inl rfl) e⟩
  | frz ob u ih => obtain ⟨e, q⟩ := x; exact ⟨k _ _ (.inl rfl) e, ih q⟩
  | tbl ps =>
    have e : h.get? a = some { cls := .none, data := .fields ps } := x
    show h'.get? a = some { cls := .none, data := .fields ps }
    exact k a _ (.inl rfl) e
  | met f y =>
    have e : h.get? a = some (PySem.W.methodObj (.ref f) (.ref y)) := x
    show h'.get? a = some (PySem.W.methodObj (.ref f) (.ref y))
    exact k a _ (.inl rfl) e
  | ext φ => obtain ⟨p, ⟨o, e⟩, st⟩ := x; exact ⟨st _ _ p fun o q => k _ _ (.inl rfl) q, ⟨o, k _ _ (.inl rfl) e⟩, st⟩
theorem HOk.lt (x : HOk P w H h) (e : H a = some o) : a < h.objs.size := (x a o e).lt
theorem HOk.fresh (x : HOk P w H h) (e : h.objs.size ≤ a) : H a = none := by
  cases q : H a with
  | none => rfl
  | some u => exact absurd (Nat.lt_of_lt_of_le (x.lt q) e) (Nat.lt_irrefl _)
theorem HOk.kept (x : HOk P w H h) (k : ∀ b u, h.get? b = some u → h'.get? b = some u) : HOk P w H h' := fun a o e =>
  (x a o e).stay (fun b u _ q => k b u q) (fun _ q => q) fun _ _ q => q
theorem HOk.laid (x : HOk P w H h) (k : ∀ b u, h.get? b = some u → h'.get? b = some u) (hp : h.objs.size ≤ a) (new : ObjOk P w (upd H a o) h' a o) : HOk P w (upd H a o) h' := fun b u e => by
  have hn := x.fresh hp
  by_cases hb : b = a
  · subst hb; rw [upd_same] at e; cases e; exact new
  · rw [upd_ne hb] at e
    exact (x b u e).stay (fun c v _ q => k c v q) (fun c q => by rw [upd_ne (ne_of_none q hn)]; exact q) fun c xs q => by rw [upd_ne (ne_of_none q hn)]; exact q
end
def Rd (H : Hp) (a : Addr) (u : HO) : Prop := H a = some u ∨ ∃ o, H a = some (.frz o u)
theorem Rd.ok {P : Program} {w : World} {H : Hp} {h : Heap} {a : Addr} {u : HO} (r : Rd H a u) (x : HOk P w H h) : ObjOk P w H h a u := by
  rcases r with r | ⟨o, r⟩
  · exact x a u r
  · obtain ⟨_, q⟩ := x a _ r
    exact q
def Mut : Option HO → Prop
  | some (.lst _) => True
  | some (.dK _) => True
  | some (.dT _) => True
  | some (.set _ _) => True
  | some (.ins _ _ _) => True
  | some (.ext _) => True
  | _ => False
section
variable {P : Program} {w : World} {H : Hp} {h h' : Heap} {x e : Addr} {o' : HO}
theorem HOk.write (ok : HOk P w H h) (mu : Mut (H x)) (he : e = x ∨ H e = some (.own x)) (k : ∀ b u, b ≠ e → h.get? b = some u → h'.get? b = some u) (heo : ∃ u, h'.get? e = some u)
    (new : ObjOk P w (upd H x o') h' x o') : HOk P w (upd H x o') h' := fun b u q => by
  have nown : ∀ c y, H c = some (.own y) → c ≠ x := fun c y r z => by subst z; rw [r] at mu; exact mu
  have ntup : ∀ c xs, H c = some (.tup xs) → c ≠ x := fun c xs r z => by subst z; rw [r] at mu; exact mu
  by_cases hb : b = x
  · subst hb; rw [upd_same] at q; cases q; exact new
  · rw [upd_ne hb] at q
    by_cases hbe : b = e
    · have q' : H b = some (.own x) := by
        rcases he with z | z
        · exact absurd (hbe.trans z) hb
        · rw [hbe]; exact z
      rw [q] at q'; cases q'
      obtain ⟨v, hv⟩ := heo
      exact ⟨v, by rw [hbe]; exact hv⟩
    · refine (ok b u q).stay (fun c v hc r => k c v ?_ r) (fun c r => by rw [upd_ne (nown c b r)]; exact r) fun c xs r => by rw [upd_ne (ntup c xs r)]; exact r
      rcases hc with rfl | hc
      · exact hbe
      · rintro rfl
        rcases he with z | z
        · exact nown c b hc z
        · rw [hc] at z; cases z; exact hb rfl
end
structure Un (fs ex : List Addr) (H H' : Hp) (h h' : Heap) : Prop where
  keep : ∀ b o, h.get? b = some o → H b = none → b ∉ fs → b ∉ ex → h'.get? b = some o
  slot : ∀ b o, h.get? b = some o → H b = none → b ∈ fs → b ∉ ex → ∃ sl, h'.get? b = some { o with slots := sl }
  free : ∀ b o, h.get? b = some o → H b = none → b ∉ ex → H' b = none
  there : ∀ b o, h.get? b = some o → b ∉ ex → ∃ o', h'.get? b = some o'
  tups : ∀ b xs, H b = some (.tup xs) → H' b = some (.tup xs)
  frzs : ∀ b o u, H b = some (.frz o u) → H' b = some (.frz o u)
  tbls : ∀ b ps, H b = some (.tbl ps) → ∃ more, H' b = some (.tbl (ps ++ more))
section
variable {fs fs' ex ex' : List Addr} {H H1 H2 : Hp} {h h1 h2 h' : Heap} {a x e : Addr} {o : HO}
theorem Un.any (u : Un fs ex H H1 h h1) {b : Addr} {ob : Obj} (q : h.get? b = some ob) (n : H b = none) (hx : b ∉ ex) : ∃ sl, h1.get? b = some { ob with slots := sl } := by
  by_cases hb : b ∈ fs
  · exact u.slot b ob q n hb hx
  · exact ⟨ob.slots, u.keep b ob q n hb hx⟩
theorem Un.kept (k : ∀ b u, h.get? b = some u → h'.get? b = some u) : Un fs ex H H h h' :=
  ⟨fun b ob q _ _ _ => k b ob q, fun b ob q _ _ _ => ⟨ob.slots, k b ob q⟩, fun _ _ _ n _ => n, fun b ob q _ => ⟨ob, k b ob q⟩, fun _ _ q => q, fun _ _ _ q => q, fun _ ps q => ⟨#[], by rw [q]; simp⟩⟩
theorem Un.refl : Un fs ex H H h h := Un.kept fun _ _ q => q
theorem Un.laid (k : ∀ b u, h.get? b = some u → h'.get? b = some u) (hp : h.objs.size ≤ a) (hn : H a = none) : Un fs ex H (upd H a o) h h' where
  keep := fun b u q _ _ _ => k b u q
  slot := fun b u q _ _ _ => ⟨u.slots, k b u q⟩
  free := fun b u q n _ => by rw [upd_ne (Nat.ne_of_lt (Nat.lt_of_lt_of_le (Heap.lt_size q) hp))]; exact n
  there := fun b u q _ => ⟨u, k b u q⟩
  tups := fun b xs q => by rw [upd_ne (ne_of_none q hn)]; exact q
  frzs := fun b u xs q => by rw [upd_ne (ne_of_none q hn)]; exact q
  tbls := fun b ps q => ⟨#[], by rw [upd_ne (ne_of_none q hn), q]; simp⟩
theorem Un.write (mu : Mut (H x)) (he : e = x ∨ H e = some (.own x)) (k : ∀ b u, b ≠ e → h.get? b = some u → h'.get? b = some u) (heo : ∃ u, h'.get? e = some u) : Un fs ex H (upd H x o) h h' := by
  have hx : ∀ b, H b = none → b ≠ x := fun b n z => by subst z; rw [n] at mu; exact mu
  have hb : ∀ b, H b = none → b ≠ e := fun b n z => by
    subst z
    rcases he with r | r
    · exact hx b n r
    · rw [n] at r; cases r
  have hm : ∀ b u, H b = some u → ¬ Mut (some u) → b ≠ x := fun b u q nm z => by subst z; rw [q] at mu; exact nm mu
  refine ⟨fun b u q n _ _ => k b u (hb b n) q, fun b u q n _ _ => ⟨u.slots, k b u (hb b n) q⟩, fun b u q n _ => by rw [upd_ne (hx b n)]; exact n, fun b u q _ => ?_,
    fun b xs q => by rw [upd_ne (hm b _ q fun z => z)]; exact q, fun b u xs q => by rw [upd_ne (hm b _ q fun z => z)]; exact q, fun b ps q => ⟨#[], by rw [upd_ne (hm b _ q fun z => z), q]; simp⟩⟩
  by_cases hbe : b = e
  · subst hbe; exact heo
  · exact ⟨u, k b u hbe q⟩
end
def trk (h : Heap) (H : Hp) : List Addr := (List.range h.objs.size).filter fun a => (H a).isSome
def hidT (h : Heap) (H : Hp) : Heap := PySem.W.hideAll h (trk h H)
theorem hidT_size (h : Heap) (H : Hp) : (hidT h H).objs.size = h.objs.size := PySem.W.hideAll_size _ _
theorem hidT_get {h : Heap} {H : Hp} {b : Addr} {o : Obj} (e : h.get? b = some o) (n : H b = none) : (hidT h H).get? b = some o :=
  PySem.W.hideAll_get _ e fun hm => by
    have q : (H b).isSome = true := (List.mem_filter.mp hm).2
    rw [n] at q; simp at q
theorem of_hidT {h : Heap} {H : Hp} {b : Addr} {o : Obj} (e : (hidT h H).get? b = some o) : h.get? b = some o ∧ H b = none := by
  have e' : h.get? b = some o := PySem.W.of_hideAll (trk h H) e
  refine ⟨e', ?_⟩
  cases q : H b with
  | none => rfl
  | some x =>
    have hm : b ∈ trk h H := List.mem_filter.mpr ⟨List.mem_range.mpr (Heap.lt_size e'), by simp [q]⟩
    have z : (hidT h H).get? b = none := PySem.W.hideAll_none (trk h H) hm
    rw [z] at e; cases e
end L2
namespace L2
open PySem PySem.Spec PyProof.Rows
structure Mod (K : Fg) (mg : Str → Option Value) (base : Heap) : Prop where
  kin : K.In base
  glob : base.Ns mainGlobals mg
  blt : ∃ mb, base.Ns builtinsNs mb ∧ ∀ x : Str, x ≠ "__name__" → mb x = bootBuiltins x
  nolimit : base.NoLimit
structure Cx where
  prog : Program
  w : World
  K : Fg
  mg : Str → Option Value
  base : Heap
  A : Around
  N : List Str
  s₀ : Shared
  H₀ : Hp
  env : Env
  outer : List Env
  stack : List Env
  ex : List Addr
  fn : Str → Bool
  calm : Bool
  pn : Pn
  xe : Value → Shared → Prop
def frs (l : List Env) : List Addr := l.filterMap (·.frame)
abbrev Cx.fs (X : Cx) : List Addr := frs X.outer
def Vis (sc : Scope) (x : Str) : Prop := sc.names.lookup x = some .local ∨ sc.names.lookup x = some .cell ∨ sc.names.lookup x = some .free
def Loc (sc : Scope) (x : Str) : Prop := sc.names.lookup x = some .local ∨ sc.names.lookup x = some .cell
def Look (env : Env) (h : Heap) (m : Str → Option Value) (x : Str) (u : Value) : Prop :=
  (env.kindOf x = some .local ∧ m x = some u) ∨ ((env.kindOf x = some .cell ∨ env.kindOf x = some .free) ∧ ∃ c, env.cells.lookup x = some c ∧ h.IsCell c (some u))
structure Cx.Ok (X : Cx) : Prop where
  mod : Mod X.K X.mg X.base
  kind : X.env.scope.kind = .function
  glob : X.env.globals = mainGlobals
  blt : X.env.builtins = builtinsNs
  above : X.s₀.heap.objs.size ≤ X.env.locals
  inj : ∀ x y c, X.env.cells.lookup x = some c → X.env.cells.lookup y = some c → x = y
  has : ∀ x, (X.env.kindOf x = some .cell ∨ X.env.kindOf x = some .free) → ∃ c, X.env.cells.lookup x = some c
  cab : ∀ x c, X.fn x = true → X.env.cells.lookup x = some c → X.s₀.heap.objs.size ≤ c
  hd : X.calm = true → X.A.handled = none
  frames : X.A.frames = some X.stack
  stk : X.stack = X.outer ∨ (X.stack = X.env :: X.outer ∧ X.env.frame = some X.env.locals)
  exf : ∀ b ∈ X.ex, b ≠ X.env.locals ∧ ∀ x c, X.env.cells.lookup x = some c → c ≠ b
  bs : ∀ b o, X.base.get? b = some o → X.s₀.heap.get? b = some o ∧ X.H₀ b = none
  bsz : X.base.objs.size ≤ X.s₀.heap.objs.size
  noex : ∀ b o, X.base.get? b = some o → b ∉ X.ex
  exfs : ∀ b ∈ X.ex, b ∉ X.fs
  funs : X.s₀.heap.FunFrames X.base X.outer
  frf : ∀ b ∈ X.fs, X.H₀ b = none
structure Inv (X : Cx) (pins : Pn) (σ : List (Option V)) (H : Hp) (s : Shared) : Prop where
  ok : X.Ok
  os : s.os = X.s₀.os
  bare : AllBare s.gens
  base : Un X.fs X.ex X.H₀ H X.s₀.heap s.heap
  loc : ∃ m, s.heap.Ns X.env.locals m ∧ ∀ (i : Nat) (x : Str) (v : V), X.N[i]? = some x → σ[i]? = some (some v) → Vis X.env.scope x → ∃ u, RelV v u ∧ Look X.env s.heap m x u
  cell : ∀ x c, X.env.cells.lookup x = some c → ∃ v, s.heap.IsCell c v
  free : H X.env.locals = none
  freeC : ∀ x c, X.env.cells.lookup x = some c → H c = none
  pin : ∀ p ∈ X.pn ++ pins, s.heap.get? p.1 = some p.2 ∧ H p.1 = none ∧ p.1 ≠ X.env.locals ∧ p.1 ∉ X.fs ∧ ∀ v, p.2.data ≠ .cell v
  hok : HOk X.prog X.w H s.heap
  len : σ.length = X.N.length
section
variable {X : Cx} {pins : Pn} {σ : List (Option V)} {H H' : Hp} {s : Shared} {h' : Heap}
theorem Cx.Ok.nofr (ok : X.Ok) {b : Addr} {o : Obj} (e : X.base.get? b = some o) : b ∉ X.fs := fun hb => by
  have := (ok.funs.mem hb).1
  rw [e] at this; cases this
theorem Inv.bs (I : Inv X pins σ H s) : ∀ b o, X.base.get? b = some o → s.heap.get? b = some o ∧ H b = none := fun b o e =>
  ⟨I.base.keep b o (I.ok.bs b o e).1 (I.ok.bs b o e).2 (I.ok.nofr e) (I.ok.noex b o e), I.base.free b o (I.ok.bs b o e).1 (I.ok.bs b o e).2 (I.ok.noex b o e)⟩
theorem Inv.bk (I : Inv X pins σ H s) : ∀ b o, X.base.get? b = some o → s.heap.get? b = some o := fun b o e => (I.bs b o e).1
theorem Inv.mod (I : Inv X pins σ H s) : Mod X.K X.mg X.base := I.ok.mod
theorem Inv.kIn (I : Inv X pins σ H s) : X.K.In s.heap := I.ok.mod.kin.keeps I.bk
theorem Inv.lt (I : Inv X pins σ H s) : X.env.locals < s.heap.objs.size := let ⟨_, hn, _⟩ := I.loc; hn.lt
theorem Inv.sz (I : Inv X pins σ H s) : X.s₀.heap.objs.size ≤ s.heap.objs.size := Nat.le_trans I.ok.above (Nat.le_of_lt I.lt)
theorem Inv.nofs (I : Inv X pins σ H s) {a : Addr} (h : s.heap.objs.size ≤ a) : a ∉ X.fs := fun hb => by
  obtain ⟨_, o, ho, _⟩ := I.ok.funs.mem hb
  exact absurd (Nat.lt_of_lt_of_le (Heap.lt_size ho) (Nat.le_trans I.sz h)) (Nat.lt_irrefl _)
theorem Inv.cne (I : Inv X pins σ H s) : ∀ x c, X.env.cells.lookup x = some c → c ≠ X.env.locals := fun x c e z => by
  obtain ⟨v, o, ho, hd⟩ := I.cell x c e
  obtain ⟨m, ⟨o', es, ep, ho', hd', _⟩, _⟩ := I.loc
  rw [z, ho'] at ho; cases ho; rw [hd'] at hd; cases hd
theorem Inv.funs (I : Inv X pins σ H s) : s.heap.FunFrames X.base X.outer := by
  have all : ∀ (l : List Env), (∀ b ∈ frs l, b ∈ X.fs) → X.s₀.heap.FunFrames X.base l → s.heap.FunFrames X.base l := by
    intro l
    induction l with
    | nil => intro _ _; trivial
    | cons env r ih =>
      intro hs hl
      obtain ⟨hk, ⟨L, o, hf, hn, ho, hd⟩, hr⟩ := hl
      have hL : L ∈ X.fs := hs L (by unfold frs; rw [List.filterMap_cons, hf]; exact List.mem_cons_self)
      obtain ⟨sl, e⟩ := I.base.slot L o ho (I.ok.frf L hL) hL fun z => I.ok.exfs L z hL
      exact ⟨hk, ⟨L, _, hf, hn, e, hd⟩, ih (fun b hb => hs b (by unfold frs; rw [List.filterMap_cons, hf]; exact List.mem_cons_of_mem _ hb)) hr⟩
  exact all X.outer (fun _ hb => hb) I.ok.funs
theorem Inv.stack (I : Inv X pins σ H s) : s.heap.FunFrames X.base X.stack := by
  rcases I.ok.stk with e | ⟨e, hf⟩
  · rw [e]; exact I.funs
  · rw [e]
    obtain ⟨m, hn, _⟩ := I.loc
    refine .cons (by rw [I.ok.kind]; decide) hf hn ?_ I.funs
    exact Heap.get?_none_of_le (Nat.le_trans I.ok.bsz I.ok.above)
theorem Inv.stkSub (I : Inv X pins σ H s) : ∀ b ∈ frs X.stack, b ∈ X.env.locals :: X.fs := fun b hb => by
  rcases I.ok.stk with e | ⟨e, hf⟩
  · rw [e] at hb; exact List.mem_cons_of_mem _ hb
  · rw [e] at hb
    unfold frs at hb
    rw [List.filterMap_cons, hf] at hb
    exact hb
theorem Inv.stkFree (I : Inv X pins σ H s) : ∀ b ∈ frs X.stack, H b = none := fun b hb => by
  rcases List.mem_cons.mp (I.stkSub b hb) with e | hb
  · rw [e]; exact I.free
  · obtain ⟨_, o, ho, _⟩ := I.ok.funs.mem hb
    exact I.base.free b o ho (I.ok.frf b hb) fun z => I.ok.exfs b z hb
theorem Inv.step {g' : Array GenState} {t' : Nat} {d' : Drawn} {ch : List Addr} (I : Inv X pins σ H s)
    (hch : ∀ b ∈ ch, (b ∈ X.ex ∨ X.s₀.heap.objs.size ≤ b) ∧ b ≠ X.env.locals ∧ (∀ x c, X.env.cells.lookup x = some c → c ≠ b) ∧ ∀ p ∈ X.pn ++ pins, p.1 ≠ b)
    (keep : ∀ b o, b ≠ X.env.locals → b ∉ X.fs → b ∉ ch → s.heap.get? b = some o → H b = none → h'.get? b = some o)
    (slot : ∀ b o, b ≠ X.env.locals → b ∈ X.fs → b ∉ ch → s.heap.get? b = some o → H b = none → ∃ sl, h'.get? b = some { o with slots := sl }) (free : ∀ b o, b ∉ ch → s.heap.get? b = some o → H b = none → H' b = none)
    (there : ∀ b o, b ∉ ch → s.heap.get? b = some o → ∃ o', h'.get? b = some o')
    (tups : ∀ b xs, H b = some (.tup xs) → H' b = some (.tup xs)) (frzs : ∀ b o u, H b = some (.frz o u) → H' b = some (.frz o u)) (tbls : ∀ b ps, H b = some (.tbl ps) → ∃ more, H' b = some (.tbl (ps ++ more)))
    (ns : ∀ m, s.heap.Ns X.env.locals m → h'.Ns X.env.locals m) (hok : HOk X.prog X.w H' h') (hg : AllBare g') :
    Inv X pins σ H' { s with heap := h', gens := g', drawn := d', toks := t' } := by
  have neL : ∀ b o, X.s₀.heap.get? b = some o → b ≠ X.env.locals := fun b o e => Nat.ne_of_lt (Nat.lt_of_lt_of_le (Heap.lt_size e) I.ok.above)
  have neC : ∀ b o, X.s₀.heap.get? b = some o → b ∉ X.ex → b ∉ ch := fun b o e hx hb => by
    rcases (hch b hb).1 with z | z
    · exact hx z
    · exact absurd (Nat.lt_of_lt_of_le (Heap.lt_size e) z) (Nat.lt_irrefl _)
  have cellK : ∀ x c, X.env.cells.lookup x = some c → ∀ v, s.heap.IsCell c v → h'.IsCell c v := fun x c e v ⟨o, ho, hd⟩ => by
    have nch : c ∉ ch := fun z => (hch c z).2.2.1 x c e rfl
    by_cases hc : c ∈ X.fs
    · obtain ⟨sl, q⟩ := slot c o (I.cne x c e) hc nch ho (I.freeC x c e)
      exact ⟨_, q, hd⟩
    · exact ⟨o, keep c o (I.cne x c e) hc nch ho (I.freeC x c e), hd⟩
  refine ⟨I.ok, I.os, hg, ⟨fun b o e n hb hx => ?_, fun b o e n hb hx => ?_, fun b o e n hx => ?_, fun b o e hx => ?_, fun b xs e => tups b xs (I.base.tups b xs e), fun b o xs e => frzs b o xs (I.base.frzs b o xs e), fun b ps e => ?_⟩, ?_, fun x c e => ?_, ?_, fun x c e => ?_, fun p hp => ?_, hok, I.len⟩
  · exact keep b o (neL b o e) hb (neC b o e hx) (I.base.keep b o e n hb hx) (I.base.free b o e n hx)
  · obtain ⟨sl, e1⟩ := I.base.slot b o e n hb hx
    obtain ⟨sl', e2⟩ := slot b _ (neL b o e) hb (neC b o e hx) e1 (I.base.free b o e n hx)
    exact ⟨sl', e2⟩
  · obtain ⟨o', e1⟩ := I.base.there b o e hx
    exact free b o' (neC b o e hx) e1 (I.base.free b o e n hx)
  · obtain ⟨o', e1⟩ := I.base.there b o e hx
    exact there b o' (neC b o e hx) e1
  · obtain ⟨m1, e1⟩ := I.base.tbls b ps e
    obtain ⟨m2, e2⟩ := tbls b _ e1
    exact ⟨m1 ++ m2, by rw [e2, Array.append_assoc]⟩
  · obtain ⟨m, hn, hl⟩ := I.loc
    refine ⟨m, ns m hn, fun i x v e1 e2 e3 => ?_⟩
    obtain ⟨u, r, l⟩ := hl i x v e1 e2 e3
    refine ⟨u, r, ?_⟩
    rcases l with l | ⟨k, c, e, z⟩
    · exact .inl l
    · exact .inr ⟨k, c, e, cellK x c e _ z⟩
  · obtain ⟨v, z⟩ := I.cell x c e
    exact ⟨v, cellK x c e v z⟩
  · obtain ⟨m, ⟨o, _, _, ho, _⟩, _⟩ := I.loc
    exact free _ o (fun z => (hch _ z).2.1 rfl) ho I.free
  · obtain ⟨v, o, ho, hd⟩ := I.cell x c e
    exact free c o (fun z => (hch c z).2.2.1 x c e rfl) ho (I.freeC x c e)
  · obtain ⟨e, n, ne, nf, d⟩ := I.pin p hp
    have nch : p.1 ∉ ch := fun z => (hch p.1 z).2.2.2 p hp rfl
    exact ⟨keep p.1 p.2 ne nf nch e n, free p.1 p.2 nch e n, ne, nf, d⟩
theorem Inv.un {t' : Nat} (I : Inv X pins σ H s) (u : Un X.fs [] H H' s.heap h') (hok : HOk X.prog X.w H' h') : Inv X pins σ H' { s with heap := h', toks := t' } := by
  obtain ⟨m, ⟨o, es, ep, ho, r⟩, _⟩ := id I.loc
  obtain ⟨sl, hL⟩ := u.any ho I.free (by simp)
  exact I.step (g' := s.gens) (d' := s.drawn) (ch := []) (fun _ z => nomatch z) (fun b o _ hb _ e n => u.keep b o e n hb (by simp)) (fun b o _ hb _ e n => u.slot b o e n hb (by simp)) (fun b o _ e n => u.free b o e n (by simp)) (fun b o _ e => u.there b o e (by simp)) u.tups u.frzs u.tbls (fun m' hm => by
    obtain ⟨o', es', ep', ho', r'⟩ := hm
    rw [ho] at ho'; cases ho'
    exact ⟨_, es', ep', hL, r'⟩) hok I.bare
theorem Inv.call {g' : Array GenState} {t' : Nat} {d' : Drawn} {ch : List Addr} (I : Inv X pins σ H s) (u : Un (frs X.stack) ch H H' s.heap h') (hok : HOk X.prog X.w H' h') (hg : AllBare g')
    (hch : ∀ b ∈ ch, (b ∈ X.ex ∨ X.s₀.heap.objs.size ≤ b) ∧ b ≠ X.env.locals ∧ (∀ x c, X.env.cells.lookup x = some c → c ≠ b) ∧ ∀ p ∈ X.pn ++ pins, p.1 ≠ b) :
    Inv X pins σ H' { s with heap := h', gens := g', drawn := d', toks := t' } := by
  obtain ⟨m, ⟨o, es, ep, ho, r⟩, _⟩ := id I.loc
  obtain ⟨sl, hL⟩ := u.any ho I.free fun z => (hch _ z).2.1 rfl
  exact I.step (ch := ch) hch (fun b o hL hb hc e n => u.keep b o e n (fun z => (List.mem_cons.mp (I.stkSub b z)).elim hL hb) hc) (fun b o _ _ hc e n => u.any e n hc) (fun b o hc e n => u.free b o e n hc) (fun b o hc e => u.there b o e hc) u.tups u.frzs u.tbls (fun m' hm => by
    obtain ⟨o', es', ep', ho', r'⟩ := hm
    rw [ho] at ho'; cases ho'
    exact ⟨_, es', ep', hL, r'⟩) hok hg
theorem Inv.turned {t' : Nat} {it : Addr} (I : Inv X pins σ H s) (k : ∀ b o, b ≠ it → s.heap.get? b = some o → h'.get? b = some o) (hn : H it = none) (hL : it ≠ X.env.locals)
    (h1 : it ∈ X.ex ∨ X.s₀.heap.objs.size ≤ it) (h2 : ∀ x c, X.env.cells.lookup x = some c → c ≠ it) (h3 : ∀ p ∈ X.pn ++ pins, p.1 ≠ it) : Inv X pins σ H { s with heap := h', toks := t' } := by
  have nit : ∀ b u, H b = some u → b ≠ it := fun b u e z => by rw [z, hn] at e; cases e
  refine I.step (g' := s.gens) (d' := s.drawn) (ch := [it]) (fun b hb => ?_) (fun b o _ _ hc e _ => k b o (fun z => hc (by simp [z])) e) (fun b o _ _ hc e _ => ⟨o.slots, k b o (fun z => hc (by simp [z])) e⟩) (fun _ _ _ _ n => n)
    (fun b o hc e => ⟨o, k b o (fun z => hc (by simp [z])) e⟩) (fun _ _ e => e) (fun _ _ _ e => e) (fun b ps e => ⟨#[], by rw [e]; simp⟩) (fun m hm => ?_) (fun b u e => ?_) I.bare
  · have e : b = it := by simpa using hb
    subst e
    exact ⟨h1, hL, h2, h3⟩
  · obtain ⟨o, es, ep, ho, r⟩ := hm
    exact ⟨o, es, ep, k _ o (Ne.symm hL) ho, r⟩
  · refine (I.hok b u e).stay (fun c v hc q => k c v ?_ q) (fun _ q => q) fun _ _ q => q
    rcases hc with z | z
    · rw [z]; exact nit b u e
    · exact nit c _ z
theorem Inv.tok (I : Inv X pins σ H s) (t : Nat) : Inv X pins σ H { s with toks := t } := I.un (h' := s.heap) (t' := t) Un.refl I.hok
theorem Inv.kept {t' : Nat} (I : Inv X pins σ H s) (k : ∀ b u, s.heap.get? b = some u → h'.get? b = some u) : Inv X pins σ H { s with heap := h', toks := t' } := I.un (Un.kept k) (I.hok.kept k)
theorem Inv.laid {a : Addr} {o : HO} {t' : Nat} (I : Inv X pins σ H s) (k : ∀ b u, s.heap.get? b = some u → h'.get? b = some u) (hp : s.heap.objs.size ≤ a) (new : ObjOk X.prog X.w (upd H a o) h' a o) :
    Inv X pins σ (upd H a o) { s with heap := h', toks := t' } := I.un (Un.laid k hp (I.hok.fresh hp)) (I.hok.laid k hp new)
theorem Inv.write {x e : Addr} {o : HO} {t' : Nat} (I : Inv X pins σ H s) (mu : Mut (H x)) (he : e = x ∨ H e = some (.own x)) (k : ∀ b u, b ≠ e → s.heap.get? b = some u → h'.get? b = some u) (heo : ∃ u, h'.get? e = some u)
    (new : ObjOk X.prog X.w (upd H x o) h' x o) : Inv X pins σ (upd H x o) { s with heap := h', toks := t' } := I.un (Un.write mu he k heo) (I.hok.write mu he k heo new)
theorem Inv.pins_of {pins' : Pn} (I : Inv X pins σ H s) (h : ∀ p ∈ pins', s.heap.get? p.1 = some p.2 ∧ H p.1 = none ∧ p.1 ≠ X.env.locals ∧ p.1 ∉ X.fs ∧ ∀ v, p.2.data ≠ .cell v) : Inv X pins' σ H s :=
  ⟨I.ok, I.os, I.bare, I.base, I.loc, I.cell, I.free, I.freeC, fun p hp => (List.mem_append.mp hp).elim (fun z => I.pin p (List.mem_append_left _ z)) (h p), I.hok, I.len⟩
theorem nodup_ix {N : List Str} (hN : N.Nodup) {i j : Nat} {x : Str} (a : N[i]? = some x) (b : N[j]? = some x) : i = j := by
  obtain ⟨h1, e1⟩ := List.getElem?_eq_some_iff.mp a
  obtain ⟨h2, e2⟩ := List.getElem?_eq_some_iff.mp b
  exact (List.getElem_inj hN).mp (e1.trans e2.symm)
theorem store_ok2 {M : Model} {A : Around} {E : Value → Shared → Prop} {i : Nat} {x : Str} {v : V} {u : Value} {Q : Unit → Shared → Prop} (I : Inv X pins σ H s) (hN : X.N.Nodup) (hi : X.N[i]? = some x) (hx : Loc X.env.scope x) (r : RelV v u)
    (h : ∀ s', Inv X pins (σ.set i (some v)) H s' → (∃ a, Heap.SameBut a s.heap s'.heap ∧ (a = X.env.locals ∨ X.env.cells.lookup x = some a)) → Q () s') (hf : X.fn x = true ∨ X.env.scope.names.lookup x = some .local := by first | exact .inl rfl | exact .inr rfl | assumption) : wpAny M A (storeName X.env x u) Q E s := by
  obtain ⟨m, hn, hl⟩ := id I.loc
  have hcls : (X.env.scope.kind == .class || (X.env.scope.kind == .module && X.env.locals != X.env.globals)) = false := by rw [I.ok.kind]; rfl
  have hiσ : i < σ.length := by rw [I.len]; exact (List.getElem?_eq_some_iff.mp hi).1
  have cne := I.cne
  have tracked : ∀ {a : Addr} {h' : Heap}, (∃ o, s.heap.get? a = some o ∧ H a = none) → Heap.SameBut a s.heap h' → HOk X.prog X.w H h' := fun {a h'} ha hs b ob e => by
    obtain ⟨_, _, hfree⟩ := ha
    refine (I.hok b ob e).stay (fun c w' hc q => (hs.2 c ?_).trans q) (fun _ q => q) fun _ _ q => q
    rintro rfl
    rcases hc with rfl | hc
    · rw [hfree] at e; cases e
    · rw [hfree] at hc; cases hc
  rcases hx with hk | hk
  · refine wpAny_storeName_local hk hn (fun h' hn' hs => ?_) hcls
    obtain ⟨oL, _, _, hoL, _⟩ := id hn
    refine h _ ⟨I.ok, I.os, I.bare, ⟨fun b o e n hb hx => ?_, fun b o e n hb hx => ?_, I.base.free, fun b o e hx => ?_, I.base.tups, I.base.frzs, I.base.tbls⟩, ⟨_, hn', fun j y v' e1 e2 e3 => ?_⟩, fun y c e => ?_, I.free, I.freeC, fun p hp => ?_, tracked ⟨oL, hoL, I.free⟩ hs, by simpa using I.len⟩ ⟨_, hs, .inl rfl⟩
    · exact (hs.2 b (Nat.ne_of_lt (Nat.lt_of_lt_of_le (Heap.lt_size e) I.ok.above))).trans (I.base.keep b o e n hb hx)
    · obtain ⟨sl, e1⟩ := I.base.slot b o e n hb hx
      exact ⟨sl, (hs.2 b (Nat.ne_of_lt (Nat.lt_of_lt_of_le (Heap.lt_size e) I.ok.above))).trans e1⟩
    · obtain ⟨o', e1⟩ := I.base.there b o e hx
      exact ⟨o', (hs.2 b (Nat.ne_of_lt (Nat.lt_of_lt_of_le (Heap.lt_size e) I.ok.above))).trans e1⟩
    · by_cases hj : j = i
      · subst hj
        rw [hi] at e1; cases e1
        rw [List.getElem?_set_self hiσ] at e2
        cases e2
        exact ⟨u, r, .inl ⟨hk, by simp⟩⟩
      · rw [List.getElem?_set_ne (Ne.symm hj)] at e2
        obtain ⟨u', r', q⟩ := hl j y v' e1 e2 e3
        refine ⟨u', r', ?_⟩
        rcases q with ⟨k, e⟩ | ⟨k, c, e, z⟩
        · refine .inl ⟨k, ?_⟩
          have : y ≠ x := fun e => hj (nodup_ix hN e1 (e ▸ hi))
          simp [this, e]
        · exact .inr ⟨k, c, e, z.sameBut hs (cne y c e)⟩
    · obtain ⟨w', z⟩ := I.cell y c e
      exact ⟨w', z.sameBut hs (cne y c e)⟩
    · obtain ⟨e, n, ne, nf, d⟩ := I.pin p hp
      exact ⟨(hs.2 p.1 ne).trans e, n, ne, nf, d⟩
  · have hfn : X.fn x = true := by
      rcases hf with z | z
      · exact z
      · rw [z] at hk; cases hk
    obtain ⟨c, hc⟩ := I.ok.has x (.inl hk)
    obtain ⟨w', z⟩ := I.cell x c hc
    refine wpAny_storeName_cell I.ok.kind hk hc z (fun h' hc' hs => ?_)
    obtain ⟨oc, hoc, hocd⟩ := id z
    refine h { s with heap := h' } ⟨I.ok, I.os, I.bare, ⟨fun b o e n hb hx => ?_, fun b o e n hb hx => ?_, I.base.free, fun b o e hx => ?_, I.base.tups, I.base.frzs, I.base.tbls⟩, ⟨m, hn.sameBut hs (Ne.symm (cne x c hc)), fun j y v' e1 e2 e3 => ?_⟩, fun y c' e => ?_, I.free, I.freeC, fun p hp => ?_, tracked ⟨oc, hoc, I.freeC x c hc⟩ hs, by simpa using I.len⟩ ⟨c, hs, .inr hc⟩
    · exact (hs.2 b (Nat.ne_of_lt (Nat.lt_of_lt_of_le (Heap.lt_size e) (I.ok.cab x c hfn hc)))).trans (I.base.keep b o e n hb hx)
    · obtain ⟨sl, e1⟩ := I.base.slot b o e n hb hx
      exact ⟨sl, (hs.2 b (Nat.ne_of_lt (Nat.lt_of_lt_of_le (Heap.lt_size e) (I.ok.cab x c hfn hc)))).trans e1⟩
    · obtain ⟨o', e1⟩ := I.base.there b o e hx
      exact ⟨o', (hs.2 b (Nat.ne_of_lt (Nat.lt_of_lt_of_le (Heap.lt_size e) (I.ok.cab x c hfn hc)))).trans e1⟩
    · by_cases hj : j = i
      · subst hj
        rw [hi] at e1; cases e1
        rw [List.getElem?_set_self hiσ] at e2
        cases e2
        exact ⟨u, r, .inr ⟨.inl hk, c, hc, hc'⟩⟩
      · rw [List.getElem?_set_ne (Ne.symm hj)] at e2
        obtain ⟨u', r', q⟩ := hl j y v' e1 e2 e3
        refine ⟨u', r', ?_⟩
        rcases q with q | ⟨k, c', e, z'⟩
        · exact .inl q
        · refine .inr ⟨k, c', e, z'.sameBut hs ?_⟩
          rintro rfl
          exact hj (nodup_ix hN e1 (I.ok.inj _ _ _ e hc ▸ hi))
    · by_cases hcc : c' = c
      · subst hcc; exact ⟨_, hc'⟩
      · obtain ⟨w2, z2⟩ := I.cell y c' e
        exact ⟨w2, z2.sameBut hs hcc⟩
    · obtain ⟨e, n, ne, nf, d⟩ := I.pin p hp
      refine ⟨(hs.2 p.1 ?_).trans e, n, ne, nf, d⟩
      intro q
      rw [q, hoc] at e
      have q' : oc = p.2 := Option.some.inj e
      exact d w' (by rw [← q']; exact hocd)
theorem store_ok {M : Model} {A : Around} {E : Value → Shared → Prop} {i : Nat} {x : Str} {v : V} {u : Value} {Q : Unit → Shared → Prop} (I : Inv X pins σ H s) (hN : X.N.Nodup) (hi : X.N[i]? = some x) (hx : Loc X.env.scope x) (r : RelV v u)
    (h : ∀ s', Inv X pins (σ.set i (some v)) H s' → Q () s') (hf : X.fn x = true ∨ X.env.scope.names.lookup x = some .local := by first | exact .inl rfl | exact .inr rfl | assumption) : wpAny M A (storeName X.env x u) Q E s :=
  store_ok2 I hN hi hx r (fun s' I' _ => h s' I') hf
end
abbrev XK := Value → Option Addr → Hp → Prop
abbrev St := List (Option V)
abbrev VK := V → Hp → Prop
abbrev TE := St → Hp → VK → Prop
abbrev TT := St → Hp → (Bool → Hp → Prop) → Prop
abbrev TA := St → Hp → (List V → Hp → Prop) → Prop
structure Ends where
  nx : St → Hp → Prop
  rt : VK
  bk : St → Hp → Prop := fun _ _ => False
  ct : St → Hp → Prop := fun _ _ => False
abbrev TS := Ends → St → Hp → Prop
def EP (X : Cx) (pins : Pn) (σ : St) (Q : VK) (u : Value) (s' : Shared) : Prop := ∃ v H', Inv X pins σ H' s' ∧ RelV v u ∧ Q v H'
def TP (X : Cx) (pins : Pn) (σ : St) (Q : Bool → Hp → Prop) (b : Bool) (s' : Shared) : Prop := ∃ H', Inv X pins σ H' s' ∧ Q b H'
def AP (X : Cx) (pins : Pn) (σ : St) (Q : List V → Hp → Prop) (us : List Value) (s' : Shared) : Prop := ∃ vs H', Inv X pins σ H' s' ∧ Vals vs us ∧ Q vs H'
def SP (X : Cx) (pins : Pn) (D : Ends) (f : Flow) (s' : Shared) : Prop :=
  match f with
  | .next => ∃ σ' H', Inv X pins σ' H' s' ∧ D.nx σ' H'
  | .brk => ∃ σ' H', Inv X pins σ' H' s' ∧ D.bk σ' H'
  | .cont => ∃ σ' H', Inv X pins σ' H' s' ∧ D.ct σ' H'
  | .ret u => ∃ v σ' H', Inv X pins σ' H' s' ∧ RelV v u ∧ D.rt v H'
def PE (X : Cx) (e : Expr) (t : TE) : Prop :=
  ∀ (pins : Pn) (s : Shared) (σ : St) (H : Hp) (Q : VK), Inv X pins σ H s → t σ H Q → wpAny (model X.prog X.w) X.A (eval e X.env) (EP X pins σ Q) X.xe s
def PT (X : Cx) (e : Expr) (t : TT) : Prop :=
  ∀ (pins : Pn) (s : Shared) (σ : St) (H : Hp) (Q : Bool → Hp → Prop), Inv X pins σ H s → t σ H Q → wpAny (model X.prog X.w) X.A (isTrue e X.env (eval e X.env)) (TP X pins σ Q) X.xe s
def PW (X : Cx) (e : Expr) (t : TT) : Prop :=
  ∀ (whole : Sem Value) (pins : Pn) (s : Shared) (σ : St) (H : Hp) (Q : Bool → Hp → Prop), Inv X pins σ H s → t σ H Q → wpAny (model X.prog X.w) X.A (isTrue e X.env whole) (TP X pins σ Q) X.xe s
theorem PW.pt {X : Cx} {e : Expr} {t : TT} (h : PW X e t) : PT X e t := h _
def PA (X : Cx) (es : List Expr) (t : TA) : Prop :=
  ∀ (pos : Pos) (pins : Pn) (s : Shared) (σ : St) (H : Hp) (Q : List V → Hp → Prop), Inv X pins σ H s → t σ H Q → wpAny (model X.prog X.w) X.A (spliced (backTo pos (starEach es X.env))) (AP X pins σ Q) X.xe s
def PS (X : Cx) (st : Stmt) (t : TS) : Prop :=
  ∀ (pins : Pn) (s : Shared) (σ : St) (H : Hp) (D : Ends), Inv X pins σ H s → t D σ H → wpAny (model X.prog X.w) X.A (exec st X.env) (SP X pins D) X.xe s
def PSs (X : Cx) (st : List Stmt) (t : TS) : Prop :=
  ∀ (pins : Pn) (s : Shared) (σ : St) (H : Hp) (D : Ends), Inv X pins σ H s → t D σ H → wpAny (model X.prog X.w) X.A (execs st X.env) (SP X pins D) X.xe s
theorem thn {α : Type} {t : Sem α} {Q Q' : α → Shared → Prop} {M : Model} {A : Around} {E : Value → Shared → Prop} {s : Shared} (h : wpAny M A t Q E s) (hQ : ∀ a s, Q a s → Q' a s) : wpAny M A t Q' E s := wpAny_mono h hQ fun _ _ x => x
end L2
namespace L2
open PySem PySem.Spec PyProof.Rows
section
variable {X : Cx}
def tVar (i : Nat) : TE := fun σ H Q => ∃ v, σ[i]? = some (some v) ∧ Q v H
def tC (v : V) : TE := fun _ H Q => Q v H
theorem pe_var {i : Nat} {x : Str} {pos : Pos} (hN : X.N[i]? = some x) (hv : Vis X.env.scope x) (hd : (x == ("__debug__" : Str)) = false := by decide) (hcd : (x == ("__classdict__" : Str)) = false := by decide) : PE X (.Name x pos) (tVar i) := by
  intro pins s σ H Q I h
  obtain ⟨v, e, h⟩ := h
  obtain ⟨m, hn, hl⟩ := I.loc
  obtain ⟨u, r, l⟩ := hl i x v hN e hv
  have fin : EP X pins σ Q u s := ⟨v, H, I, r, h⟩
  rcases l with ⟨hk, hm⟩ | ⟨hk, c, hc, hcell⟩
  · exact wpAny_Name (wpAny_loadName_local I.ok.kind hk hn hm fin) hd
  · rcases hk with hk | hk
    · exact wpAny_Name (wpAny_loadName_cell I.ok.kind hk hc hcell fin) hd
    · exact wpAny_Name (wpAny_loadName_free I.ok.kind hk hc hcell fin hcd) hd
theorem pei {i j pos} : PE X (.Constant (.int i) j pos) (tC (.int i)) := fun _ _ _ H _ I h => wpAny_Constant_int ⟨.int i, H, I.tok _, ⟨_, rfl⟩, h⟩
theorem pe_bl {b j pos} : PE X (.Constant (.bool b) j pos) (tC (.bl b)) := fun _ _ _ H _ I h => Constant_bool ⟨.bl b, H, I, rfl, h⟩
theorem pe_non {j pos} : PE X (.Constant .none j pos) (tC .non) := fun _ _ _ H _ I h => Constant_none ⟨.non, H, I, rfl, h⟩
theorem pe_str {x j pos} : PE X (.Constant (.str x) j pos) (tC (.str x)) := fun _ _ _ H _ I h => Calls.Constant_str ⟨.str x, H, I.tok _, ⟨_, rfl⟩, h⟩
def Gl (X : Cx) (x : Str) : Prop := X.env.kindOf x = some .globalImplicit
theorem ld_glob {E : Value → Shared → Prop} {pins : Pn} {s : Shared} {σ : St} {H : Hp} {x : Str} {u : Value} {pos : Pos} {Q : Value → Shared → Prop} (I : Inv X pins σ H s) (hg : Gl X x) (hm : X.mg x = some u) (h : Q u s)
    (hd : (x == ("__debug__" : Str)) = false := by decide) : wpAny (model X.prog X.w) X.A (eval (.Name x pos) X.env) Q E s :=
  Calls.Name_function_global I.ok.kind hg (Calls.loadGlobal_global (by rw [I.ok.glob]; exact I.mod.glob.keeps I.bk) hm h) hd
theorem ld_blt {E : Value → Shared → Prop} {pins : Pn} {s : Shared} {σ : St} {H : Hp} {x : Str} {u : Value} {pos : Pos} {Q : Value → Shared → Prop} (I : Inv X pins σ H s) (hg : Gl X x) (hm : X.mg x = none) (hv : bootBuiltins x = some u) (h : Q u s)
    (hn : x ≠ "__name__" := by decide) (hd : (x == ("__debug__" : Str)) = false := by decide) : wpAny (model X.prog X.w) X.A (eval (.Name x pos) X.env) Q E s := by
  obtain ⟨mb, h1, h2⟩ := I.mod.blt
  exact Calls.Name_function_global I.ok.kind hg (Calls.loadGlobal_builtin (by rw [I.ok.glob]; exact I.mod.glob.keeps I.bk) hm (by rw [I.ok.blt]; exact h1.keeps I.bk) ((h2 x hn).trans hv) h) hd
theorem pe_glob {x : Str} {v : V} {u : Value} {pos : Pos} (hg : Gl X x) (hm : X.mg x = some u) (r : RelV v u) (hd : (x == ("__debug__" : Str)) = false := by decide) : PE X (.Name x pos) (tC v) :=
  fun _ _ _ H _ I h => ld_glob I hg hm ⟨v, H, I, r, h⟩ hd
theorem pe_bltn {x : Str} {v : V} {u : Value} {pos : Pos} (hg : Gl X x) (hm : X.mg x = none) (hv : bootBuiltins x = some u) (r : RelV v u) (hn : x ≠ "__name__" := by decide) (hd : (x == ("__debug__" : Str)) = false := by decide) : PE X (.Name x pos) (tC v) :=
  fun _ _ _ H _ I h => ld_blt I hg hm hv ⟨v, H, I, r, h⟩ hn hd
variable {a b : Expr} {ta tb : TE} {pos : Pos}
def tB (t : TE) : TT := fun σ H Q => t σ H fun x H1 => ∃ c, x = .bl c ∧ Q c H1
theorem pt_val {e : Expr} {t : TE} (h : PE X e t) (he : ∀ whole, isTrue e X.env whole = (do let v ← whole; standAt e.pos; holding [v] (truthy v)) := by intro _; rfl) : PT X e (tB t) := by
  intro pins s σ H Q I hw
  refine isTrue_plain (thn (h pins s σ H _ I hw) fun v s1 ⟨x, H1, I1, r1, q1⟩ => ?_) (he _)
  obtain ⟨d, rfl, q⟩ := q1
  cases r1
  exact wpAny_truthy_bool ⟨H1, I1, q⟩
variable {tA tB' : TT} {rest : List Expr}
def tAnd (t u : TT) : TT := fun σ H Q => t σ H fun c H1 => if c = true then u σ H1 Q else Q false H1
def tOr (t u : TT) : TT := fun σ H Q => t σ H fun c H1 => if c = true then Q true H1 else u σ H1 Q
def tNot (t : TT) : TT := fun σ H Q => t σ H fun c H1 => Q (!c) H1
theorem pw_and1 (ha : PT X a tA) : PW X (.BoolOp .And [a] pos) tA := by
  intro wh pins s σ H Q I h
  refine isTrue_and (thn (ha pins s σ H Q I h) fun c s1 e => ?_)
  cases c with
  | true => exact isTrue_and_nil e
  | false => exact e
theorem pw_or1 (ha : PT X a tA) : PW X (.BoolOp .Or [a] pos) tA := by
  intro wh pins s σ H Q I h
  refine isTrue_or (thn (ha pins s σ H Q I h) fun c s1 e => ?_)
  cases c with
  | false => exact isTrue_or_nil e
  | true => exact e
theorem pw_and (ha : PT X a tA) (hb : PW X (.BoolOp .And (b :: rest) pos) tB') : PW X (.BoolOp .And (a :: b :: rest) pos) (tAnd tA tB') := by
  intro wh pins s σ H Q I h
  refine isTrue_and (thn (ha pins s σ H _ I h) fun c s1 ⟨H1, I1, q1⟩ => ?_)
  cases c with
  | true => exact hb wh pins s1 σ H1 Q I1 q1
  | false => exact ⟨H1, I1, q1⟩
theorem pw_or (ha : PT X a tA) (hb : PW X (.BoolOp .Or (b :: rest) pos) tB') : PW X (.BoolOp .Or (a :: b :: rest) pos) (tOr tA tB') := by
  intro wh pins s σ H Q I h
  refine isTrue_or (thn (ha pins s σ H _ I h) fun c s1 ⟨H1, I1, q1⟩ => ?_)
  cases c with
  | true => exact ⟨H1, I1, q1⟩
  | false => exact hb wh pins s1 σ H1 Q I1 q1
theorem pt_not (ha : PT X a tA) : PT X (.UnaryOp .Not a pos) (tNot tA) := by
  intro pins s σ H Q I h
  exact isTrue_not (ha pins s σ H (fun c H1 => Q (!c) H1) I h)
def tAndV (ta tb : TE) : TE := fun σ H Q => ta σ H fun x H1 => ∃ c, x = .bl c ∧ if c = true then tb σ H1 Q else Q (.bl false) H1
def tOrV (ta tb : TE) : TE := fun σ H Q => ta σ H fun x H1 => ∃ c, x = .bl c ∧ if c = true then Q (.bl true) H1 else tb σ H1 Q
def tNotV (ta : TE) : TE := fun σ H Q => ta σ H fun x H1 => ∃ c, x = .bl c ∧ Q (.bl (!c)) H1
theorem pe_one {op} {t : TE} (h : PE X a t) : PE X (.BoolOp op [a] pos) t := fun pins s σ H Q I hw => BoolOp_one (h pins s σ H Q I hw)
theorem pe_and (ha : PE X a ta) (hb : PE X (.BoolOp .And (b :: rest) pos) tb) : PE X (.BoolOp .And (a :: b :: rest) pos) (tAndV ta tb) := by
  intro pins s σ H Q I h
  refine BoolOp_and (thn (ha pins s σ H _ I h) fun v s1 ⟨x, H1, I1, r1, q1⟩ => ?_)
  obtain ⟨c, rfl, q1⟩ := q1
  cases r1
  refine wpAny_truthy_bool ?_
  cases c with
  | true => exact hb pins s1 σ H1 Q I1 q1
  | false => exact ⟨.bl false, H1, I1, rfl, q1⟩
theorem pe_or (ha : PE X a ta) (hb : PE X (.BoolOp .Or (b :: rest) pos) tb) : PE X (.BoolOp .Or (a :: b :: rest) pos) (tOrV ta tb) := by
  intro pins s σ H Q I h
  refine BoolOp_or (thn (ha pins s σ H _ I h) fun v s1 ⟨x, H1, I1, r1, q1⟩ => ?_)
  obtain ⟨c, rfl, q1⟩ := q1
  cases r1
  refine wpAny_truthy_bool ?_
  cases c with
  | false => exact hb pins s1 σ H1 Q I1 q1
  | true => exact ⟨.bl true, H1, I1, rfl, q1⟩
theorem pe_not (ha : PE X a ta) : PE X (.UnaryOp .Not a pos) (tNotV ta) := by
  intro pins s σ H Q I h
  refine UnaryOp_ (thn (ha pins s σ H _ I h) fun v s1 ⟨x, H1, I1, r1, q1⟩ => ?_)
  obtain ⟨c, rfl, q1⟩ := q1
  cases r1
  exact not_of (wpAny_truthy_bool ⟨.bl (!c), H1, I1, rfl, q1⟩)
def tIf (t : TT) (ta tb : TE) : TE := fun σ H Q => t σ H fun c H1 => if c = true then ta σ H1 Q else tb σ H1 Q
theorem pe_ifExp {c : Expr} (hc : PT X c tA) (ha : PE X a ta) (hb : PE X b tb) : PE X (.IfExp c a b pos) (tIf tA ta tb) := by
  intro pins s σ H Q I h
  refine wpAny_IfExp (thn (hc pins s σ H _ I h) fun d s1 ⟨H1, I1, q1⟩ => ?_)
  cases d with
  | true => exact ha pins s1 σ H1 Q I1 q1
  | false => exact hb pins s1 σ H1 Q I1 q1
end
end L2
namespace L2
open PySem PySem.Spec PyProof.Rows
def SqL (K : Fg) (H : Hp) (a : Addr) (xs : List V) : Prop :=
  Rd H a (.lst xs) ∨
    ∃ (o : Obj) (its : Array Value) (n : Nat), K.lookup a = some o ∧ o.cls = .type "list" ∧ o.dict = none ∧ o.data = .seq its n ∧ its.size ≤ sizeLine ∧ Vals xs its.toList
def SqT (K : Fg) (H : Hp) (a : Addr) (xs : List V) : Prop :=
  Rd H a (.tup xs) ∨
    ∃ (o : Obj) (its : Array Value) (n : Nat), K.lookup a = some o ∧ o.cls = .type "tuple" ∧ o.data = .seq its n ∧ its.size ≤ sizeLine ∧ Vals xs its.toList
def absV : Value → Option V
  | .none => some .non
  | .bool b => some (.bl b)
  | .int i _ => some (.int i)
  | .str x _ => some (.str x)
  | .bytes b _ => some (.byt b)
  | .float b _ => some (.flt b)
  | .ref a => some (.ref a)
  | .type n => some (.ty n)
  | _ => none
theorem RelV.abs {x : V} {u : Value} (r : RelV x u) : absV u = some x := by
  cases x with
  | non => cases r; rfl
  | bl _ => cases r; rfl
  | int _ => obtain ⟨t, rfl⟩ := r; rfl
  | str _ => obtain ⟨t, rfl⟩ := r; rfl
  | byt _ => obtain ⟨t, rfl⟩ := r; rfl
  | flt _ => obtain ⟨t, rfl⟩ := r; rfl
  | ref _ => cases r; rfl
  | ty _ => cases r; rfl
theorem RelV.inj {x y : V} {u : Value} (r : RelV x u) (q : RelV y u) : x = y := Option.some.inj (r.abs.symm.trans q.abs)
theorem Vals.inj : ∀ {xs ys : List V} {us : List Value}, Vals xs us → Vals ys us → xs = ys
  | _, _, _, .nil, .nil => rfl
  | _, _, _, .cons r t, .cons r' t' => by rw [r.inj r', Vals.inj t t']
section
variable {X : Cx} {pins : Pn} {σ : St} {H : Hp} {s : Shared} {a : Addr} {xs ys : List V}
theorem SqL.of {K : Fg} (h : H a = some (.lst xs)) : SqL K H a xs := .inl (.inl h)
theorem SqT.of {K : Fg} (h : H a = some (.tup xs)) : SqT K H a xs := .inl (.inl h)
theorem Inv.list (I : Inv X pins σ H s) (h : SqL X.K H a xs) : ∃ its : List Value, Vals xs its ∧ PlainL s.heap a its.toArray ∧ xs.length ≤ sizeLine := by
  rcases h with h | ⟨o, its, n, hk, hc, hd, hs, hz, r⟩
  · obtain ⟨z, its, n, r, e⟩ := h.ok I.hok
    exact ⟨its, r, ⟨_, n, e, rfl, rfl, rfl⟩, z⟩
  · refine ⟨its.toList, r, ⟨o, n, I.kIn a o hk, hc, hd, by simpa using hs⟩, ?_⟩
    have e := r.length
    simp only [Array.length_toList] at e
    omega
theorem Inv.tuple (I : Inv X pins σ H s) (h : SqT X.K H a xs) : ∃ its : List Value, Vals xs its ∧ IsTup s.heap a its.toArray ∧ xs.length ≤ sizeLine := by
  rcases h with h | ⟨o, its, n, hk, hc, hs, hz, r⟩
  · obtain ⟨z, its, r, p⟩ := h.ok I.hok
    exact ⟨its, r, p, z⟩
  · refine ⟨its.toList, r, ⟨o, I.kIn a o hk, hc, n, by simpa using hs⟩, ?_⟩
    have e := r.length
    simp only [Array.length_toList] at e
    omega
theorem Inv.list_inj (I : Inv X pins σ H s) (h : SqL X.K H a xs) (h' : SqL X.K H a ys) : xs = ys := by
  obtain ⟨its, r, ⟨o, n, e, _, _, d⟩, _⟩ := I.list h
  obtain ⟨its', r', ⟨o', n', e', _, _, d'⟩, _⟩ := I.list h'
  rw [e] at e'; cases e'
  rw [d] at d'
  injection d' with d1 _
  have : its = its' := by simpa using congrArg Array.toList d1
  subst this
  exact r.inj r'
theorem Inv.tuple_inj (I : Inv X pins σ H s) (h : SqT X.K H a xs) (h' : SqT X.K H a ys) : xs = ys := by
  obtain ⟨its, r, ⟨o, e, _, n, d⟩, _⟩ := I.tuple h
  obtain ⟨its', r', ⟨o', e', _, n', d'⟩, _⟩ := I.tuple h'
  rw [e] at e'; cases e'
  rw [d] at d'
  injection d' with d1 _
  have : its = its' := by simpa using congrArg Array.toList d1
  subst this
  exact r.inj r'
end
abbrev Cx.wish (X : Cx) (E : Value → Shared → Prop) : Cx := { X with xe := E }
abbrev Cx.nox (X : Cx) : Cx := X.wish fun _ _ => False
theorem Cx.Ok.wish {X : Cx} (ok : X.Ok) (E : Value → Shared → Prop) : (X.wish E).Ok :=
  ⟨ok.mod, ok.kind, ok.glob, ok.blt, ok.above, ok.inj, ok.has, ok.cab, ok.hd, ok.frames, ok.stk, ok.exf, ok.bs, ok.bsz, ok.noex, ok.exfs, ok.funs, ok.frf⟩
theorem Cx.Ok.unwish {X : Cx} {E : Value → Shared → Prop} (ok : (X.wish E).Ok) : X.Ok :=
  ⟨ok.mod, ok.kind, ok.glob, ok.blt, ok.above, ok.inj, ok.has, ok.cab, ok.hd, ok.frames, ok.stk, ok.exf, ok.bs, ok.bsz, ok.noex, ok.exfs, ok.funs, ok.frf⟩
section
variable {X : Cx} {pins : Pn} {σ : St} {H : Hp} {s : Shared} {E : Value → Shared → Prop}
theorem Inv.wish (I : Inv X pins σ H s) (E : Value → Shared → Prop) : Inv (X.wish E) pins σ H s := ⟨I.ok.wish E, I.os, I.bare, I.base, I.loc, I.cell, I.free, I.freeC, I.pin, I.hok, I.len⟩
theorem Inv.unwish (I : Inv (X.wish E) pins σ H s) : Inv X pins σ H s := ⟨I.ok.unwish, I.os, I.bare, I.base, I.loc, I.cell, I.free, I.freeC, I.pin, I.hok, I.len⟩
theorem SP.unwish {D : Ends} {f : Flow} {s' : Shared} (h : SP (X.wish E) pins D f s') : SP X pins D f s' := by
  cases f with
  | next => obtain ⟨σ', H', I, q⟩ := h; exact ⟨σ', H', I.unwish, q⟩
  | brk => obtain ⟨σ', H', I, q⟩ := h; exact ⟨σ', H', I.unwish, q⟩
  | cont => obtain ⟨σ', H', I, q⟩ := h; exact ⟨σ', H', I.unwish, q⟩
  | ret u => obtain ⟨v, σ', H', I, r, q⟩ := h; exact ⟨v, σ', H', I.unwish, r, q⟩
theorem PSs.nox {st : List Stmt} {t : TS} (h : PSs X.nox st t) : PSs X st t := fun pins s σ H D I hw =>
  wpAny_mono (h pins s σ H D (I.wish _) hw) (fun _ _ q => q.unwish) fun _ _ z => False.elim z
end
section
variable {X : Cx} {st : Stmt} {rest : List Stmt} {t u : TS} {e : Expr} {te : TE} {pos : Pos}
def tNext : TS := fun D σ H => D.nx σ H
def tSeq (t u : TS) : TS := fun D σ H => t { D with nx := u D } σ H
theorem pss_nil : PSs X [] tNext := fun _ _ σ H _ I h => wpAny_execs_nil ⟨σ, H, I, h⟩
theorem psc (h1 : PS X st t) (h2 : PSs X rest u) : PSs X (st :: rest) (tSeq t u) := by
  intro pins s σ H D I h
  refine wpAny_execs_cons (thn (h1 pins s σ H { D with nx := u D } I h) fun f s1 q => ?_)
  cases f with
  | next =>
    obtain ⟨σ', H', I', q⟩ := q
    exact h2 pins s1 σ' H' D I' q
  | ret v => exact q
  | brk => exact q
  | cont => exact q
theorem pso (h1 : PS X st t) : PSs X [st] t := by
  intro pins s σ H D I h
  refine wpAny_execs_cons (thn (h1 pins s σ H D I h) fun f s1 q => ?_)
  cases f with
  | next => exact wpAny_execs_nil q
  | ret v => exact q
  | brk => exact q
  | cont => exact q
theorem Inv.quiet {pins : Pn} {σ : St} {H : Hp} {s : Shared} (I : Inv X pins σ H s) : interactive X.env = false := by simp [interactive, I.ok.kind]
def tDrop (te : TE) : TS := fun D σ H => te σ H fun _ H1 => D.nx σ H1
theorem ps_expr (he : PE X e te) (hs : swapsWith e none pos.line X.env = pure false := by rfl) : PS X (.Expr e pos) (tDrop te) := by
  intro pins s σ H D I h
  exact wpAny_Expr_any (thn (he pins s σ H _ I h) fun v s1 ⟨x, H1, I1, r1, q1⟩ => ⟨σ, H1, I1, q1⟩) I.quiet hs
def tRet (te : TE) : TS := fun D σ H => te σ H D.rt
theorem ps_ret (he : PE X e te) : PS X (.Return (some e) pos) (tRet te) := by
  intro pins s σ H D I h
  exact wpAny_Return_some (thn (he pins s σ H _ I h) fun v s1 ⟨x, H1, I1, r1, q1⟩ => ⟨x, σ, H1, I1, r1, q1⟩)
def tIfS (c : TT) (t u : TS) : TS := fun D σ H => c σ H fun b H1 => if b = true then t D σ H1 else u D σ H1
theorem ps_if {c : Expr} {a b : List Stmt} {tc : TT} (hc : PT X c tc) (ha : PSs X a t) (hb : PSs X b u) : PS X (.If c a b pos) (tIfS tc t u) := by
  intro pins s σ H D I h
  refine wpAny_If (thn (hc pins s σ H _ I h) fun d s1 ⟨H1, I1, q1⟩ => ?_)
  cases d with
  | true => exact ha pins s1 σ H1 D I1 q1
  | false => exact hb pins s1 σ H1 D I1 q1
def tNever : TS := fun _ _ _ => False
theorem ps_never : PS X st tNever := fun _ _ _ _ _ _ h => h.elim
end
abbrev TG := V → St → Hp → (St → Hp → Prop) → Prop
abbrev TGs := List V → St → Hp → (St → Hp → Prop) → Prop
def PG (X : Cx) (target : Expr) (t : TG) : Prop :=
  ∀ (pins : Pn) (s : Shared) (σ : St) (H : Hp) (v : V) (u : Value) (Q : St → Hp → Prop), Inv X pins σ H s → RelV v u → t v σ H Q →
    wpAny (model X.prog X.w) X.A (assign target X.env u) (fun _ s' => ∃ σ' H', Inv X pins σ' H' s' ∧ Q σ' H') X.xe s
def PGs (X : Cx) (ts : List Expr) (t : TGs) : Prop :=
  ∀ (pins : Pn) (s : Shared) (σ : St) (H : Hp) (vs : List V) (us : List Value) (Q : St → Hp → Prop), Inv X pins σ H s → Vals vs us → t vs σ H Q →
    wpAny (model X.prog X.w) X.A (assignInOrder ((assignEach ts X.env).map (·.2)) us) (fun _ s' => ∃ σ' H', Inv X pins σ' H' s' ∧ Q σ' H') X.xe s
abbrev TSet := V → V → V → Hp → (Hp → Prop) → Prop
def PSet (X : Cx) (t : TSet) : Prop :=
  ∀ (pins : Pn) (s : Shared) (σ : St) (H : Hp) (o i v : V) (ov iv u : Value) (Q : Hp → Prop), Inv X pins σ H s → RelV o ov → RelV i iv → RelV v u → t o i v H Q →
    wpAny (model X.prog X.w) X.A (setItem ov iv u) (fun _ s' => ∃ H', Inv X pins σ H' s' ∧ Q H') X.xe s
abbrev TIp := V → V → Hp → VK → Prop
def PIp (X : Cx) (op : Operator) (t : TIp) : Prop :=
  ∀ (pins : Pn) (s : Shared) (σ : St) (H : Hp) (x y : V) (v u : Value) (Q : VK), Inv X pins σ H s → RelV x v → RelV y u → t x y H Q →
    wpAny (model X.prog X.w) X.A (inplaceOp op v u) (EP X pins σ Q) X.xe s
section
variable {X : Cx} {pos : Pos}
def gName (i : Nat) : TG := fun v σ H Q => Q (σ.set i (some v)) H
theorem pg_name {i : Nat} {x : Str} (hN : X.N.Nodup) (hi : X.N[i]? = some x) (hx : Loc X.env.scope x) (hf : X.fn x = true ∨ X.env.scope.names.lookup x = some .local := by first | exact .inl rfl | exact .inr rfl | assumption) : PG X (.Name x pos) (gName i) := by
  intro pins s σ H v u Q I r h
  exact wpAny_assign_Name (store_ok I hN hi hx r (fun s' I' => ⟨_, H, I', h⟩) hf)
def gNil : TGs := fun vs σ H Q => vs = [] ∧ Q σ H
def gCons (t : TG) (u : TGs) : TGs := fun vs σ H Q => ∃ v r, vs = v :: r ∧ t v σ H fun σ' H' => u r σ' H' Q
theorem pgs_nil : PGs X [] gNil := by
  intro pins s σ H vs us Q I r h
  obtain ⟨e, h⟩ := h
  subst e
  cases r
  exact assignInOrder_nil ⟨σ, H, I, h⟩
theorem pgs_cons {e : Expr} {es : List Expr} {t : TG} {u : TGs} (h1 : PG X e t) (h2 : PGs X es u)
    (hs : (assignEach (e :: es) X.env).map (·.2) = assign e X.env :: (assignEach es X.env).map (·.2) := by rfl) : PGs X (e :: es) (gCons t u) := by
  intro pins s σ H vs us Q I r h
  obtain ⟨v, vr, e1, h⟩ := h
  subst e1
  cases r with
  | cons r rr =>
    rw [hs]
    refine assignInOrder_cons (thn (h1 pins s σ H _ _ _ I r h) fun _ s1 ⟨σ1, H1, I1, q1⟩ => ?_)
    exact h2 pins s1 σ1 H1 _ _ Q I1 rr q1
def gTup (K : Fg) (n : Nat) (t : TGs) : TG := fun v σ H Q => ∃ a xs, v = .ref a ∧ SqT K H a xs ∧ xs.length = n ∧ t xs σ H Q
theorem pg_tup {es : List Expr} {k : Nat} {t : TGs} {n : Nat} (hc : X.calm = true) (h : PGs X es t)
    (hn : (assignEach es X.env).length = n := by rfl) (hst : (assignEach es X.env).findIdx? (·.1) = none := by rfl) : PG X (.Tuple es k pos) (gTup X.K n t) := by
  intro pins s σ H v u Q I r hw
  obtain ⟨a, xs, e1, hq, hl, hw⟩ := hw
  subst e1
  cases r
  obtain ⟨its, rv, ht, hz⟩ := I.tuple hq
  refine assign_Tuple_tuple (I.ok.hd hc) ht (by simp [hn, ← hl, rv.length]) hst fun h' hx => ?_
  have I1 : Inv X pins σ H { s with heap := h' } := I.kept (t' := s.toks) fun b o e => hx b o (Nat.ne_of_lt (Heap.lt_size e)) e
  exact h pins _ σ H xs _ Q I1 (by simpa using rv) hw
def gSub (to ti : TE) (t : TSet) : TG := fun v σ H Q => to σ H fun o H1 => ti σ H1 fun i H2 => t o i v H2 fun H3 => Q σ H3
theorem pg_sub {o i : Expr} {to ti : TE} {t : TSet} (ho : PE X o to) (hi : PE X i ti) (hs : PSet X t)
    (ha : ∀ v, assign (.Subscript o i pos) X.env v = (do
      let ov ← holding [v] (eval o X.env)
      let iv ← holding [v, ov] (eval i X.env)
      standAt pos
      holding [v, ov, iv] (setItem ov iv v)
      release [v, ov, iv] []) := by intro _; rfl) : PG X (.Subscript o i pos) (gSub to ti t) := by
  intro pins s σ H v u Q I r h
  rw [ha]
  refine wpAny_bind (wpAny_holding (thn (ho pins s σ H _ I h) fun ov s1 ⟨x, H1, I1, r1, q1⟩ => ?_))
  refine wpAny_bind (wpAny_holding (thn (hi pins s1 σ H1 _ I1 q1) fun iv s2 ⟨y, H2, I2, r2, q2⟩ => ?_))
  refine wpAny_bind (wpAny_standAt (wpAny_bind (wpAny_holding (thn (hs pins s2 σ H2 x y v ov iv u _ I2 r1 r2 r q2) fun _ s3 ⟨H3, I3, q3⟩ => ?_))))
  exact wpAny_release ⟨σ, H3, I3, q3⟩
def tAsg (te : TE) (g : TG) : TS := fun D σ H => te σ H fun x H1 => g x σ H1 D.nx
theorem ps_asg {tg e : Expr} {te : TE} {g : TG} (he : PE X e te) (hg : PG X tg g) (hs : swapsWithSole [tg] e pos.line X.env = pure false := by rfl) (hw : swappedStores [tg] e X.env = pure none := by rfl)
    (h1 : (assignEach [tg] X.env).map (·.2) = [assign tg X.env] := by rfl) : PS X (.Assign [tg] e pos) (tAsg te g) := by
  intro pins s σ H D I h
  refine wpAny_Assign_stores (thn (he pins s σ H _ I h) fun v s1 ⟨x, H1, I1, r1, q1⟩ => ?_) hs hw
  rw [h1]
  exact thn (hg pins s1 σ H1 x v _ I1 r1 q1) fun _ s2 q => q
theorem ps_set {i : Nat} {x : Str} {e : Expr} {te : TE} {pos' : Pos} (hN : X.N.Nodup) (hi : X.N[i]? = some x) (hx : Loc X.env.scope x) (he : PE X e te) (hs : swapsWith e (some (.Name x pos')) pos.line X.env = pure false := by rfl) (hf : X.fn x = true ∨ X.env.scope.names.lookup x = some .local := by first | exact .inl rfl | exact .inr rfl | assumption) :
    PS X (.Assign [.Name x pos'] e pos) (tAsg te (gName i)) := by
  intro pins s σ H D I h
  refine wpAny_Assign_Name (thn (he pins s σ H _ I h) fun v s1 ⟨y, H1, I1, r1, q1⟩ => ?_) hs
  exact store_ok I1 hN hi hx r1 (fun s2 I2 => ⟨_, H1, I2, q1⟩) hf
def tAug (i : Nat) (te : TE) (ti : TIp) : TS := fun D σ H => ∃ x, σ[i]? = some (some x) ∧ te σ H fun y H1 => ti x y H1 fun z H2 => D.nx (σ.set i (some z)) H2
theorem ps_aug {i : Nat} {x : Str} {e : Expr} {te : TE} {op : Operator} {ti : TIp} {pos' : Pos} (hN : X.N.Nodup) (hi : X.N[i]? = some x) (hx : Loc X.env.scope x) (he : PE X e te) (ho : PIp X op ti) (hf : X.fn x = true ∨ X.env.scope.names.lookup x = some .local := by first | exact .inl rfl | exact .inr rfl | assumption) :
    PS X (.AugAssign (.Name x pos') op e pos) (tAug i te ti) := by
  intro pins s σ H D I h
  obtain ⟨v, e1, h⟩ := h
  obtain ⟨m, hn, hl⟩ := I.loc
  have vis : Vis X.env.scope x := by rcases hx with k | k; exact .inl k; exact .inr (.inl k)
  obtain ⟨u, r, l⟩ := hl i x v hi e1 vis
  refine wpAny_AugAssign_Name ?_
  have go : wpAny (model X.prog X.w) X.A (eval e X.env) (fun w s₂ => wpAny (model X.prog X.w) X.A (inplaceOp op u w) (fun r s₃ => wpAny (model X.prog X.w) X.A (storeName X.env x r) (fun _ => SP X pins D .next) X.xe s₃) X.xe s₂) X.xe s := by
    refine thn (he pins s σ H _ I h) fun w s1 ⟨y, H1, I1, r1, q1⟩ => ?_
    refine thn (ho pins s1 σ H1 v y u w _ I1 r r1 q1) fun z s2 ⟨zv, H2, I2, r2, q2⟩ => ?_
    exact store_ok I2 hN hi hx r2 (fun s3 I3 => ⟨_, H2, I3, q2⟩) hf
  rcases l with ⟨hk, hm⟩ | ⟨hk, c, hc, hcell⟩
  · exact wpAny_loadName_local I.ok.kind hk hn hm go
  · rcases hk with hk | hk
    · exact wpAny_loadName_cell I.ok.kind hk hc hcell go
    · rcases hx with k | k
      · have : X.env.scope.names.lookup x = some .free := hk
        rw [k] at this; cases this
      · have : X.env.scope.names.lookup x = some .free := hk
        rw [k] at this; cases this
def ipI (f : Int → Int → Int) : TIp := fun x y H Q => ∃ i j, x = .int i ∧ y = .int j ∧ Q (.int (f i j)) H
theorem ip_add : PIp X .Add (ipI fun i j => i + j) := by
  intro pins s σ H x y v u Q I r1 r2 h
  obtain ⟨i, j, e1, e2, q⟩ := h
  subst e1; subst e2
  obtain ⟨t, rfl⟩ := r1
  obtain ⟨t', rfl⟩ := r2
  exact iadd_int ⟨.int _, H, I.tok _, ⟨_, rfl⟩, q⟩
theorem ip_sub : PIp X .Sub (ipI fun i j => i - j) := by
  intro pins s σ H x y v u Q I r1 r2 h
  obtain ⟨i, j, e1, e2, q⟩ := h
  subst e1; subst e2
  obtain ⟨t, rfl⟩ := r1
  obtain ⟨t', rfl⟩ := r2
  exact isub_int ⟨.int _, H, I.tok _, ⟨_, rfl⟩, q⟩
end
section
variable {X : Cx} {pos : Pos}
def tWhile (c : TT) (tb : TS) : TS := fun D σ H => ∃ W : Nat → St → Hp → Prop, (∃ m, W m σ H) ∧ ∀ m σ H, W m σ H →
  c σ H fun b H1 => if b = true then ∃ N : St → Hp → Prop, (∀ σ' H', N σ' H' → ∃ m', m' < m ∧ W m' σ' H') ∧ tb { D with nx := N, ct := N, bk := D.nx } σ H1 else D.nx σ H1
theorem ps_while {c : Expr} {body : List Stmt} {tc : TT} {tb : TS} (hp : PassesOwn (model X.prog X.w) X.A X.env X.xe) (hc : PT X c tc) (hb : PSs X body tb) : PS X (.While c body [] pos) (tWhile tc tb) := by
  intro pins s σ H D I h
  obtain ⟨W, ⟨m0, w0⟩, turn⟩ := h
  refine wpAny_While (codeAny_whileLoop (fun n s' => ∃ σ' H', Inv X pins σ' H' s' ∧ W n σ' H') ?_ m0 ⟨σ, H, I, w0⟩)
  rintro n s1 ⟨σ1, H1, I1, w1⟩
  refine wpAny_passesOwn hp (thn (hc pins s1 σ1 H1 _ I1 (turn n σ1 H1 w1)) fun b s2 ⟨H2, I2, q2⟩ => ?_)
  cases b with
  | true =>
    obtain ⟨N, hN, q2⟩ := q2
    rw [if_pos rfl]
    refine wpAny_passesOwn hp (thn (hb pins s2 σ1 H2 _ I2 q2) fun f s3 q3 => ?_)
    cases f with
    | next =>
      obtain ⟨σ3, H3, I3, n3⟩ := q3
      obtain ⟨m', hm, w3⟩ := hN σ3 H3 n3
      exact ⟨m', hm, σ3, H3, I3, w3⟩
    | cont =>
      obtain ⟨σ3, H3, I3, n3⟩ := q3
      obtain ⟨m', hm, w3⟩ := hN σ3 H3 n3
      exact ⟨m', hm, σ3, H3, I3, w3⟩
    | brk => exact q3
    | ret v => exact q3
  | false =>
    rw [if_neg Bool.false_ne_true]
    exact wpAny_execs_nil ⟨σ1, H2, I2, q2⟩
end
structure It where
  go : Nat → Hp → Prop
  yld : Nat → Hp → V → Hp → Prop
  stop : Nat → Hp → Prop
def FpOk (X : Cx) (pins : Pn) (H : Hp) (b : Addr) : Prop :=
  H b = none ∧ b ≠ X.env.locals ∧ b ∉ X.fs ∧ (b ∈ X.ex ∨ X.s₀.heap.objs.size ≤ b) ∧ (∀ x c, X.env.cells.lookup x = some c → c ≠ b) ∧ ∀ p ∈ X.pn ++ pins, p.1 ≠ b
theorem Inv.fpOk {X : Cx} {pins : Pn} {σ : St} {H H' : Hp} {s : Shared} {b : Addr} (I : Inv X pins σ H s) (hb : s.heap.objs.size ≤ b) (hn : H' b = none) : FpOk X pins H' b := by
  refine ⟨hn, Nat.ne_of_gt (Nat.lt_of_lt_of_le I.lt hb), I.nofs hb, .inr (Nat.le_trans I.sz hb), fun x c e z => ?_, fun p hp z => ?_⟩
  · obtain ⟨v, q⟩ := I.cell x c e
    exact absurd (Nat.lt_of_lt_of_le q.lt (by rw [z]; exact hb)) (Nat.lt_irrefl _)
  · exact absurd (Nat.lt_of_lt_of_le (Heap.lt_size (I.pin p hp).1) (by rw [z]; exact hb)) (Nat.lt_irrefl _)
structure Turn (P : Program) (w : World) (K : Fg) (tg : Expr) (J : It) (fp : List Addr) (it : Addr) (tn : Nat → Heap → Prop) : Prop where
  mem : it ∈ fp
  obj : ∀ i h, tn i h → ∀ b ∈ fp, ∃ o, h.get? b = some o ∧ ∀ v, o.data ≠ .cell v
  keep : ∀ i h h', tn i h → (∀ b ∈ fp, ∀ o, h.get? b = some o → h'.get? b = some o) → tn i h'
  item : ∀ (X : Cx), X.prog = P → X.w = w → X.K = K → X.calm = true → ∀ (i : Nat) (pins : Pn) (s : Shared) (σ : St) (H : Hp) (E : Value → Shared → Prop), Inv X pins σ H s → (∀ b ∈ fp, FpOk X pins H b) → tn i s.heap → J.go i H →
    wpAny (model P w) X.A (pyNext (.ref it)) (fun r s1 => ∃ u, r = some u ∧
      wpAny (model P w) X.A (letOwnedTupleGo tg (.ref it) u) (fun _ s2 => ∃ x H', Inv X pins σ H' s2 ∧ RelV x u ∧ J.yld i H x H' ∧ tn (i + 1) s2.heap ∧ ∀ b ∈ fp, H' b = none) E s1) E s
  done : ∀ (X : Cx), X.prog = P → X.w = w → X.K = K → X.calm = true → ∀ (i : Nat) (pins : Pn) (s : Shared) (σ : St) (H : Hp) (E : Value → Shared → Prop), Inv X pins σ H s → (∀ b ∈ fp, FpOk X pins H b) → tn i s.heap → J.stop i H →
    wpAny (model P w) X.A (pyNext (.ref it)) (fun r s1 => r = none ∧ Inv X pins σ H s1) E s
  self : ∀ (A : Around) (i : Nat) (s : Shared) (Q : Value → Shared → Prop) (E : Value → Shared → Prop), tn i s.heap → Q (.ref it) s → wpAny (model P w) A (pyIter (.ref it)) Q E s
abbrev TI := St → Hp → (It → Hp → Prop) → Prop
def PIE (X : Cx) (pins : Pn) (σ : St) (tg : Expr) (R : It → Hp → Prop) (itv : Value) (s2 : Shared) : Prop :=
  ∃ (it : Addr) (fp : List Addr) (tn : Nat → Heap → Prop) (J : It) (H' : Hp), itv = .ref it ∧ Inv X pins σ H' s2 ∧ Turn X.prog X.w X.K tg J fp it tn ∧ tn 0 s2.heap ∧ (∀ b ∈ fp, FpOk X pins H' b) ∧ R J H'
def PI (X : Cx) (tg iter : Expr) (wi : TI) : Prop :=
  ∀ (pins : Pn) (s : Shared) (σ : St) (H : Hp) (R : It → Hp → Prop), Inv X pins σ H s → wi σ H R →
    wpAny (model X.prog X.w) X.A (eval iter X.env) (fun v s1 => wpAny (model X.prog X.w) X.A (pyIter v) (PIE X pins σ tg R) X.xe s1) X.xe s
theorem go_of {M : Model} {A : Around} {E : Value → Shared → Prop} {s : Shared} {tg : Expr} {it : Addr} {u : Value} {o : Obj} {n : String} {vs : Array Value} {Q : Unit → Shared → Prop} (ho : s.heap.get? it = some o) (hc : o.cls = .type n) (hd : o.data = .fields vs)
    (hn : ["enumerate", "zip", "dict_itemiterator", "dict_reverseitemiterator", "odict_iterator", "itertools.zip_longest", "itertools.pairwise"].contains n = false) (hQ : Q () s) : wpAny M A (letOwnedTupleGo tg (.ref it) u) Q E s := by
  unfold letOwnedTupleGo
  cases tg <;> first
    | exact wpAny_pure hQ
    | (cases u <;> first
        | exact wpAny_pure hQ
        | (refine wpAny_bind (wpAny_load ho ?_)
           rw [hc, hd]
           show wpAny M A (if (["enumerate", "zip", "dict_itemiterator", "dict_reverseitemiterator", "odict_iterator", "itertools.zip_longest", "itertools.pairwise"].contains n && vs[0]? == some (rawInt _)) = true then _ else _) Q E s
           rw [if_neg (by intro h; rw [hn, Bool.false_and] at h; cases h)]
           exact wpAny_pure hQ))
def Itl (K : Fg) (a : Addr) : It :=
  ⟨fun i H => ∃ xs x, SqL K H a xs ∧ xs[i]? = some x, fun i H x H' => H' = H ∧ ∀ xs, SqL K H a xs → xs[i]? = some x, fun i H => ∃ xs, SqL K H a xs ∧ xs.length ≤ i⟩
def Itt (K : Fg) (a : Addr) : It :=
  ⟨fun i H => ∃ xs x, SqT K H a xs ∧ xs[i]? = some x, fun i H x H' => H' = H ∧ ∀ xs, SqT K H a xs → xs[i]? = some x, fun i H => ∃ xs, SqT K H a xs ∧ xs.length ≤ i⟩
def Itr (lo : Int) (n : Nat) : It := ⟨fun i _ => i < n, fun i H x H' => H' = H ∧ x = .int (lo + i), fun i _ => n ≤ i⟩
theorem turn_list {P : Program} {w : World} {K : Fg} {tg : Expr} (a it : Addr) : Turn P w K tg (Itl K a) [it] it (fun i h => h.IsListIter it a i) where
  mem := by simp
  obj := fun i h st b hb => by
    have e : b = it := by simpa using hb
    subst e
    obtain ⟨o, e, c, d⟩ := st
    exact ⟨o, e, fun v z => by rw [d] at z; cases z⟩
  keep := fun i h h' st k => st.at fun o e => k it (by simp) o e
  item := by
    intro X hP hw hK hc i pins s σ H E I hf st hg
    subst hP hw hK
    obtain ⟨xs, x, hq, hx⟩ := hg
    obtain ⟨its, rv, p, hz⟩ := I.list hq
    obtain ⟨u, hu, ru⟩ := rv.get hx
    obtain ⟨f0, f1, f2, f3, f4, f5⟩ := hf it (by simp)
    refine wpAny_pyNext_list_item st p.isList (x := u) (by simpa using hu) fun h' st' sb => ?_
    have I1 : Inv X pins σ H { s with heap := h' } := I.turned (t' := s.toks) (fun b o hb e => (sb.2 b hb).trans e) f0 f1 f3 f4 f5
    obtain ⟨o, e, c, d⟩ := id st'
    exact ⟨u, rfl, go_of (s := { s with heap := h' }) e c d (by decide) ⟨x, H, I1, ru, ⟨rfl, fun ys hy => by rw [I.list_inj hy hq]; exact hx⟩, st', fun b hb => (hf b hb).1⟩⟩
  done := by
    intro X hP hw hK hc i pins s σ H E I hf st hg
    subst hP hw hK
    obtain ⟨xs, hq, hx⟩ := hg
    obtain ⟨its, rv, p, hz⟩ := I.list hq
    obtain ⟨f0, f1, f2, f3, f4, f5⟩ := hf it (by simp)
    have hl := rv.length
    exact wpAny_pyNext_list_end (I.ok.hd hc) st p.isList (by simp; omega) fun h' eb => ⟨rfl, I.turned (t' := s.toks) (fun b o hb e => eb b o hb e) f0 f1 f3 f4 f5⟩
  self := fun _ _ _ _ _ st h => wpAny_pyIter_listiter st h
theorem turn_tuple {P : Program} {w : World} {K : Fg} {tg : Expr} (a it : Addr) : Turn P w K tg (Itt K a) [it] it (fun i h => h.IsTupleIter it a i) where
  mem := by simp
  obj := fun i h st b hb => by
    have e : b = it := by simpa using hb
    subst e
    obtain ⟨o, e, c, d⟩ := st
    exact ⟨o, e, fun v z => by rw [d] at z; cases z⟩
  keep := fun i h h' st k => st.at fun o e => k it (by simp) o e
  item := by
    intro X hP hw hK hc i pins s σ H E I hf st hg
    subst hP hw hK
    obtain ⟨xs, x, hq, hx⟩ := hg
    obtain ⟨its, rv, p, hz⟩ := I.tuple hq
    obtain ⟨u, hu, ru⟩ := rv.get hx
    obtain ⟨f0, f1, f2, f3, f4, f5⟩ := hf it (by simp)
    refine wpAny_pyNext_tuple_item st (show s.heap.IsTuple a its.toArray from p) (x := u) (by simpa using hu) fun h' st' sb => ?_
    have I1 : Inv X pins σ H { s with heap := h' } := I.turned (t' := s.toks) (fun b o hb e => (sb.2 b hb).trans e) f0 f1 f3 f4 f5
    obtain ⟨o, e, c, d⟩ := id st'
    exact ⟨u, rfl, go_of (s := { s with heap := h' }) e c d (by decide) ⟨x, H, I1, ru, ⟨rfl, fun ys hy => by rw [I.tuple_inj hy hq]; exact hx⟩, st', fun b hb => (hf b hb).1⟩⟩
  done := by
    intro X hP hw hK hc i pins s σ H E I hf st hg
    subst hP hw hK
    obtain ⟨xs, hq, hx⟩ := hg
    obtain ⟨its, rv, p, hz⟩ := I.tuple hq
    obtain ⟨f0, f1, f2, f3, f4, f5⟩ := hf it (by simp)
    have hl := rv.length
    exact wpAny_pyNext_tuple_end (I.ok.hd hc) st (show s.heap.IsTuple a its.toArray from p) (by simp; omega) fun h' eb => ⟨rfl, I.turned (t' := s.toks) (fun b o hb e => eb b o hb e) f0 f1 f3 f4 f5⟩
  self := fun _ _ _ _ _ st h => wpAny_pyIter_tupleiter st h
theorem turn_range {P : Program} {w : World} {K : Fg} {tg : Expr} (it : Addr) (lo : Int) (n : Nat) : Turn P w K tg (Itr lo n) [it] it (fun i h => IsRangeIter h it (lo + (i : Nat) * 1) ((n : Int) - (i : Nat)) 1) where
  mem := by simp
  obj := fun i h st b hb => by
    have e : b = it := by simpa using hb
    subst e
    exact ⟨_, st, fun v z => by
      have z' : Data.fields _ = Data.cell v := z
      cases z'⟩
  keep := fun i h h' st k => k it (by simp) _ st
  item := by
    intro X hP hw hK hc i pins s σ H E I hf st hg
    subst hP hw hK
    obtain ⟨f0, f1, f2, f3, f4, f5⟩ := hf it (by simp)
    have W := Walks.range (prog := X.prog) (w := X.w) (I.ok.hd hc) it lo 1 n
    refine W.item i s _ _ hg st fun v h' tk hv st' kk => ?_
    obtain ⟨t, rfl⟩ := hv
    have I1 : Inv X pins σ H { s with heap := h', toks := tk } := I.turned (fun b o hb e => kk b o (by simpa using hb) e) f0 f1 f3 f4 f5
    refine ⟨_, rfl, go_of (s := { s with heap := h', toks := tk }) (n := "range_iterator") st' rfl rfl (by decide) ⟨.int (lo + i), H, I1, ⟨t, ?_⟩, ⟨rfl, rfl⟩, st', fun b hb => (hf b hb).1⟩⟩
    rw [Int.mul_one]
  done := by
    intro X hP hw hK hc i pins s σ H E I hf st hg
    subst hP hw hK
    obtain ⟨f0, f1, f2, f3, f4, f5⟩ := hf it (by simp)
    exact wpAny_pyNext_range_end (I.ok.hd hc) st (by have : n ≤ i := hg; omega) fun h' eb => ⟨rfl, I.turned (t' := s.toks) (fun b o hb e => eb b o hb e) f0 f1 f3 f4 f5⟩
  self := fun _ _ _ _ _ st h => wpAny_pyIter_rangeiter st h
end L2
namespace L2
open PySem PySem.Spec PyProof.Rows
section
variable {X : Cx} {tg : Expr}
def iList (K : Fg) (tl : TE) : TI := fun σ H R => tl σ H fun x H1 => ∃ a, x = .ref a ∧ (∃ xs, SqL K H1 a xs) ∧ R (Itl K a) H1
def iTup (K : Fg) (tl : TE) : TI := fun σ H R => tl σ H fun x H1 => ∃ a, x = .ref a ∧ (∃ xs, SqT K H1 a xs) ∧ R (Itt K a) H1
theorem pi_list {l : Expr} {tl : TE} (hl : PE X l tl) : PI X tg l (iList X.K tl) := by
  intro pins s σ H R I h
  refine thn (hl pins s σ H _ I h) fun v s1 ⟨x, H1, I1, r1, q1⟩ => ?_
  obtain ⟨a, e, ⟨xs, hq⟩, q⟩ := q1
  subst e
  cases r1
  obtain ⟨its, rv, p, hz⟩ := I1.list hq
  refine wpAny_pyIter_list p.isList ?_
  refine ⟨s1.heap.objs.size, [s1.heap.objs.size], _, _, H1, rfl, I1.kept (t' := s1.toks) fun b o e => Heap.get?_push_of_some _ e, turn_list a _, ⟨_, Heap.get?_push_size _ rfl, rfl, rfl⟩, fun b hb => ?_, q⟩
  have e : b = s1.heap.objs.size := by simpa using hb
  subst e
  exact I1.fpOk (Nat.le_refl _) (I1.hok.fresh (Nat.le_refl _))
theorem pi_tup {l : Expr} {tl : TE} (hl : PE X l tl) : PI X tg l (iTup X.K tl) := by
  intro pins s σ H R I h
  refine thn (hl pins s σ H _ I h) fun v s1 ⟨x, H1, I1, r1, q1⟩ => ?_
  obtain ⟨a, e, ⟨xs, hq⟩, q⟩ := q1
  subst e
  cases r1
  obtain ⟨its, rv, p, hz⟩ := I1.tuple hq
  refine wpAny_pyIter_tuple (show s1.heap.IsTuple a its.toArray from p) ?_
  refine ⟨s1.heap.objs.size, [s1.heap.objs.size], _, _, H1, rfl, I1.kept (t' := s1.toks) fun b o e => Heap.get?_push_of_some _ e, turn_tuple a _, ⟨_, Heap.get?_push_size _ rfl, rfl, rfl⟩, fun b hb => ?_, q⟩
  have e : b = s1.heap.objs.size := by simpa using hb
  subst e
  exact I1.fpOk (Nat.le_refl _) (I1.hok.fresh (Nat.le_refl _))
theorem range_it {pins : Pn} {σ : St} {H : Hp} {s : Shared} {R : It → Hp → Prop} {E : Value → Shared → Prop} {lo hi : Int} {t u v : Tok} {tk : Nat} (I : Inv X pins σ H s) (h1 : -(2 ^ 62) ≤ lo) (h2 : lo < 2 ^ 62) (h3 : -(2 ^ 62) ≤ hi) (h4 : hi < 2 ^ 62)
    (q : R (Itr lo (hi - lo).toNat) H) : wpAny (model X.prog X.w) X.A (pyIter (.ref s.heap.objs.size)) (PIE X pins σ tg R) E { s with heap := s.heap.push { cls := .type "range", data := .fields #[.int lo t, .int hi u, .int 1 v] }, toks := tk } := by
  refine wpAny_pyIter_range (IsRange.new ..) (small_one h1 h2 h3 h4) ?_
  have I1 : Inv X pins σ H { s with heap := s.heap.push { cls := .type "range", data := .fields #[.int lo t, .int hi u, .int 1 v] }, toks := tk } := I.kept fun b o e => Heap.get?_push_of_some _ e
  refine ⟨(s.heap.push { cls := .type "range", data := .fields #[.int lo t, .int hi u, .int 1 v] }).objs.size, [(s.heap.push { cls := .type "range", data := .fields #[.int lo t, .int hi u, .int 1 v] }).objs.size], _, _, H, rfl,
    I1.kept (t' := tk) fun b o e => Heap.get?_push_of_some _ e, turn_range _ lo (hi - lo).toNat, ?_, fun b hb => ?_, q⟩
  · have e1 : lo + ((0 : Nat) : Int) * 1 = lo := by simp
    have e2 : (((hi - lo).toNat : Nat) : Int) - ((0 : Nat) : Int) = Builtin.Range.rangeSize lo hi 1 := by rw [rangeSize_one]; split <;> omega
    show IsRangeIter _ _ (lo + ((0 : Nat) : Int) * 1) ((((hi - lo).toNat : Nat) : Int) - ((0 : Nat) : Int)) 1
    rw [e1, e2]
    exact Heap.get?_push_size _ rfl
  · have e : b = (s.heap.push { cls := .type "range", data := .fields #[.int lo t, .int hi u, .int 1 v] }).objs.size := by simpa using hb
    subst e
    exact I1.fpOk (Nat.le_refl _) (I1.hok.fresh (Nat.le_refl _))
def iRng1 (ta : TA) : TI := fun σ H R => ta σ H fun vs H1 => ∃ j : Int, vs = [.int j] ∧ -(2 ^ 62) ≤ j ∧ j < 2 ^ 62 ∧ R (Itr 0 j.toNat) H1
def iRng2 (ta : TA) : TI := fun σ H R => ta σ H fun vs H1 => ∃ i j : Int, vs = [.int i, .int j] ∧ (-(2 ^ 62) ≤ i ∧ i < 2 ^ 62 ∧ -(2 ^ 62) ≤ j ∧ j < 2 ^ 62) ∧ R (Itr i (j - i).toNat) H1
theorem pi_range1 {a : Expr} {ta : TA} {p pos : Pos} (hg : Gl X "range") (hm : X.mg "range" = none) (ha : PA X [a] ta) (hs : starEach [a] X.env = [(false, eval a X.env)] := by rfl) : PI X tg (.Call (.Name "range" p) [a] [] pos) (iRng1 ta) := by
  intro pins s σ H R I h
  refine Call_ (ld_blt I hg hm boot_range (PyProof.Rows.callWith_type1 (thn (ha pos pins s σ H _ I h) fun us s1 ⟨vs, H1, I1, r1, q1⟩ => ?_) hs rfl))
  obtain ⟨j, e, q1, q2, q⟩ := q1
  subst e
  cases r1 with
  | cons r rr =>
    cases rr
    obtain ⟨t, rfl⟩ := r
    exact call_range_1 (range_it I1 (by omega) (by omega) q1 q2 (by simpa using q))
theorem pi_range2 {a b : Expr} {ta : TA} {p pos : Pos} (hg : Gl X "range") (hm : X.mg "range" = none) (ha : PA X [a, b] ta) (hs : starEach [a, b] X.env = [(false, eval a X.env), (false, eval b X.env)] := by rfl) (hs2 : starEach [b] X.env = [(false, eval b X.env)] := by rfl) :
    PI X tg (.Call (.Name "range" p) [a, b] [] pos) (iRng2 ta) := by
  intro pins s σ H R I h
  refine Call_ (ld_blt I hg hm boot_range (PyProof.Rows.callWith_type1 (thn (ha pos pins s σ H _ I h) fun us s1 ⟨vs, H1, I1, r1, q1⟩ => ?_) (by rw [hs, hs2]) (by rw [hs2]; rfl)))
  obtain ⟨i, j, e, ⟨q1, q2, q3, q4⟩, q⟩ := q1
  subst e
  cases r1 with
  | cons r rr =>
    cases rr with
    | cons r' rr =>
      cases rr
      obtain ⟨t, rfl⟩ := r
      obtain ⟨t', rfl⟩ := r'
      exact call_range_2 (range_it I1 q1 q2 q3 q4 q)
def tFor (wi : TI) (g : TG) (tb : TS) : TS := fun D σ H => wi σ H fun J H1 => ∃ W : Nat → Nat → St → Hp → Prop, (∃ m, W 0 m σ H1) ∧ ∀ i m σ H, W i m σ H →
  (J.stop i H ∧ D.nx σ H) ∨ (J.go i H ∧ ∃ N : St → Hp → Prop, (∀ σ' H', N σ' H' → ∃ m', m' < m ∧ W (i + 1) m' σ' H') ∧ ∀ x H', J.yld i H x H' → g x σ H' fun σ2 H2 => tb { D with nx := N, ct := N, bk := D.nx } σ2 H2)
def pinsAt (fp : List Addr) (h : Heap) : Pn := fp.filterMap fun b => (h.get? b).map fun o => (b, o)
theorem mem_pinsAt {fp : List Addr} {h : Heap} {b : Addr} {o : Obj} (hb : b ∈ fp) (e : h.get? b = some o) : (b, o) ∈ pinsAt fp h := List.mem_filterMap.mpr ⟨b, hb, by rw [e]; rfl⟩
theorem of_pinsAt {fp : List Addr} {h : Heap} {p : Addr × Obj} (hp : p ∈ pinsAt fp h) : p.1 ∈ fp ∧ h.get? p.1 = some p.2 := by
  obtain ⟨b, hb, e⟩ := List.mem_filterMap.mp hp
  cases q : h.get? b with
  | none => rw [q] at e; cases e
  | some o =>
    rw [q] at e
    have e' : (b, o) = p := Option.some.inj e
    subst e'
    exact ⟨hb, q⟩
theorem Inv.pinned {pins : Pn} {σ : St} {H : Hp} {s : Shared} {fp : List Addr} (I : Inv X pins σ H s) (hf : ∀ b ∈ fp, FpOk X pins H b) (ho : ∀ b ∈ fp, ∃ o, s.heap.get? b = some o ∧ ∀ v, o.data ≠ .cell v) : Inv X (pins ++ pinsAt fp s.heap) σ H s :=
  I.pins_of fun p hp => (List.mem_append.mp hp).elim (fun z => I.pin p (List.mem_append_right _ z)) fun z => by
    obtain ⟨hb, e⟩ := of_pinsAt z
    obtain ⟨f0, f1, f2, _⟩ := hf p.1 hb
    obtain ⟨o, e', d⟩ := ho p.1 hb
    rw [e] at e'; cases e'
    exact ⟨e, f0, f1, f2, d⟩
theorem Inv.unpinned {pins pl : Pn} {σ : St} {H : Hp} {s : Shared} (I : Inv X (pins ++ pl) σ H s) : Inv X pins σ H s := I.pins_of fun p hp => I.pin p (List.mem_append_right _ (List.mem_append_left _ hp))
theorem ps_for {iter : Expr} {body : List Stmt} {wi : TI} {g : TG} {tb : TS} {pos : Pos} (hp : PassesOwn (model X.prog X.w) X.A X.env X.xe) (hc : X.calm = true) (hi : PI X tg iter wi) (hg : PG X tg g) (hb : PSs X body tb)
    (hs : ∀ x, foldedSetIterable iter X.env x = pure x := by intro _; rfl) : PS X (.For tg iter body [] pos) (tFor wi g tb) := by
  intro pins s σ H D I h
  refine wpAny_For (thn (hi pins s σ H _ I h) fun v s1 h1 => thn h1 fun itv s2 h2 => ?_) hs
  obtain ⟨it, fp, tn, J, H2, e, I2, T, st2, f2, W, ⟨m0, w0⟩, turn⟩ := h2
  subst e
  -- what stays true of the iterator's objects through the loop
  have stat : ∀ {H' : Hp}, (∀ b ∈ fp, H' b = none) → ∀ b ∈ fp, FpOk X pins H' b := fun hn b hb => ⟨hn b hb, (f2 b hb).2⟩
  refine codeAny_forLoop_any (fun n s' => ∃ i σ' H', Inv X pins σ' H' s' ∧ tn i s'.heap ∧ (∀ b ∈ fp, H' b = none) ∧ W i n σ' H') ?_ m0 ⟨0, σ, H2, I2, st2, fun b hb => (f2 b hb).1, w0⟩
  rintro n s3 ⟨i, σ3, H3, I3, st3, fr3, w3⟩
  rcases turn i n σ3 H3 w3 with ⟨stop, qn⟩ | ⟨go, N, hN, step⟩
  · refine wpAny_passesOwn hp (thn (T.done X rfl rfl rfl hc i pins s3 σ3 H3 X.xe I3 (stat fr3) st3 stop) fun r s4 ⟨hr, I4⟩ => ?_)
    subst hr
    exact wpAny_execs_nil ⟨σ3, H3, I4, qn⟩
  · refine wpAny_passesOwn hp (thn (T.item X rfl rfl rfl hc i pins s3 σ3 H3 X.xe I3 (stat fr3) st3 go) fun r s4 ⟨u, hr, h4⟩ => ?_)
    subst hr
    refine wpAny_passesOwn hp (thn h4 fun _ s5 ⟨x, H5, I5, r5, y5, st5, fr5⟩ => ?_)
    have I5' := I5.pinned (stat fr5) (T.obj _ _ st5)
    refine wpAny_passesOwn hp (thn (hg _ s5 σ3 H5 x u _ I5' r5 (step x H5 y5)) fun _ s6 ⟨σ6, H6, I6, q6⟩ => ?_)
    refine wpAny_passesOwn hp (thn (hb _ s6 σ6 H6 _ I6 q6) fun f s7 q7 => ?_)
    have again : ∀ {σ7 : St} {H7 : Hp}, Inv X (pins ++ pinsAt fp s5.heap) σ7 H7 s7 → N σ7 H7 → ∃ m, m < n ∧ ∃ i σ' H', Inv X pins σ' H' s7 ∧ tn i s7.heap ∧ (∀ b ∈ fp, H' b = none) ∧ W i m σ' H' := fun {σ7 H7} I7 n7 => by
      obtain ⟨m', hm, w7⟩ := hN σ7 H7 n7
      refine ⟨m', hm, i + 1, σ7, H7, I7.unpinned, T.keep _ _ _ st5 fun b hb o e => (I7.pin (b, o) (List.mem_append_right _ (List.mem_append_right _ (mem_pinsAt hb e)))).1, fun b hb => ?_, w7⟩
      obtain ⟨o, e, d⟩ := T.obj _ _ st5 b hb
      exact (I7.pin (b, o) (List.mem_append_right _ (List.mem_append_right _ (mem_pinsAt hb e)))).2.1
    cases f with
    | next => obtain ⟨σ7, H7, I7, n7⟩ := q7; exact again I7 n7
    | cont => obtain ⟨σ7, H7, I7, n7⟩ := q7; exact again I7 n7
    | brk => obtain ⟨σ7, H7, I7, q7⟩ := q7; exact ⟨σ7, H7, I7.unpinned, q7⟩
    | ret v => obtain ⟨x7, σ7, H7, I7, r7, q7⟩ := q7; exact ⟨x7, σ7, H7, I7.unpinned, r7, q7⟩
end
theorem for_tup {K : Fg} {a : Addr} {xs : List V} {g : TG} {tb : TS} {D : Ends} {σ : St} {H : Hp} (Pv : Nat → St → Hp → Prop) (h0 : Pv 0 σ H) (hl : ∀ i σ H, i ≤ xs.length → Pv i σ H → SqT K H a xs)
    (hs : ∀ i x σ H, xs[i]? = some x → Pv i σ H → g x σ H fun σ2 H2 => tb { D with nx := Pv (i + 1), ct := Pv (i + 1), bk := D.nx } σ2 H2) (hd : ∀ σ H, Pv xs.length σ H → D.nx σ H) :
    ∃ W : Nat → Nat → St → Hp → Prop, (∃ m, W 0 m σ H) ∧ ∀ i m σ H, W i m σ H →
      ((Itt K a).stop i H ∧ D.nx σ H) ∨ ((Itt K a).go i H ∧ ∃ N : St → Hp → Prop, (∀ σ' H', N σ' H' → ∃ m', m' < m ∧ W (i + 1) m' σ' H') ∧ ∀ x H', (Itt K a).yld i H x H' → g x σ H' fun σ2 H2 => tb { D with nx := N, ct := N, bk := D.nx } σ2 H2) := by
  refine ⟨fun i m σ H => m = xs.length - i ∧ i ≤ xs.length ∧ Pv i σ H, ⟨xs.length, by simp, Nat.zero_le _, h0⟩, ?_⟩
  rintro i m σ H ⟨rfl, hi, p⟩
  have q := hl i σ H hi p
  by_cases hlt : i < xs.length
  · refine .inr ⟨⟨xs, xs[i], q, by simp [hlt]⟩, Pv (i + 1), fun σ' H' p' => ⟨xs.length - (i + 1), by omega, rfl, hlt, p'⟩, fun x H' y => ?_⟩
    obtain ⟨e, y⟩ := y
    subst e
    exact hs i x σ _ (y xs q) p
  · have e : i = xs.length := by omega
    subst e
    exact .inl ⟨⟨xs, q, Nat.le_refl _⟩, hd σ H p⟩
theorem while_by {c : TT} {tb : TS} {D : Ends} {σ : St} {H : Hp} (Pv : St → Hp → Prop) (μ : St → Hp → Nat) (h0 : Pv σ H)
    (hs : ∀ σ H, Pv σ H → c σ H fun b H1 => if b = true then tb { D with nx := fun σ' H' => Pv σ' H' ∧ μ σ' H' < μ σ H, ct := fun σ' H' => Pv σ' H' ∧ μ σ' H' < μ σ H, bk := D.nx } σ H1 else D.nx σ H1)
    (mono : ∀ σ H Q Q', (∀ b H1, Q b H1 → Q' b H1) → c σ H Q → c σ H Q') : tWhile c tb D σ H := by
  refine ⟨fun m σ H => m = μ σ H ∧ Pv σ H, ⟨_, rfl, h0⟩, ?_⟩
  rintro m σ H ⟨rfl, p⟩
  refine mono σ H _ _ (fun b H1 q => ?_) (hs σ H p)
  cases b with
  | true => exact ⟨_, fun σ' H' ⟨p', l⟩ => ⟨_, l, rfl, p'⟩, q⟩
  | false => exact q
end L2
namespace L2
open PySem PySem.Spec PyProof.Rows
abbrev R2 := V → V → Hp → VK → Prop
def OpR (X : Cx) (f : Value → Value → Sem Value) (r : R2) : Prop :=
  ∀ (pins : Pn) (s : Shared) (σ : St) (H : Hp) (x y : V) (v u : Value) (Q : VK), Inv X pins σ H s → RelV x v → RelV y u → r x y H Q →
    wpAny (model X.prog X.w) X.A (f v u) (EP X pins σ Q) X.xe s
def UnR (X : Cx) (f : Value → Sem Value) (r : V → Hp → VK → Prop) : Prop :=
  ∀ (pins : Pn) (s : Shared) (σ : St) (H : Hp) (x : V) (v : Value) (Q : VK), Inv X pins σ H s → RelV x v → r x H Q →
    wpAny (model X.prog X.w) X.A (f v) (EP X pins σ Q) X.xe s
def CallR (X : Cx) (f : Value) (r : List V → Hp → VK → Prop) : Prop :=
  ∀ (pins : Pn) (s : Shared) (σ : St) (H : Hp) (xs : List V) (us : List Value) (Q : VK), Inv X pins σ H s → Vals xs us → r xs H Q →
    wpAny (model X.prog X.w) X.A (call f us) (EP X pins σ Q) X.xe s
def TruR (X : Cx) (r : V → Hp → (Bool → Hp → Prop) → Prop) : Prop :=
  ∀ (pins : Pn) (s : Shared) (σ : St) (H : Hp) (x : V) (v : Value) (Q : Bool → Hp → Prop), Inv X pins σ H s → RelV x v → r x H Q →
    wpAny (model X.prog X.w) X.A (truthy v) (TP X pins σ Q) X.xe s
def tOp (r : R2) (ta tb : TE) : TE := fun σ H Q => ta σ H fun x H1 => tb σ H1 fun y H2 => r x y H2 Q
def tUn (r : V → Hp → VK → Prop) (ta : TE) : TE := fun σ H Q => ta σ H fun x H1 => r x H1 Q
def rI (C : Int → Int → Prop) (g : Int → Int → V) : R2 := fun x y H Q => ∃ i j, x = .int i ∧ y = .int j ∧ C i j ∧ Q (g i j) H
def rI0 (g : Int → Int → V) : R2 := fun x y H Q => ∃ i j, x = .int i ∧ y = .int j ∧ Q (g i j) H
def rU (g : Int → V) : V → Hp → VK → Prop := fun x H Q => ∃ i, x = .int i ∧ Q (g i) H
section
variable {X : Cx} {a b c : Expr} {ta tb tc : TE} {pos : Pos}
theorem binT (ha : PE X a ta) (hb : PE X b tb) {pins : Pn} {s : Shared} {σ : St} {H : Hp} {R : V → V → Hp → Prop} (I : Inv X pins σ H s)
    (h : ta σ H fun x H1 => tb σ H1 fun y H2 => R x y H2) {Q : Value → Shared → Prop} {f : Value → Value → Sem Value}
    (hf : ∀ v u s2 x y H2, Inv X pins σ H2 s2 → RelV x v → RelV y u → R x y H2 → wpAny (model X.prog X.w) X.A (f v u) Q X.xe s2) :
    wpAny (model X.prog X.w) X.A (eval a X.env) (fun v s₁ => wpAny (model X.prog X.w) X.A (eval b X.env) (fun u s₂ => wpAny (model X.prog X.w) X.A (f v u) Q X.xe s₂) X.xe s₁) X.xe s := by
  refine thn (ha pins s σ H _ I h) fun v s1 ⟨x, H1, I1, r1, q1⟩ => ?_
  refine thn (hb pins s1 σ H1 _ I1 q1) fun u s2 ⟨y, H2, I2, r2, q2⟩ => ?_
  exact hf v u s2 x y H2 I2 r1 r2 q2
theorem pe_op {op : Operator} {r : R2} (ho : OpR X (binaryOp op) r) (ha : PE X a ta) (hb : PE X b tb) : PE X (.BinOp a op b pos) (tOp r ta tb) := by
  intro pins s σ H Q I h
  exact wpAny_BinOp (binT ha hb I h fun v u s2 x y H2 I2 rx ry q => ho pins s2 σ H2 x y v u Q I2 rx ry q)
theorem pe_un {op : UnaryOp} {r : V → Hp → VK → Prop} (ho : UnR X (unaryOp op) r) (ha : PE X a ta) : PE X (.UnaryOp op a pos) (tUn r ta) := by
  intro pins s σ H Q I h
  exact UnaryOp_ (thn (ha pins s σ H _ I h) fun v s1 ⟨x, H1, I1, r1, q1⟩ => ho pins s1 σ H1 x v Q I1 r1 q1)
theorem opI {f : Value → Value → Sem Value} {C : Int → Int → Prop} {g : Int → Int → Int}
    (rule : ∀ (i j : Int) (t u : Tok) (s : Shared) (Q : Value → Shared → Prop) (E : Value → Shared → Prop), C i j → Q (.int (g i j) s.toks) { s with toks := s.toks + 1 } → wpAny (model X.prog X.w) X.A (f (.int i t) (.int j u)) Q E s) :
    OpR X f (rI C fun i j => .int (g i j)) := by
  intro pins s σ H x y v u Q I rx ry h
  obtain ⟨i, j, rfl, rfl, hc, q⟩ := h
  obtain ⟨t, rfl⟩ := rx
  obtain ⟨t', rfl⟩ := ry
  exact rule i j t t' s _ _ hc ⟨.int (g i j), H, I.tok _, ⟨_, rfl⟩, q⟩
theorem opI0 {f : Value → Value → Sem Value} {g : Int → Int → Int}
    (rule : ∀ (i j : Int) (t u : Tok) (s : Shared) (Q : Value → Shared → Prop) (E : Value → Shared → Prop), Q (.int (g i j) s.toks) { s with toks := s.toks + 1 } → wpAny (model X.prog X.w) X.A (f (.int i t) (.int j u)) Q E s) :
    OpR X f (rI0 fun i j => .int (g i j)) := by
  intro pins s σ H x y v u Q I rx ry h
  obtain ⟨i, j, rfl, rfl, q⟩ := h
  obtain ⟨t, rfl⟩ := rx
  obtain ⟨t', rfl⟩ := ry
  exact rule i j t t' s _ _ ⟨.int (g i j), H, I.tok _, ⟨_, rfl⟩, q⟩
theorem opB0 {f : Value → Value → Sem Value} {g : Int → Int → Bool}
    (rule : ∀ (i j : Int) (t u : Tok) (s : Shared) (Q : Value → Shared → Prop) (E : Value → Shared → Prop), Q (.bool (g i j)) s → wpAny (model X.prog X.w) X.A (f (.int i t) (.int j u)) Q E s) :
    OpR X f (rI0 fun i j => .bl (g i j)) := by
  intro pins s σ H x y v u Q I rx ry h
  obtain ⟨i, j, rfl, rfl, q⟩ := h
  obtain ⟨t, rfl⟩ := rx
  obtain ⟨t', rfl⟩ := ry
  exact rule i j t t' s _ _ ⟨.bl (g i j), H, I, rfl, q⟩
def CPow (i j : Int) : Prop := 0 ≤ j ∧ j ≤ 1000000 ∧ i.natAbs < 2 ^ 64
def CMul (i j : Int) : Prop := (-(2 ^ 64) < i ∧ i < 2 ^ 64) ∨ (-(2 ^ 64) < j ∧ j < 2 ^ 64)
theorem CMul.ok {i j : Int} (h : CMul i j) : IntMulOk i j := by
  rcases h with ⟨h1, h2⟩ | ⟨h1, h2⟩
  · exact .of_left (intBits_le_64 h1 h2)
  · exact .of_right (intBits_le_64 h1 h2)
theorem op_add : OpR X (binaryOp .Add) (rI0 fun i j => .int (i + j)) := opI0 fun _ _ _ _ _ _ _ q => add_int q
theorem op_sub : OpR X (binaryOp .Sub) (rI0 fun i j => .int (i - j)) := opI0 fun _ _ _ _ _ _ _ q => sub_int q
theorem op_mul : OpR X (binaryOp .Mult) (rI CMul fun i j => .int (i * j)) := opI fun _ _ _ _ _ _ _ hc q => mul_int q hc.ok
theorem op_mod : OpR X (binaryOp .Mod) (rI (fun _ j => 0 < j) fun i j => .int (i % j)) := opI fun i j _ _ _ _ _ hc q => by
  have h1 : (0 : Int) < j := hc
  exact mod_int' (by omega) (by rw [Int.fmod_eq_emod_of_nonneg i (by omega)]; exact q)
theorem op_pow : OpR X (binaryOp .Pow) (rI CPow fun i j => .int (i ^ j.toNat)) := opI fun _ _ _ _ _ _ _ hc q => pow_int_small hc.1 hc.2.1 hc.2.2 q
theorem unI {f : Value → Sem Value} {g : Int → Int}
    (rule : ∀ (i : Int) (t : Tok) (s : Shared) (Q : Value → Shared → Prop) (E : Value → Shared → Prop), Q (.int (g i) s.toks) { s with toks := s.toks + 1 } → wpAny (model X.prog X.w) X.A (f (.int i t)) Q E s) :
    UnR X f (rU fun i => .int (g i)) := by
  intro pins s σ H x v Q I rx h
  obtain ⟨i, rfl, q⟩ := h
  obtain ⟨t, rfl⟩ := rx
  exact rule i t s _ _ ⟨.int (g i), H, I.tok _, ⟨_, rfl⟩, q⟩
theorem un_neg : UnR X (unaryOp .USub) (rU fun i => .int (-i)) := unI fun _ _ _ _ _ q => neg_int q
end
def scal : V → V → Bool
  | .non, .non => true | .non, .int _ => true | .int _, .non => true | .non, .bl _ => true | .bl _, .non => true | .non, .str _ => true | .str _, .non => true
  | .int _, .int _ => true | .bl _, .bl _ => true | .str _, .str _ => true | .byt _, .byt _ => true
  | .int _, .str _ => true | .str _, .int _ => true | .bl _, .str _ => true | .str _, .bl _ => true
  | _, _ => false
def rEq : R2 := fun x y H Q => scal x y = true ∧ Q (.bl (decide (x = y))) H
def rNe : R2 := fun x y H Q => scal x y = true ∧ Q (.bl (!decide (x = y))) H
theorem dec_int {i j : Int} : decide (V.int i = V.int j) = (i == j) := by
  rw [Bool.eq_iff_iff]
  simp
theorem dec_bl {i j : Bool} : decide (V.bl i = V.bl j) = (i == j) := by
  rw [Bool.eq_iff_iff]
  simp
theorem dec_str {i j : Str} : decide (V.str i = V.str j) = (i == j) := by
  rw [Bool.eq_iff_iff]
  simp
theorem dec_byt {i j : Array UInt8} : decide (V.byt i = V.byt j) = (i.toList == j.toList) := by
  rw [Bool.eq_iff_iff]
  cases i
  cases j
  simp
section
variable {X : Cx} {a b c : Expr} {ta tb tc : TE} {pos : Pos}
theorem fin_bl {pins : Pn} {σ : St} {H : Hp} {s : Shared} {Q : VK} {k k' : Bool} (I : Inv X pins σ H s) (q : Q (.bl k) H) (e : k = k') : EP X pins σ Q (.bool k') s := by
  subst e
  exact ⟨.bl k, H, I, rfl, q⟩
theorem op_eq : OpR X (compareOp .Eq) rEq := by
  intro pins s σ H x y v u Q I rx ry h
  obtain ⟨hs, q⟩ := h
  cases x with
  | non =>
    cases rx
    cases y with
    | non => cases ry; exact PySem.EqNone.eq_none_none (fin_bl I q (by simp))
    | bl j => cases ry; exact PySem.EqNone.eq_none_bool (fin_bl I q (by simp))
    | int j => obtain ⟨t', rfl⟩ := ry; exact PySem.EqNone.eq_none_int (fin_bl I q (by simp))
    | str j => obtain ⟨t', rfl⟩ := ry; exact PySem.EqNone.eq_none_str (fin_bl I q (by simp))
    | _ => exact absurd (show false = true from hs) Bool.false_ne_true
  | bl i =>
    cases rx
    cases y with
    | non => cases ry; exact PySem.EqNone.eq_bool_none (fin_bl I q (by simp))
    | bl j => cases ry; exact eq_bool (fin_bl I q dec_bl)
    | str j => obtain ⟨t', rfl⟩ := ry; exact PySem.EqMixed.eq_bool_str (fin_bl I q (by simp))
    | _ => exact absurd (show false = true from hs) Bool.false_ne_true
  | int i =>
    obtain ⟨t, rfl⟩ := rx
    cases y with
    | non => cases ry; exact PySem.EqNone.eq_int_none (fin_bl I q (by simp))
    | int j => obtain ⟨t', rfl⟩ := ry; exact eq_int (fin_bl I q dec_int)
    | str j => obtain ⟨t', rfl⟩ := ry; exact PySem.EqMixed.eq_int_str (fin_bl I q (by simp))
    | _ => exact absurd (show false = true from hs) Bool.false_ne_true
  | str i =>
    obtain ⟨t, rfl⟩ := rx
    cases y with
    | non => cases ry; exact PySem.EqNone.eq_str_none (fin_bl I q (by simp))
    | bl j => cases ry; exact PySem.EqMixed.eq_str_bool (fin_bl I q (by simp))
    | int j => obtain ⟨t', rfl⟩ := ry; exact PySem.EqMixed.eq_str_int (fin_bl I q (by simp))
    | str j => obtain ⟨t', rfl⟩ := ry; exact eq_str (fin_bl I q dec_str)
    | _ => exact absurd (show false = true from hs) Bool.false_ne_true
  | byt i =>
    obtain ⟨t, rfl⟩ := rx
    cases y with
    | byt j => obtain ⟨t', rfl⟩ := ry; exact PySem.W.eq_bytes (fin_bl I q dec_byt)
    | _ => exact absurd (show false = true from hs) Bool.false_ne_true
  | _ => cases y <;> exact absurd (show false = true from hs) Bool.false_ne_true
theorem op_ne : OpR X (compareOp .NotEq) rNe := by
  intro pins s σ H x y v u Q I rx ry h
  obtain ⟨hs, q⟩ := h
  cases x with
  | non =>
    cases rx
    cases y with
    | non => cases ry; exact PySem.EqNone.ne_none_none (fin_bl I q (by simp))
    | bl j => cases ry; exact PySem.EqNone.ne_none_bool (fin_bl I q (by simp))
    | int j => obtain ⟨t', rfl⟩ := ry; exact PySem.EqNone.ne_none_int (fin_bl I q (by simp))
    | str j => obtain ⟨t', rfl⟩ := ry; exact PySem.EqNone.ne_none_str (fin_bl I q (by simp))
    | _ => exact absurd (show false = true from hs) Bool.false_ne_true
  | bl i =>
    cases rx
    cases y with
    | non => cases ry; exact PySem.EqNone.ne_bool_none (fin_bl I q (by simp))
    | bl j => cases ry; exact ne_bool (fin_bl I q (congrArg not dec_bl))
    | str j => obtain ⟨t', rfl⟩ := ry; exact PySem.EqMixed.ne_bool_str (fin_bl I q (by simp))
    | _ => exact absurd (show false = true from hs) Bool.false_ne_true
  | int i =>
    obtain ⟨t, rfl⟩ := rx
    cases y with
    | non => cases ry; exact PySem.EqNone.ne_int_none (fin_bl I q (by simp))
    | int j => obtain ⟨t', rfl⟩ := ry; exact ne_int (fin_bl I q (congrArg not dec_int))
    | str j => obtain ⟨t', rfl⟩ := ry; exact PySem.EqMixed.ne_int_str (fin_bl I q (by simp))
    | _ => exact absurd (show false = true from hs) Bool.false_ne_true
  | str i =>
    obtain ⟨t, rfl⟩ := rx
    cases y with
    | non => cases ry; exact PySem.EqNone.ne_str_none (fin_bl I q (by simp))
    | bl j => cases ry; exact PySem.EqMixed.ne_str_bool (fin_bl I q (by simp))
    | int j => obtain ⟨t', rfl⟩ := ry; exact PySem.EqMixed.ne_str_int (fin_bl I q (by simp))
    | str j => obtain ⟨t', rfl⟩ := ry; exact ne_str (fin_bl I q (congrArg not dec_str))
    | _ => exact absurd (show false = true from hs) Bool.false_ne_true
  | byt i =>
    obtain ⟨t, rfl⟩ := rx
    cases y with
    | byt j => obtain ⟨t', rfl⟩ := ry; exact PySem.W.ne_bytes (fin_bl I q (congrArg not dec_byt))
    | _ => exact absurd (show false = true from hs) Bool.false_ne_true
  | _ => cases y <;> exact absurd (show false = true from hs) Bool.false_ne_true
theorem op_lt : OpR X (compareOp .Lt) (rI0 fun i j => .bl (decide (i < j))) := opB0 fun _ _ _ _ _ _ _ q => lt_int q
theorem op_le : OpR X (compareOp .LtE) (rI0 fun i j => .bl (decide (i ≤ j))) := opB0 fun _ _ _ _ _ _ _ q => le_int q
theorem op_gt : OpR X (compareOp .Gt) (rI0 fun i j => .bl (decide (j < i))) := opB0 fun _ _ _ _ _ _ _ q => gt_int q
theorem op_ge : OpR X (compareOp .GtE) (rI0 fun i j => .bl (decide (j ≤ i))) := opB0 fun _ _ _ _ _ _ _ q => ge_int q
theorem op_isN : OpR X (compareOp .Is) (fun x y H Q => y = .non ∧ Q (.bl (decide (x = .non))) H) := by
  intro pins s σ H x y v u Q I rx ry h
  obtain ⟨rfl, q⟩ := h
  cases ry
  refine is_none_gen (fin_bl I q ?_)
  cases x <;> first
    | (cases rx; rfl)
    | (obtain ⟨t, rfl⟩ := rx; rfl)
theorem op_notN : OpR X (compareOp .IsNot) (fun x y H Q => y = .non ∧ Q (.bl (!decide (x = .non))) H) := by
  intro pins s σ H x y v u Q I rx ry h
  obtain ⟨rfl, q⟩ := h
  cases ry
  refine isnot_none_gen (fin_bl I q ?_)
  cases x <;> first
    | (cases rx; rfl)
    | (obtain ⟨t, rfl⟩ := rx; rfl)
theorem nomark (b : Expr) {op : CmpOp} (h : op ≠ .In := by decide) (h2 : op ≠ .NotIn := by decide) : behindInMarks op b = false := by
  have e1 : (op == CmpOp.In) = false := by cases op <;> first | rfl | exact absurd rfl h
  have e2 : (op == CmpOp.NotIn) = false := by cases op <;> first | rfl | exact absurd rfl h2
  cases b <;> simp [behindInMarks, e1, e2]
theorem pe_cmpR {op : CmpOp} {r : R2} (ho : OpR X (compareOp op) r) (ha : PE X a ta) (hb : PE X b tb) (hm : behindInMarks op b = false) : PE X (.Compare a [op] [b] pos) (tOp r ta tb) := by
  intro pins s σ H Q I h
  exact wpAny_Compare1 (binT ha hb I h fun v u s2 x y H2 I2 rx ry q => ho pins s2 σ H2 x y v u Q I2 rx ry q) hm
def tTest (t : TE) : TT := fun σ H Q => t σ H fun x H' => ∃ k, x = .bl k ∧ Q k H'
theorem pt_cmpR {op : CmpOp} {r : R2} (ho : OpR X (compareOp op) r) (ha : PE X a ta) (hb : PE X b tb) (hm : behindInMarks op b = false) : PT X (.Compare a [op] [b] pos) (tTest (tOp r ta tb)) := by
  intro pins s σ H Q I h
  refine wpAny_isTrue_Compare1 (thn (ha pins s σ H _ I h) fun v s1 ⟨x, H1, I1, r1, q1⟩ => thn (hb pins s1 σ H1 _ I1 q1) fun u s2 ⟨y, H2, I2, r2, q2⟩ =>
    thn (ho pins s2 σ H2 x y v u _ I2 r1 r2 q2) fun c s3 ⟨z, H3, I3, r3, k, e, q3⟩ => ?_) hm
  subst e
  cases r3
  exact wpAny_truthy_bool ⟨H3, I3, q3⟩
def tChain (r r' : R2) (ta tb tc : TE) : TE := fun σ H Q => ta σ H fun x H1 => tb σ H1 fun y H2 => r x y H2 fun z H3 => ∃ k, z = .bl k ∧
  (if k = true then tc σ H3 fun w' H4 => r' y w' H4 Q else Q (.bl false) H3)
theorem pt_chain {op op' : CmpOp} {r r' : R2} (ho : OpR X (compareOp op) r) (ho' : OpR X (compareOp op') r') (ha : PE X a ta) (hb : PE X b tb) (hc : PE X c tc)
    (hm : lastMarks [op, op'] [b, c] = false := by with_unfolding_all rfl) : PT X (.Compare a [op, op'] [b, c] pos) (tTest (tChain r r' ta tb tc)) := by
  intro pins s σ H Q I h
  refine isTrue_chain (thn (ha pins s σ H _ I h) fun v s1 ⟨x, H1, I1, r1, q1⟩ => test_link (thn (hb pins s1 σ H1 _ I1 q1) fun u s2 ⟨y, H2, I2, r2, q2⟩ =>
    thn (ho pins s2 σ H2 x y v u _ I2 r1 r2 q2) fun d s3 ⟨z, H3, I3, r3, k, e, q3⟩ => ?_)) hm
  subst e
  cases r3
  refine wpAny_truthy_bool ?_
  cases k with
  | false =>
    obtain ⟨k', e', q'⟩ := q3
    cases e'
    exact ite_ff ⟨H3, I3, q'⟩
  | true =>
    refine ite_tt (test_last (thn (hc pins s3 σ H3 _ I3 q3) fun w' s4 ⟨z', H4, I4, r4, q4⟩ => thn (ho' pins s4 σ H4 y z' u w' _ I4 r2 r4 q4) fun d' s5 ⟨z2, H5, I5, r5, k2, e2, q5⟩ => ?_))
    subst e2
    cases r5
    exact wpAny_truthy_bool ⟨H5, I5, q5⟩
def TruV (K : Fg) (x : V) (H : Hp) (k : Bool) : Prop :=
  match x with
  | .non => k = false
  | .bl b => k = b
  | .int i => k = (i != 0)
  | .str y => y.length ≤ sizeLine ∧ k = ((y.length : Int) != 0)
  | .byt y => y.size ≤ sizeLine ∧ k = ((y.size : Int) != 0)
  | .ref p => (∃ xs, SqL K H p xs ∧ k = !xs.isEmpty) ∨ (∃ xs, SqT K H p xs ∧ k = !xs.isEmpty) ∨ ∃ kvs, H p = some (.dK kvs) ∧ k = !kvs.isEmpty
  | _ => False
theorem isEmpty_kv {κ : Type} {kvs : List (κ × V)} {vs : List (κ × Value)} (r : KV kvs vs) : (!vs.isEmpty) = !kvs.isEmpty := by
  cases r <;> rfl
theorem isEmpty_of {xs : List V} {its : List Value} (r : Vals xs its) : (!its.toArray.isEmpty) = !xs.isEmpty := by
  cases r <;> simp
theorem line63 : (sizeLine : Nat) < 2 ^ 63 := by rw [sizeLine_eq]; decide
theorem tru_ok : TruR X (fun x H Q => ∃ k, TruV X.K x H k ∧ Q k H) := by
  intro pins s σ H x v Q I rx h
  obtain ⟨k, e, q⟩ := h
  have hl := line63
  have hs : sizeLine = 16777216 := sizeLine_eq
  cases x with
  | non =>
    cases rx
    have e' : k = false := e
    subst e'
    exact truthy_none ⟨H, I, q⟩
  | bl b =>
    cases rx
    have e' : k = b := e
    subst e'
    exact wpAny_truthy_bool ⟨H, I, q⟩
  | int i =>
    obtain ⟨t, rfl⟩ := rx
    have e' : k = (i != 0) := e
    subst e'
    exact PySem.P.truthy_int ⟨H, I, q⟩
  | str y =>
    obtain ⟨t, rfl⟩ := rx
    obtain ⟨hy, e'⟩ : y.length ≤ sizeLine ∧ k = ((y.length : Int) != 0) := e
    subst e'
    exact PySem.P.truthy_str (by omega) ⟨H, I.tok _, q⟩
  | byt y =>
    obtain ⟨t, rfl⟩ := rx
    obtain ⟨hy, e'⟩ : y.size ≤ sizeLine ∧ k = ((y.size : Int) != 0) := e
    subst e'
    exact PySem.W.truthy_bytes (by omega) ⟨H, I.tok _, q⟩
  | ref p =>
    cases rx
    have e' : (∃ xs, SqL X.K H p xs ∧ k = !xs.isEmpty) ∨ (∃ xs, SqT X.K H p xs ∧ k = !xs.isEmpty) ∨ ∃ kvs, H p = some (.dK kvs) ∧ k = !kvs.isEmpty := e
    rcases e' with ⟨xs, hx, e'⟩ | ⟨xs, hx, e'⟩ | ⟨kvs, hx, e'⟩
    · subst e'
      obtain ⟨its, r, pl, hz⟩ := I.list hx
      have hlen := r.length
      exact wpAny_truthy_list pl.isList (by simp only [List.size_toArray]; omega) ⟨H, I.tok _, by rw [isEmpty_of r]; exact q⟩
    · subst e'
      obtain ⟨its, r, pl, hz⟩ := I.tuple hx
      have hlen := r.length
      exact truthy_tuple pl (by simp only [List.size_toArray]; omega) ⟨H, I.tok _, by rw [isEmpty_of r]; exact q⟩
    · subst e'
      obtain ⟨hz, hS, vs, r, m⟩ : kvs.length ≤ sizeLine ∧ (p == sysModules) = false ∧ ∃ vs, KV kvs vs ∧ s.heap.DictOf (mixKind X.prog X.w) p vs := I.hok p _ hx
      have hlen : kvs.length = vs.length := Paired.length r
      exact wpAny_truthy_dict hS m (by omega) ⟨H, I.tok _, by rw [isEmpty_kv r]; exact q⟩
  | _ => exact (show False from e).elim
theorem pt_truth (ha : PE X a ta) (he : ∀ whole, isTrue a X.env whole = (do let v ← whole; standAt a.pos; holding [v] (truthy v))) :
    PT X a (fun σ H Q => ta σ H fun x H' => ∃ k, TruV X.K x H' k ∧ Q k H') := by
  intro pins s σ H Q I h
  exact isTrue_plain (thn (ha pins s σ H _ I h) fun v s1 ⟨x, H1, I1, r1, q1⟩ => tru_ok pins s1 σ H1 x v Q I1 r1 q1) (he _)
theorem vals1 {x : V} {us : List Value} (r : Vals [x] us) : ∃ u, us = [u] ∧ RelV x u := by
  cases r with
  | cons r1 r2 => cases r2; exact ⟨_, rfl, r1⟩
theorem vals2 {x y : V} {us : List Value} (r : Vals [x, y] us) : ∃ u w', us = [u, w'] ∧ RelV x u ∧ RelV y w' := by
  cases r with
  | cons r1 r2 =>
    cases r2 with
    | cons r3 r4 => cases r4; exact ⟨_, _, rfl, r1, r3⟩
theorem call_abs : CallR X (.builtin "abs") (fun xs H Q => ∃ i, xs = [.int i] ∧ Q (.int (if i < 0 then -i else i)) H) := by
  intro pins s σ H xs us Q I r h
  obtain ⟨i, rfl, q⟩ := h
  obtain ⟨u, rfl, t, rfl⟩ := vals1 r
  exact call_abs_int fun u tk => ⟨.int (if i < 0 then -i else i), H, I.tok _, ⟨_, rfl⟩, q⟩
theorem call_max2 (hc : X.calm = true) : CallR X (.builtin "max") (fun xs H Q => ∃ i j, xs = [.int i, .int j] ∧ Q (.int (if j > i then j else i)) H) := by
  intro pins s σ H xs us Q I r h
  obtain ⟨i, j, rfl, q⟩ := h
  obtain ⟨u, w', rfl, ⟨t, rfl⟩, ⟨t', rfl⟩⟩ := vals2 r
  refine max_two_ints (I.ok.hd hc) fun h' tk k => ⟨_, H, I.kept k, ?_, q⟩
  by_cases hj : j > i
  · rw [if_pos hj, if_pos hj]; exact ⟨_, rfl⟩
  · rw [if_neg hj, if_neg hj]; exact ⟨_, rfl⟩
theorem call_min2 (hc : X.calm = true) : CallR X (.builtin "min") (fun xs H Q => ∃ i j, xs = [.int i, .int j] ∧ Q (.int (if j < i then j else i)) H) := by
  intro pins s σ H xs us Q I r h
  obtain ⟨i, j, rfl, q⟩ := h
  obtain ⟨u, w', rfl, ⟨t, rfl⟩, ⟨t', rfl⟩⟩ := vals2 r
  refine min_two_ints (I.ok.hd hc) fun h' tk k => ⟨_, H, I.kept k, ?_, q⟩
  by_cases hj : j < i
  · rw [if_pos hj, if_pos hj]; exact ⟨_, rfl⟩
  · rw [if_neg hj, if_neg hj]; exact ⟨_, rfl⟩
theorem call_int1 : CallR X (.type "int") (fun xs H Q => (∃ i, xs = [.int i] ∧ Q (.int i) H) ∨ ∃ k, xs = [.bl k] ∧ Q (.int (if k then 1 else 0)) H) := by
  intro pins s σ H xs us Q I r h
  rcases h with ⟨i, rfl, q⟩ | ⟨k, rfl, q⟩
  · obtain ⟨u, rfl, t, rfl⟩ := vals1 r
    exact call_int_int ⟨.int i, H, I, ⟨_, rfl⟩, q⟩
  · obtain ⟨u, rfl, r1⟩ := vals1 r
    cases r1
    exact call_int_bool ⟨.int (if k then 1 else 0), H, I.tok _, ⟨_, rfl⟩, q⟩
theorem call_str_int : CallR X (.type "str") (fun xs H Q => ∃ i, xs = [.int i] ∧ i.natAbs.log2 < 1920 ∧ Q (.str (toString i)) H) := by
  intro pins s σ H xs us Q I r h
  obtain ⟨i, rfl, hz, q⟩ := h
  obtain ⟨u, rfl, t, rfl⟩ := vals1 r
  exact PySem.P.str_of_int hz ⟨.str _, H, I.tok _, ⟨_, rfl⟩, q⟩
end
end L2
namespace L2
open PySem PySem.Spec PyProof.Rows
section
variable {prog : Program} {w : World} {A : Around} {E : Value → Shared → Prop} {s : Shared} {K : Fg} {x dx C f : Addr} {mA : Str → Option Value} {name : Str} {v : Value}
end
section
variable {P : Program} {w : World} {H H' : Hp} {h h' : Heap} {a C dx : Addr} {fs fs' : List (Str × V)}
end
section
variable {X : Cx} {pins : Pn} {σ : St} {H : Hp} {s : Shared} {a C dx : Addr} {fs : List (Str × V)} {f : Str} {v : V} {A : Around} {E : Value → Shared → Prop}
end
section
variable {X : Cx} {o e value : Expr} {f : Str} {pos pos' tpos : Pos} {ta tv : TE}
end
section
variable {X : Cx} {pins : Pn} {σ : St} {H : Hp} {s : Shared} {A : Around} {E : Value → Shared → Prop} {Q : Value → Shared → Prop} {c : Value} {b : Bool}
end
end L2
namespace L2
open PySem PySem.Spec PyProof.Rows
structure Room (k : Nat) (A : Around) : Prop where
  hd : A.handled = none
  dp : A.depth + 3 * k + 5 < recursionLimit
  un : A.units + 16 * k + 200 < cLine
theorem Room.mono {j k : Nat} {A : Around} (r : Room k A) (h : j ≤ k) : Room j A := ⟨r.hd, by have := r.dp; omega, by have := r.un; omega⟩
theorem Room.deeper {k : Nat} {A : Around} (r : Room (k + 1) A) (env : Env) : Room k (A.deeper env) :=
  ⟨r.hd, by have := r.dp; show A.depth + 1 + 3 * k + 5 < _; omega, by have := r.un; show A.units + 3 + 16 * k + 200 < _; omega⟩
theorem Room.depth {k : Nat} {A : Around} (r : Room k A) : A.depth < recursionLimit := by have := r.dp; omega
def tNil : TA := fun _ H Q => Q [] H
def tCons (ta : TE) (tr : TA) : TA := fun σ H Q => ta σ H fun x H1 => tr σ H1 fun xs H2 => Q (x :: xs) H2
section
variable {X : Cx} {e : Expr} {es : List Expr} {te : TE} {t : TA} {pos : Pos}
theorem pnl : PA X [] tNil := fun _ _ _ _ H Q I h => Calls.spliced_nil ⟨[], H, I, .nil, h⟩
theorem pcn (ha : PE X e te) (hr : PA X es t) (hs : starEach (e :: es) X.env = (false, eval e X.env) :: starEach es X.env := by rfl) : PA X (e :: es) (tCons te t) := by
  intro pos pins s σ H Q I h
  rw [hs]
  show wpAny _ _ (spliced ((false, eval e X.env) :: backTo pos (starEach es X.env))) _ _ s
  refine Calls.spliced_cons (thn (ha pins s σ H _ I h) fun u s1 ⟨x, H1, I1, r1, q1⟩ => ?_)
  exact thn (hr pos pins s1 σ H1 _ I1 q1) fun us s2 ⟨xs, H2, I2, r2, q2⟩ => ⟨x :: xs, H2, I2, .cons r1 r2, q2⟩
def tTup (t : TA) : TE := fun σ H Q => t σ H fun xs H1 => xs.length ≤ sizeLine ∧ ∀ p, H1 p = none → Q (.ref p) (upd H1 p (.tup xs))
def tLst (t : TA) : TE := fun σ H Q => t σ H fun xs H1 => xs.length ≤ sizeLine ∧ ∀ p, H1 p = none → Q (.ref p) (upd H1 p (.lst xs))
theorem pe_tup {x1} (h : PA X es t) : PE X (.Tuple es x1 pos) (tTup t) := by
  intro pins s σ H Q I hq
  refine wpAny_Tuple_spliced (thn (h pos pins s σ H _ I hq) fun us s1 ⟨xs, H1, I1, r, z, q⟩ => ⟨by rw [← r.length]; exact z, ?_⟩)
  have hf : H1 s1.heap.objs.size = none := I1.hok.fresh (Nat.le_refl _)
  refine ⟨.ref s1.heap.objs.size, upd H1 s1.heap.objs.size (.tup xs), I1.laid (t' := s1.toks) (fun b u e => Heap.get?_push_of_some _ e) (Nat.le_refl _) ?_, rfl, q _ hf⟩
  exact ⟨z, us, r, ⟨_, Heap.get?_push_size _ rfl, rfl, _, rfl⟩⟩
theorem pe_lst (h : PA X es t) : PE X (.List es pos) (tLst t) := by
  intro pins s σ H Q I hq
  refine wpAny_List_spliced (thn (h pos pins s σ H _ I hq) fun us s1 ⟨xs, H1, I1, r, z, q⟩ => ⟨by rw [← r.length]; exact z, ?_⟩)
  have hf : H1 s1.heap.objs.size = none := I1.hok.fresh (Nat.le_refl _)
  refine ⟨.ref s1.heap.objs.size, upd H1 s1.heap.objs.size (.lst xs), I1.laid (t' := s1.toks) (fun b u e => Heap.get?_push_of_some _ e) (Nat.le_refl _) ?_, rfl, q _ hf⟩
  exact ⟨z, us, 0, r, Heap.get?_push_size _ rfl⟩
end
abbrev Sp := List V → Hp → VK → XK → Prop
abbrev CXT := List Env → Hp → Shared → XK → Value → Shared → Prop
structure Env0 (P : Program) (w : World) (K : Fg) (mg : Str → Option Value) (base : Heap) (A : Around) (outer : List Env) (s : Shared) (H : Hp) : Prop where
  frames : A.frames = some outer
  mod : Mod K mg base
  bs : ∀ b o, base.get? b = some o → s.heap.get? b = some o ∧ H b = none
  bsz : base.objs.size ≤ s.heap.objs.size
  funs : s.heap.FunFrames base outer
  frf : ∀ b ∈ frs outer, H b = none
  hok : HOk P w H s.heap
  bare : AllBare s.gens
def CE (outer : List Env) (P : Program) (w : World) (H : Hp) (s : Shared) (Q : VK) (u : Value) (s' : Shared) : Prop :=
  ∃ v H', s'.os = s.os ∧ AllBare s'.gens ∧ Un (frs outer) [] H H' s.heap s'.heap ∧ HOk P w H' s'.heap ∧ RelV v u ∧ Q v H'
def CR (CX : CXT) (outer : List Env) (P : Program) (w : World) (H : Hp) (s : Shared) (Q : VK) (E : XK) (r : Result) (s' : Shared) : Prop :=
  match r with
  | .ok (.ret u) => CE outer P w H s Q u s'
  | .ok _ => False
  | .error e => CX outer H s E e s'
structure FnOk (P : Program) (w : World) (K : Fg) (mg : Str → Option Value) (base : Heap) (CX : CXT) (k : Nat) (f : Addr) (fd : FuncData) (ps : List Str) (sp : Sp) : Prop where
  len : ∀ vs H Q E, sp vs H Q E → vs.length = ps.length
  run : ∀ (A : Around) (outer : List Env) (s : Shared) (H : Hp) (args : Args) (us : List Value) (vs : List V) (Q : VK) (E : XK), Room k A → Env0 P w K mg base A outer s H → BindsTo s fd args (ps.zip us) → Vals vs us → sp vs H Q E →
    codeAny (model P w) A (.call (.ref f) args) (CR CX outer P w H s Q E) s
theorem FnOk.imp {P : Program} {w : World} {K : Fg} {mg : Str → Option Value} {base : Heap} {CX : CXT} {k : Nat} {f : Addr} {fd : FuncData} {ps : List Str} {sp sp' : Sp} (F : FnOk P w K mg base CX k f fd ps sp)
    (h : ∀ vs H Q E, sp' vs H Q E → sp vs H Q E) : FnOk P w K mg base CX k f fd ps sp' :=
  ⟨fun vs H Q E q => F.len vs H Q E (h _ _ _ _ q), fun A outer s H args us vs Q E hr he hb hv hs => F.run A outer s H args us vs Q E hr he hb hv (h _ _ _ _ hs)⟩
section
variable {X : Cx} {pins : Pn} {σ : St} {H : Hp} {s s' : Shared}
theorem Inv.env0 (I : Inv X pins σ H s) : Env0 X.prog X.w X.K X.mg X.base X.A X.stack s H :=
  ⟨I.ok.frames, I.ok.mod, I.bs, Nat.le_trans I.ok.bsz I.sz, I.stack, I.stkFree, I.hok, I.bare⟩
theorem Inv.after {Q : VK} {u : Value} (I : Inv X pins σ H s) (h : CE X.stack X.prog X.w H s Q u s') : EP X pins σ Q u s' := by
  obtain ⟨v, H', os, bare, un, hok, r, q⟩ := h
  obtain ⟨hh, g, d, t, os'⟩ := s'
  obtain rfl : os' = s.os := os
  exact ⟨v, H', I.call (h' := hh) (g' := g) (d' := d) (t' := t) (ch := []) un hok bare (fun b z => absurd z (by simp)), r, q⟩
end
def tCall (sp : Sp) (dvs : List V) (E : XK) (t : TA) : TE := fun σ H Q => t σ H fun vs H1 => sp (vs ++ dvs) H1 Q E
def Binds (K : Fg) (fd : FuncData) (ps : List Str) (ds : List Value) : Prop :=
  ∀ (s : Shared) (us : List Value), K.In s.heap → (us ++ ds).length = ps.length → BindsTo s fd ⟨us, []⟩ (ps.zip (us ++ ds))
theorem Binds.all {K : Fg} {fd : FuncData} {ps : List Str} (h : ∀ us : List Value, us.length = ps.length → bindArgs fd ⟨us, []⟩ = pure (ps.zip us)) : Binds K fd ps [] := fun s us _ hl => by
  rw [List.append_nil] at hl ⊢
  exact .of_eq (h us hl)
def Passes (CX : CXT) (X : Cx) (E : XK) : Prop := ∀ (pins : Pn) (σ : St) (H : Hp) (s : Shared) (e : Value) (s' : Shared), Inv X pins σ H s → CX X.stack H s E e s' → X.xe e s'
section
variable {X : Cx} {CX : CXT} {k : Nat} {f C : Addr} {fd : FuncData} {ps : List Str} {sp : Sp} {dvs : List V} {ds : List Value} {E : XK} {x m : Str} {p pos apos : Pos} {e o : Expr} {es : List Expr} {ta : TE} {t : TA}
theorem run_fn {pins : Pn} {σ : St} {H : Hp} {s : Shared} {Q : VK} {us : List Value} {vs : List V} (F : FnOk X.prog X.w X.K X.mg X.base CX k f fd ps sp) (hr : Room k X.A) (hb : Binds X.K fd ps ds) (hd : Vals dvs ds) (hx : Passes CX X E)
    (I : Inv X pins σ H s) (r : Vals vs us) (h : sp (vs ++ dvs) H Q E) : wpAny (model X.prog X.w) X.A (call (.ref f) us) (EP X pins σ Q) X.xe s := by
  have r2 : Vals (vs ++ dvs) (us ++ ds) := r.append hd
  have hl : (us ++ ds).length = ps.length := by rw [← r2.length]; exact F.len _ _ _ _ h
  refine wpAny_call (codeAny_mono (F.run X.A X.stack s H ⟨us, []⟩ (us ++ ds) (vs ++ dvs) Q E hr I.env0 (hb s us I.kIn hl) r2 h) fun r s' hq => ?_)
  cases r with
  | error e => exact hx pins σ H s e s' I hq
  | ok fl =>
    cases fl with
    | ret u => exact I.after hq
    | next => exact False.elim hq
    | brk => exact False.elim hq
    | cont => exact False.elim hq
theorem pe_call (F : FnOk X.prog X.w X.K X.mg X.base CX k f fd ps sp) (hr : Room k X.A) (hg : Gl X x) (hm : X.mg x = some (.ref f)) (hk : PySem.W.keepIn X.K (.ref f) = true) (hb : Binds X.K fd ps ds) (hd : Vals dvs ds) (hx : Passes CX X E)
    (ha : PA X (e :: es) t) (hdb : (x == ("__debug__" : Str)) = false := by decide) (he : starEach (e :: es) X.env = (false, eval e X.env) :: starEach es X.env := by rfl) (hpl : (backTo pos (starEach es X.env)).any (·.1) = false := by rfl) :
    PE X (.Call (.Name x p) (e :: es) [] pos) (tCall sp dvs E t) := by
  intro pins s σ H Q I h
  refine wpAny_Call_Name_kw (ld_glob I hg hm ?_ hdb)
  refine PySem.W.callWith_K (h₀ := X.base) I.ok.mod.kin hk (thn (ha pos pins s σ H _ I h) fun us s1 ⟨vs, H1, I1, r, q⟩ => ⟨I1.kIn, ?_⟩) he hpl
  exact run_fn F hr hb hd hx I1 r q
end
def PK (X : Cx) (kws : List Keyword) (t : TA) : Prop :=
  ∀ (pos : Pos) (pins : Pn) (s : Shared) (σ : St) (H : Hp) (Q : List V → Hp → Prop), Inv X pins σ H s → t σ H Q → wpAny (model X.prog X.w) X.A (evalAll ((backToKw pos (keywordEach kws X.env)).map (·.2))) (AP X pins σ Q) X.xe s
section
variable {X : Cx} {CX : CXT} {k : Nat} {f C : Addr} {fd : FuncData} {ps ks : List Str} {sp : Sp} {E : XK} {x m : Str} {p pos apos kpos : Pos} {e o : Expr} {es : List Expr} {kws : List Keyword} {te ta : TE} {t tk : TA} {nm : Option Str}
theorem pk_nil : PK X [] tNil := fun _ _ _ _ H Q I h => wpAny_evalAll_nil ⟨[], H, I, .nil, h⟩
theorem pk_cons (ha : PE X e te) (hr : PK X kws t) : PK X (⟨nm, e, kpos⟩ :: kws) (tCons te t) := by
  intro pos pins s σ H Q I h
  show wpAny _ _ (evalAll ((do let v ← eval e X.env; standAt pos; pure v) :: (backToKw pos (keywordEach kws X.env)).map (·.2))) _ _ s
  refine wpAny_evalAll_cons (wpAny_bind (thn (ha pins s σ H _ I h) fun u s1 ⟨x, H1, I1, r1, q1⟩ => wpAny_bind (wpAny_standAt (wpAny_pure ?_))))
  exact thn (hr pos pins s1 σ H1 _ I1 q1) fun us s2 ⟨xs, H2, I2, r2, q2⟩ => ⟨x :: xs, H2, I2, .cons r1 r2, q2⟩
variable {g : List Value → List Value → List Value} {gV : List V → List V → List V}
end
structure FnScope (N P : List Str) (sc : Scope) : Prop where
  kind : sc.kind = .function
  co : sc.isCoroutine = false
  gen : sc.isGenerator = false
  nd : N.Nodup
  pre : N.take P.length = P
  par : ∀ x ∈ P, sc.names.lookup x = some .local ∨ sc.names.lookup x = some .cell
  nofree : ∀ y ∈ sc.names, y.2 ≠ .free
theorem bindL_out {kindOf : Str → Option NameKind} {x : Str} : ∀ {binds : List (Str × Value)} {m : Str → Option Value}, (∀ v, (x, v) ∉ binds) → bindL kindOf binds m x = m x
  | [], _, _ => rfl
  | (n, v) :: r, m, h => by
    unfold bindL
    rw [bindL_out fun w hw => h w (List.mem_cons_of_mem _ hw)]
    split
    · have : x ≠ n := by rintro rfl; exact h v List.mem_cons_self
      simp [this]
    · rfl
theorem bindC_out {kindOf : Str → Option NameKind} {x : Str} : ∀ {binds : List (Str × Value)} {m : Str → Option Value}, (∀ v, (x, v) ∉ binds) → bindC kindOf binds m x = m x
  | [], _, _ => rfl
  | (n, v) :: r, m, h => by
    unfold bindC
    rw [bindC_out fun w hw => h w (List.mem_cons_of_mem _ hw)]
    split
    · rfl
    · have : x ≠ n := by rintro rfl; exact h v List.mem_cons_self
      simp [this]
theorem bindL_get {kindOf : Str → Option NameKind} {x : Str} {v : Value} : ∀ {P : List Str} {vs : List Value} {i : Nat} {m : Str → Option Value}, P.Nodup → P[i]? = some x → vs[i]? = some v → kindOf x = some .local →
    bindL kindOf (P.zip vs) m x = some v
  | [], _, _, _, _, h, _, _ => by simp at h
  | _ :: _, [], _, _, _, _, h, _ => by simp at h
  | p :: P, w :: vs, 0, m, nd, h1, h2, hk => by
    simp at h1 h2; subst h1; subst h2
    show bindL kindOf ((p, w) :: P.zip vs) m p = _
    unfold bindL
    rw [bindL_out fun v hv => (List.nodup_cons.mp nd).1 (List.of_mem_zip hv).1, if_pos hk]
    simp
  | p :: P, w :: vs, i + 1, m, nd, h1, h2, hk => by
    show bindL kindOf ((p, w) :: P.zip vs) m x = _
    unfold bindL
    exact bindL_get (i := i) (List.nodup_cons.mp nd).2 (by simpa using h1) (by simpa using h2) hk
theorem bindC_get {kindOf : Str → Option NameKind} {x : Str} {v : Value} : ∀ {P : List Str} {vs : List Value} {i : Nat} {m : Str → Option Value}, P.Nodup → P[i]? = some x → vs[i]? = some v → kindOf x ≠ some .local →
    bindC kindOf (P.zip vs) m x = some v
  | [], _, _, _, _, h, _, _ => by simp at h
  | _ :: _, [], _, _, _, _, h, _ => by simp at h
  | p :: P, w :: vs, 0, m, nd, h1, h2, hk => by
    simp at h1 h2; subst h1; subst h2
    show bindC kindOf ((p, w) :: P.zip vs) m p = _
    unfold bindC
    rw [bindC_out fun v hv => (List.nodup_cons.mp nd).1 (List.of_mem_zip hv).1, if_neg hk]
    simp
  | p :: P, w :: vs, i + 1, m, nd, h1, h2, hk => by
    show bindC kindOf ((p, w) :: P.zip vs) m x = _
    unfold bindC
    exact bindC_get (i := i) (List.nodup_cons.mp nd).2 (by simpa using h1) (by simpa using h2) hk
def start (N : List Str) (vs : List V) : St := vs.map some ++ List.replicate (N.length - vs.length) none
def cxOf (CX : CXT) (P : Program) (w : World) (K : Fg) (mg : Str → Option Value) (base : Heap) (N : List Str) (qual : Str) (scope : Scope) (f : Addr) (cd : Value) (A : Around) (outer : List Env) (s : Shared) (H : Hp) (E : XK) : Cx where
  prog := P
  w := w
  K := K
  mg := mg
  base := base
  A := A.deeper (envOfC qual scope s.heap.objs.size f cd)
  N := N
  s₀ := s
  H₀ := H
  env := envOfC qual scope s.heap.objs.size f cd
  outer := outer
  stack := envOfC qual scope s.heap.objs.size f cd :: outer
  ex := []
  calm := true
  fn := fun _ => true
  pn := []
  xe := fun e s' => wpAny (model P w) (A.deeper (envOfC qual scope s.heap.objs.size f cd)) (leaving (envOfC qual scope s.heap.objs.size f cd) e) (fun _ s'' => CX outer H s E e s'') (fun e' s'' => CX outer H s E e' s'') s'
theorem cell_has {sc : Scope} {n : Nat} {x : Str} (h : sc.names.lookup x = some .cell) : ∃ c, (cellsFrom n sc.names []).lookup x = some c := by
  have q := PySem.W.cellsFrom_some sc.names n [] (.inl h)
  exact Option.isSome_iff_exists.mp q
theorem inv_start {CX : CXT} {P : Program} {w : World} {K : Fg} {mg : Str → Option Value} {base : Heap} {N ps : List Str} {qual : Str} {scope : Scope} {f : Addr} {cd : Value} {A : Around} {outer : List Env} {s s1 : Shared} {H : Hp} {E : XK} {us : List Value} {vs : List V}
    (S : FnScope N ps scope) (hd : A.handled = none) (e0 : Env0 P w K mg base A outer s H) (hl : vs.length = ps.length) (r : Vals vs us)
    (x : InCallC s s.heap.objs.size (bindL (envOfC qual scope s.heap.objs.size f cd).kindOf (ps.zip us) fun _ => none) (cellsFrom (s.heap.objs.size + 1) scope.names []) (bindC (envOfC qual scope s.heap.objs.size f cd).kindOf (ps.zip us) fun _ => none) s1) :
    Inv (cxOf CX P w K mg base N qual scope f cd A outer s H E) [] (start N vs) H s1 := by
  have hpl : ps.length ≤ N.length := by have := congrArg List.length S.pre; rw [List.length_take] at this; omega
  obtain ⟨h1, tk, rfl, hk⟩ := x.done
  have noA : ∀ b : Addr, b ∉ (cxOf CX P w K mg base N qual scope f cd A outer s H E).ex := fun b z => absurd (show b ∈ ([] : List Addr) from z) (by simp)
  refine ⟨⟨e0.mod, S.kind, rfl, rfl, Nat.le_refl _, fun y z c h1 h2 => ?_, fun y hy => ?_, fun y c _ h => ?_, fun _ => hd, Around.frames_deeper e0.frames, .inr ⟨rfl, rfl⟩, fun b z => absurd z (noA b), e0.bs, e0.bsz, fun b _ _ => noA b, fun b z => absurd z (noA b), e0.funs, e0.frf⟩,
    rfl, e0.bare, Un.kept hk, ⟨_, x.toInCall.ns, fun i y v h1 h2 h3 => ?_⟩, fun y c h => ⟨_, x.cell y c h⟩, e0.hok.fresh (Nat.le_refl _), fun y c h => ?_, fun p hp => absurd (show p ∈ ([] : Pn) from hp) (by simp), e0.hok.kept hk, ?_⟩
  · exact name_of_addr x.apart (PySem.mem_of_lookup h1) (PySem.mem_of_lookup h2)
  · have hy : scope.names.lookup y = some .cell ∨ scope.names.lookup y = some .free := hy
    rcases hy with hy | hy
    · exact cell_has hy
    · exact absurd rfl (S.nofree _ (PySem.mem_of_lookup hy))
  · exact Nat.le_of_lt (x.above y c (PySem.mem_of_lookup h))
  · have hi : i < vs.length := by
      unfold start at h2
      by_cases hi : i < vs.length
      · exact hi
      · rw [List.getElem?_append_right (by simpa using hi)] at h2
        rw [List.getElem?_replicate] at h2
        split at h2 <;> cases h2
    have ha : vs[i]? = some v := by
      unfold start at h2
      rw [List.getElem?_append_left (by simpa using hi), List.getElem?_map] at h2
      cases e : vs[i]? with
      | none => rw [e] at h2; cases h2
      | some a => rw [e] at h2; cases h2; rfl
    obtain ⟨u, hu, rv⟩ := r.get ha
    have hp : ps[i]? = some y := by
      rw [← S.pre, List.getElem?_take_of_lt (by omega)]; exact h1
    have ndP : ps.Nodup := by rw [← S.pre]; exact S.nd.sublist (List.take_sublist _ _)
    refine ⟨u, rv, ?_⟩
    rcases S.par y (List.mem_of_getElem? hp) with k | k
    · exact .inl ⟨k, bindL_get ndP hp hu k⟩
    · obtain ⟨c, e⟩ := cell_has (n := s.heap.objs.size + 1) k
      refine .inr ⟨.inl k, c, e, ?_⟩
      have q := x.cell y c e
      rw [bindC_get ndP hp hu (by show scope.names.lookup y ≠ _; rw [k]; decide)] at q
      exact q
  · exact e0.hok.fresh (Nat.le_of_lt (x.above y c (PySem.mem_of_lookup h)))
  · unfold start
    show _ = N.length
    rw [List.length_append, List.length_map, List.length_replicate]
    omega
theorem fn_of {CX : CXT} {P : Program} {w : World} {K : Fg} {mg : Str → Option Value} {base : Heap} {k : Nat} {f : Addr} {name qual : Str} {params : Arguments} {body : List Stmt} {scope : Scope} {dV kV doc pm cdv ct oc : Value} {an od : Option Addr}
    {osl : Array (Option Value)} {N ps : List Str} {sp : Sp} (lk : K.lookup f = some ⟨oc, od, .func (PySem.W.fnOf name qual params body scope dV kV doc pm an cdv ct), osl⟩) (hcd : PySem.W.codeIn K cdv qual = true) (S : FnScope N ps scope)
    (len : ∀ vs H Q E, sp vs H Q E → vs.length = ps.length)
    (hbody : ∀ (A : Around) (outer : List Env) (s : Shared) (H : Hp) (vs : List V) (Q : VK) (E : XK), Room k (A.deeper (envOfC qual scope s.heap.objs.size f cdv)) → sp vs H Q E →
      ∃ t, PSs (cxOf CX P w K mg base N qual scope f cdv A outer s H E) body t ∧ t { nx := fun _ H' => Q .non H', rt := Q } (start N vs) H) :
    FnOk P w K mg base CX (k + 1) f (PySem.W.fnOf name qual params body scope dV kV doc pm an cdv ct) ps sp := by
  refine ⟨len, fun A outer s H args us vs Q E hr e0 hb r hsp => ?_⟩
  have hl := len _ _ _ _ hsp
  have KX : K.In s.heap := e0.mod.kin.keeps fun b o e => (e0.bs b o e).1
  have lim : s.heap.NoLimit := e0.mod.nolimit.keeps fun b o e => (e0.bs b o e).1
  have hkind : ∀ y ∈ ps.zip us, scope.names.lookup y.1 = some .local ∨ (scope.names.lookup y.1 = some .cell ∧ ((cellsFrom (s.heap.objs.size + 1) scope.names []).lookup y.1).isSome = true) := fun ⟨n, v⟩ hy => by
    rcases S.par n (List.of_mem_zip hy).1 with q | q
    · exact .inl q
    · exact .inr ⟨q, PySem.W.cellsFrom_some _ _ _ (.inl q)⟩
  refine codeAny_call_function hr.depth (KX _ _ lk) rfl S.co S.gen rfl (PySem.W.codeRec_of KX hcd) (hb _ _ _ _ ?_)
  refine wpAny_newFunctionEnv_cells S.kind hkind fun env he s1 x => ?_
  subst he
  refine ⟨lim.keeps x.toInCall.keep, codeAny_func ?_⟩
  obtain ⟨t, ht, hq⟩ := hbody A outer s H vs Q E (hr.deeper _) hsp
  have I : Inv (cxOf CX P w K mg base N qual scope f cdv A outer s H E) [] (start N vs) H s1 := inv_start S hr.hd e0 hl r x
  refine wpAny_mono (ht [] s1 (start N vs) H _ I hq) (fun fl s' hs => ?_) fun e s' hs => hs
  have fin : ∀ {σ' : St} {H' : Hp} {v : V} {u : Value}, Inv (cxOf CX P w K mg base N qual scope f cdv A outer s H E) [] σ' H' s' → RelV v u → Q v H' → CE outer P w H s Q u s' :=
    fun {σ' H' v u} J rv q => ⟨v, H', J.os, J.bare, J.base, J.hok, rv, q⟩
  cases fl with
  | ret u =>
    obtain ⟨v, σ', H', J, rv, q⟩ := hs
    exact fin J rv q
  | next =>
    obtain ⟨σ', H', J, q⟩ := hs
    exact fin (v := V.non) (u := Value.none) J rfl q
  | brk =>
    obtain ⟨_, _, _, q⟩ := hs
    exact False.elim q
  | cont =>
    obtain ⟨_, _, _, q⟩ := hs
    exact False.elim q
end L2
namespace L2
open PySem PySem.Spec PyProof.Rows
section
variable {X : Cx} {x : Str} {p pos : Pos} {e : Expr} {es : List Expr} {t : TA} {id T : String} {r : List V → Hp → VK → Prop}
def tCB (r : List V → Hp → VK → Prop) (t : TA) : TE := fun σ H Q => t σ H fun vs H1 => r vs H1 Q
theorem pe_callB (hc : CallR X (.builtin id) r) (hg : Gl X x) (hm : X.mg x = none) (hv : bootBuiltins x = some (.builtin id)) (ha : PA X (e :: es) t) (hn : x ≠ "__name__" := by decide) (hdb : (x == ("__debug__" : Str)) = false := by decide)
    (he : starEach (e :: es) X.env = (false, eval e X.env) :: starEach es X.env := by rfl) (hpl : (backTo pos (starEach es X.env)).any (·.1) = false := by rfl) : PE X (.Call (.Name x p) (e :: es) [] pos) (tCB r t) := by
  intro pins s σ H Q I h
  refine wpAny_Call_Name_kw (ld_blt I hg hm hv ?_ hn hdb)
  exact PyProof.Rows.callWith_builtin1 (thn (ha pos pins s σ H _ I h) fun us s1 ⟨vs, H1, I1, r1, q1⟩ => hc pins s1 σ H1 vs us Q I1 r1 q1) he hpl
theorem pe_callTy (hc : CallR X (.type T) r) (hg : Gl X x) (hm : X.mg x = none) (hv : bootBuiltins x = some (.type T)) (ha : PA X (e :: es) t) (hn : x ≠ "__name__" := by decide) (hdb : (x == ("__debug__" : Str)) = false := by decide)
    (he : starEach (e :: es) X.env = (false, eval e X.env) :: starEach es X.env := by rfl) (hpl : (backTo pos (starEach es X.env)).any (·.1) = false := by rfl) : PE X (.Call (.Name x p) (e :: es) [] pos) (tCB r t) := by
  intro pins s σ H Q I h
  refine wpAny_Call_Name_kw (ld_blt I hg hm hv ?_ hn hdb)
  exact PyProof.Rows.callWith_type1 (thn (ha pos pins s σ H _ I h) fun us s1 ⟨vs, H1, I1, r1, q1⟩ => hc pins s1 σ H1 vs us Q I1 r1 q1) he hpl
end
end L2
namespace HT
open PySem PyProof.Rows
section
open PySem.SeqAt
open PySem.AutoSeq1 (wpAny_loadPart')
open PySem.MeetsSeq PySem.MeetsSeq2 PySem.MeetsSeq3
end
section
variable {prog : Program} {w : World} {A : Around} {E : Value → Shared → Prop} {s : Shared}
def sIx (n d : Nat) : Option Int → Nat
  | none => d
  | some v => if v < 0 then (v + (n : Int)).toNat else min v.toNat n
theorem sIx_none (n d : Nat) : sIx n d none = d := rfl
theorem sIx_nat (n d k : Nat) : sIx n d (some (k : Int)) = min k n := by
  show (if (k : Int) < 0 then ((k : Int) + (n : Int)).toNat else min (k : Int).toNat n) = min k n
  rw [if_neg (by omega), Int.toNat_natCast]
end
end HT
namespace L2
open PySem PySem.Spec PyProof.Rows
abbrev TO := St → Hp → (Option Int → Hp → Prop) → Prop
def PO (X : Cx) (e : Option Expr) (t : TO) : Prop :=
  ∀ (pins : Pn) (s : Shared) (σ : St) (H : Hp) (Q : Option Int → Hp → Prop), Inv X pins σ H s → t σ H Q →
    wpAny (model X.prog X.w) X.A (evalPart e X.env) (fun u s' => ∃ o H', Inv X pins σ H' s' ∧ IsPart u o ∧ Q o H') X.xe s
def tNoPart : TO := fun _ H Q => Q none H
def tPart (t : TE) : TO := fun σ H Q => t σ H fun x H1 => ∃ i, x = .int i ∧ Q (some i) H1
theorem intsAre_of {ns : List Int} : ∀ {us : List Value}, Vals (ns.map V.int) us → IntsAre us ns := by
  induction ns with
  | nil => intro us r; rw [List.map_nil] at r; cases r; exact .nil
  | cons n ns ih =>
    intro us r
    rw [List.map_cons] at r
    cases r with
    | cons r1 r2 =>
      obtain ⟨t, e⟩ := r1
      subst e
      exact .cons n t (ih r2)
section
variable {X : Cx} {e : Expr} {te : TE} {lo hi : Option Expr} {tl th : TO} {pos p2 : Pos}
theorem po_none : PO X none tNoPart := by
  intro pins s σ H Q I h
  rw [evalPart_none]
  exact wpAny_pure ⟨none, H, I, .none, h⟩
theorem po_some (h : PE X e te) : PO X (some e) (tPart te) := by
  intro pins s σ H Q I hw
  rw [evalPart_some]
  refine thn (h pins s σ H _ I hw) fun u s1 ⟨x, H1, I1, r1, q1⟩ => ?_
  obtain ⟨i, rfl, q⟩ := q1
  obtain ⟨t, rfl⟩ := r1
  exact ⟨some i, H1, I1, .int i t, q⟩
def SlR (X : Cx) (r : V → Option Int → Option Int → Hp → VK → Prop) : Prop :=
  ∀ (pins : Pn) (s : Shared) (σ : St) (H : Hp) (x : V) (v vl vu : Value) (lo hi : Option Int) (sl : Addr) (Q : VK), Inv X pins σ H s → RelV x v → s.heap.IsSliceOf sl vl vu .none → IsPart vl lo → IsPart vu hi → r x lo hi H Q →
    ∃ T id, typeLookup (.type T) "__getitem__" = pure (some (.builtin id)) ∧ s.TypeIs v T ∧ wpAny (model X.prog X.w) X.A (getItem v (.ref sl)) (EP X pins σ Q) X.xe s
def tSl (r : V → Option Int → Option Int → Hp → VK → Prop) (te : TE) (tl th : TO) : TE := fun σ H Q => te σ H fun x H1 => tl σ H1 fun l H2 => th σ H2 fun u H3 => r x l u H3 Q
theorem pe_slice {r : V → Option Int → Option Int → Hp → VK → Prop} (hr : SlR X r) (he : PE X e te) (hl : PO X lo tl) (hu : PO X hi th) : PE X (.Subscript e (.Slice lo hi none p2) pos) (tSl r te tl th) := by
  intro pins s σ H Q I h
  refine Subscript_ (thn (he pins s σ H _ I h) fun v s1 ⟨x, H1, I1, r1, q1⟩ => ?_)
  refine wpAny_Slice (thn (hl pins s1 σ H1 _ I1 q1) fun vl s2 ⟨l, H2, I2, pl, q2⟩ => thn (hu pins s2 σ H2 _ I2 q2) fun vu s3 ⟨u, H3, I3, pu, q3⟩ => ?_)
  rw [evalPart_none]
  refine wpAny_pure ?_
  have I4 : Inv X pins σ H3 { s3 with heap := s3.heap.push { cls := .type "slice", data := .fields #[vl, vu, .none] } } := I3.kept (t' := s3.toks) fun b ob q => Heap.get?_push_of_some _ q
  obtain ⟨T, id, hT, ht, hg⟩ := hr pins { s3 with heap := s3.heap.push { cls := .type "slice", data := .fields #[vl, vu, .none] } } σ H3 x v vl vu l u s3.heap.objs.size Q I4 r1 (Heap.IsSliceOf.new ..) pl pu q3
  show wpAny (model X.prog X.w) X.A (subscriptTail e (.Slice lo hi none p2) v (.ref s3.heap.objs.size)) (EP X pins σ Q) X.xe { s3 with heap := s3.heap.push { cls := .type "slice", data := .fields #[vl, vu, .none] } }
  exact tail_any (ops := [.ref s3.heap.objs.size, v]) ht hT hg (by with_unfolding_all rfl)
def cutV (xs : List V) (lo hi : Option Int) : List V := (xs.drop (HT.sIx xs.length 0 lo)).take (HT.sIx xs.length xs.length hi - HT.sIx xs.length 0 lo)
theorem cutV_length (xs : List V) (lo hi : Option Int) : (cutV xs lo hi).length ≤ xs.length := by
  unfold cutV
  rw [List.length_take, List.length_drop]
  omega
end
end L2
namespace L2
open PySem PySem.Spec PyProof.Rows
def ixN (n : Nat) (i : Int) : Option Nat := if 0 ≤ i then (if i < n then some i.toNat else none) else if -(n : Int) ≤ i then some (i + n).toNat else none
def atI {α : Type} (xs : List α) (i : Int) : Option α := (ixN xs.length i).bind fun j => xs[j]?
theorem ixN_seq {n : Nat} {i : Int} {j : Nat} (h : ixN n i = some j) : seqIndex? i n = some j ∧ j < n ∧ -(n : Int) ≤ i ∧ i < n := by
  unfold ixN at h
  by_cases h0 : 0 ≤ i
  · rw [if_pos h0] at h
    by_cases h1 : i < n
    · rw [if_pos h1] at h
      have e : i.toNat = j := Option.some.inj h
      exact ⟨by rw [seqIndex_of h0 h1, e], by omega, by omega, h1⟩
    · rw [if_neg h1] at h; cases h
  · rw [if_neg h0] at h
    by_cases h1 : -(n : Int) ≤ i
    · rw [if_pos h1] at h
      have e : (i + n).toNat = j := Option.some.inj h
      exact ⟨by rw [seqIndex_neg (by omega) h1, e], by omega, h1, by omega⟩
    · rw [if_neg h1] at h; cases h
theorem atI_get {α : Type} {xs : List α} {i : Int} {v : α} (h : atI xs i = some v) : ∃ j, seqIndex? i xs.length = some j ∧ xs[j]? = some v ∧ j < xs.length ∧ -(xs.length : Int) ≤ i ∧ i < xs.length := by
  unfold atI at h
  cases e : ixN xs.length i with
  | none => rw [e] at h; cases h
  | some j =>
    rw [e] at h
    obtain ⟨h1, h2, h3, h4⟩ := ixN_seq e
    exact ⟨j, h1, h, h2, h3, h4⟩
theorem atI_nat {α : Type} {xs : List α} {j : Nat} {v : α} (h : xs[j]? = some v) : atI xs (j : Int) = some v := by
  have hj : j < xs.length := (List.getElem?_eq_some_iff.mp h).1
  have e : ixN xs.length (j : Int) = some j := by
    unfold ixN
    rw [if_pos (by omega), if_pos (by omega)]; simp
  unfold atI; rw [e]; exact h
def PlainIx (b : Expr) : Prop := ∀ o i, subscripted b false o i = operate [o, i] (getItem o i)
def IxR (X : Cx) (r : R2) : Prop :=
  ∀ (value slice : Expr) (pins : Pn) (s : Shared) (σ : St) (H : Hp) (x y : V) (v u : Value) (Q : VK), Inv X pins σ H s → RelV x v → RelV y u → r x y H Q →
    subscripted slice false v u = operate [v, u] (getItem v u) → wpAny (model X.prog X.w) X.A (subscriptTail value slice v u) (EP X pins σ Q) X.xe s
def MtR (X : Cx) (id : String) (r : V → List V → Hp → VK → Prop) : Prop :=
  ∀ (pins : Pn) (s : Shared) (σ : St) (H : Hp) (x : V) (xs : List V) (v : Value) (us : List Value) (Q : VK), Inv X pins σ H s → RelV x v → Vals xs us → r x xs H Q →
    wpAny (model X.prog X.w) X.A (call (.builtin id) (v :: us)) (EP X pins σ Q) X.xe s
section
variable {X : Cx} {a b : Expr} {ta tb : TE} {pos : Pos}
theorem pe_ix {r : R2} (hr : IxR X r) (ha : PE X a ta) (hb : PE X b tb) (hs : PlainIx b) : PE X (.Subscript a b pos) (tOp r ta tb) := by
  intro pins s σ H Q I h
  exact Subscript_ (binT ha hb I h fun v u s2 x y H2 I2 rx ry q => hr a b pins s2 σ H2 x y v u Q I2 rx ry q (hs _ _))
def rIxL (K : Fg) : R2 := fun x y H Q => ∃ p xs i v, x = .ref p ∧ y = .int i ∧ SqL K H p xs ∧ atI xs i = some v ∧ Q v H
def rIxT (K : Fg) : R2 := fun x y H Q => ∃ p xs i v, x = .ref p ∧ y = .int i ∧ SqT K H p xs ∧ atI xs i = some v ∧ Q v H
theorem ixl : IxR X (rIxL X.K) := by
  intro value slice pins s σ H x y v u Q I rx ry h hs
  obtain ⟨p, xs, i, z, rfl, rfl, hq, he, q⟩ := h
  cases rx
  obtain ⟨t, rfl⟩ := ry
  obtain ⟨its, r, pl, hz⟩ := I.list hq
  obtain ⟨j, h1, h2, h3, h4, h5⟩ := atI_get he
  obtain ⟨w, ew, rw'⟩ := r.get h2
  have hl := r.length
  have hn := line63
  have fin : EP X pins σ Q w s := ⟨z, H, I, rw', q⟩
  by_cases h0 : 0 ≤ i
  · have hj : i.toNat = j := by
      rw [seqIndex_of h0 h5] at h1
      exact Option.some.inj h1
    exact item_listR pl.isList h0 (by omega) (by rw [hj]; simpa using ew) fin hs
  · have hj : (i + (its.toArray.size : Int)).toNat = j := by
      rw [seqIndex_neg (by omega) h4] at h1
      rw [List.size_toArray, ← hl]
      exact Option.some.inj h1
    exact subscriptTail_builtinR (x := w) pl.isList.typeIs slot_list_getitem.lookup
      (wpAny_getItem_list_neg (Q := fun r s' => r = w ∧ EP X pins σ Q r s') pl.isList (by omega) (by rw [List.size_toArray] <;> omega) (by omega) (by rw [hj]; simpa using ew) ⟨rfl, fin⟩) hs
theorem ixt : IxR X (rIxT X.K) := by
  intro value slice pins s σ H x y v u Q I rx ry h hs
  obtain ⟨p, xs, i, z, rfl, rfl, hq, he, q⟩ := h
  cases rx
  obtain ⟨t, rfl⟩ := ry
  obtain ⟨its, r, pl, hz⟩ := I.tuple hq
  obtain ⟨j, h1, h2, h3, h4, h5⟩ := atI_get he
  obtain ⟨w, ew, rw'⟩ := r.get h2
  have hl := r.length
  have hn := line63
  have fin : EP X pins σ Q w s := ⟨z, H, I, rw', q⟩
  exact subscriptTail_builtinR (x := w) pl.typeIs slot_tuple_getitem.lookup
    (getItem_tuple (j := j) (Q := fun r s' => r = w ∧ EP X pins σ Q r s') pl (by omega) (by omega) (by rw [List.size_toArray, ← hl]; exact h1) (by simpa using ew) ⟨rfl, fin⟩) hs
theorem mapSeq_set (its : List Value) (n j : Nat) (u : Value) : Obj.mapSeq (·.setIfInBounds j u) { cls := .type "list", data := .seq its.toArray n } = { cls := .type "list", data := .seq (its.set j u).toArray n } := by
  simp [Obj.mapSeq]
theorem Inv.lst {pins : Pn} {σ : St} {H : Hp} {s : Shared} {p : Addr} {xs : List V} (I : Inv X pins σ H s) (h : H p = some (.lst xs)) :
    ∃ (its : List Value) (n : Nat), Vals xs its ∧ s.heap.get? p = some { cls := .type "list", data := .seq its.toArray n } ∧ xs.length ≤ sizeLine := by
  obtain ⟨z, its, n, r, e⟩ := I.hok p _ h
  exact ⟨its, n, r, e, z⟩
theorem Inv.lstUpd {pins : Pn} {σ : St} {H : Hp} {s : Shared} {p : Addr} {xs ys : List V} {its its' : List Value} {n n' : Nat} {f : Obj → Obj} (I : Inv X pins σ H s) (h : H p = some (.lst xs))
    (ho : s.heap.get? p = some { cls := .type "list", data := .seq its.toArray n }) (hf : f { cls := .type "list", data := .seq its.toArray n } = { cls := .type "list", data := .seq its'.toArray n' }) (r : Vals ys its') (hz : ys.length ≤ sizeLine) (t : Nat) :
    Inv X pins σ (upd H p (.lst ys)) { s with heap := s.heap.update p f, toks := t } := by
  have e : (s.heap.update p f).get? p = some { cls := .type "list", data := .seq its'.toArray n' } := by
    rw [Heap.get?_update_self f ho (by rw [hf] <;> rfl), hf]
  refine I.write (x := p) (e := p) (by rw [h]; trivial) (.inl rfl) (fun b u hb q => (Heap.get?_update_other _ _ (Ne.symm hb)).trans q) ⟨_, e⟩ ?_
  exact ⟨hz, its', n', r, e⟩
def rSetL : V → V → V → Hp → (Hp → Prop) → Prop := fun o i v H Q => ∃ p xs k j, o = .ref p ∧ i = .int k ∧ H p = some (.lst xs) ∧ ixN xs.length k = some j ∧ Q (upd H p (.lst (xs.set j v)))
theorem set_list : PSet X rSetL := by
  intro pins s σ H o i v ov iv u Q I ro ri rv h
  obtain ⟨p, xs, k, j, rfl, rfl, hp, hj, q⟩ := h
  cases ro
  obtain ⟨t, rfl⟩ := ri
  obtain ⟨its, n, r, ho, hz⟩ := I.lst hp
  obtain ⟨h1, h2, h3, h4⟩ := ixN_seq hj
  have hl := r.length
  have hn := line63
  have I' : Inv X pins σ (upd H p (.lst (xs.set j v))) { s with heap := s.heap.update p (Obj.mapSeq (·.setIfInBounds j u)) } :=
    I.lstUpd hp ho (mapSeq_set its n j u) (r.set rv j) (by rw [List.length_set]; exact hz) s.toks
  by_cases h0 : 0 ≤ k
  · have hk : k.toNat = j := by
      rw [seqIndex_of h0 h4] at h1
      exact Option.some.inj h1
    exact PySem.W.ki_setAt ho h0 (by omega) (by rw [List.size_toArray, ← hl]; exact h4) (by rw [hk]; exact ⟨_, I', q⟩)
  · have hk : (k + (its.toArray.size : Int)).toNat = j := by
      rw [seqIndex_neg (by omega) h3] at h1
      rw [List.size_toArray, ← hl]
      exact Option.some.inj h1
    exact PySem.W.ki_setBack ho (by omega) (by rw [List.size_toArray, ← hl]; exact h3) (by omega) (by rw [hk]; exact ⟨_, I', q⟩)
theorem slice_bounds (lo hi : Option Int) (n : Nat) : (sliceBounds lo hi none n).1 = ((HT.sIx n 0 lo : Nat) : Int) ∧ (sliceBounds lo hi none n).2.1 = ((HT.sIx n n hi : Nat) : Int) ∧ (sliceBounds lo hi none n).2.2 = 1 := by
  refine ⟨?_, ?_, rfl⟩
  · cases lo with
    | none => simp [sliceBounds, HT.sIx]
    | some i =>
      simp only [sliceBounds, HT.sIx, Option.getD_none, show (1 : Int) > 0 by decide, if_true]
      by_cases h : i < 0
      · simp only [h, if_true] <;> omega
      · simp only [h, if_false] <;> omega
  · cases hi with
    | none => simp [sliceBounds, HT.sIx]
    | some i =>
      simp only [sliceBounds, HT.sIx, Option.getD_none, show (1 : Int) > 0 by decide, if_true]
      by_cases h : i < 0
      · simp only [h, if_true] <;> omega
      · simp only [h, if_false] <;> omega
theorem slicePick_cut (its : List Value) (lo hi : Option Int) : slicePick its.toArray lo hi none = ((its.drop (HT.sIx its.length 0 lo)).take (HT.sIx its.length its.length hi - HT.sIx its.length 0 lo)).toArray := by
  obtain ⟨h1, h2, h3⟩ := slice_bounds lo hi its.toArray.size
  unfold slicePick
  rw [h1, h2, h3]
  simp only [sliceRange_one, pick_run, List.size_toArray] <;> rfl
def rSlL (K : Fg) : V → Option Int → Option Int → Hp → VK → Prop := fun x lo hi H Q => ∃ a xs, x = .ref a ∧ SqL K H a xs ∧ ∀ p, H p = none → Q (.ref p) (upd H p (.lst (cutV xs lo hi)))
theorem sl_list : SlR X (rSlL X.K) := by
  intro pins s σ H x v vl vu lo hi sl Q I rx hs pl pu h
  obtain ⟨a, xs, rfl, hx, q⟩ := h
  cases rx
  obtain ⟨its, r, ht, hz⟩ := I.list hx
  have hlen := r.length
  refine ⟨"list", _, slot_list_getitem.lookup, ht.isList.typeIs, ?_⟩
  refine wpAny_getItem_list_slice ht.isList hs pl pu .none (by simp) ?_ (by rw [List.size_toArray] <;> omega)
  rw [slicePick_cut, ← hlen]
  refine ⟨.ref s.heap.objs.size, _, I.laid (t' := s.toks) (o := .lst (cutV xs lo hi)) (fun b ob q => Heap.get?_push_of_some _ q) (Nat.le_refl _) ?_, rfl, q _ (I.hok.fresh (Nat.le_refl _))⟩
  exact ⟨Nat.le_trans (cutV_length xs lo hi) hz, _, 0, (r.drop (HT.sIx xs.length 0 lo)).take (HT.sIx xs.length xs.length hi - HT.sIx xs.length 0 lo), Heap.get?_push_size _ rfl⟩
theorem call_len_seq : CallR X (.builtin "len") (fun xs H Q => ∃ p ys, xs = [.ref p] ∧ (SqL X.K H p ys ∨ SqT X.K H p ys) ∧ Q (.int ys.length) H) := by
  intro pins s σ H xs us Q I r h
  obtain ⟨p, ys, rfl, hq, q⟩ := h
  obtain ⟨u, rfl, rx⟩ := vals1 r
  cases rx
  have hn := line63
  rcases hq with hq | hq
  · obtain ⟨its, r', pl, hz⟩ := I.list hq
    have hlen := r'.length
    exact Calls.call_len_list pl.isList (by simp only [List.size_toArray] <;> omega) ⟨.int ys.length, H, I.tok _, ⟨s.toks + 1, by rw [List.size_toArray, hlen]⟩, q⟩
  · obtain ⟨its, r', pl, hz⟩ := I.tuple hq
    have hlen := r'.length
    exact len_tuple pl (by simp only [List.size_toArray] <;> omega) ⟨.int ys.length, H, I.tok _, ⟨s.toks + 1, by rw [List.size_toArray, hlen]⟩, q⟩
theorem call_len_str : CallR X (.builtin "len") (fun xs H Q => ∃ z, xs = [.str z] ∧ z.length ≤ sizeLine ∧ Q (.int z.length) H) := by
  intro pins s σ H xs us Q I r h
  obtain ⟨z, rfl, hz, q⟩ := h
  obtain ⟨u, rfl, t, rfl⟩ := vals1 r
  have hn := line63
  exact len_str (by omega) ⟨.int z.length, H, I.tok _, ⟨_, rfl⟩, q⟩
theorem call_list_of : CallR X (.type "list") (fun xs H Q => ∃ p ys, xs = [.ref p] ∧ (SqL X.K H p ys ∨ SqT X.K H p ys) ∧ ∀ l, H l = none → Q (.ref l) (upd H l (.lst ys))) := by
  intro pins s σ H xs us Q I r h
  obtain ⟨p, ys, rfl, hq, q⟩ := h
  obtain ⟨u, rfl, rx⟩ := vals1 r
  cases rx
  have fin : ∀ (its : List Value), Vals ys its → ys.length ≤ sizeLine → ∀ (h' : Heap) (c' : Nat), (∀ b o', s.heap.get? b = some o' → h'.get? b = some o') →
      h'.get? s.heap.objs.size = some { cls := .type "list", dict := none, data := .seq its.toArray c', slots := #[] } → EP X pins σ Q (.ref s.heap.objs.size) { s with heap := h' } := fun its r' hz h' c' kp e =>
    ⟨.ref s.heap.objs.size, _, I.laid (t' := s.toks) kp (Nat.le_refl _) (show ObjOk X.prog X.w _ h' _ (.lst ys) from ⟨hz, its, c', r', e⟩), rfl, q _ (I.hok.fresh (Nat.le_refl _))⟩
  rcases hq with hq | hq
  · obtain ⟨its, r', pl, hz⟩ := I.list hq
    have hlen := r'.length
    obtain ⟨o, ho, hc, n, hd⟩ := pl.isList
    exact call_list_seq p (.inl rfl) ho hc hd (fun h' c' kp e => fin its r' hz h' c' kp e) (by simp only [List.size_toArray] <;> omega)
  · obtain ⟨its, r', pl, hz⟩ := I.tuple hq
    have hlen := r'.length
    obtain ⟨o, ho, hc, n, hd⟩ := pl
    exact call_list_seq p (.inr rfl) ho hc hd (fun h' c' kp e => fin its r' hz h' c' kp e) (by simp only [List.size_toArray] <;> omega)
def tyV (K : Fg) (T : String) (x : V) (H : Hp) : Prop := match x with
  | .str _ => T = "str"
  | .int _ => T = "int"
  | .ref p => (T = "list" ∧ ∃ xs, SqL K H p xs) ∨ (T = "tuple" ∧ ∃ o, K.lookup p = some o ∧ o.cls = .type "tuple" ∧ o.dict = none) ∨
      (T = "dict" ∧ ((∃ kvs, H p = some (.dK kvs)) ∨ ∃ kvs, H p = some (.dT kvs))) ∨ (T = "set" ∧ ∃ S n, H p = some (.set S n))
  | _ => False
theorem tyV_is {pins : Pn} {σ : St} {H : Hp} {s : Shared} {T : String} {x : V} {v : Value} (I : Inv X pins σ H s) (r : RelV x v) (ty : tyV X.K T x H) :
    s.TypeIs v T ∧ ∀ a, v = .ref a → ∃ ob, s.heap.get? a = some ob ∧ ob.dict = none := by
  cases x with
  | str z =>
    obtain ⟨t, rfl⟩ := r
    cases (show T = "str" from ty)
    exact ⟨typeIs_str s z t, fun _ e => nomatch e⟩
  | int i =>
    obtain ⟨t, rfl⟩ := r
    cases (show T = "int" from ty)
    exact ⟨typeIs_int s i t, fun _ e => nomatch e⟩
  | ref p =>
    cases r
    rcases ty with ⟨rfl, xs, hq⟩ | ⟨rfl, o, hk, hc, hd⟩ | ⟨rfl, hk⟩ | ⟨rfl, S, n, hk⟩
    · obtain ⟨its, _, pl, _⟩ := I.list hq
      refine ⟨pl.isList.typeIs, fun a e => ?_⟩
      cases e
      obtain ⟨o, n, e, c, hd, _⟩ := pl
      exact ⟨o, e, hd⟩
    · refine ⟨⟨o, I.kIn p o hk, hc⟩, fun a e => ?_⟩
      cases e
      exact ⟨o, I.kIn _ o hk, hd⟩
    · have z : ∃ o, s.heap.get? p = some o ∧ o.ExactDict := by
        rcases hk with ⟨kvs, hk⟩ | ⟨kvs, hk⟩
        · obtain ⟨_, _, _, _, o, _, _, e, ex, _⟩ := I.hok p _ hk
          exact ⟨o, e, ex⟩
        · obtain ⟨_, _, _, _, o, _, _, e, ex, _⟩ := I.hok p _ hk
          exact ⟨o, e, ex⟩
      obtain ⟨o, e, ex⟩ := z
      refine ⟨⟨o, e, ex.1⟩, fun a e2 => ?_⟩
      cases e2
      exact ⟨o, e, ex.2.1⟩
    · obtain ⟨o, _, _, _, e, ex, _⟩ := I.hok p _ hk
      refine ⟨⟨o, e, ex.1⟩, fun a e2 => ?_⟩
      cases e2
      exact ⟨o, e, ex.2.1⟩
  | _ => exact False.elim ty
def tBM (K : Fg) (T : String) (r : V → List V → Hp → VK → Prop) (to : TE) (t : TA) : TE := fun σ H Q => to σ H fun x H1 => tyV K T x H1 ∧ t σ H1 fun xs H2 => r x xs H2 Q
variable {o e : Expr} {es : List Expr} {to : TE} {t : TA} {name : Str} {apos cpos : Pos} {T id : String} {r : V → List V → Hp → VK → Prop}
theorem pe_bm (pa : PlainAttrs T) (slot : Slot T name id) (hty : typeOf (.builtin id) = pure (.type "method_descriptor")) (hm : MtR X id r) (ho : PE X o to) (ha : PA X (e :: es) t)
    (hbase : attributeBase o name X.env (eval o X.env) = eval o X.env := by rfl)
    (hfew : ((backTo cpos (starEach (e :: es) X.env)).all (fun x => !x.1) && (backToKw cpos (keywordEach [] X.env)).all (fun x => x.1.isSome)
      && decide ((e :: es).length + ([] : List Keyword).length + (if ([] : List Keyword).isEmpty then 0 else 1) < 30)) = true := by rfl)
    (hline : (apos.endLine == cpos.line) = true := by rfl) (hs : starEach (e :: es) X.env = (false, eval e X.env) :: starEach es X.env := by rfl) (hplain : (backTo cpos (starEach es X.env)).any (·.1) = false := by rfl) :
    PE X (.Call (.Attribute o name apos) (e :: es) [] cpos) (tBM X.K T r to t) := by
  intro pins s σ H Q I h
  refine wpAny_Call_method_late hbase hfew hline rfl (thn (ho pins s σ H _ I h) fun v s1 ⟨x, H1, I1, r1, ty, q1⟩ => ?_)
  obtain ⟨h1, h2⟩ := tyV_is I1 r1 ty
  refine ⟨T, id, pa, slot, hty, h1, h2, ?_⟩
  have hA := ha cpos pins s1 σ H1 _ I1 q1
  rw [hs] at hA ⊢
  refine Calls.callWith_builtin (by show (false || (backTo cpos (starEach es X.env)).any (·.1)) = false; rw [hplain] <;> rfl) (Calls.evalArgs_plain ?_)
  exact thn hA fun us s2 ⟨vs, H2, I2, r2, q2⟩ => hm pins s2 σ H2 x vs v us Q I2 r1 r2 q2
/- xs.append(e), list.index on a module's tuple .. are MtR facts of 06m -/
end
end L2
namespace L2
open PySem PySem.Spec PyProof.Rows
def MtM (X : Cx) (id : String) (r : V → List V → Hp → VK → Prop) : Prop :=
  ∀ (pins : Pn) (s : Shared) (σ : St) (H : Hp) (x : V) (xs : List V) (v : Value) (us : List Value) (Q : VK), Inv X pins σ H s → RelV x v → Vals xs us → r x xs H Q →
    wpAny (model X.prog X.w) X.A (call (.builtin id) (v :: us)) (EP X pins σ Q) X.xe s
theorem Vals.one : ∀ {x : V} {us : List Value}, Vals [x] us → ∃ u, us = [u] ∧ RelV x u
  | _, _, .cons r .nil => ⟨_, rfl, r⟩
section
variable {X : Cx} {pins : Pn} {σ : St} {H : Hp} {s : Shared} {l b : Addr} {xs ys zs : List V}
theorem Inv.lset {its its' : List Value} {n : Nat} {f : Array Value → Array Value} {t' : Nat} (I : Inv X pins σ H s) (hH : H l = some (.lst xs))
    (e : s.heap.get? l = some { cls := .type "list", data := .seq its.toArray n }) (hf : f its.toArray = its'.toArray) (hv : Vals ys its') (hz : ys.length ≤ sizeLine) :
    Inv X pins σ (upd H l (.lst ys)) { s with heap := s.heap.update l (Obj.mapSeq f), toks := t' } := by
  have q := PySem.IsL.update e f
  rw [hf] at q
  refine I.write (x := l) (e := l) (by rw [hH]; exact trivial) (.inl rfl) (fun b' u hb hu => (Heap.get?_update_other s.heap (Obj.mapSeq f) (Ne.symm hb)).trans hu) ⟨_, q⟩ ?_
  exact ⟨hz, its', _, hv, q⟩
theorem Inv.lstM (I : Inv X pins σ H s) (hH : H l = some (.lst xs)) : xs.length ≤ sizeLine ∧ ∃ (its : List Value) (n : Nat), Vals xs its ∧ xs.length = its.length ∧ s.heap.get? l = some { cls := .type "list", data := .seq its.toArray n } := by
  obtain ⟨z, its, n, r, e⟩ := I.hok l _ hH
  exact ⟨z, its, n, r, r.length, e⟩
end
section
variable {X : Cx}
def rAppend : V → List V → Hp → VK → Prop := fun x vs H Q => ∃ l xs y, x = .ref l ∧ vs = [y] ∧ H l = some (.lst xs) ∧ xs.length < sizeLine ∧ Q .non (upd H l (.lst (xs ++ [y])))
theorem mt_append : MtM X "list.append" rAppend := by
  intro pins s σ H x vs v us Q I rx rv h
  obtain ⟨l, xs, y, rfl, rfl, hH, hz, q⟩ := h
  cases rx
  obtain ⟨u, rfl, ru⟩ := rv.one
  obtain ⟨z, its, n, r, hl, e⟩ := I.lstM hH
  refine call_meets F.slot_list_append ⟨_, e, rfl⟩ F.entry_list_append (F.args_list_append_2 _ _) (PySem.list_append l its.toArray n u (by rw [List.size_toArray]; omega)) ⟨e, ?_⟩
  refine ⟨.non, _, I.lset (its' := its ++ [u]) hH e (by simp) (r.append (.cons ru .nil)) ?_, rfl, q⟩
  rw [List.length_append, List.length_singleton]
  omega
end
section
variable {prog : Program} {w : World} {A : Around} {E : Value → Shared → Prop} {s : Shared}
set_option maxRecDepth 100000 in
end
section
variable {X : Cx}
end
end L2
namespace Att
open PySem PySem.W PySem.Calls PyProof.Rows
theorem ints_of_wellAll {P : Params} {h : Heap} : ∀ (ns : List Int) (vs : List Value), WellAll P h vs (ns.map WData.int) → IntsAre vs ns := by
  intro ns
  induction ns with
  | nil =>
    intro vs w
    rw [List.map_nil] at w
    cases w
    exact .nil
  | cons n ns ih =>
    intro vs w
    rw [List.map_cons] at w
    cases w with
    | cons a b =>
      cases a
      exact .cons _ _ (ih _ b)
theorem script_of {l : OpenLaw} {n : Nat} (hn : l.most = some n) {P : Params} {h : Heap} {args : List WData} {vals : List Value}
    (hpre : l.row.toRowW.claim.pre args = true) (hwl : WellAll P h vals args) :
    ∃ a vs ns, vals = [Value.ref a] ∧ args = [WData.list (ns.map WData.int)] ∧ h.get? a = some { cls := .type "list", data := .seq vs.toArray } ∧ IntsAre vs ns ∧ ns.length ≤ n := by
  have hsh : WShape.hasAll [] args [.list .int] = true := (pre_splitW hpre).1
  have hc : l.pre.holds [] { args := args } = true := (pre_splitW hpre).2
  obtain ⟨d, r, rfl, h1, h2⟩ := hasAllW_cons hsh
  obtain rfl := hasAllW_nil h2
  obtain ⟨xs, rfl, h3⟩ := hasW_list h1
  obtain ⟨ns, rfl⟩ := items_int h3
  have hlen : ns.length ≤ n := by
    unfold OpenLaw.pre at hc
    have h4 : (WTm.not (.lt (.lit (.int (n : Int))) (.len (.arg 0)))).holds [] { args := [.list (ns.map .int)] } = true := by
      have h4 := (holds_andW hc).1
      rw [hn] at h4
      exact h4
    have h5 := condW_of h4 (w_not (w_lt w_lit (w_len_list (w_arg rfl))))
    rw [List.length_map] at h5
    refine Nat.le_of_not_lt fun q => ?_
    have q' : (n : Int) < ((ns.length : Nat) : Int) := by omega
    first
      | (rw [decide_eq_true q'] at h5; exact absurd h5 (by decide))
      | (simp at h5; omega)
  cases hwl with
  | cons w1 w2 =>
    cases w2
    cases w1 with
    | list ho hall => exact ⟨_, _, ns, rfl, rfl, ho, ints_of_wellAll ns _ hall, hlen⟩
theorem post_true (l : OpenLaw) (args : List WData) : l.row.toRowW.claim.post args (.bool true) args = true :=
  postW_of (r := l.row.toRowW) (X := (true == true))
    (show WShape.has [] (.bool true) .bool = true by first | rfl | decide | simp [WShape.has, WShape.arms, WShape.armsAll])
    (show (WTm.eq .res (.lit (.bool true))).value [] { args := args, res := some (.bool true), after := args } = some (.bool (true == true)) from w_eq_bool (w_res rfl) w_lit) rfl
section
variable {prog : Program} {w : World} {A : Around} {E : Value → Shared → Prop} {s : Shared} {K : Frag}
end
end Att
namespace L2
open PySem PySem.Spec PyProof.Rows
theorem vals_ints : ∀ {vs : List Value} {ns : List Int}, IntsAre vs ns → Vals (ns.map V.int) vs
  | _, _, .nil => .nil
  | _, _, .cons n t h => .cons ⟨t, rfl⟩ (vals_ints h)
def Only (H : Hp) : Prop := ∀ b, H b = none ∨ ∃ o xs, H b = some (.frz o (.lst xs))
theorem law_call {P : Program} {w : World} {K : Fg} {mg mb : Str → Option Value} {CX : CXT} {k : Nat} {fa a : Addr} {fd : FuncData} {x : Str} {sp : Sp} {s₁ : Shared} {vs : List Value} {ns : List Int}
    (KX : K.In s₁.heap) (hns : s₁.heap.Ns mainGlobals mg) (hb : s₁.heap.Ns builtinsNs mb) (hbb : ∀ x : Str, x ≠ "__name__" → mb x = bootBuiltins x) (hlim : s₁.heap.NoLimit) (hg : s₁.gens = #[])
    (ha : s₁.heap.get? a = some { cls := .type "list", data := .seq vs.toArray }) (hi : IntsAre vs ns) (hl : ns.length ≤ sizeLine) (hr : Room k callerA)
    (F : ∀ base : Heap, K.In base → base.Ns mainGlobals mg → FnOk P w K mg base CX k fa fd [x] sp) (hbind : ∀ (s : Shared) (u : Value), BindsTo s fd ⟨[u], []⟩ [(x, u)])
    (hsp : ∀ H : Hp, Only H → SqL K H a (ns.map V.int) → sp [.ref a] H (fun v _ => v = .bl true) fun _ _ _ => False)
    (hCX : ∀ H e s', CX [] H s₁ (fun _ _ _ => False) e s' → False) :
    codeAny (model P w) callerA (.call (.ref fa) ⟨[.ref a], []⟩) (fun r s' => r = .ok (.ret (.bool true)) ∧ OldK s₁.heap s'.heap ∧ s'.os = s₁.os ∧ AllBare s'.gens) s₁ := by
  have rv := vals_ints hi
  have lenV := hi.length
  -- from an abstract heap in which nothing but the script may be tracked
  have core : ∀ H : Hp, Only H → SqL K H a (ns.map V.int) → HOk P w H s₁.heap → (∀ b, H b ≠ none → b = a) → (H a ≠ none → K.lookup a = none) →
      codeAny (model P w) callerA (.call (.ref fa) ⟨[.ref a], []⟩) (fun r s' => r = .ok (.ret (.bool true)) ∧ OldK s₁.heap s'.heap ∧ s'.os = s₁.os ∧ AllBare s'.gens) s₁ := by
    intro H hO hS hok hA hK
    have base_of : ∀ {b : Addr} {o : Obj}, s₁.heap.get? b = some o → H b = none → (hidT s₁.heap H).get? b = some o := fun e n => hidT_get e n
    have noA : ∀ {b : Addr} {o : Obj} {es : Array DictEntry} {ep : Nat}, s₁.heap.get? b = some o → o.data = .dict es ep → H b = none := fun {b o es ep} e d => by
      cases q : H b with
      | none => rfl
      | some u =>
        have e' : b = a := hA b (by rw [q]; simp)
        subst e'
        rw [ha] at e; cases e
        have d' : Data.seq vs.toArray _ = Data.dict es ep := d
        cases d'
    have nsK : ∀ {b : Addr} {m : Str → Option Value}, s₁.heap.Ns b m → (hidT s₁.heap H).Ns b m := fun {b m} ⟨o, es, ep, e, d, r⟩ => ⟨o, es, ep, base_of e (noA e d), d, r⟩
    have hKb : K.In (hidT s₁.heap H) := fun b o e => base_of (KX b o e) (by
      cases q : H b with
      | none => rfl
      | some u =>
        have e' : b = a := hA b (by rw [q]; simp)
        subst e'
        rw [hK (by rw [q]; simp)] at e; cases e)
    have hM : Mod K mg (hidT s₁.heap H) := ⟨hKb, nsK hns, ⟨mb, nsK hb, hbb⟩, let ⟨mc, h1, h2⟩ := hlim; ⟨mc, nsK h1, h2⟩⟩
    have e0 : Env0 P w K mg (hidT s₁.heap H) callerA [] s₁ H := ⟨rfl, hM, fun b o e => of_hidT e, Nat.le_of_eq (hidT_size _ _), trivial, fun b hb => absurd (show b ∈ ([] : List Addr) from hb) (by simp), hok, .of_eq hg⟩
    refine codeAny_mono ((F _ hKb (nsK hns)).run callerA [] s₁ H ⟨[.ref a], []⟩ [.ref a] [.ref a] _ _ hr e0 (hbind s₁ (.ref a)) (.cons rfl .nil) (hsp H hO hS)) fun r s' h => ?_
    cases r with
    | error e => exact (hCX H e s' h).elim
    | ok fl =>
      cases fl with
      | next => exact False.elim h
      | brk => exact False.elim h
      | cont => exact False.elim h
      | ret u =>
        obtain ⟨v, H', os, bare, un, hok', r', q⟩ := h
        have q' : v = .bl true := q
        subst q'
        obtain rfl : u = Value.bool true := r'
        refine ⟨rfl, OldK.of_keep fun b o e => ?_, os, bare⟩
        cases q : H b with
        | none => exact un.keep b o e q (by intro z; exact absurd (show b ∈ ([] : List Addr) from z) (by simp)) (by simp)
        | some u =>
          rcases hO b with z | ⟨ob, xs, z⟩
          · rw [q] at z; cases z
          · have z2 := un.frzs b ob _ z
            obtain ⟨e1, _⟩ := hok b _ z
            obtain ⟨e2, _⟩ := hok' b _ z2
            rw [e] at e1; cases e1
            exact e2
  cases hk : K.lookup a with
  | some o =>
    -- the script is one of the module's own objects
    have e := KX a o hk
    rw [ha] at e
    cases e
    refine core (fun _ => none) (fun _ => .inl rfl) (.inr ⟨_, vs.toArray, _, hk, rfl, rfl, rfl, by rw [List.size_toArray, lenV]; exact hl, by simpa using rv⟩) (fun b u z => by have z' : (none : Option HO) = some u := z; cases z') (fun b z => absurd rfl z) fun z => absurd rfl z
  | none =>
    refine core (fun b => if b = a then some (.frz { cls := .type "list", data := .seq vs.toArray } (.lst (ns.map V.int))) else none) (fun b => ?_) (.inl (.inr ⟨{ cls := .type "list", data := .seq vs.toArray }, if_pos rfl⟩)) (fun b u z => ?_) (fun b z => ?_) fun _ => hk
    · by_cases hb : b = a
      · exact .inr ⟨_, _, if_pos hb⟩
      · exact .inl (if_neg hb)
    · by_cases hb : b = a
      · have z' := (if_pos hb).symm.trans z
        cases z'
        subst hb
        exact ⟨ha, by rw [List.length_map]; exact hl, vs, _, rv, ha⟩
      · have z' := (if_neg hb).symm.trans z
        cases z'
    · by_cases hb : b = a
      · exact hb
      · exact absurd (if_neg hb) z
end L2
namespace L2
open PySem PySem.Spec PyProof.Rows
abbrev KOf {K : Fg} {h : Heap} (_ : K.In h) : Fg := K
end L2
/- THE LAST THEOREM (shape; LID, My.* are yours):
   My.Adr: a structure of the addresses that your layer names (classes, functions); My.Txt K t: a structure (Prop) of the equations over K;
   My.txt_mk : {K} {implicit addresses ..} (e1 : nsIn K mainGlobals "law" = some (some (.ref f))) (e2 : K.lookup f = some ⟨oc, od, .func (fnOf "law" "law" params body scope dV kV doc pm an cdv ct), sl⟩) (e3 : codeIn K cdv "law" = true) .. : ∃ t, My.Txt K t
set_option maxRecDepth 100000 in
set_option maxHeartbeats 0 in
theorem PySem.Challenge.cw_LID_holds : PySem.Challenge.rw_LID.Holds := by
  w_on; o_law; k_head; (case hw => w_witness2)
  k_fill
  refine L2.walk_of (l := PySem.Challenge.rw_LID) (n := 63) (k := 40) (x := "script") (CX := fun w => ..) (sp := fun _ => My.sp_law) rfl (by decide) rfl ⟨rfl, by decide, by decide⟩ (fun w h Y => PySem.W.kIn_of Y) ?F ?S ?C
  case F =>
    intro w mg fa h KX G hmg
    have T : ∃ t, My.Txt (L2.KOf KX) t := by
      dsimp only [L2.KOf]                          -- K must stand as «<heap const> w.params» for k_is
      refine' My.txt_mk ?e1 ?e2 ?e3 ..
      (case e1 => PySem.W.k_is)                    -- in the order: a name -> its address -> its object -> its parts
      (case e2 => PySem.W.k_is)
      ..
    obtain ⟨t, T⟩ := T
    have e0 := hmg.symm.trans (PySem.W.mg_of KX G T.law)
    cases e0                                       -- fa is the law's own address
    exact ⟨_, fun s u => .of_eq rfl, fun base kb nb => My.law_fn T kb nb⟩     -- if «.of_eq rfl» comes too early: refine' ⟨_, ?b, fun base kb nb => My.law_fn T kb nb⟩; exact fun s u => .of_eq rfl
  case S => exact fun w H a ns hl hO hS => ..
  case C => exact ..
(the tactic k_is has no namespace: write k_is) -/
namespace L2
open PySem PySem.Spec PyProof.Rows
def defArgs (s : Stmt) : Arguments := match s with
  | .FunctionDef _ a _ _ _ _ _ _ _ _ => a
  | _ => { posonlyargs := [], args := [], vararg := none, kwonlyargs := [], kw_defaults := [], kwarg := none, defaults := [] }
def defBody (s : Stmt) : List Stmt := match s with
  | .FunctionDef _ _ b _ _ _ _ _ _ _ => b
  | _ => []
def defScope (s : Stmt) : Scope := match s with
  | .FunctionDef _ _ _ _ _ _ sc _ _ _ => sc
  | _ => { kind := .function, names := [], isGenerator := false, isCoroutine := false }
abbrev CX0 : CXT := fun _ _ _ _ _ _ => False
abbrev E0 : XK := fun _ _ _ => False
theorem pass0 {X : Cx} : Passes CX0 X E0 := fun _ _ _ _ _ _ _ h => h.elim
structure Fun (K : Fg) (x qual : Str) (st : Stmt) (f : Addr) (fd : FuncData) : Prop where
  ex : ∃ (oc : Value) (od : Option Addr) (kV doc pm : Value) (an : Option Addr) (cdv ct : Value) (osl : Array (Option Value)),
    fd = PySem.W.fnOf x qual (defArgs st) (defBody st) (defScope st) .none kV doc pm an cdv ct ∧ K.lookup f = some ⟨oc, od, .func fd, osl⟩ ∧ PySem.W.codeIn K cdv qual = true
  kp : PySem.W.keepIn K (.ref f) = true
section
variable {P : Program} {w : World} {K : Fg} {mg : Str → Option Value} {base : Heap}
theorem Fun.ok {x qual : Str} {st : Stmt} {f : Addr} {fd : FuncData} {N ps : List Str} {k : Nat} {sp : Sp} (F : Fun K x qual st f fd) (S : FnScope N ps (defScope st)) (len : ∀ vs H Q E, sp vs H Q E → vs.length = ps.length)
    (hbody : ∀ (cdv : Value) (A : Around) (outer : List Env) (s : Shared) (H : Hp) (vs : List V) (Q : VK) (E : XK), Room k (A.deeper (envOfC qual (defScope st) s.heap.objs.size f cdv)) → sp vs H Q E →
      ∃ t, PSs (cxOf CX0 P w K mg base N qual (defScope st) f cdv A outer s H E).nox (defBody st) t ∧ t { nx := fun _ H' => Q .non H', rt := Q } (start N vs) H) : FnOk P w K mg base CX0 (k + 1) f fd ps sp := by
  obtain ⟨oc, od, kV, doc, pm, an, cdv, ct, osl, rfl, lk, hcd⟩ := F.ex
  refine fn_of lk hcd S len fun A outer s H vs Q E hr hsp => ?_
  obtain ⟨t, h, q⟩ := hbody cdv A outer s H vs Q E hr hsp
  exact ⟨t, h.nox, q⟩
theorem Fun.binds {x qual : Str} {st : Stmt} {f : Addr} {fd : FuncData} {ps : List Str} (F : Fun K x qual st f fd)
    (h : ∀ (kV doc pm : Value) (an : Option Addr) (cdv ct : Value) (us : List Value), us.length = ps.length → bindArgs (PySem.W.fnOf x qual (defArgs st) (defBody st) (defScope st) .none kV doc pm an cdv ct) ⟨us, []⟩ = pure (ps.zip us)) : Binds K fd ps [] := by
  obtain ⟨oc, od, kV, doc, pm, an, cdv, ct, osl, rfl, lk, hcd⟩ := F.ex
  exact .all (h kV doc pm an cdv ct)
theorem fun_mk {x qual : Str} {st : Stmt} {f : Addr} {oc : Value} {od an : Option Addr} {osl : Array (Option Value)} {kV doc pm cdv ct : Value} (l : K.lookup f = some ⟨oc, od, .func (PySem.W.fnOf x qual (defArgs st) (defBody st) (defScope st) .none kV doc pm an cdv ct), osl⟩)
    (c : PySem.W.codeIn K cdv qual = true) (k : PySem.W.keepIn K (.ref f) = true) : Fun K x qual st f (PySem.W.fnOf x qual (defArgs st) (defBody st) (defScope st) .none kV doc pm an cdv ct) := ⟨⟨oc, od, kV, doc, pm, an, cdv, ct, osl, rfl, l, c⟩, k⟩
end
theorem small1000 {n : Nat} (h : n ≤ 1000) : n < sizeLine := Nat.lt_of_le_of_lt h (by decide)
section
variable {X : Cx}
theorem pv (i : Nat) {x : Str} {pos : Pos} (hN : X.N[i]? = some x := by rfl) (hv : Vis X.env.scope x := by first | exact Or.inl rfl | exact Or.inr (Or.inl rfl) | exact Or.inr (Or.inr rfl)) (hd : (x == ("__debug__" : Str)) = false := by decide)
    (hcd : (x == ("__classdict__" : Str)) = false := by decide) : PE X (.Name x pos) (tVar i) := pe_var hN hv hd hcd
end
theorem iteF {A B : Prop} (h : B) : if false = true then A else B := by
  rw [if_neg Bool.false_ne_true]
  exact h
theorem iteT {A B : Prop} (h : A) : if true = true then A else B := by
  rw [if_pos rfl]
  exact h
theorem ite2 {c A B : Prop} [Decidable c] (h1 : c → A) (h2 : ¬ c → B) : if c then A else B := by
  by_cases h : c
  · rw [if_pos h]
    exact h1 h
  · rw [if_neg h]
    exact h2 h
theorem iteNS {c A B : Prop} [Decidable c] (hc : c) (h : B) : if (!decide c) = true then A else B := by
  rw [decide_eq_true hc]
  exact iteF h
def Same (H H' : Hp) : Prop := ∀ b o, H b = some o → H' b = some o
theorem Same.refl (H : Hp) : Same H H := fun _ _ h => h
theorem Same.trans {H H1 H2 : Hp} (a : Same H H1) (b : Same H1 H2) : Same H H2 := fun c o h => b c o (a c o h)
theorem Same.free {H H' : Hp} (e : Same H H') {l : Addr} (h : H' l = Option.none) : H l = Option.none := by
  cases q : H l with
  | none => rfl
  | some o =>
    rw [e l o q] at h
    cases h
theorem Same.seq {K : Fg} {H H' : Hp} {a : Addr} {xs : List V} (e : Same H H') (h : SqL K H a xs) : SqL K H' a xs := by
  rcases h with (h | ⟨o, h⟩) | h
  · exact .inl (.inl (e _ _ h))
  · exact .inl (.inr ⟨o, e _ _ h⟩)
  · exact .inr h
end L2
set_option maxHeartbeats 4000000
namespace My
def Bd (n : Nat) (x : Int) : Prop := x.natAbs < 2 ^ n
theorem Bd.mono {m n : Nat} {x : Int} (h : Bd m x) (hn : m ≤ n) : Bd n x := Nat.lt_of_lt_of_le h (Nat.pow_le_pow_right (by decide) hn)
theorem Bd.neg {n : Nat} {x : Int} (h : Bd n x) : Bd n (-x) := by unfold Bd at *; rw [Int.natAbs_neg]; exact h
theorem Bd.mul {m n : Nat} {x y : Int} (h : Bd m x) (g : Bd n y) : Bd (m + n) (x * y) := by
  unfold Bd at *
  rw [Int.natAbs_mul, Nat.pow_add]
  exact Nat.mul_lt_mul'' h g
theorem gcd_step (a b : Int) : Int.gcd b (a % b) = Int.gcd a b := by
  apply Nat.dvd_antisymm
  · apply Int.dvd_gcd
    · have h1 : ((Int.gcd b (a % b) : Nat) : Int) ∣ b := Int.gcd_dvd_left ..
      have h2 : ((Int.gcd b (a % b) : Nat) : Int) ∣ a % b := Int.gcd_dvd_right ..
      have h3 := Int.mul_ediv_add_emod a b
      have h4 := Int.dvd_add (Int.dvd_trans h1 (Int.dvd_mul_right b (a / b))) h2
      rw [h3] at h4
      exact h4
    · exact Int.gcd_dvd_left ..
  · apply Int.dvd_gcd
    · exact Int.gcd_dvd_right ..
    · have h1 : ((Int.gcd a b : Nat) : Int) ∣ a := Int.gcd_dvd_left ..
      have h2 : ((Int.gcd a b : Nat) : Int) ∣ b := Int.gcd_dvd_right ..
      have h3 := Int.mul_ediv_add_emod a b
      have h4 : a % b = a - b * (a / b) := by omega
      rw [h4]
      exact Int.dvd_sub h1 (Int.dvd_trans h2 (Int.dvd_mul_right b (a / b)))
end My
namespace My
def sg (t m : Int) : Int := if m < 0 then -((Int.gcd t m : Nat) : Int) else ((Int.gcd t m : Nat) : Int)
theorem sg_ne {t m : Int} (hm : m ≠ 0) : sg t m ≠ 0 := by
  have h : 0 < Int.gcd t m := Int.gcd_pos_of_ne_zero_right t hm
  unfold sg
  split <;> omega
theorem sg_dvd_left (t m : Int) : sg t m ∣ t := by
  unfold sg
  split
  · exact Int.neg_dvd.mpr (Int.gcd_dvd_left ..)
  · exact Int.gcd_dvd_left ..
theorem sg_dvd_right (t m : Int) : sg t m ∣ m := by
  unfold sg
  split
  · exact Int.neg_dvd.mpr (Int.gcd_dvd_right ..)
  · exact Int.gcd_dvd_right ..
theorem fdiv_mul {a b : Int} (hb : b ≠ 0) (h : b ∣ a) : a.fdiv b * b = a := Int.fdiv_mul_cancel h
theorem natAbs_sg (t m : Int) : (sg t m).natAbs = Int.gcd t m := by
  unfold sg
  split
  · rw [Int.natAbs_neg, Int.natAbs_natCast]
  · rw [Int.natAbs_natCast]
structure Made (t m a b : Int) : Prop where
  pos : 0 < b
  low : Int.gcd a b = 1
  same : a * m = t * b
  ba : a.natAbs ≤ t.natAbs
  bb : b.natAbs ≤ m.natAbs
theorem made_of {t m : Int} (hm : m ≠ 0) : Made t m (t.fdiv (sg t m)) (m.fdiv (sg t m)) := by
  have hs := sg_ne (t := t) hm
  have e1 := fdiv_mul hs (sg_dvd_left t m)
  have e2 := fdiv_mul hs (sg_dvd_right t m)
  have hg : 0 < Int.gcd t m := Int.gcd_pos_of_ne_zero_right t hm
  generalize ha : t.fdiv (sg t m) = a at *
  generalize hb : m.fdiv (sg t m) = b at *
  have n1 : a.natAbs * Int.gcd t m = t.natAbs := by rw [← natAbs_sg, ← Int.natAbs_mul, e1]
  have n2 : b.natAbs * Int.gcd t m = m.natAbs := by rw [← natAbs_sg, ← Int.natAbs_mul, e2]
  refine ⟨?_, ?_, ?_, ?_, ?_⟩
  · -- sign
    unfold sg at e2
    by_cases h : m < 0
    · rw [if_pos h, Int.mul_neg] at e2
      rcases Int.lt_or_le 0 b with q | q
      · exact q
      · have := Int.mul_nonpos_of_nonpos_of_nonneg q (show (0 : Int) ≤ ((Int.gcd t m : Nat) : Int) by omega)
        omega
    · rw [if_neg h] at e2
      rcases Int.lt_or_le 0 b with q | q
      · exact q
      · have := Int.mul_nonpos_of_nonpos_of_nonneg q (show (0 : Int) ≤ ((Int.gcd t m : Nat) : Int) by omega)
        omega
  · have q : Int.gcd a b * Int.gcd t m = Int.gcd t m := by
      have h := Nat.gcd_mul_right a.natAbs (Int.gcd t m) b.natAbs
      rw [n1, n2] at h
      exact h.symm
    exact Nat.eq_of_mul_eq_mul_right hg (by rw [q, Nat.one_mul])
  · have q : a * m = a * (b * sg t m) := by rw [e2]
    have q2 : t * b = a * sg t m * b := by rw [e1]
    rw [q, q2, Int.mul_assoc, Int.mul_comm b]
  · rw [← n1]; exact Nat.le_mul_of_pos_right _ hg
  · rw [← n2]; exact Nat.le_mul_of_pos_right _ hg
theorem Bd.of_natAbs {n : Nat} {x y : Int} (h : x.natAbs ≤ y.natAbs) (g : Bd n y) : Bd n x := Nat.lt_of_le_of_lt h g
theorem natAbs_abs (i : Int) : (if i < 0 then -i else i) = ((i.natAbs : Nat) : Int) := by split <;> omega
end My
namespace L2
open PySem PySem.Spec PyProof.Rows
abbrev Mid (x : Int) : Prop := My.Bd 4000 x
section
variable {X : Cx}
theorem op_mulB : OpR X (binaryOp .Mult) (rI (fun i j => Mid i ∧ Mid j) fun i j => .int (i * j)) := opI fun _ _ _ _ _ _ _ hc q =>
  mul_int q (IntMulOk.of_le (PySem.intBits_le_iff.mpr hc.1) (PySem.intBits_le_iff.mpr hc.2) (by decide))
theorem log2_of_Mid {j : Int} (h : Mid j) : j.natAbs.log2 < 9000 := by
  by_cases h0 : j.natAbs = 0
  · rw [h0]; decide +kernel
  · have h1 : j.natAbs.log2 < 4000 := (Nat.log2_lt h0).mpr h
    omega
theorem op_fdivB : OpR X (binaryOp .FloorDiv) (rI (fun _ j => 0 < j ∧ Mid j) fun i j => .int (i / j)) := opI fun i j _ _ _ _ _ hc q => by
  have h1 : (0 : Int) < j := hc.1
  exact floordiv_int (by omega) (by rw [Int.fdiv_eq_ediv_of_nonneg i (by omega)]; exact q) (.inl (PyProof.noPylong_of_log2 (log2_of_Mid hc.2)))
end
theorem bt_int : bootBuiltins "int" = some (.type "int") := by decide +kernel
theorem bt_bool : bootBuiltins "bool" = some (.type "bool") := by decide +kernel
theorem bt_str : bootBuiltins "str" = some (.type "str") := by decide +kernel
theorem bt_list : bootBuiltins "list" = some (.type "list") := by decide +kernel
theorem bt_tuple : bootBuiltins "tuple" = some (.type "tuple") := by decide +kernel
theorem bt_abs : bootBuiltins "abs" = some (.builtin "abs") := by decide +kernel
theorem bt_isinstance : bootBuiltins "isinstance" = some (.builtin "isinstance") := by decide +kernel
inductive Tg where
  | non | bl | int | str | tup | lst | dic
def tgIs (K : Fg) (H : Hp) : V → Tg → Prop
  | .non, .non => True
  | .bl _, .bl => True
  | .int _, .int => True
  | .str _, .str => True
  | .ref a, .tup => ∃ xs, SqT K H a xs
  | .ref a, .lst => ∃ xs, SqL K H a xs
  | .ref a, .dic => ∃ kvs, H a = some (.dK kvs)
  | _, _ => False
def Tg.isInt : Tg → Bool
  | .int => true | .bl => true | _ => false
def Tg.isBool : Tg → Bool
  | .bl => true | _ => false
def Tg.isTup : Tg → Bool
  | .tup => true | _ => false
def Tg.isLst : Tg → Bool
  | .lst => true | _ => false
def rIsi (K : Fg) (n : String) (f : Tg → Bool) : List V → Hp → VK → Prop := fun xs H Q => ∃ x g, xs = [x, .ty n] ∧ tgIs K H x g ∧ Q (.bl (f g)) H
section
variable {X : Cx}
theorem isi_of {n : String} {f : Tg → Bool}
    (h1 : ∀ {A : Around} {E : Value → Shared → Prop} {s : Shared} {Q : Value → Shared → Prop}, (∀ t, Q (.bool (f .non)) { s with toks := t }) → wpAny (model X.prog X.w) A (call (.builtin "isinstance") [.none, .type n]) Q E s)
    (h2 : ∀ {A : Around} {E : Value → Shared → Prop} {s : Shared} {Q : Value → Shared → Prop} {b : Bool}, (∀ t, Q (.bool (f .bl)) { s with toks := t }) → wpAny (model X.prog X.w) A (call (.builtin "isinstance") [.bool b, .type n]) Q E s)
    (h3 : ∀ {A : Around} {E : Value → Shared → Prop} {s : Shared} {Q : Value → Shared → Prop} {b : Int} {u : Tok}, (∀ t, Q (.bool (f .int)) { s with toks := t }) → wpAny (model X.prog X.w) A (call (.builtin "isinstance") [.int b u, .type n]) Q E s)
    (h4 : ∀ {A : Around} {E : Value → Shared → Prop} {s : Shared} {Q : Value → Shared → Prop} {b : Str} {u : Tok}, (∀ t, Q (.bool (f .str)) { s with toks := t }) → wpAny (model X.prog X.w) A (call (.builtin "isinstance") [.str b u, .type n]) Q E s)
    (h5 : ∀ {A : Around} {E : Value → Shared → Prop} {s : Shared} {Q : Value → Shared → Prop} {a : Addr} {o : Obj}, s.heap.get? a = some o → o.cls = .type "tuple" → (∀ t, Q (.bool (f .tup)) { s with toks := t }) → wpAny (model X.prog X.w) A (call (.builtin "isinstance") [.ref a, .type n]) Q E s)
    (h6 : ∀ {A : Around} {E : Value → Shared → Prop} {s : Shared} {Q : Value → Shared → Prop} {a : Addr} {o : Obj}, s.heap.get? a = some o → o.cls = .type "list" → (∀ t, Q (.bool (f .lst)) { s with toks := t }) → wpAny (model X.prog X.w) A (call (.builtin "isinstance") [.ref a, .type n]) Q E s)
    (h7 : ∀ {A : Around} {E : Value → Shared → Prop} {s : Shared} {Q : Value → Shared → Prop} {a : Addr} {o : Obj}, s.heap.get? a = some o → o.cls = .type "dict" → (∀ t, Q (.bool (f .dic)) { s with toks := t }) → wpAny (model X.prog X.w) A (call (.builtin "isinstance") [.ref a, .type n]) Q E s) :
    CallR X (.builtin "isinstance") (rIsi X.K n f) := by
  intro pins s σ H xs us Q I r h
  obtain ⟨x, g, rfl, e, q⟩ := h
  obtain ⟨u, w, rfl, rx, rw'⟩ := vals2 r
  cases rw'
  have fin : ∀ k : Bool, Q (.bl k) H → ∀ t, EP X pins σ Q (.bool k) { s with toks := t } := fun k q t => ⟨.bl k, H, I.tok t, rfl, q⟩
  cases x with
  | non => cases g <;> first | exact (show False from e).elim | (cases rx; exact h1 (fin _ q))
  | bl b => cases g <;> first | exact (show False from e).elim | (cases rx; exact h2 (fin _ q))
  | int i => cases g <;> first | exact (show False from e).elim | (obtain ⟨t, rfl⟩ := rx; exact h3 (fin _ q))
  | str y => cases g <;> first | exact (show False from e).elim | (obtain ⟨t, rfl⟩ := rx; exact h4 (fin _ q))
  | ref a =>
    cases rx
    cases g with
    | tup =>
      obtain ⟨xs, hx⟩ := (show ∃ xs, SqT X.K H a xs from e)
      obtain ⟨its, _, ⟨o, ho, hc, _⟩, _⟩ := I.tuple hx
      exact h5 ho hc (fin _ q)
    | lst =>
      obtain ⟨xs, hx⟩ := (show ∃ xs, SqL X.K H a xs from e)
      obtain ⟨its, _, ⟨o, n, ho, hc, _⟩, _⟩ := I.list hx
      exact h6 ho hc (fin _ q)
    | dic =>
      obtain ⟨kvs, hx⟩ := (show ∃ kvs, H a = some (.dK kvs) from e)
      obtain ⟨_, _, vs, _, o, es, ep, ho, hc, _⟩ := (show ObjOk X.prog X.w H s.heap a (.dK kvs) from I.hok a _ hx)
      exact h7 ho hc.1 (fin _ q)
    | non => exact (show False from e).elim
    | bl => exact (show False from e).elim
    | int => exact (show False from e).elim
    | str => exact (show False from e).elim
  | _ => exact (show False from e).elim
theorem isi_int : CallR X (.builtin "isinstance") (rIsi X.K "int" Tg.isInt) := isi_of (fun q => IsiPair.NoneType_int (q _)) (fun q => IsiPair.bool_int (q _)) (fun q => IsiPair.int_int (q _)) (fun q => IsiPair.str_int (q _))
  (fun ho hc q => call_isinstance (isinstance_false_tuple (by decide) PySem.F.isi_meta_int PySem.F.sub_tuple_int) ⟨⟨_, ho, hc⟩, q _⟩) (fun ho hc q => call_isinstance (isinstance_false_list (by decide) PySem.F.isi_meta_int PySem.F.sub_list_int) ⟨⟨_, ho, hc⟩, q _⟩) (fun ho hc q => call_isinstance (isinstance_false_dict (by decide) PySem.F.isi_meta_int PySem.F.sub_dict_int) ⟨⟨_, ho, hc⟩, q _⟩)
theorem isi_bool : CallR X (.builtin "isinstance") (rIsi X.K "bool" Tg.isBool) := isi_of (fun q => IsiPair.NoneType_bool (q _)) (fun q => IsiPair.bool_bool (q _)) (fun q => IsiPair.int_bool (q _)) (fun q => IsiPair.str_bool (q _))
  (fun ho hc q => call_isinstance (isinstance_false_tuple (by decide) PySem.F.isi_meta_bool PySem.F.sub_tuple_bool) ⟨⟨_, ho, hc⟩, q _⟩) (fun ho hc q => call_isinstance (isinstance_false_list (by decide) PySem.F.isi_meta_bool PySem.F.sub_list_bool) ⟨⟨_, ho, hc⟩, q _⟩) (fun ho hc q => call_isinstance (isinstance_false_dict (by decide) PySem.F.isi_meta_bool PySem.F.sub_dict_bool) ⟨⟨_, ho, hc⟩, q _⟩)
theorem isi_tuple : CallR X (.builtin "isinstance") (rIsi X.K "tuple" Tg.isTup) := isi_of (fun q => IsiPair.NoneType_tuple (q _)) (fun q => IsiPair.bool_tuple (q _)) (fun q => IsiPair.int_tuple (q _)) (fun q => IsiPair.str_tuple (q _))
  (fun ho hc q => call_isinstance (isinstance_true (Tx := "tuple") PySem.F.isi_meta_tuple PySem.F.sub_tuple_tuple) ⟨⟨_, ho, hc⟩, q _⟩) (fun ho hc q => call_isinstance (isinstance_false_list (by decide) PySem.F.isi_meta_tuple PySem.F.sub_list_tuple) ⟨⟨_, ho, hc⟩, q _⟩) (fun ho hc q => call_isinstance (isinstance_false_dict (by decide) PySem.F.isi_meta_tuple PySem.F.sub_dict_tuple) ⟨⟨_, ho, hc⟩, q _⟩)
theorem isi_list : CallR X (.builtin "isinstance") (rIsi X.K "list" Tg.isLst) := isi_of (fun q => IsiPair.NoneType_list (q _)) (fun q => IsiPair.bool_list (q _)) (fun q => IsiPair.int_list (q _)) (fun q => IsiPair.str_list (q _))
  (fun ho hc q => call_isinstance (isinstance_false_tuple (by decide) PySem.F.isi_meta_list PySem.F.sub_tuple_list) ⟨⟨_, ho, hc⟩, q _⟩) (fun ho hc q => call_isinstance (isinstance_true (Tx := "list") PySem.F.isi_meta_list PySem.F.sub_list_list) ⟨⟨_, ho, hc⟩, q _⟩) (fun ho hc q => call_isinstance (isinstance_false_dict (by decide) PySem.F.isi_meta_list PySem.F.sub_dict_list) ⟨⟨_, ho, hc⟩, q _⟩)
theorem pe_isi {e : Expr} {te : TE} {n : Str} {T : String} {f : Tg → Bool} {p p2 pos : Pos} (hc : CallR X (.builtin "isinstance") (rIsi X.K T f)) (hg : Gl X "isinstance") (hg2 : Gl X n) (hm : X.mg "isinstance" = none) (hm2 : X.mg n = none) (hb : bootBuiltins n = some (.type T)) (he : PE X e te)
    (hn : n ≠ "__name__" := by decide) (hd : (n == ("__debug__" : Str)) = false := by decide)
    (hs1 : starEach [e, .Name n p2] X.env = (false, eval e X.env) :: starEach [.Name n p2] X.env := by rfl) (hs2 : starEach [.Name n p2] X.env = (false, eval (.Name n p2) X.env) :: starEach [] X.env := by rfl)
    (hpl : (backTo pos (starEach [.Name n p2] X.env)).any (·.1) = false := by rfl) :
    PE X (.Call (.Name "isinstance" p) [e, .Name n p2] [] pos) (tCB (rIsi X.K T f) (tCons te (tCons (tC (.ty T)) tNil))) :=
  pe_callB hc hg hm bt_isinstance (pcn he (pcn (pe_bltn (v := .ty T) hg2 hm2 hb rfl hn hd) pnl hs2) hs1) (by decide) (by decide) hs1 hpl
end
def rngN (i j c : Int) : Nat := (Builtin.Range.rangeSize i j c).toNat
theorem rng_nonneg {i j c : Int} (hc : 0 < c) : 0 ≤ Builtin.Range.rangeSize i j c := by
  unfold Builtin.Range.rangeSize
  rw [if_pos hc]
  by_cases h : i < j
  · rw [if_pos h]
    have := Int.ediv_nonneg (show 0 ≤ j - i - 1 by omega) (Int.le_of_lt hc)
    omega
  · rw [if_neg h]; exact Int.le_refl _
section
variable {X : Cx} {tg : Expr}
end
theorem Same.new {H : Hp} {p : Addr} (h : H p = none) (o : HO) : Same H (upd H p o) := fun b u q => by rw [upd_ne (ne_of_none q h)]; exact q
theorem Same.tup {K : Fg} {H H' : Hp} {a : Addr} {xs : List V} (e : Same H H') (h : SqT K H a xs) : SqT K H' a xs := by
  rcases h with (h | ⟨o, h⟩) | h
  · exact .inl (.inl (e _ _ h))
  · exact .inl (.inr ⟨o, e _ _ h⟩)
  · exact .inr h
structure FunD (K : Fg) (x qual : Str) (st : Stmt) (f : Addr) (fd : FuncData) : Prop where
  ex : ∃ (oc : Value) (od : Option Addr) (dV kV doc pm : Value) (an : Option Addr) (cdv ct : Value) (osl : Array (Option Value)),
    fd = PySem.W.fnOf x qual (defArgs st) (defBody st) (defScope st) dV kV doc pm an cdv ct ∧ K.lookup f = some ⟨oc, od, .func fd, osl⟩ ∧ PySem.W.codeIn K cdv qual = true
  kp : PySem.W.keepIn K (.ref f) = true
theorem fun_mkD {K : Fg} {x qual : Str} {st : Stmt} {f : Addr} {oc : Value} {od an : Option Addr} {osl : Array (Option Value)} {dV kV doc pm cdv ct : Value} (l : K.lookup f = some ⟨oc, od, .func (PySem.W.fnOf x qual (defArgs st) (defBody st) (defScope st) dV kV doc pm an cdv ct), osl⟩)
    (c : PySem.W.codeIn K cdv qual = true) (k : PySem.W.keepIn K (.ref f) = true) : FunD K x qual st f (PySem.W.fnOf x qual (defArgs st) (defBody st) (defScope st) dV kV doc pm an cdv ct) := ⟨⟨oc, od, dV, kV, doc, pm, an, cdv, ct, osl, rfl, l, c⟩, k⟩
theorem Fun.toD {K : Fg} {x qual : Str} {st : Stmt} {f : Addr} {fd : FuncData} (F : Fun K x qual st f fd) : FunD K x qual st f fd := by
  obtain ⟨oc, od, kV, doc, pm, an, cdv, ct, osl, e, l, c⟩ := F.ex
  exact ⟨⟨oc, od, .none, kV, doc, pm, an, cdv, ct, osl, e, l, c⟩, F.kp⟩
section
variable {X : Cx}
theorem op_fdivNB : OpR X (binaryOp .FloorDiv) (rI (fun _ j => j ≠ 0 ∧ Mid j) fun i j => .int (i.fdiv j)) := opI fun _ _ _ _ _ _ _ hc q => floordiv_int hc.1 q (.inl (PyProof.noPylong_of_log2 (log2_of_Mid hc.2)))
end
end L2
namespace PySem
theorem Obj.dict_mapFields (o : Obj) (f : Array Value → Array Value) : (Obj.mapFields f o).dict = o.dict := by
  obtain ⟨c, d, dt, sl⟩ := o
  cases dt <;> rfl
def Heap.TrX (h base : Heap) (e : Addr) (cls : Value) (dx : Option Addr) (fl : Value) : Prop :=
  ∃ (x : Obj) (vs : Array Value) (T : Addr) (y : Obj) (ts : Array Value), h.get? e = some x ∧ (x.cls = cls ∧ x.dict = dx ∧ (dx = none → vs[2]? = some .none)) ∧ x.data = .fields vs ∧ vs[1]? = some (.ref T) ∧ base.get? T = none ∧ T ≠ e ∧
    h.get? T = some y ∧ y.data = .fields ts ∧ ts[3]? = some fl
def Heap.OnX (base : Heap) (l : List Env) (e : Addr) (cls : Value) (dx : Option Addr) (fl : Value) (h : Heap) : Prop := base.StaysIn h ∧ base.get? e = none ∧ h.FunFrames base l ∧ h.TrX base e cls dx fl
abbrev Heap.FlyX (base : Heap) (l : List Env) (e : Addr) (cls : Value) (dx : Option Addr) (h : Heap) : Prop := Heap.OnX base l e cls dx .none h
section
variable {M : Model} {A : Around} {E : Value → Shared → Prop} {s : Shared} {base : Heap} {env : Env} {outer l : List Env} {L e : Addr} {cls : Value} {dx : Option Addr} {Q : Unit → Shared → Prop}
theorem Heap.OnX.there {h : Heap} {fl : Value} (z : Heap.OnX base l e cls dx fl h) : ∃ ob, h.get? e = some ob ∧ ob.cls = cls := by
  obtain ⟨_, _, _, x, _, _, _, _, he, hc, _⟩ := z
  exact ⟨x, he, hc.1⟩
theorem noteX {x : Obj} {vs : Array Value} {head : Value} {more : Bool} (hA : A.frames = some (env :: outer)) (hF : s.heap.FunFrames base (env :: outer)) (hL : env.frame = some L)
    (hx : s.heap.get? e = some x) (hB : base.StaysIn s.heap) (hn : base.get? e = none) (hv : x.data = .fields vs) (h2 : 1 < vs.size) (hc2 : x.dict = none → vs[2]? = some .none)
    (k : ∀ h', Heap.OnX base (env :: outer) e x.cls x.dict (rawInt L) h' → s.heap.UpToSlots h' → Q () { s with heap := h' }) :
    wpAny M A (do let a ← frameOf env; let pl ← entryPlaceOf L more; let b ← EntryCells.newEntry head a .none (rawInt L) .none pl; setField (.ref e) 1 b) Q E s := by
  have out : e ∉ (env :: outer).filterMap (·.frame) := fun z => by
    obtain ⟨_, o, ho, hnf⟩ := hF.mem z
    rw [hx] at ho; cases ho; exact hnf vs hv
  refine wpAny_bind (wpAny_frameOf_fun hA hF hL fun g sg => ?_)
  refine wpAny_bind (wpAny_entryPlaceOf fun pl hpl => ?_)
  unfold EntryCells.newEntry newFields
  refine wpAny_bind (wpAny_newObj_type ?_ (hpl.sizeOk5 _ _ _ _ _))
  have x1 : g.get? e = some x := (sg.2.1 e out).trans hx
  have B1 : base.StaysIn g := fun b o q => (sg.2.1 b fun z => by rw [(hF.mem z).1] at q; cases q).trans (hB b o q)
  have x2 := Heap.get?_push_of_some (h := g) { cls := .type "traceback", dict := none, data := .fields ([head, .ref L, .none, rawInt L, .none] ++ (if pl.isEmpty then List.replicate 6 Value.none else pl)).toArray } x1
  refine wpAny_setField x2 hv h2 (k _ ?_ ?_)
  all_goals have neT : g.objs.size ≠ e := Nat.ne_of_gt (Heap.lt_size x1)
  all_goals have kp : ∀ b o, b ≠ e → g.get? b = some o → ((g.push { cls := .type "traceback", dict := none, data := .fields ([head, .ref L, .none, rawInt L, .none] ++ (if pl.isEmpty then List.replicate 6 Value.none else pl)).toArray }).update e (Obj.mapFields (·.setIfInBounds 1 (Value.ref g.objs.size)))).get? b = some o := fun b o hb q => (Heap.get?_update_other _ _ (Ne.symm hb)).trans (Heap.get?_push_of_some _ q)
  all_goals have nr : ∀ b o, s.heap.get? b = some o → (∀ vs, o.data ≠ .fields vs) → b ≠ e := fun b o q hnf z => by rw [z, hx] at q; cases q; exact hnf vs hv
  · have hv3 := Obj.data_mapFields hv (·.setIfInBounds 1 (Value.ref g.objs.size))
    refine ⟨fun b o q => kp b o (fun z => by rw [z, hn] at q; cases q) (B1 b o q), hn, hF.of_keeps fun b o q hnf => ?_, ?_⟩
    · obtain ⟨sl, q2⟩ := sg.2.2 b o q
      exact ⟨_, kp b _ (nr b o q hnf) q2, rfl⟩
    · exact ⟨_, _, g.objs.size, _, _, Heap.get?_update_self _ x2 (Obj.isFreed_of_fields hv3), ⟨Obj.cls_mapFields _ _, Obj.dict_mapFields _ _, fun z => by rw [Array.getElem?_setIfInBounds_ne (by decide)]; exact hc2 z⟩, hv3, by simp [h2], B1.fresh, neT, (Heap.get?_update_other _ _ (Ne.symm neT)).trans (Heap.get?_push_size g rfl), rfl, by
        first | (simp; done) | (rcases hpl with rfl | ⟨_, _, _, _, _, _, _, rfl⟩ <;> simp)⟩
  · intro b o q hnf
    obtain ⟨sl, q2⟩ := sg.2.2 b o q
    exact ⟨sl, kp b _ (nr b o q hnf) q2⟩
theorem looksX (hA : A.frames = some (env :: outer)) (hL : env.frame = some L) (z : Heap.FlyX base (env :: outer) e cls dx s.heap)
    (k : ∀ h', Heap.OnX base (env :: outer) e cls dx (rawInt L) h' → s.heap.UpToSlots h' → Q () { s with heap := h' }) : wpAny M A (noteFrame (.ref e) env) Q E s := by
  obtain ⟨hB, hn, hF, x, vs, T, y, ts, hx, ⟨hc, hd, hc2⟩, hv, h1, nT, Te, hT, hy, h3⟩ := z
  subst hc hd
  unfold noteFrame
  simp only [hL]
  refine wpAny_bind (wpAny_field hx hv h1 ?_)
  rw [if_pos (show (Value.ref T != Value.none) = true from by simp)]
  refine wpAny_bind (wpAny_field hT hy h3 ?_)
  rw [if_neg (show ¬ ((Value.none == rawInt L) = true) from by simp [rawInt])]
  refine wpAny_bind (wpAny_setField hT hy (Array.getElem?_eq_some_iff.mp h3).1 ?_)
  have ot : ∀ b, b ≠ T → (s.heap.update T (Obj.mapFields (·.setIfInBounds 3 Value.none))).get? b = s.heap.get? b := fun b hb => Heap.get?_update_other _ _ (Ne.symm hb)
  have nr : ∀ b o, s.heap.get? b = some o → (∀ vs, o.data ≠ .fields vs) → b ≠ T := fun b o q hnf z => by rw [z, hT] at q; cases q; exact hnf ts hy
  exact noteX (s := { s with heap := s.heap.update T (Obj.mapFields (·.setIfInBounds 3 Value.none)) }) hA (hF.of_keeps fun b o q hnf => ⟨o, (ot b (nr b o q hnf)).trans q, rfl⟩) hL ((ot e (Ne.symm Te)).trans hx)
    (fun b o q => (ot b fun z => by rw [z, nT] at q; cases q).trans (hB b o q)) hn hv (Array.getElem?_eq_some_iff.mp h1).1 hc2 fun h' z us => k h' z fun b o q hnf => us b o ((ot b (nr b o q hnf)).trans q) hnf
theorem landsX {fl : Value} (z : Heap.OnX base l e cls dx fl s.heap) (k : ∀ h', Heap.FlyX base l e cls dx h' → s.heap.UpToSlots h' → Q () { s with heap := h' }) : wpAny M A (setFlight (.ref e) none) Q E s := by
  obtain ⟨hB, hn, hF, x, vs, T, y, ts, hx, hc, hv, h1, nT, Te, hT, hy, h3⟩ := z
  have ot : ∀ b, b ≠ T → (s.heap.update T (Obj.mapFields (·.setIfInBounds 3 ((none : Option Addr).elim Value.none fun f => rawInt f)))).get? b = s.heap.get? b := fun b hb => Heap.get?_update_other _ _ (Ne.symm hb)
  have nr : ∀ b o, s.heap.get? b = some o → (∀ vs, o.data ≠ .fields vs) → b ≠ T := fun b o q hnf z => by rw [z, hT] at q; cases q; exact hnf ts hy
  have sz := (Array.getElem?_eq_some_iff.mp h3).1
  unfold setFlight
  refine wpAny_bind (wpAny_field hx hv h1 ?_)
  rw [if_pos (show (Value.ref T != Value.none) = true from by simp)]
  refine wpAny_setField hT hy sz (k _ ⟨fun b o q => (ot b fun z => by rw [z, nT] at q; cases q).trans (hB b o q), hn, hF.of_keeps fun b o q hnf => ⟨o, (ot b (nr b o q hnf)).trans q, rfl⟩,
    x, vs, T, _, _, (ot e (Ne.symm Te)).trans hx, hc, hv, h1, nT, Te, Heap.get?_update_self _ hT (Obj.isFreed_of_fields (Obj.data_mapFields hy _)), Obj.data_mapFields hy _, by simp [sz]⟩
    fun b o q hnf => ⟨o.slots, (ot b (nr b o q hnf)).trans q⟩)
theorem leavesX (hA : A.frames = some (env :: outer)) (hL : env.frame = some L) (z : Heap.FlyX base (env :: outer) e cls dx s.heap)
    (k : ∀ h', Heap.FlyX base outer e cls dx h' → s.heap.UpToSlots h' → Q () { s with heap := h' }) : wpAny M A (leaving env (.ref e)) Q E s := by
  unfold leaving
  refine wpAny_bind (looksX hA hL z fun h1 z1 u1 => ?_)
  refine landsX (s := { s with heap := h1 }) z1 fun h2 z2 u2 => ?_
  obtain ⟨k1, k2, ⟨_, _, k3⟩, k4⟩ := z2
  exact k h2 ⟨k1, k2, k3, k4⟩ (u1.trans u2)
theorem leavesNewX {x : Obj} {vs : Array Value} (hA : A.frames = some (env :: outer)) (hL : env.frame = some L) (hB : base.StaysIn s.heap) (hF : s.heap.FunFrames base (env :: outer)) (hx : s.heap.get? e = some x) (hn : base.get? e = none) (hv : x.data = .fields vs) (h1 : vs[1]? = some .none) (hc2 : x.dict = none → vs[2]? = some .none)
    (k : ∀ h', Heap.FlyX base outer e x.cls x.dict h' → s.heap.UpToSlots h' → Q () { s with heap := h' }) : wpAny M A (leaving env (.ref e)) Q E s := by
  unfold leaving noteFrame
  simp only [hL]
  refine wpAny_bind (wpAny_bind (wpAny_field hx hv h1 ?_))
  rw [if_neg (by decide)]
  refine noteX hA hF hL hx hB hn hv (Array.getElem?_eq_some_iff.mp h1).1 hc2 fun g1 z1 u1 => ?_
  refine landsX (s := { s with heap := g1 }) z1 fun g2 z2 u2 => ?_
  obtain ⟨k1, k2, ⟨_, _, k3⟩, k4⟩ := z2
  exact k g2 ⟨k1, k2, k3, k4⟩ (u1.trans u2)
end
end PySem
namespace L2
open PySem PySem.Spec PyProof.Rows
def CXe (P : Program) (w : World) : CXT := fun outer H s E e s' => ∃ (a C : Addr) (dx : Option Addr) (H' : Hp) (B : Heap),
  e = .ref a ∧ s'.os = s.os ∧ AllBare s'.gens ∧ Un (frs outer) [] H H' s.heap s'.heap ∧ HOk P w H' B ∧ Heap.FlyX B outer a (.ref C) dx s'.heap ∧
  (∀ b o, s.heap.get? b = some o → H b = none → b ∉ frs outer → B.get? b = some o) ∧ (∀ b o, s.heap.get? b = some o → b ∉ frs outer → ∃ o', B.get? b = some o') ∧ E (.ref C) dx H'
theorem passE0 {P : Program} {w : World} {X : Cx} : Passes (CXe P w) X E0 := fun _ _ _ _ _ _ _ h => by
  obtain ⟨_, _, _, _, _, _, _, _, _, _, _, _, _, q⟩ := h
  exact q.elim
section
variable {P : Program} {w : World} {K : Fg} {mg : Str → Option Value} {base : Heap} {N : List Str} {qual : Str} {scope : Scope} {f : Addr} {cd : Value} {A : Around} {outer : List Env} {s : Shared} {H : Hp} {E : XK}
  {pins : Pn} {σ : St} {H1 : Hp} {s1 : Shared}
theorem frs_own {CX : CXT} {b : Addr} : b ∈ frs (cxOf CX P w K mg base N qual scope f cd A outer s H E).stack ↔ b = s.heap.objs.size ∨ b ∈ frs outer := by
  show b ∈ (envOfC qual scope s.heap.objs.size f cd :: outer).filterMap (·.frame) ↔ _
  rw [List.filterMap_cons]
  exact List.mem_cons
theorem raises_cx {h' : Heap} {e C : Addr} {vs : List Value} (I : Inv (cxOf (CXe P w) P w K mg base N qual scope f cd A outer s H E) pins σ H1 s1) (hx : Heap.MadeExcOf s1.heap h' e (.ref C) vs) (q : E (.ref C) none H1) :
    (cxOf (CXe P w) P w K mg base N qual scope f cd A outer s H E).xe (.ref e) { s1 with heap := h' } := by
  have hin : ∀ env ∈ (cxOf (CXe P w) P w K mg base N qual scope f cd A outer s H E).stack, ∀ b, env.frame = some b → b ∈ frs (cxOf (CXe P w) P w K mg base N qual scope f cd A outer s H E).stack := fun env he b hb => List.mem_filterMap.mpr ⟨env, he, hb⟩
  have toB : ∀ b o, s1.heap.get? b = some o → b ∉ frs (cxOf (CXe P w) P w K mg base N qual scope f cd A outer s H E).stack → (PySem.W.hideAll s1.heap (frs (cxOf (CXe P w) P w K mg base N qual scope f cd A outer s H E).stack)).get? b = some o := fun b o e n => PySem.W.hideAll_get _ e n
  have hl := PySem.W.funFrames_hide (as := frs (cxOf (CXe P w) P w K mg base N qual scope f cd A outer s H E).stack) I.stack hin
  have nstk : ∀ b o, s.heap.get? b = some o → b ∉ frs outer → b ∉ frs (cxOf (CXe P w) P w K mg base N qual scope f cd A outer s H E).stack := fun b o e n z => by
    rcases frs_own.mp z with z | z
    · rw [z] at e
      exact absurd (Heap.lt_size e) (Nat.lt_irrefl _)
    · exact n z
  have hB : HOk P w H1 (PySem.W.hideAll s1.heap (frs (cxOf (CXe P w) P w K mg base N qual scope f cd A outer s H E).stack)) := fun b u eu => (I.hok b u eu).stay (fun c v hc q => toB c v q fun z => by
    have n := I.stkFree c z
    rcases hc with hc | hc
    · rw [hc, eu] at n; cases n
    · rw [hc] at n; cases n) (fun _ q => q) fun _ _ q => q
  obtain ⟨tt, hmade, _, _⟩ := hx.there
  have fresh : (PySem.W.hideAll s1.heap (frs (cxOf (CXe P w) P w K mg base N qual scope f cd A outer s H E).stack)).get? e = none := by
    cases z : (PySem.W.hideAll s1.heap (frs (cxOf (CXe P w) P w K mg base N qual scope f cd A outer s H E).stack)).get? e with
    | none => rfl
    | some o => have := PySem.W.of_hideAll _ z; rw [hx.new] at this; cases this
  refine leavesNewX (base := PySem.W.hideAll s1.heap (frs (cxOf (CXe P w) P w K mg base N qual scope f cd A outer s H E).stack)) (s := { s1 with heap := h' }) I.ok.frames rfl (fun b o q => hx.keeps b o (PySem.W.of_hideAll _ q)) (hl.of_keeps fun b o q _ => ⟨o, hx.keeps b o q, rfl⟩) hmade fresh rfl rfl (fun _ => rfl) fun h2 fl us => ?_
  refine ⟨e, C, none, H1, _, rfl, I.os, I.bare, ?_, hB, fl, ?_, ?_, q⟩
  · have cs : ∀ b ∈ frs outer, ∀ o, s1.heap.get? b = some o → ∃ sl, h2.get? b = some { o with slots := sl } := fun b hb o e => by
      obtain ⟨_, o', e', hd⟩ := I.funs.mem hb
      rw [e] at e'; cases e'
      exact us b o (hx.keeps b o e) hd
    exact {
      keep := fun b o e n hb _ => fl.1 b o (toB b o (I.base.keep b o e n hb (by exact fun z => nomatch z)) (nstk b o e hb))
      slot := fun b o e n hb _ => by
        obtain ⟨sl, e1⟩ := I.base.slot b o e n hb (by exact fun z => nomatch z)
        obtain ⟨sl', e2⟩ := cs b hb _ e1
        exact ⟨sl', e2⟩
      free := fun b o e n _ => I.base.free b o e n (by exact fun z => nomatch z)
      there := fun b o e _ => by
        obtain ⟨o', e1⟩ := I.base.there b o e (by exact fun z => nomatch z)
        by_cases hb : b ∈ frs outer
        · obtain ⟨sl, e2⟩ := cs b hb _ e1
          exact ⟨_, e2⟩
        · exact ⟨o', fl.1 b o' (toB b o' e1 (nstk b o e hb))⟩
      tups := I.base.tups
      frzs := I.base.frzs
      tbls := I.base.tbls }
  · exact fun b o e n hb => toB b o (I.base.keep b o e n hb (by exact fun z => nomatch z)) (nstk b o e hb)
  · intro b o e hb
    obtain ⟨o', e1⟩ := I.base.there b o e (by exact fun z => nomatch z)
    exact ⟨o', toB b o' e1 (nstk b o e hb)⟩
theorem passes_on : Passes (CXe P w) (cxOf (CXe P w) P w K mg base N qual scope f cd A outer s H E) E := by
  intro pins σ H1 s1 e s' I cx
  obtain ⟨a, C, dx, H', B, rfl, os, bare, un, hB, fl, kU, kT, q⟩ := cx
  have nstk : ∀ b o, s.heap.get? b = some o → b ∉ frs outer → b ∉ frs (cxOf (CXe P w) P w K mg base N qual scope f cd A outer s H E).stack := fun b o e n z => by
    rcases frs_own.mp z with z | z
    · rw [z] at e
      exact absurd (Heap.lt_size e) (Nat.lt_irrefl _)
    · exact n z
  have sub : ∀ b ∈ frs outer, b ∈ frs (cxOf (CXe P w) P w K mg base N qual scope f cd A outer s H E).stack := fun b hb => frs_own.mpr (.inr hb)
  have ff : s'.heap.FunFrames B (cxOf (CXe P w) P w K mg base N qual scope f cd A outer s H E).stack := fl.2.2.1
  refine leavesX (s := s') I.ok.frames rfl fl fun h2 fl2 us => ?_
  have cs : ∀ b ∈ frs outer, ∀ o, s'.heap.get? b = some o → ∃ sl, h2.get? b = some { o with slots := sl } := fun b hb o e => by
    obtain ⟨_, o', e', hd⟩ := ff.mem (sub b hb)
    rw [e] at e'; cases e'
    exact us b o e hd
  have no : ∀ b : Addr, b ∉ ([] : List Addr) := fun b z => nomatch z
  refine ⟨a, C, dx, H', B, rfl, os.trans I.os, bare, ?_, hB, fl2, ?_, ?_, q⟩
  · exact {
      keep := fun b o e n hb _ => fl2.1 b o (kU b o (I.base.keep b o e n hb (no b)) (I.base.free b o e n (no b)) (nstk b o e hb))
      slot := fun b o e n hb _ => by
        obtain ⟨sl, e1⟩ := I.base.slot b o e n hb (no b)
        obtain ⟨sl', e2⟩ := un.slot b _ e1 (I.base.free b o e n (no b)) (sub b hb) (no b)
        obtain ⟨sl'', e3⟩ := cs b hb _ e2
        exact ⟨sl'', e3⟩
      free := fun b o e n _ => by
        obtain ⟨o', e1⟩ := I.base.there b o e (no b)
        exact un.free b o' e1 (I.base.free b o e n (no b)) (no b)
      there := fun b o e _ => by
        obtain ⟨o1, e1⟩ := I.base.there b o e (no b)
        by_cases hb : b ∈ frs outer
        · obtain ⟨o2, e2⟩ := un.there b o1 e1 (no b)
          obtain ⟨sl, e3⟩ := cs b hb _ e2
          exact ⟨_, e3⟩
        · obtain ⟨o2, e2⟩ := kT b o1 e1 (nstk b o e hb)
          exact ⟨o2, fl2.1 b o2 e2⟩
      tups := fun b xs z => un.tups b xs (I.base.tups b xs z)
      frzs := fun b o u z => un.frzs b o u (I.base.frzs b o u z)
      tbls := fun b ps z => by
        obtain ⟨m1, e1⟩ := I.base.tbls b ps z
        obtain ⟨m2, e2⟩ := un.tbls b _ e1
        exact ⟨m1 ++ m2, by rw [e2, Array.append_assoc]⟩ }
  · exact fun b o e n hb => kU b o (I.base.keep b o e n hb (no b)) (I.base.free b o e n (no b)) (nstk b o e hb)
  · intro b o e hb
    obtain ⟨o1, e1⟩ := I.base.there b o e (no b)
    exact kT b o1 e1 (nstk b o e hb)
theorem FunD.okE {x qual : Str} {st : Stmt} {f : Addr} {fd : FuncData} {N ps : List Str} {k : Nat} {sp : Sp} (F : FunD K x qual st f fd) (S : FnScope N ps (defScope st)) (len : ∀ vs H Q E, sp vs H Q E → vs.length = ps.length)
    (hbody : ∀ (cdv : Value) (A : Around) (outer : List Env) (s : Shared) (H : Hp) (vs : List V) (Q : VK) (E : XK), Room k (A.deeper (envOfC qual (defScope st) s.heap.objs.size f cdv)) → sp vs H Q E →
      ∃ t, PSs (cxOf (CXe P w) P w K mg base N qual (defScope st) f cdv A outer s H E) (defBody st) t ∧ t { nx := fun _ H' => Q .non H', rt := Q } (start N vs) H) : FnOk P w K mg base (CXe P w) (k + 1) f fd ps sp := by
  obtain ⟨oc, od, dV, kV, doc, pm, an, cdv, ct, osl, rfl, lk, hcd⟩ := F.ex
  exact fn_of lk hcd S len fun A outer s H vs Q E hr hsp => hbody cdv A outer s H vs Q E hr hsp
end
abbrev bmVE : List Value := [.type "ValueError", .type "Exception", .type "BaseException", .type "object"]
theorem topRead_any {p : Program} {mg mb : Str → Option Value} {h : Heap} (g : h.Ns mainGlobals mg) (b : h.Ns builtinsNs mb) (nl : h.NoLimit) (bl : ∀ x : Str, x ≠ "__name__" → mb x = bootBuiltins x) :
    ∃ loose, PySem.W.TopRead p loose mg mb h := by
  obtain ⟨o, es, ep, ho, hd, hk, hm⟩ := id g
  refine ⟨es.toList.filterMap (fun (e : DictEntry) => match e.key with | .str n _ => some n | _ => none), ⟨g, b, nl, bl, fun x _ hx _ _ _ => ?_⟩⟩
  rw [← hm x]
  unfold nsFind findBy
  rw [Option.map_eq_none_iff, Array.find?_eq_none]
  intro e he hs
  obtain ⟨n, t, hn⟩ := hk e he
  apply hx
  refine List.mem_filterMap.mpr ⟨e, Array.mem_toList_iff.mpr he, ?_⟩
  rw [hn] at hs ⊢
  have e2 : n = x := by simpa [Value.isStr] using hs
  rw [e2]
def tRaise (C : Addr) (E : XK) (t : TA) : TS := fun _ σ H => t σ H fun vs H1 => vs.length ≤ sizeLine ∧ E (.ref C) none H1
def Raises (X : Cx) (C : Addr) (E : XK) : Prop := ∀ (pins : Pn) (σ : St) (H : Hp) (s : Shared) (h' : Heap) (e : Addr) (vs : List Value), Inv X pins σ H s → Heap.MadeExcOf s.heap h' e (.ref C) vs → E (.ref C) none H → X.xe (.ref e) { s with heap := h' }
theorem raisesE {P : Program} {w : World} {K : Fg} {mg : Str → Option Value} {base : Heap} {N : List Str} {qual : Str} {scope : Scope} {f C : Addr} {cd : Value} {A : Around} {outer : List Env} {s : Shared} {H : Hp} {E : XK} :
    Raises (cxOf (CXe P w) P w K mg base N qual scope f cd A outer s H E) C E := fun _ _ _ _ _ _ _ I me q => raises_cx I me q
section
variable {X : Cx} {E : XK} {x : Str} {np cpos pos : Pos} {e0 : Expr} {es : List Expr} {t : TA} {C : Addr}
theorem ps_raise (hc : X.calm = true) (O : PySem.W.excIn X.K C bmVE "ValueError.__new__" = true) (hn : PySem.W.nsIn X.K mainGlobals x = some (some (.ref C))) (hm : X.mg x = some (.ref C)) (hg : Gl X x) (hx : Raises X C E) (ha : PA X (e0 :: es) t)
    (hd : (x == ("__debug__" : Str)) = false := by decide) (he : starEach (e0 :: es) X.env = (false, eval e0 X.env) :: starEach es X.env := by rfl) (hpl : (backTo cpos (starEach es X.env)).any (·.1) = false := by rfl) :
    PS X (.Raise (some (.Call (.Name x np) (e0 :: es) [] cpos)) none pos) (tRaise C E t) := by
  intro pins s σ H D I h
  obtain ⟨mb, b1, b2⟩ := I.mod.blt
  obtain ⟨loose, TR⟩ := topRead_any (p := X.prog) I.mod.glob b1 I.mod.nolimit b2
  have OC := PySem.W.own_of_in I.mod.kin TR hn O
  obtain ⟨tl, Nn, nm, qq, bs, hdct, sn, sub, ab, col, dd, k0, k1, k2, k3, k5, mN, oC, oN, oi, oT⟩ := OC.obj
  have hp2 : (backTo cpos (starEach (e0 :: es) X.env)).any (·.1) = false := by
    rw [he]
    show (false || (backTo cpos (starEach es X.env)).any (·.1)) = false
    rw [hpl]
    rfl
  refine wpAny_Raise_call_subU (C := C) (nm := nm) (q := qq) (N := Nn) (bs := bs) (bm := tl) (hdct := hdct) (sn := sn) (sub := sub) (ab := ab) (col := col) (dd := dd) (k0 := k0) (k1 := k1) (k2 := k2) (k3 := k3) (k5 := k5)
    PySem.F.excBase_ValueError (by decide) PySem.F.excBase_ValueError (mN := mN) (oT.hasType PySem.F.excBase_ValueError.hasBase) (I.ok.hd hc) hp2 oi (ld_glob I hg hm ⟨rfl, ?_⟩ hd)
  have hA := ha cpos pins s σ H _ I h
  rw [he] at hA ⊢
  refine Calls.evalArgs_plain (thn hA fun us s2 ⟨vs, H2, I2, r2, hl, q⟩ => ⟨rfl, by rw [← r2.length]; exact hl, I2.bk _ _ oC, oN.keeps I2.bk, oT.keeps I2.bk, fun h' e me => hx pins σ H2 s2 h' e us I2 me q⟩)
end
abbrev Cx.marked (X : Cx) (a : Addr) : Cx := { X with A := X.A.mark (some (.ref a)), calm := false }
section
variable {X : Cx} {pins : Pn} {σ : St} {H H' : Hp} {s s' : Shared}
theorem Cx.Ok.marked (ok : X.Ok) (a : Addr) : (X.marked a).Ok :=
  ⟨ok.mod, ok.kind, ok.glob, ok.blt, ok.above, ok.inj, ok.has, ok.cab, (fun z => nomatch z), ok.frames, ok.stk, ok.exf, ok.bs, ok.bsz, ok.noex, ok.exfs, ok.funs, ok.frf⟩
theorem Inv.marked (I : Inv X pins σ H s) (a : Addr) : Inv (X.marked a) pins σ H s := ⟨I.ok.marked a, I.os, I.bare, I.base, I.loc, I.cell, I.free, I.freeC, I.pin, I.hok, I.len⟩
theorem Inv.unmarked {a : Addr} (I : Inv (X.marked a) pins σ H s) (ok : X.Ok) : Inv X pins σ H s := ⟨ok, I.os, I.bare, I.base, I.loc, I.cell, I.free, I.freeC, I.pin, I.hok, I.len⟩
theorem SP.unmarked {a : Addr} {D : Ends} {f : Flow} (h : SP (X.marked a) pins D f s') (ok : X.Ok) : SP X pins D f s' := by
  cases f with
  | next => obtain ⟨σ', H', I, q⟩ := h; exact ⟨σ', H', I.unmarked ok, q⟩
  | brk => obtain ⟨σ', H', I, q⟩ := h; exact ⟨σ', H', I.unmarked ok, q⟩
  | cont => obtain ⟨σ', H', I, q⟩ := h; exact ⟨σ', H', I.unmarked ok, q⟩
  | ret u => obtain ⟨v, σ', H', I, r, q⟩ := h; exact ⟨v, σ', H', I.unmarked ok, r, q⟩
theorem Inv.flown {B h2 : Heap} (I : Inv X pins σ H s) (os : s'.os = s.os) (bare : AllBare s'.gens) (un : Un (frs X.stack) [] H H' s.heap s'.heap) (hB : HOk X.prog X.w H' B) (ff : s'.heap.FunFrames B X.stack)
    (kU : ∀ b o, s.heap.get? b = some o → H b = none → b ∉ frs X.stack → B.get? b = some o) (kT : ∀ b o, s.heap.get? b = some o → b ∉ frs X.stack → ∃ o', B.get? b = some o') (st : B.StaysIn h2) (us : s'.heap.UpToSlots h2) :
    Inv X pins σ H' { s' with heap := h2 } := by
  have cs : ∀ b ∈ frs X.stack, ∀ o, s'.heap.get? b = some o → ∃ sl, h2.get? b = some { o with slots := sl } := fun b hb o e => by
    obtain ⟨_, o', e', hd⟩ := ff.mem hb
    rw [e] at e'; cases e'
    exact us b o e hd
  have u2 : Un (frs X.stack) [] H H' s.heap h2 := {
    keep := fun b o e n hb _ => st b o (kU b o e n hb)
    slot := fun b o e n hb hx => by
      obtain ⟨sl, e1⟩ := un.slot b o e n hb hx
      obtain ⟨sl', e2⟩ := cs b hb _ e1
      exact ⟨sl', e2⟩
    free := un.free
    there := fun b o e hx => by
      by_cases hb : b ∈ frs X.stack
      · obtain ⟨o2, e2⟩ := un.there b o e hx
        obtain ⟨sl, e3⟩ := cs b hb _ e2
        exact ⟨_, e3⟩
      · obtain ⟨o2, e2⟩ := kT b o e hb
        exact ⟨o2, st b o2 e2⟩
    tups := un.tups
    frzs := un.frzs
    tbls := un.tbls }
  obtain ⟨hh, g, d, t, os'⟩ := s'
  obtain rfl : os' = s.os := os
  show Inv X pins σ H' { s with heap := h2, gens := g, drawn := d, toks := t }
  exact I.call (h' := h2) (g' := g) (d' := d) (t' := t) (ch := []) u2 (hB.kept st) bare (fun b z => absurd z (by simp))
end
structure Meets1 (X : Cx) (x : Str) (T : Addr) (C : Addr) (b : Bool) : Prop where
  gl : Gl X x
  m : X.mg x = some (.ref T)
  ex : PySem.W.exmOne X.K (.ref C) (.ref T) = some b
  db : (x == ("__debug__" : Str)) = false
section
variable {X : Cx} {pins : Pn} {σ : St} {H : Hp} {s s' : Shared} {E : XK} {ex : Value} {x : Str} {T : Addr} {np hpos : Pos} {b0 : Stmt} {suite : List Stmt} {ts : TS} {D : Ends} {Q0 : Hp → Prop}
theorem caught_ok (I : Inv X pins σ H s) (hst : X.stack = X.env :: X.outer) (hf : X.env.frame = some X.env.locals) (h0 : ∀ e s, X.xe e s → False) (cx : CXe X.prog X.w X.stack H s E ex s')
    (hE : ∀ C d H', E (.ref C) d H' → Meets1 X x T C true ∧ ts D σ H') (hs : ∀ a, PSs (X.marked a) (b0 :: suite) ts) :
    wpAny (model X.prog X.w) X.A (noteFrame ex X.env) (fun _ s2 => wpAny (model X.prog X.w) X.A (setFlight ex none) (fun _ s3 =>
      wpAny (model X.prog X.w) X.A (handleBy ex X.env [.ExceptHandler (some (.Name x np)) none (b0 :: suite) hpos]) (SP X pins D) X.xe s3) X.xe s2) X.xe s' := by
  obtain ⟨a, C, dx, H', B, rfl, os, bare, un, hB, fl, kU, kT, q⟩ := cx
  obtain ⟨M1, q⟩ := hE C _ H' q
  have ff := fl.2.2.1
  have fl' : Heap.FlyX B (X.env :: X.outer) a (.ref C) dx s'.heap := by rw [← hst]; exact fl
  have hfr : X.A.frames = some (X.env :: X.outer) := by rw [← hst]; exact I.ok.frames
  refine looksX (s := s') hfr hf fl' fun h4 held4 us4 => ?_
  refine landsX (s := { s' with heap := h4 }) held4 fun h5 fl5 us5 => ?_
  have us45 := us4.trans us5
  have I5 : Inv X pins σ H' { s' with heap := h5 } := I.flown os bare un hB ff kU kT fl5.1 us45
  refine wpAny_handleBy_cons (codeAny_handlers_test ?_) (by intro z; cases z)
  refine ld_glob (X := X.marked a) (I5.marked a) M1.gl M1.m ?_ M1.db
  have LT : PySem.W.Looks (model X.prog X.w) h5 (typeOf (.ref a)) (.ref C) := by
    obtain ⟨ob, hob, hc⟩ := fl5.there
    rw [← hc]
    exact (PySem.W.Looks.ld hob).andThen .now
  refine (PySem.W.exm_one I5.kIn LT M1.ex).here ?_
  refine codeAny_handlers_suite ?_
  refine landsX (s := { s' with heap := h5 }) fl5 fun h6 fl6 us6 => ?_
  have I6 : Inv X pins σ H' { s' with heap := h6 } := I.flown os bare un hB ff kU kT fl6.1 (us45.trans us6)
  exact wpAny_mono (hs a pins { s' with heap := h6 } σ H' D (I6.marked a) q) (fun f s9 z => z.unmarked I.ok) fun e s9 z => (h0 e s9 z).elim
end
section
variable {X : Cx} {k : Nat} {f : Addr} {fd : FuncData} {ps : List Str} {sp : Sp} {dvs : List V} {ds : List Value} {fx x cx : Str} {p cpos px apos np hpos pos : Pos} {e : Expr} {es : List Expr} {t : TA} {T : Addr} {b0 : Stmt} {suite : List Stmt} {ts : TS} {i : Nat}
end
end L2
namespace L2
open PySem PySem.Spec PyProof.Rows
section
variable {prog : Program} {w : World} {A : Around} {R : Result → Shared → Prop} {s : Shared}
abbrev NB (prog : Program) (w : World) (A : Around) (env : Env) (R : Result → Shared → Prop) : Value → Shared → Prop := notedBy (model prog w) A env fun e s' => R (.error e) s'
theorem comp_loop {elt tg iter : Expr} {scope : Scope} {pos : Pos} {itv acc : Value} {env : Env} (J : Nat → Shared → Prop)
    (turn : ∀ n s, J n s → wpAny (model prog w) A (pyNext itv) (fun r s1 => match r with
      | none => R (.ok .next) s1
      | some v => wpAny (model prog w) A (letOwnedTupleGo tg itv v) (fun _ s2 => wpAny (model prog w) A (assign tg env v) (fun _ s3 => wpAny (model prog w) A (eval elt env) (fun x s4 =>
          wpAny (model prog w) A (call (.builtin "list.append") [acc, x]) (fun _ s5 => ∃ m, m < n ∧ J m s5) (NB prog w A env R) s4) (NB prog w A env R) s3) (NB prog w A env R) s2) (NB prog w A env R) s1) (NB prog w A env R) s)
    (n : Nat) (h : J n s) : codeAny (model prog w) A (.compLoop (.ListComp elt [⟨tg, iter, [], 0⟩] scope pos) 0 itv acc env) R s := by
  refine codeAny_loop rfl J (fun n s hJ => ?_) n h
  show wpAny _ _ ((compTurn (.ListComp elt [⟨tg, iter, [], 0⟩] scope pos) 0 itv acc env).onRaise (fun x => do noteFrame x env; theTreesLotGoes x)) _ _ s
  refine wpAny_noted ?_
  rw [compTurn_list1]
  refine wpAny_bind (wpAny_standAt (wpAny_bind (wpAny_mono (turn n s hJ) (fun r s1 z => ?_) fun _ _ q => q)))
  match r, z with
  | none, z => exact wpAny_pure z
  | some v, z =>
    exact wpAny_bind (wpAny_mono z (fun _ s2 z => wpAny_bind (wpAny_mono z (fun _ s3 z => wpAny_bind (wpAny_bind (wpAny_mono z (fun x s4 z =>
      wpAny_bind (wpAny_mono z (fun _ s5 z => wpAny_pure (wpAny_pure ⟨rfl, z⟩)) fun _ _ q => q)) fun _ _ q => q))) fun _ _ q => q)) fun _ _ q => q)
end
theorem closure_from {env : Env} : ∀ (names : List (Str × NameKind)) (acc : List (Str × Addr)), (∀ y ∈ names, y.2 = .free → ∃ c, env.cells.lookup y.1 = some c) → (∀ x c, acc.lookup x = some c → env.cells.lookup x = some c) →
    ∃ cl, (forIn names acc (fun (x : Str × NameKind) cs => if (x.2 == NameKind.free) = true then (do let __do_lift ← cellOf env x.1; pure (ForInStep.yield ((x.1, __do_lift) :: cs))) else pure (ForInStep.yield cs)) : Sem (List (Str × Addr))) = pure cl ∧
      (∀ x c, cl.lookup x = some c → env.cells.lookup x = some c) ∧ (∀ x, (∃ c, acc.lookup x = some c) → ∃ c, cl.lookup x = some c) ∧ ∀ y ∈ names, y.2 = .free → ∃ c, cl.lookup y.1 = some c
  | [], acc, _, ha => ⟨acc, rfl, ha, fun _ h => h, fun _ h => nomatch h⟩
  | y :: r, acc, hn, ha => by
    by_cases hf : y.2 = .free
    · obtain ⟨c, hc⟩ := hn y List.mem_cons_self hf
      obtain ⟨cl, e, h1, h2, h3⟩ := closure_from r ((y.1, c) :: acc) (fun z hz => hn z (List.mem_cons_of_mem _ hz)) (fun x d e => by
        rw [List.lookup_cons] at e
        cases q : x == y.1 with
        | true => rw [q] at e; cases e; rw [eq_of_beq q]; exact hc
        | false => rw [q] at e; exact ha x d e)
      refine ⟨cl, ?_, h1, fun x ⟨d, hd⟩ => h2 x ?_, fun z hz zf => ?_⟩
      · rw [List.forIn_cons, if_pos (by rw [hf]; rfl)]
        have ec : cellOf env y.1 = pure c := by unfold cellOf; rw [hc]
        rw [ec]
        exact e
      · rw [List.lookup_cons]
        cases q : x == y.1 with
        | true => exact ⟨c, rfl⟩
        | false => exact ⟨d, hd⟩
      · rcases List.mem_cons.mp hz with z1 | z1
        · subst z1
          exact h2 z.1 ⟨c, by rw [List.lookup_cons, beq_self_eq_true]⟩
        · exact h3 z z1 zf
    · obtain ⟨cl, e, h1, h2, h3⟩ := closure_from r acc (fun z hz => hn z (List.mem_cons_of_mem _ hz)) ha
      refine ⟨cl, ?_, h1, h2, fun z hz zf => ?_⟩
      · rw [List.forIn_cons, if_neg (by simpa using hf)]
        exact e
      · rcases List.mem_cons.mp hz with z1 | z1
        · subst z1; exact absurd zf hf
        · exact h3 z z1 zf
theorem closure_of {env : Env} {sc : Scope} (h : ∀ y ∈ sc.names, y.2 = .free → ∃ c, env.cells.lookup y.1 = some c) :
    ∃ cl, closureFor sc env = pure cl ∧ (∀ x c, cl.lookup x = some c → env.cells.lookup x = some c) ∧ ∀ y ∈ sc.names, y.2 = .free → ∃ c, cl.lookup y.1 = some c := by
  obtain ⟨cl, e, h1, _, h3⟩ := closure_from sc.names [] h (fun x c e => by simp at e)
  refine ⟨cl, ?_, h1, h3⟩
  unfold closureFor
  simp only [e]
  rfl
structure CompOk (X : Cx) (tg : Str) (sc : Scope) (fr : List (Str × Nat)) : Prop where
  kind : sc.kind = .function
  nocell : ∀ y ∈ sc.names, y.2 ≠ .cell
  locs : ∀ y ∈ sc.names, y.2 = .local → sc.names.lookup y.1 = some .local
  tgl : sc.names.lookup tg = some .local
  fre : ∀ y ∈ sc.names, y.2 = .free → X.env.scope.names.lookup y.1 = some .cell ∨ X.env.scope.names.lookup y.1 = some .free
  nd : (tg :: fr.map (·.1)).Nodup
  vis : ∀ p ∈ fr, X.N[p.2]? = some p.1 ∧ (X.env.scope.names.lookup p.1 = some .cell ∨ X.env.scope.names.lookup p.1 = some .free) ∧ sc.names.lookup p.1 = some .free
abbrev Cx.blk (X : Cx) (Nc : List Str) (sc : Scope) (cl : List (Str × Addr)) (C : Addr) (s3 : Shared) (H3 : Hp) (fp : List Addr) : Cx :=
  { X with N := Nc, s₀ := s3, H₀ := H3, env := compEnvC sc cl C X.env, outer := X.stack, ex := fp, fn := fun _ => false, pn := [], xe := fun _ _ => False }
theorem relabel_free {env : Env} : ∀ {names : List (Str × NameKind)} {x : Str} {k : NameKind}, (∀ y ∈ names, y.2 ≠ .cell) → (k = .cell ∨ k = .free) →
    (names.map fun (n, k) => if (k == NameKind.free && env.scope.kind == .function && env.kindOf n == some .cell) then (n, NameKind.cell) else (n, k)).lookup x = some k → ∃ y ∈ names, y.1 = x ∧ y.2 = .free
  | [], _, _, _, _, e => by simp at e
  | (n, k') :: r, x, k, hn, hk, e => by
    have ih := @relabel_free env r x k (fun y hy => hn y (List.mem_cons_of_mem _ hy)) hk
    rw [List.map_cons] at e
    by_cases hc : (k' == NameKind.free && env.scope.kind == .function && env.kindOf n == some .cell) = true
    · simp only [hc, if_true, List.lookup_cons] at e
      cases q : x == n with
      | true =>
        have hf : k' = .free := by
          simp only [Bool.and_eq_true, beq_iff_eq] at hc
          exact hc.1.1
        exact ⟨(n, k'), List.mem_cons_self, (eq_of_beq q).symm, hf⟩
      | false =>
        rw [q] at e
        obtain ⟨y, h1, h2⟩ := ih e
        exact ⟨y, List.mem_cons_of_mem _ h1, h2⟩
    · simp only [hc, Bool.false_eq_true, if_false, List.lookup_cons] at e
      cases q : x == n with
      | true =>
        rw [q] at e
        have ek : k' = k := Option.some.inj e
        rcases hk with z | z
        · exact absurd (ek.trans z) (hn (n, k') List.mem_cons_self)
        · exact ⟨(n, k'), List.mem_cons_self, (eq_of_beq q).symm, ek.trans z⟩
      | false =>
        rw [q] at e
        obtain ⟨y, h1, h2⟩ := ih e
        exact ⟨y, List.mem_cons_of_mem _ h1, h2⟩
theorem relabel_seen {env : Env} : ∀ {names : List (Str × NameKind)} {x : Str}, names.lookup x = some .free →
    (names.map fun (n, k) => if (k == NameKind.free && env.scope.kind == .function && env.kindOf n == some .cell) then (n, NameKind.cell) else (n, k)).lookup x = some .cell ∨
    (names.map fun (n, k) => if (k == NameKind.free && env.scope.kind == .function && env.kindOf n == some .cell) then (n, NameKind.cell) else (n, k)).lookup x = some .free
  | [], _, e => by simp at e
  | (n, k') :: r, x, e => by
    have ih := @relabel_seen env r x
    rw [List.map_cons]
    rw [List.lookup_cons] at e
    by_cases hc : (k' == NameKind.free && env.scope.kind == .function && env.kindOf n == some .cell) = true
    · simp only [hc, if_true, List.lookup_cons]
      cases q : x == n with
      | true => exact .inl rfl
      | false => rw [q] at e; exact ih e
    · simp only [hc, Bool.false_eq_true, if_false, List.lookup_cons]
      cases q : x == n with
      | true => rw [q] at e; exact .inr e
      | false => rw [q] at e; exact ih e
section
variable {X : Cx} {pins : Pn} {σ : St} {H : Hp} {s3 s4 : Shared} {tg : Str} {sc : Scope} {fr : List (Str × Nat)} {fp : List Addr} {cl : List (Str × Addr)}
def inSt (σ : St) (fr : List (Str × Nat)) : St := fr.map fun p => (σ[p.2]?).join
theorem blk_start (ok : CompOk X tg sc fr) (I : Inv X pins σ H s3) (hf : ∀ b ∈ fp, FpOk X pins H b) (hfo : ∀ b ∈ fp, ∃ o, s3.heap.get? b = some o) (hk : ∀ x c, cl.lookup x = some c → X.env.cells.lookup x = some c) (hc : ∀ y ∈ sc.names, y.2 = .free → ∃ c, cl.lookup y.1 = some c)
    {h4 : Heap} {t4 : Nat} (hns : ∃ m, h4.Ns s3.heap.objs.size m) (hkeep : ∀ b o, s3.heap.get? b = some o → h4.get? b = some o) :
    Inv (X.blk (tg :: fr.map (·.1)) sc cl s3.heap.objs.size s3 H fp) [] (none :: inSt σ fr) H { s3 with heap := h4, toks := t4 } := by
  have hasc : ∀ x, ((relabel sc X.env).names.lookup x = some .cell ∨ (relabel sc X.env).names.lookup x = some .free) → ∃ c, cl.lookup x = some c := fun x hx => by
    obtain ⟨y, h1, h2, h3⟩ : ∃ y ∈ sc.names, y.1 = x ∧ y.2 = .free := by
      rcases hx with z | z
      · exact relabel_free ok.nocell (.inl rfl) z
      · exact relabel_free ok.nocell (.inr rfl) z
    subst h2
    exact hc y h1 h3
  have cell4 : ∀ x c, cl.lookup x = some c → ∀ v, s3.heap.IsCell c v → h4.IsCell c v := fun x c _ v ⟨o, ho, hd⟩ => ⟨o, hkeep c o ho, hd⟩
  have fresh : H s3.heap.objs.size = none := I.hok.fresh (Nat.le_refl _)
  refine ⟨⟨I.mod, ok.kind, I.ok.glob, I.ok.blt, Nat.le_refl _, fun x y c e1 e2 => I.ok.inj x y c (hk x c e1) (hk y c e2), hasc, (fun x c e => nomatch e), I.ok.hd, I.ok.frames, .inl rfl, fun b hb => ?_, I.bs, Nat.le_trans I.ok.bsz I.sz, fun b o e hb => ?_, fun b hb z => ?_, I.stack, I.stkFree⟩,
    rfl, I.bare, Un.kept hkeep, ?_, fun x c e => ?_, fresh, fun x c e => I.freeC x c (hk x c e), (fun p hp => nomatch hp), I.hok.kept hkeep, ?_⟩
  · obtain ⟨f0, f1, f2, f3, f4, f5⟩ := hf b hb
    refine ⟨fun z => ?_, fun x c e => f4 x c (hk x c e)⟩
    obtain ⟨o, eo⟩ := hfo b hb
    have z' : b = s3.heap.objs.size := z
    rw [z'] at eo
    exact absurd (Heap.lt_size eo) (Nat.lt_irrefl _)
  · obtain ⟨f0, f1, f2, f3, f4, f5⟩ := hf b hb
    rcases f3 with z | z
    · exact I.ok.noex b o e z
    · exact absurd (Nat.lt_of_lt_of_le (Nat.lt_of_lt_of_le (Heap.lt_size e) I.ok.bsz) z) (Nat.lt_irrefl _)
  · obtain ⟨f0, f1, f2, f3, f4, f5⟩ := hf b hb
    rcases List.mem_cons.mp (I.stkSub b z) with q | q
    · exact f1 q
    · exact f2 q
  · obtain ⟨m, hn⟩ := hns
    obtain ⟨m0, _, hl0⟩ := I.loc
    refine ⟨m, hn, fun i x v e1 e2 _ => ?_⟩
    cases i with
    | zero => cases e2
    | succ i =>
      have e2' : ((fr.map fun p => (σ[p.2]?).join))[i]? = some (some v) := e2
      have e1' : (fr.map (·.1))[i]? = some x := e1
      rw [List.getElem?_map] at e1' e2'
      cases q : fr[i]? with
      | none => rw [q] at e1'; cases e1'
      | some p =>
        rw [q] at e1' e2'
        have ex : p.1 = x := Option.some.inj e1'
        have ev : (σ[p.2]?).join = some v := Option.some.inj e2'
        obtain ⟨g1, g2, g3⟩ := ok.vis p (List.mem_of_getElem? q)
        have ev' : σ[p.2]? = some (some v) := by
          cases z : σ[p.2]? with
          | none => rw [z] at ev; cases ev
          | some w => rw [z] at ev; exact congrArg some ev
        have gv : Vis X.env.scope p.1 := g2.elim (fun z => .inr (.inl z)) fun z => .inr (.inr z)
        obtain ⟨u, ru, lk⟩ := hl0 p.2 p.1 v g1 ev' gv
        subst ex
        refine ⟨u, ru, .inr ⟨relabel_seen g3, ?_⟩⟩
        rcases lk with ⟨k1, _⟩ | ⟨_, c, ec, hcell⟩
        · rcases g2 with z | z
          · have k2 : X.env.scope.names.lookup p.1 = some .local := k1
            rw [z] at k2; cases k2
          · have k2 : X.env.scope.names.lookup p.1 = some .local := k1
            rw [z] at k2; cases k2
        · obtain ⟨c', ec'⟩ := hasc p.1 (relabel_seen g3)
          have e3 := hk _ _ ec'
          rw [ec] at e3
          cases e3
          exact ⟨c, ec', cell4 _ c ec' _ hcell⟩
  · obtain ⟨v, z⟩ := I.cell x c (hk x c e)
    exact ⟨v, cell4 x c e v z⟩
  · show (none :: inSt σ fr).length = (tg :: fr.map (·.1)).length
    simp [inSt]
end
def tLC (fr : List (Str × Nat)) (wi : TI) (te : TE) : TE := fun σ H Q => wi σ H fun J H1 => ∀ acc, H1 acc = none → ∃ W : Nat → Nat → Hp → Prop, (∃ m, W 0 m (upd H1 acc (.lst []))) ∧ ∀ i m H2, W i m H2 →
  (J.stop i H2 ∧ Q (.ref acc) H2) ∨ (J.go i H2 ∧ ∀ x H3, J.yld i H2 x H3 → te (some x :: inSt σ fr) H3 fun v H4 => ∃ xs m', H4 acc = some (.lst xs) ∧ xs.length < sizeLine ∧ m' < m ∧ W (i + 1) m' (upd H4 acc (.lst (xs ++ [v]))))
section
variable {X : Cx} {elt iter : Expr} {x : Str} {px pos : Pos} {sc : Scope} {fr : List (Str × Nat)} {wi : TI} {te : TE}
theorem pe_lc (hc : X.calm = true) (ok : CompOk X x sc fr) (hi : PI X (.Name x px) iter wi) (he : ∀ cl C s3 H3 fp, PE (X.blk (x :: fr.map (·.1)) sc cl C s3 H3 fp) elt te) (hs : ∀ x, foldedSetIterable iter X.env x = pure x := by intro _; rfl) :
    PE X (.ListComp elt [⟨.Name x px, iter, [], 0⟩] sc pos) (tLC fr wi te) := by
  intro pins s σ H Q I h
  obtain ⟨cl, ecl, hk, hcx⟩ := closure_of (env := X.env) (sc := sc) (fun y hy yf => I.ok.has y.1 (ok.fre y hy yf))
  rw [eval_ListComp]
  refine wpAny_comprehension_free (use := none) rfl hs ecl ok.kind ok.locs (thn (hi pins s σ H _ I h) fun v s1 h1 => thn h1 fun itv s2 h2 => ?_)
  obtain ⟨it, fp, tn, J, H2, e, I2, T, st2, f2, q⟩ := h2
  subst e
  have hacc : H2 s2.heap.objs.size = none := I2.hok.fresh (Nat.le_refl _)
  obtain ⟨W, ⟨m0, w0⟩, turn⟩ := q s2.heap.objs.size hacc
  refine wpAny_newObj_type ?_
  have I3 := I2.laid (a := s2.heap.objs.size) (o := .lst []) (h' := s2.heap.push { cls := .type "list", data := .seq ([] : List Value).toArray }) (t' := s2.toks) (fun b u e => Heap.get?_push_of_some _ e) (Nat.le_refl _) ⟨Nat.zero_le _, [], 0, .nil, Heap.get?_push_size _ rfl⟩
  refine wpAny_newFunctionEnv ok.nocell (by intro y hy; simp at hy) (fun h4 hns4 hsb4 => ?_) ok.kind
  generalize hs3 : ({ s2 with heap := s2.heap.push { cls := .type "list", data := .seq ([] : List Value).toArray } } : Shared) = s3 at *
  have keep4 : ∀ b o, s3.heap.get? b = some o → h4.get? b = some o := fun b o e => hsb4.extBut b o (Nat.ne_of_lt (Heap.lt_size e)) (Heap.get?_push_of_some _ e)
  have keep3 : ∀ b o, s2.heap.get? b = some o → s3.heap.get? b = some o := fun b o e => by rw [← hs3]; exact Heap.get?_push_of_some _ e
  have hfo : ∀ b ∈ fp, ∃ o, s3.heap.get? b = some o := fun b hb => by
    obtain ⟨o, eo, _⟩ := T.obj 0 _ st2 b hb
    exact ⟨o, keep3 b o eo⟩
  have f3 : ∀ b ∈ fp, FpOk X pins (upd H2 s2.heap.objs.size (.lst [])) b := fun b hb => by
    obtain ⟨o, eo, _⟩ := T.obj 0 _ st2 b hb
    exact ⟨by rw [upd_ne (Nat.ne_of_lt (Heap.lt_size eo))]; exact (f2 b hb).1, (f2 b hb).2⟩
  have I4 := blk_start (t4 := s3.toks + ([] : List (Str × Value)).length) ok I3 f3 hfo hk hcx ⟨_, hns4⟩ keep4
  have st4 : tn 0 h4 := T.keep 0 s2.heap h4 st2 fun b hb o e => keep4 b o (keep3 b o e)
  have stat : ∀ {H' : Hp}, (∀ b ∈ fp, H' b = none) → ∀ b ∈ fp, FpOk (X.blk (x :: fr.map (·.1)) sc cl s3.heap.objs.size s3 (upd H2 s2.heap.objs.size (.lst [])) fp) [] H' b := fun hn b hb =>
    ⟨hn b hb, (I4.ok.exf b hb).1, I4.ok.exfs b hb, .inl hb, (I4.ok.exf b hb).2, fun p hp => nomatch hp⟩
  have lk : (relabel sc X.env).names.lookup x = some .local := lookup_relabel_local ok.tgl
  have loop : codeAny (model X.prog X.w) X.A (.compLoop (.ListComp elt [⟨.Name x px, iter, [], 0⟩] sc pos) 0 (.ref it) (.ref s2.heap.objs.size) (compEnvC sc cl s3.heap.objs.size X.env))
      (compPost (model X.prog X.w) X.A X.xe none (EP X pins σ Q) (.ref s2.heap.objs.size) s3.heap.objs.size) { s3 with heap := h4, toks := s3.toks + ([] : List (Str × Value)).length } := by
    refine comp_loop (fun n s' => ∃ i x0 H', Inv (X.blk (x :: fr.map (·.1)) sc cl s3.heap.objs.size s3 (upd H2 s2.heap.objs.size (.lst [])) fp) [] (x0 :: inSt σ fr) H' s' ∧ tn i s'.heap ∧ (∀ b ∈ fp, H' b = none) ∧ W i n H') ?_ m0
      ⟨0, none, _, I4, st4, fun b hb => (f3 b hb).1, w0⟩
    rintro n s5 ⟨i, x0, H5, I5, st5, fr5, w5⟩
    rcases turn i n H5 w5 with ⟨stop, qq⟩ | ⟨go, step⟩
    · refine thn (T.done (X.blk (x :: fr.map (·.1)) sc cl s3.heap.objs.size s3 (upd H2 s2.heap.objs.size (.lst [])) fp) rfl rfl rfl hc i [] s5 _ H5 _ I5 (stat fr5) st5 stop) fun r s6 ⟨hr, I6⟩ => ?_
      subst hr
      obtain ⟨m6, hn6, _⟩ := I6.loc
      refine ⟨m6, hn6, fun h7 hsb7 => ?_⟩
      have ne : ∀ b o, s3.heap.get? b = some o → b ≠ s3.heap.objs.size := fun b o e => Nat.ne_of_lt (Heap.lt_size e)
      have u6 : Un (frs X.stack) fp (upd H2 s2.heap.objs.size (.lst [])) H5 s3.heap s6.heap := I6.base
      have u7 : Un (frs X.stack) fp (upd H2 s2.heap.objs.size (.lst [])) H5 s3.heap h7 := {
        keep := fun b o e n hb hx => hsb7.extBut b o (ne b o e) (u6.keep b o e n hb hx)
        slot := fun b o e n hb hx => by
          obtain ⟨sl, e1⟩ := u6.slot b o e n hb hx
          exact ⟨sl, hsb7.extBut b _ (ne b o e) e1⟩
        free := u6.free
        there := fun b o e hx => by
          obtain ⟨o', e1⟩ := u6.there b o e hx
          exact ⟨o', hsb7.extBut b _ (ne b o e) e1⟩
        tups := u6.tups
        frzs := u6.frzs
        tbls := u6.tbls }
      have hok7 : HOk X.prog X.w H5 h7 := fun b u eu => (I6.hok b u eu).stay (fun c v hcx q => hsb7.extBut c v (fun z => by
        have nf := I6.free
        have z' : H5 s3.heap.objs.size = none := nf
        rw [← z] at z'
        rcases hcx with y | y
        · rw [y, eu] at z'; cases z'
        · rw [y] at z'; cases z') q) (fun _ q => q) fun _ _ q => q
      have os6 : s6.os = s3.os := I6.os
      have bare6 := I6.bare
      obtain ⟨hh, g, d, t, os'⟩ := s6
      obtain rfl : os' = s3.os := os6
      refine ⟨.ref s2.heap.objs.size, H5, ?_, rfl, qq⟩
      show Inv X pins σ H5 { s3 with heap := h7, gens := g, drawn := d, toks := t }
      exact I3.call (h' := h7) (g' := g) (d' := d) (t' := t) (ch := fp) u7 hok7 bare6 fun b hb => ⟨(f3 b hb).2.2.2.1, (f3 b hb).2.1, (f3 b hb).2.2.2.2.1, (f3 b hb).2.2.2.2.2⟩
    · refine thn (T.item (X.blk (x :: fr.map (·.1)) sc cl s3.heap.objs.size s3 (upd H2 s2.heap.objs.size (.lst [])) fp) rfl rfl rfl hc i [] s5 _ H5 _ I5 (stat fr5) st5 go) fun r s6 ⟨u, hr, h6⟩ => ?_
      subst hr
      refine thn h6 fun _ s7 ⟨y, H7, I7, r7, y7, st7, fr7⟩ => ?_
      have I7' := I7.pinned (stat fr7) (T.obj _ _ st7)
      refine wpAny_mono (pg_name (X := X.blk (x :: fr.map (·.1)) sc cl s3.heap.objs.size s3 (upd H2 s2.heap.objs.size (.lst [])) fp) (i := 0) (pos := px) ok.nd rfl (Or.inl lk) (.inr lk) _ s7 _ H7 y u (fun σ' H' => σ' = some y :: inSt σ fr ∧ H' = H7) I7' r7 ⟨rfl, rfl⟩) (fun _ s8 z => ?_) (fun e s z => (show False from z).elim)
      obtain ⟨σ8, H8, I8, e8, e8'⟩ := z
      subst e8 e8'
      refine wpAny_mono (he cl s3.heap.objs.size s3 (upd H2 s2.heap.objs.size (.lst [])) fp _ s8 _ H8 _ I8 (step y H8 y7)) (fun v s9 z => ?_) (fun e s z => (show False from z).elim)
      obtain ⟨z, H9, I9, r9, xs, m', ha, hl, hm, w9⟩ := z
      refine wpAny_mono (mt_append (X := X.blk (x :: fr.map (·.1)) sc cl s3.heap.objs.size s3 (upd H2 s2.heap.objs.size (.lst [])) fp) _ s9 _ H9 (.ref s2.heap.objs.size) [z] (.ref s2.heap.objs.size) [v] (fun _ H' => H' = upd H9 s2.heap.objs.size (.lst (xs ++ [z]))) I9 rfl (.cons r9 .nil) ⟨_, xs, z, rfl, rfl, ha, hl, rfl⟩) (fun _ s10 z => ?_) (fun e s z => (show False from z).elim)
      obtain ⟨_, H10, I10, _, e10⟩ := z
      subst e10
      refine ⟨m', hm, i + 1, some y, _, I10.unpinned, T.keep _ _ _ st7 fun b hb o e => (I10.pin (b, o) (List.mem_append_right _ (List.mem_append_right _ (mem_pinsAt hb e)))).1, fun b hb => ?_, w9⟩
      obtain ⟨o, e, d⟩ := T.obj _ _ st7 b hb
      exact (I10.pin (b, o) (List.mem_append_right _ (List.mem_append_right _ (mem_pinsAt hb e)))).2.1
  exact codeAny_compStart_list loop (T.self X.A 0 _ _ _ st4 loop)
end
end L2
namespace L2
open PySem PySem.Spec PyProof.Rows
section
variable {X : Cx}
theorem ints_at {vs : List Value} {ns : List Int} (h : IntsAre vs ns) : ∀ {j : Nat} {v : Value}, vs[j]? = some v → ∃ n t, ns[j]? = some n ∧ v = .int n t := by
  induction h with
  | nil => intro j v e; simp at e
  | cons n t h ih =>
    intro j v e
    cases j with
    | zero => exact ⟨n, t, rfl, (Option.some.inj e).symm⟩
    | succ j => exact ih e
theorem call_sum (hc : X.calm = true) : CallR X (.builtin "sum") (fun xs H Q => ∃ (p : Addr) (ns : List Int), xs = [.ref p] ∧ SqL X.K H p (ns.map V.int) ∧ Q (.int ns.sum) H) := by
  intro pins s σ H xs us Q I r h
  obtain ⟨p, ns, rfl, hq, q⟩ := h
  obtain ⟨u, rfl, rx⟩ := vals1 r
  cases rx
  obtain ⟨its, r', pl, hz⟩ := I.list hq
  have ia : IntsAre its ns := intsAre_of r'
  have hlen : its.length = ns.length := by rw [← r'.length, List.length_map]
  have hp : p < s.heap.objs.size := by
    obtain ⟨o, ho, _⟩ := pl.isList
    exact Heap.lt_size ho
  refine call_sum_walkG (wpAny_pyIter_list pl.isList ⟨s.heap.objs.size, [s.heap.objs.size, p], [s.heap.objs.size], its.toArray.size, _, _, fun i => ns.getD i 0, rfl, Walks.list (A := X.A.in1) (show X.A.in1.handled = none from I.ok.hd hc) s.heap.objs.size p (Nat.ne_of_lt hp) its.toArray, ⟨⟨_, Heap.get?_push_size _ rfl, rfl, rfl⟩, pl.isList.at fun o e => Heap.get?_push_of_some _ e⟩, fun b hb => ?_, fun i v hv => ?_, fun h' tk t' hk => ?_⟩)
  · have hsz : ∀ o, (s.heap.push o).objs.size = s.heap.objs.size + 1 := fun o => Heap.size_push _ _
    show b < (s.heap.push _).objs.size
    rw [hsz]
    rcases List.mem_cons.mp hb with e | e
    · rw [e]; exact Nat.lt_succ_self _
    · rw [List.mem_singleton.mp e]; exact Nat.lt_succ_of_lt hp
  · have hv' : its[i]? = some v := by simpa using hv
    obtain ⟨n, t, en, ev⟩ := ints_at ia hv'
    refine ⟨t, ?_⟩
    show v = Value.int (ns.getD i 0) t
    rw [ev, List.getD_eq_getElem?_getD, en]
    rfl
  · have e : preSum (fun i => ns.getD i 0) its.toArray.size = ns.sum := by
      rw [preSum_getD, List.size_toArray, hlen, List.take_of_length_le (Nat.le_refl _)]
    rw [e]
    refine ⟨.int ns.sum, H, ?_, ⟨_, rfl⟩, q⟩
    exact I.kept (t' := tk) fun b o eb => hk b o (by
      intro z
      have z' := List.mem_singleton.mp z
      rw [z'] at eb
      exact absurd (Heap.lt_size eb) (Nat.lt_irrefl _)) (Heap.get?_push_of_some _ eb)
end
def tSetLC (iy : Nat) (fr : List (Str × Nat)) (wi : TI) (te : TE) : TS := fun D σ H => tLC fr wi te σ H fun v H' => D.nx (σ.set iy (some v)) H'
section
variable {X : Cx} {elt iter : Expr} {x : Str} {px pos : Pos} {sc : Scope} {fr : List (Str × Nat)} {wi : TI} {te : TE}
theorem ps_setLC {y : Str} {py spos : Pos} {iy : Nat} (hN : X.N.Nodup) (hi' : X.N[iy]? = some y) (hy : Loc X.env.scope y) (hc : X.calm = true) (ok : CompOk X x sc fr) (hi : PI X (.Name x px) iter wi) (he : ∀ cl C s3 H3 fp, PE (X.blk (x :: fr.map (·.1)) sc cl C s3 H3 fp) elt te) (hs : ∀ x, foldedSetIterable iter X.env x = pure x := by intro _; rfl)
    (hsw : swapsWith (.ListComp elt [⟨.Name x px, iter, [], 0⟩] sc pos) (some (.Name y py)) spos.line X.env = pure true := by rfl) (hfn : X.fn y = true ∨ X.env.scope.names.lookup y = some .local := by first | exact .inl rfl | exact .inr rfl | assumption) :
    PS X (.Assign [.Name y py] (.ListComp elt [⟨.Name x px, iter, [], 0⟩] sc pos) spos) (tSetLC iy fr wi te) := by
  intro pins s σ H D I h
  obtain ⟨cl, ecl, hk, hcx⟩ := closure_of (env := X.env) (sc := sc) (fun y hy yf => I.ok.has y.1 (ok.fre y hy yf))
  rw [exec_Assign_Name_used _ _ _ _ hsw]
  refine wpAny_bind (wpAny_standAt (wpAny_bind ?_))
  show wpAny _ X.A (do let _ ← comprehension (.ListComp elt [⟨.Name x px, iter, [], 0⟩] sc pos) sc X.env _ (newList []) false (eval iter X.env) (some (assign (.Name y py) X.env))) _ _ s
  refine wpAny_bind (wpAny_mono (wpAny_comprehension_free (use := some (assign (.Name y py) X.env)) (Q := fun _ s' => SP X pins D .next s') rfl hs ecl ok.kind ok.locs ?_) (fun _ s' z => wpAny_pure (wpAny_pure z)) fun _ _ z => z)
  refine (thn (hi pins s σ H _ I h) fun v s1 h1 => thn h1 fun itv s2 h2 => ?_)
  obtain ⟨it, fp, tn, J, H2, e, I2, T, st2, f2, q⟩ := h2
  subst e
  have hacc : H2 s2.heap.objs.size = none := I2.hok.fresh (Nat.le_refl _)
  obtain ⟨W, ⟨m0, w0⟩, turn⟩ := q s2.heap.objs.size hacc
  refine wpAny_newObj_type ?_
  have I3 := I2.laid (a := s2.heap.objs.size) (o := .lst []) (h' := s2.heap.push { cls := .type "list", data := .seq ([] : List Value).toArray }) (t' := s2.toks) (fun b u e => Heap.get?_push_of_some _ e) (Nat.le_refl _) ⟨Nat.zero_le _, [], 0, .nil, Heap.get?_push_size _ rfl⟩
  refine wpAny_newFunctionEnv ok.nocell (by intro y hy; simp at hy) (fun h4 hns4 hsb4 => ?_) ok.kind
  generalize hs3 : ({ s2 with heap := s2.heap.push { cls := .type "list", data := .seq ([] : List Value).toArray } } : Shared) = s3 at *
  have keep4 : ∀ b o, s3.heap.get? b = some o → h4.get? b = some o := fun b o e => hsb4.extBut b o (Nat.ne_of_lt (Heap.lt_size e)) (Heap.get?_push_of_some _ e)
  have keep3 : ∀ b o, s2.heap.get? b = some o → s3.heap.get? b = some o := fun b o e => by rw [← hs3]; exact Heap.get?_push_of_some _ e
  have hfo : ∀ b ∈ fp, ∃ o, s3.heap.get? b = some o := fun b hb => by
    obtain ⟨o, eo, _⟩ := T.obj 0 _ st2 b hb
    exact ⟨o, keep3 b o eo⟩
  have f3 : ∀ b ∈ fp, FpOk X pins (upd H2 s2.heap.objs.size (.lst [])) b := fun b hb => by
    obtain ⟨o, eo, _⟩ := T.obj 0 _ st2 b hb
    exact ⟨by rw [upd_ne (Nat.ne_of_lt (Heap.lt_size eo))]; exact (f2 b hb).1, (f2 b hb).2⟩
  have I4 := blk_start (t4 := s3.toks + ([] : List (Str × Value)).length) ok I3 f3 hfo hk hcx ⟨_, hns4⟩ keep4
  have st4 : tn 0 h4 := T.keep 0 s2.heap h4 st2 fun b hb o e => keep4 b o (keep3 b o e)
  have stat : ∀ {H' : Hp}, (∀ b ∈ fp, H' b = none) → ∀ b ∈ fp, FpOk (X.blk (x :: fr.map (·.1)) sc cl s3.heap.objs.size s3 (upd H2 s2.heap.objs.size (.lst [])) fp) [] H' b := fun hn b hb =>
    ⟨hn b hb, (I4.ok.exf b hb).1, I4.ok.exfs b hb, .inl hb, (I4.ok.exf b hb).2, fun p hp => nomatch hp⟩
  have lk : (relabel sc X.env).names.lookup x = some .local := lookup_relabel_local ok.tgl
  have loop : codeAny (model X.prog X.w) X.A (.compLoop (.ListComp elt [⟨.Name x px, iter, [], 0⟩] sc pos) 0 (.ref it) (.ref s2.heap.objs.size) (compEnvC sc cl s3.heap.objs.size X.env))
      (compPost (model X.prog X.w) X.A X.xe (some (assign (.Name y py) X.env)) (fun _ s' => SP X pins D .next s') (.ref s2.heap.objs.size) s3.heap.objs.size) { s3 with heap := h4, toks := s3.toks + ([] : List (Str × Value)).length } := by
    refine comp_loop (fun n s' => ∃ i x0 H', Inv (X.blk (x :: fr.map (·.1)) sc cl s3.heap.objs.size s3 (upd H2 s2.heap.objs.size (.lst [])) fp) [] (x0 :: inSt σ fr) H' s' ∧ tn i s'.heap ∧ (∀ b ∈ fp, H' b = none) ∧ W i n H') ?_ m0
      ⟨0, none, _, I4, st4, fun b hb => (f3 b hb).1, w0⟩
    rintro n s5 ⟨i, x0, H5, I5, st5, fr5, w5⟩
    rcases turn i n H5 w5 with ⟨stop, qq⟩ | ⟨go, step⟩
    · refine thn (T.done (X.blk (x :: fr.map (·.1)) sc cl s3.heap.objs.size s3 (upd H2 s2.heap.objs.size (.lst [])) fp) rfl rfl rfl hc i [] s5 _ H5 _ I5 (stat fr5) st5 stop) fun r s6 ⟨hr, I6⟩ => ?_
      subst hr
      obtain ⟨m6, hn6, _⟩ := I6.loc
      have u6 : Un (frs X.stack) fp (upd H2 s2.heap.objs.size (.lst [])) H5 s3.heap s6.heap := I6.base
      have hok6 : HOk X.prog X.w H5 s6.heap := I6.hok
      have os6 : s6.os = s3.os := I6.os
      have bare6 := I6.bare
      have free6 : H5 s3.heap.objs.size = none := I6.free
      have IX : Inv X pins σ H5 s6 := by
        obtain ⟨hh, g, d, t, os'⟩ := s6
        obtain rfl : os' = s3.os := os6
        show Inv X pins σ H5 { s3 with heap := hh, gens := g, drawn := d, toks := t }
        exact I3.call (h' := hh) (g' := g) (d' := d) (t' := t) (ch := fp) u6 hok6 bare6 fun b hb => ⟨(f3 b hb).2.2.2.1, (f3 b hb).2.1, (f3 b hb).2.2.2.2.1, (f3 b hb).2.2.2.2.2⟩
      obtain ⟨oC, es, ep, hoC, hdC, rC⟩ := hn6
      have hfC : FpOk X pins H5 s3.heap.objs.size := I3.fpOk (Nat.le_refl _) free6
      have IX' : Inv X (pins ++ [(s3.heap.objs.size, oC)]) σ H5 s6 := IX.pins_of fun p hp => by
        rcases List.mem_append.mp hp with z | z
        · exact IX.pin p (List.mem_append_right _ z)
        · have z' := List.mem_singleton.mp z
          subst z'
          exact ⟨hoC, free6, hfC.2.1, hfC.2.2.1, fun v z => by
            have z2 : oC.data = .cell v := z
            rw [hdC] at z2; cases z2⟩
      refine thn (pg_name (X := X) (i := iy) (pos := py) hN hi' hy hfn _ s6 σ H5 (.ref s2.heap.objs.size) (.ref s2.heap.objs.size) (fun σ' H' => σ' = σ.set iy (some (.ref s2.heap.objs.size)) ∧ H' = H5) IX' rfl ⟨rfl, rfl⟩) fun _ s7 z => ?_
      obtain ⟨σ7, H7, I7, e7, e7'⟩ := z
      subst e7 e7'
      have pC := I7.pin (s3.heap.objs.size, oC) (List.mem_append_right _ (List.mem_append_right _ (List.mem_singleton.mpr rfl)))
      refine ⟨m6, ⟨oC, es, ep, pC.1, hdC, rC⟩, fun h8 hsb8 => ?_⟩
      have I7u : Inv X pins (σ.set iy (some (.ref s2.heap.objs.size))) H7 s7 := I7.unpinned
      refine ⟨_, H7, ?_, qq⟩
      exact I7u.turned (it := s3.heap.objs.size) (t' := s7.toks) (fun b o hb e => hsb8.extBut b o hb e) free6 hfC.2.1 hfC.2.2.2.1 hfC.2.2.2.2.1 hfC.2.2.2.2.2
    · refine thn (T.item (X.blk (x :: fr.map (·.1)) sc cl s3.heap.objs.size s3 (upd H2 s2.heap.objs.size (.lst [])) fp) rfl rfl rfl hc i [] s5 _ H5 _ I5 (stat fr5) st5 go) fun r s6 ⟨u, hr, h6⟩ => ?_
      subst hr
      refine thn h6 fun _ s7 ⟨y, H7, I7, r7, y7, st7, fr7⟩ => ?_
      have I7' := I7.pinned (stat fr7) (T.obj _ _ st7)
      refine wpAny_mono (pg_name (X := X.blk (x :: fr.map (·.1)) sc cl s3.heap.objs.size s3 (upd H2 s2.heap.objs.size (.lst [])) fp) (i := 0) (pos := px) ok.nd rfl (Or.inl lk) (.inr lk) _ s7 _ H7 y u (fun σ' H' => σ' = some y :: inSt σ fr ∧ H' = H7) I7' r7 ⟨rfl, rfl⟩) (fun _ s8 z => ?_) (fun e s z => (show False from z).elim)
      obtain ⟨σ8, H8, I8, e8, e8'⟩ := z
      subst e8 e8'
      refine wpAny_mono (he cl s3.heap.objs.size s3 (upd H2 s2.heap.objs.size (.lst [])) fp _ s8 _ H8 _ I8 (step y H8 y7)) (fun v s9 z => ?_) (fun e s z => (show False from z).elim)
      obtain ⟨z, H9, I9, r9, xs, m', ha, hl, hm, w9⟩ := z
      refine wpAny_mono (mt_append (X := X.blk (x :: fr.map (·.1)) sc cl s3.heap.objs.size s3 (upd H2 s2.heap.objs.size (.lst [])) fp) _ s9 _ H9 (.ref s2.heap.objs.size) [z] (.ref s2.heap.objs.size) [v] (fun _ H' => H' = upd H9 s2.heap.objs.size (.lst (xs ++ [z]))) I9 rfl (.cons r9 .nil) ⟨_, xs, z, rfl, rfl, ha, hl, rfl⟩) (fun _ s10 z => ?_) (fun e s z => (show False from z).elim)
      obtain ⟨_, H10, I10, _, e10⟩ := z
      subst e10
      refine ⟨m', hm, i + 1, some y, _, I10.unpinned, T.keep _ _ _ st7 fun b hb o e => (I10.pin (b, o) (List.mem_append_right _ (List.mem_append_right _ (mem_pinsAt hb e)))).1, fun b hb => ?_, w9⟩
      obtain ⟨o, e, d⟩ := T.obj _ _ st7 b hb
      exact (I10.pin (b, o) (List.mem_append_right _ (List.mem_append_right _ (mem_pinsAt hb e)))).2.1
  exact codeAny_compStart_list loop (T.self X.A 0 _ _ _ st4 loop)
end
theorem lc_range {lo : Int} {n : Nat} {te : TE} {st : St} {H1 : Hp} {acc : Addr} {Q : VK} (f : Nat → V) (hn : n ≤ sizeLine) (hacc : H1 acc = none)
    (step : ∀ (i : Nat) (H2 : Hp) (Q' : VK), i < n → Same H1 H2 → (∀ H4, Same H2 H4 → Q' (f i) H4) → te (some (.int (lo + i)) :: st) H2 Q') (fin : ∀ H2, Same H1 H2 → H2 acc = some (.lst ((List.range n).map f)) → Q (.ref acc) H2) :
    ∃ W : Nat → Nat → Hp → Prop, (∃ m, W 0 m (upd H1 acc (.lst []))) ∧ ∀ i m H2, W i m H2 → ((Itr lo n).stop i H2 ∧ Q (.ref acc) H2) ∨
      ((Itr lo n).go i H2 ∧ ∀ x H3, (Itr lo n).yld i H2 x H3 → te (some x :: st) H3 fun v H4 => ∃ xs m', H4 acc = some (.lst xs) ∧ xs.length < sizeLine ∧ m' < m ∧ W (i + 1) m' (upd H4 acc (.lst (xs ++ [v])))) := by
  refine ⟨fun i m H2 => m = n - i ∧ i ≤ n ∧ Same H1 H2 ∧ H2 acc = some (.lst ((List.range i).map f)), ⟨n, by simp, Nat.zero_le _, Same.new hacc _, upd_same⟩, ?_⟩
  rintro i m H2 ⟨rfl, hi, sm, ha⟩
  by_cases hlt : i < n
  · refine .inr ⟨hlt, fun x H3 y => ?_⟩
    obtain ⟨e, y⟩ := y
    subst e y
    refine step i _ _ hlt sm fun H4 s4 => ⟨_, n - (i + 1), s4 _ _ ha, ?_, by omega, rfl, hlt, fun b o e => ?_, ?_⟩
    · rw [List.length_map, List.length_range]; omega
    · rw [upd_ne (ne_of_none e hacc)]; exact s4 _ _ (sm _ _ e)
    · rw [upd_same, List.range_succ, List.map_append]; rfl
  · have e : i = n := by omega
    subst e
    exact .inl ⟨Nat.le_refl _, fin H2 sm ha⟩
end L2
namespace L2
open PySem PySem.Spec PyProof.Rows
def compOkB (osc : Scope) (N : List Str) (tg : Str) (sc : Scope) (fr : List (Str × Nat)) : Bool :=
  decide (sc.kind = .function) && (sc.names.all fun y => decide (y.2 ≠ .cell)) && (sc.names.all fun y => decide (y.2 ≠ .local) || decide (sc.names.lookup y.1 = some .local)) && decide (sc.names.lookup tg = some .local) &&
  (sc.names.all fun y => decide (y.2 ≠ .free) || decide (osc.names.lookup y.1 = some .cell) || decide (osc.names.lookup y.1 = some .free)) && decide ((tg :: fr.map (·.1)).Nodup) &&
  (fr.all fun p => decide (N[p.2]? = some p.1) && (decide (osc.names.lookup p.1 = some .cell) || decide (osc.names.lookup p.1 = some .free)) && decide (sc.names.lookup p.1 = some .free))
theorem compOk_of {X : Cx} {tg : Str} {sc : Scope} {fr : List (Str × Nat)} {osc : Scope} {N : List Str} (ho : X.env.scope = osc) (hN : X.N = N) (h : compOkB osc N tg sc fr = true) : CompOk X tg sc fr := by
  subst ho hN
  unfold compOkB at h
  simp only [Bool.and_eq_true, decide_eq_true_eq, List.all_eq_true, Bool.or_eq_true] at h
  obtain ⟨⟨⟨⟨⟨⟨h1, h2⟩, h3⟩, h4⟩, h5⟩, h6⟩, h7⟩ := h
  refine ⟨h1, h2, fun y hy e => ?_, h4, fun y hy e => ?_, h6, fun p hp => ?_⟩
  · rcases h3 y hy with z | z
    · exact absurd e z
    · exact z
  · rcases h5 y hy with (z | z) | z
    · exact absurd e z
    · exact .inl z
    · exact .inr z
  · obtain ⟨⟨a, b⟩, c⟩ := h7 p hp
    exact ⟨a, b, c⟩
theorem bt_sum : bootBuiltins "sum" = some (.builtin "sum") := by decide +kernel
end L2
namespace L2
open PySem
theorem lc_range2 {lo : Int} {n : Nat} {te : TE} {st : St} {H1 : Hp} {acc : Addr} {R : Hp → Prop} (f : Nat → V) (hn : n ≤ sizeLine) (hacc : H1 acc = none)
    (step : ∀ (i : Nat) (H2 : Hp) (Q' : VK), i < n → Same H1 H2 → (∀ H4, Same H2 H4 → Q' (f i) H4) → te (some (.int (lo + i)) :: st) H2 Q') (fin : ∀ H2, Same H1 H2 → H2 acc = some (.lst ((List.range n).map f)) → R H2) :
    ∃ W : Nat → Nat → Hp → Prop, (∃ m, W 0 m (upd H1 acc (.lst []))) ∧ ∀ i m H2, W i m H2 → ((Itr lo n).stop i H2 ∧ R H2) ∨
      ((Itr lo n).go i H2 ∧ ∀ x H3, (Itr lo n).yld i H2 x H3 → te (some x :: st) H3 fun v H4 => ∃ xs m', H4 acc = some (.lst xs) ∧ xs.length < sizeLine ∧ m' < m ∧ W (i + 1) m' (upd H4 acc (.lst (xs ++ [v])))) :=
  lc_range (Q := fun _ H2 => R H2) f hn hacc step fin
end L2
namespace L2
open PySem
theorem pa_consI {X : Cx} {es : List Expr} {t : TA} {i : Int} {j} {pos : Pos} (hr : PA X es t) : PA X (.Constant (.int i) j pos :: es) (tCons (tC (.int i)) t) := pcn pei hr rfl
end L2
namespace L2
open PySem
def intsOf : List Expr → Option (List Int)
  | [] => some []
  | .Constant (.int i) _ _ :: es => (intsOf es).map (i :: ·)
  | _ :: _ => none
def tInts (ns : List Int) : TA := fun _ H Q => Q (ns.map V.int) H
theorem pa_ints {X : Cx} {es : List Expr} (ns : List Int) (h : intsOf es = some ns) : PA X es (tInts ns) := by
  induction es generalizing ns with
  | nil =>
    have e : ns = [] := (Option.some.inj h).symm
    subst e
    exact pnl
  | cons e es ih =>
    unfold intsOf at h
    split at h
    · rename_i he; cases he
    · rename_i i j pos es' he
      obtain ⟨rfl, rfl⟩ := List.cons.inj he
      cases hr : intsOf es with
      | none => rw [hr] at h; cases h
      | some ms =>
        rw [hr] at h
        have e : ns = i :: ms := (Option.some.inj h).symm
        subst e
        exact pa_consI (j := j) (pos := pos) (ih ms hr)
    · cases h
end L2
namespace L2
open PySem PySem.Spec PyProof.Rows
section
variable {prog : Program} {w : World} {A : Around} {R : Result → Shared → Prop} {s : Shared}
abbrev testsOf (ifs : List Expr) (env : Env) : Sem Bool := forIn ifs true fun c r => if r = true then do let ok ← isTrue c env (eval c env); pure (ForInStep.yield ok) else pure (ForInStep.yield r)
theorem comp_loopG {elt tg iter : Expr} {ifs : List Expr} {scope : Scope} {pos : Pos} {itv acc : Value} {env : Env} (J : Nat → Shared → Prop)
    (turn : ∀ n s, J n s → wpAny (model prog w) A (pyNext itv) (fun r s1 => match r with
      | none => R (.ok .next) s1
      | some v => wpAny (model prog w) A (letOwnedTupleGo tg itv v) (fun _ s2 => wpAny (model prog w) A (assign tg env v) (fun _ s3 => wpAny (model prog w) A (testsOf ifs env) (fun ok s4 =>
          if ok = true then wpAny (model prog w) A (eval elt env) (fun x s5 => wpAny (model prog w) A (call (.builtin "list.append") [acc, x]) (fun _ s6 => ∃ m, m < n ∧ J m s6) (NB prog w A env R) s5) (NB prog w A env R) s4
          else ∃ m, m < n ∧ J m s4) (NB prog w A env R) s3) (NB prog w A env R) s2) (NB prog w A env R) s1) (NB prog w A env R) s)
    (n : Nat) (h : J n s) : codeAny (model prog w) A (.compLoop (.ListComp elt [⟨tg, iter, ifs, 0⟩] scope pos) 0 itv acc env) R s := by
  refine codeAny_loop rfl J (fun n s hJ => ?_) n h
  show wpAny _ _ ((compTurn (.ListComp elt [⟨tg, iter, ifs, 0⟩] scope pos) 0 itv acc env).onRaise (fun x => do noteFrame x env; theTreesLotGoes x)) _ _ s
  refine wpAny_noted ?_
  rw [compTurn_list]
  refine wpAny_bind (wpAny_standAt (wpAny_bind (wpAny_mono (turn n s hJ) (fun r s1 z => ?_) fun _ _ q => q)))
  match r, z with
  | none, z => exact wpAny_pure z
  | some v, z =>
    refine wpAny_bind (wpAny_mono z (fun _ s2 z => wpAny_bind (wpAny_mono z (fun _ s3 z => wpAny_bind (wpAny_mono z (fun ok s4 z => ?_) fun _ _ q => q)) fun _ _ q => q)) fun _ _ q => q)
    cases ok with
    | true =>
      have z' := (if_pos rfl).mp z
      exact wpAny_bind (wpAny_bind (wpAny_mono z' (fun x s5 z => wpAny_bind (wpAny_mono z (fun _ s6 z => wpAny_pure (wpAny_pure ⟨rfl, z⟩)) fun _ _ q => q)) fun _ _ q => q))
    | false =>
      have z' := (if_neg Bool.false_ne_true).mp z
      exact wpAny_bind (wpAny_pure (wpAny_pure ⟨rfl, z'⟩))
end
structure CompOkG (X : Cx) (tgs : List Str) (sc : Scope) (fr : List (Str × Nat)) : Prop where
  kind : sc.kind = .function
  nocell : ∀ y ∈ sc.names, y.2 ≠ .cell
  locs : ∀ y ∈ sc.names, y.2 = .local → sc.names.lookup y.1 = some .local
  fre : ∀ y ∈ sc.names, y.2 = .free → X.env.scope.names.lookup y.1 = some .cell ∨ X.env.scope.names.lookup y.1 = some .free
  nd : (tgs ++ fr.map (·.1)).Nodup
  vis : ∀ p ∈ fr, X.N[p.2]? = some p.1 ∧ (X.env.scope.names.lookup p.1 = some .cell ∨ X.env.scope.names.lookup p.1 = some .free) ∧ sc.names.lookup p.1 = some .free
def PIF (X : Cx) (ifs : List Expr) (t : TT) : Prop :=
  ∀ (pins : Pn) (s : Shared) (σ : St) (H : Hp) (Q : Bool → Hp → Prop), Inv X pins σ H s → t σ H Q → wpAny (model X.prog X.w) X.A (testsOf ifs X.env) (TP X pins σ Q) X.xe s
def tYes : TT := fun _ H Q => Q true H
theorem pif_nil {X : Cx} : PIF X [] tYes := fun _ _ _ H _ I h => wpAny_tests_nil ⟨H, I, h⟩
section
variable {X : Cx} {pins : Pn} {σ : St} {H : Hp} {s3 s4 : Shared} {tgs : List Str} {sc : Scope} {fr : List (Str × Nat)} {fp : List Addr} {cl : List (Str × Addr)}
theorem blk_startG (ok : CompOkG X tgs sc fr) (I : Inv X pins σ H s3) (hf : ∀ b ∈ fp, FpOk X pins H b) (hfo : ∀ b ∈ fp, ∃ o, s3.heap.get? b = some o) (hk : ∀ x c, cl.lookup x = some c → X.env.cells.lookup x = some c) (hc : ∀ y ∈ sc.names, y.2 = .free → ∃ c, cl.lookup y.1 = some c)
    {h4 : Heap} {t4 : Nat} (hns : ∃ m, h4.Ns s3.heap.objs.size m) (hkeep : ∀ b o, s3.heap.get? b = some o → h4.get? b = some o) :
    Inv (X.blk (tgs ++ fr.map (·.1)) sc cl s3.heap.objs.size s3 H fp) [] (List.replicate tgs.length none ++ inSt σ fr) H { s3 with heap := h4, toks := t4 } := by
  have hasc : ∀ x, ((relabel sc X.env).names.lookup x = some .cell ∨ (relabel sc X.env).names.lookup x = some .free) → ∃ c, cl.lookup x = some c := fun x hx => by
    obtain ⟨y, h1, h2, h3⟩ : ∃ y ∈ sc.names, y.1 = x ∧ y.2 = .free := by
      rcases hx with z | z
      · exact relabel_free ok.nocell (.inl rfl) z
      · exact relabel_free ok.nocell (.inr rfl) z
    subst h2
    exact hc y h1 h3
  have cell4 : ∀ x c, cl.lookup x = some c → ∀ v, s3.heap.IsCell c v → h4.IsCell c v := fun x c _ v ⟨o, ho, hd⟩ => ⟨o, hkeep c o ho, hd⟩
  have fresh : H s3.heap.objs.size = none := I.hok.fresh (Nat.le_refl _)
  refine ⟨⟨I.mod, ok.kind, I.ok.glob, I.ok.blt, Nat.le_refl _, fun x y c e1 e2 => I.ok.inj x y c (hk x c e1) (hk y c e2), hasc, (fun x c e => nomatch e), I.ok.hd, I.ok.frames, .inl rfl, fun b hb => ?_, I.bs, Nat.le_trans I.ok.bsz I.sz, fun b o e hb => ?_, fun b hb z => ?_, I.stack, I.stkFree⟩,
    rfl, I.bare, Un.kept hkeep, ?_, fun x c e => ?_, fresh, fun x c e => I.freeC x c (hk x c e), (fun p hp => nomatch hp), I.hok.kept hkeep, ?_⟩
  · obtain ⟨f0, f1, f2, f3, f4, f5⟩ := hf b hb
    refine ⟨fun z => ?_, fun x c e => f4 x c (hk x c e)⟩
    obtain ⟨o, eo⟩ := hfo b hb
    have z' : b = s3.heap.objs.size := z
    rw [z'] at eo
    exact absurd (Heap.lt_size eo) (Nat.lt_irrefl _)
  · obtain ⟨f0, f1, f2, f3, f4, f5⟩ := hf b hb
    rcases f3 with z | z
    · exact I.ok.noex b o e z
    · exact absurd (Nat.lt_of_lt_of_le (Nat.lt_of_lt_of_le (Heap.lt_size e) I.ok.bsz) z) (Nat.lt_irrefl _)
  · obtain ⟨f0, f1, f2, f3, f4, f5⟩ := hf b hb
    rcases List.mem_cons.mp (I.stkSub b z) with q | q
    · exact f1 q
    · exact f2 q
  · obtain ⟨m, hn⟩ := hns
    obtain ⟨m0, _, hl0⟩ := I.loc
    refine ⟨m, hn, fun i x v e1 e2 _ => ?_⟩
    have hge : tgs.length ≤ i := by
      rcases Nat.lt_or_ge i tgs.length with z | z
      · rw [List.getElem?_append_left (by rw [List.length_replicate]; exact z), List.getElem?_replicate, if_pos z] at e2
        cases e2
      · exact z
    have e1x : (tgs ++ fr.map (·.1))[i]? = some x := e1
    rw [List.getElem?_append_right hge] at e1x
    rw [List.getElem?_append_right (by rw [List.length_replicate]; exact hge), List.length_replicate] at e2
    generalize i - tgs.length = i at *
    · have e2' : ((fr.map fun p => (σ[p.2]?).join))[i]? = some (some v) := e2
      have e1' : (fr.map (·.1))[i]? = some x := e1x
      rw [List.getElem?_map] at e1' e2'
      cases q : fr[i]? with
      | none => rw [q] at e1'; cases e1'
      | some p =>
        rw [q] at e1' e2'
        have ex : p.1 = x := Option.some.inj e1'
        have ev : (σ[p.2]?).join = some v := Option.some.inj e2'
        obtain ⟨g1, g2, g3⟩ := ok.vis p (List.mem_of_getElem? q)
        have ev' : σ[p.2]? = some (some v) := by
          cases z : σ[p.2]? with
          | none => rw [z] at ev; cases ev
          | some w => rw [z] at ev; exact congrArg some ev
        have gv : Vis X.env.scope p.1 := g2.elim (fun z => .inr (.inl z)) fun z => .inr (.inr z)
        obtain ⟨u, ru, lk⟩ := hl0 p.2 p.1 v g1 ev' gv
        subst ex
        refine ⟨u, ru, .inr ⟨relabel_seen g3, ?_⟩⟩
        rcases lk with ⟨k1, _⟩ | ⟨_, c, ec, hcell⟩
        · rcases g2 with z | z
          · have k2 : X.env.scope.names.lookup p.1 = some .local := k1
            rw [z] at k2; cases k2
          · have k2 : X.env.scope.names.lookup p.1 = some .local := k1
            rw [z] at k2; cases k2
        · obtain ⟨c', ec'⟩ := hasc p.1 (relabel_seen g3)
          have e3 := hk _ _ ec'
          rw [ec] at e3
          cases e3
          exact ⟨c, ec', cell4 _ c ec' _ hcell⟩
  · obtain ⟨v, z⟩ := I.cell x c (hk x c e)
    exact ⟨v, cell4 x c e v z⟩
  · show (List.replicate tgs.length none ++ inSt σ fr).length = (tgs ++ fr.map (·.1)).length
    simp [inSt]
end
def tLCG (k : Nat) (fr : List (Str × Nat)) (wi : TI) (g : TG) (tc : TT) (te : TE) : TE := fun σ H Q => wi σ H fun J H1 => ∀ acc, H1 acc = none → ∃ W : Nat → Nat → St → Hp → Prop, (∃ m, W 0 m (List.replicate k none ++ inSt σ fr) (upd H1 acc (.lst []))) ∧ ∀ i m σb H2, W i m σb H2 →
  (J.stop i H2 ∧ Q (.ref acc) H2) ∨ (J.go i H2 ∧ ∀ x H3, J.yld i H2 x H3 → g x σb H3 fun σ2 H4 => tc σ2 H4 fun b H5 =>
    if b = true then te σ2 H5 fun v H6 => ∃ xs m', H6 acc = some (.lst xs) ∧ xs.length < sizeLine ∧ m' < m ∧ W (i + 1) m' σ2 (upd H6 acc (.lst (xs ++ [v]))) else ∃ m', m' < m ∧ W (i + 1) m' σ2 H5)
section
variable {X : Cx} {elt iter tg : Expr} {ifs : List Expr} {tgs : List Str} {pos : Pos} {sc : Scope} {fr : List (Str × Nat)} {wi : TI} {te : TE} {g : TG} {tc : TT}
theorem pe_lcG (hc : X.calm = true) (ok : CompOkG X tgs sc fr) (hi : PI X tg iter wi) (hg : ∀ cl C s3 H3 fp, PG (X.blk (tgs ++ fr.map (·.1)) sc cl C s3 H3 fp) tg g) (ht : ∀ cl C s3 H3 fp, PIF (X.blk (tgs ++ fr.map (·.1)) sc cl C s3 H3 fp) ifs tc) (he : ∀ cl C s3 H3 fp, PE (X.blk (tgs ++ fr.map (·.1)) sc cl C s3 H3 fp) elt te) (hs : ∀ x, foldedSetIterable iter X.env x = pure x := by intro _; rfl) :
    PE X (.ListComp elt [⟨tg, iter, ifs, 0⟩] sc pos) (tLCG tgs.length fr wi g tc te) := by
  intro pins s σ H Q I h
  obtain ⟨cl, ecl, hk, hcx⟩ := closure_of (env := X.env) (sc := sc) (fun y hy yf => I.ok.has y.1 (ok.fre y hy yf))
  rw [eval_ListComp]
  refine wpAny_comprehension_free (use := none) rfl hs ecl ok.kind ok.locs (thn (hi pins s σ H _ I h) fun v s1 h1 => thn h1 fun itv s2 h2 => ?_)
  obtain ⟨it, fp, tn, J, H2, e, I2, T, st2, f2, q⟩ := h2
  subst e
  have hacc : H2 s2.heap.objs.size = none := I2.hok.fresh (Nat.le_refl _)
  obtain ⟨W, ⟨m0, w0⟩, turn⟩ := q s2.heap.objs.size hacc
  refine wpAny_newObj_type ?_
  have I3 := I2.laid (a := s2.heap.objs.size) (o := .lst []) (h' := s2.heap.push { cls := .type "list", data := .seq ([] : List Value).toArray }) (t' := s2.toks) (fun b u e => Heap.get?_push_of_some _ e) (Nat.le_refl _) ⟨Nat.zero_le _, [], 0, .nil, Heap.get?_push_size _ rfl⟩
  refine wpAny_newFunctionEnv ok.nocell (by intro y hy; simp at hy) (fun h4 hns4 hsb4 => ?_) ok.kind
  generalize hs3 : ({ s2 with heap := s2.heap.push { cls := .type "list", data := .seq ([] : List Value).toArray } } : Shared) = s3 at *
  have keep4 : ∀ b o, s3.heap.get? b = some o → h4.get? b = some o := fun b o e => hsb4.extBut b o (Nat.ne_of_lt (Heap.lt_size e)) (Heap.get?_push_of_some _ e)
  have keep3 : ∀ b o, s2.heap.get? b = some o → s3.heap.get? b = some o := fun b o e => by rw [← hs3]; exact Heap.get?_push_of_some _ e
  have hfo : ∀ b ∈ fp, ∃ o, s3.heap.get? b = some o := fun b hb => by
    obtain ⟨o, eo, _⟩ := T.obj 0 _ st2 b hb
    exact ⟨o, keep3 b o eo⟩
  have f3 : ∀ b ∈ fp, FpOk X pins (upd H2 s2.heap.objs.size (.lst [])) b := fun b hb => by
    obtain ⟨o, eo, _⟩ := T.obj 0 _ st2 b hb
    exact ⟨by rw [upd_ne (Nat.ne_of_lt (Heap.lt_size eo))]; exact (f2 b hb).1, (f2 b hb).2⟩
  have I4 := blk_startG (t4 := s3.toks + ([] : List (Str × Value)).length) ok I3 f3 hfo hk hcx ⟨_, hns4⟩ keep4
  have st4 : tn 0 h4 := T.keep 0 s2.heap h4 st2 fun b hb o e => keep4 b o (keep3 b o e)
  have stat : ∀ {H' : Hp}, (∀ b ∈ fp, H' b = none) → ∀ b ∈ fp, FpOk (X.blk (tgs ++ fr.map (·.1)) sc cl s3.heap.objs.size s3 (upd H2 s2.heap.objs.size (.lst [])) fp) [] H' b := fun hn b hb =>
    ⟨hn b hb, (I4.ok.exf b hb).1, I4.ok.exfs b hb, .inl hb, (I4.ok.exf b hb).2, fun p hp => nomatch hp⟩
  have loop : codeAny (model X.prog X.w) X.A (.compLoop (.ListComp elt [⟨tg, iter, ifs, 0⟩] sc pos) 0 (.ref it) (.ref s2.heap.objs.size) (compEnvC sc cl s3.heap.objs.size X.env))
      (compPost (model X.prog X.w) X.A X.xe none (EP X pins σ Q) (.ref s2.heap.objs.size) s3.heap.objs.size) { s3 with heap := h4, toks := s3.toks + ([] : List (Str × Value)).length } := by
    refine comp_loopG (fun n s' => ∃ i σb H', Inv (X.blk (tgs ++ fr.map (·.1)) sc cl s3.heap.objs.size s3 (upd H2 s2.heap.objs.size (.lst [])) fp) [] σb H' s' ∧ tn i s'.heap ∧ (∀ b ∈ fp, H' b = none) ∧ W i n σb H') ?_ m0
      ⟨0, _, _, I4, st4, fun b hb => (f3 b hb).1, w0⟩
    rintro n s5 ⟨i, σb, H5, I5, st5, fr5, w5⟩
    rcases turn i n σb H5 w5 with ⟨stop, qq⟩ | ⟨go, step⟩
    · refine thn (T.done (X.blk (tgs ++ fr.map (·.1)) sc cl s3.heap.objs.size s3 (upd H2 s2.heap.objs.size (.lst [])) fp) rfl rfl rfl hc i [] s5 _ H5 _ I5 (stat fr5) st5 stop) fun r s6 ⟨hr, I6⟩ => ?_
      subst hr
      obtain ⟨m6, hn6, _⟩ := I6.loc
      refine ⟨m6, hn6, fun h7 hsb7 => ?_⟩
      have ne : ∀ b o, s3.heap.get? b = some o → b ≠ s3.heap.objs.size := fun b o e => Nat.ne_of_lt (Heap.lt_size e)
      have u6 : Un (frs X.stack) fp (upd H2 s2.heap.objs.size (.lst [])) H5 s3.heap s6.heap := I6.base
      have u7 : Un (frs X.stack) fp (upd H2 s2.heap.objs.size (.lst [])) H5 s3.heap h7 := {
        keep := fun b o e n hb hx => hsb7.extBut b o (ne b o e) (u6.keep b o e n hb hx)
        slot := fun b o e n hb hx => by
          obtain ⟨sl, e1⟩ := u6.slot b o e n hb hx
          exact ⟨sl, hsb7.extBut b _ (ne b o e) e1⟩
        free := u6.free
        there := fun b o e hx => by
          obtain ⟨o', e1⟩ := u6.there b o e hx
          exact ⟨o', hsb7.extBut b _ (ne b o e) e1⟩
        tups := u6.tups
        frzs := u6.frzs
        tbls := u6.tbls }
      have hok7 : HOk X.prog X.w H5 h7 := fun b u eu => (I6.hok b u eu).stay (fun c v hcx q => hsb7.extBut c v (fun z => by
        have nf := I6.free
        have z' : H5 s3.heap.objs.size = none := nf
        rw [← z] at z'
        rcases hcx with y | y
        · rw [y, eu] at z'; cases z'
        · rw [y] at z'; cases z') q) (fun _ q => q) fun _ _ q => q
      have os6 : s6.os = s3.os := I6.os
      have bare6 := I6.bare
      obtain ⟨hh, g, d, t, os'⟩ := s6
      obtain rfl : os' = s3.os := os6
      refine ⟨.ref s2.heap.objs.size, H5, ?_, rfl, qq⟩
      show Inv X pins σ H5 { s3 with heap := h7, gens := g, drawn := d, toks := t }
      exact I3.call (h' := h7) (g' := g) (d' := d) (t' := t) (ch := fp) u7 hok7 bare6 fun b hb => ⟨(f3 b hb).2.2.2.1, (f3 b hb).2.1, (f3 b hb).2.2.2.2.1, (f3 b hb).2.2.2.2.2⟩
    · refine thn (T.item (X.blk (tgs ++ fr.map (·.1)) sc cl s3.heap.objs.size s3 (upd H2 s2.heap.objs.size (.lst [])) fp) rfl rfl rfl hc i [] s5 _ H5 _ I5 (stat fr5) st5 go) fun r s6 ⟨u, hr, h6⟩ => ?_
      subst hr
      refine thn h6 fun _ s7 ⟨y, H7, I7, r7, y7, st7, fr7⟩ => ?_
      have I7' := I7.pinned (stat fr7) (T.obj _ _ st7)
      refine wpAny_mono (hg cl s3.heap.objs.size s3 (upd H2 s2.heap.objs.size (.lst [])) fp _ s7 _ H7 y u _ I7' r7 (step y H7 y7)) (fun _ s8 z => ?_) (fun e s z => (show False from z).elim)
      obtain ⟨σ8, H8, I8, q8⟩ := z
      refine wpAny_mono (ht cl s3.heap.objs.size s3 (upd H2 s2.heap.objs.size (.lst [])) fp _ s8 σ8 H8 _ I8 q8) (fun b s8' z => ?_) (fun e s z => (show False from z).elim)
      obtain ⟨H8', I8', q8'⟩ := z
      have goOn : ∀ {s10 : Shared} {H10 : Hp} {m' : Nat}, Inv (X.blk (tgs ++ fr.map (·.1)) sc cl s3.heap.objs.size s3 (upd H2 s2.heap.objs.size (.lst [])) fp) _ σ8 H10 s10 → m' < n → W (i + 1) m' σ8 H10 → ∃ m, m < n ∧ ∃ i σb H', Inv (X.blk (tgs ++ fr.map (·.1)) sc cl s3.heap.objs.size s3 (upd H2 s2.heap.objs.size (.lst [])) fp) [] σb H' s10 ∧ tn i s10.heap ∧ (∀ b ∈ fp, H' b = none) ∧ W i m σb H' := fun {s10 H10 m'} I10 hm w9 => by
        refine ⟨m', hm, i + 1, σ8, _, I10.unpinned, T.keep _ _ _ st7 fun b hb o e => (I10.pin (b, o) (List.mem_append_right _ (List.mem_append_right _ (mem_pinsAt hb e)))).1, fun b hb => ?_, w9⟩
        obtain ⟨o, e, d⟩ := T.obj _ _ st7 b hb
        exact (I10.pin (b, o) (List.mem_append_right _ (List.mem_append_right _ (mem_pinsAt hb e)))).2.1
      cases b with
      | false =>
        obtain ⟨m', hm, w9⟩ := (if_neg Bool.false_ne_true).mp q8'
        exact (if_neg Bool.false_ne_true).mpr (goOn I8' hm w9)
      | true =>
        refine (if_pos rfl).mpr ?_
        refine wpAny_mono (he cl s3.heap.objs.size s3 (upd H2 s2.heap.objs.size (.lst [])) fp _ s8' _ H8' _ I8' ((if_pos rfl).mp q8')) (fun v s9 z => ?_) (fun e s z => (show False from z).elim)
        obtain ⟨z, H9, I9, r9, xs, m', ha, hl, hm, w9⟩ := z
        refine wpAny_mono (mt_append (X := X.blk (tgs ++ fr.map (·.1)) sc cl s3.heap.objs.size s3 (upd H2 s2.heap.objs.size (.lst [])) fp) _ s9 _ H9 (.ref s2.heap.objs.size) [z] (.ref s2.heap.objs.size) [v] (fun _ H' => H' = upd H9 s2.heap.objs.size (.lst (xs ++ [z]))) I9 rfl (.cons r9 .nil) ⟨_, xs, z, rfl, rfl, ha, hl, rfl⟩) (fun _ s10 z => ?_) (fun e s z => (show False from z).elim)
        obtain ⟨_, H10, I10, _, e10⟩ := z
        subst e10
        exact goOn I10 hm w9
  exact codeAny_compStart_list loop (T.self X.A 0 _ _ _ st4 loop)
end
end L2
namespace L2
open PySem PySem.Spec PyProof.Rows
section
variable {X : Cx}
end
end L2
namespace My
def qv (a b : Int) : Rat := (a : Rat) / (b : Rat)
theorem cast_ne {b : Int} (h : b ≠ 0) : (b : Rat) ≠ 0 := fun z => h (Rat.intCast_inj.mp z)
theorem qv_eq {a b t m : Int} (hb : b ≠ 0) (hm : m ≠ 0) (h : a * m = t * b) : qv a b = qv t m := by
  have hb' := cast_ne hb
  have hm' := cast_ne hm
  have h' : (a : Rat) * m = t * b := by rw [← Rat.intCast_mul, ← Rat.intCast_mul, h]
  unfold qv
  grind
theorem eq_of_qv {a b t m : Int} (hb : b ≠ 0) (hm : m ≠ 0) (h : qv a b = qv t m) : a * m = t * b := by
  have hb' := cast_ne hb
  have hm' := cast_ne hm
  unfold qv at h
  refine Rat.intCast_inj.mp ?_
  rw [Rat.intCast_mul, Rat.intCast_mul]
  grind
theorem low_unique {a b c d : Int} (hb : 0 < b) (hd : 0 < d) (h1 : Int.gcd a b = 1) (h2 : Int.gcd c d = 1) (h : a * d = c * b) : a = c ∧ b = d := by
  have n : a.natAbs * d.natAbs = c.natAbs * b.natAbs := by rw [← Int.natAbs_mul, ← Int.natAbs_mul, h]
  have e1 : b.natAbs ∣ d.natAbs := by
    have q : b.natAbs ∣ a.natAbs * d.natAbs := ⟨c.natAbs, by rw [n, Nat.mul_comm]⟩
    exact Nat.Coprime.dvd_of_dvd_mul_left (Nat.Coprime.symm h1) q
  have e2 : d.natAbs ∣ b.natAbs := by
    have q : d.natAbs ∣ c.natAbs * b.natAbs := ⟨a.natAbs, by rw [← n, Nat.mul_comm]⟩
    exact Nat.Coprime.dvd_of_dvd_mul_left (Nat.Coprime.symm h2) q
  have e3 : b.natAbs = d.natAbs := Nat.dvd_antisymm e1 e2
  have e4 : b = d := by omega
  subst e4
  exact ⟨Int.eq_of_mul_eq_mul_right (by omega) h, rfl⟩
end My
namespace My
theorem cast_pos {b : Int} (h : 0 < b) : (0 : Rat) < (b : Rat) := Rat.intCast_lt_intCast.mpr h
theorem lt_qv {a b c d : Int} (hb : 0 < b) (hd : 0 < d) : qv a b < qv c d ↔ a * d < c * b := by
  have hb' := cast_pos hb
  have hd' := cast_pos hd
  unfold qv
  rw [Rat.div_lt_iff hb', show (c : Rat) / d * b = (c * b : Rat) / d by grind, Rat.lt_div_iff hd', ← Rat.intCast_mul, ← Rat.intCast_mul]
  exact Rat.intCast_lt_intCast
end My
namespace My
def leap (y : Int) : Bool := if y % 4 = 0 then (if y % 100 = 0 then decide (y % 400 = 0) else true) else false
def mls : List Int := [31, 28, 31, 30, 31, 30, 31, 31, 30, 31, 30, 31]
def ml (L : Bool) (m : Int) : Int := if m = 2 ∧ L = true then 29 else mls.getD (m - 1).toNat 0
def mlen (y m : Int) : Int := ml (leap y) m
def bf (L : Bool) (m : Int) : Int := ((List.range (m - 1).toNat).map fun i : Nat => ml L (1 + i)).sum
def ybeg (y : Int) : Int := 365 * (y - 1) + (y - 1) / 4 - (y - 1) / 100 + (y - 1) / 400
def ylen (L : Bool) : Int := if L then 366 else 365
theorem ybeg_next (y : Int) : ybeg (y + 1) = ybeg y + ylen (leap y) := by
  unfold ybeg ylen leap
  by_cases h4 : y % 4 = 0
  · rw [if_pos h4]
    by_cases h1 : y % 100 = 0
    · rw [if_pos h1]
      by_cases h3 : y % 400 = 0
      · rw [decide_eq_true h3, if_pos rfl]; omega
      · rw [decide_eq_false h3, if_neg (by decide)]; omega
    · rw [if_neg h1, if_pos rfl]; omega
  · rw [if_neg h4, if_neg (by decide)]; omega
theorem m_cases {m : Int} (h1 : 1 ≤ m) (h2 : m ≤ 12) : m = 1 ∨ m = 2 ∨ m = 3 ∨ m = 4 ∨ m = 5 ∨ m = 6 ∨ m = 7 ∨ m = 8 ∨ m = 9 ∨ m = 10 ∨ m = 11 ∨ m = 12 := by omega
theorem bf_next {L : Bool} {m : Int} (h1 : 1 ≤ m) (h2 : m ≤ 12) : bf L (m + 1) = bf L m + ml L m := by
  cases L <;> rcases m_cases h1 h2 with h | h | h | h | h | h | h | h | h | h | h | h <;> subst h <;> decide
theorem bf_first (L : Bool) : bf L 1 = 0 := by cases L <;> decide
theorem bf_last (L : Bool) : bf L 13 = ylen L := by cases L <;> decide
theorem ml_pos {L : Bool} {m : Int} (h1 : 1 ≤ m) (h2 : m ≤ 12) : 28 ≤ ml L m ∧ ml L m ≤ 31 := by
  cases L <;> rcases m_cases h1 h2 with h | h | h | h | h | h | h | h | h | h | h | h <;> subst h <;> decide
def dayOf (y m e : Int) : Int := ybeg y + bf (leap y) m + e - 1
structure Valid (y m e : Int) : Prop where
  y1 : 1 ≤ y
  y2 : y ≤ 9999
  m1 : 1 ≤ m
  m2 : m ≤ 12
  e1 : 1 ≤ e
  e2 : e ≤ mlen y m
theorem bf_mono {L : Bool} {m n : Int} (h1 : 1 ≤ m) (h : m < n) (h2 : n ≤ 13) : bf L m + ml L m ≤ bf L n := by
  have key : ∀ (k : Nat) (n : Int), n = m + 1 + k → n ≤ 13 → bf L m + ml L m ≤ bf L n := by
    intro k
    induction k with
    | zero =>
      intro n hn hn2
      have e : n = m + 1 := by omega
      rw [e, bf_next h1 (by omega)]
      exact Int.le_refl _
    | succ k ih =>
      intro n hn hn2
      have q := ih (n - 1) (by omega) (by omega)
      have e := bf_next (L := L) (m := n - 1) (by omega) (by omega)
      rw [Int.sub_add_cancel] at e
      have p := (ml_pos (L := L) (m := n - 1) (by omega) (by omega)).1
      omega
  exact key (n - m - 1).toNat n (by omega) h2
theorem Valid.range {y m e : Int} (v : Valid y m e) : ybeg y ≤ dayOf y m e ∧ dayOf y m e < ybeg (y + 1) := by
  have h1 : 0 ≤ bf (leap y) m := by
    by_cases h : m = 1
    · rw [h, bf_first]; exact Int.le_refl _
    · have q := bf_mono (L := leap y) (m := 1) (n := m) (by omega) (by have := v.m1; omega) (by have := v.m2; omega)
      have p := (ml_pos (L := leap y) (m := 1) (by omega) (by omega)).1
      rw [bf_first] at q
      omega
  have h2 := bf_mono (L := leap y) (m := m) (n := 13) v.m1 (by have := v.m2; omega) (by omega)
  rw [bf_last] at h2
  have h3 := ybeg_next y
  have h4 := v.e2
  have h5 := v.e1
  unfold mlen at h4
  unfold dayOf
  omega
theorem ybeg_mono {y z : Int} (h : y ≤ z) : ybeg y ≤ ybeg z := by unfold ybeg; omega
theorem Valid.inj {y m e y' m' e' : Int} (v : Valid y m e) (v' : Valid y' m' e') (h : dayOf y m e = dayOf y' m' e') : y = y' ∧ m = m' ∧ e = e' := by
  have r := v.range
  have r' := v'.range
  have hy : y = y' := by
    rcases Int.lt_trichotomy y y' with q | q | q
    · have := ybeg_mono (show y + 1 ≤ y' by omega); omega
    · exact q
    · have := ybeg_mono (show y' + 1 ≤ y by omega); omega
  subst hy
  have a := v.e2; have a' := v'.e2; have b := v.e1; have b' := v'.e1
  unfold mlen at a a'
  unfold dayOf at h
  have hm : m = m' := by
    rcases Int.lt_trichotomy m m' with q | q | q
    · have := bf_mono (L := leap y) v.m1 q (by have := v'.m2; omega); omega
    · exact q
    · have := bf_mono (L := leap y) v'.m1 q (by have := v.m2; omega); omega
  subst hm
  refine ⟨rfl, rfl, by omega⟩
def yearOf (d : Int) : Int := if ybeg (d * 400 / 146097 + 1 + 1) ≤ d then d * 400 / 146097 + 1 + 1 else d * 400 / 146097 + 1
theorem yearOf_ok {d : Int} (h0 : 0 ≤ d) (h1 : d ≤ 3652058) : 1 ≤ yearOf d ∧ yearOf d ≤ 9999 ∧ ybeg (yearOf d) ≤ d ∧ d < ybeg (yearOf d + 1) := by
  unfold yearOf ybeg
  split <;> rename_i h <;> refine ⟨by omega, by omega, by omega, by omega⟩
end My
namespace My
end My
namespace My
end My
namespace L2
open PySem PySem.Spec PyProof.Rows
def rIsN : R2 := fun x y H Q => y = .non ∧ Q (.bl (decide (x = .non))) H
def rNotN : R2 := fun x y H Q => y = .non ∧ Q (.bl (!decide (x = .non))) H
theorem op_isN' {X : Cx} : OpR X (compareOp .Is) rIsN := op_isN
theorem op_notN' {X : Cx} : OpR X (compareOp .IsNot) rNotN := op_notN
def MkT (xs : List V) (H : Hp) (Q : VK) : Prop := xs.length ≤ sizeLine ∧ ∀ p, H p = none → Q (.ref p) (upd H p (.tup xs))
def MkL (xs : List V) (H : Hp) (Q : VK) : Prop := xs.length ≤ sizeLine ∧ ∀ p, H p = none → Q (.ref p) (upd H p (.lst xs))
inductive SetTo : St → Nat → Option V → St → Prop
  | here {x : Option V} {r : St} {v : Option V} : SetTo (x :: r) 0 v (v :: r)
  | next {x : Option V} {r : St} {v : Option V} {i : Nat} {r' : St} : SetTo r i v r' → SetTo (x :: r) (i + 1) v (x :: r')
theorem SetTo.eq {σ σ' : St} {i : Nat} {v : Option V} (h : SetTo σ i v σ') : σ.set i v = σ' := by
  induction h with
  | here => rfl
  | next _ ih => rw [List.set_cons_succ, ih]
inductive GetTo : St → Nat → V → Prop
  | here {v : V} {r : St} : GetTo (some v :: r) 0 v
  | next {x : Option V} {r : St} {v : V} {i : Nat} : GetTo r i v → GetTo (x :: r) (i + 1) v
theorem GetTo.eq {σ : St} {i : Nat} {v : V} (h : GetTo σ i v) : σ[i]? = some (some v) := by
  induction h with
  | here => rfl
  | next _ ih => rw [List.getElem?_cons_succ, ih]
section
variable {σ σ' : St} {H : Hp} {Q : VK} {i j : Int} {k : Nat} {v x y : V} {te ta tb tc : TE} {t u : TS} {nx bk ct : St → Hp → Prop} {rt : VK} {c d : TT} {R : Bool → Hp → Prop} {r r' : R2} {b : Bool}
theorem z_var (h : GetTo σ k v) (q : Q v H) : tVar k σ H Q := ⟨v, h.eq, q⟩
theorem z_c (q : Q v H) : tC v σ H Q := q
theorem z_op (h : ta σ H fun x H1 => tb σ H1 fun y H2 => r x y H2 Q) : tOp r ta tb σ H Q := h
theorem z_un {r : V → Hp → VK → Prop} (h : ta σ H fun x H1 => r x H1 Q) : tUn r ta σ H Q := h
theorem z_I {C : Int → Int → Prop} {g : Int → Int → V} (hc : C i j) (q : Q (g i j) H) : rI C g (.int i) (.int j) H Q := ⟨i, j, rfl, rfl, hc, q⟩
theorem z_I0 {g : Int → Int → V} (q : Q (g i j) H) : rI0 g (.int i) (.int j) H Q := ⟨i, j, rfl, rfl, q⟩
theorem z_U {g : Int → V} (q : Q (g i) H) : rU g (.int i) H Q := ⟨i, rfl, q⟩
theorem zdec_int : decide (V.int i = V.int j) = decide (i = j) := by
  by_cases h : i = j
  · subst h; simp
  · rw [decide_eq_false h, decide_eq_false (fun z => h (V.int.inj z))]
theorem zdec_str {a b : Str} : decide (V.str a = V.str b) = decide (a = b) := by
  by_cases h : a = b
  · subst h; simp
  · rw [decide_eq_false h, decide_eq_false (fun z => h (V.str.inj z))]
theorem z_EqI (q : Q (.bl (decide (i = j))) H) : rEq (.int i) (.int j) H Q := ⟨rfl, by rw [zdec_int]; exact q⟩
theorem z_NeI (q : Q (.bl (!decide (i = j))) H) : rNe (.int i) (.int j) H Q := ⟨rfl, by rw [zdec_int]; exact q⟩
theorem z_EqS {a b : Str} (q : Q (.bl (decide (a = b))) H) : rEq (.str a) (.str b) H Q := ⟨rfl, by rw [zdec_str]; exact q⟩
theorem z_test (h : te σ H fun x H' => ∃ k, x = .bl k ∧ R k H') : tTest te σ H R := h
theorem z_tB (h : te σ H fun x H' => ∃ k, x = .bl k ∧ R k H') : tB te σ H R := h
theorem z_ebl {S : Bool → Prop} (q : S b) : ∃ k, V.bl b = .bl k ∧ S k := ⟨b, rfl, q⟩
theorem z_or (h : c σ H fun k H1 => if k = true then R true H1 else d σ H1 R) : tOr c d σ H R := h
theorem z_not (h : c σ H fun k H1 => R (!k) H1) : tNot c σ H R := h
theorem z_if (h : c σ H fun k H1 => if k = true then ta σ H1 Q else tb σ H1 Q) : tIf c ta tb σ H Q := h
theorem z_nil {S : List V → Hp → Prop} (q : S [] H) : tNil σ H S := q
theorem z_cons {S : List V → Hp → Prop} {tr : TA} (h : ta σ H fun x H1 => tr σ H1 fun xs H2 => S (x :: xs) H2) : tCons ta tr σ H S := h
theorem z_seq (h : t ⟨u ⟨nx, rt, bk, ct⟩, rt, bk, ct⟩ σ H) : tSeq t u ⟨nx, rt, bk, ct⟩ σ H := h
theorem z_next (h : nx σ H) : tNext ⟨nx, rt, bk, ct⟩ σ H := h
theorem z_drop (h : te σ H fun _ H1 => nx σ H1) : tDrop te ⟨nx, rt, bk, ct⟩ σ H := h
theorem z_ret (h : te σ H rt) : tRet te ⟨nx, rt, bk, ct⟩ σ H := h
theorem z_ifs (h : c σ H fun b H1 => if b = true then t ⟨nx, rt, bk, ct⟩ σ H1 else u ⟨nx, rt, bk, ct⟩ σ H1) : tIfS c t u ⟨nx, rt, bk, ct⟩ σ H := h
theorem z_asg {g : TG} (h : te σ H fun x H1 => g x σ H1 nx) : tAsg te g ⟨nx, rt, bk, ct⟩ σ H := h
theorem z_name {S : St → Hp → Prop} (h : SetTo σ k (some v) σ') (q : S σ' H) : gName k v σ H S := by
  show S (σ.set k (some v)) H
  rw [h.eq]; exact q
theorem z_iteD {c A B : Prop} [Decidable c] (h1 : c → A) (h2 : ¬ c → B) : if decide c = true then A else B := by
  by_cases h : c
  · rw [decide_eq_true h]; exact iteT (h1 h)
  · rw [decide_eq_false h]; exact iteF (h2 h)
theorem z_iteNb {b : Bool} {A B : Prop} (h : if b = true then B else A) : if (!b) = true then A else B := by
  cases b with
  | true => exact iteF h
  | false => exact iteT h
theorem z_call0 {sp : Sp} {E : XK} {tA : TA} (h : tA σ H fun vs H1 => sp vs H1 Q E) : tCall sp [] E tA σ H Q := by
  unfold tCall
  simpa using h
theorem z_cb {rr : List V → Hp → VK → Prop} {tA : TA} (h : tA σ H fun vs H1 => rr vs H1 Q) : tCB rr tA σ H Q := h
theorem z_e1 {S : Int → Prop} (q : S i) : ∃ i', [V.int i] = [.int i'] ∧ S i' := ⟨i, rfl, q⟩
theorem z_tup {tA : TA} (h : tA σ H fun xs H1 => MkT xs H1 Q) : tTup tA σ H Q := h
theorem z_mkt {xs : List V} (hl : xs.length ≤ 100) (q : ∀ p H', H p = none → Same H H' → H' p = some (.tup xs) → Q (.ref p) H') : MkT xs H Q :=
  ⟨Nat.le_trans hl (by decide), fun p hp => q p _ hp (Same.new hp _) upd_same⟩
theorem z_ixT {K : Fg} {p : Addr} {xs : List V} (hs : SqT K H p xs) (ha : atI xs i = some v) (q : Q v H) : rIxT K (.ref p) (.int i) H Q := ⟨p, xs, i, v, rfl, rfl, hs, ha, q⟩
theorem z_ixL {K : Fg} {p : Addr} {xs : List V} (hs : SqL K H p xs) (ha : atI xs i = some v) (q : Q v H) : rIxL K (.ref p) (.int i) H Q := ⟨p, xs, i, v, rfl, rfl, hs, ha, q⟩
theorem z_notN (q : Q (.bl false) H) : rNotN .non .non H Q := ⟨rfl, q⟩
theorem z_notR {p : Addr} (q : Q (.bl true) H) : rNotN (.ref p) .non H Q := ⟨rfl, q⟩
theorem z_len {K : Fg} {p : Addr} {ys : List V} {S : List V → Prop} (hs : SqL K H p ys ∨ SqT K H p ys) (q : S ys) : ∃ p' ys', [V.ref p] = [V.ref p'] ∧ (SqL K H p' ys' ∨ SqT K H p' ys') ∧ S ys' := ⟨p, ys, rfl, hs, q⟩
theorem z_toB {S1 : Int → Prop} {S3 : Bool → Prop} (q : S3 b) : (∃ i', [V.bl b] = [.int i'] ∧ S1 i') ∨ ∃ k, [V.bl b] = [.bl k] ∧ S3 k := .inr ⟨b, rfl, q⟩
theorem z_gtup {K : Fg} {p : Addr} {n : Nat} {tg : TGs} {xs : List V} {S : St → Hp → Prop} (hs : SqT K H p xs) (hl : xs.length = n) (q : tg xs σ H S) : gTup K n tg (.ref p) σ H S := ⟨p, xs, rfl, hs, hl, q⟩
theorem z_gnil {S : St → Hp → Prop} (q : S σ H) : gNil [] σ H S := ⟨rfl, q⟩
theorem z_gcons {g : TG} {tg : TGs} {v : V} {r : List V} {S : St → Hp → Prop} (q : g v σ H fun σ' H' => tg r σ' H' S) : gCons g tg (v :: r) σ H S := ⟨v, r, rfl, q⟩
theorem z_lst {tA : TA} (h : tA σ H fun xs H1 => MkL xs H1 Q) : tLst tA σ H Q := h
theorem z_mkl {xs : List V} (hl : xs.length ≤ 100) (q : ∀ p H', H p = none → Same H H' → H' p = some (.lst xs) → Q (.ref p) H') : MkL xs H Q :=
  ⟨Nat.le_trans hl (by decide), fun p hp => q p _ hp (Same.new hp _) upd_same⟩
theorem z_bm {K : Fg} {T : String} {rr : V → List V → Hp → VK → Prop} {tA : TA} (h : te σ H fun x H1 => tyV K T x H1 ∧ tA σ H1 fun xs H2 => rr x xs H2 Q) : tBM K T rr te tA σ H Q := h
end
def But (l : Addr) (H H' : Hp) : Prop := ∀ b o, b ≠ l → H b = some o → H' b = some o
theorem But.upd {H : Hp} {l : Addr} {o : HO} : But l H (upd H l o) := fun b u hb q => by rw [upd_ne hb]; exact q
theorem But.tup {K : Fg} {H H' : Hp} {l a : Addr} {xs ys : List V} (e : But l H H') (hl : H l = some (.lst ys)) (h : SqT K H a xs) : SqT K H' a xs := by
  rcases h with (h | ⟨o, h⟩) | h
  · exact .inl (.inl (e _ _ (fun z => by rw [z, hl] at h; cases h) h))
  · exact .inl (.inr ⟨o, e _ _ (fun z => by rw [z, hl] at h; cases h) h⟩)
  · exact .inr h
section
variable {σ σ' : St} {H : Hp} {Q : VK}
theorem z_append {l : Addr} {xs : List V} {v : V} (h : H l = some (.lst xs)) (hl : xs.length < sizeLine) (q : ∀ H', But l H H' → H' l = some (.lst (xs ++ [v])) → Q .non H') : rAppend (.ref l) [v] H Q :=
  ⟨l, xs, v, rfl, rfl, h, hl, q _ But.upd upd_same⟩
end
section
variable {σ : St} {H : Hp} {te : TE} {tb : TS} {g : TG} {nx bk ct : St → Hp → Prop} {rt : VK} {wi : TI} {K : Fg} {a : Addr} {xs : List V}
def FW (J : It) (g : TG) (tb : TS) (nx : St → Hp → Prop) (rt : VK) (σ : St) (H : Hp) : Prop := ∃ W : Nat → Nat → St → Hp → Prop, (∃ m, W 0 m σ H) ∧ ∀ i m σ H, W i m σ H →
  (J.stop i H ∧ nx σ H) ∨ (J.go i H ∧ ∃ N : St → Hp → Prop, (∀ σ' H', N σ' H' → ∃ m', m' < m ∧ W (i + 1) m' σ' H') ∧ ∀ x H', J.yld i H x H' → g x σ H' fun σ2 H2 => tb ⟨N, rt, nx, N⟩ σ2 H2)
theorem z_for (h : wi σ H fun J H1 => FW J g tb nx rt σ H1) : tFor wi g tb ⟨nx, rt, bk, ct⟩ σ H := h
theorem z_iL {R : It → Hp → Prop} (h : te σ H fun x H1 => ∃ a, x = .ref a ∧ (∃ xs, SqL K H1 a xs) ∧ R (Itl K a) H1) : iList K te σ H R := h
theorem z_iT {R : It → Hp → Prop} (h : te σ H fun x H1 => ∃ a, x = .ref a ∧ (∃ xs, SqT K H1 a xs) ∧ R (Itt K a) H1) : iTup K te σ H R := h
theorem z_iL2 {S : Addr → Prop} (hs : SqL K H a xs) (q : S a) : ∃ a', V.ref a = .ref a' ∧ (∃ xs, SqL K H a' xs) ∧ S a' := ⟨a, rfl, ⟨xs, hs⟩, q⟩
theorem f_tup (Pv : Nat → St → Hp → Prop) (h0 : Pv 0 σ H) (hl : ∀ i σ H, i ≤ xs.length → Pv i σ H → SqT K H a xs)
    (hs : ∀ i x σ H, xs[i]? = some x → Pv i σ H → g x σ H fun σ2 H2 => tb ⟨Pv (i + 1), rt, nx, Pv (i + 1)⟩ σ2 H2) (hd : ∀ σ H, Pv xs.length σ H → nx σ H) : FW (Itt K a) g tb nx rt σ H := for_tup (D := ⟨nx, rt, nx, nx⟩) Pv h0 hl hs hd
end
def IsiG (K : Fg) (n : String) (f : Tg → Bool) (xs : List V) (H : Hp) (Q : VK) : Prop := rIsi K n f xs H Q
theorem z_isi0 {K : Fg} {n : String} {f : Tg → Bool} {xs : List V} {H : Hp} {Q : VK} (h : IsiG K n f xs H Q) : rIsi K n f xs H Q := h
section
variable {H : Hp} {Q : VK} {K : Fg} {i : Int} {a : Str} {b : Bool} {p : Addr} {xs : List V}
theorem z_isI_list (q : Q (.bl false) H) : IsiG K "list" Tg.isLst [.int i, .ty "list"] H Q := ⟨_, .int, rfl, True.intro, q⟩
end
theorem bd_60 {n : Int} (h1 : -1152921504606846976 < n) (h2 : n < 1152921504606846976) : My.Bd 60 n := by unfold My.Bd; omega
theorem bt_max : bootBuiltins "max" = some (.builtin "max") := by decide +kernel
theorem bt_min : bootBuiltins "min" = some (.builtin "min") := by decide +kernel
theorem Same.but {H H2 H3 : Hp} {l : Addr} (s : Same H H2) (n : H l = none) (b : But l H2 H3) : Same H H3 := fun c o e => b c o (fun z => by rw [z, n] at e; cases e) (s c o e)
theorem z_tyL {K : Fg} {l : Addr} {xs : List V} {H : Hp} {S : Prop} (h : SqL K H l xs) (q : S) : tyV K "list" (.ref l) H ∧ S := ⟨.inl ⟨rfl, xs, h⟩, q⟩
theorem z_go {N : List Str} {vs : List V} {σ : St} {t : TS} {D : Ends} {H : Hp} (h : start N vs = σ) (q : t D σ H) : t D (start N vs) H := by rw [h]; exact q
end L2
namespace L2
open PySem PySem.Spec PyProof.Rows
end L2
namespace L2
open PySem PySem.Spec PyProof.Rows
section
variable {X : Cx} {elt iter tg : Expr} {ifs : List Expr} {tgs : List Str} {pos : Pos} {sc : Scope} {fr : List (Str × Nat)} {wi : TI} {te : TE} {g : TG} {tc : TT}
end
end L2
namespace L2
open PySem PySem.Spec PyProof.Rows
inductive Alike (K : Fg) (H : Hp) : Nat → V → V → Prop
  | int {n : Nat} {i : Int} : Alike K H n (.int i) (.int i)
  | str {n : Nat} {x : Str} : Alike K H n (.str x) (.str x)
  | bl {n : Nat} {b : Bool} : Alike K H n (.bl b) (.bl b)
  | non {n : Nat} : Alike K H n .non .non
  | ref {n : Nat} {a : Addr} : Alike K H n (.ref a) (.ref a)
  | tup {n : Nat} {p q : Addr} {xs ys : List V} (h1 : SqT K H p xs) (h2 : SqT K H q ys) (hl : xs.length = ys.length) (he : ∀ (j : Nat) (x y : V), xs[j]? = some x → ys[j]? = some y → Alike K H n x y) : Alike K H (n + 1) (.ref p) (.ref q)
  | lst {n : Nat} {p q : Addr} {xs ys : List V} (h1 : SqL K H p xs) (h2 : SqL K H q ys) (hl : xs.length = ys.length) (he : ∀ (j : Nat) (x y : V), xs[j]? = some x → ys[j]? = some y → Alike K H n x y) : Alike K H (n + 1) (.ref p) (.ref q)
  | dct {n : Nat} {p q : Addr} (h1 : H p = some (.dK [])) (h2 : H q = some (.dK [])) : Alike K H n (.ref p) (.ref q)
theorem dict_nil {P P' : Program} {w w' : World} {h : Heap} {a : Addr} (d : h.DictOf (mixKind P w) a []) : h.DictOf (mixKind P' w') a [] := by
  obtain ⟨o, es, ep, ho, he, hd, hk, hp, hn⟩ := d
  obtain ⟨es⟩ := es
  cases hp
  exact ⟨o, _, ep, ho, he, hd, fun _ h => absurd h (by simp), .nil, hn⟩
theorem vals_at {xs : List V} {us : List Value} (h : Vals xs us) : ∀ {j : Nat} {u : Value}, us[j]? = some u → ∃ x, xs[j]? = some x ∧ RelV x u := by
  induction h with
  | nil => intro j u e; simp at e
  | cons r rr ih =>
    intro j u e
    cases j with
    | zero => exact ⟨_, rfl, by rw [List.getElem?_cons_zero] at e; cases e; exact r⟩
    | succ j => exact ih (by rw [List.getElem?_cons_succ] at e; exact e)
theorem all_true {n : Nat} : (List.range n).all (fun _ => true) = true := by rw [List.all_eq_true]; intro _ _; rfl
section
variable {X : Cx} {pins : Pn} {σ : St} {H : Hp} {s : Shared}
theorem Inv.alike (I : Inv X pins σ H s) {n : Nat} {x y : V} (h : Alike X.K H n x y) : ∀ {A : Around} {u v : Value}, A.units + n < cLine → RelV x u → RelV y v → SeqAt.EqAt A s u v true := by
  induction h with
  | @int n i =>
    intro A u v hu r1 r2
    obtain ⟨t, rfl⟩ := r1
    obtain ⟨t', rfl⟩ := r2
    have := SeqAt.EqAt.int_int (A := A) (s := s) i t i t'
    rw [beq_self_eq_true] at this
    exact this
  | @str n x =>
    intro A u v hu r1 r2
    obtain ⟨t, rfl⟩ := r1
    obtain ⟨t', rfl⟩ := r2
    have := SeqAt.EqAt.str_str (A := A) (s := s) x t x t'
    rw [beq_self_eq_true] at this
    exact this
  | bl => intro A u v hu r1 r2; cases r1; cases r2; exact SeqAt.EqAt.same _
  | non => intro A u v hu r1 r2; cases r1; cases r2; exact SeqAt.EqAt.same _
  | ref => intro A u v hu r1 r2; cases r1; cases r2; exact SeqAt.EqAt.same _
  | @tup n p q xs ys h1 h2 hl he ih =>
    intro A u v hu r1 r2
    cases r1
    cases r2
    by_cases e : p = q
    · subst e; exact SeqAt.EqAt.same _
    · refine SeqAt.EqAt.of_refs e ?_
      obtain ⟨its, v1, p1, _⟩ := I.tuple h1
      obtain ⟨its2, v2, p2, _⟩ := I.tuple h2
      have l1 := v1.length
      have l2 := v2.length
      have key := SeqAt.RcAt.tuples (A := A) (s := s) (l := p) (b := q) (items := its.toArray) (items2 := its2.toArray) (e := fun _ => true) p1 p2 (by omega) (fun j g1 g2 => by
        have g1' : j < its.length := by simpa using g1
        have g2' : j < its2.length := by simpa using g2
        obtain ⟨x, ex, rx⟩ := vals_at v1 (List.getElem?_eq_getElem g1')
        obtain ⟨y, ey, ry⟩ := vals_at v2 (List.getElem?_eq_getElem g2')
        have w1 : its.toArray[j] = its[j] := by simp
        have w2 : its2.toArray[j] = its2[j] := by simp
        rw [w1, w2]
        exact ih j x y ex ey (by show A.units + 1 + n < cLine; omega) rx ry)
      have e2 : ((List.range (min its.toArray.size its2.toArray.size)).all (fun _ => true) && its.toArray.size == its2.toArray.size) = true := by
        rw [all_true, Bool.true_and, List.size_toArray, List.size_toArray, ← l1, ← l2, hl, beq_self_eq_true]
      rw [e2] at key
      exact key
  | @lst n p q xs ys h1 h2 hl he ih =>
    intro A u v hu r1 r2
    cases r1
    cases r2
    by_cases e : p = q
    · subst e; exact SeqAt.EqAt.same _
    · refine SeqAt.EqAt.of_refs e ?_
      obtain ⟨its, v1, p1, _⟩ := I.list h1
      obtain ⟨its2, v2, p2, _⟩ := I.list h2
      have l1 := v1.length
      have l2 := v2.length
      have key := SeqAt.RcAt.lists (A := A) (s := s) (l := p) (b := q) (items := its.toArray) (items2 := its2.toArray) (e := fun _ => true) p1.isList p2.isList (by rw [List.size_toArray, List.size_toArray, ← l1, ← l2, hl]) (by omega) (fun j g1 g2 => by
        have g1' : j < its.length := by simpa using g1
        have g2' : j < its2.length := by simpa using g2
        obtain ⟨x, ex, rx⟩ := vals_at v1 (List.getElem?_eq_getElem g1')
        obtain ⟨y, ey, ry⟩ := vals_at v2 (List.getElem?_eq_getElem g2')
        have w1 : its.toArray[j] = its[j] := by simp
        have w2 : its2.toArray[j] = its2[j] := by simp
        rw [w1, w2]
        exact ih j x y ex ey (by show A.units + 1 + n < cLine; omega) rx ry)
      rw [all_true] at key
      exact key
  | @dct n p q h1 h2 =>
    intro A u v hu r1 r2
    cases r1
    cases r2
    by_cases e : p = q
    · subst e; exact SeqAt.EqAt.same _
    · refine SeqAt.EqAt.of_refs e fun prog w E Q hq => ?_
      obtain ⟨_, z1, vs1, k1, d1⟩ := (show ObjOk X.prog X.w H s.heap p (.dK []) from I.hok p _ h1)
      obtain ⟨_, z2, vs2, k2, d2⟩ := (show ObjOk X.prog X.w H s.heap q (.dK []) from I.hok q _ h2)
      cases k1
      cases k2
      exact PySem.W.keq_eq (r := true) z1 z2 (dict_nil (P' := prog) (w' := w) d1) (dict_nil d2) (by omega) (fun _ => .nil) hq
def AlikeS (K : Fg) (H : Hp) (p q : Addr) : Prop := ∃ (n : Nat) (xs ys : List V), n ≤ 100 ∧ ((SqT K H p xs ∧ SqT K H q ys) ∨ (SqL K H p xs ∧ SqL K H q ys)) ∧ xs.length = ys.length ∧ ∀ (j : Nat) (x y : V), xs[j]? = some x → ys[j]? = some y → Alike K H n x y
def rAlk (K : Fg) (b : Bool) : R2 := fun x y H Q => ∃ p q, x = .ref p ∧ y = .ref q ∧ AlikeS K H p q ∧ Q (.bl b) H
theorem z_alk {K : Fg} {H : Hp} {Q : VK} {b : Bool} {p q : Addr} (h : AlikeS K H p q) (k : Q (.bl b) H) : rAlk K b (.ref p) (.ref q) H Q := ⟨p, q, rfl, rfl, h, k⟩
theorem op_neA (hu : X.A.units + 150 < cLine) : OpR X (compareOp .NotEq) (rAlk X.K false) := by
  intro pins s σ H x y v u Q I rx ry h
  obtain ⟨p, q, rfl, rfl, ⟨n, xs, ys, hn, hs, hl, he⟩, k⟩ := h
  cases rx
  cases ry
  rcases hs with ⟨h1, h2⟩ | ⟨h1, h2⟩
  · obtain ⟨its, v1, p1, _⟩ := I.tuple h1
    obtain ⟨its2, v2, p2, _⟩ := I.tuple h2
    have l1 := v1.length
    have l2 := v2.length
    have key := SeqAt.RcNeAt.tuples (A := X.A) (s := s) (l := p) (b := q) (items := its.toArray) (items2 := its2.toArray) (e := fun _ => true) p1 p2 (by omega) (fun j g1 g2 => by
      have g1' : j < its.length := by simpa using g1
      have g2' : j < its2.length := by simpa using g2
      obtain ⟨x, ex, rx⟩ := vals_at v1 (List.getElem?_eq_getElem g1')
      obtain ⟨y, ey, ry⟩ := vals_at v2 (List.getElem?_eq_getElem g2')
      have w1 : its.toArray[j] = its[j] := by simp
      have w2 : its2.toArray[j] = its2[j] := by simp
      rw [w1, w2]
      exact I.alike (he j x y ex ey) (by show X.A.units + 1 + n < cLine; omega) rx ry)
    have e2 : (!((List.range (min its.toArray.size its2.toArray.size)).all (fun _ => true) && its.toArray.size == its2.toArray.size)) = false := by
      rw [all_true, Bool.true_and, List.size_toArray, List.size_toArray, ← l1, ← l2, hl, beq_self_eq_true]; rfl
    rw [e2] at key
    exact key _ _ _ _ ⟨.bl false, H, I, rfl, k⟩
  · obtain ⟨its, v1, p1, _⟩ := I.list h1
    obtain ⟨its2, v2, p2, _⟩ := I.list h2
    have l1 := v1.length
    have l2 := v2.length
    have key := SeqAt.RcNeAt.lists (A := X.A) (s := s) (l := p) (b := q) (items := its.toArray) (items2 := its2.toArray) (e := fun _ => true) p1.isList p2.isList (by rw [List.size_toArray, List.size_toArray, ← l1, ← l2, hl]) (by omega) (fun j g1 g2 => by
      have g1' : j < its.length := by simpa using g1
      have g2' : j < its2.length := by simpa using g2
      obtain ⟨x, ex, rx⟩ := vals_at v1 (List.getElem?_eq_getElem g1')
      obtain ⟨y, ey, ry⟩ := vals_at v2 (List.getElem?_eq_getElem g2')
      have w1 : its.toArray[j] = its[j] := by simp
      have w2 : its2.toArray[j] = its2[j] := by simp
      rw [w1, w2]
      exact I.alike (he j x y ex ey) (by show X.A.units + 1 + n < cLine; omega) rx ry)
    rw [all_true] at key
    exact key _ _ _ _ ⟨.bl false, H, I, rfl, k⟩
end
theorem Room.un150 {k : Nat} {A : Around} (r : Room k A) : A.units + 150 < cLine := by have := r.un; omega
end L2
namespace L2
open PySem PySem.Spec PyProof.Rows PySem.W PySem.Calls
theorem bits_of_script : ∀ {ns : List Int}, WData.weightAll (ns.map WData.int) ≤ 2 ^ 20 → ∀ x ∈ ns, My.Bd 1048576 x
  | y :: r, h, x, hx => by
    have h' : WData.weight (.int y) + 1 + WData.weightAll (r.map WData.int) ≤ 2 ^ 20 := h
    rcases List.mem_cons.mp hx with e | e
    · subst e
      have w : WData.weight (.int x) = (if x == 0 then 0 else x.natAbs.log2 + 1) := by
        first | rfl | simp [WData.weight]
      unfold My.Bd
      by_cases z : x = 0
      · subst z
        exact Nat.two_pow_pos _
      · have zb : (x == 0) = false := by simpa using z
        rw [w, zb] at h'
        have h2 : x.natAbs.log2 < 1048576 := by
          have e20 : (2 : Nat) ^ 20 = 1048576 := by decide
          rw [e20] at h'
          simp only [Bool.false_eq_true, if_false] at h'
          omega
        exact (Nat.log2_lt (by omega)).mp h2
    · exact bits_of_script (by omega) x e
theorem attach_callB {l : OpenLaw} {n : Nat} {q : Program} {loose : List Str} {XP : (Str → Option Value) → Heap → Prop} {YP : World → Heap → Prop} {d : DefRec}
    (hn : l.most = some n) (hdf : d.params.defaults = [])
    (call : ∀ (w : World) (s₀ s₁ : Shared) (mg mb : Str → Option Value) (fa : Addr) (o : Obj) (pm cd doc : Value) (a : Addr) (vs : List Value) (ns : List Int),
      Ground q loose [] XP w s₀ mg mb s₁.heap → YP w s₁.heap →
      s₁.heap.get? fa = some o → o.data = .func (docDef d.name d.params d.body d.scope pm cd doc) → s₁.heap.CodeRec cd d.name → mg d.name = some (.ref fa) →
      s₁.heap.get? a = some { cls := .type "list", data := .seq vs.toArray } → IntsAre vs ns → ns.length ≤ n → (∀ x ∈ ns, My.Bd 1048576 x) → s₁.gens = #[] →
      codeAny (model l.prog w) callerA (.call (.ref fa) ⟨[.ref a], []⟩) (fun r s' => r = .ok (.ret (.bool true)) ∧ OldK s₁.heap s'.heap ∧ s'.os = s₁.os ∧ AllBare s'.gens) s₁) :
    WalkO q loose XP YP l.row.toRowW d [] (fun f vs => PySem.call f vs) := by
  intro w s₀ s₁ mg mb G Y fa o pm cd doc dV kV ho hd hcd hD hmg hg args vals as hpre hlay hrd hwl hlo
  obtain rfl : dV = .none := Dflts.none hD hdf
  obtain rfl : kV = .none := Dflts.noKw hD
  obtain ⟨a, vs, ns, rfl, rfl, hobj, hints, hlen⟩ := Att.script_of hn hpre hwl
  have hb : ∀ x ∈ ns, My.Bd 1048576 x := by
    have h1 : (WData.list (ns.map WData.int)).layable = true := by
      have h2 : ([WData.list (ns.map WData.int)].all WData.layable) = true := hlay
      simpa using h2
    obtain ⟨_, _, h3⟩ := layableW_iff.mp h1
    refine bits_of_script ?_
    have e : WData.weight (.list (ns.map WData.int)) = WData.weightAll (ns.map WData.int) := by
      first | rfl | simp [WData.weight]
    rw [e] at h3
    exact h3
  refine enter_call (codeAny_mono (call w s₀ s₁ mg mb fa o pm cd doc a vs ns G Y ho (fd_plain hd) hcd hmg hobj hints hlen hb hg) fun r s' hq => ?_)
  obtain ⟨rfl, h2, h3, h4⟩ := hq
  exact ⟨.inl ⟨.bool true, .bool true, [], rfl, fun _ => rfl, .bool true, Att.post_true l _, fun _ => ⟨List.Pairwise.nil, fun _ hm => (nomatch hm)⟩⟩, h2, h3, h4⟩
theorem walk_ofB {l : PySem.W.OpenLaw} {n k : Nat} {q : Program} {loose : List Str} {XP : (Str → Option Value) → Heap → Prop} {YP : World → Heap → Prop} {d : DefRec} {K : Params → Fg} {CX : World → CXT} {sp : World → Sp} {x : Str}
    (hn : l.most = some n) (hn2 : n ≤ sizeLine) (hdf : d.params.defaults = []) (hr : Room k callerA)
    (hY : ∀ (w : World) (h : Heap), YP w h → (K w.params).In h)
    (F : ∀ (w : World) (mg : Str → Option Value) (fa : Addr) (h : Heap), (K w.params).In h → h.Ns mainGlobals mg → mg d.name = some (.ref fa) →
      ∃ fd : FuncData, (∀ (s : Shared) (u : Value), BindsTo s fd ⟨[u], []⟩ [(x, u)]) ∧
        ∀ base : Heap, (K w.params).In base → base.Ns mainGlobals mg → FnOk l.prog w (K w.params) mg base (CX w) k fa fd [x] (sp w))
    (hsp : ∀ (w : World) (H : Hp) (a : Addr) (ns : List Int), ns.length ≤ n → (∀ x ∈ ns, My.Bd 1048576 x) → Only H → SqL (K w.params) H a (ns.map V.int) → sp w [.ref a] H (fun v _ => v = .bl true) fun _ _ _ => False)
    (hCX : ∀ (w : World) (H : Hp) (s : Shared) (e : Value) (s' : Shared), CX w [] H s (fun _ _ _ => False) e s' → False) :
    PySem.W.WalkO q loose XP YP l.row.toRowW d [] (fun f vs => PySem.call f vs) := by
  refine attach_callB hn hdf fun w s₀ s₁ mg mb fa o pm cd doc a vs ns G Y ho hd hcd hmg hobj hints hlen hbits hg => ?_
  have KX := hY w _ Y
  obtain ⟨fd, hb, hF⟩ := F w mg fa _ KX G.T.g hmg
  exact law_call KX G.T.g G.T.b G.T.builtins G.T.nolimit hg hobj hints (Nat.le_trans hlen hn2) hr hF hb (fun H hO hS => hsp w H a ns hlen hbits hO hS) fun H e s' => hCX w H s₁ e s'
end L2
namespace L2
open PySem PySem.Spec PyProof.Rows
def rJoin (K : Fg) : V → List V → Hp → VK → Prop := fun x vs H Q => ∃ (l : Addr) (sep : Str) (ts : List Str), x = .str sep ∧ vs = [.ref l] ∧ SqL K H l (ts.map V.str) ∧ JoinOk sep ts = true ∧ Q (.str (Txt.join sep ts)) H
section
variable {X : Cx}
theorem strs_of : ∀ {ts : List Str} {us : List Value}, Vals (ts.map V.str) us → ∃ l : List (Str × Tok), strValues l = us ∧ l.map (·.1) = ts
  | [], _, .nil => ⟨[], rfl, rfl⟩
  | x :: r, _, .cons h t => by
    obtain ⟨tk, rfl⟩ := h
    obtain ⟨l, e1, e2⟩ := strs_of (ts := r) t
    exact ⟨(x, tk) :: l, by rw [← e1]; rfl, by rw [← e2]; rfl⟩
theorem mt_join : MtM X "str.join" (rJoin X.K) := by
  intro pins s σ H x vs v us Q I rx rv h
  obtain ⟨l, sep, ts, rfl, rfl, hq, hok, q⟩ := h
  obtain ⟨t, rfl⟩ := rx
  obtain ⟨u, rfl, ru⟩ := rv.one
  cases ru
  obtain ⟨its, r, pl, hsz⟩ := I.list hq
  obtain ⟨ll, e1, e2⟩ := strs_of r
  refine SC.join (l := ll) (texts := ts) (by rw [e1]; exact pl.isList) e2 hok (fun t' k => ⟨.str _, H, I.tok _, ⟨_, rfl⟩, q⟩)
end
section
variable {σ : St} {H : Hp} {Q : VK} {K : Fg} {p q : Addr} {xs : List V} {f : Bool → Bool}
theorem z_join {sep : Str} {ts : List Str} (h : SqL K H p (ts.map V.str)) (ok : JoinOk sep ts = true) (k : Q (.str (Txt.join sep ts)) H) : rJoin K (.str sep) [.ref p] H Q := ⟨p, sep, ts, rfl, rfl, h, ok, k⟩
theorem z_tyS {z : Str} {S : Prop} (q : S) : tyV K "str" (.str z) H ∧ S := ⟨rfl, q⟩
end
end L2
namespace L2
open PySem PySem.Spec PyProof.Rows
theorem best_max (f : Nat → Int) : ∀ n, argBest (fun i j => decide (f i > f j)) n ≤ n ∧ ∀ j, j ≤ n → f j ≤ f (argBest (fun i j => decide (f i > f j)) n)
  | 0 => ⟨Nat.le_refl _, fun j hj => by rw [Nat.le_zero.mp hj]; exact Int.le_refl _⟩
  | n + 1 => by
    obtain ⟨h1, h2⟩ := best_max f n
    unfold argBest
    by_cases h : f (n + 1) > f (argBest (fun i j => decide (f i > f j)) n)
    · rw [if_pos (decide_eq_true h)]
      refine ⟨Nat.le_refl _, fun j hj => ?_⟩
      rcases Nat.lt_or_ge j (n + 1) with k | k
      · have := h2 j (by omega); omega
      · rw [show j = n + 1 by omega]; exact Int.le_refl _
    · rw [if_neg (by rw [decide_eq_true_eq]; exact h)]
      refine ⟨by omega, fun j hj => ?_⟩
      rcases Nat.lt_or_ge j (n + 1) with k | k
      · exact h2 j (by omega)
      · rw [show j = n + 1 by omega]; omega
theorem ints_of : ∀ {ns : List Int} {us : List Value}, Vals (ns.map V.int) us → ∃ l : List (Int × Tok), us = l.map (fun p => Value.int p.1 p.2) ∧ l.map (·.1) = ns
  | [], _, .nil => ⟨[], rfl, rfl⟩
  | x :: r, _, .cons h t => by
    obtain ⟨tk, rfl⟩ := h
    obtain ⟨l, e1, e2⟩ := ints_of (ns := r) t
    exact ⟨(x, tk) :: l, by rw [e1]; rfl, by rw [← e2]; rfl⟩
theorem numAt_of {l : List (Int × Tok)} {ns : List Int} (e : l.map (·.1) = ns) {j : Nat} {n : Int} (h : ns[j]? = some n) : numAt l.toArray j = n := by
  subst e
  rw [List.getElem?_map] at h
  unfold numAt
  rw [List.getElem?_toArray, h]
  rfl
def IsMax (ns : List Int) (m : Int) : Prop := m ∈ ns ∧ ∀ n ∈ ns, n ≤ m
theorem max_is {l : List (Int × Tok)} {ns : List Int} {m : Int} (e : l.map (·.1) = ns) (hm : IsMax ns m) : numAt l.toArray (argBest (fun i j => decide (numAt l.toArray i > numAt l.toArray j)) (l.toArray.size - 1)) = m := by
  obtain ⟨hb, hmax⟩ := best_max (numAt l.toArray) (l.toArray.size - 1)
  have hlen : l.length = ns.length := by rw [← e, List.length_map]
  obtain ⟨j, hj, ej⟩ := List.getElem_of_mem hm.1
  have hs : l.toArray.size = ns.length := by rw [List.size_toArray, hlen]
  generalize argBest (fun i j => decide (numAt l.toArray i > numAt l.toArray j)) (l.toArray.size - 1) = k at *
  have hk : k < ns.length := by omega
  have a1 := numAt_of e (List.getElem?_eq_getElem hk)
  have a2 := numAt_of e (List.getElem?_eq_getElem hj)
  have a3 := hmax j (by omega)
  have a4 := hm.2 _ (List.getElem_mem hk)
  omega
section
variable {prog : Program} {w : World} {A : Around} {R : Result → Shared → Prop} {I : Addr} {fp wr : List Addr} {n : Nat} {P : Nat → Value → Prop} {St : Nat → Heap → Prop} {kw : List (Str × Value)}
theorem maxK_loop (W : Walks prog w A.in1 I fp wr n P St) (bt : Nat → Nat → Bool) (hcmp : CmpOf prog w A.in1 .Gt P bt) (S : Addr) (hSf : S ∉ fp) :
    ∀ (k j : Nat) (s : Shared) (vb : Value) (c : Nat), n - (j + 1) = k → j + 1 ≤ n → St (j + 1) s.heap → P (argBest bt j) vb →
    s.heap.get? S = some { cls := .type "list", dict := none, data := .seq #[vb, vb] c, slots := #[] } →
    (∀ v h' tk, P (argBest bt (n - 1)) v → (∀ b o, b ∉ wr → b ≠ S → s.heap.get? b = some o → h'.get? b = some o) → R (.ok (.ret v)) { s with heap := h', toks := tk }) →
    codeAny (model prog w) A (.builtin "max.loop" ⟨[.ref I, .none, .ref S], kw⟩) R s := by
  have nw : S ∉ wr := fun h => hSf (W.sub _ h)
  have nm : (toString "max" ++ toString ".loop" : String) = "max.loop" := by decide
  intro k
  induction k with
  | zero =>
    intro j s vb c hk hj hst hb hS hR
    have e : j + 1 = n := by omega
    refine codeAny_builtin F.entry_max_loop ?_
    rw [Around.under_plainId F.plain_max_loop _]
    show wpAny _ A.in1 (seqItems? (.ref S) >>= _) _ _ s
    refine wpAny_bind (wpAny_seqItems hS rfl ?_)
    show wpAny _ A.in1 (tryCatch (pyNext (.ref I)) _ >>= _) _ _ s
    refine wpAny_bind (wpAny_tryCatch (W.done s _ _ (e ▸ hst) fun h' tk hk' => ?_))
    have hS' := hk' S _ nw hS
    show wpAny _ A.in1 (updateSeq S (fun _ => #[]) >>= _) _ _ _
    refine wpAny_bind (wpAny_updateSeq hS' rfl (wpAny_bind (wpAny_letGo (wpAny_pure ?_))))
    exact hR vb _ tk (by rw [← e]; exact hb) fun b o h1 h2 e => (Heap.get?_update_other _ _ (Ne.symm h2)).trans (hk' b o h1 e)
  | succ k ih =>
    intro j s vb c hk hj hst hb hS hR
    have lt : j + 1 < n := by omega
    refine codeAny_builtin F.entry_max_loop ?_
    rw [Around.under_plainId F.plain_max_loop _]
    show wpAny _ A.in1 (seqItems? (.ref S) >>= _) _ _ s
    refine wpAny_bind (wpAny_seqItems hS rfl ?_)
    show wpAny _ A.in1 (tryCatch (pyNext (.ref I)) _ >>= _) _ _ s
    refine wpAny_bind (wpAny_tryCatch (W.item (j + 1) s _ _ lt hst fun v h' tk hP hst' hk' => ?_))
    have hS' := hk' S _ nw hS
    show wpAny _ A.in1 (tryCatch (holding [v, v] (richCompare .Gt v vb >>= _)) _ >>= _) _ _ _
    refine wpAny_bind (wpAny_tryCatch (wpAny_holding (wpAny_bind (hcmp (j + 1) (argBest bt j) v vb _ _ _ hP hb ?_))))
    refine wpAny_bind (wpAny_holding (wpAny_truthy_bool ?_))
    refine wpAny_bind (wpAny_letGo (wpAny_pure ?_))
    cases hbt : bt (j + 1) (argBest bt j) with
    | true =>
      simp only [if_true]
      refine wpAny_bind (wpAny_updateSeq hS' rfl (wpAny_bind (wpAny_letGo ?_)))
      rw [nm]
      refine wpAny_pure ⟨plainId_quiet F.plain_max_loop _, ih (j + 1) _ v _ (by omega) lt (W.frame _ _ _ hst' fun b hbf o e => ?_) (by simp only [argBest, hbt, if_true]; exact hP) (Heap.get?_update_self _ hS' rfl) fun v' h2 tk2 hP' hk2 => ?_⟩
      · exact (Heap.get?_update_other _ _ (fun h : S = b => hSf (by rw [h]; exact hbf))).trans e
      · exact hR v' h2 tk2 hP' fun b o h1 h3 e => hk2 b o h1 h3 ((Heap.get?_update_other _ _ (Ne.symm h3)).trans (hk' b o h1 e))
    | false =>
      simp only [Bool.false_eq_true, if_false]
      refine wpAny_bind (wpAny_letGo ?_)
      rw [nm]
      refine wpAny_pure ⟨plainId_quiet F.plain_max_loop _, ih (j + 1) _ vb c (by omega) lt hst' (by simp only [argBest, hbt, Bool.false_eq_true, if_false]; exact hb) hS' fun v' h2 tk2 hP' hk2 => ?_⟩
      exact hR v' h2 tk2 hP' fun b o h1 h3 e => hk2 b o h1 h3 (hk' b o h1 e)
theorem maxK_first {d : Value} (W : Walks prog w A.in1 I fp wr n P St) (bt : Nat → Nat → Bool) (hcmp : CmpOf prog w A.in1 .Gt P bt) (S : Addr) (hSf : S ∉ fp) {s : Shared} {c : Nat} (hst : St 0 s.heap)
    (hS : s.heap.get? S = some { cls := .type "list", dict := none, data := .seq #[] c, slots := #[] })
    (hR : ∀ v h' tk, (0 < n ∧ P (argBest bt (n - 1)) v) ∨ (n = 0 ∧ v = d) → (∀ b o, b ∉ wr → b ≠ S → s.heap.get? b = some o → h'.get? b = some o) → R (.ok (.ret v)) { s with heap := h', toks := tk }) :
    codeAny (model prog w) A (.builtin "max.loop" ⟨[.ref I, .none, .ref S], [("default", d)]⟩) R s := by
  have nw : S ∉ wr := fun h => hSf (W.sub _ h)
  have nm : (toString "max" ++ toString ".loop" : String) = "max.loop" := by decide
  refine codeAny_builtin F.entry_max_loop ?_
  rw [Around.under_plainId F.plain_max_loop _]
  show wpAny _ A.in1 (seqItems? (.ref S) >>= _) _ _ s
  refine wpAny_bind (wpAny_seqItems hS rfl ?_)
  show wpAny _ A.in1 (tryCatch (pyNext (.ref I)) _ >>= _) _ _ s
  rcases Nat.eq_zero_or_pos n with e | hn
  · refine wpAny_bind (wpAny_tryCatch (W.done s _ _ (e.symm ▸ hst) fun h' tk hk' => ?_))
    refine wpAny_bind (wpAny_rule (wpAny_pure ?_))
    exact hR d _ tk (.inr ⟨e, rfl⟩) fun b o h1 h2 e => hk' b o h1 e
  · refine wpAny_bind (wpAny_tryCatch (W.item 0 s _ _ hn hst fun v h' tk hP hst' hk' => ?_))
    have hS' := hk' S _ nw hS
    show wpAny _ A.in1 (updateSeq S (fun _ => #[v, v]) >>= _) _ _ _
    refine wpAny_bind (wpAny_updateSeq hS' rfl ?_)
    rw [nm]
    refine wpAny_pure ⟨plainId_quiet F.plain_max_loop _, maxK_loop W bt hcmp S hSf _ 0 _ v _ rfl hn (W.frame _ _ _ hst' fun b hbf o e => ?_) hP (Heap.get?_update_self _ hS' rfl) fun v' h2 tk2 hP' hk2 => ?_⟩
    · exact (Heap.get?_update_other _ _ (fun h : S = b => hSf (by rw [h]; exact hbf))).trans e
    · exact hR v' h2 tk2 (.inl ⟨hn, hP'⟩) fun b o h1 h3 e => hk2 b o h1 h3 ((Heap.get?_update_other _ _ (Ne.symm h3)).trans (hk' b o h1 e))
end
section
variable {X : Cx}
theorem call_maxD {prog : Program} {w : World} {A : Around} {E : Value → Shared → Prop} {s : Shared} {l : Addr} {xs : Array (Int × Tok)} {d : Value} {Q : Value → Shared → Prop} (hh : A.handled = none) (hl : s.heap.IsList l (intItems xs))
    (h : ∀ v h' tk, (0 < xs.size ∧ (intItems xs)[argBest (fun i j => decide (numAt xs i > numAt xs j)) (xs.size - 1)]? = some v) ∨ (xs.size = 0 ∧ v = d) → (∀ b o, s.heap.get? b = some o → h'.get? b = some o) → Q v { s with heap := h', toks := tk }) :
    wpAny (model prog w) A (call (.builtin "max") [.ref l] [("default", d)]) Q E s := by
  have nm : (toString "max" ++ toString ".loop" : String) = "max.loop" := by decide
  have ha : argsOk "max" ⟨[.ref l], [("default", d)]⟩ := by unfold argsOk; kernel_rfl
  refine wpAny_call (codeAny_call_builtin F.plain_max F.entry_max ?_)
  have hc : wpAny (model prog w) A.in1 (Builtin.«max» ⟨[.ref l], [("default", d)]⟩) (fun fin s' => match fin with
      | .done f => (match (Except.ok f : Result) with | .ok (.ret v) => Q v s' | .ok _ => False | .error e => E e s')
      | .again c' => c'.quiet = true ∧ codeAny (model prog w) A c' (fun r s' => match r with | .ok (.ret v) => Q v s' | .ok _ => False | .error e => E e s') s') E s := by
    show wpAny _ A.in1 (Builtin.Builtins.bindParams "max" ["key", "default"] 0 ⟨[], [("default", d)]⟩ >>= _) _ _ s
    refine wpAny_bind (wpAny_of_eq (show Builtin.Builtins.bindParams "max" ["key", "default"] 0 ⟨[], [("default", d)]⟩ = pure [none, some d] from rfl) ?_)
    refine wpAny_bind (wpAny_pure ?_)
    refine wpAny_bind (iter_intList hl fun s2 e st hfp hlI => ?_)
    subst e
    refine wpAny_bind (wpAny_newObj_type ?_)
    rw [nm]
    have W := Walks.list (prog := prog) (w := w) (A := A.in1) hh s.heap.objs.size l hlI (intItems xs)
    refine wpAny_pure ⟨plainId_quiet F.plain_max_loop _, maxK_first (d := d) W _ (CmpOf.ints_gt (numAt xs) (fun _ _ => intItems_at)) _ (fun hmm => Nat.lt_irrefl _ (hfp _ hmm)) (W.frame _ _ _ st fun b _ o e => Heap.get?_push_of_some _ e) (Heap.get?_push_size _ rfl) fun v h' tk hP hk => ?_⟩
    refine h v h' tk (by simpa [intItems] using hP) ?_
    exact old_kept fun b o h1 e => hk b o h1 (Nat.ne_of_lt (Heap.lt_size e)) (Heap.get?_push_of_some _ e)
  simp only [checkBuiltinCall, F.kind_max]
  cases hsig : Manifest.signature? "max" with
  | none => exact wpAny_pure hc
  | some sig =>
    have ha' : Bind.checkArgs "max" sig ⟨[.ref l], [("default", d)]⟩ = pure () := by simpa only [argsOk, hsig] using ha
    simp only [ha']
    exact wpAny_pure hc
def tMaxD (K : Fg) (t td : TA) : TE := fun σ H Q => t σ H fun vs H1 => td σ H1 fun ds H2 => ∃ (p : Addr) (ns : List Int) (d : V), vs = [.ref p] ∧ ds = [d] ∧ SqL K H2 p (ns.map V.int) ∧ ((ns = [] ∧ Q d H2) ∨ ∃ m, IsMax ns m ∧ Q (.int m) H2)
theorem z_maxD {K : Fg} {σ : St} {H : Hp} {Q : VK} {t td : TA} (h : t σ H fun vs H1 => td σ H1 fun ds H2 => ∃ (p : Addr) (ns : List Int) (d : V), vs = [.ref p] ∧ ds = [d] ∧ SqL K H2 p (ns.map V.int) ∧ ((ns = [] ∧ Q d H2) ∨ ∃ m, IsMax ns m ∧ Q (.int m) H2)) : tMaxD K t td σ H Q := h
theorem pe_maxD {e de : Expr} {p pos kp : Pos} {t td : TA} (hc : X.calm = true) (hg : Gl X "max") (hm : X.mg "max" = none) (ha : PA X [e] t) (hk : PK X [⟨some "default", de, kp⟩] td)
    (he : backTo pos (starEach [e] X.env) = (false, eval e X.env) :: backTo pos (starEach [] X.env) := by rfl) (hpl : (backTo pos (starEach [e] X.env)).any (·.1) = false := by rfl) : PE X (.Call (.Name "max" p) [e] [⟨some "default", de, kp⟩] pos) (tMaxD X.K t td) := by
  intro pins s σ H Q I h
  refine wpAny_Call_Name_kw (ld_blt I hg hm bt_max ?_ (by decide) (by decide))
  refine callWith_kw (thn (ha pos pins s σ H _ I h) fun us s1 ⟨vs, H1, I1, r1, q1⟩ => thn (hk pos pins s1 σ H1 _ I1 q1) fun ws s2 ⟨zs, H2, I2, rz, q2⟩ => ?_) he hpl
  obtain ⟨p, ns, d, rfl, rfl, hq, q⟩ := q2
  obtain ⟨u, rfl, ru⟩ := r1.one
  cases ru
  obtain ⟨dv, rfl, rd⟩ := rz.one
  obtain ⟨its, v, pl, _⟩ := I2.list hq
  obtain ⟨l, e1, e2⟩ := ints_of v
  have hl : s2.heap.IsList p (intItems l.toArray) := by
    have := pl.isList
    rw [e1] at this
    unfold intItems
    rw [List.map_toArray]
    exact this
  have hs : l.toArray.size = ns.length := by rw [List.size_toArray, ← e2, List.length_map]
  refine call_maxD (I2.ok.hd hc) hl fun v h' tk hv k => ?_
  rcases q with ⟨en, q⟩ | ⟨m, hmx, q⟩
  · rcases hv with ⟨z, _⟩ | ⟨_, rfl⟩
    · rw [hs, en] at z; exact absurd z (by decide)
    · exact ⟨d, H2, I2.kept k, rd, q⟩
  · rcases hv with ⟨_, hv⟩ | ⟨z, _⟩
    · obtain ⟨t, rfl⟩ := intItems_at hv
      rw [max_is e2 hmx]
      exact ⟨.int m, H2, I2.kept k, ⟨_, rfl⟩, q⟩
    · rw [hs] at z
      have := List.length_pos_of_mem hmx.1
      omega
end
end L2
namespace L2
open PySem PySem.Spec PyProof.Rows
section
variable {σ : St} {H : Hp} {Q : VK}
theorem z_gsub {to ti : TE} {t : TSet} {v : V} {S : St → Hp → Prop} (h : to σ H fun o H1 => ti σ H1 fun i H2 => t o i v H2 fun H3 => S σ H3) : gSub to ti t v σ H S := h
theorem z_setL {p : Addr} {xs : List V} {k : Int} {j : Nat} {v : V} {S : Hp → Prop} (h : H p = some (.lst xs)) (hj : ixN xs.length k = some j) (q : ∀ H', But p H H' → H' p = some (.lst (xs.set j v)) → S H') : rSetL (.ref p) (.int k) v H S := ⟨p, xs, k, j, rfl, rfl, h, hj, q _ But.upd upd_same⟩
end
def LCN (st : St) (J : It) (te : TE) (H1 : Hp) (Q : VK) : Prop := ∀ acc, H1 acc = none → ∃ W : Nat → Nat → Hp → Prop, (∃ m, W 0 m (upd H1 acc (.lst []))) ∧ ∀ i m H2, W i m H2 →
  (J.stop i H2 ∧ Q (.ref acc) H2) ∨ (J.go i H2 ∧ ∀ x H3, J.yld i H2 x H3 → te (some x :: st) H3 fun v H4 => ∃ xs m', H4 acc = some (.lst xs) ∧ xs.length < sizeLine ∧ m' < m ∧ W (i + 1) m' (upd H4 acc (.lst (xs ++ [v]))))
theorem z_lcn {fr : List (Str × Nat)} {wi : TI} {te : TE} {σ : St} {H : Hp} {Q : VK} (h : wi σ H fun J H1 => LCN (inSt σ fr) J te H1 Q) : tLC fr wi te σ H Q := h
theorem lcn_list {K : Fg} {a : Addr} {xs : List V} {st : St} {te : TE} {H1 : Hp} {Q : VK} (g : V → V) (hs : SqL K H1 a xs) (hn : xs.length ≤ sizeLine)
    (step : ∀ x H2 (S : V → Hp → Prop), x ∈ xs → Same H1 H2 → (∀ H3, Same H2 H3 → S (g x) H3) → te (some x :: st) H2 S)
    (fin : ∀ acc H2, H1 acc = none → Same H1 H2 → H2 acc = some (.lst (xs.map g)) → Q (.ref acc) H2) : LCN st (Itl K a) te H1 Q := by
  intro acc hacc
  refine ⟨fun i m H2 => m = xs.length - i ∧ i ≤ xs.length ∧ Same H1 H2 ∧ H2 acc = some (.lst ((xs.take i).map g)), ⟨xs.length, by simp, Nat.zero_le _, Same.new hacc _, by rw [upd_same]; rfl⟩, ?_⟩
  rintro i m H2 ⟨rfl, hi, sH, ha⟩
  by_cases hlt : i < xs.length
  · have hx : xs[i]? = some xs[i] := List.getElem?_eq_getElem hlt
    refine .inr ⟨⟨xs, _, sH.seq hs, hx⟩, fun x H3 y => ?_⟩
    have e := y.2 xs (sH.seq hs)
    rw [hx] at e
    cases e
    rw [y.1]
    refine step _ _ _ (List.getElem_mem hlt) sH fun H4 s4 => ⟨_, xs.length - (i + 1), s4 _ _ ha, ?_, by omega, rfl, hlt, fun b o e => ?_, ?_⟩
    · rw [List.length_map, List.length_take]; omega
    · rw [upd_ne (fun z => by rw [z, hacc] at e; cases e)]
      exact s4 _ _ (sH _ _ e)
    · rw [upd_same, List.take_succ, hx, List.map_append]; rfl
  · have e : i = xs.length := by omega
    subst e
    refine .inl ⟨⟨xs, sH.seq hs, Nat.le_refl _⟩, fin acc H2 hacc sH ?_⟩
    rw [ha, List.take_length]
end L2
namespace L2
open PySem PySem.Spec PyProof.Rows PySem.Builtin PySem.Builtin.Str
section
variable {X : Cx}
end
section
variable {σ : St} {H : Hp} {Q : VK} {te : TE}
end
end L2
namespace L2
open PySem PySem.Spec PyProof.Rows PySem.Builtin PySem.Builtin.Str
section
variable {X : Cx}
def rZfill : V → List V → Hp → VK → Prop := fun x vs H Q => ∃ (z : Str) (i : Int), x = .str z ∧ vs = [.int i] ∧ PadOk i = true ∧ Q (.str (Txt.zfill z i)) H
theorem mt_zfill : MtM X "str.zfill" rZfill := by
  intro pins s σ H x vs v us Q I rx rv h
  obtain ⟨z, i, rfl, rfl, hp, q⟩ := h
  obtain ⟨t, rfl⟩ := rx
  obtain ⟨u', rfl, ru⟩ := rv.one
  obtain ⟨u, rfl⟩ := ru
  exact SC.zfill hp (fun t' k => ⟨.str _, H, I.tok _, ⟨_, rfl⟩, q⟩)
theorem z_zfill {H : Hp} {Q : VK} {z : Str} {i : Int} (hp : PadOk i = true) (q : Q (.str (Txt.zfill z i)) H) : rZfill (.str z) [.int i] H Q := ⟨z, i, rfl, rfl, hp, q⟩
end
end L2
namespace My
open PySem PySem.NumText
def dg (n : Nat) : List Nat := (Nat.toDigits 10 n).map Char.toNat
theorem dg_small {n : Nat} (h : n < 10) : dg n = [48 + n] := by
  rcases (by omega : n = 0 ∨ n = 1 ∨ n = 2 ∨ n = 3 ∨ n = 4 ∨ n = 5 ∨ n = 6 ∨ n = 7 ∨ n = 8 ∨ n = 9) with e | e | e | e | e | e | e | e | e | e <;> subst e <;> decide
theorem dg_step {n : Nat} (h : 10 ≤ n) : dg n = dg (n / 10) ++ [48 + n % 10] := by
  have hm : n % 10 < 10 := Nat.mod_lt n (by decide)
  have t : Nat.toDigits 10 (n / 10) ++ Nat.toDigits 10 (n % 10) = Nat.toDigits 10 (10 * (n / 10) + n % 10) := Nat.toDigits_append_toDigits (by decide) (by omega) hm
  rw [Nat.div_add_mod] at t
  unfold dg
  rw [← t, List.map_append]
  congr 1
  exact dg_small hm
theorem dg_dig (n : Nat) : AllDigits (dg n) := by
  intro c hc
  obtain ⟨ch, hch, e⟩ := List.mem_map.mp hc
  have r := PyProof.Rows.digit_range (Nat.isDigit_of_mem_toDigits (by decide) (by decide) hch)
  rw [← e]
  exact r
theorem dg_ne (n : Nat) : dg n ≠ [] := by
  rcases Nat.lt_or_ge n 10 with h | h
  · rw [dg_small h]; exact List.cons_ne_nil _ _
  · rw [dg_step h]; simp
def txt (n : Int) : List Nat := if n < 0 then 45 :: dg n.natAbs else dg n.natAbs
theorem txt_is (n : Int) : (Str.ofString (toString n)).cps.toList = txt n := by
  cases n with
  | ofNat m =>
    have : ¬ ((Int.ofNat m) < 0) := by simp
    unfold txt
    rw [if_neg this]
    exact PySem.W.KIN.signs_num m
  | negSucc m =>
    unfold txt
    rw [if_pos (Int.negSucc_lt_zero m), PyProof.Rows.signs_ofString]
    show (("-" ++ Nat.repr (m + 1) : String).toList.map Char.toNat) = 45 :: dg (m + 1)
    rw [String.toList_append, List.map_append, Nat.toList_repr]
    rfl
theorem txt_nat (n : Nat) : txt (n : Int) = dg n := by
  unfold txt
  rw [if_neg (by omega)]
  rfl
end My
namespace My
open PySem PySem.NumText PySem.StrLaws
abbrev cs (z : Str) : List Nat := z.cps.toList
theorem cs_len (z : Str) : (cs z).length = z.length := by simp [Str.length]
theorem cs_app (a b : Str) : cs (a ++ b) = cs a ++ cs b := by
  show (a.cps ++ b.cps).toList = _
  rw [Array.toList_append]
theorem log60 {n : Int} (h : n.natAbs < 10 ^ 60) : n.natAbs.log2 < 1920 := by
  by_cases z : n.natAbs = 0
  · rw [z]; decide
  · rw [Nat.log2_lt z]
    exact Nat.lt_of_lt_of_le h (by decide)
theorem cs_str (n : Int) : cs (Str.ofString (toString n)) = txt n := txt_is n
end My
namespace My
open PySem PySem.NumText
def pad4 (n : Nat) : List Nat := [48 + n / 1000, 48 + n / 100 % 10, 48 + n / 10 % 10, 48 + n % 10]
def pad2 (n : Nat) : List Nat := [48 + n / 10, 48 + n % 10]
theorem fill4 {n : Nat} (h : n < 10000) : List.replicate (4 - (dg n).length) 48 ++ dg n = pad4 n := by
  unfold pad4
  rcases Nat.lt_or_ge n 10 with a | a
  · rw [dg_small a, show n / 1000 = 0 by omega, show n / 100 % 10 = 0 by omega, show n / 10 % 10 = 0 by omega, show n % 10 = n by omega]; rfl
  rcases Nat.lt_or_ge n 100 with b | b
  · rw [dg_step a, dg_small (by omega), show n / 1000 = 0 by omega, show n / 100 % 10 = 0 by omega, show n / 10 % 10 = n / 10 by omega]; rfl
  rcases Nat.lt_or_ge n 1000 with c | c
  · rw [dg_step a, dg_step (by omega), dg_small (by omega), show n / 1000 = 0 by omega, show n / 100 % 10 = n / 10 / 10 by omega]; rfl
  · rw [dg_step a, dg_step (by omega), dg_step (by omega), dg_small (by omega), show n / 1000 = n / 10 / 10 / 10 by omega, show n / 100 % 10 = n / 10 / 10 % 10 by omega]; rfl
theorem fill2 {n : Nat} (h : n < 100) : List.replicate (2 - (dg n).length) 48 ++ dg n = pad2 n := by
  unfold pad2
  rcases Nat.lt_or_ge n 10 with a | a
  · rw [dg_small a, show n / 10 = 0 by omega, show n % 10 = n by omega]; rfl
  · rw [dg_step a, dg_small (by omega)]; rfl
theorem zfill_is (n : Nat) (k : Nat) (hk : k ≤ 1000) : cs (Txt.zfill (Str.ofString (toString (n : Int))) (k : Int)) = List.replicate (k - (dg n).length) 48 ++ dg n := by
  have hc : cs (Str.ofString (toString (n : Int))) = dg n := by rw [cs_str, txt_nat]
  have hl : (Str.ofString (toString (n : Int))).length = (dg n).length := by rw [← cs_len, hc]
  generalize Str.ofString (toString (n : Int)) = x at *
  unfold Txt.zfill
  split
  · next h => rw [hc, show k - (dg n).length = 0 by omega]; rfl
  · next h =>
    have e0 : x.cps[0]? = (dg n).head? := by
      rw [← Array.getElem?_toList, show x.cps.toList = dg n from hc, List.head?_eq_getElem?]
    have hne := dg_ne n
    obtain ⟨c, r, hcr⟩ : ∃ c r, dg n = c :: r := by
      cases q : dg n with
      | nil => exact absurd q hne
      | cons c r => exact ⟨c, r, rfl⟩
    have hd := dg_dig n c (by rw [hcr]; exact List.mem_cons_self)
    have e1 : zfilled x ((k : Int).toNat - x.length) = Builtin.Str.padded x ((k : Int).toNat - x.length) 0 48 := by
      unfold zfilled
      rw [e0, hcr]
      show (match some c with | some 43 | some 45 => _ | _ => _) = _
      split
      · next z => cases z; omega
      · next z => cases z; omega
      · rfl
    rw [e1, hl]
    show (Array.replicate ((k : Int).toNat - (dg n).length) 48 ++ x.cps ++ Array.replicate 0 48).toList = _
    rw [Array.toList_append, Array.toList_append, Array.toList_replicate, Array.toList_replicate, show x.cps.toList = dg n from hc, List.replicate_zero, List.append_nil, Int.toNat_natCast]
def dtx (y m e : Nat) : List Nat := pad4 y ++ 45 :: (pad2 m ++ 45 :: pad2 e)
end My
namespace My
open PySem PySem.NumText PySem.StrLaws PySem.Builtin PySem.Builtin.Str
end My
namespace L2
open PySem PySem.Spec PyProof.Rows
end L2
namespace L2
open PySem PySem.Spec PyProof.Rows
end L2
namespace L2
open PySem PySem.Spec PyProof.Rows
section
variable {X : Cx} {pins : Pn} {σ : St} {H : Hp} {s : Shared} {h' : Heap}
theorem Inv.turnedL {t' : Nat} {fp : List Addr} (I : Inv X pins σ H s) (k : ∀ b o, b ∉ fp → s.heap.get? b = some o → h'.get? b = some o) (hf : ∀ b ∈ fp, FpOk X pins H b) : Inv X pins σ H { s with heap := h', toks := t' } := by
  have nit : ∀ b u, H b = some u → b ∉ fp := fun b u e z => by rw [(hf b z).1] at e; cases e
  refine I.step (g' := s.gens) (d' := s.drawn) (ch := fp) (fun b hb => ?_) (fun b o _ _ hc e _ => k b o hc e) (fun b o _ _ hc e _ => ⟨o.slots, k b o hc e⟩) (fun _ _ _ _ n => n)
    (fun b o hc e => ⟨o, k b o hc e⟩) (fun _ _ e => e) (fun _ _ _ e => e) (fun b ps e => ⟨#[], by rw [e]; simp⟩) (fun m hm => ?_) (fun b u e => ?_) I.bare
  · obtain ⟨_, f1, _, f3, f4, f5⟩ := hf b hb
    exact ⟨f3, f1, f4, f5⟩
  · obtain ⟨o, es, ep, ho, r⟩ := hm
    exact ⟨o, es, ep, k _ o (fun z => (hf _ z).2.1 rfl) ho, r⟩
  · refine (I.hok b u e).stay (fun c v hc q => k c v ?_ q) (fun _ q => q) fun _ _ q => q
    rcases hc with z | z
    · rw [z]; exact nit b u e
    · exact nit c _ z
end
section
variable {X : Cx}
end
section
variable {σ : St} {H : Hp} {g : TG} {tb : TS} {nx : St → Hp → Prop} {rt : VK} {K : Fg} {a : Addr} {xs : List V}
end
end L2
namespace L2
open PySem PySem.Spec PyProof.Rows
section
variable {κ : Type} [DecidableEq κ]
end
abbrev KT (H : Hp) : List (List Key × V) → List (List Key × Addr × Value) → Prop := Paired fun p q => p.1 = q.1 ∧ H q.2.1 = some (.tup (p.1.map kV)) ∧ RelV p.2 q.2.2
section
variable {P : Program} {w : World} {H : Hp} {h : Heap} {a : Addr}
end
section
variable {X : Cx} {pins : Pn} {σ : St} {H : Hp} {s : Shared} {a : Addr} {y v : V} {u r : Value} {o : Option V} {A : Around} {E : Value → Shared → Prop}
end
section
variable {X : Cx} {pins : Pn} {σ : St} {H : Hp} {s : Shared} {a : Addr} {kvs : List (Key × V)} {k : Key} {u : Value} {A : Around} {E : Value → Shared → Prop}
end
section
variable {X : Cx} {o i e value : Expr} {pos pos' tpos : Pos} {td ty tv : TE}
end
section
variable {X : Cx} {pos : Pos}
end
section
variable {X : Cx} {pins : Pn} {σ : St} {H : Hp} {s : Shared} {a : Addr} {y d : V} {u r : Value} {o : Option V} {A : Around} {E : Value → Shared → Prop}
end
section
variable {X : Cx} {o e f : Expr} {apos cpos : Pos} {td ty tx : TE}
end
section
variable {X : Cx} {pins : Pn} {σ : St} {H : Hp} {s : Shared} {a : Addr} {kvs : List (Key × V)} {A : Around} {E : Value → Shared → Prop}
end
section
variable {X : Cx} {pins : Pn} {σ : St} {H : Hp} {s : Shared} {a : Addr} {y : V} {u : Value} {A : Around} {E : Value → Shared → Prop}
end
end L2
namespace L2
open PySem PySem.Spec PyProof.Rows
section
variable {X : Cx}
end
section
variable {κ : Type} [DecidableEq κ]
end
end L2
namespace L2
open PySem PySem.Spec PyProof.Rows PySem.Builtin
section
variable {X : Cx}
end
theorem compOkG2_of {X : Cx} {t1 t2 : Str} {sc : Scope} {fr : List (Str × Nat)} {osc : Scope} {N : List Str} (ho : X.env.scope = osc) (hN : X.N = N) (h1 : compOkB osc N t1 sc fr = true) (h2 : compOkB osc N t2 sc fr = true) (hne : t1 ≠ t2) : CompOkG X [t1, t2] sc fr ∧ sc.names.lookup t1 = some .local ∧ sc.names.lookup t2 = some .local := by
  have o1 := compOk_of ho hN h1
  have o2 := compOk_of ho hN h2
  refine ⟨⟨o1.kind, o1.nocell, o1.locs, o1.fre, ?_, o1.vis⟩, o1.tgl, o2.tgl⟩
  obtain ⟨a1, a2⟩ := List.nodup_cons.mp o1.nd
  exact List.nodup_cons.mpr ⟨fun m => (List.mem_cons.mp m).elim hne a1, o2.nd⟩
theorem pe_lcP {X : Cx} {elt iter : Expr} {t1 t2 : Str} {x1 : _} {p1 p2 p3 pos : Pos} {sc : Scope} {fr : List (Str × Nat)} {wi : TI} {te : TE} (hc : X.calm = true) (ok : CompOkG X [t1, t2] sc fr ∧ sc.names.lookup t1 = some .local ∧ sc.names.lookup t2 = some .local)
    (hi : PI X (.Tuple [.Name t1 p1, .Name t2 p2] x1 p3) iter wi) (he : ∀ cl C s3 H3 fp, PE (X.blk ([t1, t2] ++ fr.map (·.1)) sc cl C s3 H3 fp) elt te) (hs : ∀ x, foldedSetIterable iter X.env x = pure x := by intro _; rfl) :
    PE X (.ListComp elt [⟨.Tuple [.Name t1 p1, .Name t2 p2] x1 p3, iter, [], 0⟩] sc pos) (tLCG 2 fr wi (gTup X.K 2 (gCons (gName 0) (gCons (gName 1) gNil))) tYes te) :=
  pe_lcG (tgs := [t1, t2]) hc ok.1 hi (fun _ _ _ _ _ => pg_tup hc (pgs_cons (pg_name ok.1.nd rfl (.inl (lookup_relabel_local ok.2.1)) (.inr (lookup_relabel_local ok.2.1))) (pgs_cons (pg_name ok.1.nd rfl (.inl (lookup_relabel_local ok.2.2)) (.inr (lookup_relabel_local ok.2.2))) pgs_nil))) (fun _ _ _ _ _ => pif_nil) he hs
end L2
namespace L2
open PySem PySem.Spec PyProof.Rows
end L2
namespace L2
open PySem PySem.Spec PyProof.Rows
section
open PySem.W PySem.Calls PySem.Builtin PySem.Builtin.ObjectAttr PySem.Builtin.Getset_descriptor
variable {prog : Program} {w : World} {A : Around} {E : Value → Shared → Prop} {s : Shared} {K : Frag} {a C : Addr} {oe : Obj}
end
end L2
namespace L2
open PySem PySem.Spec PyProof.Rows
section
variable {X : Cx} {pins : Pn} {σ : St} {H H' : Hp} {s s' : Shared}
end
section
variable {X : Cx} {pins : Pn} {σ : St} {H : Hp} {s s' : Shared} {E : XK} {ex : Value} {x n : Str} {T C : Addr} {np hpos : Pos} {b0 : Stmt} {suite : List Stmt} {ts : Addr → TS} {D : Ends} {j : Nat}
theorem ObjOk.thereIs {P : Program} {w : World} {H : Hp} {h : Heap} {a : Addr} {o : HO} (x : ObjOk P w H h a o) : ∃ ob, h.get? a = some ob := by
  cases o with
  | lst xs => obtain ⟨_, _, _, _, e⟩ := x; exact ⟨_, e⟩
  | tup xs => obtain ⟨_, _, _, o, e, _⟩ := x; exact ⟨_, e⟩
  | dK kvs => obtain ⟨_, _, _, _, o, _, _, e, _⟩ := x; exact ⟨_, e⟩
  | dT kvs => obtain ⟨_, _, _, _, o, _, _, e, _⟩ := x; exact ⟨_, e⟩
  | set S n => obtain ⟨o, _, _, _, e, _⟩ := x; exact ⟨_, e⟩
  | ins C dx fs => obtain ⟨_, _, _, e, _⟩ := x; exact ⟨_, e⟩
  | own y => obtain ⟨_, e⟩ := x; exact ⟨_, e⟩
  | xd fs => obtain ⟨_, ⟨_, _, _, e, _⟩, _⟩ := x; exact ⟨_, e⟩
  | rng lo hi => obtain ⟨_, _, _, e⟩ := x; exact ⟨_, e⟩
  | frz ob u => obtain ⟨e, _⟩ := x; exact ⟨_, e⟩
  | tbl ps => exact ⟨_, show h.get? a = some _ from x⟩
  | met f y => exact ⟨_, show h.get? a = some _ from x⟩
  | ext φ => obtain ⟨_, ⟨_, e⟩, _⟩ := x; exact ⟨_, e⟩
end
section
variable {X : Cx} {k : Nat} {f : Addr} {fd : FuncData} {ps : List Str} {sp : Sp} {dvs : List V} {ds : List Value} {fx x cx n : Str} {p cpos px apos np hpos pos : Pos} {e : Expr} {es : List Expr} {t : TA} {T C : Addr} {b0 : Stmt} {suite : List Stmt} {ts : Addr → TS} {i j : Nat}
end
end L2
namespace L2
open PySem PySem.Spec PyProof.Rows
section
variable {X : Cx} {pins : Pn} {σ : St} {H : Hp} {s : Shared}
end
section
variable {X : Cx} {C : Addr} {b : Bool}
end
section
variable {P : Program} {w : World} {K : Fg} {mg : Str → Option Value} {base : Heap}
end
section
variable {X : Cx} {k : Nat} {f : Addr} {fd : FuncData} {ps : List Str} {sp : Sp} {x : Str} {p pos : Pos} {e : Expr} {es : List Expr} {t : TA}
end
section
variable {X : Cx} {pins : Pn} {σ : St} {H : Hp} {s s' : Shared} {E : XK} {ex : Value} {x n : Str} {T C : Addr} {np hpos : Pos} {b0 : Stmt} {suite : List Stmt} {ts : Addr → TS} {D : Ends} {j : Nat}
end
section
variable {X : Cx} {k : Nat} {f : Addr} {fd : FuncData} {ps : List Str} {sp : Sp} {dvs : List V} {ds : List Value} {fx x cx n : Str} {p cpos px apos np hpos pos : Pos} {e : Expr} {es : List Expr} {t : TA} {T C : Addr} {b0 : Stmt} {suite : List Stmt} {ts : Addr → TS} {i j : Nat}
end
end L2
namespace L2
open PySem PySem.Spec PyProof.Rows
end L2
namespace L2
open PySem PySem.Spec PyProof.Rows
section
variable {K : Fg}
end
end L2
namespace L2
open PySem PySem.Spec PyProof.Rows
def QIt (q : Bool) (h : Heap) (n a : Addr) (k : Nat) : Prop := ∃ o, h.get? n = some o ∧ o.cls = .type (if q = true then "tuple_iterator" else "list_iterator") ∧ o.data = .fields #[.ref a, .int k 0]
def QSq (q : Bool) (h : Heap) (a : Addr) (us : Array Value) : Prop := ∃ o, h.get? a = some o ∧ o.cls = .type (if q = true then "tuple" else "list") ∧ ∃ n, o.data = .seq us n
theorem QIt.at {q : Bool} {h h' : Heap} {n a : Addr} {k : Nat} (x : QIt q h n a k) (e : ∀ o, h.get? n = some o → h'.get? n = some o) : QIt q h' n a k := by
  obtain ⟨o, ho, r⟩ := x; exact ⟨o, e o ho, r⟩
theorem QSq.at {q : Bool} {h h' : Heap} {a : Addr} {us : Array Value} (x : QSq q h a us) (e : ∀ o, h.get? a = some o → h'.get? a = some o) : QSq q h' a us := by
  obtain ⟨o, ho, r⟩ := x; exact ⟨o, e o ho, r⟩
section
variable {P : Program} {w : World} {A : Around} {E : Value → Shared → Prop} {s : Shared} {q : Bool} {n a : Addr} {k : Nat} {us : Array Value} {u : Value}
theorem q_next {Q : Value → Shared → Prop} (hi : QIt q s.heap n a k) (hs : QSq q s.heap a us) (hu : us[k]? = some u) (go : ∀ h', QIt q h' n a (k + 1) → Heap.SameBut n s.heap h' → Q u { s with heap := h' }) : wpAny (model P w) A (Builtin.SmallTypes.nextOf (.ref n)) Q E s := by
  cases q with
  | false => exact wpAny_nextOf_list_item hi hs hu go
  | true =>
    have ty : s.heap.IsTupleIter n a k := hi
    obtain ⟨oi, e1, e2, e3⟩ := hi
    obtain ⟨os, e4, _, m, e5⟩ := hs
    unfold Builtin.SmallTypes.nextOf
    refine wpAny_bind (wpAny_callSpecial?_slot (name := Str.ofString "__next__") ty.typeIs F.slot_tuple_iterator_next (wpAny_call_entry F.slot_tuple_iterator_next ty.typeIs F.entry_tuple_iterator_next ?_ (F.args_tuple_iterator_next_1 _)))
    refine wpAny_bind (m := field (.ref n) 0) (wpAny_field e1 e3 (x := .ref a) rfl ?_)
    show wpAny _ _ (ite ((Value.ref a == Value.none) = true) _ _) _ _ s; rw [if_neg (show ¬ (Value.ref a == Value.none) = true from nofun)]
    refine wpAny_bind (m := field (.ref n) 1) (wpAny_field e1 e3 (x := .int k 0) rfl (wpAny_bind (m := seqItems? (.ref a)) (wpAny_seqItems e4 e5 ?_)))
    simp only [hu, Int.toNat_natCast]
    refine wpAny_bind (wpAny_setField e1 e3 (by simp) (wpAny_pure ⟨u, rfl, wpAny_pure (go _ ⟨_, Heap.get?_update_self _ e1 (Obj.isFreed_of_fields (Obj.data_mapFields e3 _)), (Obj.cls_mapFields ..).trans e2, ?_⟩ (Heap.SameBut.update ..))⟩))
    rw [Obj.data_mapFields e3]; simp [rawInt]
theorem q_stop {Q : Value → Shared → Prop} (hh : A.handled = none) (hi : QIt q s.heap n a k) (hs : QSq q s.heap a us) (hu : us[k]? = none) (go : ∀ h' e, Heap.ExtBut n s.heap h' → (∃ o, h'.get? e = some o ∧ o.cls = .type "StopIteration") → E (.ref e) { s with heap := h' }) : wpAny (model P w) A (Builtin.SmallTypes.nextOf (.ref n)) Q E s := by
  cases q with
  | false => exact wpAny_nextOf_list_end hh hi hs hu go
  | true =>
    have ty : s.heap.IsTupleIter n a k := hi
    obtain ⟨oi, e1, e2, e3⟩ := hi
    obtain ⟨os, e4, _, m, e5⟩ := hs
    unfold Builtin.SmallTypes.nextOf
    refine wpAny_bind (wpAny_callSpecial?_slot (name := Str.ofString "__next__") ty.typeIs F.slot_tuple_iterator_next (wpAny_call_entry F.slot_tuple_iterator_next ty.typeIs F.entry_tuple_iterator_next ?_ (F.args_tuple_iterator_next_1 _)))
    refine wpAny_bind (m := field (.ref n) 0) (wpAny_field e1 e3 (x := .ref a) rfl ?_)
    show wpAny _ _ (ite ((Value.ref a == Value.none) = true) _ _) _ _ s; rw [if_neg (show ¬ (Value.ref a == Value.none) = true from nofun)]
    refine wpAny_bind (m := field (.ref n) 1) (wpAny_field e1 e3 (x := .int k 0) rfl (wpAny_bind (m := seqItems? (.ref a)) (wpAny_seqItems e4 e5 ?_)))
    simp only [hu, Int.toNat_natCast]
    refine wpAny_bind (wpAny_rule (wpAny_bind (wpAny_setField e1 e3 (by simp) (wpAny_bind (m := newExc (.type "StopIteration") []) ?_))))
    simp only [newTuple, newExc]
    refine wpAny_bind (wpAny_newObj_type (wpAny_bind (m := firstArgMember _ _) (wpAny_of_eq (a := Value.none) (by first | rfl | (simp only [firstArgMember]; rfl)) (wpAny_newObj_type ?_ (by size_fits)))) (by size_fits))
    simp only [raiseNew]
    refine wpAny_bind (wpAny_handled ?_)
    first | rw [hh] | rw [show A.in1.handled = none from hh]
    exact wpAny_bind (wpAny_pure (wpAny_throw (go _ _ (((Heap.SameBut.update ..).extBut.push _).push _) ⟨_, Heap.get?_push_size _ rfl, rfl⟩)))
end
section
variable {P : Program} {w : World} {A : Around} {E : Value → Shared → Prop} {s : Shared} {q1 q2 : Bool} {z ti to n1 n2 a1 a2 : Addr} {k : Nat} {us vs : Array Value} {u v c d : Value}
structure ZAp (z ti to n1 n2 a1 a2 : Addr) : Prop where
  nd : [z, ti, to, n1, n2].Nodup
  x1 : a1 ∉ [z, to, n1, n2]
  x2 : a2 ∉ [z, to, n1, n2]
theorem z_item {Q : Value → Shared → Prop} (D : ZAp z ti to n1 n2 a1 a2) (hz : IsZip s.heap z ti to .none) (hi : IsPair s.heap ti (.ref n1) (.ref n2)) (ho : IsPair s.heap to c d)
    (h1 : QIt q1 s.heap n1 a1 k) (h2 : QIt q2 s.heap n2 a2 k) (l1 : QSq q1 s.heap a1 us) (l2 : QSq q2 s.heap a2 vs) (hu : us[k]? = some u) (hv : vs[k]? = some v)
    (go : ∀ h', IsZip h' z ti to (rawInt s.heap.objs.size) → IsPair h' to u v → QIt q1 h' n1 a1 (k + 1) → QIt q2 h' n2 a2 (k + 1) → IsPair h' s.heap.objs.size u v → h'.objs.size = s.heap.objs.size + 1 →
      (∀ b o, b ∉ [z, to, n1, n2] → s.heap.get? b = some o → h'.get? b = some o) → Q (.ref s.heap.objs.size) { s with heap := h' }) :
    wpAny (model P w) A (Builtin.«zip.__next__» ⟨[.ref z], []⟩) (fun fin s' => ∃ r, fin = .done (.ret r) ∧ Q r s') E s := by
  obtain ⟨nd, x1, x2⟩ := D
  simp only [List.nodup_cons, List.mem_cons, List.not_mem_nil, or_false, not_or, List.nodup_nil, not_false_eq_true, and_true] at nd x1 x2
  obtain ⟨⟨zti, zto, zn1, zn2⟩, ⟨tito, tin1, tin2⟩, ⟨ton1, ton2⟩, n12⟩ := nd
  refine wpAny_bind (m := field (.ref z) 2) (wpAny_field hz rfl (x := .bool false) rfl (wpAny_bind (m := field (.ref z) 3) (wpAny_field hz rfl (x := .ref ti) rfl (wpAny_bind (wpAny_seqItems hi rfl ?_)))))
  refine wpAny_bind (m := Builtin.SmallTypes.ownedTupleIsFree (.ref z)) ?_
  unfold Builtin.SmallTypes.ownedTupleIsFree
  refine wpAny_bind (wpAny_field hz rfl (x := .none) rfl (wpAny_pure ?_))
  simp only [if_true]
  refine wpAny_bind (wpAny_rule (wpAny_bind (wpAny_field hz rfl (x := .ref to) rfl (wpAny_bind (wpAny_setField_rec hz (by simp) fun g1 z1 s1 => wpAny_bind ?_)))))
  have z1 : IsZip g1 z ti to .ellipsis := z1
  simp only [List.forIn_cons, List.forIn_nil, List.zipIdx_cons, List.zipIdx_nil]
  refine wpAny_bind (wpAny_bind (wpAny_onRaise (wpAny_bind (m := Builtin.SmallTypes.nextOf (.ref n1)) (q_next (h1.at fun o e => s1.extBut _ _ (Ne.symm zn1) e) (l1.at fun o e => s1.extBut _ _ x1.1 e) hu fun g2 i2 s2 => wpAny_pure ?_))))
  have t2 : IsPair g2 to c d := s2.extBut _ _ ton1 (s1.extBut _ _ (Ne.symm zto) ho)
  refine wpAny_bind (wpAny_seqItems t2 rfl (wpAny_bind (wpAny_updateSeq_pair t2 fun g3 t3 s3 => wpAny_bind (wpAny_letGo (wpAny_pure ?_)))))
  have t3 : IsPair g3 to u d := t3
  refine wpAny_bind (wpAny_bind (wpAny_onRaise (wpAny_bind (m := Builtin.SmallTypes.nextOf (.ref n2)) (q_next (h2.at fun o e => s3.extBut _ _ (Ne.symm ton2) (s2.extBut _ _ (Ne.symm n12) (s1.extBut _ _ (Ne.symm zn2) e))) (l2.at fun o e => s3.extBut _ _ x2.2.1 (s2.extBut _ _ x2.2.2.1 (s1.extBut _ _ x2.1 e))) hv fun g4 i4 s4 => wpAny_pure ?_))))
  have t4 : IsPair g4 to u d := s4.extBut _ _ ton2 t3
  refine wpAny_bind (wpAny_seqItems t4 rfl (wpAny_bind (wpAny_updateSeq_pair t4 fun g5 t5 s5 => wpAny_bind (wpAny_letGo (wpAny_pure (wpAny_pure ?_))))))
  have t5 : IsPair g5 to u v := t5
  refine wpAny_bind (wpAny_seqItems t5 rfl (wpAny_bind (wpAny_newTuple ?_)))
  have sz : g5.objs.size = s.heap.objs.size := by rw [s5.1, s4.1, s3.1, s2.1, s1.1]
  have z5 : IsZip g5 z ti to .ellipsis := s5.extBut _ _ zto (s4.extBut _ _ zn2 (s3.extBut _ _ zto (s2.extBut _ _ zn1 z1)))
  have k5 : ∀ b o, b ∉ [z, to, n1, n2] → s.heap.get? b = some o → g5.get? b = some o := fun b o hb e => by
    simp only [List.mem_cons, List.not_mem_nil, or_false, not_or] at hb
    exact s5.extBut _ _ hb.2.1 (s4.extBut _ _ hb.2.2.2 (s3.extBut _ _ hb.2.1 (s2.extBut _ _ hb.2.2.1 (s1.extBut _ _ hb.1 e))))
  have i1 : QIt q1 g5 n1 a1 (k + 1) := i2.at fun o e => s5.extBut _ _ (Ne.symm ton1) (s4.extBut _ _ n12 (s3.extBut _ _ (Ne.symm ton1) e))
  have i2' : QIt q2 g5 n2 a2 (k + 1) := i4.at fun o e => s5.extBut _ _ (Ne.symm ton2) e
  have zlt : z < g5.objs.size := Heap.lt_size z5
  refine wpAny_bind (m := Builtin.SmallTypes.ownedTupleHandOut (.ref z) (.ref g5.objs.size)) ?_
  unfold Builtin.SmallTypes.ownedTupleHandOut
  refine wpAny_bind (wpAny_setField_rec (show IsZip (g5.push { cls := .type "tuple", data := .seq #[u, v] }) z ti to .ellipsis from Heap.get?_push_of_some _ z5) (by simp) fun g7 z7 s7 => ?_)
  have z7 : IsZip g7 z ti to (rawInt g5.objs.size) := z7
  refine wpAny_setField_rec z7 (by simp) fun g8 z8 s8 => wpAny_pure ⟨_, rfl, ?_⟩
  have z8 : IsZip g8 z ti to (rawInt g5.objs.size) := z8
  have up : ∀ b o, b ≠ z → g5.get? b = some o → g8.get? b = some o := fun b o hb e => s8.extBut _ _ hb (s7.extBut _ _ hb (Heap.get?_push_of_some _ e))
  have t8 : IsPair g8 g5.objs.size u v := s8.extBut _ _ (Nat.ne_of_gt zlt) (s7.extBut _ _ (Nat.ne_of_gt zlt) (Heap.get?_push_size _ rfl))
  have sz8 : g8.objs.size = g5.objs.size + 1 := by rw [s8.1, s7.1, Heap.size_push]
  show Q (.ref g5.objs.size) _
  rw [sz] at z8 t8 sz8 ⊢
  exact go g8 z8 (up _ _ (Ne.symm zto) t5) (i1.at fun o e => up _ o (Ne.symm zn1) e) (i2'.at fun o e => up _ o (Ne.symm zn2) e) t8 sz8 fun b o hb e => up b o (fun x => hb (by simp [x])) (k5 b o hb e)
theorem z_last {Q : PySem.Fin → Shared → Prop} (hh : A.handled = none) (D : ZAp z ti to n1 n2 a1 a2) (hz : IsZip s.heap z ti to .none) (hi : IsPair s.heap ti (.ref n1) (.ref n2)) (ho : IsPair s.heap to c d)
    (h1 : QIt q1 s.heap n1 a1 k) (h2 : QIt q2 s.heap n2 a2 k) (l1 : QSq q1 s.heap a1 us) (l2 : QSq q2 s.heap a2 vs) (hend : us[k]? = none ∨ vs[k]? = none)
    (go : ∀ h' e, (∀ b o, b ∉ [z, to, n1, n2] → s.heap.get? b = some o → h'.get? b = some o) → (∃ o, h'.get? e = some o ∧ o.cls = .type "StopIteration") → E (.ref e) { s with heap := h' }) :
    wpAny (model P w) A (Builtin.«zip.__next__» ⟨[.ref z], []⟩) Q E s := by
  obtain ⟨nd, x1, x2⟩ := D
  simp only [List.nodup_cons, List.mem_cons, List.not_mem_nil, or_false, not_or, List.nodup_nil, not_false_eq_true, and_true] at nd x1 x2
  obtain ⟨⟨zti, zto, zn1, zn2⟩, ⟨tito, tin1, tin2⟩, ⟨ton1, ton2⟩, n12⟩ := nd
  refine wpAny_bind (m := field (.ref z) 2) (wpAny_field hz rfl (x := .bool false) rfl (wpAny_bind (m := field (.ref z) 3) (wpAny_field hz rfl (x := .ref ti) rfl (wpAny_bind (wpAny_seqItems hi rfl ?_)))))
  refine wpAny_bind (m := Builtin.SmallTypes.ownedTupleIsFree (.ref z)) ?_
  unfold Builtin.SmallTypes.ownedTupleIsFree
  refine wpAny_bind (wpAny_field hz rfl (x := .none) rfl (wpAny_pure ?_))
  simp only [if_true]
  refine wpAny_bind (wpAny_rule (wpAny_bind (wpAny_field hz rfl (x := .ref to) rfl (wpAny_bind (wpAny_setField_rec hz (by simp) fun g1 z1 s1 => wpAny_bind ?_)))))
  have z1 : IsZip g1 z ti to .ellipsis := z1
  simp only [List.forIn_cons, List.forIn_nil, List.zipIdx_cons, List.zipIdx_nil]
  cases hu : us[k]? with
  | none =>
    refine wpAny_bind (wpAny_bind (wpAny_onRaise (wpAny_bind (m := Builtin.SmallTypes.nextOf (.ref n1)) (q_stop hh (h1.at fun o e => s1.extBut _ _ (Ne.symm zn1) e) (l1.at fun o e => s1.extBut _ _ x1.1 e) hu fun g2 e s2 he => ?_))))
    obtain ⟨oe, hoe, hce⟩ := he
    have z2 : IsZip g2 z ti to .ellipsis := s2 _ _ zn1 z1
    have ez : e ≠ z := fun x => by rw [x, z2] at hoe; cases hoe; simp at hce
    refine wpAny_setField_rec z2 (by simp) fun g3 _ s3 => go g3 e (fun b o hb x => ?_) ⟨oe, s3.extBut _ _ ez hoe, hce⟩
    simp only [List.mem_cons, List.not_mem_nil, or_false, not_or] at hb
    exact s3.extBut _ _ hb.1 (s2 _ _ hb.2.2.1 (s1.extBut _ _ hb.1 x))
  | some u =>
    have hv : vs[k]? = none := by
      rcases hend with h | h
      · rw [hu] at h; cases h
      · exact h
    refine wpAny_bind (wpAny_bind (wpAny_onRaise (wpAny_bind (m := Builtin.SmallTypes.nextOf (.ref n1)) (q_next (h1.at fun o e => s1.extBut _ _ (Ne.symm zn1) e) (l1.at fun o e => s1.extBut _ _ x1.1 e) hu fun g2 i2 s2 => wpAny_pure ?_))))
    have t2 : IsPair g2 to c d := s2.extBut _ _ ton1 (s1.extBut _ _ (Ne.symm zto) ho)
    refine wpAny_bind (wpAny_seqItems t2 rfl (wpAny_bind (wpAny_updateSeq_pair t2 fun g3 t3 s3 => wpAny_bind (wpAny_letGo (wpAny_pure ?_)))))
    refine wpAny_bind (wpAny_bind (wpAny_onRaise (wpAny_bind (m := Builtin.SmallTypes.nextOf (.ref n2)) (q_stop hh (h2.at fun o e => s3.extBut _ _ (Ne.symm ton2) (s2.extBut _ _ (Ne.symm n12) (s1.extBut _ _ (Ne.symm zn2) e))) (l2.at fun o e => s3.extBut _ _ x2.2.1 (s2.extBut _ _ x2.2.2.1 (s1.extBut _ _ x2.1 e))) hv fun g4 e s4 he => ?_))))
    obtain ⟨oe, hoe, hce⟩ := he
    have z4 : IsZip g4 z ti to .ellipsis := s4 _ _ zn2 (s3.extBut _ _ zto (s2.extBut _ _ zn1 z1))
    have ez : e ≠ z := fun x => by rw [x, z4] at hoe; cases hoe; simp at hce
    refine wpAny_setField_rec z4 (by simp) fun g5 _ s5 => go g5 e (fun b o hb x => ?_) ⟨oe, s5.extBut _ _ ez hoe, hce⟩
    simp only [List.mem_cons, List.not_mem_nil, or_false, not_or] at hb
    exact s5.extBut _ _ hb.1 (s4 _ _ hb.2.2.2 (s3.extBut _ _ hb.2.1 (s2.extBut _ _ hb.2.2.1 (s1.extBut _ _ hb.1 x))))
theorem pn_item {Q : Option Value → Shared → Prop} (D : ZAp z ti to n1 n2 a1 a2) (hz : IsZip s.heap z ti to .none) (hi : IsPair s.heap ti (.ref n1) (.ref n2)) (ho : IsPair s.heap to c d)
    (h1 : QIt q1 s.heap n1 a1 k) (h2 : QIt q2 s.heap n2 a2 k) (l1 : QSq q1 s.heap a1 us) (l2 : QSq q2 s.heap a2 vs) (hu : us[k]? = some u) (hv : vs[k]? = some v)
    (go : ∀ h', IsZip h' z ti to (rawInt s.heap.objs.size) → IsPair h' to u v → QIt q1 h' n1 a1 (k + 1) → QIt q2 h' n2 a2 (k + 1) → IsPair h' s.heap.objs.size u v → h'.objs.size = s.heap.objs.size + 1 →
      (∀ b o, b ∉ [z, to, n1, n2] → s.heap.get? b = some o → h'.get? b = some o) → Q (some (.ref s.heap.objs.size)) { s with heap := h' }) : wpAny (model P w) A (pyNext (.ref z)) Q E s := by
  have ty : s.TypeIs (.ref z) "zip" := ⟨_, hz, rfl⟩
  unfold pyNext
  exact wpAny_bind (wpAny_attempt (wpAny_callSpecial?_slot (name := Str.ofString "__next__") ty F.slot_zip_next (wpAny_call_entry F.slot_zip_next ty F.entry_zip_next (z_item D hz hi ho h1 h2 l1 l2 hu hv fun h' b1 b2 b3 b4 b5 b6 b7 => wpAny_pure (go h' b1 b2 b3 b4 b5 b6 b7)) (F.args_zip_next_1 _))))
theorem pn_last {Q : Option Value → Shared → Prop} (hh : A.handled = none) (D : ZAp z ti to n1 n2 a1 a2) (hz : IsZip s.heap z ti to .none) (hi : IsPair s.heap ti (.ref n1) (.ref n2)) (ho : IsPair s.heap to c d)
    (h1 : QIt q1 s.heap n1 a1 k) (h2 : QIt q2 s.heap n2 a2 k) (l1 : QSq q1 s.heap a1 us) (l2 : QSq q2 s.heap a2 vs) (hend : us[k]? = none ∨ vs[k]? = none)
    (go : ∀ h', (∀ b o, b ∉ [z, to, n1, n2] → s.heap.get? b = some o → h'.get? b = some o) → Q none { s with heap := h' }) : wpAny (model P w) A (pyNext (.ref z)) Q E s := by
  have ty : s.TypeIs (.ref z) "zip" := ⟨_, hz, rfl⟩
  unfold pyNext
  refine wpAny_bind (wpAny_attempt (wpAny_callSpecial?_slot (name := Str.ofString "__next__") ty F.slot_zip_next (wpAny_call_entry F.slot_zip_next ty F.entry_zip_next (z_last hh D hz hi ho h1 h2 l1 l2 hend fun h' e hk he => ?_) (F.args_zip_next_1 _))))
  obtain ⟨o, e1, e2⟩ := he
  exact wpAny_bind (wpAny_isInstance (T := "StopIteration") (b := true) ⟨o, e1, e2⟩ isSubtype_stop (wpAny_pure (go _ hk)))
end
abbrev itO (q : Bool) (a : Addr) : Obj := { cls := .type (if q = true then "tuple_iterator" else "list_iterator"), data := .fields #[.ref a, .int 0 0] }
theorem q_iter {P : Program} {w : World} {A : Around} {E : Value → Shared → Prop} {s : Shared} {q : Bool} {a : Addr} {us : Array Value} {Q : Value → Shared → Prop} (hs : QSq q s.heap a us) (go : Q (.ref s.heap.objs.size) { s with heap := s.heap.push (itO q a) }) : wpAny (model P w) A (pyIter (.ref a)) Q E s := by
  cases q with
  | false => exact wpAny_pyIter_list hs go
  | true => exact wpAny_pyIter_tuple hs go
abbrev zh1 (h : Heap) (q1 : Bool) (a1 : Addr) : Heap := h.push (itO q1 a1)
abbrev zh2 (h : Heap) (q1 q2 : Bool) (a1 a2 : Addr) : Heap := (zh1 h q1 a1).push (itO q2 a2)
abbrev zh3 (h : Heap) (q1 q2 : Bool) (a1 a2 : Addr) : Heap := (zh2 h q1 q2 a1 a2).push { cls := .type "tuple", data := .seq #[.ref h.objs.size, .ref (zh1 h q1 a1).objs.size] }
abbrev zh4 (h : Heap) (q1 q2 : Bool) (a1 a2 : Addr) : Heap := (zh3 h q1 q2 a1 a2).push { cls := .type "tuple", data := .seq #[.none, .none] }
abbrev zh5 (h : Heap) (q1 q2 : Bool) (a1 a2 : Addr) : Heap := (zh4 h q1 q2 a1 a2).push { cls := .type "zip", data := .fields #[.none, .bool false, .bool false, .ref (zh2 h q1 q2 a1 a2).objs.size, .ref (zh3 h q1 q2 a1 a2).objs.size] }
theorem z_made (q1 q2 : Bool) (a1 a2 : Addr) (us vs : Array Value) : Meets (Builtin.«zip.__new__» ⟨[.type "zip", .ref a1, .ref a2], []⟩) (fun _ R s => QSq q1 s.heap a1 us ∧ QSq q2 s.heap a2 vs ∧ R (.ok (.ret (.ref (zh4 s.heap q1 q2 a1 a2).objs.size))) { s with heap := zh5 s.heap q1 q2 a1 a2 }) :=
  .of_wp fun prog w A R s h => by
    obtain ⟨hp, g, d, tk, os⟩ := s
    obtain ⟨l1, l2, h⟩ := h
    have hsub := sub_zip
    have L1 : QSq q1 (Shared.heap ⟨hp, g, d, tk, os⟩) a1 us := l1
    have L2 : QSq q2 (Shared.heap ⟨hp.push (itO q1 a1), g, d, tk, os⟩) a2 vs := l2.at fun o e => Heap.get?_push_of_some _ e
    wp_walk using q_iter L1, q_iter L2
    exact ⟨_, rfl, h⟩
theorem z_call {P : Program} {w : World} {A : Around} {E : Value → Shared → Prop} {s : Shared} {q1 q2 : Bool} {a1 a2 : Addr} {us vs : Array Value} {Q : Value → Shared → Prop} (l1 : QSq q1 s.heap a1 us) (l2 : QSq q2 s.heap a2 vs)
    (go : ∀ h', IsZip h' (s.heap.objs.size + 4) (s.heap.objs.size + 2) (s.heap.objs.size + 3) .none → IsPair h' (s.heap.objs.size + 2) (.ref s.heap.objs.size) (.ref (s.heap.objs.size + 1)) → IsPair h' (s.heap.objs.size + 3) .none .none →
      QIt q1 h' s.heap.objs.size a1 0 → QIt q2 h' (s.heap.objs.size + 1) a2 0 → (∀ b o, s.heap.get? b = some o → h'.get? b = some o) → Q (.ref (s.heap.objs.size + 4)) { s with heap := h' }) : wpAny (model P w) A (call (.type "zip") [.ref a1, .ref a2]) Q E s := by
  refine callType_new F.called_zip (by decide) (F.typeCall_zip_2 _ _) (F.newCall_zip_2 _ _) (fun obj => F.args_object_init_3 obj _ _) F.entry_zip_new (z_made q1 q2 a1 a2 us vs) ⟨l1, l2, ?_⟩
  have y1 : (zh1 s.heap q1 a1).objs.size = s.heap.objs.size + 1 := Heap.size_push ..
  have y2 : (zh2 s.heap q1 q2 a1 a2).objs.size = s.heap.objs.size + 2 := by rw [Heap.size_push, y1]
  have y3 : (zh3 s.heap q1 q2 a1 a2).objs.size = s.heap.objs.size + 3 := by rw [Heap.size_push, y2]
  have y4 : (zh4 s.heap q1 q2 a1 a2).objs.size = s.heap.objs.size + 4 := by rw [Heap.size_push, y3]
  have p5 : (zh5 s.heap q1 q2 a1 a2).get? (zh4 s.heap q1 q2 a1 a2).objs.size = some _ := Heap.get?_push_size _ rfl
  have p4 : (zh5 s.heap q1 q2 a1 a2).get? (zh3 s.heap q1 q2 a1 a2).objs.size = some _ := Heap.get?_push_of_some _ (Heap.get?_push_size _ rfl)
  have p3 : (zh5 s.heap q1 q2 a1 a2).get? (zh2 s.heap q1 q2 a1 a2).objs.size = some _ := Heap.get?_push_of_some _ (Heap.get?_push_of_some _ (Heap.get?_push_size _ rfl))
  have p2 : (zh5 s.heap q1 q2 a1 a2).get? (zh1 s.heap q1 a1).objs.size = some _ := Heap.get?_push_of_some _ (Heap.get?_push_of_some _ (Heap.get?_push_of_some _ (Heap.get?_push_size _ rfl)))
  have p1 : (zh5 s.heap q1 q2 a1 a2).get? s.heap.objs.size = some _ := Heap.get?_push_of_some _ (Heap.get?_push_of_some _ (Heap.get?_push_of_some _ (Heap.get?_push_of_some _ (Heap.get?_push_size _ rfl))))
  show _ ∧ _
  rw [y2, y3, y4] at p5
  rw [y1, y2] at p3
  rw [y3] at p4
  rw [y1] at p2
  rw [y4]
  exact ⟨⟨_, p5, rfl⟩, go _ p5 p3 p4 ⟨_, p1, rfl, rfl⟩ ⟨_, p2, rfl, rfl⟩ fun b o x => Heap.get?_push_of_some _ (Heap.get?_push_of_some _ (Heap.get?_push_of_some _ (Heap.get?_push_of_some _ (Heap.get?_push_of_some _ x))))⟩
end L2
namespace L2
open PySem PySem.Spec PyProof.Rows
def SqB (q : Bool) (K : Fg) (H : Hp) (a : Addr) (xs : List V) : Prop := if q = true then SqT K H a xs else SqL K H a xs
section
variable {X : Cx} {pins : Pn} {σ : St} {H : Hp} {s : Shared} {q : Bool} {a : Addr} {xs ys : List V}
theorem Inv.sqB (I : Inv X pins σ H s) (h : SqB q X.K H a xs) : ∃ its : List Value, Vals xs its ∧ QSq q s.heap a its.toArray := by
  cases q with
  | false =>
    obtain ⟨its, r, p, _⟩ := I.list h
    exact ⟨its, r, p.isList⟩
  | true =>
    obtain ⟨its, r, p, _⟩ := I.tuple h
    exact ⟨its, r, show s.heap.IsTuple a its.toArray from p⟩
theorem Inv.sqB_inj (I : Inv X pins σ H s) (h : SqB q X.K H a xs) (g : SqB q X.K H a ys) : xs = ys := by
  cases q with
  | false => exact I.list_inj h g
  | true => exact I.tuple_inj h g
end
def Itz (K : Fg) (q1 q2 : Bool) (a1 a2 : Addr) : It :=
  ⟨fun i H => ∃ xs ys x y, SqB q1 K H a1 xs ∧ SqB q2 K H a2 ys ∧ xs[i]? = some x ∧ ys[i]? = some y,
   fun i H v H' => ∃ p x y, v = .ref p ∧ H p = none ∧ (∀ xs, SqB q1 K H a1 xs → xs[i]? = some x) ∧ (∀ ys, SqB q2 K H a2 ys → ys[i]? = some y) ∧ H' = upd H p (.tup [x, y]),
   fun i H => ∃ xs ys, SqB q1 K H a1 xs ∧ SqB q2 K H a2 ys ∧ (xs.length ≤ i ∨ ys.length ≤ i)⟩
theorem turn_zip {P : Program} {w : World} {K : Fg} {elts : List Expr} {x1 : _} {pos : Pos} {q1 q2 : Bool} {a1 a2 z ti to n1 n2 : Addr} (D : ZAp z ti to n1 n2 a1 a2) :
    Turn P w K (.Tuple elts x1 pos) (Itz K q1 q2 a1 a2) [z, ti, to, n1, n2] z (fun i h => IsZip h z ti to .none ∧ IsPair h ti (.ref n1) (.ref n2) ∧ (∃ c d, IsPair h to c d) ∧ QIt q1 h n1 a1 i ∧ QIt q2 h n2 a2 i) where
  mem := by simp
  obj := fun i h st b hb => by
    obtain ⟨hz, hi, ⟨c, d, ho⟩, ⟨o1, e1, c1, d1⟩, ⟨o2, e2, c2, d2⟩⟩ := st
    have hb' : b = z ∨ b = ti ∨ b = to ∨ b = n1 ∨ b = n2 := by simpa using hb
    rcases hb' with rfl | rfl | rfl | rfl | rfl
    · exact ⟨_, hz, fun v y => by cases y⟩
    · exact ⟨_, hi, fun v y => by cases y⟩
    · exact ⟨_, ho, fun v y => by cases y⟩
    · exact ⟨o1, e1, fun v y => by rw [d1] at y; cases y⟩
    · exact ⟨o2, e2, fun v y => by rw [d2] at y; cases y⟩
  keep := fun i h h' st k => by
    obtain ⟨hz, hi, ⟨c, d, ho⟩, h1, h2⟩ := st
    exact ⟨k z (by simp) _ hz, k ti (by simp) _ hi, ⟨c, d, k to (by simp) _ ho⟩, h1.at fun o e => k n1 (by simp) o e, h2.at fun o e => k n2 (by simp) o e⟩
  item := by
    intro X hP hw hK hc i pins s σ H E I hf st hg
    subst hP hw hK
    obtain ⟨xs, ys, x, y, hq1, hq2, hx, hy⟩ := hg
    obtain ⟨hz, hi, ⟨c, d, ho⟩, h1, h2⟩ := st
    obtain ⟨it1, r1, p1⟩ := I.sqB hq1
    obtain ⟨it2, r2, p2⟩ := I.sqB hq2
    obtain ⟨u, hu, ru⟩ := r1.get hx
    obtain ⟨v, hv, rv⟩ := r2.get hy
    have fpl : ∀ b ∈ [z, ti, to, n1, n2], b < s.heap.objs.size := fun b hb => by
      obtain ⟨o1, e1, _⟩ := id h1
      obtain ⟨o2, e2, _⟩ := id h2
      have hb' : b = z ∨ b = ti ∨ b = to ∨ b = n1 ∨ b = n2 := by simpa using hb
      rcases hb' with rfl | rfl | rfl | rfl | rfl
      · exact Heap.lt_size hz
      · exact Heap.lt_size hi
      · exact Heap.lt_size ho
      · exact Heap.lt_size e1
      · exact Heap.lt_size e2
    refine pn_item D hz hi ho h1 h2 p1 p2 (u := u) (v := v) (by simpa using hu) (by simpa using hv) fun g z1 o1 i1 i2 t1 sz kk => ?_
    refine ⟨.ref s.heap.objs.size, rfl, wpAny_letOwnedTupleGo_zip z1 fun g2 z2 sb => ?_⟩
    have sb2 : ∀ b, b ≠ z → g2.get? b = g.get? b := sb.2
    have hfr : H s.heap.objs.size = none := I.hok.fresh (Nat.le_refl _)
    have I1 : Inv X pins σ (upd H s.heap.objs.size (.tup [x, y])) { s with heap := s.heap.push { cls := .type "tuple", data := .seq #[u, v] } } :=
      I.laid (t' := s.toks) (fun b o e => Heap.get?_push_of_some _ e) (Nat.le_refl _) ⟨by show 2 ≤ sizeLine; decide, [u, v], .cons ru (.cons rv .nil), _, Heap.get?_push_size _ rfl, rfl, _, rfl⟩
    have hf2 : ∀ b ∈ [z, ti, to, n1, n2], FpOk X pins (upd H s.heap.objs.size (.tup [x, y])) b := fun b hb => by
      obtain ⟨f0, f1, f2, f3, f4, f5⟩ := hf b hb
      exact ⟨by rw [upd_ne (Nat.ne_of_lt (fpl b hb))]; exact f0, f1, f2, f3, f4, f5⟩
    have I2 := Inv.turnedL (h' := g2) (t' := s.toks) (fp := [z, ti, to, n1, n2]) I1 (fun b o hb e => by
      have hbz : b ≠ z := fun q => hb (by simp [q])
      rw [sb2 b hbz]
      rcases Heap.get?_push_cases e with ⟨y1, y2⟩ | y1
      · rw [y1, y2]; exact t1
      · exact kk b o (fun q => hb (by simp at q ⊢; rcases q with q | q | q | q <;> simp [q])) y1) hf2
    have nz : ∀ b ∈ [ti, to, n1, n2], b ≠ z := fun b hb q => by
      have := D.nd
      simp only [List.nodup_cons] at this
      exact this.1 (by rw [← q]; exact hb)
    have keep2 : ∀ b ∈ [ti, to, n1, n2], ∀ o, g.get? b = some o → g2.get? b = some o := fun b hb o e => by rw [sb2 b (nz b hb)]; exact e
    have tk : g.get? ti = some _ := kk ti _ (fun q => by
      have := D.nd
      simp only [List.nodup_cons] at this
      simp at q
      rcases q with q | q | q | q
      · exact nz ti (by simp) q
      · exact this.2.1 (by rw [q]; simp)
      · exact this.2.1 (by rw [q]; simp)
      · exact this.2.1 (by rw [q]; simp)) hi
    exact ⟨.ref s.heap.objs.size, _, I2, rfl, ⟨_, x, y, rfl, hfr, fun zs hzs => by rw [I.sqB_inj hzs hq1]; exact hx, fun zs hzs => by rw [I.sqB_inj hzs hq2]; exact hy, rfl⟩,
      ⟨z2, keep2 ti (by simp) _ tk, ⟨_, _, keep2 to (by simp) _ o1⟩, i1.at fun o e => keep2 n1 (by simp) o e, i2.at fun o e => keep2 n2 (by simp) o e⟩, fun b hb => (hf2 b hb).1⟩
  done := by
    intro X hP hw hK hc i pins s σ H E I hf st hg
    subst hP hw hK
    obtain ⟨xs, ys, hq1, hq2, hx⟩ := hg
    obtain ⟨hz, hi, ⟨c, d, ho⟩, h1, h2⟩ := st
    obtain ⟨it1, r1, p1⟩ := I.sqB hq1
    obtain ⟨it2, r2, p2⟩ := I.sqB hq2
    have l1 := r1.length
    have l2 := r2.length
    refine pn_last (I.ok.hd hc) D hz hi ho h1 h2 p1 p2 ?_ fun g kk => ⟨rfl, Inv.turnedL (t' := s.toks) I (fun b o hb e => kk b o (fun q => hb (by simp at q ⊢; rcases q with q | q | q | q <;> simp [q])) e) hf⟩
    rcases hx with hx | hx
    · exact .inl (by simp; omega)
    · exact .inr (by simp; omega)
  self := fun _ _ _ _ _ st h => wpAny_pyIter_zip st.1 h
theorem bt_zip : bootBuiltins "zip" = some (.type "zip") := by decide +kernel
section
variable {X : Cx}
def iZip (K : Fg) (ta : TA) : TI := fun σ H R => ta σ H fun vs H1 => ∃ q1 q2 a1 a2, vs = [.ref a1, .ref a2] ∧ (∃ xs, SqB q1 K H1 a1 xs) ∧ (∃ ys, SqB q2 K H1 a2 ys) ∧ R (Itz K q1 q2 a1 a2) H1
theorem pi_zip {l1 l2 : Expr} {ta : TA} {elts : List Expr} {x1 : _} {p pos pos' : Pos} (hg : Gl X "zip") (hm : X.mg "zip" = none) (ha : PA X [l1, l2] ta) (hs : starEach [l1, l2] X.env = (false, eval l1 X.env) :: starEach [l2] X.env := by rfl) (hpl : (backTo pos (starEach [l2] X.env)).any (·.1) = false := by rfl) :
    PI X (.Tuple elts x1 pos') (.Call (.Name "zip" p) [l1, l2] [] pos) (iZip X.K ta) := by
  intro pins s σ H R I h
  refine Call_ (ld_blt I hg hm bt_zip (PyProof.Rows.callWith_type1 (thn (ha pos pins s σ H _ I h) fun us s1 ⟨vs, H1, I1, r1, q1⟩ => ?_) hs hpl))
  obtain ⟨b1, b2, a1, a2, e, ⟨xs, hq1⟩, ⟨ys, hq2⟩, q⟩ := q1
  subst e
  cases r1 with
  | cons r rr =>
    cases rr with
    | cons r2 rr =>
      cases rr
      cases r
      cases r2
      obtain ⟨it1, rv1, p1⟩ := I1.sqB hq1
      obtain ⟨it2, rv2, p2⟩ := I1.sqB hq2
      have lt1 : a1 < s1.heap.objs.size := by obtain ⟨o, e, _⟩ := id p1; exact Heap.lt_size e
      have lt2 : a2 < s1.heap.objs.size := by obtain ⟨o, e, _⟩ := id p2; exact Heap.lt_size e
      refine z_call p1 p2 fun g hz hi ho h1 h2 kk => ?_
      have I2 : Inv X pins σ H1 { s1 with heap := g } := I1.kept (t' := s1.toks) kk
      have D : ZAp (s1.heap.objs.size + 4) (s1.heap.objs.size + 2) (s1.heap.objs.size + 3) s1.heap.objs.size (s1.heap.objs.size + 1) a1 a2 := by
        have ap : ∀ b : Addr, b < s1.heap.objs.size → b ∉ [s1.heap.objs.size + 4, s1.heap.objs.size + 3, s1.heap.objs.size, s1.heap.objs.size + 1] := fun b lt hb => by
          have hb' : b = s1.heap.objs.size + 4 ∨ b = s1.heap.objs.size + 3 ∨ b = s1.heap.objs.size ∨ b = s1.heap.objs.size + 1 := by simpa using hb
          rcases hb' with e | e | e | e
          · exact absurd lt (by rw [e]; exact Nat.not_lt_of_le (Nat.le_add_right _ _))
          · exact absurd lt (by rw [e]; exact Nat.not_lt_of_le (Nat.le_add_right _ _))
          · exact absurd lt (by rw [e]; exact Nat.lt_irrefl _)
          · exact absurd lt (by rw [e]; exact Nat.not_lt_of_le (Nat.le_add_right _ _))
        exact ⟨by simp, ap a1 lt1, ap a2 lt2⟩
      refine wpAny_pyIter_zip hz ⟨s1.heap.objs.size + 4, [s1.heap.objs.size + 4, s1.heap.objs.size + 2, s1.heap.objs.size + 3, s1.heap.objs.size, s1.heap.objs.size + 1], _, _, H1, rfl, I2, turn_zip D, ⟨hz, hi, ⟨_, _, ho⟩, h1, h2⟩, fun b hb => ?_, q⟩
      have hge : s1.heap.objs.size ≤ b := by
        have hb' : b = s1.heap.objs.size + 4 ∨ b = s1.heap.objs.size + 2 ∨ b = s1.heap.objs.size + 3 ∨ b = s1.heap.objs.size ∨ b = s1.heap.objs.size + 1 := by simpa using hb
        rcases hb' with e | e | e | e | e
        · rw [e]; exact Nat.le_add_right _ _
        · rw [e]; exact Nat.le_add_right _ _
        · rw [e]; exact Nat.le_add_right _ _
        · rw [e]; exact Nat.le_refl _
        · rw [e]; exact Nat.le_add_right _ _
      exact I1.fpOk hge (I1.hok.fresh hge)
end
end L2
namespace L2
open PySem PySem.Spec PyProof.Rows
inductive Tr where
  | non | bl (b : Bool) | int (i : Int) | str (x : Str) | tup (ts : List Tr) | lst (ts : List Tr) | dct (kvs : List (Key × Tr)) | ty (n : String)
mutual
inductive Is (K : Fg) (F : Hp) : V → Tr → Prop
  | non : Is K F .non .non
  | bl {b : Bool} : Is K F (.bl b) (.bl b)
  | int {i : Int} : Is K F (.int i) (.int i)
  | str {x : Str} : Is K F (.str x) (.str x)
  | ty {n : String} : Is K F (.ty n) (.ty n)
  | tup {p : Addr} {vs : List V} {ts : List Tr} : SqT K F p vs → IsL K F vs ts → Is K F (.ref p) (.tup ts)
  | lst {p : Addr} {vs : List V} {ts : List Tr} : SqL K F p vs → IsL K F vs ts → Is K F (.ref p) (.lst ts)
  | dct {p : Addr} {kvs : List (Key × V)} {ts : List (Key × Tr)} : F p = some (.dK kvs) → kvs.map (·.1) = ts.map (·.1) → IsL K F (kvs.map (·.2)) (ts.map (·.2)) → Is K F (.ref p) (.dct ts)
inductive IsL (K : Fg) (F : Hp) : List V → List Tr → Prop
  | nil : IsL K F [] []
  | cons {v : V} {t : Tr} {vs : List V} {ts : List Tr} : Is K F v t → IsL K F vs ts → IsL K F (v :: vs) (t :: ts)
end
mutual
theorem Is.same {K : Fg} {F F' : Hp} (s : Same F F') : ∀ {v : V} {t : Tr}, Is K F v t → Is K F' v t
  | _, _, .non => .non
  | _, _, .bl => .bl
  | _, _, .int => .int
  | _, _, .str => .str
  | _, _, .ty => .ty
  | _, _, .tup h g => .tup (s.tup h) (IsL.same s g)
  | _, _, .lst h g => .lst (s.seq h) (IsL.same s g)
  | _, _, .dct h e g => .dct (s _ _ h) e (IsL.same s g)
theorem IsL.same {K : Fg} {F F' : Hp} (s : Same F F') : ∀ {vs : List V} {ts : List Tr}, IsL K F vs ts → IsL K F' vs ts
  | _, _, .nil => .nil
  | _, _, .cons h g => .cons (Is.same s h) (IsL.same s g)
end
section
variable {K : Fg} {F : Hp}
theorem IsL.length : ∀ {vs : List V} {ts : List Tr}, IsL K F vs ts → vs.length = ts.length
  | _, _, .nil => rfl
  | _, _, .cons _ g => congrArg (· + 1) (IsL.length g)
theorem IsL.get : ∀ {vs : List V} {ts : List Tr} {i : Nat} {t : Tr}, IsL K F vs ts → ts[i]? = some t → ∃ v, vs[i]? = some v ∧ Is K F v t
  | _, _, _, _, .nil, e => by simp at e
  | _, _, 0, _, .cons h _, e => by simp at e; subst e; exact ⟨_, rfl, h⟩
  | _, _, i + 1, t, .cons _ g, e => by
    obtain ⟨u, h1, h2⟩ := IsL.get (i := i) (t := t) g (by simpa using e)
    exact ⟨u, by simpa using h1, h2⟩
theorem IsL.get2 : ∀ {vs : List V} {ts : List Tr} {i : Nat} {v : V}, IsL K F vs ts → vs[i]? = some v → ∃ t, ts[i]? = some t ∧ Is K F v t
  | _, _, _, _, .nil, e => by simp at e
  | _, _, 0, _, .cons h _, e => by simp at e; subst e; exact ⟨_, rfl, h⟩
  | _, _, i + 1, t, .cons _ g, e => by
    obtain ⟨u, h1, h2⟩ := IsL.get2 (i := i) (v := t) g (by simpa using e)
    exact ⟨u, by simpa using h1, h2⟩
theorem IsL.app : ∀ {vs ws : List V} {ts us : List Tr}, IsL K F vs ts → IsL K F ws us → IsL K F (vs ++ ws) (ts ++ us)
  | _, _, _, _, .nil, s => s
  | _, _, _, _, .cons h g, s => .cons h (IsL.app g s)
theorem IsL.take : ∀ {vs : List V} {ts : List Tr} (n : Nat), IsL K F vs ts → IsL K F (vs.take n) (ts.take n)
  | _, _, 0, _ => .nil
  | _, _, _ + 1, .nil => .nil
  | _, _, n + 1, .cons h g => .cons h (IsL.take n g)
theorem IsL.drop : ∀ {vs : List V} {ts : List Tr} (n : Nat), IsL K F vs ts → IsL K F (vs.drop n) (ts.drop n)
  | _, _, 0, h => h
  | _, _, _ + 1, .nil => .nil
  | _, _, n + 1, .cons _ g => IsL.drop n g
theorem IsL.snoc {vs : List V} {ts : List Tr} {v : V} {t : Tr} (h : IsL K F vs ts) (g : Is K F v t) : IsL K F (vs ++ [v]) (ts ++ [t]) := h.app (.cons g .nil)
theorem IsL.ints : ∀ {vs : List V} {ns : List Int}, IsL K F vs (ns.map Tr.int) → vs = ns.map V.int
  | _, [], .nil => rfl
  | _, _ :: _, .cons .int g => by rw [List.map_cons, IsL.ints g]
theorem IsL.strs : ∀ {vs : List V} {ns : List Str}, IsL K F vs (ns.map Tr.str) → vs = ns.map V.str
  | _, [], .nil => rfl
  | _, _ :: _, .cons .str g => by rw [List.map_cons, IsL.strs g]
theorem IsL.ofInts : ∀ (ns : List Int), IsL K F (ns.map V.int) (ns.map Tr.int)
  | [] => .nil
  | _ :: r => .cons .int (IsL.ofInts r)
end
def Mb : HO → Prop
  | .lst _ => True
  | .dK _ => True
  | .tbl _ => True
  | _ => False
structure Bk where
  K : Fg
  F0 : Hp
  H0 : Hp
  W : Addr → Prop
  J : Hp → Prop
  rt : Addr
  jl : ∀ H H' : Hp, (∀ p, W p → H p = H' p) → (∀ p φ, H p = some (.ext φ) → H' p = some (.ext φ)) → J H → J H'
  jm : ∀ (H : Hp) (p : Addr), J H → W p → ∃ o, H p = some o ∧ Mb o
structure Up (B : Bk) (F H F' H' : Hp) : Prop where
  f : Same F F'
  h : ∀ p o, ¬ B.W p → H p = some o → H' p = some o
  i : Same F' H'
  m : ∀ p o, H p = some o → Mb o → F p = none → F' p = none
  w : ∀ p, H' p = none → H p = none
  x : ∀ p, B.W p → F p = none → F' p = none
  j : B.J H → B.J H'
theorem Up.refl {B : Bk} {F H : Hp} (i : Same F H) : Up B F H F H := ⟨Same.refl _, fun _ _ _ h => h, i, fun _ _ _ _ h => h, fun _ h => h, fun _ _ h => h, fun h => h⟩
theorem Up.trans {B : Bk} {F H F1 H1 F2 H2 : Hp} (a : Up B F H F1 H1) (b : Up B F1 H1 F2 H2) : Up B F H F2 H2 := ⟨a.f.trans b.f, fun p o n h => b.h p o n (a.h p o n h), b.i, fun p o h mb n => by
  by_cases hw : B.W p
  · exact b.x p hw (a.x p hw n)
  · exact b.m p o (a.h p o hw h) mb (a.m p o h mb n), fun p h => a.w p (b.w p h), fun p hw n => b.x p hw (a.x p hw n), fun h => b.j (a.j h)⟩
inductive Ow (K : Fg) (F H : Hp) (l : Addr) : Tr → Prop
  | lst {vs : List V} {ts : List Tr} : H l = some (.lst vs) → IsL K F vs ts → Ow K F H l (.lst ts)
  | dct {kvs : List (Key × V)} {ts : List (Key × Tr)} : H l = some (.dK kvs) → kvs.map (·.1) = ts.map (·.1) → IsL K F (kvs.map (·.2)) (ts.map (·.2)) → Ow K F H l (.dct ts)
theorem Ow.mb {K : Fg} {F H : Hp} {l : Addr} {t : Tr} (h : Ow K F H l t) : ∃ o, H l = some o ∧ Mb o := by
  cases h with
  | lst h _ => exact ⟨_, h, trivial⟩
  | dct h _ _ => exact ⟨_, h, trivial⟩
theorem Ow.to {K : Fg} {F F' H H' : Hp} {l : Addr} {t : Tr} (h : Ow K F H l t) (s : Same F F') (e : ∀ o, H l = some o → H' l = some o) : Ow K F' H' l t := by
  cases h with
  | lst h g => exact .lst (e _ h) (g.same s)
  | dct h e' g => exact .dct (e _ h) e' (g.same s)
theorem Ow.is {K : Fg} {F H F' : Hp} {l : Addr} {t : Tr} (h : Ow K F H l t) (s : Same F F') (e : F' l = H l) : Is K F' (.ref l) t := by
  cases h with
  | lst h g => exact .lst (SqL.of (by rw [e, h])) (g.same s)
  | dct h e' g => exact .dct (by rw [e, h]) e' (g.same s)
inductive Sl where
  | no | fz (t : Tr) | own (t : Tr) | vw (t : Tr) | wd
abbrev TSt := List Sl
abbrev SAt (σ : St) (i : Nat) (v : V) : Prop := σ[i]? = some (some v)
abbrev TAt (τ : TSt) (i : Nat) (s : Sl) : Prop := τ[i]? = some s
structure Rp (B : Bk) (F H : Hp) (σ : St) (τ : TSt) : Prop where
  up : Up B B.F0 B.H0 F H
  wa : ∀ p, B.W p → B.H0 p ≠ none
  wf : ∀ p, B.W p → F p = none
  wj : B.J H
  wd : ∀ i, TAt τ i .wd → SAt σ i (.ref B.rt)
  len : σ.length = τ.length
  fz : ∀ i t, TAt τ i (.fz t) → ∃ v, SAt σ i v ∧ Is B.K F v t
  ow : ∀ i t, TAt τ i (.own t) → ∃ l, SAt σ i (.ref l) ∧ Ow B.K F H l t ∧ F l = none ∧ B.H0 l = none
  vw : ∀ i t, TAt τ i (.vw t) → ∃ l, SAt σ i (.ref l) ∧ Ow B.K F H l t ∧ F l = none ∧ ¬ B.W l
  ap : ∀ i j t u l, TAt τ i (.own t) → TAt τ j (.own u) → i ≠ j → SAt σ i (.ref l) → SAt σ j (.ref l) → False
  av : ∀ i j t u l, TAt τ i (.own t) → TAt τ j (.vw u) → SAt σ i (.ref l) → SAt σ j (.ref l) → False
inductive Kd where
  | fz (t : Tr) | nw (t : Tr) | sl (i : Nat) | wd
def KdOk (B : Bk) (F H : Hp) (σ : St) (τ : TSt) (v : V) : Kd → Prop
  | .fz t => Is B.K F v t
  | .nw t => ∃ l, v = .ref l ∧ Ow B.K F H l t ∧ F l = none ∧ B.H0 l = none ∧ ∀ i u, TAt τ i (.own u) ∨ TAt τ i (.vw u) → ¬ SAt σ i (.ref l)
  | .sl i => SAt σ i v
  | .wd => v = .ref B.rt
def NewK (H : Hp) (v : V) : Kd → Prop
  | .nw _ => ∀ l, v = .ref l → H l = none
  | _ => True
structure Fr (B : Bk) (σ : St) (τ : TSt) (F H : Hp) (τ' : TSt) (F' H' : Hp) : Prop where
  f : Same F F'
  k : ∀ p o, H p = some o → ¬ B.W p → (∀ i t, TAt τ i (.own t) → ¬ SAt σ i (.ref p)) → H' p = some o ∧ (Mb o → F p = none → F' p = none)
  o : ∀ i t, TAt τ' i (.own t) → ∃ u, TAt τ i (.own u)
  h : ∀ p, H' p = none → H p = none
theorem Fr.refl {B : Bk} {σ : St} {τ : TSt} {F H : Hp} : Fr B σ τ F H τ F H := ⟨Same.refl _, fun _ _ h _ _ => ⟨h, fun _ z => z⟩, fun _ t h => ⟨t, h⟩, fun _ h => h⟩
theorem Fr.trans {B : Bk} {σ : St} {τ τ1 τ2 : TSt} {F H F1 H1 F2 H2 : Hp} (a : Fr B σ τ F H τ1 F1 H1) (b : Fr B σ τ1 F1 H1 τ2 F2 H2) : Fr B σ τ F H τ2 F2 H2 :=
  ⟨a.f.trans b.f, fun p o h nw n => by
    obtain ⟨h1, h2⟩ := a.k p o h nw n
    obtain ⟨h3, h4⟩ := b.k p o h1 nw fun i t e => by
      obtain ⟨u, e'⟩ := a.o i t e
      exact n i u e'
    exact ⟨h3, fun mb z => h4 mb (h2 mb z)⟩, fun i t e => by
    obtain ⟨u, e'⟩ := b.o i t e
    exact a.o i u e', fun p h => a.h p (b.h p h)⟩
abbrev TK := Kd → TSt → Prop
def CT (B : Bk) (σ : St) (τ : TSt) (F H : Hp) (Φ : TK) (Q : VK) : Prop := ∀ v F' H' k τ', Fr B σ τ F H τ' F' H' → Rp B F' H' σ τ' → KdOk B F' H' σ τ' v k → NewK H v k → Φ k τ' → Q v H'
def EV (B : Bk) (te : TE) (τ : TSt) (Φ : TK) : Prop := ∀ σ F H Q, Rp B F H σ τ → CT B σ τ F H Φ Q → te σ H Q
def TV (B : Bk) (tt : TT) (τ : TSt) (Φ : Bool → TSt → Prop) : Prop := ∀ σ F H (Q : Bool → Hp → Prop), Rp B F H σ τ → (∀ b F' H' τ', Fr B σ τ F H τ' F' H' → Rp B F' H' σ τ' → Φ b τ' → Q b H') → tt σ H Q
def EVA (B : Bk) (ta : TA) (τ : TSt) (Φ : List Tr → TSt → Prop) : Prop := ∀ σ F H (Q : List V → Hp → Prop), Rp B F H σ τ → (∀ vs F' H' ts τ', Fr B σ τ F H τ' F' H' → Rp B F' H' σ τ' → IsL B.K F' vs ts → Φ ts τ' → Q vs H') → ta σ H Q
def AsF (k : Kd) (τ : TSt) (S : Tr → TSt → Prop) : Prop := match k with
  | .fz t => S t τ
  | .nw t => S t τ
  | .sl i => (∃ t, TAt τ i (.own t) ∧ S t (τ.set i (.fz t))) ∨ ∃ t, TAt τ i (.fz t) ∧ S t τ
  | .wd => False
def Pnd (k : Kd) (τ : TSt) (S : TK) : Prop := match k with
  | .fz t => S (.fz t) τ
  | .nw t => S (.fz t) τ
  | .sl i => S (.sl i) τ
  | .wd => False
def PdOk (K : Fg) (F : Hp) (σ : St) (v : V) : Kd → Prop
  | .fz t => Is K F v t
  | .nw _ => False
  | .sl i => SAt σ i v
  | .wd => False
theorem PdOk.same {K : Fg} {F F' : Hp} {σ : St} {v : V} {k : Kd} (s : Same F F') (h : PdOk K F σ v k) : PdOk K F' σ v k := by
  cases k with
  | fz t => exact Is.same s h
  | nw t => exact h
  | sl i => exact h
  | wd => exact h
section
variable {B : Bk} {F H F1 H1 F' H' : Hp} {σ : St} {τ τ1 τ' : TSt}
theorem CT.on {Φ : TK} {Q : VK} (c : CT B σ τ F H Φ Q) (f : Fr B σ τ F H τ1 F1 H1) : CT B σ τ1 F1 H1 Φ Q := fun v F' H' k τ' f' r ok n φ => c v F' H' k τ' (f.trans f') r ok (by
  cases k with
  | nw t => exact fun l e => f.h l (n l e)
  | fz t => exact trivial
  | sl i => exact trivial
  | wd => exact trivial) φ
theorem Rp.go (r : Rp B F H σ τ) (u : Up B F H F' H') : Rp B F' H' σ τ where
  up := r.up.trans u
  wa := r.wa
  wf := fun p hw => u.x p hw (r.wf p hw)
  wj := u.j r.wj
  wd := r.wd
  len := r.len
  fz := fun i t h => by obtain ⟨v, e, g⟩ := r.fz i t h; exact ⟨v, e, g.same u.f⟩
  ow := fun i t h => by
    obtain ⟨l, e, g, n, n0⟩ := r.ow i t h
    obtain ⟨o, ho, mb⟩ := g.mb
    exact ⟨l, e, g.to u.f (fun o => u.h l o fun hw => r.wa l hw n0), u.m l o ho mb n, n0⟩
  vw := fun i t h => by
    obtain ⟨l, e, g, n, nw⟩ := r.vw i t h
    obtain ⟨o, ho, mb⟩ := g.mb
    exact ⟨l, e, g.to u.f (fun o => u.h l o nw), u.m l o ho mb n, nw⟩
  ap := r.ap
  av := r.av
theorem Fr.up (u : Up B F H F' H') : Fr B σ τ F H τ F' H' := ⟨u.f, fun p o h nw _ => ⟨u.h p o nw h, fun mb n => u.m p o h mb n⟩, fun _ t h => ⟨t, h⟩, u.w⟩
theorem upd_none {H : Hp} {a b : Addr} {o : HO} (h : upd H a o b = none) : H b = none := by
  by_cases e : b = a
  · rw [e, upd_same] at h; cases h
  · rw [upd_ne e] at h; exact h
theorem Rp.tup {p : Addr} {vs : List V} (r : Rp B F H σ τ) (n : H p = none) : Up B F H (upd F p (.tup vs)) (upd H p (.tup vs)) where
  f := Same.new (r.up.i.free n) _
  h := fun q o _ z => Same.new n _ q o z
  i := fun b o e => by
    by_cases hb : b = p
    · subst hb; rw [upd_same] at e ⊢; exact e
    · rw [upd_ne hb] at e ⊢; exact r.up.i b o e
  m := fun q o h _ z => by
    have : q ≠ p := fun e => by rw [e, n] at h; cases h
    rw [upd_ne this]; exact z
  w := fun q h => upd_none h
  x := fun q hw z => by
    have : q ≠ p := fun e => r.wa q hw (r.up.w q (by rw [e]; exact n))
    rw [upd_ne this]; exact z
  j := fun h => B.jl _ _ (fun q hw => by
    have : q ≠ p := fun e => r.wa q hw (r.up.w q (by rw [e]; exact n))
    rw [upd_ne this]) (fun q φ z => Same.new n _ q _ z) h
theorem Rp.new {p : Addr} {o : HO} (r : Rp B F H σ τ) (n : H p = none) : Up B F H F (upd H p o) where
  f := Same.refl _
  h := fun q o _ z => Same.new n _ q o z
  i := r.up.i.trans (Same.new n _)
  m := fun q o h _ z => z
  w := fun q h => upd_none h
  x := fun q hw z => z
  j := fun h => B.jl _ _ (fun q hw => by
    have : q ≠ p := fun e => r.wa q hw (r.up.w q (by rw [e]; exact n))
    rw [upd_ne this]) (fun q φ z => Same.new n _ q _ z) h
theorem Rp.inc (r : Rp B F H σ τ) : Same F H := r.up.i
theorem Rp.fixA {l : Addr} {o : HO} (r : Rp B F H σ τ) (ho : H l = some o) (n : F l = none) (n0 : B.H0 l = none) (ne : ∀ i u, TAt τ i (.own u) ∨ TAt τ i (.vw u) → ¬ SAt σ i (.ref l)) : Rp B (upd F l o) H σ τ where
  wa := r.wa
  wf := fun p hw => by
    have : p ≠ l := fun e => r.wa p hw (by rw [e]; exact n0)
    rw [upd_ne this]; exact r.wf p hw
  wj := r.wj
  wd := r.wd
  up := { f := r.up.f.trans (Same.new n o), h := r.up.h, w := r.up.w, j := r.up.j
          m := fun p q hp mb z => by
            have : p ≠ l := fun e => by rw [e, n0] at hp; cases hp
            rw [upd_ne this]; exact r.up.m p q hp mb z
          x := fun p hw z => by
            have : p ≠ l := fun e => r.wa p hw (by rw [e]; exact n0)
            rw [upd_ne this]; exact r.up.x p hw z
          i := fun b q e => by
            by_cases hb : b = l
            · subst hb; rw [upd_same] at e; cases e; exact ho
            · rw [upd_ne hb] at e; exact r.up.i b q e }
  len := r.len
  fz := fun i t h => by obtain ⟨v, e, g⟩ := r.fz i t h; exact ⟨v, e, g.same (Same.new n o)⟩
  ow := fun i t h => by
    obtain ⟨l', e, g, n', n0'⟩ := r.ow i t h
    have hl : l' ≠ l := fun z => ne i t (.inl h) (by rw [← z]; exact e)
    exact ⟨l', e, g.to (Same.new n o) (fun _ q => q), by rw [upd_ne hl]; exact n', n0'⟩
  vw := fun i t h => by
    obtain ⟨l', e, g, n', nw⟩ := r.vw i t h
    have hl : l' ≠ l := fun z => ne i t (.inr h) (by rw [← z]; exact e)
    exact ⟨l', e, g.to (Same.new n o) (fun _ q => q), by rw [upd_ne hl]; exact n', nw⟩
  ap := r.ap
  av := r.av
theorem tset {τ : TSt} {i j : Nat} {s u : Sl} (h : TAt (τ.set i s) j u) : (j = i ∧ u = s ∧ i < τ.length) ∨ (j ≠ i ∧ TAt τ j u) := by
  unfold TAt at h
  rw [List.getElem?_set] at h
  by_cases e : i = j
  · subst e
    rw [if_pos rfl] at h
    by_cases g : i < τ.length
    · rw [if_pos g] at h; cases h; exact .inl ⟨rfl, rfl, g⟩
    · rw [if_neg g] at h; cases h
  · rw [if_neg e] at h; exact .inr ⟨fun z => e z.symm, h⟩
theorem sset {σ : St} {i j : Nat} {x : Option V} {v : V} (h : SAt (σ.set i x) j v) : (j = i ∧ x = some v) ∨ (j ≠ i ∧ SAt σ j v) := by
  unfold SAt at h
  rw [List.getElem?_set] at h
  by_cases e : i = j
  · subst e
    rw [if_pos rfl] at h
    by_cases g : i < σ.length
    · rw [if_pos g] at h; cases h; exact .inl ⟨rfl, rfl⟩
    · rw [if_neg g] at h; cases h
  · rw [if_neg e] at h; exact .inr ⟨fun z => e z.symm, h⟩
theorem ssetHere {σ : St} {i : Nat} {v : V} (h : i < σ.length) : SAt (σ.set i (some v)) i v := by
  unfold SAt
  rw [List.getElem?_set, if_pos rfl, if_pos h]
theorem ssetNe {σ : St} {i j : Nat} {x : Option V} {v : V} (n : j ≠ i) (h : SAt σ j v) : SAt (σ.set i x) j v := by
  unfold SAt at h ⊢
  rw [List.getElem?_set, if_neg (fun z => n z.symm)]; exact h
theorem Rp.setF {i : Nat} {v : V} {t : Tr} (r : Rp B F H σ τ) (h : Is B.K F v t) : Rp B F H (σ.set i (some v)) (τ.set i (.fz t)) where
  up := r.up
  wa := r.wa
  wf := r.wf
  wj := r.wj
  wd := fun j e => by
    rcases tset e with ⟨_, e, _⟩ | ⟨n, e⟩
    · cases e
    · exact ssetNe n (r.wd j e)
  len := by rw [List.length_set, List.length_set]; exact r.len
  fz := fun j u e => by
    rcases tset e with ⟨rfl, e, g⟩ | ⟨n, e⟩
    · cases e; exact ⟨v, ssetHere (by rw [r.len]; exact g), h⟩
    · obtain ⟨w, a, b⟩ := r.fz j u e
      exact ⟨w, ssetNe n a, b⟩
  ow := fun j u e => by
    rcases tset e with ⟨rfl, e, g⟩ | ⟨n, e⟩
    · cases e
    · obtain ⟨w, a, b⟩ := r.ow j u e
      exact ⟨w, ssetNe n a, b⟩
  vw := fun j u e => by
    rcases tset e with ⟨rfl, e, g⟩ | ⟨n, e⟩
    · cases e
    · obtain ⟨w, a, b⟩ := r.vw j u e
      exact ⟨w, ssetNe n a, b⟩
  ap := fun a b t u l ha hb ne hi hj => by
    rcases tset ha with ⟨_, e, _⟩ | ⟨na, ha⟩
    · cases e
    rcases tset hb with ⟨_, e, _⟩ | ⟨nb, hb⟩
    · cases e
    rcases sset hi with ⟨e, _⟩ | ⟨_, hi⟩
    · exact na e
    rcases sset hj with ⟨e, _⟩ | ⟨_, hj⟩
    · exact nb e
    exact r.ap a b t u l ha hb ne hi hj
  av := fun a b t u l ha hb hi hj => by
    rcases tset ha with ⟨_, e, _⟩ | ⟨na, ha⟩
    · cases e
    rcases tset hb with ⟨_, e, _⟩ | ⟨nb, hb⟩
    · cases e
    rcases sset hi with ⟨e, _⟩ | ⟨_, hi⟩
    · exact na e
    rcases sset hj with ⟨e, _⟩ | ⟨_, hj⟩
    · exact nb e
    exact r.av a b t u l ha hb hi hj
theorem Rp.setN {i : Nat} {v : V} {t : Tr} (r : Rp B F H σ τ) (h : KdOk B F H σ τ v (.nw t)) : Rp B F H (σ.set i (some v)) (τ.set i (.own t)) := by
  obtain ⟨l0, rfl, hw, n, n0, dis⟩ := h
  exact {
  up := r.up
  wa := r.wa
  wf := r.wf
  wj := r.wj
  wd := fun j e => by
    rcases tset e with ⟨_, e, _⟩ | ⟨n, e⟩
    · cases e
    · exact ssetNe n (r.wd j e)
  len := by rw [List.length_set, List.length_set]; exact r.len
  fz := fun j u e => by
    rcases tset e with ⟨rfl, e, g⟩ | ⟨n, e⟩
    · cases e
    · obtain ⟨w, a, b⟩ := r.fz j u e
      exact ⟨w, ssetNe n a, b⟩
  ow := fun j u e => by
    rcases tset e with ⟨rfl, e, g⟩ | ⟨n, e⟩
    · cases e; exact ⟨l0, ssetHere (by rw [r.len]; exact g), hw, n, n0⟩
    · obtain ⟨w, a, b⟩ := r.ow j u e
      exact ⟨w, ssetNe n a, b⟩
  vw := fun j u e => by
    rcases tset e with ⟨rfl, e, g⟩ | ⟨n, e⟩
    · cases e
    · obtain ⟨w, a, b⟩ := r.vw j u e
      exact ⟨w, ssetNe n a, b⟩
  ap := fun a b t u l ha hb ne hi hj => by
    rcases tset ha with ⟨ea, _, _⟩ | ⟨na, ha⟩
    · rcases tset hb with ⟨eb, _, _⟩ | ⟨nb, hb⟩
      · exact ne (ea.trans eb.symm)
      · rcases sset hi with ⟨_, e⟩ | ⟨na, _⟩
        · cases e
          rcases sset hj with ⟨e, _⟩ | ⟨_, hj⟩
          · exact nb e
          · exact dis b u (.inl hb) hj
        · exact na ea
    · rcases sset hi with ⟨e, _⟩ | ⟨_, hi⟩
      · exact na e
      rcases tset hb with ⟨eb, _, _⟩ | ⟨nb, hb⟩
      · rcases sset hj with ⟨_, e⟩ | ⟨nb, _⟩
        · cases e; exact dis a t (.inl ha) hi
        · exact nb eb
      · rcases sset hj with ⟨e, _⟩ | ⟨_, hj⟩
        · exact nb e
        · exact r.ap a b t u l ha hb ne hi hj
  av := fun a b t u l ha hb hi hj => by
    rcases tset hb with ⟨_, e, _⟩ | ⟨nb, hb⟩
    · cases e
    rcases sset hj with ⟨e, _⟩ | ⟨_, hj⟩
    · exact nb e
    rcases tset ha with ⟨ea, _, _⟩ | ⟨na, ha⟩
    · rcases sset hi with ⟨_, e⟩ | ⟨na, _⟩
      · cases e; exact dis b u (.inr hb) hj
      · exact na ea
    · rcases sset hi with ⟨e, _⟩ | ⟨_, hi⟩
      · exact na e
      · exact r.av a b t u l ha hb hi hj }
theorem Rp.forget {i : Nat} (r : Rp B F H σ τ) : Rp B F H σ (τ.set i .no) where
  up := r.up
  wa := r.wa
  wf := r.wf
  wj := r.wj
  wd := fun j e => by
    rcases tset e with ⟨_, e, _⟩ | ⟨n, e⟩
    · cases e
    · exact r.wd j e
  len := by rw [List.length_set]; exact r.len
  fz := fun j u e => by
    rcases tset e with ⟨_, e, _⟩ | ⟨_, e⟩
    · cases e
    · exact r.fz j u e
  ow := fun j u e => by
    rcases tset e with ⟨_, e, _⟩ | ⟨_, e⟩
    · cases e
    · exact r.ow j u e
  vw := fun j u e => by
    rcases tset e with ⟨_, e, _⟩ | ⟨_, e⟩
    · cases e
    · exact r.vw j u e
  ap := fun a b t u l ha hb => by
    rcases tset ha with ⟨_, e, _⟩ | ⟨_, ha⟩
    · cases e
    rcases tset hb with ⟨_, e, _⟩ | ⟨_, hb⟩
    · cases e
    exact r.ap a b t u l ha hb
  av := fun a b t u l ha hb => by
    rcases tset ha with ⟨_, e, _⟩ | ⟨_, ha⟩
    · cases e
    rcases tset hb with ⟨_, e, _⟩ | ⟨_, hb⟩
    · cases e
    exact r.av a b t u l ha hb
theorem tat_unique {τ : TSt} {i : Nat} {s u : Sl} (h : TAt τ i s) (g : TAt τ i u) : s = u := by
  unfold TAt at h g
  rw [h] at g; exact Option.some.inj g
theorem sat_unique {σ : St} {i : Nat} {v w : V} (h : SAt σ i v) (g : SAt σ i w) : v = w := by
  unfold SAt at h g
  rw [h] at g; exact Option.some.inj (Option.some.inj g)
theorem set_same {σ : St} {i : Nat} {v : V} (h : SAt σ i v) : σ.set i (some v) = σ := by
  apply List.ext_getElem?
  intro j
  rw [List.getElem?_set]
  by_cases e : i = j
  · subst e
    rw [if_pos rfl, if_pos (List.getElem?_eq_some_iff.mp h).1]; exact h.symm
  · rw [if_neg e]
theorem Rp.fixS {i : Nat} {t : Tr} (r : Rp B F H σ τ) (h : TAt τ i (.own t)) : ∃ F2 l, SAt σ i (.ref l) ∧ Same F F2 ∧ Rp B F2 H σ (τ.set i (.fz t)) ∧ Is B.K F2 (.ref l) t ∧ ∀ p, p ≠ l → F2 p = F p := by
  obtain ⟨l, e, g, n, n0⟩ := r.ow i t h
  obtain ⟨o, ho, mb⟩ := g.mb
  have r1 : Rp B F H σ (τ.set i .no) := r.forget
  have r2 := r1.fixA ho n n0 (fun j u hj hs => by
    rcases hj with hj | hj
    · rcases tset hj with ⟨_, z, _⟩ | ⟨nj, hj⟩
      · cases z
      · exact r.ap i j t u l h hj (fun z => nj z.symm) e hs
    · rcases tset hj with ⟨_, z, _⟩ | ⟨nj, hj⟩
      · cases z
      · exact r.av i j t u l h hj e hs)
  have hi : Is B.K (upd F l o) (.ref l) t := g.is (Same.new n o) (by rw [upd_same, ho])
  have r3 := r2.setF (i := i) hi
  rw [set_same e, List.set_set] at r3
  exact ⟨_, l, e, Same.new n o, r3, hi, fun p hp => upd_ne hp⟩
theorem asF_ok {v : V} {k : Kd} {S : Tr → TSt → Prop} (f : Fr B σ τ F H τ1 F1 H1) (r : Rp B F1 H1 σ τ1) (ok : KdOk B F1 H1 σ τ1 v k) (nk : NewK H v k) (h : AsF k τ1 S) : ∃ F2 t τ2, Fr B σ τ F H τ2 F2 H1 ∧ Rp B F2 H1 σ τ2 ∧ Is B.K F2 v t ∧ S t τ2 ∧ Same F1 F2 := by
  cases k with
  | fz t => exact ⟨F1, t, τ1, f, r, ok, h, Same.refl _⟩
  | nw t =>
    obtain ⟨l, rfl, g, n, n0, ne⟩ := ok
    obtain ⟨o, ho, mb⟩ := g.mb
    refine ⟨upd F1 l o, t, τ1, ⟨f.f.trans (Same.new n o), fun p q hp nw no => ?_, f.o, f.h⟩, r.fixA ho n n0 ne, g.is (Same.new n o) (by rw [upd_same, ho]), h, Same.new n o⟩
    obtain ⟨h1, h2⟩ := f.k p q hp nw no
    refine ⟨h1, fun mb z => ?_⟩
    have : p ≠ l := fun e => by rw [e, nk l rfl] at hp; cases hp
    rw [upd_ne this]; exact h2 mb z
  | sl i =>
    rcases h with ⟨t, ht, hs⟩ | ⟨t, ht, hs⟩
    · obtain ⟨F2, l, e, sF, r2, hi, ne⟩ := r.fixS ht
      cases sat_unique e ok
      refine ⟨F2, t, _, ⟨f.f.trans sF, fun p q hp nw no => ?_, fun j u hj => ?_, f.h⟩, r2, hi, hs, sF⟩
      · obtain ⟨h1, h2⟩ := f.k p q hp nw no
        refine ⟨h1, fun mb z => ?_⟩
        obtain ⟨u, hu⟩ := f.o i t ht
        have : p ≠ l := fun e' => no i u hu (by rw [e']; exact e)
        rw [ne p this]; exact h2 mb z
      · rcases tset hj with ⟨_, z, _⟩ | ⟨_, hj⟩
        · cases z
        · exact f.o j u hj
    · obtain ⟨w, e, hi⟩ := r.fz i t ht
      cases sat_unique e ok
      exact ⟨F1, t, τ1, f, r, hi, hs, Same.refl _⟩
  | wd => exact h.elim
theorem pnd_ok {v : V} {k : Kd} {S : TK} (f : Fr B σ τ F H τ1 F1 H1) (r : Rp B F1 H1 σ τ1) (ok : KdOk B F1 H1 σ τ1 v k) (nk : NewK H v k) (h : Pnd k τ1 S) : ∃ F2 k', Fr B σ τ F H τ1 F2 H1 ∧ Rp B F2 H1 σ τ1 ∧ PdOk B.K F2 σ v k' ∧ S k' τ1 ∧ Same F1 F2 := by
  cases k with
  | fz t => exact ⟨F1, .fz t, f, r, ok, h, Same.refl _⟩
  | nw t =>
    obtain ⟨F2, t2, τ2, f2, r2, i2, ⟨s2, rfl, rfl⟩, sF⟩ := asF_ok (S := fun t' τ' => S (.fz t') τ' ∧ t' = t ∧ τ' = τ1) f r ok nk ⟨h, rfl, rfl⟩
    exact ⟨F2, _, f2, r2, (show PdOk B.K F2 σ v (.fz _) from i2), s2, sF⟩
  | sl i => exact ⟨F1, .sl i, f, r, ok, h, Same.refl _⟩
  | wd => exact h.elim
end
end L2
namespace L2
open PySem PySem.Spec PyProof.Rows
inductive Gt {α : Type} : List α → Nat → α → Prop
  | here {v : α} {r : List α} : Gt (v :: r) 0 v
  | next {x v : α} {r : List α} {i : Nat} : Gt r i v → Gt (x :: r) (i + 1) v
theorem Gt.eq {α : Type} {σ : List α} {i : Nat} {v : α} (h : Gt σ i v) : σ[i]? = some v := by
  induction h with
  | here => rfl
  | next _ ih => rw [List.getElem?_cons_succ, ih]
inductive Sto {α : Type} : List α → Nat → α → List α → Prop
  | here {x v : α} {r : List α} : Sto (x :: r) 0 v (v :: r)
  | next {x v : α} {r r' : List α} {i : Nat} : Sto r i v r' → Sto (x :: r) (i + 1) v (x :: r')
theorem Sto.eq {α : Type} {σ σ' : List α} {i : Nat} {v : α} (h : Sto σ i v σ') : σ.set i v = σ' := by
  induction h with
  | here => rfl
  | next _ ih => rw [List.set_cons_succ, ih]
inductive Rk (τ : TSt) : Kd → Tr → Prop
  | fz {t : Tr} : Rk τ (.fz t) t
  | own {i : Nat} {t : Tr} : Gt τ i (.own t) → Rk τ (.sl i) t
  | vw {i : Nat} {t : Tr} : Gt τ i (.vw t) → Rk τ (.sl i) t
  | sfz {i : Nat} {t : Tr} : Gt τ i (.fz t) → Rk τ (.sl i) t
section
variable {B : Bk} {F H : Hp} {σ : St} {τ : TSt}
theorem Rk.list {v : V} {k : Kd} {ts : List Tr} (h : Rk τ k (.lst ts)) (r : Rp B F H σ τ) (ok : PdOk B.K F σ v k) : ∃ p vs, v = .ref p ∧ SqL B.K H p vs ∧ IsL B.K F vs ts := by
  cases h with
  | fz =>
    cases ok with
    | lst a b => exact ⟨_, _, rfl, r.inc.seq a, b⟩
  | own g =>
    obtain ⟨l, e, hw, _⟩ := r.ow _ _ g.eq
    cases sat_unique e ok
    cases hw with
    | lst a b => exact ⟨_, _, rfl, SqL.of a, b⟩
  | vw g =>
    obtain ⟨l, e, hw, _⟩ := r.vw _ _ g.eq
    cases sat_unique e ok
    cases hw with
    | lst a b => exact ⟨_, _, rfl, SqL.of a, b⟩
  | sfz g =>
    obtain ⟨w, e, hi⟩ := r.fz _ _ g.eq
    cases sat_unique e ok
    cases hi with
    | lst a b => exact ⟨_, _, rfl, r.inc.seq a, b⟩
theorem Rk.tuple {v : V} {k : Kd} {ts : List Tr} (h : Rk τ k (.tup ts)) (r : Rp B F H σ τ) (ok : PdOk B.K F σ v k) : ∃ p vs, v = .ref p ∧ SqT B.K H p vs ∧ IsL B.K F vs ts := by
  cases h with
  | fz =>
    cases ok with
    | tup a b => exact ⟨_, _, rfl, r.inc.tup a, b⟩
  | own g =>
    obtain ⟨l, e, hw, _⟩ := r.ow _ _ g.eq
    cases hw
  | vw g =>
    obtain ⟨l, e, hw, _⟩ := r.vw _ _ g.eq
    cases hw
  | sfz g =>
    obtain ⟨w, e, hi⟩ := r.fz _ _ g.eq
    cases sat_unique e ok
    cases hi with
    | tup a b => exact ⟨_, _, rfl, r.inc.tup a, b⟩
theorem Rk.dict {v : V} {k : Kd} {ts : List (Key × Tr)} (h : Rk τ k (.dct ts)) (r : Rp B F H σ τ) (ok : PdOk B.K F σ v k) : ∃ p kvs, v = .ref p ∧ H p = some (.dK kvs) ∧ kvs.map (·.1) = ts.map (·.1) ∧ IsL B.K F (kvs.map (·.2)) (ts.map (·.2)) := by
  cases h with
  | fz =>
    cases ok with
    | dct a b c => exact ⟨_, _, rfl, r.inc _ _ a, b, c⟩
  | own g =>
    obtain ⟨l, e, hw, _⟩ := r.ow _ _ g.eq
    cases sat_unique e ok
    cases hw with
    | dct a b c => exact ⟨_, _, rfl, a, b, c⟩
  | vw g =>
    obtain ⟨l, e, hw, _⟩ := r.vw _ _ g.eq
    cases sat_unique e ok
    cases hw with
    | dct a b c => exact ⟨_, _, rfl, a, b, c⟩
  | sfz g =>
    obtain ⟨w, e, hi⟩ := r.fz _ _ g.eq
    cases sat_unique e ok
    cases hi with
    | dct a b c => exact ⟨_, _, rfl, r.inc _ _ a, b, c⟩
end
section
variable {B : Bk} {τ τ' : TSt} {Φ : TK} {te ta tb tc : TE} {k : Nat} {t : Tr} {i j : Int} {x y : Kd} {b : Bool} {c d : TT} {Ψ : Bool → TSt → Prop}
theorem p_fz {S : TK} (h : S (.fz t) τ) : Pnd (.fz t) τ S := h
theorem p_nw {S : TK} (h : S (.fz t) τ) : Pnd (.nw t) τ S := h
theorem p_sl {S : TK} (h : S (.sl k) τ) : Pnd (.sl k) τ S := h
theorem as_fz {S : Tr → TSt → Prop} (h : S t τ) : AsF (.fz t) τ S := h
theorem as_nw {S : Tr → TSt → Prop} (h : S t τ) : AsF (.nw t) τ S := h
theorem as_own {S : Tr → TSt → Prop} (g : Gt τ k (.own t)) (s : Sto τ k (.fz t) τ') (h : S t τ') : AsF (.sl k) τ S := .inl ⟨t, g.eq, by rw [s.eq]; exact h⟩
theorem CT.pl {F H : Hp} {σ : St} {Q : VK} {v : V} (c : CT B σ τ F H Φ Q) (r : Rp B F H σ τ) (h : Is B.K F v t) (φ : Φ (.fz t) τ) : Q v H := c v F H (.fz t) τ Fr.refl r h trivial φ
theorem e_var (g : Gt τ k (.fz t)) (q : Φ (.fz t) τ) : EV B (tVar k) τ Φ := fun σ F H Q r c => by
  obtain ⟨v, e, h⟩ := r.fz _ _ g.eq
  exact ⟨v, e, c.pl r h q⟩
theorem e_varO (g : Gt τ k (.own t)) (q : Φ (.sl k) τ) : EV B (tVar k) τ Φ := fun σ F H Q r c => by
  obtain ⟨l, e, h⟩ := r.ow _ _ g.eq
  exact ⟨_, e, c _ F H (.sl k) τ Fr.refl r e trivial q⟩
theorem e_varW (g : Gt τ k .wd) (q : Φ .wd τ) : EV B (tVar k) τ Φ := fun σ F H Q r c => by
  have e := r.wd _ g.eq
  exact ⟨_, e, c _ F H .wd τ Fr.refl r rfl trivial q⟩
theorem e_cI (q : Φ (.fz (.int i)) τ) : EV B (tC (.int i)) τ Φ := fun _ _ _ _ r c => c.pl r .int q
theorem e_cB (q : Φ (.fz (.bl b)) τ) : EV B (tC (.bl b)) τ Φ := fun _ _ _ _ r c => c.pl r .bl q
theorem e_cN (q : Φ (.fz .non) τ) : EV B (tC .non) τ Φ := fun _ _ _ _ r c => c.pl r .non q
theorem e_cS {z : Str} (q : Φ (.fz (.str z)) τ) : EV B (tC (.str z)) τ Φ := fun _ _ _ _ r c => c.pl r .str q
theorem e_cT {z : String} (q : Φ (.fz (.ty z)) τ) : EV B (tC (.ty z)) τ Φ := fun _ _ _ _ r c => c.pl r .ty q
def RO (B : Bk) (r : R2) (x y : Kd) (τ : TSt) (Φ : TK) : Prop := ∀ σ F H v w Q, Rp B F H σ τ → PdOk B.K F σ v x → PdOk B.K F σ w y → CT B σ τ F H Φ Q → r v w H Q
theorem e_op {r : R2} (h : EV B ta τ fun x τ1 => Pnd x τ1 fun x τ1 => EV B tb τ1 fun y τ2 => Pnd y τ2 fun y τ2 => RO B r x y τ2 Φ) : EV B (tOp r ta tb) τ Φ := fun σ F H Q rp c => by
  refine h σ F H _ rp fun v F1 H1 k τ1 f1 r1 ok1 n1 h1 => ?_
  obtain ⟨F2, k', f2, r2, ok2, h2, _⟩ := pnd_ok f1 r1 ok1 n1 h1
  refine h2 σ F2 H1 _ r2 fun w F3 H3 k3 τ3 f3 r3 ok3 n3 h3 => ?_
  obtain ⟨F4, k4, f4, r4, ok4, h4, _⟩ := pnd_ok f3 r3 ok3 n3 h3
  exact h4 σ F4 H3 v w Q r4 (ok2.same f4.f) ok4 (c.on (f2.trans f4))
def RU (B : Bk) (r : V → Hp → VK → Prop) (x : Kd) (τ : TSt) (Φ : TK) : Prop := ∀ σ F H v Q, Rp B F H σ τ → PdOk B.K F σ v x → CT B σ τ F H Φ Q → r v H Q
theorem e_un {r : V → Hp → VK → Prop} (h : EV B ta τ fun x τ1 => Pnd x τ1 fun x τ1 => RU B r x τ1 Φ) : EV B (tUn r ta) τ Φ := fun σ F H Q rp c => by
  refine h σ F H _ rp fun v F1 H1 k τ1 f1 r1 ok1 n1 h1 => ?_
  obtain ⟨F2, k', f2, r2, ok2, h2, _⟩ := pnd_ok f1 r1 ok1 n1 h1
  exact h2 σ F2 H1 v Q r2 ok2 (c.on f2)
theorem pd_int {K : Fg} {F : Hp} {σ : St} {v : V} (h : PdOk K F σ v (.fz (.int i))) : v = .int i := by cases h; rfl
theorem pd_bl {K : Fg} {F : Hp} {σ : St} {v : V} (h : PdOk K F σ v (.fz (.bl b))) : v = .bl b := by cases h; rfl
theorem pd_str {K : Fg} {F : Hp} {σ : St} {v : V} {z : Str} (h : PdOk K F σ v (.fz (.str z))) : v = .str z := by cases h; rfl
theorem pd_non {K : Fg} {F : Hp} {σ : St} {v : V} (h : PdOk K F σ v (.fz .non)) : v = .non := by cases h; rfl
theorem ro_I {C : Int → Int → Prop} {g : Int → Int → Int} (hc : C i j) (q : Φ (.fz (.int (g i j))) τ) : RO B (rI C fun i j => .int (g i j)) (.fz (.int i)) (.fz (.int j)) τ Φ := fun _ _ _ _ _ _ r a b c => by
  cases pd_int a; cases pd_int b
  exact ⟨i, j, rfl, rfl, hc, c.pl r .int q⟩
theorem ro_I0 {g : Int → Int → Int} (q : Φ (.fz (.int (g i j))) τ) : RO B (rI0 fun i j => .int (g i j)) (.fz (.int i)) (.fz (.int j)) τ Φ := fun _ _ _ _ _ _ r a b c => by
  cases pd_int a; cases pd_int b
  exact ⟨i, j, rfl, rfl, c.pl r .int q⟩
theorem ro_I0B {g : Int → Int → Bool} (q : Φ (.fz (.bl (g i j))) τ) : RO B (rI0 fun i j => .bl (g i j)) (.fz (.int i)) (.fz (.int j)) τ Φ := fun _ _ _ _ _ _ r a b c => by
  cases pd_int a; cases pd_int b
  exact ⟨i, j, rfl, rfl, c.pl r .bl q⟩
theorem ru_U {g : Int → Int} (q : Φ (.fz (.int (g i))) τ) : RU B (rU fun i => .int (g i)) (.fz (.int i)) τ Φ := fun _ _ _ _ _ r a c => by
  cases pd_int a
  exact ⟨i, rfl, c.pl r .int q⟩
theorem ro_EqI (q : Φ (.fz (.bl (decide (i = j)))) τ) : RO B rEq (.fz (.int i)) (.fz (.int j)) τ Φ := fun _ _ _ _ _ _ r a b c => by
  cases pd_int a; cases pd_int b
  exact z_EqI (c.pl r .bl q)
theorem ro_NeI (q : Φ (.fz (.bl (!decide (i = j)))) τ) : RO B rNe (.fz (.int i)) (.fz (.int j)) τ Φ := fun _ _ _ _ _ _ r a b c => by
  cases pd_int a; cases pd_int b
  exact z_NeI (c.pl r .bl q)
theorem ro_EqS {z u : Str} (q : Φ (.fz (.bl (decide (z = u)))) τ) : RO B rEq (.fz (.str z)) (.fz (.str u)) τ Φ := fun _ _ _ _ _ _ r a b c => by
  cases pd_str a; cases pd_str b
  exact z_EqS (c.pl r .bl q)
def Tr.isN : Tr → Bool
  | .non => true
  | _ => false
theorem is_non {K : Fg} {F : Hp} {v : V} (h : Is K F v t) : decide (v = .non) = t.isN := by cases h <;> rfl
theorem ro_isN (q : Φ (.fz (.bl t.isN)) τ) : RO B rIsN (.fz t) (.fz .non) τ Φ := fun _ _ _ v _ _ r a b c => by
  cases pd_non b
  refine ⟨rfl, ?_⟩
  rw [is_non (show Is B.K _ v t from a)]
  exact c.pl r .bl q
theorem isl_at {K : Fg} {F : Hp} {vs : List V} {ts : List Tr} (h : IsL K F vs ts) (e : atI ts i = some t) : ∃ v, atI vs i = some v ∧ Is K F v t := by
  unfold atI at e ⊢
  rw [h.length]
  cases hx : ixN ts.length i with
  | none => rw [hx] at e; cases e
  | some n =>
    rw [hx] at e
    exact h.get e
theorem ro_ixL {K : Fg} {ts : List Tr} (hK : K = B.K) (rk : Rk τ x (.lst ts)) (e : atI ts i = some t) (q : Φ (.fz t) τ) : RO B (rIxL K) x (.fz (.int i)) τ Φ := fun _ _ _ _ _ _ r a b c => by
  subst hK
  cases pd_int b
  obtain ⟨p, vs, rfl, s, l⟩ := rk.list r a
  obtain ⟨w, ew, hw⟩ := isl_at l e
  exact ⟨p, vs, i, w, rfl, rfl, s, ew, c.pl r hw q⟩
theorem ro_ixT {K : Fg} {ts : List Tr} (hK : K = B.K) (rk : Rk τ x (.tup ts)) (e : atI ts i = some t) (q : Φ (.fz t) τ) : RO B (rIxT K) x (.fz (.int i)) τ Φ := fun _ _ _ _ _ _ r a b c => by
  subst hK
  cases pd_int b
  obtain ⟨p, vs, rfl, s, l⟩ := rk.tuple r a
  obtain ⟨w, ew, hw⟩ := isl_at l e
  exact ⟨p, vs, i, w, rfl, rfl, s, ew, c.pl r hw q⟩
theorem t_test (h : EV B te τ fun x τ1 => ∃ b, x = .fz (.bl b) ∧ Ψ b τ1) : TV B (tTest te) τ Ψ := fun σ F H Q r c => by
  refine h σ F H _ r fun v F1 H1 k τ1 f1 r1 ok1 _ ⟨b, e, h1⟩ => ?_
  subst e
  cases ok1
  exact ⟨b, rfl, c b F1 H1 τ1 f1 r1 h1⟩
theorem t_B (h : EV B te τ fun x τ1 => ∃ b, x = .fz (.bl b) ∧ Ψ b τ1) : TV B (tB te) τ Ψ := t_test h
theorem t_ebl {S : Bool → Prop} (q : S b) : ∃ b', Kd.fz (.bl b) = .fz (.bl b') ∧ S b' := ⟨b, rfl, q⟩
theorem TV.on {σ : St} {F H F1 H1 : Hp} {τ1 : TSt} {Q : Bool → Hp → Prop} (c : ∀ b F' H' τ', Fr B σ τ F H τ' F' H' → Rp B F' H' σ τ' → Ψ b τ' → Q b H') (f : Fr B σ τ F H τ1 F1 H1) : ∀ b F' H' τ', Fr B σ τ1 F1 H1 τ' F' H' → Rp B F' H' σ τ' → Ψ b τ' → Q b H' :=
  fun b F' H' τ' f' r h => c b F' H' τ' (f.trans f') r h
theorem t_and (h : TV B c τ fun k τ1 => if k = true then TV B d τ1 Ψ else Ψ false τ1) : TV B (tAnd c d) τ Ψ := fun σ F H Q r k => by
  refine h σ F H _ r fun b F1 H1 τ1 f1 r1 h1 => ?_
  cases b with
  | true => rw [if_pos rfl] at h1 ⊢; exact h1 σ F1 H1 Q r1 (TV.on k f1)
  | false => rw [if_neg Bool.false_ne_true] at h1 ⊢; exact k _ F1 H1 τ1 f1 r1 h1
theorem t_or (h : TV B c τ fun k τ1 => if k = true then Ψ true τ1 else TV B d τ1 Ψ) : TV B (tOr c d) τ Ψ := fun σ F H Q r k => by
  refine h σ F H _ r fun b F1 H1 τ1 f1 r1 h1 => ?_
  cases b with
  | true => rw [if_pos rfl] at h1 ⊢; exact k _ F1 H1 τ1 f1 r1 h1
  | false => rw [if_neg Bool.false_ne_true] at h1 ⊢; exact h1 σ F1 H1 Q r1 (TV.on k f1)
theorem t_not (h : TV B c τ fun k τ1 => Ψ (!k) τ1) : TV B (tNot c) τ Ψ := fun σ F H Q r k => h σ F H _ r fun b F1 H1 τ1 f1 r1 h1 => k _ F1 H1 τ1 f1 r1 h1
theorem e_andV (h : EV B ta τ fun x τ1 => ∃ b, x = .fz (.bl b) ∧ if b = true then EV B tb τ1 Φ else Φ (.fz (.bl false)) τ1) : EV B (tAndV ta tb) τ Φ := fun σ F H Q r c => by
  refine h σ F H _ r fun v F1 H1 k τ1 f1 r1 ok1 _ ⟨b, e, h1⟩ => ?_
  subst e
  cases ok1
  refine ⟨b, rfl, ?_⟩
  cases b with
  | true => rw [if_pos rfl] at h1 ⊢; exact h1 σ F1 H1 Q r1 (c.on f1)
  | false => rw [if_neg Bool.false_ne_true] at h1 ⊢; exact (c.on f1).pl r1 .bl h1
theorem e_notV (h : EV B ta τ fun x τ1 => ∃ b, x = .fz (.bl b) ∧ Φ (.fz (.bl (!b))) τ1) : EV B (tNotV ta) τ Φ := fun σ F H Q r c => by
  refine h σ F H _ r fun v F1 H1 k τ1 f1 r1 ok1 _ ⟨b, e, h1⟩ => ?_
  subst e
  cases ok1
  exact ⟨b, rfl, (c.on f1).pl r1 .bl h1⟩
theorem e_chain {r r' : R2} (h : EV B ta τ fun x τ1 => Pnd x τ1 fun x τ1 => EV B tb τ1 fun y τ2 => Pnd y τ2 fun y τ2 => RO B r x y τ2 fun z τ3 => ∃ b, z = .fz (.bl b) ∧ if b = true then EV B tc τ3 fun w τ4 => Pnd w τ4 fun w τ4 => RO B r' y w τ4 Φ else Φ (.fz (.bl false)) τ3) : EV B (tChain r r' ta tb tc) τ Φ := fun σ F H Q rp c => by
  refine h σ F H _ rp fun v F1 H1 k τ1 f1 r1 ok1 n1 h1 => ?_
  obtain ⟨F2, k', f2, r2, ok2, h2, _⟩ := pnd_ok f1 r1 ok1 n1 h1
  refine h2 σ F2 H1 _ r2 fun w F3 H3 k3 τ3 f3 r3 ok3 n3 h3 => ?_
  obtain ⟨F4, k4, f4, r4, ok4, h4, _⟩ := pnd_ok f3 r3 ok3 n3 h3
  refine h4 σ F4 H3 v w _ r4 (ok2.same f4.f) ok4 fun u F5 H5 k5 τ5 f5 r5 ok5 n5 ⟨b, e, h5⟩ => ?_
  subst e
  cases ok5
  refine ⟨b, rfl, ?_⟩
  have f05 := f2.trans (f4.trans f5)
  cases b with
  | true =>
    rw [if_pos rfl] at h5 ⊢
    refine h5 σ F5 H5 _ r5 fun w6 F6 H6 k6 τ6 f6 r6 ok6 n6 h6 => ?_
    obtain ⟨F7, k7, f7, r7, ok7, h7, _⟩ := pnd_ok f6 r6 ok6 n6 h6
    exact h7 σ F7 H6 w w6 Q r7 ((ok4.same f5.f).same f7.f) ok7 (c.on (f05.trans f7))
  | false => rw [if_neg Bool.false_ne_true] at h5 ⊢; exact (c.on f05).pl r5 .bl h5
theorem a_nil {S : List Tr → TSt → Prop} (q : S [] τ) : EVA B tNil τ S := fun σ F H Q r c => c [] F H [] τ Fr.refl r .nil q
theorem a_ints {S : List Tr → TSt → Prop} {ns : List Int} (q : S (ns.map Tr.int) τ) : EVA B (tInts ns) τ S := fun σ F H Q r c => c _ F H _ τ Fr.refl r (.ofInts ns) q
theorem a_cons {tr : TA} {S : List Tr → TSt → Prop} (h : EV B te τ fun x τ1 => AsF x τ1 fun t τ2 => EVA B tr τ2 fun ts τ3 => S (t :: ts) τ3) : EVA B (tCons te tr) τ S := fun σ F H Q r c => by
  refine h σ F H _ r fun v F1 H1 k τ1 f1 r1 ok1 n1 h1 => ?_
  obtain ⟨F2, t, τ2, f2, r2, i2, h2, _⟩ := asF_ok f1 r1 ok1 n1 h1
  exact h2 σ F2 H1 _ r2 fun vs F3 H3 ts τ3 f3 r3 l3 h3 => c _ F3 H3 _ τ3 (f2.trans f3) r3 (.cons (i2.same f3.f) l3) h3
theorem e_tup {tA : TA} (h : EVA B tA τ fun ts τ1 => ts.length ≤ 1000 ∧ Φ (.fz (.tup ts)) τ1) : EV B (tTup tA) τ Φ := fun σ F H Q r c => by
  refine h σ F H _ r fun vs F1 H1 ts τ1 f1 r1 l1 ⟨hl, h1⟩ => ⟨by rw [l1.length]; exact Nat.le_trans hl (by decide), fun p hp => ?_⟩
  have u := r1.tup (vs := vs) hp
  exact c _ _ _ (.fz (.tup ts)) τ1 (f1.trans (Fr.up u)) (r1.go u) (Is.tup (SqT.of upd_same) (l1.same u.f)) trivial h1
theorem nw_new {F H : Hp} {σ : St} {vs : List V} {ts : List Tr} {p : Addr} (r : Rp B F H σ τ) (l : IsL B.K F vs ts) (hp : H p = none) : KdOk B F (upd H p (.lst vs)) σ τ (.ref p) (.nw (.lst ts)) := by
  refine ⟨p, rfl, .lst upd_same l, r.inc.free hp, r.up.w p hp, fun i u h e => ?_⟩
  rcases h with h | h
  · obtain ⟨l', e', g, _⟩ := r.ow i u h
    obtain ⟨o, ho, _⟩ := g.mb
    have := sat_unique e' e
    cases this
    rw [hp] at ho; cases ho
  · obtain ⟨l', e', g, _⟩ := r.vw i u h
    obtain ⟨o, ho, _⟩ := g.mb
    have := sat_unique e' e
    cases this
    rw [hp] at ho; cases ho
theorem CT.nl {F H : Hp} {σ : St} {Q : VK} {vs : List V} {ts : List Tr} {p : Addr} (c : CT B σ τ F H Φ Q) (r : Rp B F H σ τ) (l : IsL B.K F vs ts) (hp : H p = none) (φ : Φ (.nw (.lst ts)) τ) : Q (.ref p) (upd H p (.lst vs)) :=
  c _ F _ (.nw (.lst ts)) τ (Fr.up (r.new hp)) (r.go (r.new hp)) (nw_new r l hp) (fun l e => by cases e; exact hp) φ
theorem e_lst {tA : TA} (h : EVA B tA τ fun ts τ1 => ts.length ≤ 1000 ∧ Φ (.nw (.lst ts)) τ1) : EV B (tLst tA) τ Φ := fun σ F H Q r c => by
  refine h σ F H _ r fun vs F1 H1 ts τ1 f1 r1 l1 ⟨hl, h1⟩ => ⟨by rw [l1.length]; exact Nat.le_trans hl (by decide), fun p hp => ?_⟩
  exact (c.on f1).nl r1 l1 hp h1
theorem e_cb1 {r : List V → Hp → VK → Prop} (h : EV B te τ fun x τ1 => Pnd x τ1 fun x τ1 => RU B (fun v H Q => r [v] H Q) x τ1 Φ) : EV B (tCB r (tCons te tNil)) τ Φ := fun σ F H Q rp c => by
  refine h σ F H _ rp fun v F1 H1 k τ1 f1 r1 ok1 n1 h1 => ?_
  obtain ⟨F2, k', f2, r2, ok2, h2, _⟩ := pnd_ok f1 r1 ok1 n1 h1
  exact h2 σ F2 H1 v Q r2 ok2 (c.on f2)
theorem e_cb2 {r : List V → Hp → VK → Prop} (h : EV B ta τ fun x τ1 => Pnd x τ1 fun x τ1 => EV B tb τ1 fun y τ2 => Pnd y τ2 fun y τ2 => RO B (fun v w H Q => r [v, w] H Q) x y τ2 Φ) : EV B (tCB r (tCons ta (tCons tb tNil))) τ Φ := fun σ F H Q rp c => by
  refine h σ F H _ rp fun v F1 H1 k τ1 f1 r1 ok1 n1 h1 => ?_
  obtain ⟨F2, k', f2, r2, ok2, h2, _⟩ := pnd_ok f1 r1 ok1 n1 h1
  refine h2 σ F2 H1 _ r2 fun w F3 H3 k3 τ3 f3 r3 ok3 n3 h3 => ?_
  obtain ⟨F4, k4, f4, r4, ok4, h4, _⟩ := pnd_ok f3 r3 ok3 n3 h3
  exact h4 σ F4 H3 v w Q r4 (ok2.same f4.f) ok4 (c.on (f2.trans f4))
def OV (B : Bk) (to : TO) (τ : TSt) (Φ : Option Int → TSt → Prop) : Prop := ∀ σ F H (Q : Option Int → Hp → Prop), Rp B F H σ τ → (∀ b F' H' τ', Fr B σ τ F H τ' F' H' → Rp B F' H' σ τ' → Φ b τ' → Q b H') → to σ H Q
theorem o_no {S : Option Int → TSt → Prop} (q : S none τ) : OV B tNoPart τ S := fun _ F H _ r c => c none F H τ Fr.refl r q
theorem o_part {S : Option Int → TSt → Prop} (h : EV B te τ fun x τ1 => ∃ i, x = .fz (.int i) ∧ S (some i) τ1) : OV B (tPart te) τ S := fun σ F H Q r c => by
  refine h σ F H _ r fun v F1 H1 k τ1 f1 r1 ok1 _ ⟨b, e, h1⟩ => ?_
  subst e
  cases ok1
  exact ⟨b, rfl, c _ F1 H1 τ1 f1 r1 h1⟩
theorem t_eint {S : Int → Prop} (q : S i) : ∃ b', Kd.fz (.int i) = .fz (.int b') ∧ S b' := ⟨i, rfl, q⟩
def RSl (B : Bk) (r : V → Option Int → Option Int → Hp → VK → Prop) (x : Kd) (lo hi : Option Int) (τ : TSt) (Φ : TK) : Prop := RU B (fun v H Q => r v lo hi H Q) x τ Φ
theorem e_sl {r : V → Option Int → Option Int → Hp → VK → Prop} {tl th : TO} (h : EV B te τ fun x τ1 => Pnd x τ1 fun x τ1 => OV B tl τ1 fun lo τ2 => OV B th τ2 fun hi τ3 => RSl B r x lo hi τ3 Φ) : EV B (tSl r te tl th) τ Φ := fun σ F H Q rp c => by
  refine h σ F H _ rp fun v F1 H1 k τ1 f1 r1 ok1 n1 h1 => ?_
  obtain ⟨F2, k', f2, r2, ok2, h2, _⟩ := pnd_ok f1 r1 ok1 n1 h1
  refine h2 σ F2 H1 _ r2 fun lo F3 H3 τ3 f3 r3 h3 => ?_
  refine h3 σ F3 H3 _ r3 fun hi F4 H4 τ4 f4 r4 h4 => ?_
  exact h4 σ F4 H4 v Q r4 ((ok2.same f3.f).same f4.f) (c.on (f2.trans (f3.trans f4)))
def cutT (xs : List Tr) (lo hi : Option Int) : List Tr := (xs.drop (HT.sIx xs.length 0 lo)).take (HT.sIx xs.length xs.length hi - HT.sIx xs.length 0 lo)
theorem isl_cut {K : Fg} {F : Hp} {vs : List V} {ts : List Tr} {lo hi : Option Int} (h : IsL K F vs ts) : IsL K F (cutV vs lo hi) (cutT ts lo hi) := by
  unfold cutV cutT
  rw [h.length]
  exact (h.drop _).take _
theorem rs_L {K : Fg} {ts : List Tr} {lo hi : Option Int} (hK : K = B.K) (rk : Rk τ x (.lst ts)) (q : Φ (.nw (.lst (cutT ts lo hi))) τ) : RSl B (rSlL K) x lo hi τ Φ := fun _ _ _ _ _ r a c => by
  subst hK
  obtain ⟨p, vs, rfl, s, l⟩ := rk.list r a
  exact ⟨p, vs, rfl, s, fun p' hp => c.nl r (isl_cut l) hp q⟩
end
end L2
namespace L2
open PySem PySem.Spec PyProof.Rows
section
variable {B : Bk} {F H : Hp} {σ : St} {τ τ' : TSt}
theorem Rp.setO {i : Nat} {t t' : Tr} {l : Addr} {o' : HO} (r : Rp B F H σ τ) (h : TAt τ i (.own t)) (e : SAt σ i (.ref l)) (g : Ow B.K F (upd H l o') l t') : Rp B F (upd H l o') σ (τ.set i (.own t')) ∧ Fr B σ τ F H (τ.set i (.own t')) F (upd H l o') := by
  obtain ⟨l', e', g0, n, n0⟩ := r.ow i t h
  cases sat_unique e e'
  have keep : ∀ q, q ≠ l → ∀ o, H q = some o → (upd H l o') q = some o := fun q hq o z => by rw [upd_ne hq]; exact z
  have kx : ∀ q φ, H q = some (.ext φ) → (upd H l o') q = some (.ext φ) := fun q φ z => keep q (fun e => by
    obtain ⟨o, ho, mb⟩ := g0.mb
    rw [e, ho] at z; cases z; exact mb) _ z
  refine ⟨{
    wa := r.wa
    wf := r.wf
    wj := B.jl _ _ (fun q hw => by
      have : q ≠ l := fun e => r.wa q hw (by rw [e]; exact n0)
      rw [upd_ne this]) kx r.wj
    wd := fun j z => by
      rcases tset z with ⟨_, z, _⟩ | ⟨_, z⟩
      · cases z
      · exact r.wd j z
    up := { f := r.up.f, h := fun q o nw z => by
              have : q ≠ l := fun e => by rw [e, n0] at z; cases z
              exact keep q this o (r.up.h q o nw z)
            w := fun q z => r.up.w q (upd_none z)
            x := r.up.x
            j := fun z => B.jl _ _ (fun q hw => by
              have : q ≠ l := fun e => r.wa q hw (by rw [e]; exact n0)
              rw [upd_ne this]) kx r.wj
            i := fun q o z => by
              have : q ≠ l := fun e => by rw [e, n] at z; cases z
              exact keep q this o (r.up.i q o z)
            m := r.up.m }
    len := by rw [List.length_set]; exact r.len
    fz := fun j u z => by
      rcases tset z with ⟨_, z, _⟩ | ⟨_, z⟩
      · cases z
      · exact r.fz j u z
    ow := fun j u z => by
      rcases tset z with ⟨rfl, z, _⟩ | ⟨nj, z⟩
      · cases z; exact ⟨l, e, g, n, n0⟩
      · obtain ⟨l2, a, b, c⟩ := r.ow j u z
        have : l2 ≠ l := fun q => r.ap i j t u l h z (fun q => nj q.symm) e (by rw [← q]; exact a)
        exact ⟨l2, a, b.to (Same.refl _) (keep l2 this), c⟩
    vw := fun j u z => by
      rcases tset z with ⟨_, z, _⟩ | ⟨nj, z⟩
      · cases z
      · obtain ⟨l2, a, b, c⟩ := r.vw j u z
        have : l2 ≠ l := fun q => r.av i j t u l h z e (by rw [← q]; exact a)
        exact ⟨l2, a, b.to (Same.refl _) (keep l2 this), c⟩
    ap := fun a b u w l2 ha hb ne hi hj => by
      obtain ⟨u', ha'⟩ : ∃ u, TAt τ a (.own u) := by
        rcases tset ha with ⟨rfl, _, _⟩ | ⟨_, z⟩
        · exact ⟨_, h⟩
        · exact ⟨_, z⟩
      obtain ⟨w', hb'⟩ : ∃ u, TAt τ b (.own u) := by
        rcases tset hb with ⟨rfl, _, _⟩ | ⟨_, z⟩
        · exact ⟨_, h⟩
        · exact ⟨_, z⟩
      exact r.ap a b u' w' l2 ha' hb' ne hi hj
    av := fun a b u w l2 ha hb hi hj => by
      obtain ⟨u', ha'⟩ : ∃ u, TAt τ a (.own u) := by
        rcases tset ha with ⟨rfl, _, _⟩ | ⟨_, z⟩
        · exact ⟨_, h⟩
        · exact ⟨_, z⟩
      rcases tset hb with ⟨_, z, _⟩ | ⟨_, z⟩
      · cases z
      · exact r.av a b u' w l2 ha' z hi hj }, ?_⟩
  refine ⟨Same.refl _, fun p o hp _ no => ?_, fun j u z => ?_, fun p hp => ?_⟩
  · have : p ≠ l := fun q => no i t h (by rw [q]; exact e)
    exact ⟨keep p this o hp, fun _ z => z⟩
  · rcases tset z with ⟨rfl, _, _⟩ | ⟨_, z⟩
    · exact ⟨_, h⟩
    · exact ⟨_, z⟩
  · by_cases q : p = l
    · rw [q, upd_same] at hp; cases hp
    · rw [upd_ne q] at hp; exact hp
end
section
variable {B : Bk} {τ τ' τ2 : TSt} {Φ : TK} {te ta tb : TE} {i k : Nat} {t u : Tr} {x : Kd} {ts us : List Tr}
def tyT (T : String) : Tr → Prop
  | .str _ => T = "str"
  | .lst _ => T = "list"
  | .dct _ => T = "dict"
  | _ => False
def TyK (T : String) (x : Kd) (τ : TSt) : Prop := ∃ t, Rk τ x t ∧ tyT T t
theorem TyK.v {F H : Hp} {σ : St} {T : String} {v : V} (h : TyK T x τ) (r : Rp B F H σ τ) (ok : PdOk B.K F σ v x) : tyV B.K T v H := by
  obtain ⟨t, rk, ht⟩ := h
  cases t with
  | lst ts =>
    obtain ⟨p, vs, rfl, s, _⟩ := rk.list r ok
    exact .inl ⟨ht, vs, s⟩
  | dct ts =>
    obtain ⟨p, vs, rfl, s, _⟩ := rk.dict r ok
    exact .inr (.inr (.inl ⟨ht, .inl ⟨vs, s⟩⟩))
  | str z =>
    have : v = .str z := by
      cases rk with
      | fz => cases ok; rfl
      | own g => obtain ⟨l, e, hw, _⟩ := r.ow _ _ g.eq; cases hw
      | vw g => obtain ⟨l, e, hw, _⟩ := r.vw _ _ g.eq; cases hw
      | sfz g =>
        obtain ⟨w, e, hi⟩ := r.fz _ _ g.eq
        cases sat_unique e ok
        cases hi; rfl
    subst this
    exact ht
  | _ => exact ht.elim
def RM (B : Bk) (rr : V → List V → Hp → VK → Prop) (x : Kd) (ts : List Tr) (τ : TSt) (Φ : TK) : Prop := ∀ σ F H v vs Q, Rp B F H σ τ → PdOk B.K F σ v x → IsL B.K F vs ts → CT B σ τ F H Φ Q → rr v vs H Q
theorem e_bm {K : Fg} (hK : K = B.K) {T : String} {rr : V → List V → Hp → VK → Prop} {tA : TA} (h : EV B te τ fun x τ1 => Pnd x τ1 fun x τ1 => TyK T x τ1 ∧ EVA B tA τ1 fun ts τ2 => RM B rr x ts τ2 Φ) : EV B (tBM K T rr te tA) τ Φ := fun σ F H Q rp c => by
  subst hK
  refine h σ F H _ rp fun v F1 H1 k τ1 f1 r1 ok1 n1 h1 => ?_
  obtain ⟨F2, k', f2, r2, ok2, ⟨ty, h2⟩, _⟩ := pnd_ok f1 r1 ok1 n1 h1
  refine ⟨ty.v r2 ok2, h2 σ F2 H1 _ r2 fun vs F3 H3 ts τ3 f3 r3 l3 h3 => ?_⟩
  exact h3 σ F3 H3 v vs Q r3 (ok2.same f3.f) l3 (c.on (f2.trans f3))
theorem ty_list {S : Prop} (rk : Rk τ x (.lst ts)) (q : S) : TyK "list" x τ ∧ S := ⟨⟨_, rk, rfl⟩, q⟩
theorem rm_own {rr : V → List V → Hp → VK → Prop} {ts us : List Tr} {as : List Tr} {res : Tr} (g : Gt τ k (.own (.lst ts))) (st : Sto τ k (.own (.lst us)) τ')
    (h : ∀ (K : Fg) (F H : Hp) (l : Addr) (vs ws : List V) (Q : VK), H l = some (.lst vs) → IsL K F vs ts → IsL K F ws as → (∀ v vs', IsL K F vs' us → Is K F v res → Q v (upd H l (.lst vs'))) → rr (.ref l) ws H Q) (q : Φ (.fz res) τ') : RM B rr (.sl k) as τ Φ := fun σ F H v ws Q r a l c => by
  obtain ⟨l0, e, hw, n, n0⟩ := r.ow _ _ g.eq
  cases sat_unique e a
  cases hw with
  | lst h1 h2 =>
    refine h B.K F H l0 _ ws Q h1 h2 l fun v vs' l' hv => ?_
    obtain ⟨r2, f2⟩ := r.setO g.eq e (.lst upd_same l')
    rw [st.eq] at r2 f2
    exact c _ F _ (.fz res) τ' f2 r2 hv trivial q
theorem rm_append (g : Gt τ k (.own (.lst ts))) (hl : ts.length ≤ 10000) (st : Sto τ k (.own (.lst (ts ++ [t]))) τ') (q : Φ (.fz .non) τ') : RM B rAppend (.sl k) [t] τ Φ :=
  rm_own g st (fun K F H l vs ws Q h1 h2 h3 c => by
    cases h3 with
    | cons a b =>
      cases b
      exact ⟨l, vs, _, rfl, rfl, h1, by rw [h2.length]; exact Nat.lt_of_le_of_lt hl (by decide), c _ _ (h2.snoc a) .non⟩) q
inductive Ar where
  | fz (t : Tr) | wd
def ArOk (B : Bk) (F : Hp) (v : V) : Ar → Prop
  | .fz t => Is B.K F v t
  | .wd => v = .ref B.rt
inductive ArL (B : Bk) (F : Hp) : List V → List Ar → Prop
  | nil : ArL B F [] []
  | cons {v : V} {a : Ar} {vs : List V} {as : List Ar} : ArOk B F v a → ArL B F vs as → ArL B F (v :: vs) (a :: as)
theorem ArL.length {B : Bk} {F : Hp} : ∀ {vs : List V} {as : List Ar}, ArL B F vs as → vs.length = as.length
  | _, _, .nil => rfl
  | _, _, .cons _ g => congrArg (· + 1) (ArL.length g)
theorem ArOk.same {B : Bk} {F F' : Hp} {v : V} {a : Ar} (s : Same F F') (h : ArOk B F v a) : ArOk B F' v a := by
  cases a with
  | fz t => exact Is.same s h
  | wd => exact h
theorem ArL.get {B : Bk} {F : Hp} : ∀ {vs : List V} {as : List Ar} {i : Nat} {a : Ar}, ArL B F vs as → as[i]? = some a → ∃ v, vs[i]? = some v ∧ ArOk B F v a
  | _, _, _, _, .nil, e => by simp at e
  | _, _, 0, _, .cons h _, e => by simp at e; subst e; exact ⟨_, rfl, h⟩
  | _, _, i + 1, t, .cons _ g, e => by
    obtain ⟨u, h1, h2⟩ := ArL.get (i := i) (a := t) g (by simpa using e)
    exact ⟨u, by simpa using h1, h2⟩
theorem ArL.app {B : Bk} {F : Hp} : ∀ {vs ws : List V} {as bs : List Ar}, ArL B F vs as → ArL B F ws bs → ArL B F (vs ++ ws) (as ++ bs)
  | _, _, _, _, .nil, s => s
  | _, _, _, _, .cons h g, s => .cons h (ArL.app g s)
def EVW (B : Bk) (ta : TA) (τ : TSt) (Φ : List Ar → TSt → Prop) : Prop := ∀ σ F H (Q : List V → Hp → Prop), Rp B F H σ τ → (∀ vs F' H' as τ', Fr B σ τ F H τ' F' H' → Rp B F' H' σ τ' → ArL B F' vs as → Φ as τ' → Q vs H') → ta σ H Q
def AsA (k : Kd) (τ : TSt) (S : Ar → TSt → Prop) : Prop := match k with
  | .wd => S .wd τ
  | .fz t => S (.fz t) τ
  | .nw t => S (.fz t) τ
  | .sl i => (∃ t, TAt τ i (.own t) ∧ S (.fz t) (τ.set i (.fz t))) ∨ ∃ t, TAt τ i (.fz t) ∧ S (.fz t) τ
theorem aa_wd {S : Ar → TSt → Prop} (h : S .wd τ) : AsA .wd τ S := h
theorem aa_fz {S : Ar → TSt → Prop} (h : S (.fz t) τ) : AsA (.fz t) τ S := h
theorem aa_nw {S : Ar → TSt → Prop} (h : S (.fz t) τ) : AsA (.nw t) τ S := h
theorem w_nil {S : List Ar → TSt → Prop} (q : S [] τ) : EVW B tNil τ S := fun σ F H Q r c => c [] F H [] τ Fr.refl r .nil q
theorem w_cons {tr : TA} {S : List Ar → TSt → Prop} (h : EV B te τ fun x τ1 => AsA x τ1 fun a τ2 => EVW B tr τ2 fun as τ3 => S (a :: as) τ3) : EVW B (tCons te tr) τ S := fun σ F H Q r c => by
  refine h σ F H _ r fun v F1 H1 k τ1 f1 r1 ok1 n1 h1 => ?_
  have go : AsF k τ1 (fun t τ2 => EVW B tr τ2 fun as τ3 => S (.fz t :: as) τ3) → tr σ H1 fun vs H2 => Q (v :: vs) H2 := fun h => by
    obtain ⟨F2, t, τ2, f2, r2, i2, h2, _⟩ := asF_ok f1 r1 ok1 n1 h
    exact h2 σ F2 H1 _ r2 fun vs F3 H3 ts τ3 f3 r3 l3 h3 => c _ F3 H3 _ τ3 (f2.trans f3) r3 (.cons (ArOk.same (a := .fz t) f3.f i2) l3) h3
  cases k with
  | wd => exact h1 σ F1 H1 _ r1 fun vs F3 H3 ts τ3 f3 r3 l3 h3 => c _ F3 H3 _ τ3 (f1.trans f3) r3 (.cons (a := .wd) ok1 l3) h3
  | fz t => exact go h1
  | nw t => exact go h1
  | sl i => exact go h1
def RetOk (B : Bk) (F H : Hp) (v : V) : Kd → Prop
  | .fz t => Is B.K F v t
  | .nw t => ∃ l, v = .ref l ∧ Ow B.K F H l t ∧ F l = none ∧ B.H0 l = none
  | .sl _ => False
  | .wd => False
abbrev SpT := Bk → List Ar → (Kd → Prop) → (Addr → Prop) → Prop
structure BkOk (B : Bk) : Prop where
  i : Same B.F0 B.H0
  wa : ∀ p, B.W p → B.H0 p ≠ none
  wf : ∀ p, B.W p → B.F0 p = none
  wj : B.J B.H0
def toSp (K : Fg) (S : SpT) : Sp := fun vs H Q E => ∃ B as Φ Ψ, B.K = K ∧ B.H0 = H ∧ BkOk B ∧ ArL B B.F0 vs as ∧ S B as Φ Ψ ∧ (∀ v F' H' k, Up B B.F0 H F' H' → RetOk B F' H' v k → Φ k → Q v H') ∧ ∀ C F' H', Up B B.F0 H F' H' → Ψ C → E (.ref C) none H'
theorem toSp_len {K : Fg} {S : SpT} {n : Nat} (hn : ∀ B as Φ Ψ, S B as Φ Ψ → as.length = n) : ∀ vs H Q E, toSp K S vs H Q E → vs.length = n := fun vs H Q E h => by
  obtain ⟨B, as, Φ, Ψ, _, _, _, l, s, _⟩ := h
  rw [l.length]; exact hn B as Φ Ψ s
theorem ret_kd {F H F' H' : Hp} {σ : St} {v : V} {kd : Kd} {B' : Bk} (r : Rp B F H σ τ) (hK : B'.K = B.K) (hH : B'.H0 = H) (h : RetOk B' F' H' v kd) : KdOk B F' H' σ τ v kd ∧ NewK H v kd := by
  cases kd with
  | fz t => exact ⟨by
      have h2 : Is B'.K F' v t := h
      rw [hK] at h2; exact h2, trivial⟩
  | sl i => exact h.elim
  | wd => exact h.elim
  | nw t =>
    obtain ⟨l, rfl, g, n, n0⟩ := h
    rw [hH] at n0
    rw [hK] at g
    refine ⟨⟨l, rfl, g, n, r.up.w l n0, fun i w h e => ?_⟩, fun l' e => by cases e; exact n0⟩
    rcases h with h | h
    · obtain ⟨l', e', g, _⟩ := r.ow i w h
      obtain ⟨o, ho, _⟩ := g.mb
      cases sat_unique e' e
      rw [n0] at ho; cases ho
    · obtain ⟨l', e', g, _⟩ := r.vw i w h
      obtain ⟨o, ho, _⟩ := g.mb
      cases sat_unique e' e
      rw [n0] at ho; cases ho
abbrev Bk.now (B : Bk) (F H : Hp) : Bk := { B with F0 := F, H0 := H }
theorem Up.of_now {F H F1 H1 F' H' : Hp} (u : Up (B.now F1 H1) F H F' H') : Up B F H F' H' := ⟨u.f, u.h, u.i, u.m, u.w, u.x, u.j⟩
theorem Rp.bkok {F H : Hp} {σ : St} (r : Rp B F H σ τ) : BkOk (B.now F H) := ⟨r.inc, fun p hw z => r.wa p hw (r.up.w p z), r.wf, r.wj⟩
theorem ArL.now {F F1 H1 : Hp} : ∀ {vs : List V} {as : List Ar}, ArL B F vs as → ArL (B.now F1 H1) F vs as
  | _, _, .nil => .nil
  | _, _, .cons (a := .fz _) h g => .cons (a := .fz _) h (ArL.now g)
  | _, _, .cons (a := .wd) h g => .cons (a := .wd) h (ArL.now g)
theorem e_callX {K : Fg} (hK : K = B.K) {S : SpT} {E : XK} {tA : TA} {Ψ : Addr → Prop} (hE : ∀ C F H, Up B B.F0 B.H0 F H → Ψ C → E (.ref C) none H) (h : EVW B tA τ fun as τ1 => ∀ F H, S (B.now F H) as (fun k => Φ k τ1) Ψ) : EV B (tCall (toSp K S) [] E tA) τ Φ := fun σ F H Q rp c => by
  subst hK
  unfold tCall
  simp only [List.append_nil]
  refine h σ F H _ rp fun vs F1 H1 as τ1 f1 r1 l1 h1 => ?_
  refine ⟨B.now F1 H1, as, _, _, rfl, rfl, r1.bkok, ?_, h1 F1 H1, fun v F2 H2 kd u ok φ => ?_, fun C F2 H2 u ψ => hE C F2 H2 (r1.up.trans u.of_now) ψ⟩
  · exact l1.now
  obtain ⟨a, b⟩ := ret_kd r1 (B' := B.now F1 H1) rfl rfl ok
  exact c.on f1 v F2 H2 kd τ1 (Fr.up u.of_now) (r1.go u.of_now) (by
    cases kd with
    | nw t => exact ⟨a.choose, a.choose_spec.1, a.choose_spec.2.1, a.choose_spec.2.2⟩
    | _ => exact a) b φ
theorem e_call {K : Fg} (hK : K = B.K) {S : SpT} {E : XK} {tA : TA} (h : EVW B tA τ fun as τ1 => ∀ F H, S (B.now F H) as (fun k => Φ k τ1) fun _ => False) : EV B (tCall (toSp K S) [] E tA) τ Φ := e_callX hK (fun _ _ _ _ z => z.elim) h
end
structure ET where
  nx : TSt → Prop
  rt : Kd → Prop
  bk : TSt → Prop
  ct : TSt → Prop
structure EO (B : Bk) (F : Hp) (D : Ends) (D' : ET) : Prop where
  nx : ∀ σ F' H τ, Same F F' → Rp B F' H σ τ → D'.nx τ → D.nx σ H
  rt : ∀ v F' H k, Up B B.F0 B.H0 F' H → RetOk B F' H v k → D'.rt k → D.rt v H
  bk : ∀ σ F' H τ, Same F F' → Rp B F' H σ τ → D'.bk τ → D.bk σ H
  ct : ∀ σ F' H τ, Same F F' → Rp B F' H σ τ → D'.ct τ → D.ct σ H
def SV (B : Bk) (t : TS) (τ : TSt) (D' : ET) : Prop := ∀ σ F H D, Rp B F H σ τ → EO B F D D' → t D σ H
section
variable {B : Bk} {τ τ' τ2 : TSt} {te ta tb : TE} {i k : Nat} {t u : Tr} {x : Kd} {ts us : List Tr} {s1 s2 : TS} {nx bk ct : TSt → Prop} {rt : Kd → Prop} {c : TT}
theorem EO.on {F F1 : Hp} {D : Ends} {D' : ET} (e : EO B F D D') (s : Same F F1) : EO B F1 D D' := ⟨fun σ F' H τ z => e.nx σ F' H τ (s.trans z), e.rt, fun σ F' H τ z => e.bk σ F' H τ (s.trans z), fun σ F' H τ z => e.ct σ F' H τ (s.trans z)⟩
theorem s_seq (h : SV B s1 τ ⟨fun τ1 => SV B s2 τ1 ⟨nx, rt, bk, ct⟩, rt, bk, ct⟩) : SV B (tSeq s1 s2) τ ⟨nx, rt, bk, ct⟩ := fun σ F H D r e => h σ F H _ r ⟨fun σ' F' H' τ' s r' h' => h' σ' F' H' D r' (e.on s), e.rt, e.bk, e.ct⟩
theorem s_next (h : nx τ) : SV B tNext τ ⟨nx, rt, bk, ct⟩ := fun σ F H D r e => e.nx σ F H τ (Same.refl _) r h
theorem s_drop (h : EV B te τ fun _ τ1 => nx τ1) : SV B (tDrop te) τ ⟨nx, rt, bk, ct⟩ := fun σ F H D r e => h σ F H _ r fun v F1 H1 k τ1 f r1 _ _ h1 => e.nx σ F1 H1 τ1 f.f r1 h1
def RtK (k : Kd) (τ : TSt) (R : Kd → Prop) : Prop := match k with
  | .fz t => R (.fz t)
  | .nw t => R (.nw t) ∨ R (.fz t)
  | .sl i => (∃ t, TAt τ i (.own t) ∧ (R (.nw t) ∨ R (.fz t))) ∨ ∃ t, TAt τ i (.fz t) ∧ R (.fz t)
  | .wd => False
theorem s_ret (h : EV B te τ fun k τ1 => RtK k τ1 rt) : SV B (tRet te) τ ⟨nx, rt, bk, ct⟩ := fun σ F H D r e => h σ F H _ r fun v F1 H1 k τ1 f r1 ok n h1 => by
  have fixed : ∀ l t, v = .ref l → Ow B.K F1 H1 l t → F1 l = none → B.H0 l = none → rt (.fz t) → D.rt v H1 := fun l t ev g nn n0 h => by
    subst ev
    obtain ⟨o, ho, mb⟩ := g.mb
    refine e.rt _ (upd F1 l o) H1 (.fz t) ⟨r1.up.f.trans (Same.new nn o), r1.up.h, fun q z hz => ?_, fun q z hz mz nz => ?_, r1.up.w, fun q hw nz => ?_, r1.up.j⟩ (g.is (Same.new nn o) (by rw [upd_same, ho])) h
    · by_cases hq : q = l
      · rw [hq, upd_same] at hz; cases hz; rw [hq]; exact ho
      · rw [upd_ne hq] at hz; exact r1.up.i q z hz
    · have : q ≠ l := fun e' => by rw [e', n0] at hz; cases hz
      rw [upd_ne this]; exact r1.up.m q z hz mz nz
    · have : q ≠ l := fun e' => r1.wa q hw (by rw [e']; exact n0)
      rw [upd_ne this]; exact r1.up.x q hw nz
  cases k with
  | fz t => exact e.rt v F1 H1 (.fz t) r1.up ok h1
  | nw t =>
    obtain ⟨l, ev, g, nn, n0, _⟩ := ok
    rcases h1 with h1 | h1
    · exact e.rt v F1 H1 (.nw t) r1.up ⟨l, ev, g, nn, n0⟩ h1
    · exact fixed l t ev g nn n0 h1
  | sl i =>
    rcases h1 with ⟨t, ht, h1⟩ | ⟨t, ht, h1⟩
    · obtain ⟨l, es, g, nn, n0⟩ := r1.ow i t ht
      have ev : v = .ref l := sat_unique ok es
      rcases h1 with h1 | h1
      · exact e.rt v F1 H1 (.nw t) r1.up ⟨l, ev, g, nn, n0⟩ h1
      · exact fixed l t ev g nn n0 h1
    · obtain ⟨w, es, g⟩ := r1.fz i t ht
      cases sat_unique es ok
      exact e.rt v F1 H1 (.fz t) r1.up g h1
  | wd => exact h1.elim
theorem rt_fz {R : Kd → Prop} (h : R (.fz t)) : RtK (.fz t) τ R := h
theorem rt_sl {R : Kd → Prop} (g : Gt τ k (.own t)) (h : R (.nw t)) : RtK (.sl k) τ R := .inl ⟨t, g.eq, .inl h⟩
theorem s_ifs (h : TV B c τ fun b τ1 => if b = true then SV B s1 τ1 ⟨nx, rt, bk, ct⟩ else SV B s2 τ1 ⟨nx, rt, bk, ct⟩) : SV B (tIfS c s1 s2) τ ⟨nx, rt, bk, ct⟩ := fun σ F H D r e => h σ F H _ r fun b F1 H1 τ1 f r1 h1 => by
  cases b with
  | true => rw [if_pos rfl] at h1 ⊢; exact h1 σ F1 H1 D r1 (e.on f.f)
  | false => rw [if_neg Bool.false_ne_true] at h1 ⊢; exact h1 σ F1 H1 D r1 (e.on f.f)
theorem s_cut (J : TSt → Prop) (h : SV B s1 τ ⟨J, rt, bk, ct⟩) (q : ∀ τ', J τ' → nx τ') : SV B s1 τ ⟨nx, rt, bk, ct⟩ := fun σ F H D r e => h σ F H D r ⟨fun σ F' H τ s r h => e.nx σ F' H τ s r (q τ h), e.rt, e.bk, e.ct⟩
def GA (B : Bk) (g : TG) (k : Kd) (τ : TSt) (N : TSt → Prop) : Prop := ∀ σ F H v (S : St → Hp → Prop), Rp B F H σ τ → KdOk B F H σ τ v k → (∀ σ' F' H' τ', Same F F' → Rp B F' H' σ' τ' → N τ' → S σ' H') → g v σ H S
theorem s_asg {g : TG} (h : EV B te τ fun k τ1 => GA B g k τ1 nx) : SV B (tAsg te g) τ ⟨nx, rt, bk, ct⟩ := fun σ F H D r e => h σ F H _ r fun v F1 H1 k τ1 f r1 ok _ h1 => h1 σ F1 H1 v _ r1 ok fun σ' F' H' τ' s r' n => e.nx σ' F' H' τ' (f.f.trans s) r' n
theorem g_fz {N : TSt → Prop} (s : Sto τ k (.fz t) τ') (h : N τ') : GA B (gName k) (.fz t) τ N := fun σ F H v S r ok q => q _ F H τ' (Same.refl _) (by have := r.setF (i := k) ok; rw [s.eq] at this; exact this) h
theorem g_nw {N : TSt → Prop} (s : Sto τ k (.own t) τ') (h : N τ') : GA B (gName k) (.nw t) τ N := fun σ F H v S r ok q => q _ F H τ' (Same.refl _) (by have := r.setN (i := k) ok; rw [s.eq] at this; exact this) h
theorem s_aug {ff : Int → Int → Int} {a : Int} (g : Gt τ k (.fz (.int a))) (h : EV B te τ fun x τ1 => ∃ b, x = .fz (.int b) ∧ ∃ τ2, Sto τ1 k (.fz (.int (ff a b))) τ2 ∧ nx τ2) : SV B (tAug k te (ipI ff)) τ ⟨nx, rt, bk, ct⟩ := fun σ F H D r e => by
  obtain ⟨v, ev, hv⟩ := r.fz _ _ g.eq
  cases hv
  refine ⟨_, ev, h σ F H _ r fun w F1 H1 kd τ1 f r1 ok _ ⟨b, e1, τ2, s, hn⟩ => ?_⟩
  subst e1
  cases ok
  refine ⟨a, b, rfl, rfl, ?_⟩
  have r2 := r1.setF (i := k) (v := .int (ff a b)) (t := .int (ff a b)) .int
  rw [s.eq] at r2
  exact e.nx _ F1 H1 τ2 f.f r2 hn
theorem sto2 {s : Sl} {N : TSt → Prop} (g : Sto τ k s τ') (h : N τ') : ∃ τ2, Sto τ k s τ2 ∧ N τ2 := ⟨τ', g, h⟩
def ItOk (B : Bk) (F : Hp) (J : It) (ts : List Tr) : Prop := ∀ σ τ F' H', Same F F' → Rp B F' H' σ τ → (∀ i t, ts[i]? = some t → J.go i H' ∧ ∀ x H2, J.yld i H' x H2 → ∃ F2, Up B F' H' F2 H2 ∧ Is B.K F2 x t) ∧ J.stop ts.length H'
def IV (B : Bk) (wi : TI) (τ : TSt) (Φ : List Tr → TSt → Prop) : Prop := ∀ σ F H (R : It → Hp → Prop), Rp B F H σ τ → (∀ J F' H' ts τ', Fr B σ τ F H τ' F' H' → Rp B F' H' σ τ' → ItOk B F' J ts → Φ ts τ' → R J H') → wi σ H R
theorem i_list {K : Fg} (hK : K = B.K) {Φ : List Tr → TSt → Prop} (h : EV B te τ fun x τ1 => AsF x τ1 fun t τ2 => ∃ ts, t = .lst ts ∧ Φ ts τ2) : IV B (iList K te) τ Φ := fun σ F H R r c => by
  subst hK
  refine h σ F H _ r fun v F1 H1 k τ1 f1 r1 ok1 n1 h1 => ?_
  obtain ⟨F2, t, τ2, f2, r2, i2, ⟨ts, e, h2⟩, _⟩ := asF_ok f1 r1 ok1 n1 h1
  subst e
  cases i2 with
  | lst a b =>
    refine ⟨_, rfl, ⟨_, r2.inc.seq a⟩, c _ F2 H1 ts τ2 f2 r2 (fun σ' τ' F' H' sF rH => ⟨fun i t e => ?_, ⟨_, rH.inc.seq (sF.seq a), by rw [b.length]; exact Nat.le_refl _⟩⟩) h2⟩
    obtain ⟨w, ew, hw⟩ := b.get e
    refine ⟨⟨_, w, rH.inc.seq (sF.seq a), ew⟩, fun x H2 y => ?_⟩
    obtain ⟨rfl, y2⟩ := y
    have := y2 _ (rH.inc.seq (sF.seq a))
    rw [ew] at this
    cases this
    exact ⟨F', Up.refl rH.inc, hw.same sF⟩
theorem t_lst {S : List Tr → Prop} (q : S ts) : ∃ ts', Tr.lst ts = .lst ts' ∧ S ts' := ⟨ts, rfl, q⟩
def rangeT (lo : Int) (n : Nat) : List Tr := (List.range n).map fun i => .int (lo + (i : Nat))
theorem rangeT_at {lo : Int} {n i : Nat} {t : Tr} (h : (rangeT lo n)[i]? = some t) : i < n ∧ t = .int (lo + (i : Nat)) := by
  unfold rangeT at h
  rw [List.getElem?_map] at h
  by_cases hi : i < n
  · rw [List.getElem?_range hi] at h; cases h; exact ⟨hi, rfl⟩
  · rw [List.getElem?_eq_none (by rw [List.length_range]; omega)] at h; cases h
theorem rangeT_len {lo : Int} {n : Nat} : (rangeT lo n).length = n := by unfold rangeT; rw [List.length_map, List.length_range]
theorem itr_ok {F : Hp} {lo : Int} {n : Nat} : ItOk B F (Itr lo n) (rangeT lo n) := fun σ' τ' F' H' sF rH => ⟨fun i t e => by
    obtain ⟨hi, rfl⟩ := rangeT_at e
    exact ⟨hi, fun x H2 y => by obtain ⟨rfl, rfl⟩ := y; exact ⟨F', Up.refl rH.inc, .int⟩⟩, by rw [rangeT_len]; exact Nat.le_refl _⟩
theorem i_rng1 {Φ : List Tr → TSt → Prop} (h : EV B te τ fun x τ1 => ∃ j, x = .fz (.int j) ∧ (-(2 ^ 62) ≤ j ∧ j < 2 ^ 62) ∧ Φ (rangeT 0 j.toNat) τ1) : IV B (iRng1 (tCons te tNil)) τ Φ := fun σ F H R r c => by
  refine h σ F H _ r fun v F1 H1 k τ1 f1 r1 ok1 n1 ⟨j, e, hb, h1⟩ => ?_
  subst e
  cases ok1
  exact ⟨j, rfl, hb.1, hb.2, c _ F1 H1 _ τ1 f1 r1 itr_ok h1⟩
theorem s_for {wi : TI} {g : TG} {tbd : TS} (h : IV B wi τ fun ts τ1 => ∃ I : Nat → TSt → Prop, I 0 τ1 ∧ (∀ i t τ2, ts[i]? = some t → I i τ2 → GA B g (.fz t) τ2 fun τ3 => SV B tbd τ3 ⟨I (i + 1), rt, nx, I (i + 1)⟩) ∧ ∀ τ2, I ts.length τ2 → nx τ2) : SV B (tFor wi g tbd) τ ⟨nx, rt, bk, ct⟩ := fun σ F H D r e => by
  refine h σ F H _ r fun J F1 H1 ts τ1 f1 r1 itk ⟨I, i0, step, fin⟩ => ?_
  refine ⟨fun i m σ H => ∃ F2 τ2, Same F1 F2 ∧ Rp B F2 H σ τ2 ∧ I i τ2 ∧ i ≤ ts.length ∧ m = ts.length - i, ⟨_, F1, τ1, Same.refl _, r1, i0, Nat.zero_le _, rfl⟩, ?_⟩
  rintro i m σ H ⟨F2, τ2, s2, r2, i2, hi, rfl⟩
  obtain ⟨itg, its⟩ := itk σ τ2 F2 H s2 r2
  by_cases hlt : i < ts.length
  · obtain ⟨g1, g2⟩ := itg i ts[i] (List.getElem?_eq_getElem hlt)
    refine .inr ⟨g1, fun σ' H' => ∃ F2 τ2, Same F1 F2 ∧ Rp B F2 H' σ' τ2 ∧ I (i + 1) τ2, fun σ' H' ⟨F2, τ2, a, b, c⟩ => ⟨_, by omega, F2, τ2, a, b, c, hlt, rfl⟩, fun x H3 y => ?_⟩
    obtain ⟨F3, u3, hx⟩ := g2 x H3 y
    refine step i ts[i] τ2 (List.getElem?_eq_getElem hlt) i2 σ F3 H3 x _ (r2.go u3) hx fun σ4 F4 H4 τ4 s4 r4 h4 => ?_
    have s14 := s2.trans (u3.f.trans s4)
    exact h4 σ4 F4 H4 _ r4 ⟨fun σ5 F5 H5 τ5 s5 r5 h5 => ⟨F5, τ5, s14.trans s5, r5, h5⟩, e.rt, fun σ5 F5 H5 τ5 s5 r5 h5 => e.nx σ5 F5 H5 τ5 (f1.f.trans (s14.trans s5)) r5 h5, fun σ5 F5 H5 τ5 s5 r5 h5 => ⟨F5, τ5, s14.trans s5, r5, h5⟩⟩
  · have ei : i = ts.length := by omega
    subst ei
    exact .inl ⟨its, e.nx σ F2 H τ2 (f1.f.trans s2) r2 (fin τ2 i2)⟩
theorem s_while {tbd : TS} (I : Nat → TSt → Prop) (m0 : Nat) (h0 : I m0 τ) (step : ∀ m τ1, I m τ1 → TV B c τ1 fun b τ2 => if b = true then SV B tbd τ2 ⟨fun τ3 => ∃ m', m' < m ∧ I m' τ3, rt, nx, fun τ3 => ∃ m', m' < m ∧ I m' τ3⟩ else nx τ2) : SV B (tWhile c tbd) τ ⟨nx, rt, bk, ct⟩ := fun σ F H D r e => by
  refine ⟨fun m σ H => ∃ F2 τ2, Same F F2 ∧ Rp B F2 H σ τ2 ∧ I m τ2, ⟨m0, F, τ, Same.refl _, r, h0⟩, ?_⟩
  rintro m σ H ⟨F2, τ2, s2, r2, i2⟩
  refine step m τ2 i2 σ F2 H _ r2 fun b F3 H3 τ3 f3 r3 h3 => ?_
  have s3 := s2.trans f3.f
  cases b with
  | true =>
    rw [if_pos rfl] at h3 ⊢
    refine ⟨fun σ' H' => ∃ m', m' < m ∧ ∃ F2 τ2, Same F F2 ∧ Rp B F2 H' σ' τ2 ∧ I m' τ2, fun σ' H' z => z, h3 σ F3 H3 _ r3 ⟨?_, e.rt, fun σ5 F5 H5 τ5 s5 r5 h5 => e.nx σ5 F5 H5 τ5 (s3.trans s5) r5 h5, ?_⟩⟩
    · rintro σ5 F5 H5 τ5 s5 r5 ⟨m', hm, h5⟩
      exact ⟨m', hm, F5, τ5, s3.trans s5, r5, h5⟩
    · rintro σ5 F5 H5 τ5 s5 r5 ⟨m', hm, h5⟩
      exact ⟨m', hm, F5, τ5, s3.trans s5, r5, h5⟩
  | false => rw [if_neg Bool.false_ne_true] at h3 ⊢; exact e.nx σ F3 H3 τ3 s3 r3 h3
end
end L2
namespace L2
open PySem PySem.Spec PyProof.Rows
def slOf : Ar → Sl
  | .fz t => .fz t
  | .wd => .wd
def startT (n : Nat) (as : List Ar) : TSt := as.map slOf ++ List.replicate (n - as.length) Sl.no
theorem startT_at {n : Nat} {as : List Ar} {i : Nat} {s : Sl} (h : TAt (startT n as) i s) : (∃ a, s = slOf a ∧ as[i]? = some a) ∨ s = .no := by
  unfold TAt startT at h
  by_cases hi : i < as.length
  · rw [List.getElem?_append_left (by rw [List.length_map]; exact hi), List.getElem?_map, List.getElem?_eq_getElem hi] at h
    cases h
    exact .inl ⟨_, rfl, List.getElem?_eq_getElem hi⟩
  · rw [List.getElem?_append_right (by rw [List.length_map]; omega), List.getElem?_replicate] at h
    split at h
    · cases h; exact .inr rfl
    · cases h
theorem rp_start {B : Bk} {N : List Str} {vs : List V} {as : List Ar} (k : BkOk B) (l : ArL B B.F0 vs as) : Rp B B.F0 B.H0 (start N vs) (startT N.length as) := by
  have got : ∀ i a, as[i]? = some a → ∃ v, SAt (start N vs) i v ∧ ArOk B B.F0 v a := fun i a h => by
    obtain ⟨v, hv, hi⟩ := l.get h
    refine ⟨v, ?_, hi⟩
    have hj := (List.getElem?_eq_some_iff.mp hv).1
    unfold SAt start
    rw [List.getElem?_append_left (by rw [List.length_map]; exact hj), List.getElem?_map, hv]
    rfl
  exact {
  up := Up.refl k.i
  wa := k.wa
  wf := k.wf
  wj := k.wj
  wd := fun j h => by
    rcases startT_at h with ⟨a, e, hu⟩ | e
    · cases a with
      | fz t => cases e
      | wd =>
        obtain ⟨v, e, hv⟩ := got j _ hu
        cases (show v = .ref B.rt from hv)
        exact e
    · cases e
  len := by unfold start startT; rw [List.length_append, List.length_append, List.length_map, List.length_map, List.length_replicate, List.length_replicate, l.length]
  fz := fun j t h => by
    rcases startT_at h with ⟨a, e, hu⟩ | e
    · cases a with
      | wd => cases e
      | fz u =>
        cases e
        obtain ⟨v, e, hv⟩ := got j _ hu
        exact ⟨v, e, hv⟩
    · cases e
  ow := fun j t h => by
    rcases startT_at h with ⟨a, e, hu⟩ | e
    · cases a <;> cases e
    · cases e
  vw := fun j t h => by
    rcases startT_at h with ⟨a, e, hu⟩ | e
    · cases a <;> cases e
    · cases e
  ap := fun _ b t u l h => by
    rcases startT_at h with ⟨a, e, hu⟩ | e
    · cases a <;> cases e
    · cases e
  av := fun _ b t u l h => by
    rcases startT_at h with ⟨a, e, hu⟩ | e
    · cases a <;> cases e
    · cases e }
theorem toSp_open {K : Fg} {S : SpT} {vs : List V} {H : Hp} {Q : VK} {E : XK} (h : toSp K S vs H Q E) : ∃ B as Φ Ψ, B.K = K ∧ S B as Φ Ψ ∧ (∀ C F' H', Up B B.F0 B.H0 F' H' → Ψ C → E (.ref C) none H') ∧ ∀ (N : List Str) (t : TS), SV B t (startT N.length as) ⟨fun _ => Φ (.fz .non), Φ, fun _ => False, fun _ => False⟩ → t { nx := fun _ H' => Q .non H', rt := Q } (start N vs) H := by
  obtain ⟨B, as, Φ, Ψ, hK, rfl, k, l, s, q, x⟩ := h
  refine ⟨B, as, Φ, Ψ, hK, s, x, fun N t sv => sv _ _ _ _ (rp_start k l) ⟨?_, ?_, ?_, ?_⟩⟩
  · intro σ F' H' τ _ r h
    exact q .non F' H' (.fz .non) r.up .non h
  · intro v F' H' k u ok h
    exact q v F' H' k u ok h
  · exact fun _ _ _ _ _ _ z => z
  · exact fun _ _ _ _ _ _ z => z
theorem s_go {B : Bk} {t : TS} {τ : TSt} {n : Nat} {ts : List Ar} {D : ET} (h : startT n ts = τ) (q : SV B t τ D) : SV B t (startT n ts) D := by rw [h]; exact q
inductive InR (τ : TSt) : List (Str × Nat) → TSt → Prop
  | nil : InR τ [] []
  | fz {x : Str} {k : Nat} {t : Tr} {r : List (Str × Nat)} {r' : TSt} : Gt τ k (.fz t) → InR τ r r' → InR τ ((x, k) :: r) (.fz t :: r')
  | own {x : Str} {k : Nat} {t : Tr} {r : List (Str × Nat)} {r' : TSt} : Gt τ k (.own t) → InR τ r r' → InR τ ((x, k) :: r) (.vw t :: r')
  | vw {x : Str} {k : Nat} {t : Tr} {r : List (Str × Nat)} {r' : TSt} : Gt τ k (.vw t) → InR τ r r' → InR τ ((x, k) :: r) (.vw t :: r')
  | wd {x : Str} {k : Nat} {r : List (Str × Nat)} {r' : TSt} : Gt τ k .wd → InR τ r r' → InR τ ((x, k) :: r) (.wd :: r')
  | no {x : Str} {k : Nat} {r : List (Str × Nat)} {r' : TSt} : InR τ r r' → InR τ ((x, k) :: r) (.no :: r')
theorem InR.at {τ : TSt} {fr : List (Str × Nat)} {τi : TSt} (h : InR τ fr τi) : τi.length = fr.length ∧ ∀ i s, TAt τi i s → ∃ x k, fr[i]? = some (x, k) ∧ ((s = .no ∨ (s = .wd ∧ TAt τ k .wd)) ∨ (∃ t, s = .fz t ∧ TAt τ k (.fz t)) ∨ ∃ t, s = .vw t ∧ (TAt τ k (.own t) ∨ TAt τ k (.vw t))) := by
  induction h with
  | nil => exact ⟨rfl, fun i s h => by unfold TAt at h; simp at h⟩
  | fz g _ ih =>
    refine ⟨by rw [List.length_cons, List.length_cons, ih.1], fun i s h => ?_⟩
    cases i with
    | zero => simp [TAt] at h; subst h; exact ⟨_, _, rfl, .inr (.inl ⟨_, rfl, g.eq⟩)⟩
    | succ i => exact ih.2 i s (by simpa [TAt] using h)
  | own g _ ih =>
    refine ⟨by rw [List.length_cons, List.length_cons, ih.1], fun i s h => ?_⟩
    cases i with
    | zero => simp [TAt] at h; subst h; exact ⟨_, _, rfl, .inr (.inr ⟨_, rfl, .inl g.eq⟩)⟩
    | succ i => exact ih.2 i s (by simpa [TAt] using h)
  | vw g _ ih =>
    refine ⟨by rw [List.length_cons, List.length_cons, ih.1], fun i s h => ?_⟩
    cases i with
    | zero => simp [TAt] at h; subst h; exact ⟨_, _, rfl, .inr (.inr ⟨_, rfl, .inr g.eq⟩)⟩
    | succ i => exact ih.2 i s (by simpa [TAt] using h)
  | no _ ih =>
    refine ⟨by rw [List.length_cons, List.length_cons, ih.1], fun i s h => ?_⟩
    cases i with
    | zero => simp [TAt] at h; subst h; exact ⟨_, _, rfl, .inl (.inl rfl)⟩
    | succ i => exact ih.2 i s (by simpa [TAt] using h)
  | wd g _ ih =>
    refine ⟨by rw [List.length_cons, List.length_cons, ih.1], fun i s h => ?_⟩
    cases i with
    | zero => simp [TAt] at h; subst h; exact ⟨_, _, rfl, .inl (.inr ⟨rfl, g.eq⟩)⟩
    | succ i => exact ih.2 i s (by simpa [TAt] using h)
section
variable {B : Bk} {F H : Hp} {σ : St} {τ τi : TSt} {fr : List (Str × Nat)}
theorem inSt_at {i k : Nat} {x : Str} {v : V} (h : fr[i]? = some (x, k)) (g : SAt σ k v) : SAt (inSt σ fr) i v := by
  unfold SAt inSt at *
  rw [List.getElem?_map, h]
  show some ((σ[k]?).join) = _
  rw [g]; rfl
theorem InR.rp (h : InR τ fr τi) (r : Rp B F H σ τ) : Rp B F H (inSt σ fr) τi where
  up := r.up
  wa := r.wa
  wf := r.wf
  wj := r.wj
  wd := fun i z => by
    obtain ⟨x, k, hk, (e | ⟨e, g⟩) | ⟨u, e, g⟩ | ⟨u, e, g⟩⟩ := h.at.2 i _ z
    · cases e
    · exact inSt_at hk (r.wd _ g)
    · cases e
    · cases e
  len := by unfold inSt; rw [List.length_map, h.at.1]
  fz := fun i t z => by
    obtain ⟨x, k, hk, (e | ⟨e, g⟩) | ⟨u, e, g⟩ | ⟨u, e, g⟩⟩ := h.at.2 i _ z
    · cases e
    · cases e
    · cases e
      obtain ⟨v, a, b⟩ := r.fz _ _ g
      exact ⟨v, inSt_at hk a, b⟩
    · cases e
  ow := fun i t z => by
    obtain ⟨x, k, hk, (e | ⟨e, g⟩) | ⟨u, e, g⟩ | ⟨u, e, g⟩⟩ := h.at.2 i _ z <;> cases e
  vw := fun i t z => by
    obtain ⟨x, k, hk, (e | ⟨e, g⟩) | ⟨u, e, g⟩ | ⟨u, e, g⟩⟩ := h.at.2 i _ z
    · cases e
    · cases e
    · cases e
    · cases e
      rcases g with g | g
      · obtain ⟨l, a, b, c, n0⟩ := r.ow _ _ g
        exact ⟨l, inSt_at hk a, b, c, fun hw => r.wa l hw n0⟩
      · obtain ⟨l, a, b, c⟩ := r.vw _ _ g
        exact ⟨l, inSt_at hk a, b, c⟩
  ap := fun a b t u l z => by
    obtain ⟨x, k, hk, (e | ⟨e, g⟩) | ⟨u, e, g⟩ | ⟨u, e, g⟩⟩ := h.at.2 a _ z <;> cases e
  av := fun a b t u l z => by
    obtain ⟨x, k, hk, (e | ⟨e, g⟩) | ⟨u, e, g⟩ | ⟨u, e, g⟩⟩ := h.at.2 a _ z <;> cases e
theorem InR.noown (h : InR τ fr τi) {i : Nat} {t : Tr} (z : TAt τi i (.own t)) : False := by
  obtain ⟨x, k, hk, (e | ⟨e, g⟩) | ⟨u, e, g⟩ | ⟨u, e, g⟩⟩ := h.at.2 i _ z <;> cases e
theorem Rp.consO {o : Option V} (r : Rp B F H σ τ) : Rp B F H (o :: σ) (.no :: τ) where
  up := r.up
  wa := r.wa
  wf := r.wf
  wj := r.wj
  wd := fun i z => by
    cases i with
    | zero => cases z
    | succ i => exact r.wd i z
  len := by rw [List.length_cons, List.length_cons, r.len]
  fz := fun i t z => by
    cases i with
    | zero => cases z
    | succ i => obtain ⟨v, a, b⟩ := r.fz i t z; exact ⟨v, a, b⟩
  ow := fun i t z => by
    cases i with
    | zero => cases z
    | succ i => exact r.ow i t z
  vw := fun i t z => by
    cases i with
    | zero => cases z
    | succ i => exact r.vw i t z
  ap := fun a b t u l ha hb ne hi hj => by
    cases a with
    | zero => cases ha
    | succ a =>
      cases b with
      | zero => cases hb
      | succ b => exact r.ap a b t u l ha hb (fun z => ne (by rw [z])) hi hj
  av := fun a b t u l ha hb hi hj => by
    cases a with
    | zero => cases ha
    | succ a =>
      cases b with
      | zero => cases hb
      | succ b => exact r.av a b t u l ha hb hi hj
theorem Rp.consF {v : V} {t : Tr} (r : Rp B F H σ τ) (h : Is B.K F v t) : Rp B F H (some v :: σ) (.fz t :: τ) := (r.consO (o := none)).setF (i := 0) h
theorem Rp.back {σi : St} {τ2 τ3 : TSt} {F' H' : Hp} (r : Rp B F H σ τ) (f : Fr B σi τ2 F H τ3 F' H') (no : ∀ i t, ¬ TAt τ2 i (.own t)) (ri : Rp B F' H' σi τ3) : Rp B F' H' σ τ ∧ Up B F H F' H' := by
  have up : Up B F H F' H' := ⟨f.f, fun p o nw hp => (f.k p o hp nw fun i t z => (no i t z).elim).1, ri.up.i, fun p o hp mb n => by
    by_cases hw : B.W p
    · exact ri.wf p hw
    · exact (f.k p o hp hw fun i t z => (no i t z).elim).2 mb n, f.h, fun p hw _ => ri.wf p hw, fun _ => ri.wj⟩
  exact ⟨r.go up, up⟩
theorem Rp.acc {acc : Addr} {o : HO} {ys : List V} (rb : Rp B F H σ τ) (hy : H acc = some (.lst ys)) (h0 : B.H0 acc = none) (na : F acc = none) (dis : ∀ i u, TAt τ i (.own u) ∨ TAt τ i (.vw u) → ¬ SAt σ i (.ref acc)) : Rp B F (upd H acc o) σ τ := {
      wa := rb.wa
      wf := rb.wf
      wj := B.jl _ _ (fun q hw => by
        have : q ≠ acc := fun e => rb.wa q hw (by rw [e]; exact h0)
        rw [upd_ne this]) (fun q φ z => by rw [upd_ne (ne_of z hy nofun)]; exact z) rb.wj
      wd := rb.wd
      up := { f := rb.up.f, h := fun q o nw z => by
                have : q ≠ acc := fun e => by rw [e, h0] at z; cases z
                rw [upd_ne this]; exact rb.up.h q o nw z
              i := fun q o z => by
                have : q ≠ acc := fun e => by rw [e, na] at z; cases z
                rw [upd_ne this]; exact rb.up.i q o z
              m := rb.up.m
              w := fun q z => rb.up.w q (upd_none z)
              x := rb.up.x
              j := fun z => B.jl _ _ (fun q hw => by
                have : q ≠ acc := fun e => rb.wa q hw (by rw [e]; exact h0)
                rw [upd_ne this]) (fun q φ z => by rw [upd_ne (ne_of z hy nofun)]; exact z) rb.wj }
      len := rb.len
      fz := rb.fz
      ow := fun j u z => by
        obtain ⟨l', a, b, c⟩ := rb.ow j u z
        have : l' ≠ acc := fun e => dis j u (.inl z) (by rw [← e]; exact a)
        exact ⟨l', a, b.to (Same.refl _) (fun o ho => by rw [upd_ne this]; exact ho), c⟩
      vw := fun j u z => by
        obtain ⟨l', a, b, c⟩ := rb.vw j u z
        have : l' ≠ acc := fun e => dis j u (.inr z) (by rw [← e]; exact a)
        exact ⟨l', a, b.to (Same.refl _) (fun o ho => by rw [upd_ne this]; exact ho), c⟩
      ap := rb.ap
      av := rb.av }
end
section
variable {B : Bk} {τ τi : TSt} {Φ : TK} {fr : List (Str × Nat)} {wi : TI} {te : TE}
theorem e_lc (h : IV B wi τ fun ts τ1 => ∃ τi, InR τ1 fr τi ∧ ts.length ≤ 100000 ∧ ∃ P : Nat → Tr → Prop, (∀ i t, ts[i]? = some t → EV B te (.fz t :: τi) fun k τ2 => AsF k τ2 fun o _ => P i o) ∧ ∀ os : List Tr, os.length = ts.length → (∀ i o, os[i]? = some o → P i o) → Φ (.nw (.lst os)) τ1) : EV B (tLC fr wi te) τ Φ := fun σ F H Q r c => by
  refine h σ F H _ r fun J F1 H1 ts τ1 f1 r1 itk ⟨τi, inr, hlen, P, step, fin⟩ => ?_
  intro acc hacc
  refine ⟨fun i m H2 => ∃ F2 vs os, Rp B F2 H2 σ τ1 ∧ Fr B σ τ1 F1 H1 τ1 F2 H2 ∧ H2 acc = some (.lst vs) ∧ F2 acc = none ∧ IsL B.K F2 vs os ∧ os.length = i ∧ (∀ j o, os[j]? = some o → P j o) ∧ i ≤ ts.length ∧ m = ts.length - i, ⟨_, F1, [], [], r1.go (r1.new hacc), Fr.up (r1.new hacc), upd_same, r1.inc.free hacc, .nil, rfl, fun j o z => (by cases z), Nat.zero_le _, rfl⟩, ?_⟩
  rintro i m H2 ⟨F2, vs, os, r2, f2, ha, na, l2, hos, hP, hi, rfl⟩
  obtain ⟨itg, its⟩ := itk σ τ1 F2 H2 f2.f r2
  have dis : ∀ (i : Nat) (u : Tr), TAt τ1 i (.own u) ∨ TAt τ1 i (.vw u) → ¬ SAt σ i (.ref acc) := fun i u hu hs => by
    rcases hu with hu | hu
    · obtain ⟨l', e', g, _⟩ := r1.ow i u hu
      obtain ⟨o, ho, _⟩ := g.mb
      cases sat_unique e' hs
      rw [hacc] at ho; cases ho
    · obtain ⟨l', e', g, _⟩ := r1.vw i u hu
      obtain ⟨o, ho, _⟩ := g.mb
      cases sat_unique e' hs
      rw [hacc] at ho; cases ho
  by_cases hlt : i < ts.length
  · obtain ⟨g1, g2⟩ := itg i ts[i] (List.getElem?_eq_getElem hlt)
    refine .inr ⟨g1, fun x H3 y => ?_⟩
    obtain ⟨F3, u3, hx⟩ := g2 x H3 y
    have r3 := r2.go u3
    have ri : Rp B F3 H3 (some x :: inSt σ fr) (.fz ts[i] :: τi) := (inr.rp r3).consF hx
    refine step i ts[i] (List.getElem?_eq_getElem hlt) _ F3 H3 _ ri fun v F4 H4 k τ4 f4 r4 ok4 n4 h4 => ?_
    obtain ⟨F5, o, τ5, f5, r5, i5, hp5, _⟩ := asF_ok f4 r4 ok4 n4 h4
    have noo' : ∀ j t, ¬ TAt (Sl.fz ts[i] :: τi) j (.own t) := fun j t z => by
      cases j with
      | zero => cases z
      | succ j => exact inr.noown z
    obtain ⟨rb, ub⟩ := r3.back f5 noo' r5
    have u25 := u3.trans ub
    have nwa : ¬ B.W acc := fun hw => r1.wa acc hw (r1.up.w acc hacc)
    have ha5 : H4 acc = some (.lst vs) := u25.h _ _ nwa ha
    have na5 : F5 acc = none := u25.m _ _ ha trivial na
    refine ⟨vs, ts.length - (i + 1), ha5, by rw [l2.length, hos]; exact Nat.lt_of_lt_of_le (Nat.lt_of_lt_of_le hlt hlen) (by decide), by omega, ?_⟩
    have r6 : Rp B F5 (upd H4 acc (.lst (vs ++ [v]))) σ τ1 := rb.acc ha5 (r1.up.w acc hacc) na5 dis
    have f6 : Fr B σ τ1 F1 H1 τ1 F5 (upd H4 acc (.lst (vs ++ [v]))) := by
      have f7 := f2.trans (Fr.up u25)
      refine ⟨f7.f, fun p o hp nw no => ?_, f7.o, fun p hp => ?_⟩
      · have : p ≠ acc := fun e => by rw [e, hacc] at hp; cases hp
        rw [upd_ne this]; exact f7.k p o hp nw no
      · by_cases e : p = acc
        · rw [e, upd_same] at hp; cases hp
        · rw [upd_ne e] at hp; exact f7.h p hp
    refine ⟨F5, vs ++ [v], os ++ [o], r6, f6, upd_same, na5, (l2.same u25.f).snoc i5, by rw [List.length_append, hos]; rfl, fun j q hj => ?_, hlt, rfl⟩
    rcases Nat.lt_or_ge j os.length with hjl | hjl
    · rw [List.getElem?_append_left hjl] at hj
      exact hP j q hj
    · rw [List.getElem?_append_right hjl] at hj
      have hz := (List.getElem?_eq_some_iff.mp hj).1
      rw [List.length_singleton] at hz
      have ej : j = i := by omega
      rw [show j - os.length = 0 by omega] at hj
      cases hj
      rw [ej]; exact hp5
  · have ei : i = ts.length := by omega
    subst ei
    exact .inl ⟨its, c _ F2 H2 (.nw (.lst os)) τ1 (f1.trans f2) r2 ⟨acc, rfl, .lst ha l2, na, r1.up.w acc hacc, dis⟩ (fun l e => by cases e; exact f1.h _ hacc) (fin os hos hP)⟩
end
end L2
namespace L2
open PySem PySem.Spec PyProof.Rows
section
variable {B : Bk} {F H : Hp} {σ : St} {τ τi : TSt} {fr : List (Str × Nat)}
theorem Rp.pre (r : Rp B F H σ τ) : ∀ (vs : List V) (ts : List Tr), IsL B.K F vs ts → Rp B F H (vs.map some ++ σ) (ts.map Sl.fz ++ τ)
  | _, _, .nil => r
  | _, _, .cons h g => (Rp.pre r _ _ g).consF h
end
section
variable {B : Bk} {τ τi : TSt} {Φ : TK} {fr : List (Str × Nat)} {wi : TI} {te : TE} {tc : TT} {g : TG} {k : Nat}
theorem e_lcg (Cut : Tr → List Tr → Prop) (hk : ∀ t as, Cut t as → as.length = k)
    (hg : ∀ t as, Cut t as → ∀ (F H : Hp) (v : V) (σb : St) (S : St → Hp → Prop), Same F H → Is B.K F v t → k ≤ σb.length → (∀ ws, IsL B.K F ws as → S (ws.map some ++ σb.drop k) H) → g v σb H S)
    (h : IV B wi τ fun ts τ1 => ∃ τi, InR τ1 fr τi ∧ ts.length ≤ 100000 ∧ ∃ P : Nat → Option Tr → Prop, (∀ i t, ts[i]? = some t → ∃ as, Cut t as ∧ TV B tc (as.map Sl.fz ++ τi) fun b τ2 => if b = true then EV B te τ2 fun k τ3 => AsF k τ3 fun o _ => P i (some o) else P i none) ∧ ∀ os : List (Option Tr), os.length = ts.length → (∀ i o, os[i]? = some o → P i o) → Φ (.nw (.lst (os.filterMap id))) τ1) : EV B (tLCG k fr wi g tc te) τ Φ := fun σ F H Q r c => by
  refine h σ F H _ r fun J F1 H1 ts τ1 f1 r1 itk ⟨τi, inr, hlen, P, step, fin⟩ => ?_
  intro acc hacc
  refine ⟨fun i m σb H2 => ∃ F2 vs os, Rp B F2 H2 σ τ1 ∧ Fr B σ τ1 F1 H1 τ1 F2 H2 ∧ H2 acc = some (.lst vs) ∧ F2 acc = none ∧ IsL B.K F2 vs (os.filterMap id) ∧ os.length = i ∧ (∀ j o, os[j]? = some o → P j o) ∧ i ≤ ts.length ∧ m = ts.length - i ∧ k ≤ σb.length ∧ σb.drop k = inSt σ fr, ⟨_, F1, [], [], r1.go (r1.new hacc), Fr.up (r1.new hacc), upd_same, r1.inc.free hacc, .nil, rfl, fun j o z => (by cases z), Nat.zero_le _, rfl, by rw [List.length_append, List.length_replicate]; omega, by rw [List.drop_append_of_le_length (by rw [List.length_replicate]; exact Nat.le_refl _), List.drop_replicate, Nat.sub_self]; rfl⟩, ?_⟩
  rintro i m σb H2 ⟨F2, vs, os, r2, f2, ha, na, l2, hos, hP, hi, rfl, hkb, hdb⟩
  obtain ⟨itg, its⟩ := itk σ τ1 F2 H2 f2.f r2
  have nwa : ¬ B.W acc := fun hw => r1.wa acc hw (r1.up.w acc hacc)
  have dis : ∀ (i : Nat) (u : Tr), TAt τ1 i (.own u) ∨ TAt τ1 i (.vw u) → ¬ SAt σ i (.ref acc) := fun i u hu hs => by
    rcases hu with hu | hu
    · obtain ⟨l', e', g, _⟩ := r1.ow i u hu
      obtain ⟨o, ho, _⟩ := g.mb
      cases sat_unique e' hs
      rw [hacc] at ho; cases ho
    · obtain ⟨l', e', g, _⟩ := r1.vw i u hu
      obtain ⟨o, ho, _⟩ := g.mb
      cases sat_unique e' hs
      rw [hacc] at ho; cases ho
  have more : ∀ {o : Option Tr}, P i o → ∀ (j : Nat) (q : Option Tr), (os ++ [o])[j]? = some q → P j q := fun {o} hp j q hj => by
    rcases Nat.lt_or_ge j os.length with hjl | hjl
    · rw [List.getElem?_append_left hjl] at hj
      exact hP j q hj
    · rw [List.getElem?_append_right hjl] at hj
      have hz := (List.getElem?_eq_some_iff.mp hj).1
      rw [List.length_singleton] at hz
      have ej : j = i := by omega
      rw [show j - os.length = 0 by omega] at hj
      cases hj
      rw [ej]; exact hp
  by_cases hlt : i < ts.length
  · obtain ⟨g1, g2⟩ := itg i ts[i] (List.getElem?_eq_getElem hlt)
    refine .inr ⟨g1, fun x H3 y => ?_⟩
    obtain ⟨F3, u3, hx⟩ := g2 x H3 y
    have r3 := r2.go u3
    obtain ⟨as, hcut, htv⟩ := step i ts[i] (List.getElem?_eq_getElem hlt)
    refine hg ts[i] as hcut F3 H3 x σb _ r3.inc hx hkb fun ws lw => ?_
    rw [hdb]
    have ri : Rp B F3 H3 (ws.map some ++ inSt σ fr) (as.map Sl.fz ++ τi) := Rp.pre (inr.rp r3) ws as lw
    have noo : ∀ j t, ¬ TAt (as.map Sl.fz ++ τi) j (.own t) := fun j t z => by
      unfold TAt at z
      rcases Nat.lt_or_ge j as.length with q | q
      · rw [List.getElem?_append_left (by rw [List.length_map]; exact q), List.getElem?_map, List.getElem?_eq_getElem q] at z
        cases z
      · rw [List.getElem?_append_right (by rw [List.length_map]; exact q)] at z
        exact inr.noown z
    have hwl : (ws.map some).length = k := by rw [List.length_map, lw.length, hk _ _ hcut]
    have hk2 : k ≤ (ws.map some ++ inSt σ fr).length := by rw [List.length_append, hwl]; omega
    have hd2 : (ws.map some ++ inSt σ fr).drop k = inSt σ fr := by rw [← hwl, List.drop_left]
    refine htv _ F3 H3 _ ri fun b F4 H4 τ4 f4 r4 h4 => ?_
    cases b with
    | false =>
      rw [if_neg Bool.false_ne_true] at h4 ⊢
      obtain ⟨rb, ub⟩ := r3.back f4 noo r4
      have u25 := u3.trans ub
      exact ⟨ts.length - (i + 1), by omega, F4, vs, os ++ [none], rb, f2.trans (Fr.up u25), u25.h _ _ nwa ha, u25.m _ _ ha trivial na, by rw [List.filterMap_append]; simpa using l2.same u25.f, by rw [List.length_append, hos]; rfl, more h4, hlt, rfl, hk2, hd2⟩
    | true =>
      rw [if_pos rfl] at h4 ⊢
      refine h4 _ F4 H4 _ r4 fun v F5 H5 kd τ5 f5 r5 ok5 n5 h5 => ?_
      obtain ⟨F6, o, τ6, f6, r6, i6, hp6, _⟩ := asF_ok f5 r5 ok5 n5 h5
      obtain ⟨rb, ub⟩ := r3.back (f4.trans f6) noo r6
      have u25 := u3.trans ub
      have ha5 : H5 acc = some (.lst vs) := u25.h _ _ nwa ha
      have na5 : F6 acc = none := u25.m _ _ ha trivial na
      have hvl : vs.length ≤ i := by rw [l2.length, ← hos]; exact List.length_filterMap_le _ _
      refine ⟨vs, ts.length - (i + 1), ha5, Nat.lt_of_le_of_lt hvl (Nat.lt_of_lt_of_le (Nat.lt_of_lt_of_le hlt hlen) (by decide)), by omega, ?_⟩
      have f6' : Fr B σ τ1 F1 H1 τ1 F6 (upd H5 acc (.lst (vs ++ [v]))) := by
        have f7 := f2.trans (Fr.up u25)
        refine ⟨f7.f, fun p o hp nw no => ?_, f7.o, fun p hp => ?_⟩
        · have : p ≠ acc := fun e => by rw [e, hacc] at hp; cases hp
          rw [upd_ne this]; exact f7.k p o hp nw no
        · by_cases e : p = acc
          · rw [e, upd_same] at hp; cases hp
          · rw [upd_ne e] at hp; exact f7.h p hp
      exact ⟨F6, vs ++ [v], os ++ [some o], rb.acc ha5 (r1.up.w acc hacc) na5 dis, f6', upd_same, na5, by rw [List.filterMap_append]; exact (l2.same u25.f).snoc i6, by rw [List.length_append, hos]; rfl, more hp6, hlt, rfl, hk2, hd2⟩
  · have ei : i = ts.length := by omega
    subst ei
    exact .inl ⟨its, c _ F2 H2 (.nw (.lst (os.filterMap id))) τ1 (f1.trans f2) r2 ⟨acc, rfl, .lst ha l2, na, r1.up.w acc hacc, dis⟩ (fun l e => by cases e; exact f1.h _ hacc) (fin os hos hP)⟩
theorem e_lcP {K : Fg} (hK : K = B.K) (h : IV B wi τ fun ts τ1 => ∃ τi, InR τ1 fr τi ∧ ts.length ≤ 100000 ∧ ∃ P : Nat → Option Tr → Prop, (∀ i t, ts[i]? = some t → ∃ a b, t = .tup [a, b] ∧ TV B tc (.fz a :: .fz b :: τi) fun b τ2 => if b = true then EV B te τ2 fun k τ3 => AsF k τ3 fun o _ => P i (some o) else P i none) ∧ ∀ os : List (Option Tr), os.length = ts.length → (∀ i o, os[i]? = some o → P i o) → Φ (.nw (.lst (os.filterMap id))) τ1) : EV B (tLCG 2 fr wi (gTup K 2 (gCons (gName 0) (gCons (gName 1) gNil))) tc te) τ Φ := by
  subst hK
  refine e_lcg (fun t as => ∃ a b, t = .tup [a, b] ∧ as = [a, b]) (fun t as e => by obtain ⟨a, b, _, rfl⟩ := e; rfl) (fun t as e F H v σb S i hi hk q => ?_) ?_
  · obtain ⟨a, b, rfl, rfl⟩ := e
    cases hi with
    | tup s l =>
      cases l with
      | cons h1 l =>
        cases l with
        | cons h2 l =>
          cases l
          refine ⟨_, _, rfl, i.tup s, rfl, _, _, rfl, _, _, rfl, rfl, ?_⟩
          have := q _ (.cons h1 (.cons h2 .nil))
          match σb, hk with
          | x :: y :: r, _ => exact this
  · intro σ F H R r c
    refine h σ F H R r fun J F' H' ts τ' f r' it ⟨τi, a, b, P, st, fin⟩ => c J F' H' ts τ' f r' it ⟨τi, a, b, P, fun i t e => ?_, fin⟩
    obtain ⟨a, b, e, tv⟩ := st i t e
    exact ⟨[a, b], ⟨a, b, e, rfl⟩, tv⟩
theorem t_yes {Ψ : Bool → TSt → Prop} (h : Ψ true τ) : TV B tYes τ Ψ := fun σ F H Q r c => c true F H τ Fr.refl r h
theorem s_setlc {iy : Nat} {nx bk ct : TSt → Prop} {rt : Kd → Prop} (h : EV B (tLC fr wi te) τ fun k τ1 => GA B (gName iy) k τ1 nx) : SV B (tSetLC iy fr wi te) τ ⟨nx, rt, bk, ct⟩ := fun σ F H D r e => h σ F H _ r fun v F1 H1 k τ1 f r1 ok _ h1 => h1 σ F1 H1 v _ r1 ok fun σ' F' H' τ' s r' n => e.nx σ' F' H' τ' (f.f.trans s) r' n
end
section
variable {B : Bk} {τ τ' : TSt} {Φ : TK} {x : Kd} {i j : Int} {ts : List Tr} {b : Bool} {t : Tr} {K : Fg}
theorem ru_len (hK : K = B.K) (rk : Rk τ x (.lst ts)) (q : Φ (.fz (.int (ts.length : Nat))) τ) : RU B (fun v H Q => ∃ p ys, [v] = [V.ref p] ∧ (SqL K H p ys ∨ SqT K H p ys) ∧ Q (.int (ys.length : Nat)) H) x τ Φ := fun σ F H v Q r a c => by
  subst hK
  obtain ⟨p, vs, rfl, s, l⟩ := rk.list r a
  refine ⟨p, vs, rfl, .inl s, ?_⟩
  rw [l.length]; exact c.pl r .int q
theorem ru_lenT (hK : K = B.K) (rk : Rk τ x (.tup ts)) (q : Φ (.fz (.int (ts.length : Nat))) τ) : RU B (fun v H Q => ∃ p ys, [v] = [V.ref p] ∧ (SqL K H p ys ∨ SqT K H p ys) ∧ Q (.int (ys.length : Nat)) H) x τ Φ := fun σ F H v Q r a c => by
  subst hK
  obtain ⟨p, vs, rfl, s, l⟩ := rk.tuple r a
  refine ⟨p, vs, rfl, .inr s, ?_⟩
  rw [l.length]; exact c.pl r .int q
theorem ru_toB (q : Φ (.fz (.int (if b = true then 1 else 0))) τ) : RU B (fun v H Q => (∃ i, [v] = [V.int i] ∧ Q (.int i) H) ∨ ∃ k, [v] = [V.bl k] ∧ Q (.int (if k = true then 1 else 0)) H) (.fz (.bl b)) τ Φ := fun σ F H v Q r a c => by
  cases pd_bl a
  exact .inr ⟨b, rfl, c.pl r .int q⟩
theorem ro_max2 (q : Φ (.fz (.int (if j > i then j else i))) τ) : RO B (fun v w H Q => ∃ i j, [v, w] = [V.int i, V.int j] ∧ Q (.int (if j > i then j else i)) H) (.fz (.int i)) (.fz (.int j)) τ Φ := fun σ F H v w Q r a b c => by
  cases pd_int a; cases pd_int b
  exact ⟨i, j, rfl, c.pl r .int q⟩
theorem ro_min2 (q : Φ (.fz (.int (if j < i then j else i))) τ) : RO B (fun v w H Q => ∃ i j, [v, w] = [V.int i, V.int j] ∧ Q (.int (if j < i then j else i)) H) (.fz (.int i)) (.fz (.int j)) τ Φ := fun σ F H v w Q r a b c => by
  cases pd_int a; cases pd_int b
  exact ⟨i, j, rfl, c.pl r .int q⟩
def tgT : Tr → Option Tg
  | .non => some .non
  | .bl _ => some .bl
  | .int _ => some .int
  | .str _ => some .str
  | .tup _ => some .tup
  | .lst _ => some .lst
  | .dct _ => some .dic
  | .ty _ => none
theorem is_tg {F H : Hp} {v : V} {g : Tg} (i : Same F H) (h : Is K F v t) (e : tgT t = some g) : tgIs K H v g := by
  cases h with
  | tup a b => cases e; exact ⟨_, i.tup a⟩
  | lst a b => cases e; exact ⟨_, i.seq a⟩
  | dct a b c => cases e; exact ⟨_, i _ _ a⟩
  | ty => cases e
  | _ => cases e; trivial
theorem ro_isi (hK : K = B.K) {n : String} {f : Tg → Bool} {g : Tg} (e : tgT t = some g) (q : Φ (.fz (.bl (f g))) τ) : RO B (fun v w H Q => rIsi K n f [v, w] H Q) (.fz t) (.fz (.ty n)) τ Φ := fun σ F H v w Q r a b c => by
  subst hK
  cases (show Is B.K F w (.ty n) from b)
  exact ⟨v, g, rfl, is_tg r.inc a e, c.pl r .bl q⟩
theorem ro_isiT (hK : K = B.K) {n : String} {f : Tg → Bool} {g : Tg} (e : tgT t = some g) (hb : f g = true) (q : Φ (.fz (.bl true)) τ) : RO B (fun v w H Q => rIsi K n f [v, w] H Q) (.fz t) (.fz (.ty n)) τ Φ := ro_isi hK e (by rw [hb]; exact q)
theorem ro_isiF (hK : K = B.K) {n : String} {f : Tg → Bool} {g : Tg} (e : tgT t = some g) (hb : f g = false) (q : Φ (.fz (.bl false)) τ) : RO B (fun v w H Q => rIsi K n f [v, w] H Q) (.fz t) (.fz (.ty n)) τ Φ := ro_isi hK e (by rw [hb]; exact q)
theorem ro_isNT (h : t.isN = true) (q : Φ (.fz (.bl true)) τ) : RO B rIsN (.fz t) (.fz .non) τ Φ := ro_isN (by rw [h]; exact q)
theorem ro_isNF (h : t.isN = false) (q : Φ (.fz (.bl false)) τ) : RO B rIsN (.fz t) (.fz .non) τ Φ := ro_isN (by rw [h]; exact q)
end
end L2
namespace L2
open PySem PySem.Spec PyProof.Rows
theorem t_len {α : Type} {l : List α} {n : Nat} {S : Prop} (h : l.length ≤ n) (q : S) : l.length ≤ n ∧ S := ⟨h, q⟩
def zip2T : List Tr → List Tr → List Tr
  | x :: r, y :: q => .tup [x, y] :: zip2T r q
  | _, _ => []
theorem zip2T_len : ∀ xs ys : List Tr, (zip2T xs ys).length = min xs.length ys.length
  | [], _ => by simp [zip2T]
  | _ :: _, [] => by simp [zip2T]
  | _ :: r, _ :: q => by
    simp only [zip2T, List.length_cons, zip2T_len r q]
    omega
theorem zip2T_at : ∀ (xs ys : List Tr) (i : Nat) (t : Tr), (zip2T xs ys)[i]? = some t → ∃ x y, xs[i]? = some x ∧ ys[i]? = some y ∧ t = .tup [x, y]
  | [], _, _, _, h => by simp [zip2T] at h
  | _ :: _, [], _, _, h => by simp [zip2T] at h
  | x :: r, y :: q, 0, t, h => by simp [zip2T] at h; exact ⟨x, y, rfl, rfl, h.symm⟩
  | _ :: r, _ :: q, i + 1, t, h => by
    obtain ⟨x, y, h1, h2, h3⟩ := zip2T_at r q i t (by simpa [zip2T] using h)
    exact ⟨x, y, by simpa using h1, by simpa using h2, h3⟩
def seqT : Tr → Option (Bool × List Tr)
  | .lst ts => some (false, ts)
  | .tup ts => some (true, ts)
  | _ => none
section
variable {B : Bk} {τ : TSt} {ta tb : TE}
theorem is_seq {K : Fg} {F H : Hp} {v : V} {t : Tr} {q : Bool} {ts : List Tr} (i : Same F H) (h : Is K F v t) (e : seqT t = some (q, ts)) : ∃ a xs, v = .ref a ∧ SqB q K H a xs ∧ IsL K F xs ts := by
  cases h with
  | lst a b => cases e; exact ⟨_, _, rfl, i.seq a, b⟩
  | tup a b => cases e; exact ⟨_, _, rfl, i.tup a, b⟩
  | _ => cases e
theorem SqB.same {q : Bool} {K : Fg} {H H' : Hp} {a : Addr} {xs : List V} (s : Same H H') (h : SqB q K H a xs) : SqB q K H' a xs := by
  cases q with
  | true => exact s.tup h
  | false => exact s.seq h
theorem i_zip {K : Fg} (hK : K = B.K) {Φ : List Tr → TSt → Prop} (h : EV B ta τ fun x τ1 => AsF x τ1 fun t τ2 => EV B tb τ2 fun y τ3 => AsF y τ3 fun u τ4 => ∃ q1 ts q2 us, seqT t = some (q1, ts) ∧ seqT u = some (q2, us) ∧ Φ (zip2T ts us) τ4) : IV B (iZip K (tCons ta (tCons tb tNil))) τ Φ := fun σ F H R r c => by
  subst hK
  refine h σ F H _ r fun v F1 H1 k τ1 f1 r1 ok1 n1 h1 => ?_
  obtain ⟨F2, t, τ2, f2, r2, i2, h2, _⟩ := asF_ok f1 r1 ok1 n1 h1
  refine h2 σ F2 H1 _ r2 fun w F3 H3 k3 τ3 f3 r3 ok3 n3 h3 => ?_
  obtain ⟨F4, u, τ4, f4, r4, i4, ⟨q1, ts, q2, us, e1, e2, h4⟩, _⟩ := asF_ok f3 r3 ok3 n3 h3
  obtain ⟨a1, xs, rfl, s1, l1⟩ := is_seq r4.inc (i2.same f4.f) e1
  obtain ⟨a2, ys, rfl, s2, l2⟩ := is_seq r4.inc i4 e2
  obtain ⟨_, _, ea, s1', l1'⟩ := is_seq (Same.refl F4) (i2.same f4.f) e1
  cases ea
  obtain ⟨_, _, eb, s2', l2'⟩ := is_seq (Same.refl F4) i4 e2
  cases eb
  refine ⟨q1, q2, a1, a2, rfl, ⟨xs, s1⟩, ⟨ys, s2⟩, c _ F4 H3 _ τ4 (f2.trans f4) r4 (fun σ' τ' F' H' sF rH => ⟨fun i t e => ?_, ?_⟩) h4⟩
  · obtain ⟨x0, y0, ex, ey, rfl⟩ := zip2T_at ts us i t e
    obtain ⟨w1, ew1, hw1⟩ := l1'.get ex
    obtain ⟨w2, ew2, hw2⟩ := l2'.get ey
    have t1 := SqB.same rH.inc (SqB.same sF s1')
    have t2 := SqB.same rH.inc (SqB.same sF s2')
    refine ⟨⟨_, _, w1, w2, t1, t2, ew1, ew2⟩, ?_⟩
    rintro x H2 ⟨p, y1, y2, rfl, hn, hy1, hy2, rfl⟩
    have g1 := hy1 _ t1
    have g2 := hy2 _ t2
    rw [ew1] at g1
    rw [ew2] at g2
    cases g1
    cases g2
    have u := rH.tup (vs := [w1, w2]) hn
    exact ⟨_, u, .tup (SqT.of upd_same) (.cons ((hw1.same sF).same u.f) (.cons ((hw2.same sF).same u.f) .nil))⟩
  · refine ⟨_, _, SqB.same rH.inc (SqB.same sF s1'), SqB.same rH.inc (SqB.same sF s2'), ?_⟩
    rw [l1'.length, l2'.length, zip2T_len]
    omega
end
section
variable {B : Bk} {τ τ' : TSt} {Φ : TK} {x y : Kd} {ts us : List Tr} {K : Fg}
end
end L2
namespace L2
open PySem PySem.Spec PyProof.Rows
inductive Dp : Nat → Tr → Prop
  | non {n : Nat} : Dp n .non
  | bl {n : Nat} {b : Bool} : Dp n (.bl b)
  | int {n : Nat} {i : Int} : Dp n (.int i)
  | str {n : Nat} {x : Str} : Dp n (.str x)
  | tup {n : Nat} {ts : List Tr} : (∀ t ∈ ts, Dp n t) → Dp (n + 1) (.tup ts)
  | lst {n : Nat} {ts : List Tr} : (∀ t ∈ ts, Dp n t) → Dp (n + 1) (.lst ts)
  | dct {n : Nat} : Dp n (.dct [])
theorem dp_nil {n : Nat} : ∀ t ∈ ([] : List Tr), Dp n t := fun _ h => absurd h List.not_mem_nil
theorem dp_cons {n : Nat} {t : Tr} {r : List Tr} (h : Dp n t) (g : ∀ t ∈ r, Dp n t) : ∀ u ∈ t :: r, Dp n u := List.forall_mem_cons.mpr ⟨h, g⟩
theorem alike_of {K : Fg} {F G H : Hp} {n : Nat} {t : Tr} (d : Dp n t) : ∀ {v w : V}, Same F H → Same G H → Is K F v t → Is K G w t → Alike K H n v w := by
  induction d with
  | non => intro v w i j a b; cases a; cases b; exact .non
  | bl => intro v w i j a b; cases a; cases b; exact .bl
  | int => intro v w i j a b; cases a; cases b; exact .int
  | str => intro v w i j a b; cases a; cases b; exact .str
  | dct =>
    intro v w i j a b
    cases a with
    | @dct p kvs _ h1 k1 _ =>
      cases b with
      | @dct q kvs' _ h2 k2 _ =>
        cases kvs with
        | cons _ _ => cases k1
        | nil =>
          cases kvs' with
          | cons _ _ => cases k2
          | nil => exact .dct (i _ _ h1) (j _ _ h2)
  | tup _ ih =>
    intro v w i j a b
    cases a with
    | tup s1 l1 =>
      cases b with
      | tup s2 l2 =>
        refine .tup (i.tup s1) (j.tup s2) (by rw [l1.length, l2.length]) fun k x y hx hy => ?_
        obtain ⟨t1, e1, h1⟩ := l1.get2 hx
        obtain ⟨t2, e2, h2⟩ := l2.get2 hy
        rw [e1] at e2
        cases e2
        exact ih t1 (List.mem_of_getElem? e1) i j h1 h2
  | lst _ ih =>
    intro v w i j a b
    cases a with
    | lst s1 l1 =>
      cases b with
      | lst s2 l2 =>
        refine .lst (i.seq s1) (j.seq s2) (by rw [l1.length, l2.length]) fun k x y hx hy => ?_
        obtain ⟨t1, e1, h1⟩ := l1.get2 hx
        obtain ⟨t2, e2, h2⟩ := l2.get2 hy
        rw [e1] at e2
        cases e2
        exact ih t1 (List.mem_of_getElem? e1) i j h1 h2
section
variable {B : Bk} {τ τ' : TSt} {Φ : TK} {x y : Kd} {ts us : List Tr} {K : Fg} {b : Bool}
theorem ro_alkT (hK : K = B.K) {n : Nat} (d : ∀ t ∈ ts, Dp n t) (hn : n ≤ 100) (r1 : Rk τ x (.tup ts)) (r2 : Rk τ y (.tup ts)) (q : Φ (.fz (.bl b)) τ) : RO B (rAlk K b) x y τ Φ := fun _ _ _ _ _ _ r a b c => by
  subst hK
  obtain ⟨p, vs, rfl, s, l⟩ := r1.tuple r a
  obtain ⟨p2, ws, rfl, s2, l2⟩ := r2.tuple r b
  refine ⟨p, p2, rfl, rfl, ⟨n, vs, ws, hn, .inl ⟨s, s2⟩, by rw [l.length, l2.length], fun j x y hx hy => ?_⟩, c.pl r .bl q⟩
  obtain ⟨t1, e1, h1⟩ := l.get2 hx
  obtain ⟨t2, e2, h2⟩ := l2.get2 hy
  rw [e1] at e2
  cases e2
  exact alike_of (d t1 (List.mem_of_getElem? e1)) r.inc r.inc h1 h2
end
section
variable {B : Bk} {τ : TSt} {Φ : TK}
theorem e_callD0 {K : Fg} (hK : K = B.K) {S : SpT} {E : XK} {tA : TA} {j : Int} (h : EVW B tA τ fun as τ1 => ∀ F H, S (B.now F H) (as ++ [.fz (.int j)]) (fun k => Φ k τ1) fun _ => False) : EV B (tCall (toSp K S) [.int j] E tA) τ Φ := fun σ F H Q rp c => by
  subst hK
  unfold tCall
  refine h σ F H _ rp fun vs F1 H1 as τ1 f1 r1 l1 h1 => ?_
  refine ⟨B.now F1 H1, _, _, _, rfl, rfl, r1.bkok, l1.now.app (.cons (a := .fz (.int j)) Is.int .nil), h1 F1 H1, fun v F2 H2 kd u ok φ => ?_, fun C F2 H2 u ψ => ψ.elim⟩
  obtain ⟨a, b⟩ := ret_kd r1 (B' := B.now F1 H1) rfl rfl ok
  exact c.on f1 v F2 H2 kd τ1 (Fr.up u.of_now) (r1.go u.of_now) (by
    cases kd with
    | nw t => exact ⟨a.choose, a.choose_spec.1, a.choose_spec.2.1, a.choose_spec.2.2⟩
    | _ => exact a) b φ
end
end L2
namespace L2
open PySem PySem.Spec PyProof.Rows
theorem isl2 {K : Fg} {F : Hp} {vs : List V} {t u : Tr} (h : IsL K F vs [t, u]) : ∃ v w, vs = [v, w] ∧ Is K F v t ∧ Is K F w u := by
  cases h with
  | cons a b =>
    cases b with
    | cons b c => cases c; exact ⟨_, _, rfl, a, b⟩
theorem arl2 {B : Bk} {F : Hp} {vs : List V} {t u : Tr} (h : ArL B F vs [.fz t, .fz u]) : ∃ v w, vs = [v, w] ∧ Is B.K F v t ∧ Is B.K F w u := by
  cases h with
  | cons a b =>
    cases b with
    | cons b c => cases c; exact ⟨_, _, rfl, a, b⟩
def addT (F H : Hp) : Hp := fun p => match F p with
  | some o => some o
  | none => match H p with
    | some (.tup xs) => some (.tup xs)
    | some (.frz o (.tup xs)) => some (.frz o (.tup xs))
    | _ => none
theorem addT_some {F H : Hp} {p : Addr} {o : HO} (h : addT F H p = some o) : F p = some o ∨ (F p = none ∧ H p = some o ∧ ¬ Mb o) := by
  unfold addT at h
  cases e : F p with
  | some o' => rw [e] at h; exact .inl h
  | none =>
    rw [e] at h
    refine .inr ⟨rfl, ?_⟩
    cases e2 : H p with
    | none => rw [e2] at h; cases h
    | some o2 =>
      rw [e2] at h
      cases o2 with
      | tup xs => cases h; exact ⟨rfl, fun z => z⟩
      | frz o3 u =>
        cases u with
        | tup xs => cases h; exact ⟨rfl, fun z => z⟩
        | _ => cases h
      | _ => cases h
theorem upT {B : Bk} {F H H' : Hp} (k : BkOk B) (hF : B.F0 = F) (hH : B.H0 = H) (s : Same H H') : Up B F H (addT F H') H' where
  f := fun b o e => by unfold addT; rw [e]
  h := fun p o _ e => s p o e
  i := fun p o e => by
    rcases addT_some e with e | ⟨_, e, _⟩
    · exact s p o (by rw [← hH]; exact k.i p o (by rw [hF]; exact e))
    · exact e
  m := fun p o hp mb n => by
    cases e : addT F H' p with
    | none => rfl
    | some o2 =>
      rcases addT_some e with e | ⟨_, e, nm⟩
      · rw [n] at e; cases e
      · have := s p o hp
        rw [this] at e
        cases e
        exact (nm mb).elim
  w := fun p e => s.free e
  x := fun p hw n => by
    cases e : addT F H' p with
    | none => rfl
    | some o2 =>
      rcases addT_some e with e | ⟨_, e, nm⟩
      · rw [n] at e; cases e
      · obtain ⟨o, ho, mb⟩ := B.jm H' p (B.jl H H' (fun p hw => by
          cases e : H p with
          | none => exact absurd (by rw [hH]; exact e) (k.wa p hw)
          | some o => rw [s p o e]) (fun p φ z => s p _ z) (by rw [← hH]; exact k.wj)) hw
        rw [ho] at e
        cases e
        exact (nm mb).elim
  j := fun h => B.jl _ _ (fun p hw => by
    cases e : H p with
    | none => exact absurd (by rw [hH]; exact e) (k.wa p hw)
    | some o => rw [s p o e]) (fun p φ z => s p _ z) h
theorem SqT.addT {K : Fg} {F H : Hp} {p : Addr} {xs : List V} (i : Same F H) (h : SqT K H p xs) : SqT K (addT F H) p xs := by
  rcases h with (h | ⟨o, h⟩) | h
  · refine .inl (.inl ?_)
    unfold L2.addT
    cases e : F p with
    | some o => exact (i p o e).symm.trans h
    | none => show (match H p with | some (.tup xs) => some (HO.tup xs) | some (.frz o (.tup xs)) => some (HO.frz o (.tup xs)) | _ => none) = _; rw [h]
  · refine .inl (.inr ⟨o, ?_⟩)
    unfold L2.addT
    cases e : F p with
    | some o2 => exact (i p o2 e).symm.trans h
    | none => show (match H p with | some (.tup xs) => some (HO.tup xs) | some (.frz o (.tup xs)) => some (HO.frz o (.tup xs)) | _ => none) = _; rw [h]
  · exact .inr h
end L2
namespace L2
open PySem PySem.Spec PyProof.Rows
def SVD (B : Bk) (D : Ends) (t : TS) (τ : TSt) : Prop := ∀ σ F H, Rp B F H σ τ → t D σ H
section
variable {B : Bk} {τ : TSt} {s1 s2 : TS} {D : Ends} {i j : Nat} {ts us : List Tr}
theorem d_seq (h : SV B s1 τ ⟨fun τ' => SVD B D s2 τ', fun _ => False, fun _ => False, fun _ => False⟩) : SVD B D (tSeq s1 s2) τ := fun σ F H r =>
  h σ F H _ r ⟨fun σ' F' H' τ' _ r' h' => h' σ' F' H' r', fun _ _ _ _ _ _ z => z.elim, fun _ _ _ _ _ _ z => z.elim, fun _ _ _ _ _ _ z => z.elim⟩
theorem d_sv {rt : Kd → Prop} (hD : ∀ v F' H' k, Up B B.F0 B.H0 F' H' → RetOk B F' H' v k → rt k → D.rt v H') (h : SV B s1 τ ⟨fun _ => False, rt, fun _ => False, fun _ => False⟩) : SVD B D s1 τ := fun σ F H r =>
  h σ F H _ r ⟨fun _ _ _ _ _ _ z => z.elim, hD, fun _ _ _ _ _ _ z => z.elim, fun _ _ _ _ _ _ z => z.elim⟩
end
def bkL (K : Fg) (F H : Hp) (p : Addr) (l : List (Addr × List V)) : Bk where
  K := K
  F0 := F
  H0 := H
  W := fun q => ∃ vs, (q, vs) ∈ l
  J := fun H' => ∀ x ∈ l, H' x.1 = some (.lst x.2)
  rt := p
  jl := fun H H' e _ h x hx => by rw [← e x.1 ⟨x.2, hx⟩]; exact h x hx
  jm := fun H q h hw => by
    obtain ⟨vs, hx⟩ := hw
    exact ⟨_, h _ hx, trivial⟩
section
variable {B : Bk} {τ : TSt} {σ : St} {F H F' H' : Hp} {p : Addr} {l : List (Addr × List V)} {k : Nat}
def ClB : TSt → Bool
  | [] => true
  | .no :: r => ClB r
  | .fz _ :: r => ClB r
  | _ :: _ => false
theorem cl_b : ∀ {τ : TSt}, ClB τ = true → ∀ i s, TAt τ i s → s = .no ∨ ∃ t, s = .fz t
  | [], _, i, s, h => by cases h
  | .no :: r, h, 0, s, e => by cases e; exact .inl rfl
  | .fz t :: r, h, 0, s, e => by cases e; exact .inr ⟨t, rfl⟩
  | .no :: r, h, i + 1, s, e => cl_b (τ := r) h i s e
  | .fz t :: r, h, i + 1, s, e => cl_b (τ := r) h i s e
variable {D : Ends} {s2 : TS}
variable {B' : Bk} {a b : Addr} {ws : List V} {ts us ms : List Tr}
theorem law_open {K : Fg} {H : Hp} {a : Addr} {ns : List Int} {Q : VK} (hS : SqL K H a (ns.map V.int)) (q : ∀ H', Q (.bl true) H') (N : List Str) (t : TS) (h : ∀ D : Ends, (∀ H', D.rt (.bl true) H') → SVD (bkL K H H a []) D t (startT N.length [.fz (.lst (ns.map Tr.int))])) : t { nx := fun _ H' => Q .non H', rt := Q } (start N [.ref a]) H :=
  h _ q _ H H (rp_start (B := bkL K H H a []) ⟨Same.refl _, fun q hw => (by obtain ⟨_, hx⟩ := hw; exact absurd hx List.not_mem_nil), fun q hw => (by obtain ⟨_, hx⟩ := hw; exact absurd hx List.not_mem_nil), fun x hx => absurd hx List.not_mem_nil⟩ (.cons (a := .fz _) (.lst hS (IsL.ofInts ns)) .nil))
theorem d_true {rt : Kd → Prop} {s1 : TS} (hD : ∀ H', D.rt (.bl true) H') (h : SV B s1 τ ⟨fun _ => False, fun k => k = .fz (.bl true), fun _ => False, fun _ => False⟩) : SVD B D s1 τ := d_sv (rt := fun k => k = .fz (.bl true)) (fun v F' H' k _ ok e => by
  subst e
  cases (show Is B.K F' v (.bl true) from ok)
  exact hD H') h
end
end L2
namespace L2
open PySem PySem.Spec PyProof.Rows
section
variable {B B' : Bk} {τ τ' : TSt} {D : Ends} {s2 : TS} {p a b : Addr} {vs ws : List V} {ts us : List Tr} {k : Nat}
end
end L2
namespace L2
open PySem PySem.Spec PyProof.Rows
section
variable {B : Bk} {τ τ' : TSt} {k : Nat}
abbrev Bk.at (B : Bk) (l : Addr) : Bk := { B with rt := l }
end
end L2
namespace L2
end L2
namespace L2
open PySem PySem.Spec PyProof.Rows
section
variable {B : Bk} {τ τ1 : TSt} {Φ : TK} {te : TE} {K : Fg} {x y : Kd}
end
end L2
namespace L2
open PySem PySem.Spec PyProof.Rows
section
variable {prog : Program} {w : World} {A : Around} {R : Result → Shared → Prop} {I : Addr} {fp wr : List Addr} {G : Array GenState → Array GenState → Prop} {n : Nat} {P : Nat → Value → Prop} {St : Nat → Shared → Prop}
end
end L2
namespace L2
open PySem PySem.Spec PyProof.Rows
section
variable {prog : Program} {w : World} {A : Around} {E : Value → Shared → Prop} {s : Shared}
abbrev noSet (b : Bool) : Obj := { cls := .type "set", dict := none, data := .set #[] 0 (.fresh 0 0 b) }
end
end L2
namespace L2
open PySem PySem.Spec PyProof.Rows
section
variable {X : Cx}
end
section
variable {B : Bk} {τ : TSt} {Φ : TK} {te : TE} {K : Fg} {P : Program} {w : World}
end
end L2
namespace L2
open PySem PySem.Spec PyProof.Rows
section
variable {prog : Program} {w : World} {A : Around} {E : Value → Shared → Prop} {s : Shared}
end
section
variable {X : Cx}
end
section
variable {B : Bk} {τ : TSt} {Φ : TK} {te : TE} {K : Fg} {P : Program} {w : World}
end
end L2
namespace L2
open PySem PySem.Spec PyProof.Rows
def Bk.lend (B : Bk) (F H : Hp) (l : Addr) (Ok : List V → Prop) : Bk where
  K := B.K
  F0 := F
  H0 := H
  W := fun q => B.W q ∨ q = l
  J := fun H' => B.J H' ∧ ∃ vs, H' l = some (.lst vs) ∧ Ok vs
  rt := l
  jl := fun H H' e x ⟨hj, vs, h, o⟩ => ⟨B.jl H H' (fun p hp => e p (.inl hp)) x hj, vs, by rw [← e l (.inr rfl)]; exact h, o⟩
  jm := fun H q ⟨hj, vs, h, _⟩ hw => by
    rcases hw with hw | rfl
    · exact B.jm H q hj hw
    · exact ⟨_, h, trivial⟩
def OnlyF : Nat → TSt → Bool
  | _, [] => false
  | 0, s :: r => (match s with | .wd => true | _ => false) && ClB r
  | k + 1, s :: r => (match s with | .no => true | .fz _ => true | _ => false) && OnlyF k r
theorem onlyF_at : ∀ {k : Nat} {τ : TSt}, OnlyF k τ = true → TAt τ k .wd ∧ ∀ i s, TAt τ i s → i = k ∨ s = .no ∨ ∃ t, s = .fz t
  | 0, [], h => by cases h
  | _ + 1, [], h => by cases h
  | 0, s :: r, h => by
    unfold OnlyF at h
    rw [Bool.and_eq_true] at h
    cases s with
    | wd =>
      refine ⟨rfl, fun i s e => ?_⟩
      cases i with
      | zero => exact .inl rfl
      | succ i => exact .inr (cl_b h.2 i s e)
    | _ => cases h.1
  | k + 1, s :: r, h => by
    unfold OnlyF at h
    rw [Bool.and_eq_true] at h
    obtain ⟨a, b⟩ := onlyF_at h.2
    refine ⟨a, fun i u e => ?_⟩
    cases i with
    | zero =>
      have e : some s = some u := e
      cases e
      cases s with
      | no => exact .inr (.inl rfl)
      | fz t => exact .inr (.inr ⟨t, rfl⟩)
      | _ => cases h.1
    | succ i =>
      rcases b i u e with z | z
      · exact .inl (congrArg (· + 1) z)
      · exact .inr z
section
variable {B : Bk} {τ τ1 : TSt} {k : Nat} {F H F2 H2 : Hp} {σ : St} {l : Addr} {Ok : List V → Prop}
theorem Rp.lendM {t : Tr} {vs : List V} (r : Rp B F H σ τ) (g : TAt τ k (.own t)) (e : SAt σ k (.ref l)) (fl : F l = none) (hl : H l = some (.lst vs)) (ok : Ok vs) (cl : OnlyF k (τ.set k .wd) = true) : Rp (B.lend F H l Ok) F H σ (τ.set k .wd) := by
  obtain ⟨hk, hc⟩ := onlyF_at cl
  have no : ∀ i u, TAt (τ.set k .wd) i u → (∃ t, u = .own t) ∨ (∃ t, u = .vw t) → False := fun i u h z => by
    rcases hc i u h with rfl | rfl | ⟨t, rfl⟩
    · cases tat_unique hk h
      rcases z with ⟨_, z⟩ | ⟨_, z⟩ <;> cases z
    · rcases z with ⟨_, z⟩ | ⟨_, z⟩ <;> cases z
    · rcases z with ⟨_, z⟩ | ⟨_, z⟩ <;> cases z
  exact {
  up := Up.refl r.inc
  wa := fun q hw z => by
    rcases hw with hw | rfl
    · obtain ⟨o, ho, _⟩ := B.jm H q r.wj hw
      rw [show H q = none from z] at ho; cases ho
    · rw [show H q = none from z] at hl; cases hl
  wf := fun q hw => by
    rcases hw with hw | rfl
    · exact r.wf q hw
    · exact fl
  wj := ⟨r.wj, vs, hl, ok⟩
  wd := fun i h => by
    rcases hc i _ h with rfl | z | ⟨_, z⟩
    · exact e
    · cases z
    · cases z
  len := by rw [List.length_set]; exact r.len
  fz := fun i t h => by
    rcases tset h with ⟨_, z, _⟩ | ⟨_, h⟩
    · cases z
    · exact r.fz i t h
  ow := fun i t h => (no i _ h (.inl ⟨t, rfl⟩)).elim
  vw := fun i t h => (no i _ h (.inr ⟨t, rfl⟩)).elim
  ap := fun i j t u l h => (no i _ h (.inl ⟨t, rfl⟩)).elim
  av := fun i j t u l h => (no i _ h (.inl ⟨t, rfl⟩)).elim }
end
end L2
namespace L2
open PySem PySem.Spec PyProof.Rows
section
variable {B : Bk} {τ : TSt} {ta tb tc : TE}
def stepT (lo c : Int) (n : Nat) : List Tr := (List.range n).map fun i => .int (lo + (i : Nat) * c)
theorem stepT_len {lo c : Int} {n : Nat} : (stepT lo c n).length = n := by unfold stepT; rw [List.length_map, List.length_range]
theorem stepT_at {lo c : Int} {n i : Nat} {t : Tr} (h : (stepT lo c n)[i]? = some t) : i < n ∧ t = .int (lo + (i : Nat) * c) := by
  unfold stepT at h
  rw [List.getElem?_map] at h
  by_cases hi : i < n
  · rw [List.getElem?_range hi] at h
    cases h
    exact ⟨hi, rfl⟩
  · rw [List.getElem?_eq_none (by rw [List.length_range]; omega)] at h
    cases h
end
end L2
namespace L2
open PySem PySem.Spec PyProof.Rows
section
variable {B : Bk} {τ : TSt} {Φ : TK} {x y : Kd} {ts us : List Tr} {K : Fg}
end
end L2
namespace L2
open PySem PySem.Spec PyProof.Rows PySem.W
section
variable {X : Cx} {pins : Pn} {σ : St} {H : Hp} {s : Shared}
end
section
variable {X : Cx} {pins : Pn} {σ : St} {H : Hp} {s : Shared} {A : Around} {f : Value} {b : Bool} {vs : List Value} {kz : List Int} {kS a : Addr} {e1 : Nat} {R : PySem.Fin → Shared → Prop} {E : Value → Shared → Prop}
end
end L2
namespace L2
open PySem PySem.Spec PyProof.Rows PySem.W
section
variable {X : Cx} {pins : Pn} {σ : St} {H : Hp} {s : Shared} {E : Value → Shared → Prop}
end
end L2
namespace L2
open PySem PySem.Spec PyProof.Rows PySem.W PySem.Calls
end L2
namespace L2
open PySem PySem.Spec PyProof.Rows
end L2
namespace L2
open PySem PySem.Spec PyProof.Rows
section
variable {P : Program} {w : World} {K : Fg} {mg : Str → Option Value} {base : Heap}
end
end L2
namespace L2
open PySem PySem.Spec PyProof.Rows PySem.W PySem.Calls
theorem best_min (f : Nat → Int) : ∀ n, argBest (fun i j => decide (f i < f j)) n ≤ n ∧ ∀ j, j ≤ n → f (argBest (fun i j => decide (f i < f j)) n) ≤ f j
  | 0 => ⟨Nat.le_refl _, fun j hj => by rw [Nat.le_zero.mp hj]; exact Int.le_refl _⟩
  | n + 1 => by
    obtain ⟨h1, h2⟩ := best_min f n
    unfold argBest
    by_cases h : f (n + 1) < f (argBest (fun i j => decide (f i < f j)) n)
    · rw [if_pos (decide_eq_true h)]
      refine ⟨Nat.le_refl _, fun j hj => ?_⟩
      rcases Nat.lt_or_ge j (n + 1) with k | k
      · have := h2 j (by omega); omega
      · rw [show j = n + 1 by omega]; exact Int.le_refl _
    · rw [if_neg (by rw [decide_eq_true_eq]; exact h)]
      refine ⟨by omega, fun j hj => ?_⟩
      rcases Nat.lt_or_ge j (n + 1) with k | k
      · exact h2 j (by omega)
      · rw [show j = n + 1 by omega]; omega
def IsMin (ns : List Int) (m : Int) : Prop := m ∈ ns ∧ ∀ n ∈ ns, m ≤ n
theorem min_is {l : List (Int × Tok)} {ns : List Int} {m : Int} (e : l.map (·.1) = ns) (hm : IsMin ns m) : numAt l.toArray (argBest (fun i j => decide (numAt l.toArray i < numAt l.toArray j)) (l.toArray.size - 1)) = m := by
  obtain ⟨hb, hmin⟩ := best_min (numAt l.toArray) (l.toArray.size - 1)
  have hlen : l.length = ns.length := by rw [← e, List.length_map]
  obtain ⟨j, hj, ej⟩ := List.getElem_of_mem hm.1
  have hs : l.toArray.size = ns.length := by rw [List.size_toArray, hlen]
  generalize argBest (fun i j => decide (numAt l.toArray i < numAt l.toArray j)) (l.toArray.size - 1) = k at *
  have hk : k < ns.length := by omega
  have a1 := numAt_of e (List.getElem?_eq_getElem hk)
  have a2 := numAt_of e (List.getElem?_eq_getElem hj)
  have a3 := hmin j (by omega)
  have a4 := hm.2 _ (List.getElem_mem hk)
  omega
def rMin (K : Fg) : List V → Hp → VK → Prop := fun xs H Q => ∃ (p : Addr) (ns : List Int) (m : Int), xs = [.ref p] ∧ SqL K H p (ns.map V.int) ∧ IsMin ns m ∧ Q (.int m) H
section
variable {X : Cx}
theorem call_minL (hc : X.calm = true) : CallR X (.builtin "min") (rMin X.K) := by
  intro pins s σ H xs us Q I r h
  obtain ⟨p, ns, m, rfl, hq, hm, q⟩ := h
  obtain ⟨u, rfl, ru⟩ := r.one
  cases ru
  obtain ⟨its, v, pl, _⟩ := I.list hq
  obtain ⟨l, e1, e2⟩ := ints_of v
  have hl : s.heap.IsList p (intItems l.toArray) := by
    have := pl.isList
    rw [e1] at this
    unfold intItems
    rw [List.map_toArray]
    exact this
  have hs : l.toArray.size = ns.length := by rw [List.size_toArray, ← e2, List.length_map]
  refine min_intList (I.ok.hd hc) hl (by rw [hs]; exact List.length_pos_of_mem hm.1) fun v h' tk hv k => ?_
  obtain ⟨t, rfl⟩ := intItems_at hv
  rw [min_is e2 hm]
  exact ⟨.int m, H, I.kept k, ⟨_, rfl⟩, q⟩
end
end L2
namespace L2
open PySem PySem.Spec PyProof.Rows
section
variable {B : Bk} {K : Fg} {τ : TSt} {Φ : TK} {x : Kd} {ns : List Int}
theorem ru_minL {m : Int} (hK : K = B.K) (rk : Rk τ x (.lst (ns.map Tr.int))) (hm : IsMin ns m) (q : Φ (.fz (.int m)) τ) : RU B (fun v H Q => rMin K [v] H Q) x τ Φ := fun σ F H v Q r a c => by
  subst hK
  obtain ⟨p, vs, rfl, s, l⟩ := rk.list r a
  cases l.ints
  exact ⟨p, ns, m, rfl, s, hm, c.pl r .int q⟩
end
end L2
namespace L2
open PySem PySem.Spec
section
variable {B : Bk} {τ τ' : TSt} {Φ : TK} {te ta : TE}
end
end L2
namespace L2
open PySem PySem.Spec
section
variable {B : Bk} {τ τ' : TSt} {N : TSt → Prop} {ti : TE}
variable {Φ : TK} {te : TE}
end
end L2
namespace L2
open PySem PySem.Spec PyProof.Rows
section
variable {X : Cx}
end
section
variable {B : Bk} {τ : TSt} {Φ : TK}
end
end L2
namespace L2
open PySem PySem.Spec PyProof.Rows
section
variable {X : Cx} {x : Str} {C : Addr}
variable {p pos : Pos} {e0 : Expr} {es : List Expr} {t : TA}
end
end L2
namespace PySem
open Sem (wp)
section
open PySem.W
variable {prog : Program} {w : World} {A : Around} {h : Heap} {g : Array GenState} {d : Drawn} {t : Nat} {os : OsState} {E : Value → Shared → Prop}
variable {nm q : Str} {C N fI : Addr} {bs bm bmB : List Value} {hdct : Bool} {sn : List Str} {sub : List Value} {ab : Bool} {col : Option Bool} {dd : Option Addr} {k0 k1 k2 k3 k5 : Option Value} {B Bn newId nid initId inN : String} {bmN : List Value}
end
end PySem
namespace L2
open PySem PySem.Spec PyProof.Rows
section
open PySem.W PySem.Calls PySem.Builtin PySem.Builtin.ObjectAttr
variable {prog : Program} {w : World} {A : Around} {E : Value → Shared → Prop} {s : Shared} {K : Frag} {a C : Addr} {oe : Obj}
end
end L2
namespace L2
open PySem PySem.Spec PyProof.Rows
section
variable {P : Program} {w : World} {H : Hp} {h : Heap} {a C dx t : Addr} {oe : Obj} {vs : Array Value}
end
section
variable {X : Cx} {pins : Pn} {σ : St} {H : Hp} {s : Shared}
end
section
variable {X : Cx} {k : Nat} {C fI : Addr} {fd : FuncData} {f : Str}
end
end L2
namespace L2
open PySem PySem.Spec PyProof.Rows
section
variable {X : Cx} {x : Str} {C fI : Addr} {r : List V → Hp → VK → Prop} {p pos : Pos} {e0 : Expr} {es : List Expr} {t : TA}
end
section
variable {X : Cx} {k : Nat} {f : Addr} {fd : FuncData} {ps : List Str} {sp : Sp} {dvs : List V} {ds : List Value} {fx cx n : Str} {p cpos epos np hpos pos : Pos} {e : Expr} {es : List Expr} {t : TA} {T C : Addr} {b0 : Stmt} {suite : List Stmt} {ts : Addr → TS} {j : Nat}
end
end L2
namespace PySem
section
variable {M : Model} {A : Around} {E : Value → Shared → Prop} {s : Shared} {env : Env}
variable {nm q : Str} {C N : Addr} {bs bm : List Value} {hdct : Bool} {sn : List Str} {sub : List Value} {ab : Bool} {col : Option Bool} {dd : Option Addr} {k0 k1 k2 k3 k5 : Option Value} {newId : String}
end
end PySem
namespace L2
open PySem PySem.Spec PyProof.Rows
section
variable {P : Program} {w : World} {K : Fg} {mg : Str → Option Value} {base : Heap} {N : List Str} {qual : Str} {scope : Scope} {f : Addr} {cd : Value} {A : Around} {outer : List Env} {s : Shared} {H : Hp} {E : XK}
  {pins : Pn} {σ : St} {H1 : Hp} {s1 : Shared} {a C dx : Addr} {fld : Str} {v : V}
end
section
variable {X : Cx} {k : Nat} {C fI : Addr} {fd : FuncData} {f : Str}
variable {E : XK} {x : Str} {np cpos pos : Pos} {e0 : Expr} {es : List Expr} {t : TA}
end
end L2
namespace PySem
section
variable {M : Model} {A : Around} {E : Value → Shared → Prop} {s : Shared} {base : Heap} {env : Env} {outer l : List Env} {L e : Addr} {cls : Value} {dx : Option Addr} {Q : Unit → Shared → Prop}
theorem flightX {fl : Value} {fr : Option Addr} (z : Heap.OnX base l e cls dx fl s.heap) (k : ∀ h', Heap.OnX base l e cls dx (fr.elim .none fun f => rawInt f) h' → s.heap.UpToSlots h' → Q () { s with heap := h' }) : wpAny M A (setFlight (.ref e) fr) Q E s := by
  obtain ⟨hB, hn, hF, x, vs, T, y, ts, hx, hc, hv, h1, nT, Te, hT, hy, h3⟩ := z
  have ot : ∀ b, b ≠ T → (s.heap.update T (Obj.mapFields (·.setIfInBounds 3 (fr.elim Value.none fun f => rawInt f)))).get? b = s.heap.get? b := fun b hb => Heap.get?_update_other _ _ (Ne.symm hb)
  have nr : ∀ b o, s.heap.get? b = some o → (∀ vs, o.data ≠ .fields vs) → b ≠ T := fun b o q hnf z => by rw [z, hT] at q; cases q; exact hnf ts hy
  have sz := (Array.getElem?_eq_some_iff.mp h3).1
  unfold setFlight
  refine wpAny_bind (wpAny_field hx hv h1 ?_)
  rw [if_pos (show (Value.ref T != Value.none) = true from by simp)]
  refine wpAny_setField hT hy sz (k _ ⟨fun b o q => (ot b fun z => by rw [z, nT] at q; cases q).trans (hB b o q), hn, hF.of_keeps fun b o q hnf => ⟨o, (ot b (nr b o q hnf)).trans q, rfl⟩,
    x, vs, T, _, _, (ot e (Ne.symm Te)).trans hx, hc, hv, h1, nT, Te, Heap.get?_update_self _ hT (Obj.isFreed_of_fields (Obj.data_mapFields hy _)), Obj.data_mapFields hy _, by simp [sz]⟩
    fun b o q hnf => ⟨o.slots, (ot b (nr b o q hnf)).trans q⟩)
def Heap.StX (h base : Heap) (e : Addr) (cls : Value) (dx : Option Addr) (L : Addr) : Prop :=
  (∃ (x : Obj) (vs : Array Value), h.get? e = some x ∧ (x.cls = cls ∧ x.dict = dx ∧ (dx = none → vs[2]? = some .none)) ∧ x.data = .fields vs ∧ vs[1]? = some .none) ∨ h.TrX base e cls dx .none ∨ h.TrX base e cls dx (rawInt L)
theorem noteS (hA : A.frames = some (env :: outer)) (hL : env.frame = some L) (hB : base.StaysIn s.heap) (hn : base.get? e = none) (hF : s.heap.FunFrames base (env :: outer)) (z : s.heap.StX base e cls dx L)
    (k : ∀ h', Heap.OnX base (env :: outer) e cls dx (rawInt L) h' → s.heap.UpToSlots h' → Q () { s with heap := h' }) : wpAny M A (noteFrame (.ref e) env) Q E s := by
  rcases z with ⟨x, vs, hx, ⟨hc, hd, hc2⟩, hv, h1⟩ | z | z
  · subst hc hd
    unfold noteFrame
    simp only [hL]
    refine wpAny_bind (wpAny_field hx hv h1 ?_)
    rw [if_neg (by decide)]
    exact noteX hA hF hL hx hB hn hv (Array.getElem?_eq_some_iff.mp h1).1 hc2 k
  · exact looksX hA hL ⟨hB, hn, hF, z⟩ k
  · obtain ⟨x, vs, T, y, ts, hx, hc, hv, h1, nT, Te, hT, hy, h3⟩ := id z
    unfold noteFrame
    simp only [hL]
    refine wpAny_bind (wpAny_field hx hv h1 ?_)
    rw [if_pos (show (Value.ref T != Value.none) = true from by simp)]
    refine wpAny_bind (wpAny_field hT hy h3 ?_)
    rw [if_pos (show (rawInt L == rawInt L) = true from by simp)]
    exact wpAny_pure (k s.heap ⟨hB, hn, hF, z⟩ (.refl _))
end
end PySem
namespace L2
open PySem PySem.Spec PyProof.Rows
structure Way (X : Cx) (H' : Hp) (B : Heap) (a : Addr) (s' : Shared) : Prop where
  os : s'.os = X.s₀.os
  bare : AllBare s'.gens
  hok : HOk X.prog X.w H' B
  st : B.StaysIn s'.heap
  na : B.get? a = none
  ff : s'.heap.FunFrames B X.stack
  un : Un (frs X.outer) [] X.H₀ H' X.s₀.heap s'.heap
  kU : ∀ b o, X.s₀.heap.get? b = some o → X.H₀ b = none → b ∉ frs X.outer → B.get? b = some o
  kT : ∀ b o, X.s₀.heap.get? b = some o → b ∉ frs X.outer → ∃ o', B.get? b = some o'
def XeS (X : Cx) (E : XK) : Value → Shared → Prop := fun e s' => ∃ (a C : Addr) (dx : Option Addr) (H' : Hp) (B : Heap), e = .ref a ∧ Way X H' B a s' ∧ s'.heap.StX B a (.ref C) dx X.env.locals ∧ E (.ref C) dx H'
section
variable {X : Cx} {E : XK} {H' : Hp} {B h2 : Heap} {a : Addr} {s' : Shared} {cls : Value} {dx : Option Addr} {fl : Value}
theorem Way.move (w : Way X H' B a s') (hst : X.stack = X.env :: X.outer) (z : Heap.OnX B X.stack a cls dx fl h2) (us : s'.heap.UpToSlots h2) : Way X H' B a { s' with heap := h2 } := by
  have sub : ∀ b ∈ frs X.outer, b ∈ frs X.stack := fun b hb => by
    rw [hst]
    obtain ⟨env, hm, hf⟩ := List.mem_filterMap.mp (show b ∈ X.outer.filterMap (·.frame) from hb)
    exact List.mem_filterMap.mpr ⟨env, List.mem_cons_of_mem _ hm, hf⟩
  have cs : ∀ b ∈ frs X.outer, ∀ o, s'.heap.get? b = some o → ∃ sl, h2.get? b = some { o with slots := sl } := fun b hb o e => by
    obtain ⟨_, o', e', hd⟩ := w.ff.mem (sub b hb)
    rw [e] at e'; cases e'
    exact us b o e hd
  exact ⟨w.os, w.bare, w.hok, z.1, w.na, z.2.2.1, {
    keep := fun b o e n hb _ => z.1 b o (w.kU b o e n hb)
    slot := fun b o e n hb hx => by
      obtain ⟨sl, e1⟩ := w.un.slot b o e n hb hx
      obtain ⟨sl', e2⟩ := cs b hb _ e1
      exact ⟨sl', e2⟩
    free := w.un.free
    there := fun b o e hx => by
      by_cases hb : b ∈ frs X.outer
      · obtain ⟨o2, e2⟩ := w.un.there b o e hx
        obtain ⟨sl, e3⟩ := cs b hb _ e2
        exact ⟨_, e3⟩
      · obtain ⟨o2, e2⟩ := w.kT b o e hb
        exact ⟨o2, z.1 b o2 e2⟩
    tups := w.un.tups
    frzs := w.un.frzs
    tbls := w.un.tbls }, w.kU, w.kT⟩
theorem passAtS {M : Model} {A' A : Around} (h1 : A'.frames = some X.stack) (hst : X.stack = X.env :: X.outer) (hf : X.env.frame = some X.env.locals) : PassesOwnAt M A' A X.env (XeS X E) := by
  intro e s1 z
  obtain ⟨a, C, dx, H', B, rfl, w, st, q⟩ := z
  have ff := w.ff
  rw [hst] at h1 ff
  refine noteS h1 hf w.st w.na ff st fun h2 z2 us => ?_
  have z2' : Heap.OnX B X.stack a (.ref C) dx (rawInt X.env.locals) h2 := by rw [hst]; exact z2
  have w2 := w.move hst z2' us
  obtain ⟨hB, hn, hF, x, vs, T, y, ts, hx, hc, hv, h1, nT, Te, hT, hy, h3⟩ := id z2'
  unfold cameBackBy
  refine wpAny_bind (wpAny_field (s := { s1 with heap := h2 }) hx hv h1 ?_)
  show wpAny _ _ (if (Value.ref T == Value.none) = true then _ else setFlight (.ref a) X.env.frame) _ _ _
  rw [if_neg (show ¬ ((Value.ref T == Value.none) = true) from by simp), hf]
  refine flightX (s := { s1 with heap := h2 }) (fr := some X.env.locals) z2' fun h3 z3 us3 => ?_
  exact ⟨a, C, dx, H', B, rfl, w2.move hst z3 us3, .inr (.inr z3.2.2.2), q⟩
theorem passOwnS {M : Model} {A : Around} (h1 : A.frames = some X.stack) (hst : X.stack = X.env :: X.outer) (hf : X.env.frame = some X.env.locals) : PassesOwn M A X.env (XeS X E) := passAtS (A' := A) h1 hst hf
end
section
variable {P : Program} {w : World} {K : Fg} {mg : Str → Option Value} {base : Heap} {N : List Str} {qual : Str} {scope : Scope} {f : Addr} {cd : Value} {A : Around} {outer : List Env} {s : Shared} {H : Hp} {E : XK}
theorem leaveS {e : Value} {s' : Shared} (hA : (cxOf (CXe P w) P w K mg base N qual scope f cd A outer s H E).A.frames = some (cxOf (CXe P w) P w K mg base N qual scope f cd A outer s H E).stack) (z : XeS (cxOf (CXe P w) P w K mg base N qual scope f cd A outer s H E) E e s') :
    (cxOf (CXe P w) P w K mg base N qual scope f cd A outer s H E).xe e s' := by
  obtain ⟨a, C, dx, H', B, rfl, wy, st, q⟩ := z
  show wpAny _ _ (leaving _ _) _ _ _
  unfold leaving
  refine wpAny_bind (noteS hA rfl wy.st wy.na wy.ff st fun h2 z2 us => ?_)
  have w2 := wy.move rfl z2 us
  refine landsX (s := { s' with heap := h2 }) z2 fun h3 z3 us3 => ?_
  have w3 := w2.move rfl z3 us3
  obtain ⟨k1, k2, ⟨_, _, k3⟩, k4⟩ := z3
  exact ⟨a, C, dx, H', B, rfl, w3.os, w3.bare, w3.un, w3.hok, ⟨k1, k2, k3, k4⟩, w3.kU, w3.kT, q⟩
abbrev cxS (P : Program) (w : World) (K : Fg) (mg : Str → Option Value) (base : Heap) (N : List Str) (qual : Str) (scope : Scope) (f : Addr) (cd : Value) (A : Around) (outer : List Env) (s : Shared) (H : Hp) (E : XK) : Cx :=
  (cxOf (CXe P w) P w K mg base N qual scope f cd A outer s H E).wish (XeS (cxOf (CXe P w) P w K mg base N qual scope f cd A outer s H E) E)
theorem FunD.okS {x qual : Str} {st : Stmt} {f : Addr} {fd : FuncData} {N ps : List Str} {k : Nat} {sp : Sp} (F : FunD K x qual st f fd) (S : FnScope N ps (defScope st)) (len : ∀ vs H Q E, sp vs H Q E → vs.length = ps.length)
    (hbody : ∀ (cdv : Value) (A : Around) (outer : List Env) (s : Shared) (H : Hp) (vs : List V) (Q : VK) (E : XK), Room k (A.deeper (envOfC qual (defScope st) s.heap.objs.size f cdv)) → sp vs H Q E →
      ∃ t, PSs (cxS P w K mg base N qual (defScope st) f cdv A outer s H E) (defBody st) t ∧ t { nx := fun _ H' => Q .non H', rt := Q } (start N vs) H) : FnOk P w K mg base (CXe P w) (k + 1) f fd ps sp :=
  F.okE S len fun cdv A outer s H vs Q E hr hsp => by
    obtain ⟨t, ht, hq⟩ := hbody cdv A outer s H vs Q E hr hsp
    refine ⟨t, fun pins s1 σ H1 D I h => ?_, hq⟩
    exact wpAny_mono (ht pins s1 σ H1 D (I.wish _) h) (fun fl s' z => z.unwish) fun e s' z => leaveS I.ok.frames z
theorem FunD.okL {x qual : Str} {st : Stmt} {f : Addr} {fd : FuncData} {N ps : List Str} {k : Nat} {sp : Sp} (F : FunD K x qual st f fd) (S : FnScope N ps (defScope st)) (len : ∀ vs H Q E, sp vs H Q E → vs.length = ps.length)
    (hbody : ∀ (cdv : Value) (A : Around) (outer : List Env) (s : Shared) (H : Hp) (vs : List V) (Q : VK) (E : XK), Room k (A.deeper (envOfC qual (defScope st) s.heap.objs.size f cdv)) → (A.deeper (envOfC qual (defScope st) s.heap.objs.size f cdv)).frames = some (envOfC qual (defScope st) s.heap.objs.size f cdv :: outer) → sp vs H Q E →
      ∃ t, PSs (cxS P w K mg base N qual (defScope st) f cdv A outer s H E) (defBody st) t ∧ t { nx := fun _ H' => Q .non H', rt := Q } (start N vs) H) : FnOk P w K mg base (CXe P w) (k + 1) f fd ps sp :=
  F.okS S len fun cdv A outer s H vs Q E hr hsp => by
    by_cases hf : (A.deeper (envOfC qual (defScope st) s.heap.objs.size f cdv)).frames = some (envOfC qual (defScope st) s.heap.objs.size f cdv :: outer)
    · exact hbody cdv A outer s H vs Q E hr hf hsp
    · exact ⟨fun _ _ _ => True, fun pins s1 σ H1 D I _ => absurd I.ok.frames hf, True.intro⟩
end
section
variable {P : Program} {w : World} {K : Fg} {mg : Str → Option Value} {base : Heap} {N : List Str} {qual : Str} {scope : Scope} {f : Addr} {cd : Value} {A : Around} {outer : List Env} {s : Shared} {H : Hp} {E : XK}
theorem nstkS {b : Addr} {o : Obj} (e : s.heap.get? b = some o) (n : b ∉ frs outer) : b ∉ frs (cxOf (CXe P w) P w K mg base N qual scope f cd A outer s H E).stack := fun z => by
  rcases frs_own.mp z with z | z
  · rw [z] at e
    exact absurd (Heap.lt_size e) (Nat.lt_irrefl _)
  · exact n z
theorem wayS {pins : Pn} {σ : St} {H1 H3 : Hp} {s1 : Shared} {h' : Heap} {a : Addr} (I : Inv (cxOf (CXe P w) P w K mg base N qual scope f cd A outer s H E) pins σ H1 s1) (kp : ∀ b o, b ≠ a → s1.heap.get? b = some o → h'.get? b = some o) (nos : s.heap.get? a = none) (na : a ∉ frs (cxOf (CXe P w) P w K mg base N qual scope f cd A outer s H E).stack) (eq : ∀ b, b ≠ a → H1 b = H3 b) (ha : H3 a = none) (ht : ∀ xs, H1 a ≠ some (.tup xs)) (hw : ∀ b, H1 a ≠ some (.own b)) (hz : ∀ o u, H1 a ≠ some (.frz o u)) (hl : ∀ ps, H1 a ≠ some (.tbl ps)) :
    Way (cxOf (CXe P w) P w K mg base N qual scope f cd A outer s H E) H3 (PySem.W.hideAll s1.heap (a :: frs (cxOf (CXe P w) P w K mg base N qual scope f cd A outer s H E).stack)) a { s1 with heap := h' } := by
  have hin : ∀ env ∈ (cxOf (CXe P w) P w K mg base N qual scope f cd A outer s H E).stack, ∀ b, env.frame = some b → b ∈ a :: frs (cxOf (CXe P w) P w K mg base N qual scope f cd A outer s H E).stack := fun env he b hb => List.mem_cons_of_mem _ (List.mem_filterMap.mpr ⟨env, he, hb⟩)
  have toB : ∀ b o, s1.heap.get? b = some o → b ≠ a → b ∉ frs (cxOf (CXe P w) P w K mg base N qual scope f cd A outer s H E).stack → (PySem.W.hideAll s1.heap (a :: frs (cxOf (CXe P w) P w K mg base N qual scope f cd A outer s H E).stack)).get? b = some o := fun b o e n1 n2 => PySem.W.hideAll_get _ e (fun z => (List.mem_cons.mp z).elim n1 n2)
  have nb : ∀ b o, s.heap.get? b = some o → b ≠ a := fun b o e z => by rw [z, nos] at e; cases e
  have st : (PySem.W.hideAll s1.heap (a :: frs (cxOf (CXe P w) P w K mg base N qual scope f cd A outer s H E).stack)).StaysIn h' := fun b o q => kp b o (fun z => by rw [z, PySem.W.hideAll_none _ (List.mem_cons_self ..)] at q; cases q) (PySem.W.of_hideAll _ q)
  have ff := PySem.W.funFrames_hide (as := a :: frs (cxOf (CXe P w) P w K mg base N qual scope f cd A outer s H E).stack) I.stack hin
  have fn : ∀ b ∈ frs (cxOf (CXe P w) P w K mg base N qual scope f cd A outer s H E).stack, b ≠ a := fun b hb z => na (z ▸ hb)
  refine ⟨I.os, I.bare, fun b u eu => ?_, st, PySem.W.hideAll_none _ (List.mem_cons_self ..), ?_, ?_, ?_, ?_⟩
  · have hba : b ≠ a := fun z => by rw [z, ha] at eu; cases eu
    have e2 : H1 b = some u := by rw [eq b hba]; exact eu
    refine (I.hok b u e2).stay (fun c o hc q => toB c o q (fun z => ?_) fun z => ?_) (fun c q => ?_) fun c xs q => ?_
    · rcases hc with hc | hc
      · exact hba (hc.symm.trans z)
      · rw [z] at hc; exact hw _ hc
    · have n := I.stkFree c z
      rcases hc with hc | hc
      · rw [hc, e2] at n; cases n
      · rw [hc] at n; cases n
    · by_cases z : c = a
      · rw [z] at q; exact absurd q (hw _)
      · rw [← eq c z]; exact q
    · by_cases z : c = a
      · rw [z] at q; exact absurd q (ht _)
      · rw [← eq c z]; exact q
  · have go : ∀ l : List Env, (∀ b ∈ frs l, b ≠ a) → s1.heap.FunFrames (PySem.W.hideAll s1.heap (a :: frs (cxOf (CXe P w) P w K mg base N qual scope f cd A outer s H E).stack)) l → h'.FunFrames (PySem.W.hideAll s1.heap (a :: frs (cxOf (CXe P w) P w K mg base N qual scope f cd A outer s H E).stack)) l := fun l => by
      induction l with
      | nil => exact fun _ _ => trivial
      | cons env r ih =>
        intro hn z
        obtain ⟨z1, ⟨L, o, z2, z3, z4, z5⟩, z6⟩ := z
        refine ⟨z1, ⟨L, o, z2, z3, kp L o (hn L ?_) z4, z5⟩, ih (fun b hb => hn b ?_) z6⟩
        · exact List.mem_filterMap.mpr ⟨env, List.mem_cons_self, z2⟩
        · obtain ⟨e2, hm, hf⟩ := List.mem_filterMap.mp (show b ∈ r.filterMap (·.frame) from hb)
          exact List.mem_filterMap.mpr ⟨e2, List.mem_cons_of_mem _ hm, hf⟩
    exact go _ fn ff
  · exact {
      keep := fun b o e n hb _ => kp b o (nb b o e) (I.base.keep b o e n hb (by exact fun z => nomatch z))
      slot := fun b o e n hb _ => by
        obtain ⟨sl, e1⟩ := I.base.slot b o e n hb (by exact fun z => nomatch z)
        exact ⟨sl, kp b _ (nb b o e) e1⟩
      free := fun b o e n _ => by rw [← eq b (nb b o e)]; exact I.base.free b o e n (by exact fun z => nomatch z)
      there := fun b o e _ => by
        obtain ⟨o', e1⟩ := I.base.there b o e (by exact fun z => nomatch z)
        exact ⟨o', kp b o' (nb b o e) e1⟩
      tups := fun b xs z => by
        have := I.base.tups b xs z
        by_cases y : b = a
        · rw [y] at this; exact absurd this (ht _)
        · rw [← eq b y]; exact this
      frzs := fun b o u z => by
        have := I.base.frzs b o u z
        by_cases y : b = a
        · rw [y] at this; exact absurd this (hz _ _)
        · rw [← eq b y]; exact this
      tbls := fun b ps z => by
        obtain ⟨m, this⟩ := I.base.tbls b ps z
        by_cases y : b = a
        · rw [y] at this; exact absurd this (hl _)
        · exact ⟨m, by rw [← eq b y]; exact this⟩ }
  · exact fun b o e n hb => toB b o (I.base.keep b o e n hb (by exact fun z => nomatch z)) (nb b o e) (nstkS e hb)
  · intro b o e hb
    obtain ⟨o', e1⟩ := I.base.there b o e (by exact fun z => nomatch z)
    exact ⟨o', toB b o' e1 (nb b o e) (nstkS e hb)⟩
theorem raisesS {C : Addr} : Raises (cxS P w K mg base N qual scope f cd A outer s H E) C E := by
  intro pins σ H1 s1 h' e vs I0 me q
  have I : Inv (cxOf (CXe P w) P w K mg base N qual scope f cd A outer s H E) pins σ H1 s1 := I0.unwish
  obtain ⟨tt, hmade, _, _⟩ := me.there
  have hfree : H1 e = none := by
    cases z : H1 e with
    | none => rfl
    | some o =>
      obtain ⟨u, hu⟩ := ObjOk.thereIs (I.hok e o z)
      rw [me.new] at hu; cases hu
  have nos : s.heap.get? e = none := by
    cases z : s.heap.get? e with
    | none => rfl
    | some o =>
      obtain ⟨o', e1⟩ := I.base.there e o z (by exact fun z => nomatch z)
      rw [me.new] at e1; cases e1
  have na : e ∉ frs (cxOf (CXe P w) P w K mg base N qual scope f cd A outer s H E).stack := fun z => by
    obtain ⟨_, o, ho, _⟩ := I.stack.mem z
    rw [me.new] at ho; cases ho
  refine ⟨e, C, none, H1, _, rfl, wayS I (fun b o _ => me.keeps b o) nos na (fun _ _ => rfl) hfree (fun xs z => by rw [hfree] at z; cases z) (fun xs z => by rw [hfree] at z; cases z) (fun xs u z => by rw [hfree] at z; cases z) (fun xs z => by rw [hfree] at z; cases z), .inl ⟨_, _, hmade, ⟨rfl, rfl, fun _ => rfl⟩, rfl, rfl⟩, q⟩
end
end L2
namespace PySem
section
variable {prog : Program} {w : World} {A : Around} {E : Value → Shared → Prop} {s : Shared} {env : Env}
variable {nm q : Str} {C N : Addr} {bs bm : List Value} {hdct : Bool} {sn : List Str} {sub : List Value} {ab : Bool} {col : Option Bool} {dd : Option Addr} {k0 k1 k2 k3 k5 : Option Value} {newId : String}
end
end PySem
namespace L2
open PySem PySem.Spec PyProof.Rows
section
variable {X : Cx} {k : Nat} {C fI : Addr} {fd : FuncData} {f : Str}
end
section
variable {P : Program} {w : World} {K : Fg} {mg : Str → Option Value} {base : Heap} {N : List Str} {qual : Str} {scope : Scope} {f : Addr} {cd : Value} {A : Around} {outer : List Env} {s : Shared} {H : Hp} {E : XK}
end
section
variable {X : Cx} {k k2 : Nat} {f fI : Addr} {fd fd2 : FuncData} {ps : List Str} {sp : Sp} {dvs : List V} {ds : List Value} {fx x c1 c2 cx : Str} {p cpos px apos q1 q2 tpos np c2pos kpos rpos spos hpos pos : Pos} {e : Expr} {es : List Expr} {t : TA} {T1 T2 C : Addr} {i : Nat} {E : XK} {fld : Str} {tx n1 n2 : Nat}
end
end L2
namespace L2
open PySem PySem.Spec PyProof.Rows
section
variable {X : Cx} {pins : Pn} {σ : St} {H : Hp} {s : Shared}
end
section
variable {X : Cx} {pins : Pn} {σ : St} {H : Hp} {s s' : Shared} {E : XK} {ex : Value} {x n : Str} {T C : Addr} {np hpos : Pos} {b0 : Stmt} {suite : List Stmt} {ts : Addr → TS} {D : Ends} {j : Nat}
end
section
variable {X : Cx} {k : Nat} {f : Addr} {fd : FuncData} {ps : List Str} {sp : Sp} {dvs : List V} {ds : List Value} {fx cx n : Str} {p cpos epos np hpos pos : Pos} {e : Expr} {es : List Expr} {t : TA} {T C : Addr} {b0 : Stmt} {suite : List Stmt} {ts : Addr → TS} {j : Nat}
end
end L2
namespace L2
open PySem PySem.Spec PyProof.Rows PySem.SeqAt
section
end
section
variable {X : Cx}
end
section
variable {B : Bk} {τ τ' : TSt} {Φ : TK} {K : Fg}
end
end L2
namespace L2
open PySem PySem.Spec PyProof.Rows
section
variable {X : Cx} {k : Nat} {f : Addr} {fd : FuncData} {ps : List Str} {sp : Sp} {fx cx n : Str} {p cpos cmpos kpos ipos np hpos pos : Pos} {e : Expr} {es : List Expr} {t : TA} {T C : Addr} {b0 : Stmt} {suite body : List Stmt} {ts : Addr → TS} {i j : Nat} {kj}
end
end L2
namespace L2
open PySem PySem.Spec PyProof.Rows
section
variable {X : Cx}
end
end L2
namespace L2
open PySem PySem.Spec PyProof.Rows
section
variable {X : Cx} {k : Nat} {f : Bool → Addr} {fd : Bool → FuncData} {ps : List Str} {sp : Bool → Sp} {fx x cx n : Str} {p cpos px apos np hpos pos : Pos} {e : Expr} {es : List Expr} {t : TA} {T C : Addr} {b0 : Stmt} {suite : List Stmt} {ts : Addr → TS} {i0 i j : Nat}
end
end L2
namespace L2
open PySem PySem.Spec PyProof.Rows
section
variable {B : Bk} {τ : TSt} {Φ : TK} {K : Fg}
end
end L2
namespace L2
open PySem PySem.Spec PyProof.Rows
section
variable {K : Fg} {F : Hp}
end
section
variable {B : Bk} {τ : TSt} {Φ : TK} {td ty tv : TE} {nx bk ct : TSt → Prop} {rt : Kd → Prop}
end
end L2
namespace L2
open PySem PySem.Spec PyProof.Rows
section
variable {P : Program} {w : World} {A : Around} {E : Value → Shared → Prop} {s : Shared} {q1 q2 : Bool} {z ti to n1 n2 a1 a2 : Addr} {k : Nat} {us vs : Array Value} {u v c d : Value}
end
section
variable {X : Cx} {pins : Pn} {σ : St} {H H0 : Hp} {s : Shared}
end
end L2
namespace L2
open PySem PySem.Spec PyProof.Rows
def tTryB (i : Nat) (sp : Sp) (dv1 dv2 : List V) (Mt : Addr → Prop) (tc : TT) (t1 t2 : TA) (ts : TS) : TS := fun D σ H => tc σ H fun b H0 =>
  if b = true then t1 σ H0 fun vs H1 => sp (vs ++ dv1) H1 (fun v H2 => D.nx (σ.set i (some v)) H2) fun cls _ H2 => ∃ C, cls = .ref C ∧ Mt C ∧ ts D σ H2
  else t2 σ H0 fun vs H1 => sp (vs ++ dv2) H1 (fun v H2 => D.nx (σ.set i (some v)) H2) fun cls _ H2 => ∃ C, cls = .ref C ∧ Mt C ∧ ts D σ H2
section
variable {X : Cx} {k : Nat} {f : Addr} {fd : FuncData} {ps : List Str} {sp : Sp} {dvs dv1 dv2 : List V} {ds ds1 ds2 : List Value} {fx x cx : Str} {p cpos px apos q cpos2 qx apos2 np hpos pos ipos : Pos} {e e2 c : Expr} {es es2 : List Expr} {t t1 t2 : TA} {tc : TT} {T : Addr} {b0 : Stmt} {suite : List Stmt} {ts : TS} {i : Nat}
theorem ps_tryB (F : FnOk X.prog X.w X.K X.mg X.base (CXe X.prog X.w) k f fd ps sp) (hr : Room k X.A) (hg : Gl X fx) (hm : X.mg fx = some (.ref f)) (hk : PySem.W.keepIn X.K (.ref f) = true) (hb1 : Binds X.K fd ps ds1) (hd1 : Vals dv1 ds1) (hb2 : Binds X.K fd ps ds2) (hd2 : Vals dv2 ds2) (h0 : ∀ e s, X.xe e s → False)
    (hst : X.stack = X.env :: X.outer) (hf : X.env.frame = some X.env.locals) (hc : PT X c tc) (ha1 : PA X (e :: es) t1) (ha2 : PA X (e2 :: es2) t2) (hN : X.N.Nodup) (hi : X.N[i]? = some x) (hx : Loc X.env.scope x)
    (hs : ∀ a, PSs (X.marked a) (b0 :: suite) ts) (hdb : (fx == ("__debug__" : Str)) = false := by decide) (he1 : starEach (e :: es) X.env = (false, eval e X.env) :: starEach es X.env := by rfl) (hpl1 : (backTo cpos (starEach es X.env)).any (·.1) = false := by rfl) (he2 : starEach (e2 :: es2) X.env = (false, eval e2 X.env) :: starEach es2 X.env := by rfl) (hpl2 : (backTo cpos2 (starEach es2 X.env)).any (·.1) = false := by rfl)
    (hsw1 : swapsWith (.Call (.Name fx p) (e :: es) [] cpos) (some (.Name x px)) apos.line X.env = pure false := by rfl) (hsw2 : swapsWith (.Call (.Name fx q) (e2 :: es2) [] cpos2) (some (.Name x qx)) apos2.line X.env = pure false := by rfl) (hfn : X.fn x = true ∨ X.env.scope.names.lookup x = some .local := by first | exact .inl rfl | exact .inr rfl | assumption) :
    PS X (.Try [.If c [.Assign [.Name x px] (.Call (.Name fx p) (e :: es) [] cpos) apos] [.Assign [.Name x qx] (.Call (.Name fx q) (e2 :: es2) [] cpos2) apos2] ipos] [.ExceptHandler (some (.Name cx np)) none (b0 :: suite) hpos] [] [] pos) (tTryB i sp dv1 dv2 (fun C => Meets1 X cx T C true) tc t1 t2 ts) := by
  intro pins s σ H D I h
  refine wpAny_Try_except ?_
  refine wpAny_execs_cons ?_
  refine wpAny_If (wpAny_mono (hc pins s σ H _ I h) (fun d s0 ⟨H0, I0, q0⟩ => ?_) fun e s z => (h0 e s z).elim)
  cases d with
  | true =>
    rw [if_pos rfl] at q0
    refine wpAny_execs_cons ?_
    refine wpAny_Assign_Name ?_ hsw1
    refine wpAny_Call_Name_kw (ld_glob I0 hg hm ?_ hdb)
    refine PySem.W.callWith_K (h₀ := X.base) I0.ok.mod.kin hk (wpAny_mono (ha1 cpos pins s0 σ H0 _ I0 q0) (fun us s1 z => ?_) fun e s z => (h0 e s z).elim) he1 hpl1
    obtain ⟨vs, H1, I1, r, q⟩ := z
    refine ⟨I1.kIn, ?_⟩
    have r2 : Vals (vs ++ dv1) (us ++ ds1) := r.append hd1
    have hl : (us ++ ds1).length = ps.length := by rw [← r2.length]; exact F.len _ _ _ _ q
    refine wpAny_call (codeAny_mono (F.run X.A X.stack s1 H1 ⟨us, []⟩ (us ++ ds1) (vs ++ dv1) _ _ hr I1.env0 (hb1 s1 us I1.kIn hl) r2 q) fun rr s' hq => ?_)
    cases rr with
    | error ex => exact caught_ok (ts := ts) I1 hst hf h0 (show CXe X.prog X.w X.stack H1 s1 (fun cls _ H2 => ∃ C, cls = .ref C ∧ Meets1 X cx T C true ∧ ts D σ H2) ex s' from hq) (fun C _ H' z => by
        obtain ⟨C', ec, m, z⟩ := z
        cases ec
        exact ⟨m, z⟩) hs
    | ok fl =>
      cases fl with
      | ret u =>
        obtain ⟨v, H2, I2, rv, q2⟩ := I1.after hq
        refine store_ok I2 hN hi hx rv (fun s2 I3 => ?_) hfn
        exact wpAny_execs_nil (wpAny_execs_nil (wpAny_execs_nil ⟨_, H2, I3, q2⟩))
      | next => exact False.elim hq
      | brk => exact False.elim hq
      | cont => exact False.elim hq
  | false =>
    rw [if_neg Bool.false_ne_true] at q0
    refine wpAny_execs_cons ?_
    refine wpAny_Assign_Name ?_ hsw2
    refine wpAny_Call_Name_kw (ld_glob I0 hg hm ?_ hdb)
    refine PySem.W.callWith_K (h₀ := X.base) I0.ok.mod.kin hk (wpAny_mono (ha2 cpos2 pins s0 σ H0 _ I0 q0) (fun us s1 z => ?_) fun e s z => (h0 e s z).elim) he2 hpl2
    obtain ⟨vs, H1, I1, r, q⟩ := z
    refine ⟨I1.kIn, ?_⟩
    have r2 : Vals (vs ++ dv2) (us ++ ds2) := r.append hd2
    have hl : (us ++ ds2).length = ps.length := by rw [← r2.length]; exact F.len _ _ _ _ q
    refine wpAny_call (codeAny_mono (F.run X.A X.stack s1 H1 ⟨us, []⟩ (us ++ ds2) (vs ++ dv2) _ _ hr I1.env0 (hb2 s1 us I1.kIn hl) r2 q) fun rr s' hq => ?_)
    cases rr with
    | error ex => exact caught_ok (ts := ts) I1 hst hf h0 (show CXe X.prog X.w X.stack H1 s1 (fun cls _ H2 => ∃ C, cls = .ref C ∧ Meets1 X cx T C true ∧ ts D σ H2) ex s' from hq) (fun C _ H' z => by
        obtain ⟨C', ec, m, z⟩ := z
        cases ec
        exact ⟨m, z⟩) hs
    | ok fl =>
      cases fl with
      | ret u =>
        obtain ⟨v, H2, I2, rv, q2⟩ := I1.after hq
        refine store_ok I2 hN hi hx rv (fun s2 I3 => ?_) hfn
        exact wpAny_execs_nil (wpAny_execs_nil (wpAny_execs_nil ⟨_, H2, I3, q2⟩))
      | next => exact False.elim hq
      | brk => exact False.elim hq
      | cont => exact False.elim hq
end
theorem z_tryB {i : Nat} {sp : Sp} {dv1 dv2 : List V} {Mt : Addr → Prop} {tc : TT} {t1 t2 : TA} {ts : TS} {D : Ends} {σ : St} {H : Hp} (h : tc σ H fun b H0 =>
  if b = true then t1 σ H0 fun vs H1 => sp (vs ++ dv1) H1 (fun v H2 => D.nx (σ.set i (some v)) H2) fun cls _ H2 => ∃ C, cls = .ref C ∧ Mt C ∧ ts D σ H2
  else t2 σ H0 fun vs H1 => sp (vs ++ dv2) H1 (fun v H2 => D.nx (σ.set i (some v)) H2) fun cls _ H2 => ∃ C, cls = .ref C ∧ Mt C ∧ ts D σ H2) : tTryB i sp dv1 dv2 Mt tc t1 t2 ts D σ H := h
end L2
namespace L2
open PySem PySem.Spec PyProof.Rows
section
variable {X : Cx}
def tLR (ta : TA) : TE := fun σ H Q => ta σ H fun vs H1 => ∃ i j c : Int, vs = [.int i, .int j, .int c] ∧ 0 < c ∧ c < 1073741824 ∧ Builtin.Range.small i j c = true ∧ rngN i j c ≤ 1000 ∧ ∀ l, H1 l = none → Q (.ref l) (upd H1 l (.lst ((List.range (rngN i j c)).map fun k : Nat => V.int (i + (k : Int) * c))))
theorem vals_rng {f : Nat → Int} : ∀ {us : List Value} {n m : Nat}, us.length = n → (∀ (j : Nat) (v : Value), us[j]? = some v → ∃ t, v = Value.int (f (m + j)) t) → Vals ((List.range' m n).map fun k => V.int (f k)) us
  | [], n, m, hl, _ => by
    have : n = 0 := hl.symm
    subst this
    exact .nil
  | u :: us, n, m, hl, h => by
    cases n with
    | zero => simp at hl
    | succ n =>
      rw [List.range'_succ, List.map_cons]
      obtain ⟨t, e⟩ := h 0 u rfl
      refine .cons ⟨t, e⟩ (vals_rng (f := f) (m := m + 1) (by simpa using hl) fun j v e => ?_)
      obtain ⟨t, e2⟩ := h (j + 1) v e
      exact ⟨t, by rw [e2, show m + 1 + j = m + (j + 1) by omega]⟩
theorem pe_listrng3 {a b c : Expr} {ta : TA} {p p2 pos pos2 : Pos} (hc : X.calm = true) (hgl : Gl X "list") (hml : X.mg "list" = none) (hg : Gl X "range") (hm : X.mg "range" = none) (ha : PA X [a, b, c] ta) (hs : starEach [a, b, c] X.env = (false, eval a X.env) :: starEach [b, c] X.env := by rfl) (hpl : (backTo pos2 (starEach [b, c] X.env)).any (·.1) = false := by rfl)
    (hs1 : starEach [.Call (.Name "range" p2) [a, b, c] [] pos2] X.env = (false, eval (.Call (.Name "range" p2) [a, b, c] [] pos2) X.env) :: starEach [] X.env := by rfl) (hpl1 : (backTo pos (starEach [] X.env)).any (·.1) = false := by rfl) :
    PE X (.Call (.Name "list" p) [.Call (.Name "range" p2) [a, b, c] [] pos2] [] pos) (tLR ta) := by
  intro pins s σ H Q I h
  refine wpAny_Call_Name_kw (ld_blt I hgl hml bt_list ?_)
  refine PyProof.Rows.callWith_type1 ?_ hs1 hpl1
  rw [hs1]
  show wpAny _ _ (spliced ((false, eval (.Call (.Name "range" p2) [a, b, c] [] pos2) X.env) :: backTo pos (starEach [] X.env))) _ _ s
  refine Calls.spliced_cons ?_
  refine wpAny_Call_Name_kw (ld_blt I hg hm boot_range ?_)
  refine PyProof.Rows.callWith_type1 (thn (ha pos2 pins s σ H _ I h) fun us s1 ⟨vs, H1, I1, r1, q1⟩ => ?_) hs hpl
  obtain ⟨i, j, d, e, h0, h1, hsm, hl, q⟩ := q1
  subst e
  cases r1 with
  | cons r rr =>
  cases rr with
  | cons r' rr =>
  cases rr with
  | cons r'' rr =>
  cases rr
  obtain ⟨t, rfl⟩ := r
  obtain ⟨t', rfl⟩ := r'
  obtain ⟨t'', rfl⟩ := r''
  refine call_range_3 (Int.ne_of_gt h0) ?_ (.inl (PyProof.noPylong_small (by omega)))
  refine Calls.spliced_nil ?_
  have hn : Builtin.Range.rangeSize i j d = ((rngN i j d : Nat) : Int) := by
    have := rng_nonneg (i := i) (j := j) h0
    unfold rngN
    omega
  refine call_list_range (I.ok.hd hc) (IsRange.new ..) hsm hn (Nat.le_trans hl (by decide)) fun h' tk acc' c' kk hl' items => ?_
  have kp : ∀ b o, s1.heap.get? b = some o → h'.get? b = some o := fun b o e => kk b o (Heap.get?_push_of_some _ e)
  have vr : Vals ((List.range (rngN i j d)).map fun k : Nat => V.int (i + (k : Int) * d)) acc'.toList := by
    rw [List.range_eq_range']
    refine vals_rng (f := fun k : Nat => i + (k : Int) * d) (by simpa using items.1) fun k v e => ?_
    rw [Nat.zero_add]
    exact items.2 k v (by simpa using e)
  refine ⟨.ref _, _, I1.laid (t' := tk) kp (Nat.le_of_lt (Heap.lt_size (IsRange.new ..))) (show ObjOk X.prog X.w _ h' _ (.lst ((List.range (rngN i j d)).map fun k : Nat => V.int (i + (k : Int) * d))) from ⟨by rw [List.length_map, List.length_range]; exact Nat.le_trans hl (by decide), acc'.toList, c', vr, hl'⟩), rfl, q _ (I1.hok.fresh (Nat.le_of_lt (Heap.lt_size (IsRange.new ..))))⟩
end
section
variable {B : Bk} {τ : TSt} {ta tb tc : TE} {Φ : TK}
theorem e_lrng (h : EV B ta τ fun x τ1 => ∃ i, x = .fz (.int i) ∧ EV B tb τ1 fun y τ2 => ∃ j, y = .fz (.int j) ∧ EV B tc τ2 fun z τ3 => ∃ c, z = .fz (.int c) ∧ 0 < c ∧ c < 1073741824 ∧ Builtin.Range.small i j c = true ∧ rngN i j c ≤ 1000 ∧ Φ (.nw (.lst (stepT i c (rngN i j c)))) τ3) : EV B (tLR (tCons ta (tCons tb (tCons tc tNil)))) τ Φ := fun σ F H Q r c => by
  refine h σ F H _ r fun v F1 H1 k τ1 f1 r1 ok1 _ h1 => ?_
  obtain ⟨i, rfl, h1⟩ := h1
  cases (show Is B.K F1 v (.int i) from ok1)
  refine h1 σ F1 H1 _ r1 fun v F2 H2 k τ2 f2 r2 ok2 _ h2 => ?_
  obtain ⟨j, rfl, h2⟩ := h2
  cases (show Is B.K F2 v (.int j) from ok2)
  refine h2 σ F2 H2 _ r2 fun v F3 H3 k τ3 f3 r3 ok3 _ h3 => ?_
  obtain ⟨s, rfl, s0, s1, sm, hl, h3⟩ := h3
  cases (show Is B.K F3 v (.int s) from ok3)
  refine ⟨i, j, s, rfl, s0, s1, sm, hl, fun l hl' => (c.on ((f1.trans f2).trans f3)).nl r3 ?_ hl' h3⟩
  unfold stepT
  generalize List.range (rngN i j s) = ks
  induction ks with
  | nil => exact .nil
  | cons k ks ih => exact .cons .int ih
end
end L2
namespace L2
open PySem PySem.Spec PyProof.Rows
section
variable {prog : Program} {w : World} {A : Around} {R : Result → Shared → Prop} {I : Addr} {fp wr : List Addr} {n : Nat} {P : Nat → Value → Prop} {St : Nat → Heap → Prop} {kw : List (Str × Value)}
theorem minK_loop (W : Walks prog w A.in1 I fp wr n P St) (bt : Nat → Nat → Bool) (hcmp : CmpOf prog w A.in1 .Lt P bt) (S : Addr) (hSf : S ∉ fp) :
    ∀ (k j : Nat) (s : Shared) (vb : Value) (c : Nat), n - (j + 1) = k → j + 1 ≤ n → St (j + 1) s.heap → P (argBest bt j) vb →
    s.heap.get? S = some { cls := .type "list", dict := none, data := .seq #[vb, vb] c, slots := #[] } →
    (∀ v h' tk, P (argBest bt (n - 1)) v → (∀ b o, b ∉ wr → b ≠ S → s.heap.get? b = some o → h'.get? b = some o) → R (.ok (.ret v)) { s with heap := h', toks := tk }) →
    codeAny (model prog w) A (.builtin "min.loop" ⟨[.ref I, .none, .ref S], kw⟩) R s := by
  have nw : S ∉ wr := fun h => hSf (W.sub _ h)
  have nm : (toString "min" ++ toString ".loop" : String) = "min.loop" := by decide
  intro k
  induction k with
  | zero =>
    intro j s vb c hk hj hst hb hS hR
    have e : j + 1 = n := by omega
    refine codeAny_builtin F.entry_min_loop ?_
    rw [Around.under_plainId F.plain_min_loop _]
    show wpAny _ A.in1 (seqItems? (.ref S) >>= _) _ _ s
    refine wpAny_bind (wpAny_seqItems hS rfl ?_)
    show wpAny _ A.in1 (tryCatch (pyNext (.ref I)) _ >>= _) _ _ s
    refine wpAny_bind (wpAny_tryCatch (W.done s _ _ (e ▸ hst) fun h' tk hk' => ?_))
    have hS' := hk' S _ nw hS
    show wpAny _ A.in1 (updateSeq S (fun _ => #[]) >>= _) _ _ _
    refine wpAny_bind (wpAny_updateSeq hS' rfl (wpAny_bind (wpAny_letGo (wpAny_pure ?_))))
    exact hR vb _ tk (by rw [← e]; exact hb) fun b o h1 h2 e => (Heap.get?_update_other _ _ (Ne.symm h2)).trans (hk' b o h1 e)
  | succ k ih =>
    intro j s vb c hk hj hst hb hS hR
    have lt : j + 1 < n := by omega
    refine codeAny_builtin F.entry_min_loop ?_
    rw [Around.under_plainId F.plain_min_loop _]
    show wpAny _ A.in1 (seqItems? (.ref S) >>= _) _ _ s
    refine wpAny_bind (wpAny_seqItems hS rfl ?_)
    show wpAny _ A.in1 (tryCatch (pyNext (.ref I)) _ >>= _) _ _ s
    refine wpAny_bind (wpAny_tryCatch (W.item (j + 1) s _ _ lt hst fun v h' tk hP hst' hk' => ?_))
    have hS' := hk' S _ nw hS
    show wpAny _ A.in1 (tryCatch (holding [v, v] (richCompare .Lt v vb >>= _)) _ >>= _) _ _ _
    refine wpAny_bind (wpAny_tryCatch (wpAny_holding (wpAny_bind (hcmp (j + 1) (argBest bt j) v vb _ _ _ hP hb ?_))))
    refine wpAny_bind (wpAny_holding (wpAny_truthy_bool ?_))
    refine wpAny_bind (wpAny_letGo (wpAny_pure ?_))
    cases hbt : bt (j + 1) (argBest bt j) with
    | true =>
      simp only [if_true]
      refine wpAny_bind (wpAny_updateSeq hS' rfl (wpAny_bind (wpAny_letGo ?_)))
      rw [nm]
      refine wpAny_pure ⟨plainId_quiet F.plain_min_loop _, ih (j + 1) _ v _ (by omega) lt (W.frame _ _ _ hst' fun b hbf o e => ?_) (by simp only [argBest, hbt, if_true]; exact hP) (Heap.get?_update_self _ hS' rfl) fun v' h2 tk2 hP' hk2 => ?_⟩
      · exact (Heap.get?_update_other _ _ (fun h : S = b => hSf (by rw [h]; exact hbf))).trans e
      · exact hR v' h2 tk2 hP' fun b o h1 h3 e => hk2 b o h1 h3 ((Heap.get?_update_other _ _ (Ne.symm h3)).trans (hk' b o h1 e))
    | false =>
      simp only [Bool.false_eq_true, if_false]
      refine wpAny_bind (wpAny_letGo ?_)
      rw [nm]
      refine wpAny_pure ⟨plainId_quiet F.plain_min_loop _, ih (j + 1) _ vb c (by omega) lt hst' (by simp only [argBest, hbt, Bool.false_eq_true, if_false]; exact hb) hS' fun v' h2 tk2 hP' hk2 => ?_⟩
      exact hR v' h2 tk2 hP' fun b o h1 h3 e => hk2 b o h1 h3 (hk' b o h1 e)
theorem minK_first {d : Value} (W : Walks prog w A.in1 I fp wr n P St) (bt : Nat → Nat → Bool) (hcmp : CmpOf prog w A.in1 .Lt P bt) (S : Addr) (hSf : S ∉ fp) {s : Shared} {c : Nat} (hst : St 0 s.heap)
    (hS : s.heap.get? S = some { cls := .type "list", dict := none, data := .seq #[] c, slots := #[] })
    (hR : ∀ v h' tk, (0 < n ∧ P (argBest bt (n - 1)) v) ∨ (n = 0 ∧ v = d) → (∀ b o, b ∉ wr → b ≠ S → s.heap.get? b = some o → h'.get? b = some o) → R (.ok (.ret v)) { s with heap := h', toks := tk }) :
    codeAny (model prog w) A (.builtin "min.loop" ⟨[.ref I, .none, .ref S], [("default", d)]⟩) R s := by
  have nw : S ∉ wr := fun h => hSf (W.sub _ h)
  have nm : (toString "min" ++ toString ".loop" : String) = "min.loop" := by decide
  refine codeAny_builtin F.entry_min_loop ?_
  rw [Around.under_plainId F.plain_min_loop _]
  show wpAny _ A.in1 (seqItems? (.ref S) >>= _) _ _ s
  refine wpAny_bind (wpAny_seqItems hS rfl ?_)
  show wpAny _ A.in1 (tryCatch (pyNext (.ref I)) _ >>= _) _ _ s
  rcases Nat.eq_zero_or_pos n with e | hn
  · refine wpAny_bind (wpAny_tryCatch (W.done s _ _ (e.symm ▸ hst) fun h' tk hk' => ?_))
    refine wpAny_bind (wpAny_rule (wpAny_pure ?_))
    exact hR d _ tk (.inr ⟨e, rfl⟩) fun b o h1 h2 e => hk' b o h1 e
  · refine wpAny_bind (wpAny_tryCatch (W.item 0 s _ _ hn hst fun v h' tk hP hst' hk' => ?_))
    have hS' := hk' S _ nw hS
    show wpAny _ A.in1 (updateSeq S (fun _ => #[v, v]) >>= _) _ _ _
    refine wpAny_bind (wpAny_updateSeq hS' rfl ?_)
    rw [nm]
    refine wpAny_pure ⟨plainId_quiet F.plain_min_loop _, minK_loop W bt hcmp S hSf _ 0 _ v _ rfl hn (W.frame _ _ _ hst' fun b hbf o e => ?_) hP (Heap.get?_update_self _ hS' rfl) fun v' h2 tk2 hP' hk2 => ?_⟩
    · exact (Heap.get?_update_other _ _ (fun h : S = b => hSf (by rw [h]; exact hbf))).trans e
    · exact hR v' h2 tk2 (.inl ⟨hn, hP'⟩) fun b o h1 h3 e => hk2 b o h1 h3 ((Heap.get?_update_other _ _ (Ne.symm h3)).trans (hk' b o h1 e))
end
section
variable {X : Cx}
theorem call_minD {prog : Program} {w : World} {A : Around} {E : Value → Shared → Prop} {s : Shared} {l : Addr} {xs : Array (Int × Tok)} {d : Value} {Q : Value → Shared → Prop} (hh : A.handled = none) (hl : s.heap.IsList l (intItems xs))
    (h : ∀ v h' tk, (0 < xs.size ∧ (intItems xs)[argBest (fun i j => decide (numAt xs i < numAt xs j)) (xs.size - 1)]? = some v) ∨ (xs.size = 0 ∧ v = d) → (∀ b o, s.heap.get? b = some o → h'.get? b = some o) → Q v { s with heap := h', toks := tk }) :
    wpAny (model prog w) A (call (.builtin "min") [.ref l] [("default", d)]) Q E s := by
  have nm : (toString "min" ++ toString ".loop" : String) = "min.loop" := by decide
  have ha : argsOk "min" ⟨[.ref l], [("default", d)]⟩ := by unfold argsOk; kernel_rfl
  refine wpAny_call (codeAny_call_builtin F.plain_min F.entry_min ?_)
  have hc : wpAny (model prog w) A.in1 (Builtin.«min» ⟨[.ref l], [("default", d)]⟩) (fun fin s' => match fin with
      | .done f => (match (Except.ok f : Result) with | .ok (.ret v) => Q v s' | .ok _ => False | .error e => E e s')
      | .again c' => c'.quiet = true ∧ codeAny (model prog w) A c' (fun r s' => match r with | .ok (.ret v) => Q v s' | .ok _ => False | .error e => E e s') s') E s := by
    show wpAny _ A.in1 (Builtin.Builtins.bindParams "min" ["key", "default"] 0 ⟨[], [("default", d)]⟩ >>= _) _ _ s
    refine wpAny_bind (wpAny_of_eq (show Builtin.Builtins.bindParams "min" ["key", "default"] 0 ⟨[], [("default", d)]⟩ = pure [none, some d] from rfl) ?_)
    refine wpAny_bind (wpAny_pure ?_)
    refine wpAny_bind (iter_intList hl fun s2 e st hfp hlI => ?_)
    subst e
    refine wpAny_bind (wpAny_newObj_type ?_)
    rw [nm]
    have W := Walks.list (prog := prog) (w := w) (A := A.in1) hh s.heap.objs.size l hlI (intItems xs)
    refine wpAny_pure ⟨plainId_quiet F.plain_min_loop _, minK_first (d := d) W _ (CmpOf.ints_lt (numAt xs) (fun _ _ => intItems_at)) _ (fun hmm => Nat.lt_irrefl _ (hfp _ hmm)) (W.frame _ _ _ st fun b _ o e => Heap.get?_push_of_some _ e) (Heap.get?_push_size _ rfl) fun v h' tk hP hk => ?_⟩
    refine h v h' tk (by simpa [intItems] using hP) ?_
    exact old_kept fun b o h1 e => hk b o h1 (Nat.ne_of_lt (Heap.lt_size e)) (Heap.get?_push_of_some _ e)
  simp only [checkBuiltinCall, F.kind_min]
  cases hsig : Manifest.signature? "min" with
  | none => exact wpAny_pure hc
  | some sig =>
    have ha' : Bind.checkArgs "min" sig ⟨[.ref l], [("default", d)]⟩ = pure () := by simpa only [argsOk, hsig] using ha
    simp only [ha']
    exact wpAny_pure hc
def tMinD (K : Fg) (t td : TA) : TE := fun σ H Q => t σ H fun vs H1 => td σ H1 fun ds H2 => ∃ (p : Addr) (ns : List Int) (d : V), vs = [.ref p] ∧ ds = [d] ∧ SqL K H2 p (ns.map V.int) ∧ ((ns = [] ∧ Q d H2) ∨ ∃ m, IsMin ns m ∧ Q (.int m) H2)
theorem pe_minD {e de : Expr} {p pos kp : Pos} {t td : TA} (hc : X.calm = true) (hg : Gl X "min") (hm : X.mg "min" = none) (ha : PA X [e] t) (hk : PK X [⟨some "default", de, kp⟩] td)
    (he : backTo pos (starEach [e] X.env) = (false, eval e X.env) :: backTo pos (starEach [] X.env) := by rfl) (hpl : (backTo pos (starEach [e] X.env)).any (·.1) = false := by rfl) : PE X (.Call (.Name "min" p) [e] [⟨some "default", de, kp⟩] pos) (tMinD X.K t td) := by
  intro pins s σ H Q I h
  refine wpAny_Call_Name_kw (ld_blt I hg hm bt_min ?_ (by decide) (by decide))
  refine callWith_kw (thn (ha pos pins s σ H _ I h) fun us s1 ⟨vs, H1, I1, r1, q1⟩ => thn (hk pos pins s1 σ H1 _ I1 q1) fun ws s2 ⟨zs, H2, I2, rz, q2⟩ => ?_) he hpl
  obtain ⟨p, ns, d, rfl, rfl, hq, q⟩ := q2
  obtain ⟨u, rfl, ru⟩ := r1.one
  cases ru
  obtain ⟨dv, rfl, rd⟩ := rz.one
  obtain ⟨its, v, pl, _⟩ := I2.list hq
  obtain ⟨l, e1, e2⟩ := ints_of v
  have hl : s2.heap.IsList p (intItems l.toArray) := by
    have := pl.isList
    rw [e1] at this
    unfold intItems
    rw [List.map_toArray]
    exact this
  have hs : l.toArray.size = ns.length := by rw [List.size_toArray, ← e2, List.length_map]
  refine call_minD (I2.ok.hd hc) hl fun v h' tk hv k => ?_
  rcases q with ⟨en, q⟩ | ⟨m, hmx, q⟩
  · rcases hv with ⟨z, _⟩ | ⟨_, rfl⟩
    · rw [hs, en] at z; exact absurd z (by decide)
    · exact ⟨d, H2, I2.kept k, rd, q⟩
  · rcases hv with ⟨_, hv⟩ | ⟨z, _⟩
    · obtain ⟨t, rfl⟩ := intItems_at hv
      rw [min_is e2 hmx]
      exact ⟨.int m, H2, I2.kept k, ⟨_, rfl⟩, q⟩
    · rw [hs] at z
      have := List.length_pos_of_mem hmx.1
      omega
end
end L2
set_option Elab.async false
set_option linter.all false
set_option maxRecDepth 100000
set_option maxHeartbeats 4000000
namespace MyLaw
open PySem L2
def top (i : Nat) : Stmt := PySem.Challenge.pw_markscale_k30_days_by_steps.main.body.getD i (.Pass ⟨0, 0, 0, 0⟩)
abbrev s_is_whole : Stmt := top 6
theorem sc_is_whole : FnScope ["thing"] ["thing"] (defScope s_is_whole) := ⟨rfl, rfl, rfl, by decide +kernel, rfl, by decide +kernel, by decide +kernel⟩
abbrev s_divisor_of : Stmt := top 7
theorem sc_divisor_of : FnScope ["one", "other", "high", "low", "rest"] ["one", "other"] (defScope s_divisor_of) := ⟨rfl, rfl, rfl, by decide +kernel, rfl, by decide +kernel, by decide +kernel⟩
abbrev s_number : Stmt := top 8
theorem sc_number : FnScope ["top", "bottom", "divisor"] ["top", "bottom"] (defScope s_number) := ⟨rfl, rfl, rfl, by decide +kernel, rfl, by decide +kernel, by decide +kernel⟩
abbrev s_plus : Stmt := top 9
abbrev s_minus : Stmt := top 10
abbrev s_times : Stmt := top 11
abbrev s_over : Stmt := top 12
abbrev s_under : Stmt := top 13
theorem sc_under : FnScope ["one", "other"] ["one", "other"] (defScope s_under) := ⟨rfl, rfl, rfl, by decide +kernel, rfl, by decide +kernel, by decide +kernel⟩
abbrev s_rounded : Stmt := top 15
theorem sc_rounded : FnScope ["one"] ["one"] (defScope s_rounded) := ⟨rfl, rfl, rfl, by decide +kernel, rfl, by decide +kernel, by decide +kernel⟩
abbrev s_is_leap : Stmt := top 22
theorem sc_is_leap : FnScope ["year"] ["year"] (defScope s_is_leap) := ⟨rfl, rfl, rfl, by decide +kernel, rfl, by decide +kernel, by decide +kernel⟩
abbrev s_month_length : Stmt := top 23
theorem sc_month_length : FnScope ["year", "month"] ["year", "month"] (defScope s_month_length) := ⟨rfl, rfl, rfl, by decide +kernel, rfl, by decide +kernel, by decide +kernel⟩
abbrev s_year_begin : Stmt := top 24
theorem sc_year_begin : FnScope ["year", "ahead"] ["year"] (defScope s_year_begin) := ⟨rfl, rfl, rfl, by decide +kernel, rfl, by decide +kernel, by decide +kernel⟩
abbrev s_day_of : Stmt := top 25
theorem sc_day_of : FnScope ["year", "month", "day", "ahead"] ["year", "month", "day"] (defScope s_day_of) := ⟨rfl, rfl, rfl, by decide +kernel, rfl, by decide +kernel, by decide +kernel⟩
abbrev s_year_of : Stmt := top 26
theorem sc_year_of : FnScope ["day", "year"] ["day"] (defScope s_year_of) := ⟨rfl, rfl, rfl, by decide +kernel, rfl, by decide +kernel, by decide +kernel⟩
abbrev s_parts_of : Stmt := top 27
theorem sc_parts_of : FnScope ["day", "year", "month", "left"] ["day"] (defScope s_parts_of) := ⟨rfl, rfl, rfl, by decide +kernel, rfl, by decide +kernel, by decide +kernel⟩
abbrev s_show_day : Stmt := top 28
theorem sc_show_day : FnScope ["day", "parts"] ["day"] (defScope s_show_day) := ⟨rfl, rfl, rfl, by decide +kernel, rfl, by decide +kernel, by decide +kernel⟩
abbrev s_month_of : Stmt := top 29
theorem sc_month_of : FnScope ["day", "parts"] ["day"] (defScope s_month_of) := ⟨rfl, rfl, rfl, by decide +kernel, rfl, by decide +kernel, by decide +kernel⟩
abbrev s_month_begin : Stmt := top 30
theorem sc_month_begin : FnScope ["month"] ["month"] (defScope s_month_begin) := ⟨rfl, rfl, rfl, by decide +kernel, rfl, by decide +kernel, by decide +kernel⟩
abbrev s_comes_before : Stmt := top 32
theorem sc_comes_before : FnScope ["one", "other"] ["one", "other"] (defScope s_comes_before) := ⟨rfl, rfl, rfl, by decide +kernel, rfl, by decide +kernel, by decide +kernel⟩
abbrev s_least_of : Stmt := top 35
theorem sc_least_of : FnScope ["cells", "least", "cell"] ["cells"] (defScope s_least_of) := ⟨rfl, rfl, rfl, by decide +kernel, rfl, by decide +kernel, by decide +kernel⟩
abbrev s_greatest_of : Stmt := top 36
theorem sc_greatest_of : FnScope ["cells", "greatest", "cell"] ["cells"] (defScope s_greatest_of) := ⟨rfl, rfl, rfl, by decide +kernel, rfl, by decide +kernel, by decide +kernel⟩
abbrev s_place_on_days : Stmt := top 46
theorem sc_place_on_days : FnScope ["scale", "cell"] ["scale", "cell"] (defScope s_place_on_days) := ⟨rfl, rfl, rfl, by decide +kernel, rfl, by decide +kernel, by decide +kernel⟩
abbrev s_place_on : Stmt := top 48
theorem sc_place_on : FnScope ["scale", "cell"] ["scale", "cell"] (defScope s_place_on) := ⟨rfl, rfl, rfl, by decide +kernel, rfl, by decide +kernel, by decide +kernel⟩
abbrev s_widest_of : Stmt := top 63
theorem sc_widest_of : FnScope ["labels"] ["labels"] (defScope s_widest_of) := ⟨rfl, rfl, rfl, by decide +kernel, rfl, by decide +kernel, by decide +kernel⟩
abbrev s_labels_fit : Stmt := top 64
theorem sc_labels_fit : FnScope ["labels", "gap", "way", "widest"] ["labels", "gap", "way"] (defScope s_labels_fit) := ⟨rfl, rfl, rfl, by decide +kernel, rfl, by decide +kernel, by decide +kernel⟩
abbrev s_with_ticks : Stmt := top 65
theorem sc_with_ticks : FnScope ["scale", "cells", "labels"] ["scale", "cells", "labels"] (defScope s_with_ticks) := ⟨rfl, rfl, rfl, by decide +kernel, rfl, by decide +kernel, by decide +kernel⟩
abbrev s_days_about : Stmt := top 78
theorem sc_days_about : FnScope ["unit", "many", "least", "greatest", "low", "high", "first"] ["unit", "many", "least", "greatest"] (defScope s_days_about) := ⟨rfl, rfl, rfl, by decide +kernel, rfl, by decide +kernel, by decide +kernel⟩
abbrev s_days_by : Stmt := top 79
theorem sc_days_by : FnScope ["unit", "many", "least", "greatest", "length", "way", "ends", "cells", "shortest", "labels"] ["unit", "many", "least", "greatest", "length", "way"] (defScope s_days_by) := ⟨rfl, rfl, rfl, by decide +kernel, rfl, by decide +kernel, by decide +kernel⟩
abbrev s_days_axis : Stmt := top 80
theorem sc_days_axis : FnScope ["cells", "length", "way", "least", "greatest", "unit", "many", "axis"] ["cells", "length", "way"] (defScope s_days_axis) := ⟨rfl, rfl, rfl, by decide +kernel, rfl, by decide +kernel, by decide +kernel⟩
abbrev s_axis_for : Stmt := top 82
theorem sc_axis_for : FnScope ["wish", "cells", "length", "way", "nought"] ["wish", "cells", "length", "way", "nought"] (defScope s_axis_for) := ⟨rfl, rfl, rfl, by decide +kernel, rfl, by decide +kernel, by decide +kernel⟩
abbrev s_l_cell_at : Stmt := top 84
theorem sc_l_cell_at : FnScope ["_law_script", "_law_k"] ["_law_script", "_law_k"] (defScope s_l_cell_at) := ⟨rfl, rfl, rfl, by decide +kernel, rfl, by decide +kernel, by decide +kernel⟩
abbrev s_l_source : Stmt := top 85
theorem sc_l_source : FnScope ["_law_script", "_law_k", "_law_cell", "_law_seed"] ["_law_script", "_law_k"] (defScope s_l_source) := ⟨rfl, rfl, rfl, by decide +kernel, rfl, by decide +kernel, by decide +kernel⟩
abbrev s_l_draw : Stmt := top 86
theorem sc_l_draw : FnScope ["_law_source_here", "_law_many", "_law_digit"] ["_law_source_here", "_law_many"] (defScope s_l_draw) := ⟨rfl, rfl, rfl, by decide +kernel, rfl, by decide +kernel, by decide +kernel⟩
abbrev s_l_great : Stmt := top 87
theorem sc_l_great : FnScope ["_law_source_here", "_law_many", "_law_found", "_law_turn"] ["_law_source_here", "_law_many"] (defScope s_l_great) := ⟨rfl, rfl, rfl, by decide +kernel, rfl, by decide +kernel, by decide +kernel⟩
abbrev s_l_asked : Stmt := top 88
theorem sc_l_asked : FnScope ["_law_wish", "_law_cells", "_law_length", "_law_way", "_law_nought", "_law_found"] ["_law_wish", "_law_cells", "_law_length", "_law_way", "_law_nought"] (defScope s_l_asked) := ⟨rfl, rfl, rfl, by decide +kernel, rfl, by decide +kernel, by decide +kernel⟩
abbrev s_l_is_axis : Stmt := top 89
theorem sc_l_is_axis : FnScope ["_law_found", "_law_due_here", "_law_tick"] ["_law_found", "_law_due_here"] (defScope s_l_is_axis) := ⟨rfl, rfl, rfl, by decide +kernel, rfl, by decide +kernel, by decide +kernel⟩
abbrev s_l_right : Stmt := top 90
theorem sc_l_right : FnScope ["_law_wish", "_law_cells", "_law_length", "_law_way", "_law_nought", "_law_due_here", "_law_handed", "_law_found"] ["_law_wish", "_law_cells", "_law_length", "_law_way", "_law_nought", "_law_due_here"] (defScope s_l_right) := ⟨rfl, rfl, rfl, by decide +kernel, rfl, by decide +kernel, by decide +kernel⟩
abbrev s_l_days : Stmt := top 91
theorem sc_l_days : FnScope ["_law_source_here", "_law_low", "_law_high", "_law_base", "_law_way", "_law_spread", "_law_found", "_law_k", "_law_day"] ["_law_source_here"] (defScope s_l_days) := ⟨rfl, rfl, rfl, by decide +kernel, rfl, by decide +kernel, by decide +kernel⟩
abbrev s_l_months : Stmt := top 92
theorem sc_l_months : FnScope ["_law_step", "_law_least", "_law_greatest", "_law_first", "_law_last"] ["_law_step", "_law_least", "_law_greatest"] (defScope s_l_months) := ⟨rfl, rfl, rfl, by decide +kernel, rfl, by decide +kernel, by decide +kernel⟩
abbrev s_l_fit : Stmt := top 93
theorem sc_l_fit : FnScope ["_law_days_here", "_law_length", "_law_way", "_law_total", "_law_least"] ["_law_days_here", "_law_length", "_law_way"] (defScope s_l_fit) := ⟨rfl, rfl, rfl, by decide +kernel, rfl, by decide +kernel, by decide +kernel⟩
abbrev s_l_axis : Stmt := top 94
theorem sc_l_axis : FnScope ["_law_days_here", "_law_length", "_law_total", "_law_ticks"] ["_law_days_here", "_law_length"] (defScope s_l_axis) := ⟨rfl, rfl, rfl, by decide +kernel, rfl, by decide +kernel, by decide +kernel⟩
abbrev s_l_due : Stmt := top 95
theorem sc_l_due : FnScope ["_law_least", "_law_greatest", "_law_length", "_law_way", "_law_step", "_law_first", "_law_last", "_law_days_here"] ["_law_least", "_law_greatest", "_law_length", "_law_way"] (defScope s_l_due) := ⟨rfl, rfl, rfl, by decide +kernel, rfl, by decide +kernel, by decide +kernel⟩
abbrev s_law : Stmt := top 96
theorem sc_law : FnScope ["_law_script", "_law_k", "_law_source_here", "_law_cells", "_law_length", "_law_wanted", "_law_least", "_law_greatest", "_law_way"] ["_law_script"] (defScope s_law) := ⟨rfl, rfl, rfl, by decide +kernel, rfl, by decide +kernel, by decide +kernel⟩
structure Adr where
  (f_is_whole : Addr) (d_is_whole : FuncData)
  (f_divisor_of : Addr) (d_divisor_of : FuncData)
  (f_number : Addr) (d_number : FuncData)
  (f_plus : Addr) (d_plus : FuncData)
  (f_minus : Addr) (d_minus : FuncData)
  (f_times : Addr) (d_times : FuncData)
  (f_over : Addr) (d_over : FuncData)
  (f_under : Addr) (d_under : FuncData)
  (f_rounded : Addr) (d_rounded : FuncData)
  (f_is_leap : Addr) (d_is_leap : FuncData)
  (f_month_length : Addr) (d_month_length : FuncData)
  (f_year_begin : Addr) (d_year_begin : FuncData)
  (f_day_of : Addr) (d_day_of : FuncData)
  (f_year_of : Addr) (d_year_of : FuncData)
  (f_parts_of : Addr) (d_parts_of : FuncData)
  (f_show_day : Addr) (d_show_day : FuncData)
  (f_month_of : Addr) (d_month_of : FuncData)
  (f_month_begin : Addr) (d_month_begin : FuncData)
  (f_comes_before : Addr) (d_comes_before : FuncData)
  (f_least_of : Addr) (d_least_of : FuncData)
  (f_greatest_of : Addr) (d_greatest_of : FuncData)
  (f_place_on_days : Addr) (d_place_on_days : FuncData)
  (f_place_on : Addr) (d_place_on : FuncData)
  (f_widest_of : Addr) (d_widest_of : FuncData)
  (f_labels_fit : Addr) (d_labels_fit : FuncData)
  (f_with_ticks : Addr) (d_with_ticks : FuncData)
  (f_days_about : Addr) (d_days_about : FuncData)
  (f_days_by : Addr) (d_days_by : FuncData)
  (f_days_axis : Addr) (d_days_axis : FuncData)
  (f_axis_for : Addr) (d_axis_for : FuncData)
  (f_l_cell_at : Addr) (d_l_cell_at : FuncData)
  (f_l_source : Addr) (d_l_source : FuncData)
  (f_l_draw : Addr) (d_l_draw : FuncData)
  (f_l_great : Addr) (d_l_great : FuncData)
  (f_l_asked : Addr) (d_l_asked : FuncData)
  (f_l_is_axis : Addr) (d_l_is_axis : FuncData)
  (f_l_right : Addr) (d_l_right : FuncData)
  (f_l_days : Addr) (d_l_days : FuncData)
  (f_l_months : Addr) (d_l_months : FuncData)
  (f_l_fit : Addr) (d_l_fit : FuncData)
  (f_l_axis : Addr) (d_l_axis : FuncData)
  (f_l_due : Addr) (d_l_due : FuncData)
  (f_law : Addr) (d_law : FuncData)
  (c_NoNumber : Addr)
  (c_NoDay : Addr)
  (c_NoSpace : Addr)
  (g_SIGN_WIDTH : Tok)
  (g_WIDEST_LABEL : Tok)
  (g_LEAST_UPRIGHT : Tok)
  (g_ROOM_BESIDE : Tok)
  (g_LAST_YEAR : Tok)
  (g_DAYS_OF_400_YEARS : Tok)
  (g_MONTH_LENGTHS : Addr)
  (g_NO_CELLS_DAYS : Addr)
  (g_DAY_STEPS : Addr)
structure Txt (K : Fg) (mg : Str → Option Value) (t : Adr) : Prop where
  F_is_whole : Fun K "is_whole" "is_whole" s_is_whole t.f_is_whole t.d_is_whole
  m_is_whole : mg "is_whole" = some (.ref t.f_is_whole)
  k_is_whole : PySem.W.keepIn K (.ref t.f_is_whole) = true
  b_is_whole : Binds K t.d_is_whole ["thing"] []
  F_divisor_of : Fun K "divisor_of" "divisor_of" s_divisor_of t.f_divisor_of t.d_divisor_of
  m_divisor_of : mg "divisor_of" = some (.ref t.f_divisor_of)
  k_divisor_of : PySem.W.keepIn K (.ref t.f_divisor_of) = true
  b_divisor_of : Binds K t.d_divisor_of ["one", "other"] []
  F_number : FunD K "number" "number" s_number t.f_number t.d_number
  m_number : mg "number" = some (.ref t.f_number)
  k_number : PySem.W.keepIn K (.ref t.f_number) = true
  b_number : Binds K t.d_number ["top", "bottom"] []
  b_number1 : ∃ ds, Vals [V.int 1] ds ∧ Binds K t.d_number ["top", "bottom"] ds
  F_plus : Fun K "plus" "plus" s_plus t.f_plus t.d_plus
  m_plus : mg "plus" = some (.ref t.f_plus)
  k_plus : PySem.W.keepIn K (.ref t.f_plus) = true
  b_plus : Binds K t.d_plus ["one", "other"] []
  F_minus : Fun K "minus" "minus" s_minus t.f_minus t.d_minus
  m_minus : mg "minus" = some (.ref t.f_minus)
  k_minus : PySem.W.keepIn K (.ref t.f_minus) = true
  b_minus : Binds K t.d_minus ["one", "other"] []
  F_times : Fun K "times" "times" s_times t.f_times t.d_times
  m_times : mg "times" = some (.ref t.f_times)
  k_times : PySem.W.keepIn K (.ref t.f_times) = true
  b_times : Binds K t.d_times ["one", "other"] []
  F_over : Fun K "over" "over" s_over t.f_over t.d_over
  m_over : mg "over" = some (.ref t.f_over)
  k_over : PySem.W.keepIn K (.ref t.f_over) = true
  b_over : Binds K t.d_over ["one", "other"] []
  F_under : Fun K "under" "under" s_under t.f_under t.d_under
  m_under : mg "under" = some (.ref t.f_under)
  k_under : PySem.W.keepIn K (.ref t.f_under) = true
  b_under : Binds K t.d_under ["one", "other"] []
  F_rounded : Fun K "rounded" "rounded" s_rounded t.f_rounded t.d_rounded
  m_rounded : mg "rounded" = some (.ref t.f_rounded)
  k_rounded : PySem.W.keepIn K (.ref t.f_rounded) = true
  b_rounded : Binds K t.d_rounded ["one"] []
  F_is_leap : Fun K "is_leap" "is_leap" s_is_leap t.f_is_leap t.d_is_leap
  m_is_leap : mg "is_leap" = some (.ref t.f_is_leap)
  k_is_leap : PySem.W.keepIn K (.ref t.f_is_leap) = true
  b_is_leap : Binds K t.d_is_leap ["year"] []
  F_month_length : Fun K "month_length" "month_length" s_month_length t.f_month_length t.d_month_length
  m_month_length : mg "month_length" = some (.ref t.f_month_length)
  k_month_length : PySem.W.keepIn K (.ref t.f_month_length) = true
  b_month_length : Binds K t.d_month_length ["year", "month"] []
  F_year_begin : Fun K "year_begin" "year_begin" s_year_begin t.f_year_begin t.d_year_begin
  m_year_begin : mg "year_begin" = some (.ref t.f_year_begin)
  k_year_begin : PySem.W.keepIn K (.ref t.f_year_begin) = true
  b_year_begin : Binds K t.d_year_begin ["year"] []
  F_day_of : Fun K "day_of" "day_of" s_day_of t.f_day_of t.d_day_of
  m_day_of : mg "day_of" = some (.ref t.f_day_of)
  k_day_of : PySem.W.keepIn K (.ref t.f_day_of) = true
  b_day_of : Binds K t.d_day_of ["year", "month", "day"] []
  F_year_of : Fun K "year_of" "year_of" s_year_of t.f_year_of t.d_year_of
  m_year_of : mg "year_of" = some (.ref t.f_year_of)
  k_year_of : PySem.W.keepIn K (.ref t.f_year_of) = true
  b_year_of : Binds K t.d_year_of ["day"] []
  F_parts_of : Fun K "parts_of" "parts_of" s_parts_of t.f_parts_of t.d_parts_of
  m_parts_of : mg "parts_of" = some (.ref t.f_parts_of)
  k_parts_of : PySem.W.keepIn K (.ref t.f_parts_of) = true
  b_parts_of : Binds K t.d_parts_of ["day"] []
  F_show_day : Fun K "show_day" "show_day" s_show_day t.f_show_day t.d_show_day
  m_show_day : mg "show_day" = some (.ref t.f_show_day)
  k_show_day : PySem.W.keepIn K (.ref t.f_show_day) = true
  b_show_day : Binds K t.d_show_day ["day"] []
  F_month_of : Fun K "month_of" "month_of" s_month_of t.f_month_of t.d_month_of
  m_month_of : mg "month_of" = some (.ref t.f_month_of)
  k_month_of : PySem.W.keepIn K (.ref t.f_month_of) = true
  b_month_of : Binds K t.d_month_of ["day"] []
  F_month_begin : Fun K "month_begin" "month_begin" s_month_begin t.f_month_begin t.d_month_begin
  m_month_begin : mg "month_begin" = some (.ref t.f_month_begin)
  k_month_begin : PySem.W.keepIn K (.ref t.f_month_begin) = true
  b_month_begin : Binds K t.d_month_begin ["month"] []
  F_comes_before : Fun K "comes_before" "comes_before" s_comes_before t.f_comes_before t.d_comes_before
  m_comes_before : mg "comes_before" = some (.ref t.f_comes_before)
  k_comes_before : PySem.W.keepIn K (.ref t.f_comes_before) = true
  b_comes_before : Binds K t.d_comes_before ["one", "other"] []
  F_least_of : Fun K "least_of" "least_of" s_least_of t.f_least_of t.d_least_of
  m_least_of : mg "least_of" = some (.ref t.f_least_of)
  k_least_of : PySem.W.keepIn K (.ref t.f_least_of) = true
  b_least_of : Binds K t.d_least_of ["cells"] []
  F_greatest_of : Fun K "greatest_of" "greatest_of" s_greatest_of t.f_greatest_of t.d_greatest_of
  m_greatest_of : mg "greatest_of" = some (.ref t.f_greatest_of)
  k_greatest_of : PySem.W.keepIn K (.ref t.f_greatest_of) = true
  b_greatest_of : Binds K t.d_greatest_of ["cells"] []
  F_place_on_days : Fun K "place_on_days" "place_on_days" s_place_on_days t.f_place_on_days t.d_place_on_days
  m_place_on_days : mg "place_on_days" = some (.ref t.f_place_on_days)
  k_place_on_days : PySem.W.keepIn K (.ref t.f_place_on_days) = true
  b_place_on_days : Binds K t.d_place_on_days ["scale", "cell"] []
  F_place_on : Fun K "place_on" "place_on" s_place_on t.f_place_on t.d_place_on
  m_place_on : mg "place_on" = some (.ref t.f_place_on)
  k_place_on : PySem.W.keepIn K (.ref t.f_place_on) = true
  b_place_on : Binds K t.d_place_on ["scale", "cell"] []
  F_widest_of : Fun K "widest_of" "widest_of" s_widest_of t.f_widest_of t.d_widest_of
  m_widest_of : mg "widest_of" = some (.ref t.f_widest_of)
  k_widest_of : PySem.W.keepIn K (.ref t.f_widest_of) = true
  b_widest_of : Binds K t.d_widest_of ["labels"] []
  F_labels_fit : Fun K "labels_fit" "labels_fit" s_labels_fit t.f_labels_fit t.d_labels_fit
  m_labels_fit : mg "labels_fit" = some (.ref t.f_labels_fit)
  k_labels_fit : PySem.W.keepIn K (.ref t.f_labels_fit) = true
  b_labels_fit : Binds K t.d_labels_fit ["labels", "gap", "way"] []
  F_with_ticks : Fun K "with_ticks" "with_ticks" s_with_ticks t.f_with_ticks t.d_with_ticks
  m_with_ticks : mg "with_ticks" = some (.ref t.f_with_ticks)
  k_with_ticks : PySem.W.keepIn K (.ref t.f_with_ticks) = true
  b_with_ticks : Binds K t.d_with_ticks ["scale", "cells", "labels"] []
  F_days_about : Fun K "days_about" "days_about" s_days_about t.f_days_about t.d_days_about
  m_days_about : mg "days_about" = some (.ref t.f_days_about)
  k_days_about : PySem.W.keepIn K (.ref t.f_days_about) = true
  b_days_about : Binds K t.d_days_about ["unit", "many", "least", "greatest"] []
  F_days_by : Fun K "days_by" "days_by" s_days_by t.f_days_by t.d_days_by
  m_days_by : mg "days_by" = some (.ref t.f_days_by)
  k_days_by : PySem.W.keepIn K (.ref t.f_days_by) = true
  b_days_by : Binds K t.d_days_by ["unit", "many", "least", "greatest", "length", "way"] []
  F_days_axis : Fun K "days_axis" "days_axis" s_days_axis t.f_days_axis t.d_days_axis
  m_days_axis : mg "days_axis" = some (.ref t.f_days_axis)
  k_days_axis : PySem.W.keepIn K (.ref t.f_days_axis) = true
  b_days_axis : Binds K t.d_days_axis ["cells", "length", "way"] []
  F_axis_for : FunD K "axis_for" "axis_for" s_axis_for t.f_axis_for t.d_axis_for
  m_axis_for : mg "axis_for" = some (.ref t.f_axis_for)
  k_axis_for : PySem.W.keepIn K (.ref t.f_axis_for) = true
  b_axis_for : Binds K t.d_axis_for ["wish", "cells", "length", "way", "nought"] []
  b_axis_for4 : ∃ ds, Vals [V.bl false] ds ∧ Binds K t.d_axis_for ["wish", "cells", "length", "way", "nought"] ds
  F_l_cell_at : Fun K "_law_cell_at" "_law_cell_at" s_l_cell_at t.f_l_cell_at t.d_l_cell_at
  m_l_cell_at : mg "_law_cell_at" = some (.ref t.f_l_cell_at)
  k_l_cell_at : PySem.W.keepIn K (.ref t.f_l_cell_at) = true
  b_l_cell_at : Binds K t.d_l_cell_at ["_law_script", "_law_k"] []
  F_l_source : Fun K "_law_source" "_law_source" s_l_source t.f_l_source t.d_l_source
  m_l_source : mg "_law_source" = some (.ref t.f_l_source)
  k_l_source : PySem.W.keepIn K (.ref t.f_l_source) = true
  b_l_source : Binds K t.d_l_source ["_law_script", "_law_k"] []
  F_l_draw : Fun K "_law_draw" "_law_draw" s_l_draw t.f_l_draw t.d_l_draw
  m_l_draw : mg "_law_draw" = some (.ref t.f_l_draw)
  k_l_draw : PySem.W.keepIn K (.ref t.f_l_draw) = true
  b_l_draw : Binds K t.d_l_draw ["_law_source_here", "_law_many"] []
  F_l_great : Fun K "_law_great" "_law_great" s_l_great t.f_l_great t.d_l_great
  m_l_great : mg "_law_great" = some (.ref t.f_l_great)
  k_l_great : PySem.W.keepIn K (.ref t.f_l_great) = true
  b_l_great : Binds K t.d_l_great ["_law_source_here", "_law_many"] []
  F_l_asked : Fun K "_law_asked" "_law_asked" s_l_asked t.f_l_asked t.d_l_asked
  m_l_asked : mg "_law_asked" = some (.ref t.f_l_asked)
  k_l_asked : PySem.W.keepIn K (.ref t.f_l_asked) = true
  b_l_asked : Binds K t.d_l_asked ["_law_wish", "_law_cells", "_law_length", "_law_way", "_law_nought"] []
  F_l_is_axis : Fun K "_law_is_axis" "_law_is_axis" s_l_is_axis t.f_l_is_axis t.d_l_is_axis
  m_l_is_axis : mg "_law_is_axis" = some (.ref t.f_l_is_axis)
  k_l_is_axis : PySem.W.keepIn K (.ref t.f_l_is_axis) = true
  b_l_is_axis : Binds K t.d_l_is_axis ["_law_found", "_law_due_here"] []
  F_l_right : Fun K "_law_right" "_law_right" s_l_right t.f_l_right t.d_l_right
  m_l_right : mg "_law_right" = some (.ref t.f_l_right)
  k_l_right : PySem.W.keepIn K (.ref t.f_l_right) = true
  b_l_right : Binds K t.d_l_right ["_law_wish", "_law_cells", "_law_length", "_law_way", "_law_nought", "_law_due_here"] []
  F_l_days : Fun K "_law_days" "_law_days" s_l_days t.f_l_days t.d_l_days
  m_l_days : mg "_law_days" = some (.ref t.f_l_days)
  k_l_days : PySem.W.keepIn K (.ref t.f_l_days) = true
  b_l_days : Binds K t.d_l_days ["_law_source_here"] []
  F_l_months : Fun K "_law_months" "_law_months" s_l_months t.f_l_months t.d_l_months
  m_l_months : mg "_law_months" = some (.ref t.f_l_months)
  k_l_months : PySem.W.keepIn K (.ref t.f_l_months) = true
  b_l_months : Binds K t.d_l_months ["_law_step", "_law_least", "_law_greatest"] []
  F_l_fit : Fun K "_law_fit" "_law_fit" s_l_fit t.f_l_fit t.d_l_fit
  m_l_fit : mg "_law_fit" = some (.ref t.f_l_fit)
  k_l_fit : PySem.W.keepIn K (.ref t.f_l_fit) = true
  b_l_fit : Binds K t.d_l_fit ["_law_days_here", "_law_length", "_law_way"] []
  F_l_axis : Fun K "_law_axis" "_law_axis" s_l_axis t.f_l_axis t.d_l_axis
  m_l_axis : mg "_law_axis" = some (.ref t.f_l_axis)
  k_l_axis : PySem.W.keepIn K (.ref t.f_l_axis) = true
  b_l_axis : Binds K t.d_l_axis ["_law_days_here", "_law_length"] []
  F_l_due : Fun K "_law_due" "_law_due" s_l_due t.f_l_due t.d_l_due
  m_l_due : mg "_law_due" = some (.ref t.f_l_due)
  k_l_due : PySem.W.keepIn K (.ref t.f_l_due) = true
  b_l_due : Binds K t.d_l_due ["_law_least", "_law_greatest", "_law_length", "_law_way"] []
  F_law : Fun K "law" "law" s_law t.f_law t.d_law
  m_law : mg "law" = some (.ref t.f_law)
  k_law : PySem.W.keepIn K (.ref t.f_law) = true
  b_law : Binds K t.d_law ["_law_script"] []
  m_NoNumber : mg "NoNumber" = some (.ref t.c_NoNumber)
  n_NoNumber : PySem.W.nsIn K mainGlobals "NoNumber" = some (some (.ref t.c_NoNumber))
  x_NoNumber : PySem.W.excIn K t.c_NoNumber bmVE "ValueError.__new__" = true
  e_NoNumber : PySem.W.exmOne K (.ref t.c_NoNumber) (.ref t.c_NoNumber) = some true
  m_NoDay : mg "NoDay" = some (.ref t.c_NoDay)
  n_NoDay : PySem.W.nsIn K mainGlobals "NoDay" = some (some (.ref t.c_NoDay))
  x_NoDay : PySem.W.excIn K t.c_NoDay bmVE "ValueError.__new__" = true
  e_NoDay : PySem.W.exmOne K (.ref t.c_NoDay) (.ref t.c_NoDay) = some true
  m_NoSpace : mg "NoSpace" = some (.ref t.c_NoSpace)
  n_NoSpace : PySem.W.nsIn K mainGlobals "NoSpace" = some (some (.ref t.c_NoSpace))
  x_NoSpace : PySem.W.excIn K t.c_NoSpace bmVE "ValueError.__new__" = true
  e_NoSpace : PySem.W.exmOne K (.ref t.c_NoSpace) (.ref t.c_NoSpace) = some true
  g_SIGN_WIDTH : mg "SIGN_WIDTH" = some (.int 6 t.g_SIGN_WIDTH)
  g_WIDEST_LABEL : mg "WIDEST_LABEL" = some (.int 60 t.g_WIDEST_LABEL)
  g_LEAST_UPRIGHT : mg "LEAST_UPRIGHT" = some (.int 12 t.g_LEAST_UPRIGHT)
  g_ROOM_BESIDE : mg "ROOM_BESIDE" = some (.int 6 t.g_ROOM_BESIDE)
  g_LAST_YEAR : mg "LAST_YEAR" = some (.int 9999 t.g_LAST_YEAR)
  g_DAYS_OF_400_YEARS : mg "DAYS_OF_400_YEARS" = some (.int 146097 t.g_DAYS_OF_400_YEARS)
  g_MONTH_LENGTHS : mg "MONTH_LENGTHS" = some (.ref t.g_MONTH_LENGTHS)
  v_MONTH_LENGTHS : ∀ H, SqT K H t.g_MONTH_LENGTHS (([31, 28, 31, 30, 31, 30, 31, 31, 30, 31, 30, 31] : List Int).map V.int)
  g_NO_CELLS_DAYS : mg "NO_CELLS_DAYS" = some (.ref t.g_NO_CELLS_DAYS)
  v_NO_CELLS_DAYS : ∀ H, SqT K H t.g_NO_CELLS_DAYS (([730119, 730120] : List Int).map V.int)
  g_DAY_STEPS : mg "DAY_STEPS" = some (.ref t.g_DAY_STEPS)
  v_DAY_STEPS : ∀ H, Is K H (.ref t.g_DAY_STEPS) (.tup [.tup [.str "days", .int 1], .tup [.str "days", .int 7], .tup [.str "months", .int 1], .tup [.str "months", .int 3], .tup [.str "months", .int 12], .tup [.str "months", .int 120], .tup [.str "months", .int 1200], .tup [.str "months", .int 12000]])
  z_isinstance : mg "isinstance" = none
  z_int : mg "int" = none
  z_bool : mg "bool" = none
  z_tuple : mg "tuple" = none
  z_str : mg "str" = none
  z_list : mg "list" = none
  z_abs : mg "abs" = none
  z_len : mg "len" = none
  z_range : mg "range" = none
  z_sum : mg "sum" = none
  z_max : mg "max" = none
  z_min : mg "min" = none
  z_zip : mg "zip" = none
theorem at0 {α : Type} (x y : α) : atI [x, y] 0 = some x := rfl
theorem at1 {α : Type} (x y : α) : atI [x, y] 1 = some y := rfl
theorem iteBT {b : Bool} {A B : Prop} (hb : b = true) (h : A) : if b = true then A else B := by
  rw [if_pos hb]; exact h
theorem iteDF {c A B : Prop} [Decidable c] (hc : ¬ c) (h : B) : if decide c = true then A else B := by
  rw [decide_eq_false hc]; exact iteF h
theorem iteDT {c A B : Prop} [Decidable c] (hc : c) (h : A) : if decide c = true then A else B := by
  rw [decide_eq_true hc]; exact iteT h
theorem mid2 : Mid 2 := by unfold Mid My.Bd; decide
theorem iteNF {c A B : Prop} [Decidable c] (hc : ¬ c) (h : A) : if (!decide c) = true then A else B := by
  rw [decide_eq_false hc]; exact iteT h
def cellAt (ns : List Int) (k : Int) : Int := ns.getD k.toNat 0
def sp_whole (K : Fg) : Sp := fun vs H Q _ => ∃ x g, vs = [x] ∧ tgIs K H x g ∧ Q (.bl (match g with | .int => true | _ => false)) H
def sp_cell (K : Fg) : Sp := fun vs H Q _ => ∃ (a : Addr) (ns : List Int) (k : Int), vs = [.ref a, .int k] ∧ SqL K H a (ns.map V.int) ∧ 0 ≤ k ∧ Q (.int (cellAt ns k)) H
def sp_law (K : Fg) : Sp := fun vs H Q _ => ∃ (a : Addr) (ns : List Int), vs = [.ref a] ∧ SqL K H a (ns.map V.int) ∧ ns.length ≤ 63 ∧ (∀ x ∈ ns, My.Bd 1048576 x) ∧ ∀ H', Q (.bl true) H'
def sp_gcd : Sp := fun vs H Q _ => ∃ a b : Int, vs = [.int a, .int b] ∧ Q (.int ((Int.gcd a b : Nat) : Int)) H
structure Pr (K : Fg) (H : Hp) (p : Addr) (a b : Int) (n : Nat) : Prop where
  s : SqT K H p [.int a, .int b]
  pos : 0 < b
  ba : My.Bd n a
  bb : My.Bd n b
def NewQ (K : Fg) (H : Hp) (Q : VK) (n : Nat) (v : Rat) : Prop := ∀ (p : Addr) (H' : Hp) (x y : Int), Same H H' → Pr K H' p x y n → Int.gcd x y = 1 → My.qv x y = v → Q (.ref p) H'
def sp_number (K : Fg) : Sp := fun vs H Q _ => ∃ (t m : Int) (n : Nat), vs = [.int t, .int m] ∧ My.Bd n t ∧ My.Bd n m ∧ n ≤ 3900 ∧ m ≠ 0 ∧ NewQ K H Q n (My.qv t m)
def sp_cmp (K : Fg) (f : Int → Int → Int → Int → V) : Sp := fun vs H Q _ => ∃ (p r : Addr) (a b c d : Int) (n1 n2 : Nat), vs = [.ref p, .ref r] ∧ Pr K H p a b n1 ∧ Pr K H r c d n2 ∧ n1 + n2 ≤ 3900 ∧ Q (f a b c d) H
section
variable {P : Program} {w : World} {K : Fg} {mg : Str → Option Value} {base : Heap} {t : Adr}
theorem ok_is_whole (T : Txt K mg t) : FnOk P w K mg base CX0 1 t.f_is_whole t.d_is_whole ["thing"] (sp_whole K) := by
  refine T.F_is_whole.ok sc_is_whole (fun vs H Q E h => ?_) (fun cdv A outer s H vs Q E hr h => ?_)
  · obtain ⟨x, g, rfl, _⟩ := h
    rfl
  obtain ⟨x, g, rfl, hg, q⟩ := h
  refine ⟨_, (pso (ps_ret (pe_and (pe_isi isi_int rfl rfl T.z_isinstance T.z_int bt_int (pv 0)) (pe_one (pe_not (pe_isi isi_bool rfl rfl T.z_isinstance T.z_bool bt_bool (pv 0))))))), ?_⟩
  refine ⟨_, rfl, _, g, rfl, hg, _, rfl, ?_⟩
  cases g with
  | int => exact iteT ⟨_, rfl, _, .int, rfl, hg, _, rfl, q⟩
  | bl => exact iteT ⟨_, rfl, _, .bl, rfl, hg, _, rfl, q⟩
  | non => exact iteF q
  | str => exact iteF q
  | tup => exact iteF q
  | lst => exact iteF q
  | dic => exact iteF q
theorem ok_l_cell_at (T : Txt K mg t) : FnOk P w K mg base CX0 1 t.f_l_cell_at t.d_l_cell_at ["_law_script", "_law_k"] (sp_cell K) := by
  refine T.F_l_cell_at.ok sc_l_cell_at (fun vs H Q E h => ?_) (fun cdv A outer s H vs Q E hr h => ?_)
  · obtain ⟨a, ns, k, rfl, _⟩ := h
    rfl
  obtain ⟨a, ns, k, rfl, hS, h0, q⟩ := h
  refine ⟨_, (psc (ps_if (pt_cmpR op_lt (pv 1) (pe_callB call_len_seq rfl T.z_len PySem.boot_len (pcn (pv 0) pnl)) (nomark _)) (pso (ps_ret (pe_ix ixl (pv 0) (pv 1) (fun _ _ => rfl)))) pss_nil)
  (pso (ps_ret pei))), ?_⟩
  have hl : (ns.map V.int).length = ns.length := List.length_map _
  refine ⟨_, rfl, _, rfl, a, _, rfl, .inl hS, _, _, rfl, rfl, _, rfl, ?_⟩
  refine ite2 (fun c => ?_) (fun c => ?_)
  · have c' : k < (((ns.map V.int).length : Nat) : Int) := of_decide_eq_true c
    rw [hl] at c'
    have hk : k.toNat < ns.length := by omega
    have hv : atI (ns.map V.int) k = some (.int (cellAt ns k)) := by
      have ek : k = ((k.toNat : Nat) : Int) := by omega
      have q : atI (ns.map V.int) ((k.toNat : Nat) : Int) = some (.int (cellAt ns k)) := atI_nat (by
        rw [List.getElem?_map, List.getElem?_eq_getElem hk]
        unfold cellAt
        rw [List.getD_eq_getElem?_getD, List.getElem?_eq_getElem hk] <;> rfl)
      rw [← ek] at q
      exact q
    exact ⟨_, rfl, _, rfl, _, _, _, _, rfl, rfl, hS, hv, q⟩
  · have c' : ¬ k < (((ns.map V.int).length : Nat) : Int) := of_decide_eq_false (Bool.eq_false_iff.mpr c)
    rw [hl] at c'
    have e : cellAt ns k = 0 := by
      unfold cellAt
      rw [List.getD_eq_getElem?_getD, List.getElem?_eq_none (by omega)] <;> rfl
    rw [e] at q
    exact q
theorem gcd_abs (a b : Int) : Int.gcd (if a < 0 then -a else a) (if b < 0 then -b else b) = Int.gcd a b := by
  rw [My.natAbs_abs, My.natAbs_abs]
  rfl
theorem ok_divisor_of (T : Txt K mg t) : FnOk P w K mg base CX0 1 t.f_divisor_of t.d_divisor_of ["one", "other"] sp_gcd := by
  refine T.F_divisor_of.ok sc_divisor_of (fun vs H Q E h => ?_) (fun cdv A outer s H vs Q E hr h => ?_)
  · obtain ⟨a, b, rfl, _⟩ := h
    rfl
  obtain ⟨a, b, rfl, q⟩ := h
  refine ⟨_, (psc (ps_set (i := 2) sc_divisor_of.nd rfl (Or.inl rfl) (pe_callB call_abs rfl T.z_abs bt_abs (pcn (pv 0) pnl)))
  (psc (ps_set (i := 3) sc_divisor_of.nd rfl (Or.inl rfl) (pe_callB call_abs rfl T.z_abs bt_abs (pcn (pv 1) pnl)))
  (psc (ps_while PassesOwn.never (pt_truth (pv 3) (fun _ => rfl)) (psc (ps_set (i := 4) sc_divisor_of.nd rfl (Or.inl rfl) (pe_op op_mod (pv 2) (pv 3)))
  (psc (ps_set (i := 2) sc_divisor_of.nd rfl (Or.inl rfl) (pv 3))
  (pso (ps_set (i := 3) sc_divisor_of.nd rfl (Or.inl rfl) (pv 4))))))
  (pso (ps_ret (pv 2)))))), ?_⟩
  refine ⟨_, rfl, _, rfl, ?_⟩
  refine ⟨_, rfl, _, rfl, ?_⟩
  dsimp only [gName, tSeq]
  refine while_by (fun σ H' => ∃ (x y : Int) (r : Option V), σ = [some (.int a), some (.int b), some (.int x), some (.int y), r] ∧ H' = H ∧ 0 ≤ x ∧ 0 ≤ y ∧ Int.gcd x y = Int.gcd a b)
    (fun σ _ => match σ with | [_, _, _, some (.int y), _] => y.toNat | _ => 0) ⟨_, _, none, rfl, rfl, by split <;> omega, by split <;> omega, gcd_abs a b⟩ ?_ ?_
  · rintro σ H' ⟨x, y, r, rfl, rfl, hx, hy, hg⟩
    refine ⟨_, rfl, _, rfl, ?_⟩
    by_cases h0 : y = 0
    · subst h0
      refine iteF ?_
      have e : x = ((Int.gcd a b : Nat) : Int) := by
        rw [← hg, Int.gcd_zero_right]
        omega
      refine ⟨_, rfl, ?_⟩
      rw [e]
      exact q
    · have hb : (y != 0) = true := by simpa using h0
      refine iteBT hb ?_
      have hp : 0 < y := by omega
      have h1 := Int.emod_nonneg x h0
      have h2 := Int.emod_lt_of_pos x hp
      refine ⟨_, rfl, _, rfl, _, _, rfl, rfl, hp, _, rfl, _, rfl, ⟨y, x % y, _, rfl, rfl, hy, h1, ?_⟩, ?_⟩
      · rw [My.gcd_step, hg]
      · show (x % y).toNat < y.toNat
        omega
  · rintro σ H' Q1 Q2 hi ⟨v, e, k, tr, q'⟩
    exact ⟨v, e, k, tr, hi _ _ q'⟩
theorem ok_number (T : Txt K mg t) : FnOk P w K mg base (CXe P w) 2 t.f_number t.d_number ["top", "bottom"] (sp_number K) := by
  have G_is_whole := ok_is_whole (P := P) (w := w) (base := base) T
  have G_divisor_of := ok_divisor_of (P := P) (w := w) (base := base) T
  refine T.F_number.okE sc_number (fun vs H Q E h => ?_) (fun cdv A outer s H vs Q E hr h => ?_)
  · obtain ⟨a, b, n, rfl, _⟩ := h
    rfl
  obtain ⟨tp, m, n, rfl, bt, bm, hn, h0, hQ⟩ := h
  refine ⟨_, (psc (ps_if (PW.pt (pw_or (pt_not (pt_val (pe_call G_is_whole (hr.mono (by decide)) rfl T.m_is_whole T.k_is_whole T.b_is_whole .nil pass0 (pcn (pv 0) pnl)))) (pw_or1 (pt_not (pt_val (pe_call G_is_whole (hr.mono (by decide)) rfl T.m_is_whole T.k_is_whole T.b_is_whole .nil pass0 (pcn (pv 1) pnl))))))) (pso (ps_raise rfl T.x_NoNumber T.n_NoNumber T.m_NoNumber rfl raisesE (pcn pe_str pnl))) pss_nil)
  (psc (ps_if (pt_cmpR op_eq (pv 1) pei (nomark _)) (pso (ps_raise rfl T.x_NoNumber T.n_NoNumber T.m_NoNumber rfl raisesE (pcn pe_str pnl))) pss_nil)
  (psc (ps_set (i := 2) sc_number.nd rfl (Or.inl rfl) (pe_call G_divisor_of (hr.mono (by decide)) rfl T.m_divisor_of T.k_divisor_of T.b_divisor_of .nil pass0 (pcn (pv 0) (pcn (pv 1) pnl))))
  (psc (ps_if (pt_cmpR op_lt (pv 1) pei (nomark _)) (pso (ps_set (i := 2) sc_number.nd rfl (Or.inl rfl) (pe_un un_neg (pv 2)))) pss_nil)
  (pso (ps_ret (pe_tup (pcn (pe_op op_fdivNB (pv 0) (pv 2)) (pcn (pe_op op_fdivNB (pv 1) (pv 2)) pnl))))))))), ?_⟩
  refine ⟨_, rfl, _, .int, rfl, True.intro, _, rfl, ?_⟩
  refine iteF ?_
  refine ⟨_, rfl, _, .int, rfl, True.intro, _, rfl, ?_⟩
  refine iteF ?_
  refine ⟨_, rfl, rfl, _, rfl, ?_⟩
  refine iteDF (fun z => h0 (V.int.inj z)) ?_
  have M := My.made_of (t := tp) h0
  refine ⟨_, rfl, _, rfl, _, _, rfl, ?_⟩
  refine ⟨_, rfl, _, _, rfl, rfl, _, rfl, ?_⟩
  have hg : 0 < Int.gcd tp m := Int.gcd_pos_of_ne_zero_right tp h0
  have hm : Mid ((Int.gcd tp m : Nat) : Int) := (My.Bd.of_natAbs (x := ((Int.gcd tp m : Nat) : Int)) (y := m) (by
    rw [Int.natAbs_natCast]
    exact Nat.le_of_dvd (by omega) (Nat.gcd_dvd_right tp.natAbs m.natAbs)) bm).mono (by omega)
  by_cases hneg : m < 0
  · refine iteDT hneg ?_
    have e : My.sg tp m = -((Int.gcd tp m : Nat) : Int) := if_pos hneg
    refine ⟨_, rfl, _, rfl, ?_⟩
    refine ⟨_, rfl, _, rfl, _, _, rfl, rfl, ⟨by omega, hm.neg⟩, _, rfl, _, rfl, _, _, rfl, rfl, ⟨by omega, hm.neg⟩, (by show 2 ≤ sizeLine; decide), fun p hp => ?_⟩
    exact hQ p _ _ _ (Same.new hp _) ⟨SqT.of (by rw [e]; exact upd_same), M.pos, My.Bd.of_natAbs M.ba bt, My.Bd.of_natAbs M.bb bm⟩ M.low (My.qv_eq (Int.ne_of_gt M.pos) h0 M.same)
  · refine iteDF hneg ?_
    have e : My.sg tp m = ((Int.gcd tp m : Nat) : Int) := if_neg hneg
    refine ⟨_, rfl, _, rfl, _, _, rfl, rfl, ⟨by omega, hm⟩, _, rfl, _, rfl, _, _, rfl, rfl, ⟨by omega, hm⟩, (by show 2 ≤ sizeLine; decide), fun p hp => ?_⟩
    exact hQ p _ _ _ (Same.new hp _) ⟨SqT.of (by rw [e]; exact upd_same), M.pos, My.Bd.of_natAbs M.ba bt, My.Bd.of_natAbs M.bb bm⟩ M.low (My.qv_eq (Int.ne_of_gt M.pos) h0 M.same)
theorem ok_under (T : Txt K mg t) : FnOk P w K mg base CX0 1 t.f_under t.d_under ["one", "other"] (sp_cmp K fun a b c d => .bl (decide (a * d < c * b))) := by
  refine T.F_under.ok sc_under (fun vs H Q E h => ?_) (fun cdv A outer s H vs Q E hr h => ?_)
  · obtain ⟨p, r, a, b, c, d, n1, n2, rfl, _⟩ := h
    rfl
  obtain ⟨p, r, a, b, c, d, n1, n2, rfl, h1, h2, hn, q⟩ := h
  have m1 : Mid a := h1.ba.mono (by omega)
  have m2 : Mid b := h1.bb.mono (by omega)
  have m3 : Mid c := h2.ba.mono (by omega)
  have m4 : Mid d := h2.bb.mono (by omega)
  refine ⟨_, (pso (ps_ret (pe_cmpR op_lt (pe_op op_mulB (pe_ix ixt (pv 0) pei (fun _ _ => rfl)) (pe_ix ixt (pv 1) pei (fun _ _ => rfl))) (pe_op op_mulB (pe_ix ixt (pv 1) pei (fun _ _ => rfl)) (pe_ix ixt (pv 0) pei (fun _ _ => rfl))) (nomark _)))), ?_⟩
  exact ⟨_, rfl, _, _, _, _, rfl, rfl, h1.s, at0 _ _, _, rfl, _, _, _, _, rfl, rfl, h2.s, at1 _ _, _, _, rfl, rfl, ⟨m1, m4⟩, _, rfl, _, _, _, _, rfl, rfl, h2.s, at0 _ _, _, rfl, _, _, _, _, rfl, rfl, h1.s, at1 _ _, _, _, rfl, rfl, ⟨m3, m2⟩, _, _, rfl, rfl, q⟩
end
section
variable {K : Fg} {H : Hp} {Q : VK} {E : XK} {p r : Addr} {a b c d t m : Int} {n1 n2 : Nat} {f : Rat → Rat → Rat} {ok : Int → Prop} {F : Int → Int → Int → Int → V}
end
theorem a_cell {K : Fg} {H : Hp} {Q : VK} {E : XK} {a : Addr} {ns : List Int} {k : Int} (hs : SqL K H a (ns.map V.int)) (h0 : 0 ≤ k) (q : Q (.int (cellAt ns k)) H) : sp_cell K [.ref a, .int k] H Q E := ⟨a, ns, k, rfl, hs, h0, q⟩
local macro_rules | `(tactic| walk_at "get") => `(tactic| repeat (first | exact GetTo.here | apply GetTo.next))
local macro_rules | `(tactic| walk_at "set") => `(tactic| repeat (first | exact SetTo.here | apply SetTo.next))
local macro_rules | `(tactic| walk_at "tp") => `(tactic| first | assumption | exact SqT.of (by assumption) | ((apply Same.tup); (focus assumption); (walk_at "tp")) | ((apply But.tup); (focus assumption); (focus assumption); (walk_at "tp")))
local macro_rules | `(tactic| walk_at "lq") => `(tactic| first | assumption | exact SqL.of (by assumption) | ((apply Same.seq); (focus assumption); (walk_at "lq")) | ((apply But.seq); (focus assumption); (focus assumption); (walk_at "lq")))
local macro_rules | `(tactic| walk_at "hl") => `(tactic| first | assumption | exact (show Same _ _ by assumption) _ _ (by walk_at "hl") | exact (show But _ _ _ by assumption) _ _ (by assumption) (by walk_at "hl"))
local macro_rules | `(tactic| walk_at "sm") => `(tactic| first | assumption | exact Same.refl _ | ((apply sm2); (focus assumption); (walk_at "sm")))
local macro_rules | `(tactic| walk_at "isi") => `(tactic| ((with_reducible refine z_isi0 ?_); first | (with_reducible refine z_isI_int ?_) | (with_reducible refine z_isB_int ?_) | (with_reducible refine z_isS_int ?_) | (with_reducible refine z_isN_int ?_) | (with_reducible refine z_isI_bool ?_) | (with_reducible refine z_isB_bool ?_) | (with_reducible refine z_isS_bool ?_) | (with_reducible refine z_isN_bool ?_) | (with_reducible refine z_isI_str ?_) | (with_reducible refine z_isB_str ?_) | (with_reducible refine z_isS_str ?_) | (with_reducible refine z_isN_str ?_) | (with_reducible refine z_isI_tuple ?_) | (with_reducible refine z_isB_tuple ?_) | (with_reducible refine z_isS_tuple ?_) | (with_reducible refine z_isN_tuple ?_) | (with_reducible refine z_isI_list ?_) | (with_reducible refine z_isB_list ?_) | (with_reducible refine z_isS_list ?_) | (with_reducible refine z_isN_list ?_) | ((with_reducible apply z_isT_int); (focus (walk_at "tp"))) | ((with_reducible apply z_isL_int); (focus (walk_at "lq"))) | ((with_reducible apply z_isT_bool); (focus (walk_at "tp"))) | ((with_reducible apply z_isL_bool); (focus (walk_at "lq"))) | ((with_reducible apply z_isT_str); (focus (walk_at "tp"))) | ((with_reducible apply z_isL_str); (focus (walk_at "lq"))) | ((with_reducible apply z_isT_tuple); (focus (walk_at "tp"))) | ((with_reducible apply z_isL_tuple); (focus (walk_at "lq"))) | ((with_reducible apply z_isT_list); (focus (walk_at "tp"))) | ((with_reducible apply z_isL_list); (focus (walk_at "lq")))))
local macro_rules | `(tactic| walk_at "non") => `(tactic| with_reducible (first | refine z_nonR ?_ | refine z_notR ?_ | refine z_nonN ?_ | refine z_notN ?_ | refine z_nonI ?_ | refine z_notI ?_ | refine z_nonS ?_ | refine z_notS ?_))
local macro_rules | `(tactic| walk_at "z1") => `(tactic| (first | ((with_reducible apply z_var); (focus (walk_at "get"))) | with_reducible (first | refine z_c ?_ | refine z_op ?_ | refine z_I0 ?_ | refine z_asg ?_ | refine z_seq ?_ | refine z_EqI ?_ | refine z_NeI ?_ | refine z_EqS ?_ | refine z_NeS ?_ | refine z_test ?_ | refine z_tB ?_ | refine z_ebl ?_ | refine z_ifs ?_ | refine z_ret ?_ | refine z_cons ?_ | refine z_nil ?_ | refine z_call0 ?_ | refine z_callD ?_ | refine z_un ?_ | refine z_U ?_ | refine z_and ?_ | refine z_or ?_ | refine z_not ?_ | refine z_andV ?_ | refine z_orV ?_ | refine z_notV ?_ | refine z_if ?_ | refine z_chain ?_ | refine z_next ?_ | refine z_drop ?_ | refine z_par ?_ | refine z_cb ?_ | refine z_e1 ?_ | refine z_e2 ?_ | refine z_tup ?_ | refine iteT ?_ | refine iteF ?_ | refine z_iteNb ?_ | refine z_eint ?_ | refine z_gcons ?_ | refine z_gnil ?_ | refine z_sl ?_ | refine z_noP ?_ | refine z_part ?_ | refine z_lst ?_ | refine z_bm ?_ | refine z_for ?_ | refine z_iL ?_ | refine z_iT ?_ | refine z_iR1 ?_ | refine z_iR2 ?_ | refine z_iR3 ?_ | refine z_toI ?_ | refine z_toB ?_ | refine z_whN ?_) | ((with_reducible apply z_name); (focus (walk_at "set"))) | ((with_reducible apply z_par2); (focus (walk_at "set")); (focus (walk_at "set"))) | ((with_reducible apply z_mkt); (focus (exact Nat.le_of_ble_eq_true rfl)); (intro p H' n s e))))
local macro_rules | `(tactic| walk_at "z2") => `(tactic| first | ((with_reducible apply z_I); (focus (walk_at "cd"))) | ((with_reducible apply z_ixT); (focus (walk_at "tp")); (focus rfl)) | walk_at "isi" | walk_at "non" | ((with_reducible apply z_len); (focus (first | exact .inl (by walk_at "lq") | exact .inr (by walk_at "tp")))) | ((with_reducible apply z_gtup); (focus (walk_at "tp")); (focus rfl)) | ((with_reducible apply z_iL2); (focus (walk_at "lq"))) | ((with_reducible apply z_iT2); (focus (walk_at "tp"))) | ((with_reducible apply z_r1c); (focus (first | decide | omega)); (focus (first | decide | omega))) | ((with_reducible apply z_r2c); (focus (first | decide | omega)); (focus (first | decide | omega)); (focus (first | decide | omega)); (focus (first | decide | omega))))
local macro_rules | `(tactic| walk_at "bd") => `(tactic| first | assumption | exact Pr.ba (by assumption) | exact Pr.bb (by assumption) | exact (show My.Bd 64 _ by unfold My.Bd; decide) | ((with_reducible apply bd_mul) <;> (walk_at "bd")) | ((with_reducible apply bd_add) <;> (walk_at "bd")) | ((with_reducible apply bd_sub) <;> (walk_at "bd")) | ((with_reducible apply My.Bd.neg); (walk_at "bd")) | ((with_reducible apply My.Bd.mod); (focus (first | decide | omega | assumption)); (walk_at "bd")) | ((with_reducible apply My.Bd.div); (focus (first | decide | omega | assumption)); (walk_at "bd")) | exact bd_60 (by omega) (by omega) | exact (show My.Bd 256 _ by unfold My.Bd; decide))
local macro_rules | `(tactic| walk_at "mid") => `(tactic| first | assumption | ((apply My.Bd.mono); (focus (walk_at "bd")); (first | decide | omega)))
local macro_rules | `(tactic| walk_at "cd") => `(tactic| first | assumption | exact True.intro | decide | omega | exact ⟨by first | decide | omega, by first | decide | omega⟩ | exact ⟨by decide, by decide, by decide⟩ | exact .inl ⟨by first | decide | omega, by first | decide | omega⟩ | exact .inr ⟨by first | decide | omega, by first | decide | omega⟩ | exact ⟨by walk_at "mid", by walk_at "mid"⟩ | exact ⟨by first | decide | omega | assumption, by walk_at "mid"⟩)
local macro_rules | `(tactic| walk_at "pr") => `(tactic| first | assumption | ((apply Pr.kp); (focus assumption); (walk_at "pr")))
local macro_rules | `(tactic| walk_at "sp") => `(tactic| ((with_reducible apply a_number); (focus (walk_at "bd")); (focus (walk_at "bd")); (focus (first | decide | omega)); (focus (first | decide | omega)); (intro p H' x y s R g e)))
local macro_rules | `(tactic| walk_at "sp") => `(tactic| ((with_reducible apply a_numberD); (focus (walk_at "bd")); (focus (walk_at "bd")); (focus (first | decide | omega)); (focus (first | decide | omega)); (intro p H' x y s R g e)))
local macro_rules | `(tactic| walk_at "sp") => `(tactic| ((with_reducible apply a_two); (focus (walk_at "pr")); (focus (walk_at "pr")); (focus (first | decide | omega)); (focus (first | exact True.intro | assumption)); (intro p H' x y s R g e)))
local macro_rules | `(tactic| walk_at "sp") => `(tactic| ((with_reducible apply a_cmp); (focus (walk_at "pr")); (focus (walk_at "pr")); (focus (first | decide | omega))))
local macro_rules | `(tactic| walk_at "ji") => `(tactic| ((with_reducible apply z_joinI); (focus ((intro S q); (walk_at "run"); (exact q))); (focus ((intro hb S q); (walk_at "run"); (exact q))); (focus (walk_at "get")); (focus (walk_at "set"))))
local macro_rules | `(tactic| walk_at "run") => `(tactic| repeat (first | walk_at "ji" | walk_at "z1" | walk_at "z2" | walk_at "sp"))
local macro_rules | `(tactic| walk_at "bd6") => `(tactic| first | assumption | exact bd_60 (by omega) (by omega))
local macro_rules | `(tactic| walk_at "sp") => `(tactic| ((with_reducible apply a_cell); (focus (walk_at "lq")); (focus (first | decide | omega))))
section
variable {P : Program} {w : World} {K : Fg} {mg : Str → Option Value} {base : Heap} {t : Adr}
theorem atI_first {α : Type} {xs : List α} {x : α} (h : xs[0]? = some x) : atI xs 0 = some x := atI_nat (j := 0) h
theorem atI_last {α : Type} {xs : List α} {x : α} (h : xs[xs.length - 1]? = some x) : atI xs (-1) = some x := by
  have hl : 0 < xs.length := by
    rcases Nat.eq_zero_or_pos xs.length with z | z
    · rw [List.getElem?_eq_none (by omega)] at h; cases h
    · exact z
  unfold atI ixN
  rw [if_neg (by decide), if_pos (by omega)]
  show xs[(-1 + (xs.length : Int)).toNat]? = some x
  rw [show (-1 + (xs.length : Int)).toNat = xs.length - 1 by omega]
  exact h
theorem map_at {α β : Type} {g : α → β} {xs : List α} {j : Nat} {x : α} (h : xs[j]? = some x) : (xs.map g)[j]? = some (g x) := by rw [List.getElem?_map, h]; rfl
theorem of_map_at {α β : Type} {g : α → β} {xs : List α} {j : Nat} {v : β} (h : (xs.map g)[j]? = some v) : ∃ x, xs[j]? = some x ∧ v = g x := by
  rw [List.getElem?_map] at h
  cases q : xs[j]? with
  | none => rw [q] at h; cases h
  | some x => rw [q] at h; exact ⟨x, rfl, (Option.some.inj h).symm⟩
local macro_rules | `(tactic| walk_at "sp") => `(tactic| with_reducible (first | refine z_fv ?_ | refine z_fsn ?_ | refine z_fsc ?_ | refine z_iS ?_ | refine z_iS2 ?_ | refine z_inS ?_ | refine z_tyS ?_ | refine z_starts ?_ | refine z_lcn ?_))
theorem le_size {n : Nat} (h : n ≤ 1000) : n ≤ sizeLine := Nat.le_trans h (by decide)
theorem iteBF {b : Bool} {A B : Prop} (hb : ¬ b = true) (h : B) : if b = true then A else B := by
  rw [if_neg hb]; exact h
theorem mid4 : Mid 4 := (show My.Bd 20 4 by unfold My.Bd; decide).mono (by decide)
theorem mid100 : Mid 100 := (show My.Bd 20 100 by unfold My.Bd; decide).mono (by decide)
theorem mid400 : Mid 400 := (show My.Bd 20 400 by unfold My.Bd; decide).mono (by decide)
theorem midD : Mid 146097 := (show My.Bd 20 146097 by unfold My.Bd; decide).mono (by decide)
theorem at12 {m : Int} (h1 : 1 ≤ m) (h2 : m ≤ 12) : atI (My.mls.map V.int) (m - 1) = some (.int (My.mls.getD (m - 1).toNat 0)) := by
  rcases My.m_cases h1 h2 with h | h | h | h | h | h | h | h | h | h | h | h <;> subst h <;> rfl
def sp_leap : Sp := fun vs H Q _ => ∃ y : Int, vs = [.int y] ∧ Q (.bl (My.leap y)) H
def sp_ml : Sp := fun vs H Q _ => ∃ y m : Int, vs = [.int y, .int m] ∧ 1 ≤ m ∧ m ≤ 12 ∧ Q (.int (My.mlen y m)) H
def sp_yb : Sp := fun vs H Q _ => ∃ y : Int, vs = [.int y] ∧ Q (.int (My.ybeg y)) H
def valid3 (vs : List V) : Prop := ∃ y m e : Int, vs = [.int y, .int m, .int e] ∧ My.Valid y m e
def sp_dayof6 (K : Fg) (C : Addr) : Sp := fun vs H Q E => ∃ x y z gx gy gz, vs = [x, y, z] ∧ tgIs K H x gx ∧ tgIs K H y gy ∧ tgIs K H z gz ∧ (¬ valid3 [x, y, z] → E (.ref C) none H) ∧
  (∀ a m e : Int, x = .int a → y = .int m → z = .int e → My.Valid a m e → ∀ H', Same H H' → Q (.int (My.dayOf a m e)) H')
theorem tg_int {K : Fg} {H : Hp} {x : V} (h : tgIs K H x .int) : ∃ i : Int, x = .int i := by
  cases x with
  | int i => exact ⟨i, rfl⟩
  | _ => exact (show False from h).elim
theorem tg_not {K : Fg} {H : Hp} {x : V} {g : Tg} (h : tgIs K H x g) (hg : g ≠ .int) : ∀ i : Int, x ≠ .int i := fun i e => by
  subst e
  cases g <;> first | exact hg rfl | exact (show False from h).elim
theorem nv1 {x y z : V} (h : ∀ i : Int, x ≠ .int i) : ¬ valid3 [x, y, z] := by
  rintro ⟨a, m, e, h', _⟩
  exact h a (List.cons.inj h').1
theorem nv2 {x y z : V} (h : ∀ i : Int, y ≠ .int i) : ¬ valid3 [x, y, z] := by
  rintro ⟨a, m, e, h', _⟩
  exact h m (List.cons.inj (List.cons.inj h').2).1
theorem nv3 {x y z : V} (h : ∀ i : Int, z ≠ .int i) : ¬ valid3 [x, y, z] := by
  rintro ⟨a, m, e, h', _⟩
  exact h e (List.cons.inj (List.cons.inj (List.cons.inj h').2).2).1
theorem nvI {a m e : Int} (h : ¬ My.Valid a m e) : ¬ valid3 [.int a, .int m, .int e] := by
  rintro ⟨a', m', e', h', v⟩
  cases h'
  exact h v
theorem map_ints (n : Nat) (g : Nat → Int) : (List.range n).map (fun i => V.int (g i)) = ((List.range n).map g).map V.int := by
  rw [List.map_map]; rfl
def sp_yo : Sp := fun vs H Q _ => ∃ d : Int, vs = [.int d] ∧ Q (.int (My.yearOf d)) H
def sp_parts : Sp := fun vs H Q _ => ∃ d : Int, vs = [.int d] ∧ 0 ≤ d ∧ d ≤ 3652058 ∧ ∀ (p : Addr) (H' : Hp) (y m e : Int), Same H H' → H' p = some (.tup [.int y, .int m, .int e]) → My.Valid y m e → My.dayOf y m e = d → Q (.ref p) H'
theorem ok_is_leap (T : Txt K mg t) : FnOk P w K mg base CX0 1 t.f_is_leap t.d_is_leap ["year"] sp_leap := by
  refine T.F_is_leap.ok sc_is_leap (fun vs H Q E h => ?_) (fun cdv A outer s H vs Q E hr h => ?_)
  · obtain ⟨y, rfl, _⟩ := h
    rfl
  obtain ⟨y, rfl, q⟩ := h
  refine ⟨_, (pso (ps_ret (pe_and (pe_cmpR op_eq (pe_op op_mod (pv 0) pei) pei (nomark _)) (pe_one (pe_or (pe_cmpR op_ne (pe_op op_mod (pv 0) pei) pei (nomark _)) (pe_one (pe_cmpR op_eq (pe_op op_mod (pv 0) pei) pei (nomark _)))))))), ?_⟩
  refine ⟨_, rfl, _, _, rfl, rfl, (show (0 : Int) < 4 by decide), rfl, _, rfl, ?_⟩
  unfold My.leap at q
  by_cases h4 : y % 4 = 0
  · rw [if_pos h4] at q
    refine iteDT (congrArg V.int h4) ?_
    refine ⟨_, rfl, _, _, rfl, rfl, (show (0 : Int) < 100 by decide), rfl, _, rfl, ?_⟩
    by_cases h1 : y % 100 = 0
    · rw [if_pos h1] at q
      refine iteNS (congrArg V.int h1) ?_
      refine ⟨_, rfl, _, _, rfl, rfl, (show (0 : Int) < 400 by decide), rfl, ?_⟩
      show Q (V.bl (decide (V.int (y % 400) = V.int 0))) H
      by_cases h3 : y % 400 = 0
      · rw [decide_eq_true h3] at q
        rw [decide_eq_true (congrArg V.int h3)]
        exact q
      · rw [decide_eq_false h3] at q
        rw [decide_eq_false (fun z => h3 (V.int.inj z))]
        exact q
    · rw [if_neg h1] at q
      exact iteNF (fun z => h1 (V.int.inj z)) q
  · rw [if_neg h4] at q
    exact iteDF (fun z => h4 (V.int.inj z)) q
theorem ok_month_length (T : Txt K mg t) : FnOk P w K mg base CX0 2 t.f_month_length t.d_month_length ["year", "month"] sp_ml := by
  have G_is_leap := ok_is_leap (P := P) (w := w) (base := base) T
  refine T.F_month_length.ok sc_month_length (fun vs H Q E h => ?_) (fun cdv A outer s H vs Q E hr h => ?_)
  · obtain ⟨y, m, rfl, _⟩ := h
    rfl
  obtain ⟨y, m, rfl, h1, h2, q⟩ := h
  refine ⟨_, (psc (ps_if (PW.pt (pw_and (pt_cmpR op_eq (pv 1) pei (nomark _)) (pw_and1 (pt_val (pe_call G_is_leap (hr.mono (by decide)) rfl T.m_is_leap T.k_is_leap T.b_is_leap .nil pass0 (pcn (pv 0) pnl)))))) (pso (ps_ret pei)) pss_nil)
  (pso (ps_ret (pe_ix ixt (pe_glob (v := .ref t.g_MONTH_LENGTHS) rfl T.g_MONTH_LENGTHS rfl) (pe_op op_sub (pv 1) pei) (fun _ _ => rfl))))), ?_⟩
  refine ⟨_, rfl, rfl, _, rfl, ?_⟩
  unfold My.mlen My.ml at q
  by_cases hm : m = 2
  · refine iteDT (congrArg V.int hm) ?_
    refine ⟨_, rfl, _, rfl, _, rfl, ?_⟩
    by_cases hL : My.leap y = true
    · rw [if_pos ⟨hm, hL⟩] at q
      exact iteBT hL q
    · rw [if_neg (fun z => hL z.2)] at q
      refine iteBF hL ?_
      exact ⟨_, rfl, _, _, rfl, rfl, _, _, _, _, rfl, rfl, T.v_MONTH_LENGTHS H, at12 h1 h2, q⟩
  · rw [if_neg (fun z => hm z.1)] at q
    refine iteDF (fun z => hm (V.int.inj z)) ?_
    refine iteF ?_
    exact ⟨_, rfl, _, _, rfl, rfl, _, _, _, _, rfl, rfl, T.v_MONTH_LENGTHS H, at12 h1 h2, q⟩
theorem ok_year_begin (T : Txt K mg t) : FnOk P w K mg base CX0 1 t.f_year_begin t.d_year_begin ["year"] sp_yb := by
  refine T.F_year_begin.ok sc_year_begin (fun vs H Q E h => ?_) (fun cdv A outer s H vs Q E hr h => ?_)
  · obtain ⟨y, rfl, _⟩ := h
    rfl
  obtain ⟨y, rfl, q⟩ := h
  refine ⟨_, (psc (ps_set (i := 1) sc_year_begin.nd rfl (Or.inl rfl) (pe_op op_sub (pv 0) pei))
  (pso (ps_ret (pe_op op_add (pe_op op_sub (pe_op op_add (pe_op op_mul pei (pv 1)) (pe_op op_fdivB (pv 1) pei)) (pe_op op_fdivB (pv 1) pei)) (pe_op op_fdivB (pv 1) pei))))), ?_⟩
  refine ⟨_, rfl, _, _, rfl, rfl, ?_⟩
  exact ⟨_, rfl, _, _, rfl, rfl, .inl ⟨by decide, by decide⟩, _, rfl, _, _, rfl, rfl, ⟨by decide, mid4⟩, _, _, rfl, rfl, _, rfl, _, _, rfl, rfl, ⟨by decide, mid100⟩, _, _, rfl, rfl, _, rfl, _, _, rfl, rfl, ⟨by decide, mid400⟩, _, _, rfl, rfl, q⟩
theorem ok_day_of (T : Txt K mg t) : FnOk P w K mg base (CXe P w) 3 t.f_day_of t.d_day_of ["year", "month", "day"] (sp_dayof6 K t.c_NoDay) := by
  have G_is_whole := ok_is_whole (P := P) (w := w) (base := base) T
  have G_month_length := ok_month_length (P := P) (w := w) (base := base) T
  have G_year_begin := ok_year_begin (P := P) (w := w) (base := base) T
  refine T.F_day_of.toD.okE sc_day_of (fun vs H Q E h => ?_) (fun cdv A outer s H vs Q E hr h => ?_)
  · obtain ⟨x, y, z, gx, gy, gz, rfl, _⟩ := h
    rfl
  obtain ⟨x, y, z, gx, gy, gz, rfl, hx, hy, hz, hE, q⟩ := h
  refine ⟨_, (psc (ps_if (pt_not (PW.pt (pw_and (pt_val (pe_call G_is_whole (hr.mono (by decide)) rfl T.m_is_whole T.k_is_whole T.b_is_whole .nil pass0 (pcn (pv 0) pnl))) (pw_and (pt_val (pe_call G_is_whole (hr.mono (by decide)) rfl T.m_is_whole T.k_is_whole T.b_is_whole .nil pass0 (pcn (pv 1) pnl))) (pw_and1 (pt_val (pe_call G_is_whole (hr.mono (by decide)) rfl T.m_is_whole T.k_is_whole T.b_is_whole .nil pass0 (pcn (pv 2) pnl)))))))) (pso (ps_raise rfl T.x_NoDay T.n_NoDay T.m_NoDay rfl raisesE (pcn pe_str pnl))) pss_nil)
  (psc (ps_if (pt_not (PW.pt (pw_and (pt_chain op_le op_le pei (pv 0) (pe_glob (v := .int 9999) rfl T.g_LAST_YEAR ⟨_, rfl⟩)) (pw_and (pt_chain op_le op_le pei (pv 1) pei) (pw_and1 (pt_chain op_le op_le pei (pv 2) (pe_call G_month_length (hr.mono (by decide)) rfl T.m_month_length T.k_month_length T.b_month_length .nil pass0 (pcn (pv 0) (pcn (pv 1) pnl))))))))) (pso (ps_raise rfl T.x_NoDay T.n_NoDay T.m_NoDay rfl raisesE (pcn pe_str pnl))) pss_nil)
  (psc (ps_setLC (iy := 3) sc_day_of.nd rfl (Or.inl rfl) rfl (compOk_of (fr := [("year", 0)]) (osc := defScope s_day_of) (N := ["year", "month", "day", "ahead"]) rfl rfl (by decide +kernel)) (pi_range2 rfl T.z_range (pcn pei (pcn (pv 1) pnl))) (fun _ _ _ _ _ => (pe_call G_month_length (hr.mono (by decide)) rfl T.m_month_length T.k_month_length T.b_month_length .nil pass0 (pcn (pv 1) (pcn (pv 0) pnl)))))
  (pso (ps_ret (pe_op op_sub (pe_op op_add (pe_op op_add (pe_call G_year_begin (hr.mono (by decide)) rfl T.m_year_begin T.k_year_begin T.b_year_begin .nil pass0 (pcn (pv 0) pnl)) (pe_callB (call_sum rfl) rfl T.z_sum bt_sum (pcn (pv 3) pnl))) (pv 2)) pei)))))), ?_⟩
  refine ⟨_, rfl, _, gx, rfl, hx, _, rfl, ?_⟩
  by_cases ex : gx = .int
  rotate_left
  · refine iteBF (by cases gx <;> first | exact absurd rfl ex | decide) ?_
    refine iteT ?_
    exact ⟨(by show 1 ≤ sizeLine; decide), hE (nv1 (tg_not hx ex))⟩
  subst ex
  obtain ⟨a, rfl⟩ := tg_int hx
  refine iteT ⟨_, rfl, _, gy, rfl, hy, _, rfl, ?_⟩
  by_cases ey : gy = .int
  rotate_left
  · refine iteBF (by cases gy <;> first | exact absurd rfl ey | decide) ?_
    refine iteT ?_
    exact ⟨(by show 1 ≤ sizeLine; decide), hE (nv2 (tg_not hy ey))⟩
  subst ey
  obtain ⟨m, rfl⟩ := tg_int hy
  refine iteT ⟨_, rfl, _, gz, rfl, hz, _, rfl, ?_⟩
  by_cases ez : gz = .int
  rotate_left
  · refine iteBT (by cases gz <;> first | exact absurd rfl ez | rfl) ?_
    exact ⟨(by show 1 ≤ sizeLine; decide), hE (nv3 (tg_not hz ez))⟩
  subst ez
  obtain ⟨e, rfl⟩ := tg_int hz
  refine iteF ?_
  have no : ¬ My.Valid a m e → 1 ≤ sizeLine ∧ E (.ref t.c_NoDay) none H := fun z => ⟨by decide, hE (nvI z)⟩
  refine ⟨_, rfl, _, _, rfl, rfl, _, rfl, ?_⟩
  by_cases h1 : 1 ≤ a
  rotate_left
  · exact iteDF h1 ⟨_, rfl, iteF (iteT (no fun v => h1 v.y1))⟩
  refine iteDT h1 ⟨_, _, rfl, rfl, _, rfl, ?_⟩
  by_cases h2 : a ≤ 9999
  rotate_left
  · exact iteDF h2 (iteT (no fun v => h2 v.y2))
  refine iteDT h2 ⟨_, rfl, _, _, rfl, rfl, _, rfl, ?_⟩
  by_cases h3 : 1 ≤ m
  rotate_left
  · exact iteDF h3 ⟨_, rfl, iteF (iteT (no fun v => h3 v.m1))⟩
  refine iteDT h3 ⟨_, _, rfl, rfl, _, rfl, ?_⟩
  by_cases h4 : m ≤ 12
  rotate_left
  · exact iteDF h4 (iteT (no fun v => h4 v.m2))
  refine iteDT h4 ⟨_, rfl, _, _, rfl, rfl, _, rfl, ?_⟩
  by_cases h5 : 1 ≤ e
  rotate_left
  · exact iteDF h5 ⟨_, rfl, iteT (no fun v => h5 v.e1)⟩
  refine iteDT h5 ⟨_, rfl, _, rfl, _, _, rfl, h3, h4, _, _, rfl, rfl, _, rfl, ?_⟩
  by_cases h6 : e ≤ My.mlen a m
  rotate_left
  · rw [decide_eq_false h6]
    exact iteT (no fun v => h6 v.e2)
  have v : My.Valid a m e := ⟨h1, h2, h3, h4, h5, h6⟩
  refine iteNS h6 ?_
  refine ⟨_, rfl, _, _, rfl, ⟨by decide, by decide, by omega, by omega⟩, fun acc hacc => ?_⟩
  refine lc_range2 (lo := 1) (n := (m - 1).toNat) (fun i : Nat => V.int (My.ml (My.leap a) (1 + (i : Int)))) (Nat.le_of_lt (small1000 (by omega))) hacc ?_ ?_
  · intro i H2 Q' hi sm k
    exact ⟨_, rfl, _, rfl, _, _, rfl, by omega, by omega, k H2 (Same.refl _)⟩
  · intro H2 sm ha
    rw [map_ints] at ha
    exact ⟨_, rfl, _, rfl, _, rfl, _, _, rfl, SqL.of ha, _, _, rfl, rfl, _, rfl, _, _, rfl, rfl, _, _, rfl, rfl, q a m e rfl rfl rfl v H2 sm⟩
theorem ok_year_of (T : Txt K mg t) : FnOk P w K mg base CX0 2 t.f_year_of t.d_year_of ["day"] sp_yo := by
  have G_year_begin := ok_year_begin (P := P) (w := w) (base := base) T
  refine T.F_year_of.ok sc_year_of (fun vs H Q E h => ?_) (fun cdv A outer s H vs Q E hr h => ?_)
  · obtain ⟨y, rfl, _⟩ := h
    rfl
  obtain ⟨d, rfl, q⟩ := h
  refine ⟨_, (psc (ps_set (i := 1) sc_year_of.nd rfl (Or.inl rfl) (pe_op op_add (pe_op op_fdivB (pe_op op_mul (pv 0) pei) (pe_glob (v := .int 146097) rfl T.g_DAYS_OF_400_YEARS ⟨_, rfl⟩)) pei))
  (pso (ps_ret (pe_ifExp (pt_cmpR op_le (pe_call G_year_begin (hr.mono (by decide)) rfl T.m_year_begin T.k_year_begin T.b_year_begin .nil pass0 (pcn (pe_op op_add (pv 1) pei) pnl)) (pv 0) (nomark _)) (pe_op op_add (pv 1) pei) (pv 1))))), ?_⟩
  refine ⟨_, rfl, _, _, rfl, rfl, .inr ⟨by decide, by decide⟩, _, _, rfl, rfl, ⟨by decide, midD⟩, _, _, rfl, rfl, ?_⟩
  refine ⟨_, rfl, _, _, rfl, rfl, _, rfl, _, rfl, _, _, rfl, rfl, _, rfl, ?_⟩
  unfold My.yearOf at q
  by_cases hle : My.ybeg (d * 400 / 146097 + 1 + 1) ≤ d
  · rw [if_pos hle] at q
    exact iteDT hle ⟨_, rfl, _, _, rfl, rfl, q⟩
  · rw [if_neg hle] at q
    exact iteDF hle ⟨_, rfl, q⟩
theorem ok_parts_of (T : Txt K mg t) : FnOk P w K mg base CX0 3 t.f_parts_of t.d_parts_of ["day"] sp_parts := by
  have G_year_of := ok_year_of (P := P) (w := w) (base := base) T
  have G_year_begin := ok_year_begin (P := P) (w := w) (base := base) T
  have G_month_length := ok_month_length (P := P) (w := w) (base := base) T
  refine T.F_parts_of.ok sc_parts_of (fun vs H Q E h => ?_) (fun cdv A outer s H vs Q E hr h => ?_)
  · obtain ⟨y, rfl, _⟩ := h
    rfl
  obtain ⟨d, rfl, d0, d1, q⟩ := h
  obtain ⟨y1, y2, y3, y4⟩ := My.yearOf_ok d0 d1
  have yn := My.ybeg_next (My.yearOf d)
  refine ⟨_, (psc (ps_set (i := 1) sc_parts_of.nd rfl (Or.inl rfl) (pe_call G_year_of (hr.mono (by decide)) rfl T.m_year_of T.k_year_of T.b_year_of .nil pass0 (pcn (pv 0) pnl)))
  (psc (ps_set (i := 2) sc_parts_of.nd rfl (Or.inl rfl) pei)
  (psc (ps_set (i := 3) sc_parts_of.nd rfl (Or.inl rfl) (pe_op op_sub (pv 0) (pe_call G_year_begin (hr.mono (by decide)) rfl T.m_year_begin T.k_year_begin T.b_year_begin .nil pass0 (pcn (pv 1) pnl))))
  (psc (ps_while PassesOwn.never (pt_cmpR op_ge (pv 3) (pe_call G_month_length (hr.mono (by decide)) rfl T.m_month_length T.k_month_length T.b_month_length .nil pass0 (pcn (pv 1) (pcn (pv 2) pnl))) (nomark _)) (psc (ps_aug (i := 3) sc_parts_of.nd rfl (Or.inl rfl) (pe_call G_month_length (hr.mono (by decide)) rfl T.m_month_length T.k_month_length T.b_month_length .nil pass0 (pcn (pv 1) (pcn (pv 2) pnl))) ip_sub)
  (pso (ps_aug (i := 2) sc_parts_of.nd rfl (Or.inl rfl) pei ip_add))))
  (pso (ps_ret (pe_tup (pcn (pv 1) (pcn (pv 2) (pcn (pe_op op_add (pv 3) pei) pnl)))))))))), ?_⟩
  refine ⟨_, rfl, _, rfl, ?_⟩
  refine ⟨_, rfl, _, rfl, _, rfl, _, _, rfl, rfl, ?_⟩
  dsimp only [gName, tSeq]
  refine while_by (fun σ H' => ∃ m l : Int, σ = [some (.int d), some (.int (My.yearOf d)), some (.int m), some (.int l)] ∧ H' = H ∧ 1 ≤ m ∧ m ≤ 12 ∧ 0 ≤ l ∧ l + My.bf (My.leap (My.yearOf d)) m = d - My.ybeg (My.yearOf d))
    (fun σ _ => match σ with | [_, _, some (.int m), _] => (13 - m).toNat | _ => 0) ⟨1, _, rfl, rfl, by decide, by decide, by omega, by rw [My.bf_first]; omega⟩ ?_ ?_
  · rintro σ H' ⟨m, l, rfl, rfl, m1, m2, l0, hl⟩
    refine ⟨_, rfl, _, rfl, _, rfl, _, _, rfl, m1, m2, _, _, rfl, rfl, _, rfl, ?_⟩
    have bn := My.bf_next (L := My.leap (My.yearOf d)) m1 m2
    by_cases hle : My.mlen (My.yearOf d) m ≤ l
    · refine iteDT hle ?_
      have hle' : My.ml (My.leap (My.yearOf d)) m ≤ l := hle
      have m12 : m ≤ 11 := by
        rcases Int.lt_or_le m 12 with z | z
        · omega
        · have e : m = 12 := by omega
          subst e
          have bl := My.bf_last (My.leap (My.yearOf d))
          have bn' : My.bf (My.leap (My.yearOf d)) 13 = My.bf (My.leap (My.yearOf d)) 12 + My.ml (My.leap (My.yearOf d)) 12 := bn
          omega
      refine ⟨_, rfl, _, rfl, _, rfl, _, _, rfl, m1, m2, _, _, rfl, rfl, _, rfl, _, _, rfl, rfl, ⟨m + 1, l - My.mlen (My.yearOf d) m, rfl, rfl, by omega, by omega, by omega, ?_⟩, ?_⟩
      · rw [bn]
        show l - My.ml (My.leap (My.yearOf d)) m + (My.bf (My.leap (My.yearOf d)) m + My.ml (My.leap (My.yearOf d)) m) = _
        omega
      · show (13 - (m + 1)).toNat < (13 - m).toNat
        omega
    · refine iteDF hle ?_
      refine ⟨_, rfl, _, rfl, _, rfl, _, _, rfl, rfl, (by show 3 ≤ sizeLine; decide), fun p hp => ?_⟩
      exact q p _ _ _ _ (Same.new hp _) upd_same ⟨y1, y2, m1, m2, by omega, by omega⟩ (by unfold My.dayOf; omega)
  · rintro σ H' Q1 Q2 hi ⟨v, e, a, ea, b, eb, y', m', ev, c1, c2, i, j, e1, e2, k, ek, q'⟩
    exact ⟨v, e, a, ea, b, eb, y', m', ev, c1, c2, i, j, e1, e2, k, ek, hi _ _ q'⟩
theorem a_dayof {K : Fg} {H : Hp} {Q : VK} {E : XK} {C : Addr} {y m e : Int} (h1 : ¬ My.Valid y m e → E (.ref C) none H) (h2 : My.Valid y m e → ∀ H', Same H H' → Q (.int (My.dayOf y m e)) H') : sp_dayof6 K C [.int y, .int m, .int e] H Q E :=
  ⟨_, _, _, .int, .int, .int, rfl, True.intro, True.intro, True.intro, fun nv => h1 fun v => nv ⟨y, m, e, rfl, v⟩, fun a b c e1 e2 e3 v H' s => by cases e1; cases e2; cases e3; exact h2 v H' s⟩
theorem a_parts {H : Hp} {Q : VK} {E : XK} {d : Int} (h0 : 0 ≤ d) (h1 : d ≤ 3652058) (q : ∀ (p : Addr) (H' : Hp) (y m e : Int), Same H H' → H' p = some (.tup [.int y, .int m, .int e]) → My.Valid y m e → My.dayOf y m e = d → Q (.ref p) H') : sp_parts [.int d] H Q E := ⟨d, rfl, h0, h1, q⟩
local macro_rules | `(tactic| walk_at "sp") => `(tactic| ((with_reducible apply a_parts); (focus (first | assumption | omega)); (focus (first | assumption | omega)); (intro p H' y m e s hp vd ed)))
def sp_monthbegin : Sp := fun vs H Q _ => ∃ y m : Int, vs = [.int (12 * y + m - 1)] ∧ 1 ≤ m ∧ m ≤ 12 ∧ 1 ≤ y ∧ y ≤ 9999 ∧ ∀ H', Same H H' → Q (.int (My.dayOf y m 1)) H'
theorem ok_month_begin (T : Txt K mg t) : FnOk P w K mg base CX0 4 t.f_month_begin t.d_month_begin ["month"] (sp_monthbegin) := by
  have G_day_of := ok_day_of (P := P) (w := w) (base := base) T
  refine T.F_month_begin.ok sc_month_begin (fun vs H Q E h => ?_) (fun cdv A outer s H vs Q E hr h => ?_)
  · obtain ⟨y, m, rfl, _⟩ := h
    rfl
  obtain ⟨y, m, rfl, m1, m2, y1, y2, q⟩ := h
  refine ⟨_, (pso (ps_ret (pe_call G_day_of (hr.mono (by decide)) rfl T.m_day_of T.k_day_of T.b_day_of .nil passE0 (pcn (pe_op op_fdivB (pv 0) pei) (pcn (pe_op op_add (pe_op op_mod (pv 0) pei) pei) (pcn pei pnl)))))), z_go (σ := [some _]) rfl ?_⟩
  walk_at "run"
  rw [show (12 * y + m - 1) / 12 = y by omega, show (12 * y + m - 1) % 12 + 1 = m by omega]
  refine a_dayof (fun nv => ?_) (fun v H' s' => q H' s')
  have p := (My.ml_pos (L := My.leap y) m1 m2).1
  exact absurd ⟨y1, y2, m1, m2, by decide, by show (1 : Int) ≤ My.ml (My.leap y) m; omega⟩ nv
def sp_showday : Sp := fun vs H Q _ => ∃ d : Int, vs = [.int d] ∧ 0 ≤ d ∧ d ≤ 3652058 ∧ ∀ (z : Str) (H' : Hp) (y m e : Int), Same H H' → My.Valid y m e → My.dayOf y m e = d → My.cs z = My.dtx y.toNat m.toNat e.toNat → Q (.str z) H'
theorem log_small {n : Int} (h0 : 0 ≤ n) (h : n < 10000) : n.natAbs.log2 < 1920 := My.log60 (by
  have e : (10 : Nat) ^ 60 = 1000000000000000000000000000000000000000000000000000000000000 := by decide
  rw [e]; omega)
theorem zf4 {y : Int} (h0 : 0 ≤ y) (h : y < 10000) : My.cs (PySem.Txt.zfill (Str.ofString (toString y)) 4) = My.pad4 y.toNat := by
  obtain ⟨n, rfl⟩ := Int.eq_ofNat_of_zero_le h0
  rw [show (4 : Int) = ((4 : Nat) : Int) from rfl, My.zfill_is n 4 (by decide)]
  exact My.fill4 (by omega)
theorem zf2 {y : Int} (h0 : 0 ≤ y) (h : y < 100) : My.cs (PySem.Txt.zfill (Str.ofString (toString y)) 2) = My.pad2 y.toNat := by
  obtain ⟨n, rfl⟩ := Int.eq_ofNat_of_zero_le h0
  rw [show (2 : Int) = ((2 : Nat) : Int) from rfl, My.zfill_is n 2 (by decide)]
  exact My.fill2 (by omega)
theorem join3 (a b c : Str) : My.cs (PySem.Txt.join "-" [a, b, c]) = My.cs a ++ 45 :: (My.cs b ++ 45 :: My.cs c) := by
  show My.cs (Builtin.Str.glued "-" [a, b, c]) = _
  rw [PySem.StrLaws.glued_eq_join]
  show My.cs (a ++ "-" ++ (b ++ "-" ++ c)) = _
  rw [My.cs_app, My.cs_app, My.cs_app, My.cs_app, List.append_assoc, List.append_assoc]
  rfl
theorem ok_show_day (T : Txt K mg t) : FnOk P w K mg base CX0 4 t.f_show_day t.d_show_day ["day"] (sp_showday) := by
  have G_parts_of := ok_parts_of (P := P) (w := w) (base := base) T
  refine T.F_show_day.ok sc_show_day (fun vs H Q E h => ?_) (fun cdv A outer s H vs Q E hr h => ?_)
  · obtain ⟨d, rfl, _⟩ := h
    rfl
  obtain ⟨d, rfl, d0, d1, q⟩ := h
  refine ⟨_, (psc (ps_set (i := 1) sc_show_day.nd rfl (Or.inl rfl) (pe_call G_parts_of (hr.mono (by decide)) rfl T.m_parts_of T.k_parts_of T.b_parts_of .nil pass0 (pcn (pv 0) pnl)))
  (pso (ps_ret (pe_bm PySem.F.plainAttrs_str PySem.F.slot_str_join PySem.F.type_str_join mt_join pe_str (pcn (pe_lst (pcn (pe_bm PySem.F.plainAttrs_str PySem.F.slot_str_zfill PySem.F.type_str_zfill mt_zfill (pe_callTy call_str_int rfl T.z_str bt_str (pcn (pe_ix ixt (pv 1) pei (fun _ _ => rfl)) pnl)) (pcn pei pnl)) (pcn (pe_bm PySem.F.plainAttrs_str PySem.F.slot_str_zfill PySem.F.type_str_zfill mt_zfill (pe_callTy call_str_int rfl T.z_str bt_str (pcn (pe_ix ixt (pv 1) pei (fun _ _ => rfl)) pnl)) (pcn pei pnl)) (pcn (pe_bm PySem.F.plainAttrs_str PySem.F.slot_str_zfill PySem.F.type_str_zfill mt_zfill (pe_callTy call_str_int rfl T.z_str bt_str (pcn (pe_ix ixt (pv 1) pei (fun _ _ => rfl)) pnl)) (pcn pei pnl)) pnl)))) pnl))))), z_go (σ := [some _, none]) rfl ?_⟩
  walk_at "run"
  rename_i p H1 y m e s1 hp v ed
  have v1 := v.y1
  have v2 := v.y2
  have v3 := v.m1
  have v4 := v.m2
  have v5 := v.e1
  have v6 := v.e2
  have v7 : My.mlen y m ≤ 31 := (My.ml_pos (L := My.leap y) v3 v4).2
  refine ⟨log_small (by omega) (by omega), ?_⟩
  walk_at "run"
  refine z_zfill (by decide) ?_
  walk_at "run"
  refine ⟨log_small (by omega) (by omega), ?_⟩
  walk_at "run"
  refine z_zfill (by decide) ?_
  walk_at "run"
  refine ⟨log_small (by omega) (by omega), ?_⟩
  walk_at "run"
  refine z_zfill (by decide) ?_
  walk_at "run"
  refine z_mkl (Nat.le_of_ble_eq_true rfl) (fun l H2 hp2 s2 hl => ?_)
  walk_at "run"
  have c1 := zf4 (y := y) (by omega) (by omega)
  have c2 := zf2 (y := m) (by omega) (by omega)
  have c3 := zf2 (y := e) (by omega) (by omega)
  generalize PySem.Txt.zfill (Str.ofString (toString y)) 4 = a1 at *
  generalize PySem.Txt.zfill (Str.ofString (toString m)) 2 = a2 at *
  generalize PySem.Txt.zfill (Str.ofString (toString e)) 2 = a3 at *
  refine z_join (ts := [a1, a2, a3]) (SqL.of hl) ?_ ?_
  · have n1 : a1.length = 4 := by rw [← My.cs_len, c1]; rfl
    have n2 : a2.length = 2 := by rw [← My.cs_len, c2]; rfl
    have n3 : a3.length = 2 := by rw [← My.cs_len, c3]; rfl
    unfold PySem.JoinOk
    rw [PySem.StrLaws.joinFits (B := 4) (fun x hx => by
      simp only [List.mem_cons, List.not_mem_nil, or_false] at hx
      rcases hx with rfl | rfl | rfl <;> omega) (by show 3 * 4 + 3 * 1 ≤ 16777216; decide)]
    rfl
  · exact q _ _ y m e (s1.trans s2) v ed (by rw [join3, c1, c2, c3]; rfl)
structure Huge (x : Int) : Prop where
  b : My.Bd 3000000 x
theorem Huge.of {n : Nat} {x : Int} (h : My.Bd n x) (hn : n ≤ 3000000) : Huge x := ⟨h.mono hn⟩
open PySem.Spec PyProof.Rows in
theorem op_mulG {X : Cx} : OpR X (binaryOp .Mult) (rI (fun i j => Huge i ∧ Huge j) fun i j => .int (i * j)) := opI fun _ _ _ _ _ _ _ hc q =>
  mul_int q (IntMulOk.of_le (PySem.intBits_le_iff.mpr hc.1.b) (PySem.intBits_le_iff.mpr hc.2.b) (by decide))
theorem hg60 {n : Int} (h1 : -1152921504606846976 < n) (h2 : n < 1152921504606846976) : Huge n := .of (bd_60 h1 h2) (by decide)
structure Src (H : Hp) (r : Addr) (a b : Int) : Prop where
  l : H r = some (.lst [.int a, .int b])
  a0 : 0 ≤ a
  b0 : 0 ≤ b
  b1 : b < 2147483647
def sp_source (K : Fg) : Sp := fun vs H Q _ => ∃ (s : Addr) (ns : List Int) (k : Int), vs = [.ref s, .int k] ∧ SqL K H s (ns.map V.int) ∧ (∀ x ∈ ns, My.Bd 1048576 x) ∧ 0 ≤ k ∧ k ≤ 1000 ∧ ∀ (r : Addr) (H' : Hp) (a b : Int), H r = none → Same H H' → Src H' r a b → Q (.ref r) H'
theorem cell_bd {ns : List Int} (h : ∀ x ∈ ns, My.Bd 1048576 x) (k : Int) : My.Bd 1048576 (cellAt ns k) := by
  unfold cellAt
  rw [List.getD_eq_getElem?_getD]
  cases q : ns[k.toNat]? with
  | none => exact (show My.Bd 64 (0 : Int) by unfold My.Bd; decide).mono (by decide)
  | some x => exact h x (List.mem_of_getElem? q)
theorem ok_l_source (T : Txt K mg t) : FnOk P w K mg base CX0 2 t.f_l_source t.d_l_source ["_law_script", "_law_k"] (sp_source K) := by
  have G_l_cell_at := ok_l_cell_at (P := P) (w := w) (base := base) T
  refine T.F_l_source.ok sc_l_source (fun vs H Q E h => ?_) (fun cdv A outer s H vs Q E hr h => ?_)
  · obtain ⟨s, ns, k, rfl, _⟩ := h
    rfl
  obtain ⟨s, ns, k, rfl, hS, hb, k0, k1, q⟩ := h
  refine ⟨_, (psc (ps_set (i := 2) sc_l_source.nd rfl (Or.inl rfl) (pe_call G_l_cell_at (hr.mono (by decide)) rfl T.m_l_cell_at T.k_l_cell_at T.b_l_cell_at .nil pass0 (pcn (pv 0) (pcn (pv 1) pnl))))
  (psc (ps_set (i := 3) sc_l_source.nd rfl (Or.inl rfl) (pe_op op_mod (pe_op op_mulG (pe_op op_add (pe_op op_add (pe_op op_mod (pv 2) pei) (pe_op op_mulG pei (pv 1))) pei) pei) pei))
  (pso (ps_ret (pe_lst (pcn (pe_op op_mulG (pv 2) (pe_callTy call_int1 rfl T.z_int bt_int (pcn (pe_cmpR op_ge (pv 2) (pe_op op_pow pei pei) (nomark _)) pnl))) (pcn (pe_op op_mod (pe_op op_mulG (pv 3) (pv 3)) pei) pnl))))))), z_go (σ := [some _, some _, none, none]) rfl ?_⟩
  have cb := cell_bd hb k
  walk_at "run"
  generalize cellAt ns k = c at *
  have m1 := Int.emod_nonneg c (show (2147483647 : Int) ≠ 0 by decide)
  have m2 := Int.emod_lt_of_pos c (show (0 : Int) < 2147483647 by decide)
  refine z_I ⟨hg60 (by decide) (by decide), hg60 (by omega) (by omega)⟩ ?_
  walk_at "run"
  refine z_I ⟨hg60 (by omega) (by omega), hg60 (by decide) (by decide)⟩ ?_
  walk_at "run"
  have n1 := Int.emod_nonneg ((c % 2147483647 + 104729 * k + 7) * 48271) (show (2147483629 : Int) ≠ 0 by decide)
  have n2 := Int.emod_lt_of_pos ((c % 2147483647 + 104729 * k + 7) * 48271) (show (0 : Int) < 2147483629 by decide)
  generalize (c % 2147483647 + 104729 * k + 7) * 48271 % 2147483629 = d at *
  refine z_I ⟨.of cb (by decide), hg60 (by split <;> decide) (by split <;> decide)⟩ ?_
  walk_at "run"
  refine z_I ⟨hg60 (by omega) (by omega), hg60 (by omega) (by omega)⟩ ?_
  walk_at "run"
  have o1 := Int.emod_nonneg (d * d) (show (2147483587 : Int) ≠ 0 by decide)
  have o2 := Int.emod_lt_of_pos (d * d) (show (0 : Int) < 2147483587 by decide)
  refine z_mkl (Nat.le_of_ble_eq_true rfl) (fun l H1 hp s1 hl => ?_)
  refine q l H1 _ _ hp s1 ⟨hl, ?_, o1, by omega⟩
  have e18 : (10 : Int) ^ (18 : Int).toNat = 1000000000000000000 := by decide
  rw [e18]
  by_cases h : (1000000000000000000 : Int) ≤ c
  · rw [decide_eq_true h]
    show 0 ≤ c * 1
    omega
  · rw [decide_eq_false h]
    show 0 ≤ c * 0
    omega
def sp_draw : Sp := fun vs H Q _ => ∃ (r : Addr) (a b m : Int), vs = [.ref r, .int m] ∧ Src H r a b ∧ 1 ≤ m ∧ m < 2147483647 ∧ ∀ (d : Int) (H' : Hp) (a' b' : Int), 0 ≤ d → d < m → But r H H' → Src H' r a' b' → Q (.int d) H'
theorem ok_l_draw (T : Txt K mg t) : FnOk P w K mg base CX0 1 t.f_l_draw t.d_l_draw ["_law_source_here", "_law_many"] (sp_draw) := by
  refine T.F_l_draw.ok sc_l_draw (fun vs H Q E h => ?_) (fun cdv A outer s H vs Q E hr h => ?_)
  · obtain ⟨r, a, b, m, rfl, _⟩ := h
    rfl
  obtain ⟨r, a, b, m, rfl, S, m0, m1, q⟩ := h
  refine ⟨_, (psc (ps_if (pt_cmpR op_gt (pe_ix ixl (pv 0) pei (fun _ _ => rfl)) pei (nomark _)) (psc (ps_set (i := 2) sc_l_draw.nd rfl (Or.inl rfl) (pe_op op_mod (pe_ix ixl (pv 0) pei (fun _ _ => rfl)) (pv 1)))
  (psc (ps_asg (pe_op op_fdivB (pe_ix ixl (pv 0) pei (fun _ _ => rfl)) (pv 1)) (pg_sub (pv 0) pei set_list))
  (pso (ps_ret (pv 2))))) pss_nil)
  (psc (ps_asg (pe_op op_mod (pe_op op_add (pe_op op_mulB (pe_ix ixl (pv 0) pei (fun _ _ => rfl)) pei) pei) pei) (pg_sub (pv 0) pei set_list))
  (pso (ps_ret (pe_op op_mod (pe_op op_fdivB (pe_op op_mod (pe_op op_mulB (pe_ix ixl (pv 0) pei (fun _ _ => rfl)) (pe_ix ixl (pv 0) pei (fun _ _ => rfl))) pei) pei) (pv 1)))))), z_go (σ := [some _, some _, none]) rfl ?_⟩
  have hl : SqL K H r [.int a, .int b] := SqL.of S.l
  have a0 := S.a0
  have b0 := S.b0
  have b1 := S.b1
  walk_at "run"
  refine z_ixL hl (at0 _ _) ?_
  walk_at "run"
  refine z_iteD (fun h => ?_) (fun h => ?_)
  · walk_at "run"
    refine z_ixL hl (at0 _ _) ?_
    walk_at "run"
    refine z_ixL hl (at0 _ _) ?_
    walk_at "run"
    refine z_gsub ?_
    walk_at "run"
    refine z_setL S.l rfl (fun H1 b1' l1 => ?_)
    walk_at "run"
    exact q _ _ _ _ (Int.emod_nonneg _ (by omega)) (Int.emod_lt_of_pos _ (by omega)) b1' ⟨l1, Int.ediv_nonneg a0 (by omega), b0, b1⟩
  · walk_at "run"
    refine z_ixL hl (at1 _ _) ?_
    walk_at "run"
    refine z_gsub ?_
    walk_at "run"
    have c1 := Int.emod_nonneg (b * 48271 + 11) (show (2147483647 : Int) ≠ 0 by decide)
    have c2 := Int.emod_lt_of_pos (b * 48271 + 11) (show (0 : Int) < 2147483647 by decide)
    generalize (b * 48271 + 11) % 2147483647 = c at *
    refine z_setL S.l rfl (fun H1 b1' l1 => ?_)
    have hl1 : SqL K H1 r [.int a, .int c] := SqL.of l1
    walk_at "run"
    refine z_ixL hl1 (at1 _ _) ?_
    walk_at "run"
    refine z_ixL hl1 (at1 _ _) ?_
    walk_at "run"
    exact q _ _ _ _ (Int.emod_nonneg _ (by omega)) (Int.emod_lt_of_pos _ (by omega)) b1' ⟨l1, a0, c1, c2⟩
local macro_rules | `(tactic| walk_at "sp") => `(tactic| ((with_reducible apply a_draw); (focus assumption); (focus (first | decide | omega)); (focus (first | decide | omega)); (intro d H' a' b' d0 d1 bt Sr)))
def lng : List Str → Int
  | [] => 0
  | t :: r => if lng r < (t.length : Int) then (t.length : Int) else lng r
theorem lng_nn : ∀ ts, 0 ≤ lng ts
  | [] => Int.le_refl _
  | t :: r => by
    have := lng_nn r
    unfold lng
    split <;> omega
theorem lng_ge : ∀ (ts : List Str), ∀ t ∈ ts, (t.length : Int) ≤ lng ts
  | x :: r, t, h => by
    unfold lng
    rcases List.mem_cons.mp h with z | z
    · subst z
      split <;> omega
    · have := lng_ge r t z
      split <;> omega
theorem lng_mem : ∀ (ts : List Str), lng ts = 0 ∨ ∃ t ∈ ts, (t.length : Int) = lng ts
  | [] => .inl rfl
  | x :: r => by
    unfold lng
    split
    · exact .inr ⟨x, List.mem_cons_self, rfl⟩
    · rcases lng_mem r with z | ⟨t, h, e⟩
      · exact .inl z
      · exact .inr ⟨t, List.mem_cons_of_mem _ h, e⟩
theorem max_lng6 {ts : List Str} (h : ts ≠ []) : IsMax (ts.map fun t => 6 * (t.length : Int)) (6 * lng ts) := by
  refine ⟨?_, fun n hn => ?_⟩
  · rcases lng_mem ts with z | ⟨t, ht, e⟩
    · cases ts with
      | nil => exact absurd rfl h
      | cons x r =>
        have := lng_ge (x :: r) x List.mem_cons_self
        exact List.mem_map.mpr ⟨x, List.mem_cons_self, by omega⟩
    · exact List.mem_map.mpr ⟨t, ht, by omega⟩
  · obtain ⟨t, ht, rfl⟩ := List.mem_map.mp hn
    have := lng_ge ts t ht
    omega
structure Lab (K : Fg) (H : Hp) (l : Addr) (ts : List Str) : Prop where
  s : SqL K H l (ts.map V.str)
  n : ts.length ≤ 1000
  t : ∀ t ∈ ts, t.length ≤ 1000
def lenOf6 : V → V
  | .str z => .int (6 * z.length)
  | _ => .non
def sp_widest (K : Fg) : Sp := fun vs H Q _ => ∃ (l : Addr) (ts : List Str), vs = [.ref l] ∧ Lab K H l ts ∧ ∀ H', Same H H' → Q (.int (6 * lng ts)) H'
theorem ok_widest_of (T : Txt K mg t) : FnOk P w K mg base CX0 1 t.f_widest_of t.d_widest_of ["labels"] (sp_widest K) := by
  refine T.F_widest_of.ok sc_widest_of (fun vs H Q E h => ?_) (fun cdv A outer s H vs Q E hr h => ?_)
  · obtain ⟨l, ts, rfl, _⟩ := h
    rfl
  obtain ⟨l, ts, rfl, L, q⟩ := h
  refine ⟨_, (pso (ps_ret (pe_maxD rfl rfl T.z_max (pcn (pe_lc rfl (compOk_of (fr := []) (osc := defScope s_widest_of) (N := ["labels"]) rfl rfl (by decide +kernel)) (pi_list (pv 0)) (fun _ _ _ _ _ => (pe_op op_mulB (pe_glob (v := .int 6) rfl T.g_SIGN_WIDTH ⟨_, rfl⟩) (pe_callB call_len_str rfl T.z_len PySem.boot_len (pcn (pv 0) pnl))))) pnl) (pk_cons pei pk_nil)))), z_go (σ := [some _]) rfl ?_⟩
  have hl := L.s
  have hn := L.n
  walk_at "run"
  refine z_maxD ?_
  walk_at "run"
  refine lcn_list lenOf6 hl (le_size (by rw [List.length_map]; omega)) ?_ ?_
  · intro x H2 S hx s2 k
    obtain ⟨z, hz, rfl⟩ := List.mem_map.mp hx
    walk_at "run"
    refine ⟨z, rfl, Nat.le_trans (L.t z hz) (by decide), ?_⟩
    have := L.t z hz
    walk_at "run"
    exact k _ (Same.refl _)
  · intro acc H2 hacc s2 ha
    walk_at "run"
    have e : (ts.map V.str).map lenOf6 = (ts.map fun t => 6 * (t.length : Int)).map V.int := by
      rw [List.map_map, List.map_map]; rfl
    rw [e] at ha
    refine ⟨acc, _, _, rfl, rfl, SqL.of ha, ?_⟩
    by_cases z : ts = []
    · subst z
      exact .inl ⟨rfl, q _ s2⟩
    · exact .inr ⟨_, max_lng6 z, q _ s2⟩
local macro_rules | `(tactic| walk_at "tg") => `(tactic| repeat (first | exact Gt.here | apply Gt.next))
local macro_rules | `(tactic| walk_at "ts") => `(tactic| repeat (first | exact Sto.here | apply Sto.next))
local macro_rules | `(tactic| walk_at "rk") => `(tactic| first | exact Rk.fz | ((with_reducible apply Rk.own); (focus ((walk_at "tg"); done))) | ((with_reducible apply Rk.sfz); (focus ((walk_at "tg"); done))) | ((with_reducible apply Rk.vw); (focus ((walk_at "tg"); done))))
local macro_rules | `(tactic| walk_at "tvar") => `(tactic| first | ((with_reducible apply e_var); (focus ((walk_at "tg"); done))) | ((with_reducible apply e_varO); (focus ((walk_at "tg"); done))) | ((with_reducible apply e_varV); (focus ((walk_at "tg"); done))) | ((with_reducible apply e_varW); (focus ((walk_at "tg"); done))))
local macro_rules | `(tactic| walk_at "t1I") => `(tactic| first | walk_at "tvar" | with_reducible (first | refine p_fz ?_ | refine p_nw ?_ | refine p_sl ?_ | refine as_fz ?_ | refine as_nw ?_ | refine aa_fz ?_ | refine aa_nw ?_ | refine aa_wd ?_ | refine e_cI ?_ | refine e_cB ?_ | refine e_cN ?_ | refine e_cS ?_ | refine e_cT ?_ | refine e_cb1 ?_ | refine e_cb2 ?_ | refine e_un ?_ | refine e_andV ?_ | refine e_orV ?_ | refine e_notV ?_ | refine e_if ?_ | refine e_chain ?_ | refine t_test ?_ | refine t_B ?_ | refine t_ebl ?_ | refine t_and ?_ | refine t_or ?_ | refine t_not ?_ | refine t_eint ?_ | refine t_lst ?_ | refine t_tup ?_ | refine a_nil ?_ | refine a_cons ?_ | refine a_ints ?_ | refine w_nil ?_ | refine w_cons ?_ | refine e_tup ?_ | refine e_lst ?_ | refine e_sl ?_ | refine o_no ?_ | refine o_part ?_ | refine s_seq ?_ | refine s_next ?_ | refine s_drop ?_ | refine s_ret ?_ | refine s_asg ?_ | refine s_par ?_ | refine s_for ?_ | refine s_setlc ?_ | refine t_yes ?_ | refine i_rng1 ?_ | refine i_rng2 ?_ | refine iteT ?_ | refine iteF ?_ | refine z_iteNb ?_ | refine gs_nil ?_ | refine gs_cons ?_ | refine rt_fz ?_) | ((with_reducible apply as_own); (focus ((walk_at "tg"); done)); (focus ((walk_at "ts"); done))) | ((with_reducible apply as_sfz); (focus ((walk_at "tg"); done))) | ((with_reducible apply aa_own); (focus ((walk_at "tg"); done)); (focus ((walk_at "ts"); done))) | ((with_reducible apply aa_sfz); (focus ((walk_at "tg"); done))) | ((with_reducible apply g_fz); (focus ((walk_at "ts"); done))) | ((with_reducible apply g_nw); (focus ((walk_at "ts"); done))) | ((with_reducible apply g_sl); (focus ((walk_at "tg"); done)); (focus ((walk_at "ts"); done)); (focus ((walk_at "ts"); done))) | ((with_reducible apply sto2); (focus ((walk_at "ts"); done))) | ((with_reducible apply par2); (focus ((walk_at "ts"); done)); (focus ((walk_at "ts"); done))) | ((with_reducible apply t_len); (focus (exact Nat.le_of_ble_eq_true rfl))) | ((with_reducible apply i_list); (focus rfl)) | ((with_reducible apply i_tup); (focus rfl)) | ((with_reducible apply i_enum); (focus rfl)) | ((with_reducible apply e_bm); (focus rfl)) | ((with_reducible apply e_bm0); (focus rfl)) | ((with_reducible apply g_tup); (focus rfl); (focus rfl)) | ((with_reducible apply e_isiTL); (focus rfl)))
local macro_rules | `(tactic| walk_at "t1") => `(tactic| first | walk_at "t1I" | (with_reducible refine s_ifs ?_))
local macro_rules | `(tactic| walk_at "t2") => `(tactic| first | ((with_reducible apply e_repLit); (focus decide); (focus decide)) | (with_reducible refine e_op ?_) | ((with_reducible apply ro_I); (focus (walk_at "cd"))) | ((with_reducible apply ro_IB); (focus (walk_at "cd"))) | with_reducible (first | refine ro_I0 ?_ | refine ro_I0B ?_ | refine ru_U ?_ | refine ro_EqI ?_ | refine ro_NeI ?_ | refine ro_EqS ?_ | refine ro_NeS ?_ | refine ro_EqB ?_ | refine ro_NeB ?_ | refine ro_isB ?_ | refine ro_notB ?_ | refine ru_abs ?_ | refine ru_toI ?_ | refine ru_toB ?_ | refine ro_max2 ?_ | refine ro_min2 ?_ | refine ru_lenK ?_) | ((with_reducible apply ro_isNT); (focus rfl)) | ((with_reducible apply ro_isNF); (focus rfl)) | ((with_reducible apply ro_notNT); (focus rfl)) | ((with_reducible apply ro_notNF); (focus rfl)) | ((with_reducible apply ro_ixL); (focus rfl); (focus (walk_at "rk")); (focus rfl)) | ((with_reducible apply ro_ixT); (focus rfl); (focus (walk_at "rk")); (focus rfl)) | ((with_reducible apply ru_len); (focus rfl); (focus (walk_at "rk"))) | ((with_reducible apply ru_lenT); (focus rfl); (focus (walk_at "rk"))) | ((with_reducible apply ro_isiT); (focus rfl); (focus rfl); (focus rfl)) | ((with_reducible apply ro_isiF); (focus rfl); (focus rfl); (focus rfl)) | ((with_reducible apply t_efzT); (focus rfl); (focus rfl)) | ((with_reducible apply t_efzF); (focus rfl); (focus rfl)) | ((with_reducible apply ru_list); (focus rfl); (focus (walk_at "rk"))) | ((with_reducible apply ru_listT); (focus rfl); (focus (walk_at "rk"))) | ((with_reducible apply ru_tup); (focus rfl); (focus (walk_at "rk"))) | ((with_reducible apply rs_L); (focus rfl); (focus (walk_at "rk"))) | ((with_reducible apply ty_list); (focus (walk_at "rk"))) | (with_reducible refine ty_str ?_) | ((with_reducible apply rm_append); (focus ((walk_at "tg"); done)); (focus (walk_at "tl")); (focus ((walk_at "ts"); done))) | ((with_reducible apply rm_clear); (focus ((walk_at "tg"); done)); (focus ((walk_at "ts"); done))) | ((with_reducible apply rm_reverse); (focus ((walk_at "tg"); done)); (focus ((walk_at "ts"); done))) | ((with_reducible apply e_call); (focus rfl)) | ((with_reducible apply e_callD0); (focus rfl)))
local macro_rules | `(tactic| walk_at "tl") => `(tactic| first | (exact Nat.le_of_ble_eq_true rfl) | omega | (simp; omega))
local macro_rules | `(tactic| walk_at "trun") => `(tactic| repeat (first | walk_at "t1" | walk_at "t2" | walk_at "tsp"))
local macro_rules | `(tactic| walk_at "tsp") => `(tactic| fail)
local macro_rules | `(tactic| walk_at "trunI") => `(tactic| repeat (first | walk_at "t1I" | walk_at "t2" | walk_at "tsp"))
def OkS (vs : List V) : Prop := ∃ a b : Int, vs = [.int a, .int b] ∧ 0 ≤ a ∧ 0 ≤ b ∧ b < 2147483647
def SrcJ (H : Hp) (r : Addr) : Prop := ∃ vs, H r = some (.lst vs) ∧ OkS vs
structure SrcB (B : Bk) : Prop where
  j : ∀ H, B.J H ↔ SrcJ H B.rt
  w : ∀ q, B.W q ↔ q = B.rt
theorem SrcB.now {B : Bk} {F H : Hp} (h : SrcB B) : SrcB (B.now F H) := ⟨h.j, h.w⟩
theorem srcj_src {H : Hp} {r : Addr} (h : SrcJ H r) : ∃ a b, Src H r a b := by
  obtain ⟨vs, e, a, b, rfl, h1, h2, h3⟩ := h
  exact ⟨a, b, e, h1, h2, h3⟩
theorem src_srcj {H : Hp} {r : Addr} {a b : Int} (h : Src H r a b) : SrcJ H r := ⟨_, h.l, a, b, rfl, h.a0, h.b0, h.b1⟩
def st_draw : SpT := fun B as Φ _ => ∃ m : Int, as = [.wd, .fz (.int m)] ∧ SrcB B ∧ 1 ≤ m ∧ m < 2147483647 ∧ ∀ d, 0 ≤ d → d < m → Φ (.fz (.int d))
theorem okT_l_draw (T : Txt K mg t) : FnOk P w K mg base CX0 1 t.f_l_draw t.d_l_draw ["_law_source_here", "_law_many"] (toSp K st_draw) := by
  refine (ok_l_draw (P := P) (w := w) (base := base) T).imp fun vs H Q E h => ?_
  obtain ⟨B, as, Φ, Ψ, rfl, rfl, bk, la, ⟨m, rfl, hs, m0, m1, φ⟩, q, _⟩ := h
  cases la with
  | cons a1 l1 =>
    cases l1 with
    | cons a2 l2 =>
      cases l2
      cases (show _ = V.ref B.rt from a1)
      cases (show Is B.K B.F0 _ (.int m) from a2)
      obtain ⟨a, b, S⟩ := srcj_src ((hs.j _).mp bk.wj)
      refine ⟨B.rt, a, b, m, rfl, S, m0, m1, fun d H' a' b' d0 d1 bt Sr => q (.int d) B.F0 H' (.fz (.int d)) ?_ .int (φ d d0 d1)⟩
      have nr : ∀ p, ¬ B.W p → p ≠ B.rt := fun p h e => h ((hs.w p).mpr e)
      exact {
        f := Same.refl _
        h := fun p o nw e => bt p o (nr p nw) e
        i := fun p o e => bt p o (fun z => by
          have := bk.wf p ((hs.w p).mpr z)
          rw [this] at e; cases e) (bk.i p o e)
        m := fun _ _ _ _ z => z
        w := fun p z => by
          by_cases e : p = B.rt
          · rw [e, Sr.l] at z; cases z
          · cases q : B.H0 p with
            | none => rfl
            | some o => rw [bt p o e q] at z; cases z
        x := fun _ _ z => z
        j := fun _ => (hs.j _).mpr (src_srcj Sr) }
theorem a_drawT {B : Bk} {m : Int} {Φ : Kd → Prop} {Ψ : Addr → Prop} (hs : SrcB B) (h1 : 1 ≤ m) (h2 : m < 2147483647) (q : ∀ d, 0 ≤ d → d < m → Φ (.fz (.int d))) : st_draw B [.wd, .fz (.int m)] Φ Ψ := ⟨m, rfl, hs, h1, h2, q⟩
def st_great : SpT := fun B as Φ _ => ∃ m : Int, as = [.wd, .fz (.int m)] ∧ SrcB B ∧ 1 ≤ m ∧ ∀ d, 0 ≤ d → d < m → Φ (.fz (.int d))
theorem okT_l_great (T : Txt K mg t) : FnOk P w K mg base CX0 2 t.f_l_great t.d_l_great ["_law_source_here", "_law_many"] (toSp K st_great) := by
  have G_l_draw := okT_l_draw (P := P) (w := w) (base := base) T
  refine T.F_l_great.ok sc_l_great (toSp_len (fun B as Φ Ψ h => by obtain ⟨_, rfl, _⟩ := h; rfl)) (fun cdv A outer s H vs Q E hr h => ?_)
  obtain ⟨B, as, Φ, Ψ, rfl, hS, hx, go⟩ := toSp_open h
  obtain ⟨m, rfl, hs, m1, φ⟩ := hS
  refine ⟨_, (psc (ps_set (i := 2) sc_l_great.nd rfl (Or.inl rfl) pei)
  (psc (ps_for PassesOwn.never rfl (pi_range1 rfl T.z_range (pcn pei pnl)) (pg_name (i := 3) sc_l_great.nd rfl (Or.inl rfl)) (pso (ps_set (i := 2) sc_l_great.nd rfl (Or.inl rfl) (pe_op op_add (pe_op op_mulB (pv 2) pei) (pe_call G_l_draw (hr.mono (by decide)) rfl T.m_l_draw T.k_l_draw T.b_l_draw .nil pass0 (pcn (pv 0) (pcn pei pnl)))))))
  (pso (ps_ret (pe_op op_mod (pv 2) (pv 1)))))), go _ _ (s_go (τ := [.wd, .fz _, .no, .no]) rfl ?_)⟩
  walk_at "trun"
  refine ⟨⟨by decide, by decide⟩, ?_⟩
  refine ⟨fun i τ => ∃ (f : Int) (u : Sl), τ = [.wd, .fz (.int m), .fz (.int f), u] ∧ 0 ≤ f ∧ f < 1000003 ^ i, ⟨0, _, rfl, by decide, by decide⟩, ?_, ?_⟩
  · rintro i tt τ hi ⟨f, u, rfl, f0, f1⟩
    obtain ⟨hin, rfl⟩ := rangeT_at hi
    have hin : i < 4 := hin
    have mf : Mid f := by
      have h1 : (1000003 : Int) ^ i ≤ 1000003 ^ 4 := by
        rcases (show i = 0 ∨ i = 1 ∨ i = 2 ∨ i = 3 by omega) with rfl | rfl | rfl | rfl <;> decide
      have h2 : (1000003 : Int) ^ 4 = 1000012000054000108000081 := by decide
      exact (show My.Bd 100 f by unfold My.Bd; omega).mono (by decide)
    walk_at "trun"
    intro _ _
    refine a_drawT hs.now (by decide) (by decide) fun d d0 d1 => ?_
    walk_at "trun"
    refine ⟨_, _, rfl, by omega, ?_⟩
    have : (f + 1) * 1000003 ≤ 1000003 ^ i * 1000003 := Int.mul_le_mul_of_nonneg_right (by omega) (by decide)
    rw [Int.pow_succ]
    omega
  · rintro τ ⟨f, u, rfl, f0, f1⟩
    walk_at "trun"
    exact φ _ (Int.emod_nonneg _ (by omega)) (Int.emod_lt_of_pos _ (by omega))
theorem a_great {B : Bk} {m : Int} {Φ : Kd → Prop} {Ψ : Addr → Prop} (hs : SrcB B) (h1 : 1 ≤ m) (q : ∀ d, 0 ≤ d → d < m → Φ (.fz (.int d))) : st_great B [.wd, .fz (.int m)] Φ Ψ := ⟨m, rfl, hs, h1, q⟩
local macro_rules | `(tactic| walk_at "t2N") => `(tactic| first | ((with_reducible apply e_repLit); (focus decide); (focus decide)) | (with_reducible refine e_op ?_) | ((with_reducible apply ro_I); (focus (walk_at "cd"))) | ((with_reducible apply ro_IB); (focus (walk_at "cd"))) | with_reducible (first | refine ro_I0 ?_ | refine ro_I0B ?_ | refine ru_U ?_ | refine ro_EqI ?_ | refine ro_NeI ?_ | refine ro_EqS ?_ | refine ro_NeS ?_ | refine ro_EqB ?_ | refine ro_NeB ?_ | refine ro_isB ?_ | refine ro_notB ?_ | refine ru_abs ?_ | refine ru_toI ?_ | refine ru_toB ?_ | refine ro_max2 ?_ | refine ro_min2 ?_ | refine ru_lenK ?_) | ((with_reducible apply ro_isNT); (focus rfl)) | ((with_reducible apply ro_isNF); (focus rfl)) | ((with_reducible apply ro_notNT); (focus rfl)) | ((with_reducible apply ro_notNF); (focus rfl)) | ((with_reducible apply ro_ixL); (focus rfl); (focus (walk_at "rk")); (focus rfl)) | ((with_reducible apply ro_ixT); (focus rfl); (focus (walk_at "rk")); (focus rfl)) | ((with_reducible apply ru_len); (focus rfl); (focus (walk_at "rk"))) | ((with_reducible apply ru_lenT); (focus rfl); (focus (walk_at "rk"))) | ((with_reducible apply ro_isiT); (focus rfl); (focus rfl); (focus rfl)) | ((with_reducible apply ro_isiF); (focus rfl); (focus rfl); (focus rfl)) | ((with_reducible apply t_efzT); (focus rfl); (focus rfl)) | ((with_reducible apply t_efzF); (focus rfl); (focus rfl)) | ((with_reducible apply ru_list); (focus rfl); (focus (walk_at "rk"))) | ((with_reducible apply ru_listT); (focus rfl); (focus (walk_at "rk"))) | ((with_reducible apply ru_tup); (focus rfl); (focus (walk_at "rk"))) | ((with_reducible apply rs_L); (focus rfl); (focus (walk_at "rk"))) | ((with_reducible apply ty_list); (focus (walk_at "rk"))) | (with_reducible refine ty_str ?_) | ((with_reducible apply rm_append); (focus ((walk_at "tg"); done)); (focus (walk_at "tl")); (focus ((walk_at "ts"); done))) | ((with_reducible apply rm_clear); (focus ((walk_at "tg"); done)); (focus ((walk_at "ts"); done))) | ((with_reducible apply rm_reverse); (focus ((walk_at "tg"); done)); (focus ((walk_at "ts"); done))))
local macro_rules | `(tactic| walk_at "trunN") => `(tactic| repeat (first | walk_at "t1" | walk_at "t2N" | walk_at "tsp"))
theorem s_forget {B : Bk} {s : TS} {τ : TSt} {D' : ET} (i : Nat) (h : SV B s (τ.set i .no) D') : SV B s τ D' := fun σ F H D r e => h σ F H D r.forget e
def st_source : SpT := fun _ as Φ _ => ∃ (ns : List Int) (k : Int), as = [.fz (.lst (ns.map Tr.int)), .fz (.int k)] ∧ (∀ x ∈ ns, My.Bd 1048576 x) ∧ 0 ≤ k ∧ k ≤ 1000 ∧ ∀ a b : Int, 0 ≤ a → 0 ≤ b → b < 2147483647 → Φ (.nw (.lst [.int a, .int b]))
theorem okT_l_source (T : Txt K mg t) : FnOk P w K mg base CX0 2 t.f_l_source t.d_l_source ["_law_script", "_law_k"] (toSp K st_source) := by
  refine (ok_l_source (P := P) (w := w) (base := base) T).imp fun vs H Q E h => ?_
  obtain ⟨B, as, Φ, Ψ, rfl, rfl, bk, la, ⟨ns, k, rfl, hb, k0, k1, φ⟩, q, _⟩ := h
  obtain ⟨v, w', rfl, iv, iw⟩ := arl2 la
  cases iw
  cases iv.same bk.i with
  | lst hs il =>
    cases il.ints
    refine ⟨_, ns, k, rfl, hs, hb, k0, k1, fun r H' a b hr sm src => q (.ref r) B.F0 H' (.nw (.lst [.int a, .int b])) ?_ ?_ (φ a b src.a0 src.b0 src.b1)⟩
    · exact {
        f := Same.refl _
        h := fun p o _ h => sm p o h
        i := fun p o h => sm p o (bk.i p o h)
        m := fun _ _ _ _ h => h
        w := fun p h => by
          cases e : B.H0 p with
          | none => rfl
          | some o => rw [sm p o e] at h; cases h
        x := fun _ _ h => h
        j := fun hj => B.jl _ _ (fun p hp => by
          obtain ⟨o, ho, _⟩ := B.jm _ p hj hp
          rw [ho, sm p o ho]) (fun p φ z => sm p _ z) hj }
    · refine ⟨r, rfl, .lst src.l (.cons .int (.cons .int .nil)), ?_, hr⟩
      cases e : B.F0 r with
      | none => rfl
      | some o => rw [bk.i r o e] at hr; cases hr
def TOk (ts : List Tr) : Prop := ∃ a b : Int, ts = [.int a, .int b] ∧ 0 ≤ a ∧ 0 ≤ b ∧ b < 2147483647
theorem tok_in {K : Fg} {F : Hp} {vs : List V} {ts : List Tr} (ht : TOk ts) (h : IsL K F vs ts) : OkS vs := by
  obtain ⟨a, b, rfl, h1, h2, h3⟩ := ht
  cases h with
  | cons x y =>
    cases x
    cases y with
    | cons x y =>
      cases x
      cases y
      exact ⟨a, b, rfl, h1, h2, h3⟩
def cleanT (τ : TSt) : TSt := τ.map fun s => match s with | .fz t => .fz t | _ => .no
theorem clean_at {τ : TSt} {i : Nat} {s : Sl} (h : TAt (cleanT τ) i s) : s = .no ∨ ∃ t, s = .fz t ∧ TAt τ i (.fz t) := by
  unfold TAt cleanT at h
  rw [List.getElem?_map] at h
  cases e : τ[i]? with
  | none => rw [e] at h; cases h
  | some s' =>
    rw [e] at h
    cases s' <;> cases h
    · exact .inl rfl
    · exact .inr ⟨_, rfl, e⟩
    · exact .inl rfl
    · exact .inl rfl
    · exact .inl rfl
theorem s_lendM {B : Bk} {s : TS} {τ : TSt} {k : Nat} {ts : List Tr} {nx bk ct : TSt → Prop} {rt : Kd → Prop} (nw : ∀ p, ¬ B.W p) (nj : ∀ H, B.J H) (g : Gt τ k (.own (.lst ts))) (cl : OnlyF k (τ.set k .wd) = true) (ok : TOk ts)
    (h : ∀ F H l, SrcB (B.lend F H l OkS) → SV (B.lend F H l OkS) s (τ.set k .wd) ⟨fun τ' => nx (cleanT τ'), fun _ => False, fun _ => False, fun _ => False⟩) : SV B s τ ⟨nx, rt, bk, ct⟩ := fun σ F H D r e => by
  obtain ⟨l, es, ow, fl, n0⟩ := r.ow k _ g.eq
  cases ow with
  | @lst vs _ hl gl =>
    have r1 := r.lendM g.eq es fl hl (tok_in ok gl) cl
    have sb : SrcB (B.lend F H l OkS) := ⟨fun H' => ⟨fun x => x.2, fun x => ⟨nj _, x⟩⟩, fun q => ⟨fun x => x.elim (fun y => absurd y (nw q)) fun y => y, .inr⟩⟩
    refine h F H l sb σ F H D r1 ⟨fun σ' F' H' τ' sF r2 hn => ?_, fun _ _ _ _ _ _ z => z.elim, fun _ _ _ _ _ _ z => z.elim, fun _ _ _ _ _ _ z => z.elim⟩
    have u := r2.up
    refine e.nx σ' F' H' (cleanT τ') sF ?_ hn
    exact {
      up := ⟨r.up.f.trans u.f, fun q o n z => u.h q o (fun x => x.elim n fun y => by rw [y, n0] at z; cases z) (r.up.h q o n z), u.i, fun q o z mb n => u.m q o (r.up.h q o (nw q) z) mb (r.up.m q o z mb n), fun q z => r.up.w q (u.w q z), fun q hw => absurd hw (nw q), fun _ => nj _⟩
      wa := fun p hw => absurd hw (nw p)
      wf := fun p hw => absurd hw (nw p)
      wj := nj _
      wd := fun i z => by rcases clean_at z with z | ⟨_, z, _⟩ <;> cases z
      len := by unfold cleanT; rw [List.length_map]; exact r2.len
      fz := fun i t z => by
        rcases clean_at z with z | ⟨t', z, y⟩
        · cases z
        · cases z; exact r2.fz i t y
      ow := fun i t z => by rcases clean_at z with z | ⟨_, z, _⟩ <;> cases z
      vw := fun i t z => by rcases clean_at z with z | ⟨_, z, _⟩ <;> cases z
      ap := fun i j t u l z => by rcases clean_at z with z | ⟨_, z, _⟩ <;> cases z
      av := fun i j t u l z => by rcases clean_at z with z | ⟨_, z, _⟩ <;> cases z }
def N2 (a b : Int) : Tr := .tup [.int a, .int b]
def numT (q : Rat) : Tr := N2 q.num q.den
theorem qv_num {x y : Int} {q : Rat} (hy : 0 < y) (g : Int.gcd x y = 1) (e : My.qv x y = q) : x = q.num ∧ y = (q.den : Int) := by
  have hd : (0 : Int) < (q.den : Int) := Int.natCast_pos.mpr q.den_pos
  have e2 : My.qv q.num q.den = q := by
    show (q.num : Rat) / ((q.den : Int) : Rat) = q
    rw [← Rat.divInt_eq_div]
    exact Rat.num_divInt_den q
  refine My.low_unique hy hd g ?_ (My.eq_of_qv (by omega) (by omega) (e.trans e2.symm))
  have := q.reduced
  show Nat.gcd q.num.natAbs (q.den : Int).natAbs = 1
  exact this
theorem isN2 {K : Fg} {F : Hp} {v : V} {a b : Int} (h : Is K F v (N2 a b)) : ∃ p, v = .ref p ∧ SqT K F p [.int a, .int b] := by
  cases h with
  | tup s l =>
    obtain ⟨v1, v2, rfl, h1, h2⟩ := isl2 l
    cases h1
    cases h2
    exact ⟨_, rfl, s⟩
structure QN (n : Nat) (q : Rat) : Prop where
  a : My.Bd n q.num
  b : My.Bd n (q.den : Int)
theorem qv_self (q : Rat) : My.qv q.num q.den = q := by
  show (q.num : Rat) / ((q.den : Int) : Rat) = q
  rw [← Rat.divInt_eq_div]
  exact Rat.num_divInt_den q
theorem newT {B : Bk} {Q : VK} {n : Nat} {v : Rat} {Φ : Kd → Prop} (bk : BkOk B) (q : ∀ u F' H' k, Up B B.F0 B.H0 F' H' → RetOk B F' H' u k → Φ k → Q u H') (φ : QN n v → Φ (.fz (numT v))) : NewQ B.K B.H0 Q n v := fun p H' x y sH r g e => by
  obtain ⟨e1, e2⟩ := qv_num r.pos g e
  have u := upT bk rfl rfl sH
  refine q (.ref p) _ H' (.fz (numT v)) u ?_ (φ ⟨by rw [← e1]; exact r.ba, by rw [← e2]; exact r.bb⟩)
  show Is B.K _ (.ref p) (N2 v.num v.den)
  rw [← e1, ← e2]
  exact .tup (SqT.addT (bk.i.trans sH) r.s) (.cons .int (.cons .int .nil))
def st_numb : SpT := fun _ as Φ _ => ∃ (t m : Int) (n : Nat), as = [.fz (.int t), .fz (.int m)] ∧ My.Bd n t ∧ My.Bd n m ∧ n ≤ 3900 ∧ m ≠ 0 ∧ (QN n (My.qv t m) → Φ (.fz (numT (My.qv t m))))
theorem okT_number (T : Txt K mg t) : FnOk P w K mg base (CXe P w) 2 t.f_number t.d_number ["top", "bottom"] (toSp K st_numb) := by
  refine (ok_number (P := P) (w := w) (base := base) T).imp fun vs H Q E h => ?_
  obtain ⟨B, as, Φ, Ψ, rfl, rfl, bk, la, ⟨a, b, n, rfl, h1, h2, hn, hb, φ⟩, q, _⟩ := h
  obtain ⟨v, w', rfl, iv, iw⟩ := arl2 la
  cases iv
  cases iw
  exact ⟨a, b, n, rfl, h1, h2, hn, hb, newT bk q φ⟩
theorem a_num {B : Bk} {t m : Int} {n : Nat} {Φ : Kd → Prop} {Ψ : Addr → Prop} (h1 : My.Bd n t) (h2 : My.Bd n m) (hn : n ≤ 3900) (hm : m ≠ 0) (q : QN n (My.qv t m) → Φ (.fz (numT (My.qv t m)))) : st_numb B [.fz (.int t), .fz (.int m)] Φ Ψ := ⟨t, m, n, rfl, h1, h2, hn, hm, q⟩
theorem ite_t {b : Bool} {A B : Prop} (h : b = true) (a : A) : if b = true then A else B := by rw [if_pos h]; exact a
theorem ite_f {b : Bool} {A B : Prop} (h : b = false) (a : B) : if b = true then A else B := by rw [h, if_neg (by decide)]; exact a
theorem QN.up {n m : Nat} {q : Rat} (h : QN n q) (e : n ≤ m) : QN m q := ⟨h.a.mono e, h.b.mono e⟩
def rnd (q : Rat) : Int := (2 * q.num + q.den) / (2 * q.den)
def st_rnd : SpT := fun _ as Φ _ => ∃ (q : Rat) (n : Nat), as = [.fz (numT q)] ∧ QN n q ∧ n ≤ 3000 ∧ Φ (.fz (.int (rnd q)))
theorem okT_rounded (T : Txt K mg t) : FnOk P w K mg base CX0 1 t.f_rounded t.d_rounded ["one"] (toSp K st_rnd) := by
  refine T.F_rounded.ok sc_rounded (toSp_len (fun B as Φ Ψ h => by obtain ⟨_, _, rfl, _⟩ := h; rfl)) (fun cdv A outer s H vs Q E hr h => ?_)
  obtain ⟨B, as, Φ, Ψ, rfl, hS, hx, go⟩ := toSp_open h
  obtain ⟨q, n, rfl, h1, hn, φ⟩ := hS
  have b1 := h1.a.mono (show n ≤ 3000 by omega)
  have b2 := h1.b.mono (show n ≤ 3000 by omega)
  have a1 : Mid q.num := b1.mono (by decide)
  have a2 : Mid (q.den : Int) := b2.mono (by decide)
  have a3 : (0 : Int) < (q.den : Int) := Int.natCast_pos.mpr q.den_pos
  have m1 : Mid (2 * q.num + (q.den : Int)) := by
    unfold Mid
    unfold My.Bd at b1 b2 ⊢
    have : (2 : Int) ^ 4000 = 2 ^ 3000 * 2 ^ 1000 := by rw [← Int.pow_add]
    have h4 : (4 : Int) ≤ 2 ^ 1000 := by decide +kernel
    have h5 : (0 : Int) < 2 ^ 3000 := Int.pow_pos (by decide)
    have h6 : (2 : Int) ^ 3000 * 4 ≤ 2 ^ 3000 * 2 ^ 1000 := Int.mul_le_mul_of_nonneg_left h4 (Int.le_of_lt h5)
    omega
  have m2 : Mid (2 * (q.den : Int)) := by
    unfold Mid
    unfold My.Bd at b1 b2 ⊢
    have : (2 : Int) ^ 4000 = 2 ^ 3000 * 2 ^ 1000 := by rw [← Int.pow_add]
    have h4 : (4 : Int) ≤ 2 ^ 1000 := by decide +kernel
    have h5 : (0 : Int) < 2 ^ 3000 := Int.pow_pos (by decide)
    have h6 : (2 : Int) ^ 3000 * 4 ≤ 2 ^ 3000 * 2 ^ 1000 := Int.mul_le_mul_of_nonneg_left h4 (Int.le_of_lt h5)
    omega
  have m3 : Mid 2 := mid2
  unfold numT N2 at *
  refine ⟨_, (pso (ps_ret (pe_op op_fdivB (pe_op op_add (pe_op op_mulB pei (pe_ix ixt (pv 0) pei (fun _ _ => rfl))) (pe_ix ixt (pv 0) pei (fun _ _ => rfl))) (pe_op op_mulB pei (pe_ix ixt (pv 0) pei (fun _ _ => rfl)))))), go _ _ (s_go (τ := [.fz _]) rfl ?_)⟩
  walk_at "trun"
  exact φ
def st_undr : SpT := fun _ as Φ _ => ∃ (x y : Rat) (n m : Nat), as = [.fz (numT x), .fz (numT y)] ∧ QN n x ∧ QN m y ∧ n + m ≤ 3900 ∧ Φ (.fz (.bl (decide (x < y))))
theorem okT_under (T : Txt K mg t) : FnOk P w K mg base CX0 1 t.f_under t.d_under ["one", "other"] (toSp K st_undr) := by
  refine (ok_under (P := P) (w := w) (base := base) T).imp fun vs H Q E h => ?_
  obtain ⟨B, as, Φ, Ψ, rfl, rfl, bk, la, ⟨x, y, n, m, rfl, h1, h2, hn, φ⟩, q, _⟩ := h
  obtain ⟨v, w', rfl, iv, iw⟩ := arl2 la
  obtain ⟨p, rfl, s1⟩ := isN2 iv
  obtain ⟨r, rfl, s2⟩ := isN2 iw
  have d1 : (0 : Int) < (x.den : Int) := Int.natCast_pos.mpr x.den_pos
  have d2 : (0 : Int) < (y.den : Int) := Int.natCast_pos.mpr y.den_pos
  refine ⟨p, r, x.num, x.den, y.num, y.den, n, m, rfl, ⟨bk.i.tup s1, d1, h1.a, h1.b⟩, ⟨bk.i.tup s2, d2, h2.a, h2.b⟩, hn, q (.bl _) _ _ (.fz (.bl _)) (Up.refl bk.i) .bl ?_⟩
  have e : (x < y) ↔ x.num * (y.den : Int) < y.num * (x.den : Int) := by
    rw [← My.lt_qv d1 d2, qv_self, qv_self]
  rw [← decide_eq_decide.mpr e]
  exact φ
theorem arl1' {B : Bk} {F : Hp} {vs : List V} {t : Tr} (h : ArL B F vs [.fz t]) : ∃ v, vs = [v] ∧ Is B.K F v t := by
  cases h with
  | cons a l => cases l; exact ⟨_, rfl, a⟩
def bkN (K : Fg) (F H : Hp) (a : Addr) : Bk where
  K := K
  F0 := F
  H0 := H
  W := fun _ => False
  J := fun _ => True
  rt := a
  jl := fun _ _ _ _ _ => trivial
  jm := fun _ _ _ h => h.elim
theorem bkN_ok {K : Fg} {H : Hp} {a : Addr} : BkOk (bkN K H H a) := ⟨Same.refl _, fun _ h => h.elim, fun _ h => h.elim, trivial⟩
theorem toSp_at {K : Fg} {S : SpT} {vs : List V} {H : Hp} {Q : VK} {E : XK} {a : Addr} {as : List Ar} {Φ : Kd → Prop} (la : ArL (bkN K H H a) H vs as) (s : S (bkN K H H a) as Φ fun _ => False) (q : ∀ v F' H' k, Same H H' → Same F' H' → Same H F' → RetOk (bkN K H H a) F' H' v k → Φ k → Q v H') : toSp K S vs H Q E :=
  ⟨bkN K H H a, as, Φ, fun _ => False, rfl, rfl, bkN_ok, la, s, fun v F' H' k u r p => q v F' H' k (fun p o e => u.h p o (fun h => h) e) u.i u.f r p, fun _ _ _ _ h => h.elim⟩
theorem d_go {B : Bk} {D : Ends} {t : TS} {τ : TSt} {n : Nat} {ts : List Ar} (h : startT n ts = τ) (q : SVD B D t τ) : SVD B D t (startT n ts) := by rw [h]; exact q
theorem open_at {K : Fg} {H : Hp} {vs : List V} {as : List Ar} {a : Addr} {D : Ends} {N : List Str} {t : TS} (la : ArL (bkN K H H a) H vs as) (h : SVD (bkN K H H a) D t (startT N.length as)) : t D (start N vs) H := h _ _ _ (rp_start (B := bkN K H H a) bkN_ok la)
theorem d_pair {B : Bk} {D : Ends} {τ : TSt} {i : Nat} {te : TE} {t : Tr} {Φ : List Tr → Prop} (g : Gt τ i (.fz t)) (h : EV B te τ fun k _ => ∃ ts, k = .nw (.lst ts) ∧ Φ ts)
    (hD : ∀ p v l F' H' ts, Up B B.F0 B.H0 F' H' → H' p = some (.tup [v, .ref l]) → Is B.K F' v t → Ow B.K F' H' l (.lst ts) → B.H0 l = none → Φ ts → D.rt (.ref p) H') : SVD B D (tRet (tTup (tCons (tVar i) (tCons te tNil)))) τ := fun σ F H r => by
  obtain ⟨v, e, iv⟩ := r.fz i _ g.eq
  refine ⟨v, e, ?_⟩
  refine h σ F H _ r fun w F1 H1 k τ1 f1 r1 ok1 n1 ⟨ts, ek, φ⟩ => ?_
  subst ek
  obtain ⟨l, rfl, ow, fl, nl, _⟩ := ok1
  refine ⟨show 2 ≤ sizeLine by decide, fun p hp => ?_⟩
  have u := r1.tup (vs := [v, .ref l]) hp
  exact hD p v l _ _ ts (r1.up.trans u) upd_same (iv.same (f1.f.trans u.f)) (ow.to u.f (fun o => u.h l o fun hw => r.wa l hw nl)) nl φ
def AxAt (K : Fg) (H H' : Hp) (x : V) (sc : Tr) (ts : List Tr) : Prop := ∃ p v l xs, x = .ref p ∧ H' p = some (.tup [v, .ref l]) ∧ H l = none ∧ H' l = some (.lst xs) ∧ IsL K H' xs ts ∧ Is K H' v sc
theorem AxAt.sub {K : Fg} {H0 H H' : Hp} {x : V} {sc : Tr} {ts : List Tr} (s : Same H0 H) (h : AxAt K H H' x sc ts) : AxAt K H0 H' x sc ts := by
  obtain ⟨p, v, l, xs, e, hp, n, hl, g, sa⟩ := h
  exact ⟨p, v, l, xs, e, hp, s.free n, hl, g, sa⟩
theorem rnd_qv {x y : Int} (hy : 0 < y) : rnd (My.qv x y) = (2 * x + y) / (2 * y) := by
  have hd : (0 : Int) < ((My.qv x y).den : Int) := Int.natCast_pos.mpr (My.qv x y).den_pos
  have e := My.eq_of_qv (a := (My.qv x y).num) (b := (My.qv x y).den) (t := x) (m := y) (by omega) (by omega) (qv_self _)
  unfold rnd
  generalize (My.qv x y).num = a at *
  generalize ((My.qv x y).den : Int) = b at *
  rw [← Int.mul_ediv_mul_of_pos_left (2 * a + b) (2 * b) hy, show (2 * a + b) * y = (2 * x + y) * b by rw [Int.add_mul, Int.add_mul, Int.mul_assoc, e, Int.mul_assoc, Int.mul_comm b y], show 2 * b * y = 2 * y * b by rw [Int.mul_assoc, Int.mul_comm b y, Int.mul_assoc], Int.mul_ediv_mul_of_pos_left _ _ hd]
theorem midZ {x : Int} (h1 : -1000000 ≤ x) (h2 : x ≤ 1000000) : Mid x := (show My.Bd 64 x by unfold My.Bd; omega).mono (by decide)
theorem d_seqN {B : Bk} {D : Ends} {s1 s2 : TS} {τ : TSt} (C : Prop) (hD : C → ∀ F' H', Up B B.F0 B.H0 F' H' → D.rt .non H') (h : SV B s1 τ ⟨fun τ' => SVD B D s2 τ', fun k => k = .fz .non ∧ C, fun _ => False, fun _ => False⟩) : SVD B D (tSeq s1 s2) τ := fun σ F H r =>
  h σ F H _ r ⟨fun σ' F' H' τ' _ r' h' => h' σ' F' H' r', fun v F' H' k u ok z => by
    obtain ⟨z, c⟩ := z
    subst z
    cases (show Is B.K F' v .non from ok)
    exact hD c F' H' u, fun _ _ _ _ _ _ z => z.elim, fun _ _ _ _ _ _ z => z.elim⟩
theorem d_fix {B : Bk} {D : Ends} {s : TS} {τ τ' : TSt} {k : Nat} {t : Tr} (g : Gt τ k (.own t)) (st : Sto τ k (.fz t) τ') (h : SVD B D s τ') : SVD B D s τ := fun σ F H r => by
  obtain ⟨F2, l, e', sF, r2, _⟩ := r.fixS g.eq
  rw [st.eq] at r2
  exact h σ F2 H r2
theorem lc_rng {os : List Tr} {n : Nat} {f : Nat → Tr} (hl : os.length = n) (h : ∀ (j : Nat) (o : Tr), os[j]? = some o → o = f j) : os = (List.range n).map f := by
  refine List.ext_getElem? fun j => ?_
  rw [List.getElem?_map]
  by_cases hj : j < n
  · rw [List.getElem?_range hj, List.getElem?_eq_getElem (by omega)]
    exact congrArg some (h j _ (List.getElem?_eq_getElem (by omega)))
  · rw [List.getElem?_eq_none (by omega), List.getElem?_eq_none (by rw [List.length_range]; omega)]
    rfl
theorem lc_maps {α : Type} {os : List Tr} {xs : List α} {f : α → Tr} (hl : os.length = xs.length) (h : ∀ (i : Nat) (o : Tr), os[i]? = some o → ∃ x, xs[i]? = some x ∧ o = f x) : os = xs.map f := by
  apply List.ext_getElem?
  intro i
  rw [List.getElem?_map]
  cases e : os[i]? with
  | none =>
    have : xs[i]? = none := by rw [List.getElem?_eq_none_iff] at e ⊢; omega
    rw [this]; rfl
  | some o =>
    obtain ⟨x, ex, rfl⟩ := h i o e
    rw [ex]; rfl
theorem some_map {α : Type} {g : α → Tr} : ∀ {xs : List α} {os : List (Option Tr)}, os.length = xs.length → (∀ (j : Nat) (o : Option Tr), os[j]? = some o → ∃ x, xs[j]? = some x ∧ o = some (g x)) → os.filterMap id = xs.map g
  | [], os, hl, _ => by rw [List.eq_nil_of_length_eq_zero hl]; rfl
  | x :: xs, [], hl, _ => by simp at hl
  | x :: xs, o :: os, hl, h => by
    obtain ⟨x', e, rfl⟩ := h 0 o rfl
    cases e
    have ih := some_map (g := g) (xs := xs) (os := os) (by simpa using hl) fun j o e => h (j + 1) o e
    show g x :: os.filterMap id = _
    rw [ih]
    rfl
theorem s_fix {B : Bk} {s : TS} {τ τ' : TSt} {D' : ET} {k : Nat} {t : Tr} (g : Gt τ k (.own t)) (st : Sto τ k (.fz t) τ') (h : SV B s τ' D') : SV B s τ D' := fun σ F H D r e => by
  obtain ⟨F2, l, e', sF, r2, _⟩ := r.fixS g.eq
  rw [st.eq] at r2
  exact h σ F2 H D r2 (e.on sF)
def mnV : List Int → Int
  | [] => 0
  | [x] => x
  | x :: r => if x ≤ mnV r then x else mnV r
theorem mnV_is : ∀ {ns : List Int}, ns ≠ [] → IsMin ns (mnV ns)
  | [], h => absurd rfl h
  | [x], _ => ⟨List.mem_cons_self, fun n hn => by rw [List.mem_singleton.mp hn]; exact Int.le_refl _⟩
  | x :: y :: r, _ => by
    have ih := mnV_is (ns := y :: r) (by simp)
    show IsMin _ (if x ≤ mnV (y :: r) then x else mnV (y :: r))
    split
    · rename_i c
      exact ⟨List.mem_cons_self, fun n hn => (List.mem_cons.mp hn).elim (fun e => by rw [e]; exact Int.le_refl _) fun e => Int.le_trans c (ih.2 n e)⟩
    · rename_i c
      exact ⟨List.mem_cons_of_mem _ ih.1, fun n hn => (List.mem_cons.mp hn).elim (fun e => by rw [e]; omega) fun e => ih.2 n e⟩
def st_widest : SpT := fun _ as Φ _ => ∃ ts : List Str, as = [.fz (.lst (ts.map Tr.str))] ∧ ts.length ≤ 1000 ∧ (∀ z ∈ ts, z.length ≤ 1000) ∧ Φ (.fz (.int (6 * lng ts)))
theorem okT_widest_of (T : Txt K mg t) : FnOk P w K mg base CX0 1 t.f_widest_of t.d_widest_of ["labels"] (toSp K st_widest) := by
  refine (ok_widest_of (P := P) (w := w) (base := base) T).imp fun vs H Q E h => ?_
  obtain ⟨B, as, Φ, Ψ, rfl, rfl, bk, la, ⟨ts, rfl, h1, h2, φ⟩, q, _⟩ := h
  obtain ⟨v, rfl, iv⟩ := arl1' la
  cases iv.same bk.i with
  | lst hs il =>
    rw [il.strs] at hs
    exact ⟨_, ts, rfl, ⟨hs, h1, h2⟩, fun H' sH => q (.int _) _ H' (.fz (.int _)) (upT bk rfl rfl sH) .int φ⟩
def wayS (up : Bool) : Str := if up = true then "upright" else "level"
def tfit (ls : List Str) (g : Rat) (up : Bool) : Bool := if up = true then !decide (g < My.qv 12 1) else decide (6 * lng ls ≤ 60) && !decide (g < My.qv (6 + 6 * lng ls) 1)
def st_tfit : SpT := fun _ as Φ _ => ∃ (ls : List Str) (g : Rat) (up : Bool), as = [.fz (.lst (ls.map Tr.str)), .fz (numT g), .fz (.str (wayS up))] ∧ ls.length ≤ 1000 ∧ (∀ z ∈ ls, z.length ≤ 1000) ∧ QN 1000 g ∧ Φ (.fz (.bl (tfit ls g up)))
theorem okT_labels_fit (T : Txt K mg t) : FnOk P w K mg base CX0 3 t.f_labels_fit t.d_labels_fit ["labels", "gap", "way"] (toSp K st_tfit) := by
  have G_widest_of := okT_widest_of (P := P) (w := w) (base := base) T
  have G_under := okT_under (P := P) (w := w) (base := base) T
  have G_number := okT_number (P := P) (w := w) (base := base) T
  obtain ⟨ds_number, DV_number, BD_number⟩ := T.b_number1
  refine T.F_labels_fit.ok sc_labels_fit (toSp_len (fun B as Φ Ψ h => by obtain ⟨_, _, _, rfl, _⟩ := h; rfl)) (fun cdv A outer s H vs Q E hr h => ?_)
  obtain ⟨B, as, Φ, Ψ, rfl, hS, hx, go⟩ := toSp_open h
  obtain ⟨ls, g, up, rfl, h2, h3, h4, φ⟩ := hS
  have b1 : My.Bd 64 1 := by unfold My.Bd; decide
  have b12 : My.Bd 64 12 := by unfold My.Bd; decide
  refine ⟨_, (psc (ps_if (pt_cmpR op_eq (pv 2) pe_str (nomark _)) (pso (ps_ret (pe_not (pe_call G_under (hr.mono (by decide)) rfl T.m_under T.k_under T.b_under .nil pass0 (pcn (pv 1) (pcn (pe_call G_number (hr.mono (by decide)) rfl T.m_number T.k_number BD_number DV_number passE0 (pcn (pe_glob (v := .int 12) rfl T.g_LEAST_UPRIGHT ⟨_, rfl⟩) pnl)) pnl)))))) pss_nil)
  (psc (ps_set (i := 3) sc_labels_fit.nd rfl (Or.inl rfl) (pe_call G_widest_of (hr.mono (by decide)) rfl T.m_widest_of T.k_widest_of T.b_widest_of .nil pass0 (pcn (pv 0) pnl)))
  (pso (ps_ret (pe_and (pe_cmpR op_le (pv 3) (pe_glob (v := .int 60) rfl T.g_WIDEST_LABEL ⟨_, rfl⟩) (nomark _)) (pe_one (pe_not (pe_call G_under (hr.mono (by decide)) rfl T.m_under T.k_under T.b_under .nil pass0 (pcn (pv 1) (pcn (pe_call G_number (hr.mono (by decide)) rfl T.m_number T.k_number BD_number DV_number passE0 (pcn (pe_op op_add (pe_glob (v := .int 6) rfl T.g_ROOM_BESIDE ⟨_, rfl⟩) (pv 3)) pnl)) pnl)))))))))), go _ _ (s_go (τ := [.fz _, .fz _, .fz _, .no]) rfl ?_)⟩
  unfold tfit at φ
  cases up with
  | true =>
    rw [if_pos rfl] at φ
    rw [show wayS true = "upright" from rfl]
    walk_at "trun"
    refine ite_t (by decide) ?_
    walk_at "trun"
    intro _ _
    refine a_num (n := 64) b12 b1 (by decide) (by decide) fun q1 => ?_
    walk_at "trun"
    intro _ _
    refine ⟨g, _, 1000, 64, rfl, h4, q1, by decide, ?_⟩
    walk_at "trun"
    exact φ
  | false =>
    rw [if_neg Bool.false_ne_true] at φ
    rw [show wayS false = "level" from rfl]
    walk_at "trun"
    refine ite_f (by decide) ?_
    walk_at "trun"
    intro _ _
    refine ⟨ls, rfl, h2, h3, ?_⟩
    walk_at "trun"
    by_cases c : 6 * lng ls ≤ 60
    · have bl : My.Bd 64 (6 + 6 * lng ls) := by
        have := lng_nn ls
        unfold My.Bd; omega
      rw [decide_eq_true c, Bool.true_and] at φ
      rw [decide_eq_true c]
      walk_at "trun"
      intro _ _
      refine a_num (n := 64) bl b1 (by decide) (by decide) fun q1 => ?_
      walk_at "trun"
      intro _ _
      refine ⟨g, _, 1000, 64, rfl, h4, q1, by decide, ?_⟩
      walk_at "trun"
      exact φ
    · rw [decide_eq_false c, Bool.false_and] at φ
      rw [decide_eq_false c]
      walk_at "trun"
      exact φ
theorem fit_up {ls : List Str} {len g : Int} (hg : 0 < g) : (tfit ls (My.qv len g) true = true) ↔ 12 * g ≤ len := by
  unfold tfit
  rw [if_pos rfl, Bool.not_eq_true', decide_eq_false_iff_not, My.lt_qv hg (by decide)]
  omega
theorem fit_lv {ls : List Str} {len g : Int} (hg : 0 < g) : (tfit ls (My.qv len g) false = true) ↔ lng ls ≤ 10 ∧ (6 + 6 * lng ls) * g ≤ len := by
  unfold tfit
  rw [if_neg Bool.false_ne_true, Bool.and_eq_true, decide_eq_true_eq, Bool.not_eq_true', decide_eq_false_iff_not, My.lt_qv hg (by decide), Int.mul_one]
  omega
def mB (n : Int) : Int := My.dayOf (n / 12) (n % 12 + 1) 1
theorem mB_next (n : Int) : mB (n + 1) = mB n + My.mlen (n / 12) (n % 12 + 1) := by
  unfold mB My.dayOf My.mlen
  rcases Int.lt_or_le (n % 12) 11 with z | z
  · rw [show (n + 1) / 12 = n / 12 by omega, show (n + 1) % 12 + 1 = n % 12 + 1 + 1 by omega, My.bf_next (by omega) (by omega)]
    omega
  · rw [show (n + 1) / 12 = n / 12 + 1 by omega, show (n + 1) % 12 + 1 = 1 by omega, show n % 12 + 1 = 12 by omega, My.ybeg_next, My.bf_first]
    have h := My.bf_next (L := My.leap (n / 12)) (m := 12) (by decide) (by decide)
    have h2 := My.bf_last (My.leap (n / 12))
    rw [show (12 : Int) + 1 = 13 from rfl] at h
    omega
theorem mB_step (n : Int) : mB n + 28 ≤ mB (n + 1) ∧ mB (n + 1) ≤ mB n + 31 := by
  rw [mB_next]
  have := My.ml_pos (L := My.leap (n / 12)) (m := n % 12 + 1) (by omega) (by omega)
  unfold My.mlen
  omega
theorem mB_far (n : Int) : ∀ k : Nat, mB n + 28 * (k : Int) ≤ mB (n + (k : Int))
  | 0 => by simp
  | k + 1 => by
    have h := mB_far n k
    have h2 := (mB_step (n + (k : Int))).1
    rw [show n + ((k + 1 : Nat) : Int) = n + (k : Int) + 1 by omega]
    omega
theorem mB_lt {a b : Int} (h : a < b) : mB a < mB b := by
  have := mB_far a (b - a).toNat
  rw [show a + ((b - a).toNat : Int) = b by omega] at this
  omega
theorem mB_le {a b : Int} (h : a ≤ b) : mB a ≤ mB b := by
  rcases Int.lt_or_le a b with z | z
  · exact Int.le_of_lt (mB_lt z)
  · rw [show a = b by omega]; exact Int.le_refl _
def MoIs (d n : Int) : Prop := mB n ≤ d ∧ d < mB (n + 1)
theorem MoIs.eq {d n m : Int} (h : MoIs d n) (g : MoIs d m) : n = m := by
  rcases Int.lt_or_le n m with z | z
  · have := mB_le (show n + 1 ≤ m by omega)
    have := h.2; have := g.1; omega
  · rcases Int.lt_or_le m n with y | y
    · have := mB_le (show m + 1 ≤ n by omega)
      have := g.2; have := h.1; omega
    · omega
open Classical in
def mO (d : Int) : Int := if h : ∃ n, MoIs d n then Classical.choose h else 0
theorem mO_is {d n : Int} (h : MoIs d n) : mO d = n := by
  unfold mO
  rw [dif_pos ⟨n, h⟩]
  exact (Classical.choose_spec (⟨n, h⟩ : ∃ n, MoIs d n)).eq h
theorem mo_valid {y m e : Int} (v : My.Valid y m e) : MoIs (My.dayOf y m e) (12 * y + m - 1) := by
  have h1 : mB (12 * y + m - 1) = My.dayOf y m 1 := by
    have := v.m1
    have := v.m2
    unfold mB
    rw [show (12 * y + m - 1) / 12 = y by omega, show (12 * y + m - 1) % 12 + 1 = m by omega]
  have h2 := mB_next (12 * y + m - 1)
  have h3 : My.mlen ((12 * y + m - 1) / 12) ((12 * y + m - 1) % 12 + 1) = My.mlen y m := by
    have := v.m1
    have := v.m2
    rw [show (12 * y + m - 1) / 12 = y by omega, show (12 * y + m - 1) % 12 + 1 = m by omega]
  have e1 := v.e1
  have e2 := v.e2
  unfold MoIs
  rw [h2, h1, h3]
  unfold My.dayOf
  omega
theorem cs_inj' {z w : Str} (h : My.cs z = My.cs w) : z = w := by
  show (⟨⟨My.cs z⟩⟩ : Str) = w
  rw [h]
open Classical in
def shD (d : Int) : Str := if h : ∃ z : Str, ∃ y m e, My.Valid y m e ∧ My.dayOf y m e = d ∧ My.cs z = My.dtx y.toNat m.toNat e.toNat then Classical.choose h else ""
theorem shD_is {d : Int} {z : Str} {y m e : Int} (v : My.Valid y m e) (h : My.dayOf y m e = d) (hz : My.cs z = My.dtx y.toNat m.toNat e.toNat) : shD d = z ∧ z.length = 10 := by
  have ex : ∃ z : Str, ∃ y m e, My.Valid y m e ∧ My.dayOf y m e = d ∧ My.cs z = My.dtx y.toNat m.toNat e.toNat := ⟨z, y, m, e, v, h, hz⟩
  have l : z.length = 10 := by rw [← My.cs_len, hz]; rfl
  refine ⟨?_, l⟩
  unfold shD
  rw [dif_pos ex]
  obtain ⟨y', m', e', v', h', hz'⟩ := Classical.choose_spec ex
  obtain ⟨rfl, rfl, rfl⟩ := v.inj v' (h.trans h'.symm)
  exact cs_inj' (hz'.trans hz.symm)
def sp_mof : Sp := fun vs H Q _ => ∃ d : Int, vs = [.int d] ∧ 0 ≤ d ∧ d ≤ 3652058 ∧ ∀ y m e, My.Valid y m e → My.dayOf y m e = d → ∀ H', Same H H' → Q (.int (12 * y + m - 1)) H'
theorem ok_month_of (T : Txt K mg t) : FnOk P w K mg base CX0 4 t.f_month_of t.d_month_of ["day"] (sp_mof) := by
  have G_parts_of := ok_parts_of (P := P) (w := w) (base := base) T
  refine T.F_month_of.ok sc_month_of (fun vs H Q E h => ?_) (fun cdv A outer s H vs Q E hr h => ?_)
  · obtain ⟨d, rfl, _⟩ := h
    rfl
  obtain ⟨d, rfl, d0, d1, q⟩ := h
  refine ⟨_, (psc (ps_set (i := 1) sc_month_of.nd rfl (Or.inl rfl) (pe_call G_parts_of (hr.mono (by decide)) rfl T.m_parts_of T.k_parts_of T.b_parts_of .nil pass0 (pcn (pv 0) pnl)))
  (pso (ps_ret (pe_op op_sub (pe_op op_add (pe_op op_mulB pei (pe_ix ixt (pv 1) pei (fun _ _ => rfl))) (pe_ix ixt (pv 1) pei (fun _ _ => rfl))) pei)))), z_go (σ := [some _, none]) rfl ?_⟩
  walk_at "run"
  rename_i p H1 y1 m1 e1 s1 hp v1 ed
  have vy := v1.y1
  have vy2 := v1.y2
  walk_at "run"
  exact q _ _ _ v1 ed _ s1
def st_mof : SpT := fun _ as Φ _ => ∃ d : Int, as = [.fz (.int d)] ∧ 0 ≤ d ∧ d ≤ 3652058 ∧ ∀ n, MoIs d n → 12 ≤ n → n ≤ 119999 → Φ (.fz (.int n))
theorem okT_month_of (T : Txt K mg t) : FnOk P w K mg base CX0 4 t.f_month_of t.d_month_of ["day"] (toSp K st_mof) := by
  refine (ok_month_of (P := P) (w := w) (base := base) T).imp fun vs H Q E h => ?_
  obtain ⟨B, as, Φ, Ψ, rfl, rfl, bk, la, ⟨d, rfl, d0, d1, φ⟩, q, _⟩ := h
  obtain ⟨v, rfl, iv⟩ := arl1' la
  cases iv
  exact ⟨d, rfl, d0, d1, fun y m e v ed H' sH => q (.int _) _ H' (.fz (.int _)) (upT bk rfl rfl sH) .int (φ _ (by rw [← ed]; exact mo_valid v) (by have := v.y1; have := v.m1; omega) (by have := v.y2; have := v.m2; omega))⟩
def st_mbeg : SpT := fun _ as Φ _ => ∃ n : Int, as = [.fz (.int n)] ∧ 12 ≤ n ∧ n ≤ 119999 ∧ Φ (.fz (.int (mB n)))
theorem okT_month_begin (T : Txt K mg t) : FnOk P w K mg base CX0 4 t.f_month_begin t.d_month_begin ["month"] (toSp K st_mbeg) := by
  refine (ok_month_begin (P := P) (w := w) (base := base) T).imp fun vs H Q E h => ?_
  obtain ⟨B, as, Φ, Ψ, rfl, rfl, bk, la, ⟨n, rfl, n0, n1, φ⟩, q, _⟩ := h
  obtain ⟨v, rfl, iv⟩ := arl1' la
  cases iv
  exact ⟨n / 12, n % 12 + 1, by congr 2; omega, by omega, by omega, by omega, by omega, fun H' sH => q (.int _) _ H' (.fz (.int _)) (upT bk rfl rfl sH) .int φ⟩
def st_sday : SpT := fun _ as Φ _ => ∃ d : Int, as = [.fz (.int d)] ∧ 0 ≤ d ∧ d ≤ 3652058 ∧ ((shD d).length = 10 → Φ (.fz (.str (shD d))))
theorem okT_show_day (T : Txt K mg t) : FnOk P w K mg base CX0 4 t.f_show_day t.d_show_day ["day"] (toSp K st_sday) := by
  refine (ok_show_day (P := P) (w := w) (base := base) T).imp fun vs H Q E h => ?_
  obtain ⟨B, as, Φ, Ψ, rfl, rfl, bk, la, ⟨d, rfl, d0, d1, φ⟩, q, _⟩ := h
  obtain ⟨v, rfl, iv⟩ := arl1' la
  cases iv
  refine ⟨d, rfl, d0, d1, fun z H' y m e sH v ed hz => ?_⟩
  obtain ⟨e1, e2⟩ := shD_is v ed hz
  subst e1
  exact q (.str _) _ H' (.fz (.str _)) (upT bk rfl rfl sH) .str (φ e2)
def st_befI : SpT := fun _ as Φ _ => ∃ x y : Int, as = [.fz (.int x), .fz (.int y)] ∧ Φ (.fz (.bl (decide (x < y))))
theorem okT_comes_before (T : Txt K mg t) : FnOk P w K mg base CX0 2 t.f_comes_before t.d_comes_before ["one", "other"] (toSp K st_befI) := by
  refine T.F_comes_before.ok sc_comes_before (toSp_len (fun B as Φ Ψ h => by obtain ⟨_, _, rfl, _⟩ := h; rfl)) (fun cdv A outer s H vs Q E hr h => ?_)
  have G_under := okT_under (P := P) (w := w) (base := base) T
  obtain ⟨B, as, Φ, Ψ, rfl, hS, hx, go⟩ := toSp_open h
  obtain ⟨x, y, rfl, φ⟩ := hS
  refine ⟨_, (psc (ps_if (pt_val (pe_isi isi_tuple rfl rfl T.z_isinstance T.z_tuple bt_tuple (pv 0))) (pso (ps_ret (pe_call G_under (hr.mono (by decide)) rfl T.m_under T.k_under T.b_under .nil pass0 (pcn (pv 0) (pcn (pv 1) pnl))))) pss_nil)
  (pso (ps_ret (pe_cmpR op_lt (pv 0) (pv 1) (nomark _))))), go _ _ (s_go (τ := [.fz _, .fz _]) rfl ?_)⟩
  walk_at "trun"
  exact φ
def st_lstI : SpT := fun _ as Φ _ => ∃ ns : List Int, as = [.fz (.lst (ns.map Tr.int))] ∧ ns ≠ [] ∧ ∀ m, IsMin ns m → Φ (.fz (.int m))
theorem okT_least_of (T : Txt K mg t) : FnOk P w K mg base CX0 3 t.f_least_of t.d_least_of ["cells"] (toSp K st_lstI) := by
  have G_comes_before := okT_comes_before (P := P) (w := w) (base := base) T
  refine T.F_least_of.ok sc_least_of (toSp_len (fun B as Φ Ψ h => by obtain ⟨_, rfl, _⟩ := h; rfl)) (fun cdv A outer s H vs Q E hr h => ?_)
  obtain ⟨B, as, Φ, Ψ, rfl, hS, hx, go⟩ := toSp_open h
  obtain ⟨cs, rfl, hne, φ⟩ := hS
  obtain ⟨c0, r, rfl⟩ := List.exists_cons_of_ne_nil hne
  refine ⟨_, (psc (ps_set (i := 1) sc_least_of.nd rfl (Or.inl rfl) (pe_ix ixl (pv 0) pei (fun _ _ => rfl)))
  (psc (ps_for PassesOwn.never rfl (pi_list (pv 0)) (pg_name (i := 2) sc_least_of.nd rfl (Or.inl rfl)) (pso (ps_if (pt_val (pe_call G_comes_before (hr.mono (by decide)) rfl T.m_comes_before T.k_comes_before T.b_comes_before .nil pass0 (pcn (pv 2) (pcn (pv 1) pnl)))) (pso (ps_set (i := 1) sc_least_of.nd rfl (Or.inl rfl) (pv 2))) pss_nil)))
  (pso (ps_ret (pv 1))))), go _ _ (s_go (τ := [.fz _, .no, .no]) rfl ?_)⟩
  walk_at "trun"
  refine ro_ixL rfl Rk.fz (atI_nat (j := 0) (v := Tr.int c0) rfl) ?_
  walk_at "trun"
  refine ⟨fun i τ => ∃ (m : Int) (u : Sl), τ = [.fz (.lst ((c0 :: r).map Tr.int)), .fz (.int m), u] ∧ m ∈ c0 :: r ∧ ∀ (j : Nat) (c : Int), j < i → (c0 :: r)[j]? = some c → m ≤ c, ⟨c0, _, rfl, List.mem_cons_self, fun j c h => absurd h (Nat.not_lt_zero _)⟩, ?_, ?_⟩
  · rintro i tt τ hi ⟨m, u, rfl, hm, hle⟩
    obtain ⟨c, hc, rfl⟩ := of_map_at hi
    have hcm := List.mem_of_getElem? hc
    walk_at "trun"
    intro _ _
    refine ⟨c, m, rfl, ?_⟩
    walk_at "trun"
    refine z_iteD (fun l => ?_) (fun l => ?_)
    · walk_at "trun"
      refine ⟨c, _, rfl, hcm, fun j c' hj hc' => ?_⟩
      rcases Nat.lt_or_ge j i with z | z
      · have := hle j c' z hc'; omega
      · have : j = i := by omega
        subst this
        rw [hc] at hc'
        cases hc'
        exact Int.le_refl _
    · walk_at "trun"
      refine ⟨m, _, rfl, hm, fun j c' hj hc' => ?_⟩
      rcases Nat.lt_or_ge j i with z | z
      · exact hle j c' z hc'
      · have : j = i := by omega
        subst this
        rw [hc] at hc'
        cases hc'
        omega
  · rintro τ ⟨m, u, rfl, hm, hle⟩
    rw [List.length_map] at hle
    walk_at "trun"
    refine φ m ⟨hm, fun c hc => ?_⟩
    obtain ⟨j, hj, e⟩ := List.getElem_of_mem hc
    exact hle j c hj (by rw [List.getElem?_eq_getElem hj, e])
def st_grtI : SpT := fun _ as Φ _ => ∃ ns : List Int, as = [.fz (.lst (ns.map Tr.int))] ∧ ns ≠ [] ∧ ∀ m, IsMax ns m → Φ (.fz (.int m))
theorem okT_greatest_of (T : Txt K mg t) : FnOk P w K mg base CX0 3 t.f_greatest_of t.d_greatest_of ["cells"] (toSp K st_grtI) := by
  have G_comes_before := okT_comes_before (P := P) (w := w) (base := base) T
  refine T.F_greatest_of.ok sc_greatest_of (toSp_len (fun B as Φ Ψ h => by obtain ⟨_, rfl, _⟩ := h; rfl)) (fun cdv A outer s H vs Q E hr h => ?_)
  obtain ⟨B, as, Φ, Ψ, rfl, hS, hx, go⟩ := toSp_open h
  obtain ⟨cs, rfl, hne, φ⟩ := hS
  obtain ⟨c0, r, rfl⟩ := List.exists_cons_of_ne_nil hne
  refine ⟨_, (psc (ps_set (i := 1) sc_greatest_of.nd rfl (Or.inl rfl) (pe_ix ixl (pv 0) pei (fun _ _ => rfl)))
  (psc (ps_for PassesOwn.never rfl (pi_list (pv 0)) (pg_name (i := 2) sc_greatest_of.nd rfl (Or.inl rfl)) (pso (ps_if (pt_val (pe_call G_comes_before (hr.mono (by decide)) rfl T.m_comes_before T.k_comes_before T.b_comes_before .nil pass0 (pcn (pv 1) (pcn (pv 2) pnl)))) (pso (ps_set (i := 1) sc_greatest_of.nd rfl (Or.inl rfl) (pv 2))) pss_nil)))
  (pso (ps_ret (pv 1))))), go _ _ (s_go (τ := [.fz _, .no, .no]) rfl ?_)⟩
  walk_at "trun"
  refine ro_ixL rfl Rk.fz (atI_nat (j := 0) (v := Tr.int c0) rfl) ?_
  walk_at "trun"
  refine ⟨fun i τ => ∃ (m : Int) (u : Sl), τ = [.fz (.lst ((c0 :: r).map Tr.int)), .fz (.int m), u] ∧ m ∈ c0 :: r ∧ ∀ (j : Nat) (c : Int), j < i → (c0 :: r)[j]? = some c → c ≤ m, ⟨c0, _, rfl, List.mem_cons_self, fun j c h => absurd h (Nat.not_lt_zero _)⟩, ?_, ?_⟩
  · rintro i tt τ hi ⟨m, u, rfl, hm, hle⟩
    obtain ⟨c, hc, rfl⟩ := of_map_at hi
    have hcm := List.mem_of_getElem? hc
    walk_at "trun"
    intro _ _
    refine ⟨m, c, rfl, ?_⟩
    walk_at "trun"
    refine z_iteD (fun l => ?_) (fun l => ?_)
    · walk_at "trun"
      refine ⟨c, _, rfl, hcm, fun j c' hj hc' => ?_⟩
      rcases Nat.lt_or_ge j i with z | z
      · have := hle j c' z hc'; omega
      · have : j = i := by omega
        subst this
        rw [hc] at hc'
        cases hc'
        exact Int.le_refl _
    · walk_at "trun"
      refine ⟨m, _, rfl, hm, fun j c' hj hc' => ?_⟩
      rcases Nat.lt_or_ge j i with z | z
      · exact hle j c' z hc'
      · have : j = i := by omega
        subst this
        rw [hc] at hc'
        cases hc'
        omega
  · rintro τ ⟨m, u, rfl, hm, hle⟩
    rw [List.length_map] at hle
    walk_at "trun"
    refine φ m ⟨hm, fun c hc => ?_⟩
    obtain ⟨j, hj, e⟩ := List.getElem_of_mem hc
    exact hle j c hj (by rw [List.getElem?_eq_getElem hj, e])
def dayT (a b len : Int) : Tr := .tup [.str "days", .int a, .int b, .int len]
structure DayOk (a b len : Int) : Prop where
  a0 : 0 ≤ a
  lt : a < b
  b1 : b ≤ 4000000
  l0 : 0 ≤ len
  l1 : len ≤ 1000000
def st_pday : SpT := fun _ as Φ _ => ∃ (a b len c : Int), as = [.fz (dayT a b len), .fz (.int c)] ∧ DayOk a b len ∧ a ≤ c ∧ c ≤ b ∧ (QN 64 (My.qv ((c - a) * len) (b - a)) → Φ (.fz (numT (My.qv ((c - a) * len) (b - a)))))
theorem okT_place_on_days (T : Txt K mg t) : FnOk P w K mg base CX0 3 t.f_place_on_days t.d_place_on_days ["scale", "cell"] (toSp K st_pday) := by
  have G_number := okT_number (P := P) (w := w) (base := base) T
  refine T.F_place_on_days.ok sc_place_on_days (toSp_len (fun B as Φ Ψ h => by obtain ⟨_, _, _, _, rfl, _⟩ := h; rfl)) (fun cdv A outer s H vs Q E hr h => ?_)
  obtain ⟨B, as, Φ, Ψ, rfl, hS, hx, go⟩ := toSp_open h
  obtain ⟨a, b, len, c, rfl, ok, h1, h2, φ⟩ := hS
  obtain ⟨a0, lt, b1, l0, l1⟩ := ok
  have m1 : Mid (c - a) := (show My.Bd 64 _ by unfold My.Bd; omega).mono (by decide)
  have m2 : Mid len := midZ (by omega) (by omega)
  have bd : My.Bd 64 ((c - a) * len) := (show My.Bd 30 (c - a) by unfold My.Bd; omega).mul (show My.Bd 30 len by unfold My.Bd; omega) |>.mono (by decide)
  refine ⟨_, (psc (ps_if (pt_not (pt_chain op_le op_le (pe_ix ixt (pv 0) pei (fun _ _ => rfl)) (pv 1) (pe_ix ixt (pv 0) pei (fun _ _ => rfl)))) (pso (ps_ret pe_str)) pss_nil)
  (pso (ps_ret (pe_call G_number (hr.mono (by decide)) rfl T.m_number T.k_number T.b_number .nil passE0 (pcn (pe_op op_mulB (pe_op op_sub (pv 1) (pe_ix ixt (pv 0) pei (fun _ _ => rfl))) (pe_ix ixt (pv 0) pei (fun _ _ => rfl))) (pcn (pe_op op_sub (pe_ix ixt (pv 0) pei (fun _ _ => rfl)) (pe_ix ixt (pv 0) pei (fun _ _ => rfl))) pnl)))))), go _ _ (s_go (τ := [.fz _, .fz _]) rfl ?_)⟩
  unfold dayT
  walk_at "trun"
  refine ite_t (decide_eq_true (by omega)) ?_
  walk_at "trun"
  refine ite_t (decide_eq_true (by omega)) ?_
  walk_at "trun"
  intro _ _
  refine a_num (n := 64) (t := (c - a) * len) (m := b - a) bd (by unfold My.Bd; omega) (by decide) (by omega) fun q1 => ?_
  walk_at "trun"
  exact φ q1
def st_pon : SpT := st_pday
theorem okT_place_on (T : Txt K mg t) : FnOk P w K mg base CX0 6 t.f_place_on t.d_place_on ["scale", "cell"] (toSp K st_pon) := by
  have G_place_on_days := okT_place_on_days (P := P) (w := w) (base := base) T
  refine T.F_place_on.ok sc_place_on (toSp_len (fun B as Φ Ψ h => by obtain ⟨_, _, _, _, rfl, _⟩ := h; rfl)) (fun cdv A outer s H vs Q E hr h => ?_)
  obtain ⟨B, as, Φ, Ψ, rfl, hS, hx, go⟩ := toSp_open h
  obtain ⟨a, b, len, c, rfl, ok, h1, h2, φ⟩ := hS
  refine ⟨_, (psc (ps_if (pt_cmpR op_isN' (pv 1) pe_non (nomark _)) (pso (ps_ret pe_str)) pss_nil)
  (psc (ps_if (pt_cmpR op_eq (pe_ix ixt (pv 0) pei (fun _ _ => rfl)) pe_str (nomark _)) (pso ps_never) pss_nil)
  (psc (ps_if (pt_cmpR op_eq (pe_ix ixt (pv 0) pei (fun _ _ => rfl)) pe_str (nomark _)) (pso ps_never) pss_nil)
  (psc (ps_if (pt_cmpR op_eq (pe_ix ixt (pv 0) pei (fun _ _ => rfl)) pe_str (nomark _)) (pso ps_never) pss_nil)
  (psc (ps_if (pt_cmpR op_eq (pe_ix ixt (pv 0) pei (fun _ _ => rfl)) pe_str (nomark _)) (pso (ps_ret (pe_call G_place_on_days (hr.mono (by decide)) rfl T.m_place_on_days T.k_place_on_days T.b_place_on_days .nil pass0 (pcn (pv 0) (pcn (pv 1) pnl))))) pss_nil)
  (pso ps_never)))))), go _ _ (s_go (τ := [.fz _, .fz _]) rfl ?_)⟩
  unfold dayT at *
  walk_at "trun"
  refine ite_f (by decide) ?_
  walk_at "trun"
  refine ite_f (by decide) ?_
  walk_at "trun"
  refine ite_f (by decide) ?_
  walk_at "trun"
  refine ite_t (by decide) ?_
  walk_at "trun"
  intro _ _
  refine ⟨a, b, len, c, rfl, ok, h1, h2, fun qn => ?_⟩
  walk_at "trun"
  exact φ qn
def tckD (a b len c : Int) : Tr := .tup [.int ((2 * ((c - a) * len) + (b - a)) / (2 * (b - a))), .str (shD c)]
def sp_ticks (K : Fg) : Sp := fun vs H Q _ => ∃ (sv cv lv : V) (a b len : Int) (cs : List Int), vs = [sv, cv, lv] ∧ Is K H sv (dayT a b len) ∧ Is K H cv (.lst (cs.map Tr.int)) ∧ Is K H lv (.lst (cs.map fun c => .str (shD c))) ∧ DayOk a b len ∧ (∀ c ∈ cs, a ≤ c ∧ c ≤ b) ∧ cs.length ≤ 1000 ∧ ∀ x H', Same H H' → AxAt K H H' x (dayT a b len) (cs.map (tckD a b len)) → Q x H'
theorem ok_with_ticks (T : Txt K mg t) : FnOk P w K mg base CX0 7 t.f_with_ticks t.d_with_ticks ["scale", "cells", "labels"] (sp_ticks K) := by
  have G_rounded := okT_rounded (P := P) (w := w) (base := base) T
  have G_place_on := okT_place_on (P := P) (w := w) (base := base) T
  refine T.F_with_ticks.ok sc_with_ticks (fun vs H Q E h => ?_) (fun cdv A outer s H vs Q E hr h => ?_)
  · obtain ⟨_, _, _, _, _, _, _, rfl, _⟩ := h
    rfl
  obtain ⟨sv, cv, lv, a, b, len, cs, rfl, i1, i2, i3, ok, hc, hl, q⟩ := h
  refine ⟨_, (pso (ps_ret (pe_tup (pcn (pv 0) (pcn (pe_lcP (fr := [("scale", 0)]) rfl (compOkG2_of (osc := defScope s_with_ticks) (N := ["scale", "cells", "labels"]) rfl rfl (by decide +kernel) (by decide +kernel) (by decide)) (pi_zip rfl T.z_zip (pcn (pv 1) (pcn (pv 2) pnl))) (fun _ _ _ _ _ => (pe_tup (pcn (pe_call G_rounded (hr.mono (by decide)) rfl T.m_rounded T.k_rounded T.b_rounded .nil pass0 (pcn (pe_call G_place_on (hr.mono (by decide)) rfl T.m_place_on T.k_place_on T.b_place_on .nil pass0 (pcn (pv 2) (pcn (pv 0) pnl))) pnl)) (pcn (pv 1) pnl))))) pnl))))), ?_⟩
  refine open_at (K := K) (a := (0 : Nat)) (as := [.fz (dayT a b len), .fz (.lst (cs.map Tr.int)), .fz (.lst (cs.map fun c => Tr.str (shD c)))]) (.cons i1 (.cons i2 (.cons i3 .nil))) ?_
  refine d_go (τ := [.fz (dayT a b len), .fz (.lst (cs.map Tr.int)), .fz (.lst (cs.map fun c => Tr.str (shD c)))]) rfl ?_
  refine d_pair (t := dayT a b len) (Φ := fun ts => ts = cs.map (tckD a b len)) (by walk_at "tg") ?_ (fun p' v l F' H' ts u hp iv ow nl e' => ?_)
  · refine e_lcP rfl (i_zip rfl ?_)
    walk_at "trun"
    refine ⟨_, cs.map Tr.int, _, cs.map (fun c => Tr.str (shD c)), rfl, rfl, [.fz (dayT a b len)], by repeat (first | exact .nil | refine .fz (by walk_at "tg") ?_), by rw [zip2T_len, List.length_map, List.length_map]; omega, fun j o => ∃ c, cs[j]? = some c ∧ o = some (tckD a b len c), fun j tt ht => ?_, fun os hl2 ho => ⟨_, rfl, some_map (by rw [hl2, zip2T_len, List.length_map, List.length_map]; omega) ho⟩⟩
    obtain ⟨x, y, ex, ey, rfl⟩ := zip2T_at _ _ j tt ht
    obtain ⟨c, hc1, rfl⟩ := of_map_at ex
    obtain ⟨c', hc2, rfl⟩ := of_map_at ey
    rw [hc1] at hc2
    cases hc2
    obtain ⟨q2, q3⟩ := hc c (List.mem_of_getElem? hc1)
    refine ⟨_, _, rfl, ?_⟩
    walk_at "trun"
    intro _ _
    refine ⟨a, b, len, c, rfl, ok, q2, q3, fun q4 => ?_⟩
    walk_at "trun"
    intro _ _
    refine ⟨_, _, rfl, q4, by decide, ?_⟩
    walk_at "trun"
    rw [rnd_qv (by have := ok.lt; omega)]
    exact ⟨c, hc1, rfl⟩
  · have sH : Same H H' := fun p o e => u.h p o (fun h => h) e
    subst e'
    cases ow with
    | lst h g => exact q _ H' sH ⟨p', v, l, _, rfl, hp, nl, h, g.same u.i, iv.same u.i⟩
theorem midY {x : Int} (h1 : -1000000000000000 ≤ x) (h2 : x ≤ 1000000000000000) : Mid x := (show My.Bd 64 x by unfold My.Bd; omega).mono (by decide)
theorem mB_lo : mB 12000 = 364877 := by decide
theorem mB_hi : mB 108000 = 3286817 := by decide
structure DIn (d : Int) : Prop where
  a : 364877 ≤ d
  b : d < 3286817
theorem mo_find {d : Int} : ∀ k : Nat, mB 12000 ≤ d → d < mB (12000 + (k : Int)) → ∃ n, 12000 ≤ n ∧ n < 12000 + (k : Int) ∧ MoIs d n
  | 0, h, g => by simp at g; omega
  | k + 1, h, g => by
    rcases Int.lt_or_le d (mB (12000 + (k : Int))) with z | z
    · obtain ⟨n, h1, h2, h3⟩ := mo_find k h z
      exact ⟨n, h1, by omega, h3⟩
    · exact ⟨12000 + (k : Int), by omega, by omega, z, by rw [show 12000 + ((k + 1 : Nat) : Int) = 12000 + (k : Int) + 1 by omega] at g; exact g⟩
theorem mO_ok {d : Int} (h : DIn d) : 12000 ≤ mO d ∧ mO d ≤ 107999 ∧ MoIs d (mO d) := by
  obtain ⟨n, h1, h2, h3⟩ := mo_find (d := d) 96000 (by rw [mB_lo]; exact h.a) (by rw [show (12000 : Int) + ((96000 : Nat) : Int) = 108000 from rfl, mB_hi]; exact h.b)
  rw [mO_is h3]
  exact ⟨h1, by omega, h3⟩
def unitS (mo : Bool) : Str := if mo = true then "months" else "days"
def loV (mo : Bool) (d : Int) : Int := if mo = true then mO d else d
def hiV (mo : Bool) (d : Int) : Int := if mo = true then (if mB (mO d) = d then mO d else mO d + 1) else d
def mxV (i j : Int) : Int := if j > i then j else i
def aV (mo : Bool) (m lo : Int) : Int := loV mo lo / m
def bV (mo : Bool) (m lo hi : Int) : Int := mxV (aV mo m lo + 1) (-(-hiV mo hi / m))
def fV (mo : Bool) (n : Int) : Int := if mo = true then mB n else n
def StepOk (mo : Bool) (m : Int) : Prop := (mo = false ∧ (m = 1 ∨ m = 7)) ∨ (mo = true ∧ (m = 1 ∨ m = 3 ∨ m = 12 ∨ m = 120 ∨ m = 1200 ∨ m = 12000))
structure DOk (lo hi : Int) : Prop where
  l : DIn lo
  h : DIn hi
  le : lo ≤ hi
theorem hi_le {mo : Bool} {hi : Int} (h : DIn hi) : (mo = true → 12000 ≤ hiV mo hi ∧ hiV mo hi ≤ 108000) ∧ (mo = false → hiV mo hi = hi) := by
  obtain ⟨h1, h2, _⟩ := mO_ok h
  constructor
  · rintro rfl
    unfold hiV
    rw [if_pos rfl]
    split <;> omega
  · rintro rfl
    rfl
theorem ab_ok {mo : Bool} {m lo hi : Int} (s : StepOk mo m) (d : DOk lo hi) : 0 < m ∧ m ≤ 12000 ∧ aV mo m lo < bV mo m lo hi ∧ (mo = true → 12000 ≤ m * aV mo m lo ∧ m * bV mo m lo hi ≤ 108000) ∧ (mo = false → 364000 ≤ m * aV mo m lo ∧ m * bV mo m lo hi ≤ 3287000) := by
  obtain ⟨h1, h2, _⟩ := mO_ok d.l
  obtain ⟨k1, k2⟩ := hi_le (mo := mo) d.h
  have l1 := d.l.a
  have l2 := d.h.b
  have l3 := d.le
  have l4 := d.l.b
  have lt : aV mo m lo < bV mo m lo hi := by unfold bV mxV; split <;> omega
  refine ⟨by unfold StepOk at s; omega, by unfold StepOk at s; omega, lt, ?_, ?_⟩
  · rintro rfl
    have k1 := k1 rfl
    unfold bV mxV aV loV
    rw [if_pos rfl]
    generalize hiV true hi = h at *
    generalize mO lo = l at *
    unfold StepOk at s
    rcases s with ⟨s, _⟩ | ⟨_, s⟩
    · cases s
    · rcases s with rfl | rfl | rfl | rfl | rfl | rfl <;> (split <;> omega)
  · rintro rfl
    have k2 := k2 rfl
    unfold bV mxV aV loV
    rw [if_neg Bool.false_ne_true, k2]
    unfold StepOk at s
    rcases s with ⟨_, s⟩ | ⟨s, _⟩
    · rcases s with rfl | rfl <;> (split <;> omega)
    · cases s
def st_dab : SpT := fun _ as Φ _ => ∃ (mo : Bool) (m lo hi : Int), as = [.fz (.str (unitS mo)), .fz (.int m), .fz (.int lo), .fz (.int hi)] ∧ StepOk mo m ∧ DOk lo hi ∧ Φ (.fz (.tup [.int (m * aV mo m lo), .int (m * bV mo m lo hi)]))
theorem okT_days_about (T : Txt K mg t) : FnOk P w K mg base CX0 5 t.f_days_about t.d_days_about ["unit", "many", "least", "greatest"] (toSp K st_dab) := by
  have G_month_of := okT_month_of (P := P) (w := w) (base := base) T
  have G_month_begin := okT_month_begin (P := P) (w := w) (base := base) T
  refine T.F_days_about.ok sc_days_about (toSp_len (fun B as Φ Ψ h => by obtain ⟨_, _, _, _, rfl, _⟩ := h; rfl)) (fun cdv A outer s H vs Q E hr h => ?_)
  obtain ⟨B, as, Φ, Ψ, rfl, hS, hx, go⟩ := toSp_open h
  obtain ⟨mo, m, lo, hi, rfl, sok, dok, φ⟩ := hS
  obtain ⟨m0, m1, lt, k1, k2⟩ := ab_ok sok dok
  obtain ⟨a1, a2, a3⟩ := mO_ok dok.l
  obtain ⟨b1, b2, b3⟩ := mO_ok dok.h
  have l1 := dok.l.a
  have l2 := dok.h.b
  have l3 := dok.le
  have l4 := dok.l.b
  have mm : Mid m := midY (by omega) (by omega)
  have key : ∀ (x : Int), 0 ≤ x → x ≤ 10000000 → 0 ≤ x / m ∧ x / m ≤ 10000000 ∧ -10000000 ≤ -x / m ∧ -x / m ≤ 10000000 := fun x x0 x1 => by
    have e1 := Int.ediv_nonneg x0 (show 0 ≤ m by omega)
    have e2 := Int.ediv_le_self m x0
    have e3 := Int.ediv_mul_le (-x) (show m ≠ 0 by omega)
    have e4 : -x / m ≤ 0 := by
      rcases Int.lt_or_le 0 (-x / m) with z | z
      · have := Int.mul_pos z m0; omega
      · exact z
    have e5 : -10000000 ≤ -x / m := by
      rw [Int.le_ediv_iff_mul_le m0]
      have : -10000000 * m ≤ -10000000 * 1 := Int.mul_le_mul_of_nonpos_left (by omega) (by omega)
      omega
    omega
  refine ⟨_, (psc (ps_set (i := 4) sc_days_about.nd rfl (Or.inl rfl) (pv 2))
  (psc (ps_set (i := 5) sc_days_about.nd rfl (Or.inl rfl) (pv 3))
  (psc (ps_if (pt_cmpR op_eq (pv 0) pe_str (nomark _)) (psc (ps_set (i := 4) sc_days_about.nd rfl (Or.inl rfl) (pe_call G_month_of (hr.mono (by decide)) rfl T.m_month_of T.k_month_of T.b_month_of .nil pass0 (pcn (pv 2) pnl)))
  (psc (ps_set (i := 5) sc_days_about.nd rfl (Or.inl rfl) (pe_call G_month_of (hr.mono (by decide)) rfl T.m_month_of T.k_month_of T.b_month_of .nil pass0 (pcn (pv 3) pnl)))
  (pso (ps_if (pt_cmpR op_ne (pe_call G_month_begin (hr.mono (by decide)) rfl T.m_month_begin T.k_month_begin T.b_month_begin .nil pass0 (pcn (pv 5) pnl)) (pv 3) (nomark _)) (pso (ps_aug (i := 5) sc_days_about.nd rfl (Or.inl rfl) pei ip_add)) pss_nil)))) pss_nil)
  (psc (ps_set (i := 6) sc_days_about.nd rfl (Or.inl rfl) (pe_op op_fdivB (pv 4) (pv 1)))
  (pso (ps_ret (pe_tup (pcn (pe_op op_mulB (pv 1) (pv 6)) (pcn (pe_op op_mulB (pv 1) (pe_callB (call_max2 rfl) rfl T.z_max bt_max (pcn (pe_op op_add (pv 6) pei) (pcn (pe_un un_neg (pe_op op_fdivB (pe_un un_neg (pv 5)) (pv 1))) pnl)))) pnl))))))))), go _ _ (s_go (τ := [.fz _, .fz _, .fz _, .fz _, .no, .no, .no]) rfl ?_)⟩
  unfold bV aV loV hiV mxV at φ
  cases mo with
  | false =>
    rw [if_neg Bool.false_ne_true, if_neg Bool.false_ne_true] at φ
    rw [show unitS false = "days" from rfl]
    obtain ⟨x1, x2, x3, x4⟩ := key lo (by omega) (by omega)
    obtain ⟨y1, y2, y3, y4⟩ := key hi (by omega) (by omega)
    have n1 : Mid lo := midY (by omega) (by omega)
    have n2 : Mid hi := midY (by omega) (by omega)
    have n3 : Mid (-hi) := midY (by omega) (by omega)
    have n4 : Mid (lo / m) := midY (by omega) (by omega)
    have n5 : Mid (if -(-hi / m) > lo / m + 1 then -(-hi / m) else lo / m + 1) := by split <;> exact midY (by omega) (by omega)
    walk_at "trun"
    refine ite_f (by decide) ?_
    walk_at "trun"
    exact φ
  | true =>
    rw [if_pos rfl, if_pos rfl] at φ
    rw [show unitS true = "months" from rfl]
    walk_at "trun"
    refine ite_t (by decide) ?_
    walk_at "trun"
    intro _ _
    refine ⟨lo, rfl, by omega, by omega, fun n hn _ _ => ?_⟩
    have en := mO_is hn
    subst en
    walk_at "trun"
    intro _ _
    refine ⟨hi, rfl, by omega, by omega, fun n hn _ _ => ?_⟩
    have en := mO_is hn
    subst en
    walk_at "trun"
    intro _ _
    refine ⟨mO hi, rfl, by omega, by omega, ?_⟩
    obtain ⟨x1, x2, x3, x4⟩ := key (mO lo) (by omega) (by omega)
    have n4 : Mid (mO lo / m) := midY (by omega) (by omega)
    walk_at "trun"
    refine z_iteD (fun c => ?_) (fun c => ?_)
    · rw [if_pos c] at φ
      obtain ⟨y1, y2, y3, y4⟩ := key (mO hi) (by omega) (by omega)
      have n5 : Mid (if -(-mO hi / m) > mO lo / m + 1 then -(-mO hi / m) else mO lo / m + 1) := by split <;> exact midY (by omega) (by omega)
      walk_at "trun"
      exact φ
    · rw [if_neg c] at φ
      obtain ⟨y1, y2, y3, y4⟩ := key (mO hi + 1) (by omega) (by omega)
      have n5 : Mid (if -(-(mO hi + 1) / m) > mO lo / m + 1 then -(-(mO hi + 1) / m) else mO lo / m + 1) := by split <;> exact midY (by omega) (by omega)
      walk_at "trun"
      refine s_aug (by walk_at "tg") ?_
      walk_at "trun"
      exact φ
def difL : List Int → List Int
  | a :: b :: r => (b - a) :: difL (b :: r)
  | _ => []
theorem dif_at : ∀ {xs : List Int} {i : Nat} {a b : Int}, xs[i]? = some a → xs[i + 1]? = some b → (difL xs)[i]? = some (b - a)
  | [], _, _, _, h, _ => by simp at h
  | [x], 0, _, _, _, h => by simp at h
  | [x], i + 1, _, _, h, _ => by simp at h
  | x :: y :: r, 0, a, b, h1, h2 => by
    have h1 : some x = some a := h1
    have h2 : some y = some b := h2
    cases h1; cases h2; rfl
  | x :: y :: r, i + 1, a, b, h1, h2 => dif_at (xs := y :: r) (i := i) h1 h2
theorem dif_len : ∀ {xs : List Int}, (difL xs).length = xs.length - 1
  | [] => rfl
  | [_] => rfl
  | x :: y :: r => by
    show (difL (y :: r)).length + 1 = _
    rw [dif_len]
    simp
def celV (mo : Bool) (m lo hi : Int) : List Int := (List.range (bV mo m lo hi - aV mo m lo + 1).toNat).map fun j : Nat => fV mo (m * aV mo m lo + (j : Int) * m)
def resD (mo : Bool) (m lo hi len : Int) : Tr × List Tr := (dayT (fV mo (m * aV mo m lo)) (fV mo (m * bV mo m lo hi)) len, (celV mo m lo hi).map (tckD (fV mo (m * aV mo m lo)) (fV mo (m * bV mo m lo hi)) len))
def tryD (lo hi len : Int) (up : Bool) (mo : Bool) (m : Int) : Option (Tr × List Tr) :=
  if tfit [] (My.qv (len * m) (m * bV mo m lo hi - m * aV mo m lo)) up = true ∧ tfit ((celV mo m lo hi).map shD) (My.qv (len * mnV (difL (celV mo m lo hi))) (fV mo (m * bV mo m lo hi) - fV mo (m * aV mo m lo))) up = true
  then some (resD mo m lo hi len) else none
theorem f_mono {mo : Bool} {a b : Int} (h : a < b) : fV mo a < fV mo b := by
  unfold fV
  split
  · exact mB_lt h
  · exact h
theorem f_le {mo : Bool} {a b : Int} (h : a ≤ b) : fV mo a ≤ fV mo b := by
  rcases Int.lt_or_le a b with z | z
  · exact Int.le_of_lt (f_mono z)
  · rw [show a = b by omega]; exact Int.le_refl _
theorem cel_at {mo : Bool} {m lo hi : Int} {j : Nat} (h : j < (bV mo m lo hi - aV mo m lo + 1).toNat) : (celV mo m lo hi)[j]? = some (fV mo (m * aV mo m lo + (j : Int) * m)) := by
  unfold celV
  rw [List.getElem?_map, List.getElem?_range h]
  rfl
theorem cel_len {mo : Bool} {m lo hi : Int} : (celV mo m lo hi).length = (bV mo m lo hi - aV mo m lo + 1).toNat := by unfold celV; rw [List.length_map, List.length_range]
theorem cel_end {m a b : Int} {j : Nat} (m0 : 0 < m) (h : (j : Int) ≤ b - a) : m * a ≤ m * a + (j : Int) * m ∧ m * a + (j : Int) * m ≤ m * b := by
  have h1 : 0 ≤ (j : Int) * m := Int.mul_nonneg (by omega) (by omega)
  have h2 : (j : Int) * m ≤ (b - a) * m := Int.mul_le_mul_of_nonneg_right h (by omega)
  rw [Int.sub_mul, Int.mul_comm b m, Int.mul_comm a m] at h2
  omega
theorem f_bd {mo : Bool} {m lo hi n : Int} (s : StepOk mo m) (d : DOk lo hi) (h1 : m * aV mo m lo ≤ n) (h2 : n ≤ m * bV mo m lo hi) : 364000 ≤ fV mo n ∧ fV mo n ≤ 3287000 ∧ (mo = true → 12000 ≤ n ∧ n ≤ 108000) := by
  obtain ⟨_, _, _, k1, k2⟩ := ab_ok s d
  cases mo with
  | true =>
    obtain ⟨a, b⟩ := k1 rfl
    have e1 := mB_le (show 12000 ≤ n by omega)
    have e2 := mB_le (show n ≤ 108000 by omega)
    rw [mB_lo] at e1
    rw [mB_hi] at e2
    refine ⟨?_, ?_, fun _ => ⟨by omega, by omega⟩⟩
    · show 364000 ≤ mB n; omega
    · show mB n ≤ 3287000; omega
  | false =>
    obtain ⟨a, b⟩ := k2 rfl
    refine ⟨?_, ?_, fun z => nomatch z⟩
    · show 364000 ≤ n; omega
    · show n ≤ 3287000; omega
def sp_dby (K : Fg) : Sp := fun vs H Q _ => ∃ (mo : Bool) (m lo hi len : Int) (up : Bool), vs = [.str (unitS mo), .int m, .int lo, .int hi, .int len, .str (wayS up)] ∧ StepOk mo m ∧ DOk lo hi ∧ 24 ≤ len ∧ len ≤ 2000 ∧
  (tryD lo hi len up mo m = none → ∀ H', Same H H' → Q .non H') ∧ ∀ sc ts, tryD lo hi len up mo m = some (sc, ts) → ∀ x H', Same H H' → AxAt K H H' x sc ts → Q x H'
theorem small9 {a b c : Int} (ha : 0 ≤ a) (ha' : a ≤ 100000000) (hb : 0 ≤ b) (hb' : b ≤ 100000000) (hc : 0 < c) (hc' : c ≤ 1000000) : Builtin.Range.small a b c = true := by
  have h0 := rng_nonneg (i := a) (j := b) hc
  have h1 : Builtin.Range.rangeSize a b c ≤ 100000001 := by
    unfold Builtin.Range.rangeSize
    rw [if_pos hc]
    by_cases h : a < b
    · rw [if_pos h]
      have := Int.ediv_le_self c (show 0 ≤ b - a - 1 by omega)
      omega
    · rw [if_neg h]; omega
  unfold Builtin.Range.small
  generalize Builtin.Range.rangeSize a b c = n at *
  have hc2 : c > 0 := hc
  simp only [Builtin.Range.rangeFitsLong, Bool.and_eq_true, Bool.or_eq_true, decide_eq_true_eq, beq_iff_eq, if_pos hc2]
  omega
theorem cutT_n0 (xs : List Tr) (a : Nat) : cutT xs (some (a : Int)) none = xs.drop a := by
  unfold cutT
  rw [HT.sIx_nat, HT.sIx_none]
  by_cases h : a ≤ xs.length
  · rw [Nat.min_eq_left h, List.take_of_length_le (by rw [List.length_drop]; omega)]
  · rw [List.drop_of_length_le (by omega), List.drop_of_length_le (by omega), List.take_nil]
theorem rng_is {a b m : Int} (m0 : 0 < m) (h : a ≤ b) : rngN (m * a) (m * b + 1) m = (b - a + 1).toNat := by
  have h1 : m * a ≤ m * b := Int.mul_le_mul_of_nonneg_left h (by omega)
  unfold rngN Builtin.Range.rangeSize
  rw [if_pos m0, if_pos (by omega), show m * b + 1 - m * a - 1 = m * (b - a) by rw [Int.mul_sub]; omega, Int.mul_ediv_cancel_left _ (by omega)]
theorem fit_gap {ls : List Str} {x y : Int} {up : Bool} (hy : 0 < y) (h : tfit ls (My.qv x y) up = true) : 6 * y ≤ x := by
  cases up with
  | true => rw [fit_up hy] at h; omega
  | false =>
    rw [fit_lv hy] at h
    have l0 := lng_nn ls
    have := Int.mul_le_mul_of_nonneg_right (show 6 ≤ 6 + 6 * lng ls by omega) (show 0 ≤ y by omega)
    omega
theorem ok_days_by (T : Txt K mg t) : FnOk P w K mg base CX0 8 t.f_days_by t.d_days_by ["unit", "many", "least", "greatest", "length", "way"] (sp_dby K) := by
  have G_number := okT_number (P := P) (w := w) (base := base) T
  have G_labels_fit := okT_labels_fit (P := P) (w := w) (base := base) T
  have G_days_about := okT_days_about (P := P) (w := w) (base := base) T
  have G_month_begin := okT_month_begin (P := P) (w := w) (base := base) T
  have G_show_day := okT_show_day (P := P) (w := w) (base := base) T
  have G_with_ticks := ok_with_ticks (P := P) (w := w) (base := base) T
  obtain ⟨ds_number, DV_number, BD_number⟩ := T.b_number1
  refine T.F_days_by.ok sc_days_by (fun vs H Q E h => ?_) (fun cdv A outer s H vs Q E hr h => ?_)
  · obtain ⟨_, _, _, _, _, _, rfl, _⟩ := h
    rfl
  obtain ⟨mo, m, lo, hi, len, up, rfl, sok, dok, l0, l1, qn, qs⟩ := h
  obtain ⟨m0, m1, lt, k1, k2⟩ := ab_ok sok dok
  have fb : ∀ n, m * aV mo m lo ≤ n → n ≤ m * bV mo m lo hi → 364000 ≤ fV mo n ∧ fV mo n ≤ 3287000 ∧ (mo = true → 12000 ≤ n ∧ n ≤ 108000) := fun n h1 h2 => f_bd sok dok h1 h2
  have ca := fun j h => cel_at (mo := mo) (m := m) (lo := lo) (hi := hi) (j := j) h
  have cl := cel_len (mo := mo) (m := m) (lo := lo) (hi := hi)
  unfold tryD resD at qn qs
  refine ⟨_, (psc (ps_set (i := 6) sc_days_by.nd rfl (Or.inl rfl) (pe_call G_days_about (hr.mono (by decide)) rfl T.m_days_about T.k_days_about T.b_days_about .nil pass0 (pcn (pv 0) (pcn (pv 1) (pcn (pv 2) (pcn (pv 3) pnl))))))
  (psc (ps_if (pt_not (pt_val (pe_call G_labels_fit (hr.mono (by decide)) rfl T.m_labels_fit T.k_labels_fit T.b_labels_fit .nil pass0 (pcn (pe_lst pnl) (pcn (pe_call G_number (hr.mono (by decide)) rfl T.m_number T.k_number T.b_number .nil passE0 (pcn (pe_op op_mulB (pv 4) (pv 1)) (pcn (pe_op op_sub (pe_ix ixt (pv 6) pei (fun _ _ => rfl)) (pe_ix ixt (pv 6) pei (fun _ _ => rfl))) pnl))) (pcn (pv 5) pnl)))))) (pso (ps_ret pe_non)) pss_nil)
  (psc (ps_set (i := 7) sc_days_by.nd rfl (Or.inl rfl) (pe_listrng3 rfl rfl T.z_list rfl T.z_range (pcn (pe_ix ixt (pv 6) pei (fun _ _ => rfl)) (pcn (pe_op op_add (pe_ix ixt (pv 6) pei (fun _ _ => rfl)) pei) (pcn (pv 1) pnl)))))
  (psc (ps_if (pt_cmpR op_eq (pv 0) pe_str (nomark _)) (pso (ps_setLC (iy := 7) sc_days_by.nd rfl (Or.inl rfl) rfl (compOk_of (fr := []) (osc := defScope s_days_by) (N := ["unit", "many", "least", "greatest", "length", "way", "ends", "cells", "shortest", "labels"]) rfl rfl (by decide +kernel)) (pi_list (pv 7)) (fun _ _ _ _ _ => (pe_call G_month_begin (hr.mono (by decide)) rfl T.m_month_begin T.k_month_begin T.b_month_begin .nil pass0 (pcn (pv 0) pnl))))) pss_nil)
  (psc (ps_set (i := 8) sc_days_by.nd rfl (Or.inl rfl) (pe_callB (call_minL rfl) rfl T.z_min bt_min (pcn (pe_lcP (fr := []) rfl (compOkG2_of (osc := defScope s_days_by) (N := ["unit", "many", "least", "greatest", "length", "way", "ends", "cells", "shortest", "labels"]) rfl rfl (by decide +kernel) (by decide +kernel) (by decide)) (pi_zip rfl T.z_zip (pcn (pv 7) (pcn (pe_slice sl_list (pv 7) (po_some pei) po_none) pnl))) (fun _ _ _ _ _ => (pe_op op_sub (pv 1) (pv 0)))) pnl)))
  (psc (ps_setLC (iy := 9) sc_days_by.nd rfl (Or.inl rfl) rfl (compOk_of (fr := []) (osc := defScope s_days_by) (N := ["unit", "many", "least", "greatest", "length", "way", "ends", "cells", "shortest", "labels"]) rfl rfl (by decide +kernel)) (pi_list (pv 7)) (fun _ _ _ _ _ => (pe_call G_show_day (hr.mono (by decide)) rfl T.m_show_day T.k_show_day T.b_show_day .nil pass0 (pcn (pv 0) pnl))))
  (psc (ps_if (pt_not (pt_val (pe_call G_labels_fit (hr.mono (by decide)) rfl T.m_labels_fit T.k_labels_fit T.b_labels_fit .nil pass0 (pcn (pv 9) (pcn (pe_call G_number (hr.mono (by decide)) rfl T.m_number T.k_number T.b_number .nil passE0 (pcn (pe_op op_mulB (pv 4) (pv 8)) (pcn (pe_op op_sub (pe_ix ixl (pv 7) (pe_un un_neg pei) (fun _ _ => rfl)) (pe_ix ixl (pv 7) pei (fun _ _ => rfl))) pnl))) (pcn (pv 5) pnl)))))) (pso (ps_ret pe_non)) pss_nil)
  (pso (ps_ret (pe_call G_with_ticks (hr.mono (by decide)) rfl T.m_with_ticks T.k_with_ticks T.b_with_ticks .nil pass0 (pcn (pe_tup (pcn pe_str (pcn (pe_ix ixl (pv 7) pei (fun _ _ => rfl)) (pcn (pe_ix ixl (pv 7) (pe_un un_neg pei) (fun _ _ => rfl)) (pcn (pv 4) pnl))))) (pcn (pv 7) (pcn (pv 9) pnl))))))))))))), ?_⟩
  refine open_at (K := K) (a := (0 : Nat)) (as := [.fz (.str (unitS mo)), .fz (.int m), .fz (.int lo), .fz (.int hi), .fz (.int len), .fz (.str (wayS up))]) (.cons .str (.cons .int (.cons .int (.cons .int (.cons .int (.cons .str .nil)))))) ?_
  refine d_go (τ := [.fz (.str (unitS mo)), .fz (.int m), .fz (.int lo), .fz (.int hi), .fz (.int len), .fz (.str (wayS up)), .no, .no, .no, .no]) rfl (d_seq ?_)
  walk_at "trun"
  intro _ _
  refine ⟨mo, m, lo, hi, rfl, sok, dok, ?_⟩
  walk_at "trun"
  have celdef : celV mo m lo hi = (List.range (bV mo m lo hi - aV mo m lo + 1).toNat).map fun j : Nat => fV mo (m * aV mo m lo + (j : Int) * m) := rfl
  generalize aV mo m lo = a at *
  generalize bV mo m lo hi = b at *
  generalize celV mo m lo hi = C at *
  have ab : m * a < m * b := Int.mul_lt_mul_of_pos_left lt m0
  have abd : m * b - m * a = m * (b - a) := by rw [Int.mul_sub]
  obtain ⟨fa1, fa2, fa3⟩ := fb (m * a) (Int.le_refl _) (by omega)
  obtain ⟨fb1, fb2, fb3⟩ := fb (m * b) (by omega) (Int.le_refl _)
  have ra : 0 ≤ m * a ∧ m * b ≤ 4000000 := by
    cases mo with
    | true => have := k1 rfl; omega
    | false => have := k2 rfl; omega
  have big : m * b - m * a ≤ 4000000 := by omega
  have mm : Mid m := midY (by omega) (by omega)
  have ml : Mid len := midY (by omega) (by omega)
  have blm : My.Bd 64 (len * m) := (show My.Bd 30 len by unfold My.Bd; omega).mul (show My.Bd 30 m by unfold My.Bd; omega) |>.mono (by decide)
  have none_ : ¬ (tfit [] (My.qv (len * m) (m * b - m * a)) up = true ∧ tfit (C.map shD) (My.qv (len * mnV (difL C)) (fV mo (m * b) - fV mo (m * a))) up = true) → ∀ F' H', Up (bkN K H H (0 : Nat)) H H F' H' → Q .non H' := fun c F' H' u => qn (if_neg c) H' (fun p o z => u.h p o (fun h => h) z)
  refine d_seqN _ none_ ?_
  walk_at "trun"
  intro _ _
  refine a_num (n := 64) (t := len * m) (m := m * b - m * a) blm (by unfold My.Bd; omega) (by decide) (by omega) fun q1 => ?_
  walk_at "trun"
  intro _ _
  refine ⟨[], _, up, rfl, Nat.zero_le _, fun _ h => absurd h List.not_mem_nil, q1.up (by decide), ?_⟩
  walk_at "trun"
  cases hf : tfit [] (My.qv (len * m) (m * b - m * a)) up with
  | false =>
    walk_at "trun"
    exact ⟨rfl, fun h => absurd h.1 Bool.false_ne_true⟩
  | true =>
  have g6 : 6 * (b - a) ≤ len := by
    have := fit_gap (by omega) hf
    rw [abd, show 6 * (m * (b - a)) = 6 * (b - a) * m by grind] at this
    exact Int.le_of_mul_le_mul_right this m0
  walk_at "trun"
  refine d_seq ?_
  walk_at "trun"
  refine e_lrng ?_
  walk_at "trun"
  have rn := rng_is (a := a) (b := b) m0 (by omega)
  have nn : ((b - a + 1).toNat : Int) = b - a + 1 := by omega
  refine ⟨m0, by omega, small9 (by omega) (by omega) (by omega) (by omega) (by omega) (by omega), by rw [rn]; omega, ?_⟩
  rw [rn]
  refine g_nw (by walk_at "ts") ?_
  have Ci : ∀ j : Nat, j < (b - a + 1).toNat → m * a ≤ m * a + (j : Int) * m ∧ m * a + (j : Int) * m ≤ m * b := fun j hj => cel_end m0 (by omega)
  refine d_seq ?_
  refine s_cut (fun τ' => τ' = [.fz (.str (unitS mo)), .fz (.int m), .fz (.int lo), .fz (.int hi), .fz (.int len), .fz (.str (wayS up)), .fz (.tup [.int (m * a), .int (m * b)]), .own (.lst (C.map Tr.int)), .no, .no]) ?_ (fun τ' e => ?_)
  · cases mo with
    | true =>
      rw [show unitS true = "months" from rfl]
      walk_at "trun"
      refine ite_t (by decide) ?_
      walk_at "trun"
      refine e_lc (i_list rfl ?_)
      walk_at "trun"
      refine ⟨[], .nil, by rw [stepT_len]; omega, fun j o => o = .int (fV true (m * a + (j : Int) * m)), fun j tt ht => ?_, fun os hl2 ho => ?_⟩
      · obtain ⟨hj, rfl⟩ := stepT_at ht
        obtain ⟨c1, c2⟩ := Ci j hj
        obtain ⟨_, _, c3⟩ := fb _ c1 c2
        have c3 := c3 rfl
        walk_at "trun"
        intro _ _
        refine ⟨_, rfl, by omega, by omega, ?_⟩
        walk_at "trun"
        rfl
      rw [stepT_len] at hl2
      obtain rfl := lc_rng hl2 ho
      walk_at "trun"
      rw [celdef, List.map_map]
      rfl
    | false =>
      rw [show unitS false = "days" from rfl]
      walk_at "trun"
      refine ite_f (by decide) ?_
      walk_at "trun"
      rw [celdef, List.map_map]
      rfl
  subst e
  refine d_fix (k := 7) (by walk_at "tg") (by walk_at "ts") ?_
  refine d_seq ?_
  walk_at "trun"
  refine e_lcP rfl (i_zip rfl ?_)
  walk_at "trun"
  have dne : difL C ≠ [] := fun z => by
    have := dif_len (xs := C)
    rw [z, cl] at this
    simp at this
    omega
  refine ⟨_, C.map Tr.int, _, (C.map Tr.int).drop 1, rfl, by rw [show (1 : Int) = ((1 : Nat) : Int) from rfl, cutT_n0]; rfl, [], .nil, by rw [zip2T_len, List.length_map]; omega, fun j o => ∃ d, (difL C)[j]? = some d ∧ o = some (.int d), fun j tt ht => ?_, fun os hl3 ho3 => ?_⟩
  · obtain ⟨x, y, ex, ey, rfl⟩ := zip2T_at _ _ j tt ht
    obtain ⟨c, hc, rfl⟩ := of_map_at ex
    rw [List.getElem?_drop, Nat.add_comm] at ey
    obtain ⟨c', hc', rfl⟩ := of_map_at ey
    refine ⟨_, _, rfl, ?_⟩
    walk_at "trun"
    exact ⟨_, dif_at hc hc', rfl⟩
  rw [some_map (xs := difL C) (by rw [hl3, zip2T_len, List.length_drop, List.length_map, dif_len]; omega) ho3]
  have mn := mnV_is dne
  have Cb : ∀ c ∈ C, 364000 ≤ c ∧ c ≤ 3287000 := fun c hc => by
    rw [celdef] at hc
    obtain ⟨j, hj, rfl⟩ := List.mem_map.mp hc
    obtain ⟨c1, c2⟩ := Ci j (List.mem_range.mp hj)
    obtain ⟨x1, x2, _⟩ := fb _ c1 c2
    exact ⟨x1, x2⟩
  have db : ∀ d ∈ difL C, -4000000 ≤ d ∧ d ≤ 4000000 := fun d hd => by
    obtain ⟨j, hj, e⟩ := List.getElem_of_mem hd
    have hl := dif_len (xs := C)
    have e0 : C[j]? = some (C[j]'(by omega)) := List.getElem?_eq_getElem _
    have e1 : C[j + 1]? = some (C[j + 1]'(by omega)) := List.getElem?_eq_getElem _
    have ed := dif_at e0 e1
    rw [List.getElem?_eq_getElem hj, e] at ed
    have ed := Option.some.inj ed
    have := Cb _ (List.mem_of_getElem? e0)
    have := Cb _ (List.mem_of_getElem? e1)
    omega
  obtain ⟨s0, s1⟩ := db _ mn.1
  walk_at "trun"
  refine ru_minL rfl Rk.fz mn ?_
  generalize mnV (difL C) = sh at *
  have msh : Mid sh := midY (by omega) (by omega)
  walk_at "trun"
  refine d_seq ?_
  refine s_setlc (e_lc (i_list rfl ?_))
  walk_at "trun"
  refine ⟨[], .nil, by rw [List.length_map]; omega, fun j o => ∃ c, C[j]? = some c ∧ (shD c).length = 10 ∧ o = .str (shD c), fun j tt ht => ?_, fun os hl4 ho4 => ?_⟩
  · obtain ⟨c, hc, rfl⟩ := of_map_at ht
    have := Cb c (List.mem_of_getElem? hc)
    walk_at "trun"
    intro _ _
    refine ⟨c, rfl, by omega, by omega, fun h10 => ?_⟩
    walk_at "trun"
    exact ⟨c, hc, h10, rfl⟩
  rw [List.length_map] at hl4
  have c10 : ∀ c ∈ C, (shD c).length = 10 := fun c hc => by
    obtain ⟨j, hj, e⟩ := List.getElem_of_mem hc
    obtain ⟨c', h1, h2, _⟩ := ho4 j _ (List.getElem?_eq_getElem (by omega))
    rw [List.getElem?_eq_getElem hj, e] at h1
    cases h1
    exact h2
  obtain rfl := lc_maps (xs := C) (f := fun c => Tr.str (shD c)) hl4 fun i o h => by obtain ⟨c, h1, _, h3⟩ := ho4 i o h; exact ⟨c, h1, h3⟩
  clear ho4
  refine g_nw (by walk_at "ts") ?_
  refine d_fix (k := 9) (by walk_at "tg") (by walk_at "ts") ?_
  have tot : fV mo (m * a) < fV mo (m * b) := f_mono ab
  have c0 : C[0]? = some (fV mo (m * a)) := by
    have := ca 0 (by omega)
    rw [show m * a + ((0 : Nat) : Int) * m = m * a by simp] at this
    exact this
  have cN : C[C.length - 1]? = some (fV mo (m * b)) := by
    have := ca (b - a).toNat (by omega)
    rw [show m * a + (((b - a).toNat : Nat) : Int) * m = m * b by rw [show (((b - a).toNat : Nat) : Int) = b - a by omega, Int.sub_mul, Int.mul_comm b m, Int.mul_comm a m]; omega] at this
    rw [cl, show (b - a + 1).toNat - 1 = (b - a).toNat by omega]
    exact this
  have Cx : ∀ c ∈ C, fV mo (m * a) ≤ c ∧ c ≤ fV mo (m * b) := fun c hc => by
    rw [celdef] at hc
    obtain ⟨j, hj, rfl⟩ := List.mem_map.mp hc
    obtain ⟨c1, c2⟩ := Ci j (List.mem_range.mp hj)
    exact ⟨f_le c1, f_le c2⟩
  have e0 : atI (C.map Tr.int) 0 = some (.int (fV mo (m * a))) := atI_first (map_at c0)
  have e1 : atI (C.map Tr.int) (-1) = some (.int (fV mo (m * b))) := atI_last (by rw [List.length_map]; exact map_at cN)
  generalize fV mo (m * a) = x0 at *
  generalize fV mo (m * b) = x1 at *
  have bls : My.Bd 64 (len * sh) := (show My.Bd 30 len by unfold My.Bd; omega).mul (show My.Bd 30 sh by unfold My.Bd; omega) |>.mono (by decide)
  refine d_seqN _ none_ ?_
  walk_at "trun"
  refine ro_ixL rfl Rk.fz e1 ?_
  walk_at "trun"
  refine ro_ixL rfl Rk.fz e0 ?_
  walk_at "trun"
  intro _ _
  refine a_num (n := 64) (t := len * sh) (m := x1 - x0) bls (by unfold My.Bd; omega) (by decide) (by omega) fun q2 => ?_
  walk_at "trun"
  intro _ _
  refine ⟨C.map shD, My.qv (len * sh) (x1 - x0), up, by rw [List.map_map]; rfl, by rw [List.length_map]; omega, fun z hz => ?_, q2.up (by decide), ?_⟩
  · obtain ⟨c, hc, rfl⟩ := List.mem_map.mp hz
    rw [c10 c hc]
    decide
  walk_at "trun"
  cases hf2 : tfit (C.map shD) (My.qv (len * sh) (x1 - x0)) up with
  | false =>
    walk_at "trun"
    exact ⟨rfl, fun h => absurd h.2 Bool.false_ne_true⟩
  | true =>
  walk_at "trun"
  rw [hf, hf2, if_pos ⟨rfl, rfl⟩] at qs
  have qs := qs _ _ rfl
  refine fun σ F H' r => ?_
  have sH : Same H H' := fun p o e => r.up.h p o (fun h => h) e
  obtain ⟨v4, s4, i4⟩ := r.fz 4 _ rfl
  obtain ⟨v7, s7, i7⟩ := r.fz 7 _ rfl
  obtain ⟨v9, s9, i9⟩ := r.fz 9 _ rfl
  have hlen : σ.length = 10 := r.len
  have i7 : Is K H' v7 _ := i7.same r.up.i
  have i9 : Is K H' v9 _ := i9.same r.up.i
  match σ, hlen with
  | [w0, w1, w2, w3, w4, w5, w6, w7, w8, w9], _ =>
  cases (show w4 = some v4 from Option.some.inj s4)
  cases (show w7 = some v7 from Option.some.inj s7)
  cases (show w9 = some v9 from Option.some.inj s9)
  cases (show Is K F v4 (.int len) from i4)
  have j7 := i7
  cases i7 with
  | @lst l7 y7 _ hs7 g7 =>
  cases g7.ints
  walk_at "run"
  refine z_ixL hs7 (atI_first (map_at c0)) ?_
  walk_at "run"
  refine z_ixL hs7 (atI_last (by rw [List.length_map]; exact map_at cN)) ?_
  walk_at "run"
  rename_i p1 H1 n1 s1' e1'
  refine ⟨.ref p1, .ref l7, v9, x0, x1, len, C, rfl, .tup (SqT.of e1') (.cons .str (.cons .int (.cons .int (.cons .int .nil)))), j7.same s1', i9.same s1', ⟨by omega, tot, by omega, by omega, by omega⟩, Cx, by omega, fun x H2 s2 a => qs x H2 (sH.trans (s1'.trans s2)) (a.sub (sH.trans s1'))⟩
def fstS (f : Bool → Int → Option (Tr × List Tr)) : List (Bool × Int) → Option (Tr × List Tr)
  | [] => none
  | x :: r => match f x.1 x.2 with
    | some y => some y
    | none => fstS f r
def stepsV : List (Bool × Int) := [(false, 1), (false, 7), (true, 1), (true, 3), (true, 12), (true, 120), (true, 1200), (true, 12000)]
theorem fs_some {f : Bool → Int → Option (Tr × List Tr)} {x : Bool × Int} {r : List (Bool × Int)} {y : Tr × List Tr} (h : f x.1 x.2 = some y) : fstS f (x :: r) = some y := by
  show (match f x.1 x.2 with | some y => some y | none => fstS f r) = _
  rw [h]
theorem fs_none {f : Bool → Int → Option (Tr × List Tr)} {x : Bool × Int} {r : List (Bool × Int)} (h : f x.1 x.2 = none) : fstS f (x :: r) = fstS f r := by
  show (match f x.1 x.2 with | some y => some y | none => fstS f r) = _
  rw [h]
theorem steps_ok : ∀ x ∈ stepsV, StepOk x.1 x.2 := fun x hx => by
  unfold StepOk
  simp only [stepsV, List.mem_cons, List.not_mem_nil, or_false] at hx
  rcases hx with rfl | rfl | rfl | rfl | rfl | rfl | rfl | rfl <;> simp
def mxN (ns : List Int) : Int := -(mnV (ns.map fun x => -x))
theorem mxN_is {ns : List Int} (h : ns ≠ []) : IsMax ns (mxN ns) := by
  obtain ⟨h1, h2⟩ := mnV_is (ns := ns.map fun x => -x) (by simpa using h)
  obtain ⟨x, hx, e⟩ := List.mem_map.mp h1
  refine ⟨?_, fun n hn => ?_⟩
  · rw [show mxN ns = x by unfold mxN; omega]; exact hx
  · have := h2 (-n) (List.mem_map.mpr ⟨n, hn, rfl⟩)
    unfold mxN
    omega
theorem min_one {ns : List Int} {a b : Int} (h : IsMin ns a) (g : IsMin ns b) : a = b := by
  have := h.2 b g.1
  have := g.2 a h.1
  omega
theorem max_one {ns : List Int} {a b : Int} (h : IsMax ns a) (g : IsMax ns b) : a = b := by
  have := h.2 b g.1
  have := g.2 a h.1
  omega
def loN (ns : List Int) : Int := if ns = [] then 730119 else mnV ns
def hiN (ns : List Int) : Int := if ns = [] then 730120 else mxN ns
def axV (ns : List Int) (len : Int) (up : Bool) : Option (Tr × List Tr) := fstS (tryD (loN ns) (hiN ns) len up) stepsV
structure WOk (ns : List Int) (len : Int) : Prop where
  c : ns.length ≤ 100
  q : ∀ c ∈ ns, DIn c
  l0 : 24 ≤ len
  l1 : len ≤ 2000
theorem WOk.d {ns : List Int} {len : Int} (h : WOk ns len) : DOk (loN ns) (hiN ns) := by
  unfold loN hiN
  by_cases z : ns = []
  · rw [if_pos z, if_pos z]
    exact ⟨⟨by decide, by decide⟩, ⟨by decide, by decide⟩, by decide⟩
  · rw [if_neg z, if_neg z]
    have m1 := mnV_is z
    have m2 := mxN_is z
    exact ⟨h.q _ m1.1, h.q _ m2.1, m1.2 _ m2.1⟩
theorem a_least {K : Fg} {H : Hp} {Q : VK} {E : XK} {v : V} {ns : List Int} (i : Is K H v (.lst (ns.map Tr.int))) (h : ns ≠ []) (k : ∀ H', Same H H' → Q (.int (mnV ns)) H') : toSp K st_lstI [v] H Q E :=
  toSp_at (a := (0 : Nat)) (as := [.fz (.lst (ns.map Tr.int))]) (Φ := fun k => k = .fz (.int (mnV ns))) (.cons i .nil) ⟨ns, rfl, h, fun m hm => by rw [min_one hm (mnV_is h)]⟩ fun v F' H' k' s _ _ r e => by
    subst e
    cases (show Is K F' v (.int (mnV ns)) from r)
    exact k H' s
theorem a_most {K : Fg} {H : Hp} {Q : VK} {E : XK} {v : V} {ns : List Int} (i : Is K H v (.lst (ns.map Tr.int))) (h : ns ≠ []) (k : ∀ H', Same H H' → Q (.int (mxN ns)) H') : toSp K st_grtI [v] H Q E :=
  toSp_at (a := (0 : Nat)) (as := [.fz (.lst (ns.map Tr.int))]) (Φ := fun k => k = .fz (.int (mxN ns))) (.cons i .nil) ⟨ns, rfl, h, fun m hm => by rw [max_one hm (mxN_is h)]⟩ fun v F' H' k' s _ _ r e => by
    subst e
    cases (show Is K F' v (.int (mxN ns)) from r)
    exact k H' s
def sp_daxis (K : Fg) (C : Addr) : Sp := fun vs H Q E => ∃ (l : Addr) (ns : List Int) (len : Int) (up : Bool), vs = [.ref l, .int len, .str (wayS up)] ∧ H l = some (.lst (ns.map V.int)) ∧ WOk ns len ∧
  (∀ sc ts, axV ns len up = some (sc, ts) → ∀ x H', Same H H' → AxAt K H H' x sc ts → Q x H') ∧ (axV ns len up = none → ∀ H', Same H H' → E (.ref C) none H')
def stT (x : Bool × Int) : Tr := .tup [.str (unitS x.1), .int x.2]
theorem drop_at {α : Type} {xs : List α} {i : Nat} {x : α} (h : xs[i]? = some x) : xs.drop i = x :: xs.drop (i + 1) := by
  obtain ⟨hi, e⟩ := List.getElem?_eq_some_iff.mp h
  rw [List.drop_eq_getElem_cons hi, e]
theorem isl_ints {K : Fg} {H : Hp} : ∀ (ns : List Int), IsL K H (ns.map V.int) (ns.map Tr.int)
  | [] => .nil
  | n :: ns => .cons .int (isl_ints ns)
theorem ok_days_axis (T : Txt K mg t) : FnOk P w K mg base (CXe P w) 9 t.f_days_axis t.d_days_axis ["cells", "length", "way"] (sp_daxis K t.c_NoSpace) := by
  have G_least_of := okT_least_of (P := P) (w := w) (base := base) T
  have G_greatest_of := okT_greatest_of (P := P) (w := w) (base := base) T
  have G_days_by := ok_days_by (P := P) (w := w) (base := base) T
  refine T.F_days_axis.toD.okL sc_days_axis (fun vs H Q E h => ?_) (fun cdv A outer s H vs Q E hr hfr h => ?_)
  · obtain ⟨_, _, _, _, rfl, _⟩ := h
    rfl
  obtain ⟨l, ns, len, up, rfl, ic, ok, qn, qe⟩ := h
  have dok := ok.d
  have l0 := ok.l0
  have l1 := ok.l1
  unfold axV at qn qe
  refine ⟨_, (psc (ps_set (i := 3) sc_days_axis.nd rfl (Or.inl rfl) (pe_ifExp (pt_truth (pv 0) (fun _ => rfl)) (pe_call G_least_of (hr.mono (by decide)) rfl T.m_least_of T.k_least_of T.b_least_of .nil pass0 (pcn (pv 0) pnl)) (pe_ix ixt (pe_glob (v := .ref t.g_NO_CELLS_DAYS) rfl T.g_NO_CELLS_DAYS rfl) pei (fun _ _ => rfl))))
  (psc (ps_set (i := 4) sc_days_axis.nd rfl (Or.inl rfl) (pe_ifExp (pt_truth (pv 0) (fun _ => rfl)) (pe_call G_greatest_of (hr.mono (by decide)) rfl T.m_greatest_of T.k_greatest_of T.b_greatest_of .nil pass0 (pcn (pv 0) pnl)) (pe_ix ixt (pe_glob (v := .ref t.g_NO_CELLS_DAYS) rfl T.g_NO_CELLS_DAYS rfl) pei (fun _ _ => rfl))))
  (psc (ps_for (passOwnS hfr rfl rfl) rfl (pi_tup (pe_glob (v := .ref t.g_DAY_STEPS) rfl T.g_DAY_STEPS rfl)) (pg_tup rfl (pgs_cons (pg_name (i := 5) sc_days_axis.nd rfl (Or.inl rfl)) (pgs_cons (pg_name (i := 6) sc_days_axis.nd rfl (Or.inl rfl)) pgs_nil))) (psc (ps_set (i := 7) sc_days_axis.nd rfl (Or.inl rfl) (pe_call G_days_by (hr.mono (by decide)) rfl T.m_days_by T.k_days_by T.b_days_by .nil pass0 (pcn (pv 5) (pcn (pv 6) (pcn (pv 3) (pcn (pv 4) (pcn (pv 1) (pcn (pv 2) pnl))))))))
  (pso (ps_if (pt_cmpR op_notN' (pv 7) pe_non (nomark _)) (pso (ps_ret (pv 7))) pss_nil))))
  (pso (ps_raise rfl T.x_NoSpace T.n_NoSpace T.m_NoSpace rfl raisesS (pcn pe_str pnl)))))), z_go (σ := [some _, some _, some _, none, none, none, none, none]) rfl ?_⟩
  walk_at "run"
  by_cases z : ns = []
  · subst z
    obtain ⟨lo, hi, hv, elo, ehi⟩ : ∃ lo hi : Int, (∀ H, SqT K H t.g_NO_CELLS_DAYS ([lo, hi].map V.int)) ∧ loN [] = lo ∧ hiN [] = hi := ⟨730119, 730120, T.v_NO_CELLS_DAYS, rfl, rfl⟩
    rw [elo, ehi] at qn qe dok
    refine ⟨_, .inl ⟨_, SqL.of ic, rfl⟩, ?_⟩
    refine ite_f rfl ?_
    walk_at "run"
    refine z_ixT (hv H) (atI_first rfl) ?_
    walk_at "run"
    refine ⟨_, .inl ⟨_, SqL.of ic, rfl⟩, ?_⟩
    refine ite_f rfl ?_
    walk_at "run"
    refine z_ixT (hv H) (atI_nat (j := 1) rfl) ?_
    walk_at "run"
    have st := T.v_DAY_STEPS H
    rw [show (Tr.tup [.tup [.str "days", .int 1], .tup [.str "days", .int 7], .tup [.str "months", .int 1], .tup [.str "months", .int 3], .tup [.str "months", .int 12], .tup [.str "months", .int 120], .tup [.str "months", .int 1200], .tup [.str "months", .int 12000]]) = .tup (stepsV.map stT) from rfl] at st
    cases st with
    | @tup pg xs _ hsg gg =>
    refine ⟨_, rfl, ⟨_, hsg⟩, ?_⟩
    refine f_tup (xs := xs) (fun i σ HD => (∃ u5 u6 u7, σ = [some (.ref l), some (.int len), some (.str (wayS up)), some (.int lo), some (.int hi), u5, u6, u7]) ∧ Same H HD ∧ fstS (tryD lo hi len up) stepsV = fstS (tryD lo hi len up) (stepsV.drop i)) ⟨⟨none, none, none, rfl⟩, Same.refl _, rfl⟩ (fun i σ HD _ hI => hI.2.1.tup hsg) ?_ ?_
    · rintro i x σ HD hx ⟨⟨u5, u6, u7, rfl⟩, sD, hb⟩
      obtain ⟨tt, ht, ix⟩ := gg.get2 hx
      obtain ⟨⟨mo, m⟩, hst, rfl⟩ := of_map_at ht
      have sok := steps_ok _ (List.mem_of_getElem? hst)
      rw [drop_at hst] at hb
      cases ix.same sD with
      | @tup p2 ys _ hs2 g2 =>
      cases g2 with
      | @cons y0 _ _ _ g0 g2 =>
      cases g2 with
      | @cons y1 _ _ _ g1 g2 =>
      cases g2
      cases g0
      cases g1
      walk_at "run"
      refine ⟨mo, m, lo, hi, len, up, rfl, sok, dok, l0, l1, fun e H2 s2 => ?_, fun sc ts e x H2 s2 a => ?_⟩
      · rw [fs_none (x := (mo, m)) e] at hb
        walk_at "run"
        exact ⟨⟨_, _, _, rfl⟩, sD.trans s2, hb⟩
      · rw [fs_some (x := (mo, m)) (y := (sc, ts)) e] at hb
        obtain ⟨p', v, l', xs, rfl, hrest⟩ := id a
        walk_at "run"
        exact qn sc ts hb _ H2 (sD.trans s2) (a.sub sD)
    · rintro σ HD ⟨⟨u5, u6, u7, rfl⟩, sD, hb⟩
      rw [List.drop_of_length_le (by rw [gg.length, List.length_map]; exact Nat.le_refl _)] at hb
      walk_at "run"
      exact ⟨show 1 ≤ sizeLine by decide, qe hb HD sD⟩
  · have elo : loN ns = mnV ns := if_neg z
    have ehi : hiN ns = mxN ns := if_neg z
    rw [elo, ehi] at qn qe dok
    have ne : (ns.map V.int).isEmpty = false := by
      cases ns with
      | nil => exact absurd rfl z
      | cons a b => rfl
    have iL : ∀ H', Same H H' → Is K H' (.ref l) (.lst (ns.map Tr.int)) := fun H' s => .lst (SqL.of (s _ _ ic)) (isl_ints ns)
    refine ⟨_, .inl ⟨_, SqL.of ic, rfl⟩, ?_⟩
    refine ite_t (by rw [ne]; rfl) ?_
    walk_at "run"
    refine a_least (iL H (Same.refl _)) z (fun H0 s0 => ?_)
    walk_at "run"
    refine ⟨_, .inl ⟨_, SqL.of (s0 _ _ ic), rfl⟩, ?_⟩
    refine ite_t (by rw [ne]; rfl) ?_
    walk_at "run"
    refine a_most (iL H0 s0) z (fun H1 s1 => ?_)
    have sH := s0.trans s1
    clear elo ehi
    generalize mnV ns = lo at *
    generalize mxN ns = hi at *
    walk_at "run"
    have st := T.v_DAY_STEPS H1
    rw [show (Tr.tup [.tup [.str "days", .int 1], .tup [.str "days", .int 7], .tup [.str "months", .int 1], .tup [.str "months", .int 3], .tup [.str "months", .int 12], .tup [.str "months", .int 120], .tup [.str "months", .int 1200], .tup [.str "months", .int 12000]]) = .tup (stepsV.map stT) from rfl] at st
    cases st with
    | @tup pg xs _ hsg gg =>
    refine ⟨_, rfl, ⟨_, hsg⟩, ?_⟩
    refine f_tup (xs := xs) (fun i σ HD => (∃ u5 u6 u7, σ = [some (.ref l), some (.int len), some (.str (wayS up)), some (.int lo), some (.int hi), u5, u6, u7]) ∧ Same H1 HD ∧ fstS (tryD lo hi len up) stepsV = fstS (tryD lo hi len up) (stepsV.drop i)) ⟨⟨none, none, none, rfl⟩, Same.refl _, rfl⟩ (fun i σ HD _ hI => hI.2.1.tup hsg) ?_ ?_
    · rintro i x σ HD hx ⟨⟨u5, u6, u7, rfl⟩, sD, hb⟩
      obtain ⟨tt, ht, ix⟩ := gg.get2 hx
      obtain ⟨⟨mo, m⟩, hst, rfl⟩ := of_map_at ht
      have sok := steps_ok _ (List.mem_of_getElem? hst)
      rw [drop_at hst] at hb
      cases ix.same sD with
      | @tup p2 ys _ hs2 g2 =>
      cases g2 with
      | @cons y0 _ _ _ g0 g2 =>
      cases g2 with
      | @cons y1 _ _ _ g1 g2 =>
      cases g2
      cases g0
      cases g1
      walk_at "run"
      refine ⟨mo, m, lo, hi, len, up, rfl, sok, dok, l0, l1, fun e H2 s2 => ?_, fun sc ts e x H2 s2 a => ?_⟩
      · rw [fs_none (x := (mo, m)) e] at hb
        walk_at "run"
        exact ⟨⟨_, _, _, rfl⟩, sD.trans s2, hb⟩
      · rw [fs_some (x := (mo, m)) (y := (sc, ts)) e] at hb
        obtain ⟨p', v, l', xs, rfl, hrest⟩ := id a
        walk_at "run"
        exact qn sc ts hb _ H2 ((sH.trans sD).trans s2) (a.sub (sH.trans sD))
    · rintro σ HD ⟨⟨u5, u6, u7, rfl⟩, sD, hb⟩
      rw [List.drop_of_length_le (by rw [gg.length, List.length_map]; exact Nat.le_refl _)] at hb
      walk_at "run"
      exact ⟨show 1 ≤ sizeLine by decide, qe hb HD (sH.trans sD)⟩
def wT : Tr := .tup [.str "days"]
def sp_axis (K : Fg) (C : Addr) : Sp := fun vs H Q E => ∃ (wv nv : V) (l : Addr) (ns : List Int) (len : Int) (up : Bool), vs = [wv, .ref l, .int len, .str (wayS up), nv] ∧ Is K H wv wT ∧ H l = some (.lst (ns.map V.int)) ∧ WOk ns len ∧
  (∀ sc ts, axV ns len up = some (sc, ts) → ∀ x H', Same H H' → AxAt K H H' x sc ts → Q x H') ∧ (axV ns len up = none → ∀ H', Same H H' → E (.ref C) none H')
theorem ok_axis_for (T : Txt K mg t) : FnOk P w K mg base (CXe P w) 10 t.f_axis_for t.d_axis_for ["wish", "cells", "length", "way", "nought"] (sp_axis K t.c_NoSpace) := by
  have G_days_axis := ok_days_axis (P := P) (w := w) (base := base) T
  refine T.F_axis_for.okE sc_axis_for (fun vs H Q E h => ?_) (fun cdv A outer s H vs Q E hr h => ?_)
  · obtain ⟨_, _, _, _, _, _, rfl, _⟩ := h
    rfl
  obtain ⟨wv, nv, l, ns, len, up, rfl, iw, ic, ok, qn, qe⟩ := h
  refine ⟨_, (psc (ps_if (pt_cmpR op_eq (pe_ix ixt (pv 0) pei (fun _ _ => rfl)) pe_str (nomark _)) (pso ps_never) pss_nil)
  (psc (ps_if (pt_cmpR op_eq (pe_ix ixt (pv 0) pei (fun _ _ => rfl)) pe_str (nomark _)) (pso ps_never) pss_nil)
  (psc (ps_if (pt_cmpR op_eq (pe_ix ixt (pv 0) pei (fun _ _ => rfl)) pe_str (nomark _)) (pso ps_never) pss_nil)
  (psc (ps_if (pt_cmpR op_eq (pe_ix ixt (pv 0) pei (fun _ _ => rfl)) pe_str (nomark _)) (pso (ps_ret (pe_call G_days_axis (hr.mono (by decide)) rfl T.m_days_axis T.k_days_axis T.b_days_axis .nil passes_on (pcn (pv 1) (pcn (pv 2) (pcn (pv 3) pnl)))))) pss_nil)
  (pso ps_never))))), z_go (σ := [some _, some _, some _, some _, some _]) rfl ?_⟩
  cases iw with
  | @tup pw _ _ hs g =>
  cases g with
  | @cons v0 _ _ _ g0 g =>
  cases g
  cases g0
  walk_at "run"
  refine ite_f (by decide) ?_
  walk_at "run"
  refine ite_f (by decide) ?_
  walk_at "run"
  refine ite_f (by decide) ?_
  walk_at "run"
  refine ite_t (by decide) ?_
  walk_at "run"
  exact ⟨l, ns, len, up, rfl, ic, ok, qn, qe⟩
def sp_asked (K : Fg) : Sp := fun vs H Q _ => ∃ (wv : V) (l : Addr) (ns : List Int) (len : Int) (up b : Bool), vs = [wv, .ref l, .int len, .str (wayS up), .bl b] ∧ Is K H wv wT ∧ H l = some (.lst (ns.map V.int)) ∧ WOk ns len ∧
  (∀ sc ts, axV ns len up = some (sc, ts) → ∀ x H', Same H H' → AxAt K H H' x sc ts → Q x H') ∧ (axV ns len up = none → ∀ H', Same H H' → Q (.str "none") H')
theorem ok_l_asked (T : Txt K mg t) : FnOk P w K mg base CX0 11 t.f_l_asked t.d_l_asked ["_law_wish", "_law_cells", "_law_length", "_law_way", "_law_nought"] (sp_asked K) := by
  have G_axis_for := ok_axis_for (P := P) (w := w) (base := base) T
  obtain ⟨ds_axis_for, DV_axis_for, BD_axis_for⟩ := T.b_axis_for4
  refine T.F_l_asked.ok sc_l_asked (fun vs H Q E h => ?_) (fun cdv A outer s H vs Q E hr h => ?_)
  · obtain ⟨_, _, _, _, _, _, rfl, _⟩ := h
    rfl
  obtain ⟨wv, l, ns, len, up, b, rfl, iw, ic, ok, qn, qe⟩ := h
  refine ⟨_, (psc (ps_set (i := 5) sc_l_asked.nd rfl (Or.inl rfl) pe_str)
  (psc (ps_tryB (T := t.c_NoSpace) G_axis_for (hr.mono (by decide)) rfl T.m_axis_for T.k_axis_for T.b_axis_for .nil BD_axis_for DV_axis_for (fun _ _ z => z) rfl rfl (pt_val (pv 4)) (pcn (pv 0) (pcn (pv 1) (pcn (pv 2) (pcn (pv 3) (pcn pe_bl pnl))))) (pcn (pv 0) (pcn (pv 1) (pcn (pv 2) (pcn (pv 3) pnl)))) sc_l_asked.nd rfl (Or.inl rfl) (fun _ => (pso (ps_set (i := 5) sc_l_asked.nd rfl (Or.inl rfl) pe_str))) (i := 5))
  (pso (ps_ret (pv 5))))), z_go (σ := [some _, some _, some _, some _, some _, none]) rfl ?_⟩
  walk_at "run"
  refine z_tryB ?_
  walk_at "run"
  cases b with
  | true =>
    walk_at "run"
    refine ⟨wv, _, l, ns, len, up, rfl, iw, ic, ok, fun sc ts e x H' s a => ?_, fun e H' s => ⟨_, rfl, ⟨rfl, T.m_NoSpace, T.e_NoSpace, by decide⟩, ?_⟩⟩
    · simp only [List.set_cons_succ, List.set_cons_zero]
      walk_at "run"
      exact qn sc ts e x H' s a
    · walk_at "run"
      exact qe e H' s
  | false =>
    walk_at "run"
    refine ⟨wv, _, l, ns, len, up, rfl, iw, ic, ok, fun sc ts e x H' s a => ?_, fun e H' s => ⟨_, rfl, ⟨rfl, T.m_NoSpace, T.e_NoSpace, by decide⟩, ?_⟩⟩
    · simp only [List.set_cons_succ, List.set_cons_zero]
      walk_at "run"
      exact qn sc ts e x H' s a
    · walk_at "run"
      exact qe e H' s
abbrev AxO := Option (Tr × List Tr)
def fT : AxO → Tr
  | none => .str "none"
  | some x => .tup [x.1, .lst x.2]
def dT : AxO → Tr
  | none => .non
  | some x => .tup [x.1, .lst x.2]
def AxGood (o : AxO) : Prop := ∀ x, o = some x → Dp 8 x.1 ∧ ∀ t ∈ x.2, ∃ (i : Int) (z : Str), t = .tup [.int i, .str z]
def st_isax : SpT := fun _ as Φ _ => ∃ o : AxO, as = [.fz (fT o), .fz (dT o)] ∧ AxGood o ∧ Φ (.fz (.bl true))
theorem okT_l_is_axis (T : Txt K mg t) : FnOk P w K mg base CX0 1 t.f_l_is_axis t.d_l_is_axis ["_law_found", "_law_due_here"] (toSp K st_isax) := by
  refine T.F_l_is_axis.ok sc_l_is_axis (toSp_len (fun B as Φ Ψ h => by obtain ⟨_, rfl, _⟩ := h; rfl)) (fun cdv A outer s H vs Q E hr h => ?_)
  obtain ⟨B, as, Φ, Ψ, rfl, hS, hx, go⟩ := toSp_open h
  obtain ⟨o, rfl, hg, φ⟩ := hS
  refine ⟨_, (psc (ps_if (pt_cmpR op_isN' (pv 1) pe_non (nomark _)) (pso (ps_ret (pe_cmpR op_eq (pv 0) pe_str (nomark _)))) pss_nil)
  (psc (ps_if (PW.pt (pw_or (pt_not (pt_val (pe_isi isi_tuple rfl rfl T.z_isinstance T.z_tuple bt_tuple (pv 0)))) (pw_or (pt_cmpR op_ne (pe_callB call_len_seq rfl T.z_len PySem.boot_len (pcn (pv 0) pnl)) pei (nomark _)) (pw_or (pt_cmpR (op_neA hr.un150) (pv 0) (pv 1) (nomark _)) (pw_or1 (pt_not (pt_val (pe_isi isi_list rfl rfl T.z_isinstance T.z_list bt_list (pe_ix ixt (pv 0) pei (fun _ _ => rfl)))))))))) (pso (ps_ret pe_bl)) pss_nil)
  (psc (ps_for PassesOwn.never rfl (pi_list (pe_ix ixt (pv 0) pei (fun _ _ => rfl))) (pg_name (i := 2) sc_l_is_axis.nd rfl (Or.inl rfl)) (pso (ps_if (PW.pt (pw_or (pt_not (pt_val (pe_isi isi_tuple rfl rfl T.z_isinstance T.z_tuple bt_tuple (pv 2)))) (pw_or (pt_val (pe_isi isi_bool rfl rfl T.z_isinstance T.z_bool bt_bool (pe_ix ixt (pv 2) pei (fun _ _ => rfl)))) (pw_or1 (pt_not (pt_val (pe_isi isi_int rfl rfl T.z_isinstance T.z_int bt_int (pe_ix ixt (pv 2) pei (fun _ _ => rfl))))))))) (pso (ps_ret pe_bl)) pss_nil)))
  (pso (ps_ret pe_bl))))), go _ _ (s_go (τ := [.fz _, .fz _, .no]) rfl ?_)⟩
  cases o with
  | none =>
    rw [show fT none = Tr.str "none" from rfl, show dT none = Tr.non from rfl]
    walk_at "trun"
    exact φ
  | some x =>
    obtain ⟨h1, h2⟩ := hg x rfl
    rw [show fT (some x) = Tr.tup [x.1, .lst x.2] from rfl, show dT (some x) = Tr.tup [x.1, .lst x.2] from rfl]
    walk_at "trun"
    refine ite_t rfl ?_
    walk_at "trun"
    refine ro_alkT rfl (n := 8) (dp_cons h1 (dp_cons (.lst fun t ht => by obtain ⟨i, z, rfl⟩ := h2 t ht; exact .tup (dp_cons .int (dp_cons .str dp_nil))) dp_nil)) (by decide) Rk.fz Rk.fz ?_
    walk_at "trun"
    refine ⟨fun i τ => ∃ u : Sl, τ = [.fz (.tup [x.1, .lst x.2]), .fz (.tup [x.1, .lst x.2]), u], ⟨_, rfl⟩, ?_, ?_⟩
    · rintro i tt τ hi ⟨u, rfl⟩
      obtain ⟨j, z, rfl⟩ := h2 tt (List.mem_of_getElem? hi)
      walk_at "trun"
      exact ⟨_, rfl⟩
    · rintro τ ⟨u, rfl⟩
      walk_at "trun"
      exact φ
theorem AxAt.is {K : Fg} {H H' : Hp} {x : V} {sc : Tr} {ts : List Tr} (h : AxAt K H H' x sc ts) : Is K H' x (.tup [sc, .lst ts]) := by
  obtain ⟨p, v, l, xs, rfl, hp, _, hl, g, sa⟩ := h
  exact .tup (SqT.of hp) (.cons sa (.cons (.lst (SqL.of hl) g) .nil))
theorem a_isax {K : Fg} {H : Hp} {Q : VK} {E : XK} {x d : V} {o : AxO} (i1 : Is K H x (fT o)) (i2 : Is K H d (dT o)) (g : AxGood o) (k : ∀ H', Same H H' → Q (.bl true) H') : toSp K st_isax [x, d] H Q E :=
  toSp_at (a := (0 : Nat)) (as := [.fz (fT o), .fz (dT o)]) (Φ := fun k => k = .fz (.bl true)) (.cons i1 (.cons i2 .nil)) ⟨o, rfl, g, rfl⟩ fun v F' H' k' s _ _ r e => by
    subst e
    cases (show Is K F' v (.bl true) from r)
    exact k H' s
theorem alkL {K : Fg} {H : Hp} {p q : Addr} {xs ys : List V} {ts : List Tr} {n : Nat} (hp : SqL K H p xs) (hq : SqL K H q ys) (ix : IsL K H xs ts) (iy : IsL K H ys ts) (hn : n ≤ 100) (d : ∀ t ∈ ts, Dp n t) : AlikeS K H p q :=
  ⟨n, xs, ys, hn, .inr ⟨hp, hq⟩, by rw [ix.length, iy.length], fun j x y hx hy => by
    obtain ⟨a, ha, ia⟩ := ix.get2 hx
    obtain ⟨b, hb, ib⟩ := iy.get2 hy
    rw [ha] at hb
    cases hb
    exact alike_of (d a (List.mem_of_getElem? ha)) (Same.refl _) (Same.refl _) ia ib⟩
theorem fs_inv {f : Bool → Int → Option (Tr × List Tr)} {x : Tr × List Tr} : ∀ {l : List (Bool × Int)}, fstS f l = some x → ∃ y ∈ l, f y.1 y.2 = some x
  | [], h => nomatch h
  | y :: r, h => by
    cases e : f y.1 y.2 with
    | some z => rw [fs_some e] at h; cases h; exact ⟨y, List.mem_cons_self, e⟩
    | none => rw [fs_none e] at h; obtain ⟨z, h1, h2⟩ := fs_inv h; exact ⟨z, List.mem_cons_of_mem _ h1, h2⟩
theorem ax_is {ns : List Int} {len : Int} {up : Bool} {sc : Tr} {ts : List Tr} (h : axV ns len up = some (sc, ts)) : ∃ (a b : Int) (C : List Int), sc = dayT a b len ∧ ts = C.map (tckD a b len) ∧ (WOk ns len → C.length ≤ 1000) := by
  unfold axV at h
  obtain ⟨⟨mo, m⟩, hm, h⟩ := fs_inv h
  have h : tryD (loN ns) (hiN ns) len up mo m = some (sc, ts) := h
  unfold tryD at h
  split at h
  · rename_i c
    cases h
    refine ⟨_, _, _, rfl, rfl, fun ok => ?_⟩
    obtain ⟨m0, m1, lt, _⟩ := ab_ok (steps_ok _ hm) ok.d
    have l1 := ok.l1
    rw [cel_len]
    have ab : m * aV mo m (loN ns) < m * bV mo m (loN ns) (hiN ns) := Int.mul_lt_mul_of_pos_left lt m0
    have := fit_gap (by show 0 < _; omega) c.1
    have g6 : 6 * (bV mo m (loN ns) (hiN ns) - aV mo m (loN ns)) ≤ len := by
      rw [show m * bV mo m (loN ns) (hiN ns) - m * aV mo m (loN ns) = m * (bV mo m (loN ns) (hiN ns) - aV mo m (loN ns)) by rw [Int.mul_sub], show 6 * (m * (bV mo m (loN ns) (hiN ns) - aV mo m (loN ns))) = 6 * (bV mo m (loN ns) (hiN ns) - aV mo m (loN ns)) * m by grind] at this
      exact Int.le_of_mul_le_mul_right this m0
    show (bV mo m (loN ns) (hiN ns) - aV mo m (loN ns) + 1).toNat ≤ 1000
    omega
  · cases h
theorem ax_good (ns : List Int) (len : Int) (up : Bool) : AxGood (axV ns len up) := fun x hx => by
  obtain ⟨a, b, C, e1, e2, _⟩ := ax_is hx
  rw [e1, e2]
  refine ⟨.tup (dp_cons .str (dp_cons .int (dp_cons .int (dp_cons .int dp_nil)))), fun t ht => ?_⟩
  obtain ⟨k, _, rfl⟩ := List.mem_map.mp ht
  exact ⟨_, _, rfl⟩
theorem ne_lt {H : Hp} {p l : Addr} {xs ys : List V} (h1 : H p = some (.tup xs)) (h2 : H l = some (.lst ys)) : p ≠ l := fun z => by rw [z, h2] at h1; cases h1
def sp_right (K : Fg) : Sp := fun vs H Q _ => ∃ (wv cv dv : V) (ns : List Int) (len : Int) (up b : Bool), vs = [wv, cv, .int len, .str (wayS up), .bl b, dv] ∧ Is K H wv wT ∧ Is K H cv (.lst (ns.map Tr.int)) ∧ Is K H dv (dT (axV ns len up)) ∧ WOk ns len ∧ ∀ H', Same H H' → Q (.bl true) H'
theorem ok_l_right (T : Txt K mg t) : FnOk P w K mg base CX0 12 t.f_l_right t.d_l_right ["_law_wish", "_law_cells", "_law_length", "_law_way", "_law_nought", "_law_due_here"] (sp_right K) := by
  have G_l_asked := ok_l_asked (P := P) (w := w) (base := base) T
  have G_l_is_axis := okT_l_is_axis (P := P) (w := w) (base := base) T
  refine T.F_l_right.ok sc_l_right (fun vs H Q E h => ?_) (fun cdv A outer s H vs Q E hr h => ?_)
  · obtain ⟨_, _, _, _, _, _, _, rfl, _⟩ := h
    rfl
  obtain ⟨wv, cv, dv, ns, len, up, b, rfl, iw, ic, id, ok, q⟩ := h
  have dc : ∀ t ∈ ns.map Tr.int, Dp 5 t := fun t ht => by
    obtain ⟨c, _, rfl⟩ := List.mem_map.mp ht
    exact .int
  refine ⟨_, (psc (ps_set (i := 6) sc_l_right.nd rfl (Or.inl rfl) (pe_callTy call_list_of rfl T.z_list bt_list (pcn (pv 1) pnl)))
  (psc (ps_set (i := 7) sc_l_right.nd rfl (Or.inl rfl) (pe_call G_l_asked (hr.mono (by decide)) rfl T.m_l_asked T.k_l_asked T.b_l_asked .nil pass0 (pcn (pv 0) (pcn (pv 6) (pcn (pv 2) (pcn (pv 3) (pcn (pv 4) pnl)))))))
  (psc (ps_if (PW.pt (pw_or (pt_not (pt_val (pe_call G_l_is_axis (hr.mono (by decide)) rfl T.m_l_is_axis T.k_l_is_axis T.b_l_is_axis .nil pass0 (pcn (pv 7) (pcn (pv 5) pnl))))) (pw_or1 (pt_cmpR (op_neA hr.un150) (pv 6) (pv 1) (nomark _))))) (pso (ps_ret pe_bl)) pss_nil)
  (psc (ps_if (pt_cmpR op_notN' (pv 5) pe_non (nomark _)) (psc (ps_expr (pe_bm PySem.F.plainAttrs_list PySem.F.slot_list_append PySem.F.type_list_append mt_append (pe_ix ixt (pv 7) pei (fun _ _ => rfl)) (pcn (pe_tup (pcn (pv 2) (pcn pe_str pnl))) pnl)))
  (pso (ps_if (pt_val (pe_isi isi_list rfl rfl T.z_isinstance T.z_list bt_list (pe_ix ixt (pe_ix ixt (pv 7) pei (fun _ _ => rfl)) pei (fun _ _ => rfl)))) (pso (ps_expr (pe_bm PySem.F.plainAttrs_list PySem.F.slot_list_append PySem.F.type_list_append mt_append (pe_ix ixt (pe_ix ixt (pv 7) pei (fun _ _ => rfl)) pei (fun _ _ => rfl)) (pcn pe_str pnl)))) pss_nil))) pss_nil)
  (pso (ps_ret (pe_call G_l_is_axis (hr.mono (by decide)) rfl T.m_l_is_axis T.k_l_is_axis T.b_l_is_axis .nil pass0 (pcn (pe_call G_l_asked (hr.mono (by decide)) rfl T.m_l_asked T.k_l_asked T.b_l_asked .nil pass0 (pcn (pv 0) (pcn (pv 6) (pcn (pv 2) (pcn (pv 3) (pcn (pv 4) pnl)))))) (pcn (pv 5) pnl))))))))), z_go (σ := [some _, some _, some _, some _, some _, some _, none, none]) rfl ?_⟩
  have gd := ax_good ns len up
  cases ic with
  | @lst pc xs _ qc gc =>
  cases gc.ints
  walk_at "run"
  intro la ha
  have sa : Same H (upd H la (.lst (ns.map V.int))) := Same.new ha _
  have ea : (upd H la (.lst (ns.map V.int))) la = some (.lst (ns.map V.int)) := upd_same
  generalize upd H la (.lst (ns.map V.int)) = H1 at sa ea ⊢
  have iw := iw.same sa
  have id := id.same sa
  have gc := gc.same sa
  have qc := sa.seq qc
  have q : ∀ H', Same H1 H' → Q (.bl true) H' := fun H' s => q H' (sa.trans s)
  have fin : ∀ H5 (Qa : VK) E', Same H1 H5 → (∀ x H6, Same H5 H6 → Is K H6 x (fT (axV ns len up)) → Qa x H6) → sp_asked K [wv, .ref la, .int len, .str (wayS up), .bl b] H5 Qa E' := fun H5 Qa E' s5 k =>
    ⟨wv, la, ns, len, up, b, rfl, iw.same s5, s5 _ _ ea, ok, fun sc ts e x H' s a => k x H' s (by rw [e]; exact a.is), fun e H' s => k _ H' s (by rw [e]; exact .str)⟩
  walk_at "run"
  refine ⟨wv, la, ns, len, up, b, rfl, iw, ea, ok, fun sc ts e x H2 s2 a => ?_, fun e H2 s2 => ?_⟩
  · rw [e] at id gd
    walk_at "run"
    refine a_isax (o := some (sc, ts)) a.is (id.same s2) gd (fun H3 s3 => ?_)
    have s23 := s2.trans s3
    walk_at "run"
    refine z_alk (alkL (n := 5) (SqL.of (s23 _ _ ea)) (s23.seq qc) (gc.same s23) (gc.same s23) (by decide) dc) ?_
    walk_at "run"
    obtain ⟨p0, v, l, ys, rfl, hp, nl, hl, g, sc'⟩ := a
    have hp3 := s3 _ _ hp
    have hl3 := s3 _ _ hl
    have id0 := id
    cases id with
    | @tup pd yd _ hd gdd =>
    walk_at "run"
    obtain ⟨da, dbb, C, e1, e2, tl8⟩ := ax_is e
    subst e1
    have tl8 := tl8 ok
    have tl : ts.length = C.length := by rw [e2, List.length_map]
    have yl := g.length
    refine z_tyL (SqL.of hl3) ?_
    walk_at "run"
    rename_i p4 H4 n4 s4 e4
    have hl4 := s4 _ _ hl3
    have hp4 := s4 _ _ hp3
    have s14 := s23.trans s4
    refine z_append hl4 (Nat.lt_of_le_of_lt (show ys.length ≤ 1000 by omega) (by decide)) (fun H5 b5 e5 => ?_)
    have s15 : Same H1 H5 := s14.but nl b5
    have hp5 := b5 _ _ (ne_lt hp4 hl4) hp4
    have id5 : Is K H5 (.ref pd) (.tup [dayT da dbb len, .lst ts]) := id0.same s15
    cases sc' with
    | @tup qv zs _ hq gq =>
    cases gq with
    | @cons z0 _ _ _ g0 gq =>
    cases gq with
    | @cons z1 _ _ _ g1 gq =>
    cases g1
    have hq5 : SqT K H5 qv _ := b5.tup hl4 ((s3.trans s4).tup hq)
    walk_at "run"
    refine z_ixT hq5 (atI_nat (j := 1) rfl) ?_
    walk_at "run"
    refine fin H5 _ _ s15 (fun x H6 s6 ix => ?_)
    walk_at "run"
    rw [e] at ix
    refine a_isax (o := some (_, ts)) ix (id5.same s6) gd (fun H7 s7 => ?_)
    walk_at "run"
    exact q H7 (s15.trans (s6.trans s7))
  · rw [e] at id gd
    walk_at "run"
    refine a_isax (o := none) .str (id.same s2) gd (fun H3 s3 => ?_)
    have s23 := s2.trans s3
    walk_at "run"
    refine z_alk (alkL (n := 5) (SqL.of (s23 _ _ ea)) (s23.seq qc) (gc.same s23) (gc.same s23) (by decide) dc) ?_
    have id0 := id
    cases id
    walk_at "run"
    refine fin H3 _ _ s23 (fun x H6 s6 ix => ?_)
    walk_at "run"
    rw [e] at ix
    refine a_isax (o := none) ix .non gd (fun H7 s7 => ?_)
    walk_at "run"
    exact q H7 (s23.trans (s6.trans s7))
def st_right : SpT := fun _ as Φ _ => ∃ (ns : List Int) (len : Int) (up b : Bool), as = [.fz wT, .fz (.lst (ns.map Tr.int)), .fz (.int len), .fz (.str (wayS up)), .fz (.bl b), .fz (dT (axV ns len up))] ∧ WOk ns len ∧ Φ (.fz (.bl true))
theorem okT_l_right (T : Txt K mg t) : FnOk P w K mg base CX0 12 t.f_l_right t.d_l_right ["_law_wish", "_law_cells", "_law_length", "_law_way", "_law_nought", "_law_due_here"] (toSp K st_right) := by
  refine (ok_l_right (P := P) (w := w) (base := base) T).imp fun vs H Q E h => ?_
  obtain ⟨B, as, Φ, Ψ, rfl, rfl, bk, la, ⟨ns, len, up, b, rfl, ok, φ⟩, q, _⟩ := h
  cases la with
  | cons a0 la =>
  cases la with
  | cons a1 la =>
  cases la with
  | cons a2 la =>
  cases la with
  | cons a3 la =>
  cases la with
  | cons a4 la =>
  cases la with
  | cons a5 la =>
  cases la
  cases (show Is B.K B.F0 _ (.int len) from a2)
  cases (show Is B.K B.F0 _ (.str (wayS up)) from a3)
  cases (show Is B.K B.F0 _ (.bl b) from a4)
  exact ⟨_, _, _, ns, len, up, b, rfl, (show Is B.K B.F0 _ wT from a0).same bk.i, (show Is B.K B.F0 _ (.lst (ns.map Tr.int)) from a1).same bk.i, (show Is B.K B.F0 _ (dT (axV ns len up)) from a5).same bk.i, ok, fun H' sH => q (.bl true) _ H' (.fz (.bl true)) (upT bk rfl rfl sH) .bl φ⟩
def st_dof : SpT := fun _ as Φ _ => ∃ y m e : Int, as = [.fz (.int y), .fz (.int m), .fz (.int e)] ∧ My.Valid y m e ∧ Φ (.fz (.int (My.dayOf y m e)))
theorem okT_day_of (T : Txt K mg t) : FnOk P w K mg base (CXe P w) 3 t.f_day_of t.d_day_of ["year", "month", "day"] (toSp K st_dof) := by
  refine (ok_day_of (P := P) (w := w) (base := base) T).imp fun vs H Q E h => ?_
  obtain ⟨B, as, Φ, Ψ, rfl, rfl, bk, la, ⟨y, m, e, rfl, v, φ⟩, q, _⟩ := h
  cases la with
  | cons a0 la =>
  cases la with
  | cons a1 la =>
  cases la with
  | cons a2 la =>
  cases la
  cases (show Is B.K B.F0 _ (.int y) from a0)
  cases (show Is B.K B.F0 _ (.int m) from a1)
  cases (show Is B.K B.F0 _ (.int e) from a2)
  exact a_dayof (fun nv => absurd v nv) (fun _ H' sH => q (.int _) _ H' (.fz (.int _)) (upT bk rfl rfl sH) .int φ)
def st_ldays : SpT := fun B as Φ _ => as = [.wd] ∧ SrcB B ∧ ∀ ns : List Int, ns.length ≤ 100 → (∀ c ∈ ns, DIn c) → Φ (.nw (.lst (ns.map Tr.int)))
theorem okT_l_days (T : Txt K mg t) : FnOk P w K mg base CX0 5 t.f_l_days t.d_l_days ["_law_source_here"] (toSp K st_ldays) := by
  have G_day_of := okT_day_of (P := P) (w := w) (base := base) T
  have G_l_draw := okT_l_draw (P := P) (w := w) (base := base) T
  have G_l_great := okT_l_great (P := P) (w := w) (base := base) T
  have G_month_of := okT_month_of (P := P) (w := w) (base := base) T
  have G_month_begin := okT_month_begin (P := P) (w := w) (base := base) T
  refine T.F_l_days.ok sc_l_days (toSp_len (fun B as Φ Ψ h => by obtain ⟨rfl, _⟩ := h; rfl)) (fun cdv A outer s H vs Q E hr h => ?_)
  obtain ⟨B, as, Φ, Ψ, rfl, hS, hx, go⟩ := toSp_open h
  obtain ⟨rfl, hs, φ⟩ := hS
  refine ⟨_, (psc (ps_set (i := 1) sc_l_days.nd rfl (Or.inl rfl) (pe_call G_day_of (hr.mono (by decide)) rfl T.m_day_of T.k_day_of T.b_day_of .nil passE0 (pcn pei (pcn pei (pcn pei pnl)))))
  (psc (ps_set (i := 2) sc_l_days.nd rfl (Or.inl rfl) (pe_call G_day_of (hr.mono (by decide)) rfl T.m_day_of T.k_day_of T.b_day_of .nil passE0 (pcn pei (pcn pei (pcn pei pnl)))))
  (psc (ps_set (i := 3) sc_l_days.nd rfl (Or.inl rfl) (pe_op op_add (pv 1) (pe_call G_l_great (hr.mono (by decide)) rfl T.m_l_great T.k_l_great T.b_l_great .nil pass0 (pcn (pv 0) (pcn (pe_op op_add (pe_op op_sub (pv 2) (pv 1)) pei) pnl)))))
  (psc (ps_set (i := 4) sc_l_days.nd rfl (Or.inl rfl) (pe_call G_l_draw (hr.mono (by decide)) rfl T.m_l_draw T.k_l_draw T.b_l_draw .nil pass0 (pcn (pv 0) (pcn pei pnl))))
  (psc (ps_if (pt_cmpR op_eq (pv 4) pei (nomark _)) (pso (ps_set (i := 3) sc_l_days.nd rfl (Or.inl rfl) (pe_call G_month_begin (hr.mono (by decide)) rfl T.m_month_begin T.k_month_begin T.b_month_begin .nil pass0 (pcn (pe_call G_month_of (hr.mono (by decide)) rfl T.m_month_of T.k_month_of T.b_month_of .nil pass0 (pcn (pv 3) pnl)) pnl)))) pss_nil)
  (psc (ps_if (pt_cmpR op_eq (pv 4) pei (nomark _)) (pso (ps_set (i := 3) sc_l_days.nd rfl (Or.inl rfl) (pe_op op_sub (pv 3) (pe_op op_mod (pv 3) pei)))) pss_nil)
  (psc (ps_set (i := 5) sc_l_days.nd rfl (Or.inl rfl) (pe_ix ixl (pe_lst (pcn pei (pcn pei (pcn pei (pcn pei (pcn (pe_op op_pow pei pei) pnl)))))) (pe_call G_l_draw (hr.mono (by decide)) rfl T.m_l_draw T.k_l_draw T.b_l_draw .nil pass0 (pcn (pv 0) (pcn pei pnl))) (fun _ _ => rfl)))
  (psc (ps_set (i := 6) sc_l_days.nd rfl (Or.inl rfl) (pe_lst pnl))
  (psc (ps_for PassesOwn.never rfl (pi_range1 rfl T.z_range (pcn (pe_call G_l_draw (hr.mono (by decide)) rfl T.m_l_draw T.k_l_draw T.b_l_draw .nil pass0 (pcn (pv 0) (pcn pei pnl))) pnl)) (pg_name (i := 7) sc_l_days.nd rfl (Or.inl rfl)) (psc (ps_set (i := 8) sc_l_days.nd rfl (Or.inl rfl) (pe_op op_sub (pe_op op_add (pv 3) (pe_call G_l_great (hr.mono (by decide)) rfl T.m_l_great T.k_l_great T.b_l_great .nil pass0 (pcn (pv 0) (pcn (pe_op op_add (pe_op op_mulB pei (pv 5)) pei) pnl)))) (pv 5)))
  (pso (ps_expr (pe_bm PySem.F.plainAttrs_list PySem.F.slot_list_append PySem.F.type_list_append mt_append (pv 6) (pcn (pe_callB (call_max2 rfl) rfl T.z_max bt_max (pcn (pv 1) (pcn (pe_callB (call_min2 rfl) rfl T.z_min bt_min (pcn (pv 2) (pcn (pv 8) pnl))) pnl))) pnl))))))
  (pso (ps_ret (pv 6)))))))))))), go _ _ (s_go (τ := [.wd, .no, .no, .no, .no, .no, .no, .no, .no]) rfl ?_)⟩
  walk_at "trun"
  intro _ _
  refine ⟨1000, 1, 1, rfl, ⟨by decide, by decide, by decide, by decide, by decide, by decide⟩, ?_⟩
  walk_at "trun"
  intro _ _
  refine ⟨8999, 12, 31, rfl, ⟨by decide, by decide, by decide, by decide, by decide, by decide⟩, ?_⟩
  obtain ⟨L, hL, L0⟩ : ∃ L, My.dayOf 1000 1 1 = L ∧ L = 364877 := ⟨_, rfl, by decide⟩
  obtain ⟨U, hU, U0⟩ : ∃ U, My.dayOf 8999 12 31 = U ∧ U = 3286816 := ⟨_, rfl, by decide⟩
  rw [hL, hU]
  clear hL hU
  walk_at "trun"
  intro _ _
  refine a_great hs.now (by omega) fun g g0 g1 => ?_
  walk_at "trun"
  intro _ _
  refine a_drawT hs.now (by decide) (by decide) fun d1 d10 d11 => ?_
  generalize hb : L + g = b
  have b0 : 364877 ≤ b := by omega
  have b1 : b ≤ 3286816 := by omega
  clear hb g0 g1
  refine g_fz (by walk_at "ts") ?_
  refine s_seq ?_
  refine s_cut (fun τ' => ∃ b : Int, τ' = [.wd, .fz (.int L), .fz (.int U), .fz (.int b), .fz (.int d1), .no, .no, .no, .no] ∧ 364800 ≤ b ∧ b ≤ 3286816) ?_ ?_
  · walk_at "trun"
    refine z_iteD (fun z => ?_) (fun z => ?_)
    · walk_at "trun"
      intro _ _
      refine ⟨b, rfl, by omega, by omega, fun n hn n0 n1 => ?_⟩
      walk_at "trun"
      intro _ _
      refine ⟨n, rfl, n0, n1, ?_⟩
      walk_at "trun"
      have := hn.1
      have := hn.2
      have := (mB_step n).2
      exact ⟨_, rfl, by omega, by omega⟩
    · walk_at "trun"
      exact ⟨b, rfl, by omega, by omega⟩
  clear b0 b1
  rintro τ' ⟨b, rfl, b0, b1⟩
  refine s_seq ?_
  refine s_cut (fun τ' => ∃ b : Int, τ' = [.wd, .fz (.int L), .fz (.int U), .fz (.int b), .fz (.int d1), .no, .no, .no, .no] ∧ 364700 ≤ b ∧ b ≤ 3286816) ?_ ?_
  · walk_at "trun"
    refine z_iteD (fun z => ?_) (fun z => ?_)
    · walk_at "trun"
      exact ⟨_, rfl, by omega, by omega⟩
    · walk_at "trun"
      exact ⟨b, rfl, by omega, by omega⟩
  clear b0 b1
  rintro τ' ⟨b, rfl, b0, b1⟩
  walk_at "trun"
  intro _ _
  refine a_drawT hs.now (by decide) (by decide) fun d2 d20 d21 => ?_
  obtain ⟨sp, es, s0, s1⟩ : ∃ sp : Int, atI [Tr.int 0, .int 1, .int 40, .int 4000, .int ((10 : Int) ^ (6 : Int).toNat)] d2 = some (.int sp) ∧ 0 ≤ sp ∧ sp ≤ 1000000 := by
    have : d2 = 0 ∨ d2 = 1 ∨ d2 = 2 ∨ d2 = 3 ∨ d2 = 4 := by omega
    rcases this with rfl | rfl | rfl | rfl | rfl
    · exact ⟨_, rfl, by decide, by decide⟩
    · exact ⟨_, rfl, by decide, by decide⟩
    · exact ⟨_, rfl, by decide, by decide⟩
    · exact ⟨_, rfl, by decide, by decide⟩
    · exact ⟨_, rfl, by decide, by decide⟩
  walk_at "trun"
  refine ro_ixL rfl Rk.fz es ?_
  have msp : Mid sp := midY (by omega) (by omega)
  walk_at "trun"
  intro _ _
  refine a_drawT hs.now (by decide) (by decide) fun d3 d30 d31 => ?_
  refine ⟨_, rfl, ⟨by omega, by omega⟩, ?_⟩
  refine ⟨fun i τ => ∃ (ns : List Int) (u7 u8 : Sl), τ = [.wd, .fz (.int L), .fz (.int U), .fz (.int b), .fz (.int d1), .fz (.int sp), .own (.lst (ns.map Tr.int)), u7, u8] ∧ ns.length ≤ i ∧ ∀ c ∈ ns, DIn c, ⟨[], _, _, rfl, Nat.le_refl _, fun _ h => absurd h List.not_mem_nil⟩, ?_, ?_⟩
  · rintro i tt τ hi ⟨ns, u7, u8, rfl, hl, hq⟩
    obtain ⟨hi, rfl⟩ := rangeT_at hi
    have wl : (ns.map Tr.int).length ≤ 10000 := by rw [List.length_map]; omega
    walk_at "trun"
    intro _ _
    refine a_great hs.now (by omega) fun e e0 e1 => ?_
    walk_at "trun"
    refine ⟨ns ++ [_], _, _, by rw [List.map_append]; rfl, by rw [List.length_append]; show _ + 1 ≤ _; omega, fun c hc => ?_⟩
    rcases List.mem_append.mp hc with z | z
    · exact hq c z
    · rw [List.mem_singleton.mp z]
      constructor
      · repeat split
        all_goals omega
      · repeat split
        all_goals omega
  · rintro τ ⟨ns, u7, u8, rfl, hl, hq⟩
    rw [rangeT_len] at hl
    walk_at "trun"
    exact rt_sl (by walk_at "tg") (φ ns (by omega) hq)
theorem ceil_lt {m h c : Int} (m0 : 0 < m) : m * c < h ↔ c < -(-h / m) := by
  have := Int.le_ediv_iff_mul_le (a := -c) (b := -h) m0
  rw [Int.neg_mul, Int.mul_comm c m] at this
  omega
theorem gal_m {hi n : Int} (d : DIn hi) : mB n < hi ↔ n < hiV true hi := by
  obtain ⟨_, _, h1, h2⟩ := mO_ok d
  unfold hiV
  rw [if_pos rfl]
  split
  · rename_i e
    constructor
    · intro h
      rcases Int.lt_or_le n (mO hi) with z | z
      · exact z
      · have := mB_le z; omega
    · intro h
      have := mB_lt h; omega
  · rename_i e
    constructor
    · intro h
      rcases Int.lt_or_le n (mO hi + 1) with z | z
      · exact z
      · have := mB_le z; omega
    · intro h
      have := mB_le (show n ≤ mO hi by omega); omega
theorem gal_b {m lo hi c : Int} (m0 : 0 < m) (d : DIn hi) (hc : aV true m lo + 1 ≤ c) : mB (m * c) < hi ↔ c < bV true m lo hi := by
  rw [gal_m d, ceil_lt m0]
  unfold bV mxV
  split <;> omega
def st_lmonths : SpT := fun _ as Φ _ => ∃ m lo hi : Int, as = [.fz (.int m), .fz (.int lo), .fz (.int hi)] ∧ StepOk true m ∧ DOk lo hi ∧ Φ (.nw (.lst ((List.range (bV true m lo hi - aV true m lo + 1).toNat).map fun k : Nat => .int (m * aV true m lo + (k : Int) * m))))
theorem okT_l_months (T : Txt K mg t) : FnOk P w K mg base CX0 5 t.f_l_months t.d_l_months ["_law_step", "_law_least", "_law_greatest"] (toSp K st_lmonths) := by
  have G_month_of := okT_month_of (P := P) (w := w) (base := base) T
  have G_month_begin := okT_month_begin (P := P) (w := w) (base := base) T
  refine T.F_l_months.ok sc_l_months (toSp_len (fun B as Φ Ψ h => by obtain ⟨_, _, _, rfl, _⟩ := h; rfl)) (fun cdv A outer s H vs Q E hr h => ?_)
  obtain ⟨B, as, Φ, Ψ, rfl, hS, hx, go⟩ := toSp_open h
  obtain ⟨m, lo, hi, rfl, sok, dok, φ⟩ := hS
  obtain ⟨m0, m1, lt, k1, _⟩ := ab_ok sok dok
  obtain ⟨k1, k2⟩ := k1 rfl
  obtain ⟨x1, x2, x3⟩ := mO_ok dok.l
  have l1 := dok.l.a
  have l2 := dok.h.b
  have l3 := dok.le
  have mm : Mid m := midY (by omega) (by omega)
  have gal : ∀ c : Int, aV true m lo + 1 ≤ c → (mB (m * c) < hi ↔ c < bV true m lo hi) := fun c hc => gal_b m0 dok.h hc
  have ea : mO lo / m = aV true m lo := rfl
  have qa := Int.ediv_le_self m (show 0 ≤ mO lo by omega)
  have qb := Int.ediv_nonneg (show 0 ≤ mO lo by omega) (show 0 ≤ m by omega)
  have ma : Mid (mO lo / m) := midY (by omega) (by omega)
  refine ⟨_, (psc (ps_set (i := 3) sc_l_months.nd rfl (Or.inr rfl) (pe_op op_mulB (pe_op op_fdivB (pe_call G_month_of (hr.mono (by decide)) rfl T.m_month_of T.k_month_of T.b_month_of .nil pass0 (pcn (pv 1) pnl)) (pv 0)) (pv 0)))
  (psc (ps_set (i := 4) sc_l_months.nd rfl (Or.inl rfl) (pe_op op_add (pv 3) (pv 0)))
  (psc (ps_while PassesOwn.never (pt_cmpR op_lt (pe_call G_month_begin (hr.mono (by decide)) rfl T.m_month_begin T.k_month_begin T.b_month_begin .nil pass0 (pcn (pv 4) pnl)) (pv 2) (nomark _)) (pso (ps_set (i := 4) sc_l_months.nd rfl (Or.inl rfl) (pe_op op_add (pv 4) (pv 0)))))
  (pso (ps_ret (pe_lc rfl (compOk_of (fr := [("_law_step", 0), ("_law_first", 3)]) (osc := defScope s_l_months) (N := ["_law_step", "_law_least", "_law_greatest", "_law_first", "_law_last"]) rfl rfl (by decide +kernel)) (pi_range1 rfl T.z_range (pcn (pe_op op_add (pe_op op_fdivB (pe_op op_sub (pv 4) (pv 3)) (pv 0)) pei) pnl)) (fun _ _ _ _ _ => (pe_op op_add (pv 2) (pe_op op_mulB (pv 1) (pv 0)))))))))), go _ _ (s_go (τ := [.fz _, .fz _, .fz _, .no, .no]) rfl ?_)⟩
  walk_at "trun"
  intro _ _
  refine ⟨lo, rfl, by omega, by omega, fun n hn _ _ => ?_⟩
  have en := mO_is hn
  subst en
  walk_at "trun"
  rw [ea]
  generalize aV true m lo = a at *
  generalize bV true m lo hi = b at *
  have bm : ∀ c : Int, a ≤ c → c ≤ b → 12000 ≤ m * c ∧ m * c ≤ 108000 := fun c h1 h2 => by
    have e1 := Int.mul_le_mul_of_nonneg_left h1 (show 0 ≤ m by omega)
    have e2 := Int.mul_le_mul_of_nonneg_left h2 (show 0 ≤ m by omega)
    omega
  refine s_while (fun n τ => ∃ c : Int, n = (b - c).toNat ∧ a + 1 ≤ c ∧ c ≤ b ∧ τ = [.fz (.int m), .fz (.int lo), .fz (.int hi), .fz (.int (a * m)), .fz (.int (m * c))]) (b - (a + 1)).toNat ⟨a + 1, rfl, by omega, by omega, by rw [Int.mul_add, Int.mul_one, Int.mul_comm a m]⟩ ?_
  rintro n τ ⟨c, rfl, c0, c1, rfl⟩
  obtain ⟨e1, e2⟩ := bm c (by omega) c1
  walk_at "trun"
  intro _ _
  refine ⟨m * c, rfl, by omega, by omega, ?_⟩
  walk_at "trun"
  refine z_iteD (fun h => ?_) (fun h => ?_)
  · have := (gal c c0).mp h
    walk_at "trun"
    exact ⟨(b - (c + 1)).toNat, by omega, c + 1, rfl, by omega, by omega, by rw [Int.mul_add, Int.mul_one]⟩
  · have cb : c = b := by
      have := mt (gal c c0).mpr h
      omega
    subst cb
    have md : (m * c - a * m) / m = c - a := by
      rw [Int.mul_comm a m, ← Int.mul_sub, Int.mul_ediv_cancel_left _ (by omega)]
    have e3 := bm a (by omega) (by omega)
    have cm := Int.mul_comm a m
    walk_at "trun"
    refine e_lc (i_rng1 ?_)
    have md2 : Mid (m * c - a * m) := midY (by omega) (by omega)
    walk_at "trun"
    rw [md]
    have gs : c - a ≤ 96000 := by
      have : (c - a) * 1 ≤ (c - a) * m := Int.mul_le_mul_of_nonneg_left (by omega) (by omega)
      rw [Int.sub_mul c a m, Int.mul_comm c m] at this
      omega
    refine ⟨⟨by omega, by omega⟩, _, .fz (by walk_at "tg") (.fz (by walk_at "tg") .nil), ?_, fun j o => o = .int (m * a + (j : Int) * m), fun j tt ht => ?_, fun os hl2 ho => ?_⟩
    · rw [rangeT_len]
      omega
    · obtain ⟨hj, rfl⟩ := rangeT_at ht
      have mj : Mid (0 + (j : Nat) : Int) := midY (by omega) (by omega)
      walk_at "trun"
      rw [Int.mul_comm m a, Int.zero_add, Int.mul_comm m]
    rw [rangeT_len] at hl2
    obtain rfl := lc_rng hl2 ho
    exact .inl φ
structure COk (C : List Int) (x0 x1 : Int) : Prop where
  n0 : 2 ≤ C.length
  n1 : C.length ≤ 1000
  b : ∀ c ∈ C, 0 ≤ c ∧ c ≤ 3652058
  c0 : C[0]? = some x0
  cN : C[C.length - 1]? = some x1
  lt : x0 < x1
def fitV (C : List Int) (x0 x1 len : Int) (up : Bool) : Bool := decide ((if up = true then 12 else 66) * (x1 - x0) ≤ len * mnV (difL C))
def st_lfit : SpT := fun _ as Φ _ => ∃ (C : List Int) (x0 x1 len : Int) (up : Bool), as = [.fz (.lst (C.map Tr.int)), .fz (.int len), .fz (.str (wayS up))] ∧ COk C x0 x1 ∧ 24 ≤ len ∧ len ≤ 2000 ∧ Φ (.fz (.bl (fitV C x0 x1 len up)))
theorem okT_l_fit (T : Txt K mg t) : FnOk P w K mg base CX0 1 t.f_l_fit t.d_l_fit ["_law_days_here", "_law_length", "_law_way"] (toSp K st_lfit) := by
  refine T.F_l_fit.ok sc_l_fit (toSp_len (fun B as Φ Ψ h => by obtain ⟨_, _, _, _, _, rfl, _⟩ := h; rfl)) (fun cdv A outer s H vs Q E hr h => ?_)
  obtain ⟨B, as, Φ, Ψ, rfl, hS, hx, go⟩ := toSp_open h
  obtain ⟨C, x0, x1, len, up, rfl, ok, l0, l1, φ⟩ := hS
  refine ⟨_, (psc (ps_set (i := 3) sc_l_fit.nd rfl (Or.inl rfl) (pe_op op_sub (pe_ix ixl (pv 0) (pe_un un_neg pei) (fun _ _ => rfl)) (pe_ix ixl (pv 0) pei (fun _ _ => rfl))))
  (psc (ps_set (i := 4) sc_l_fit.nd rfl (Or.inl rfl) (pe_callB (call_minL rfl) rfl T.z_min bt_min (pcn (pe_lc rfl (compOk_of (fr := [("_law_days_here", 0)]) (osc := defScope s_l_fit) (N := ["_law_days_here", "_law_length", "_law_way", "_law_total", "_law_least"]) rfl rfl (by decide +kernel)) (pi_range1 rfl T.z_range (pcn (pe_op op_sub (pe_callB call_len_seq rfl T.z_len PySem.boot_len (pcn (pv 0) pnl)) pei) pnl)) (fun _ _ _ _ _ => (pe_op op_sub (pe_ix (r := rIxL B.K) ixl (pv 1) (pe_op op_add (pv 0) pei) (fun _ _ => rfl)) (pe_ix (r := rIxL B.K) ixl (pv 1) (pv 0) (fun _ _ => rfl))))) pnl)))
  (pso (ps_ret (pe_cmpR op_ge (pe_op op_mulB (pv 1) (pv 4)) (pe_op op_mulB (pe_ix ixl (pe_lst (pcn pei (pcn pei pnl))) (pe_callTy call_int1 rfl T.z_int bt_int (pcn (pe_cmpR op_eq (pv 2) pe_str (nomark _)) pnl)) (fun _ _ => rfl)) (pv 3)) (nomark _)))))), go _ _ (s_go (τ := [.fz _, .fz _, .fz _, .no, .no]) rfl ?_)⟩
  walk_at "trun"
  refine ro_ixL rfl Rk.fz (atI_last (by rw [List.length_map]; exact map_at ok.cN)) ?_
  walk_at "trun"
  refine ro_ixL rfl Rk.fz (atI_first (map_at ok.c0)) ?_
  walk_at "trun"
  have n0 := ok.n0
  have n1 := ok.n1
  have dl := dif_len (xs := C)
  have dne : difL C ≠ [] := fun z => by rw [z] at dl; simp at dl; omega
  have mn := mnV_is dne
  have db : ∀ d ∈ difL C, -4000000 ≤ d ∧ d ≤ 4000000 := fun d hd => by
    obtain ⟨j, hj, e⟩ := List.getElem_of_mem hd
    have e0 : C[j]? = some (C[j]'(by omega)) := List.getElem?_eq_getElem _
    have e1 : C[j + 1]? = some (C[j + 1]'(by omega)) := List.getElem?_eq_getElem _
    have ed := dif_at e0 e1
    rw [List.getElem?_eq_getElem hj, e] at ed
    have ed := Option.some.inj ed
    have := ok.b _ (List.mem_of_getElem? e0)
    have := ok.b _ (List.mem_of_getElem? e1)
    omega
  obtain ⟨s0, s1⟩ := db _ mn.1
  have xb0 := ok.b _ (List.mem_of_getElem? ok.c0)
  have xb1 := ok.b _ (List.mem_of_getElem? ok.cN)
  refine e_lc (i_rng1 ?_)
  walk_at "trun"
  rw [List.length_map]
  refine ⟨⟨by omega, by omega⟩, _, .fz (by walk_at "tg") .nil, by rw [rangeT_len]; omega, fun j o => ∃ d, (difL C)[j]? = some d ∧ o = .int d, fun j tt ht => ?_, fun os hl2 ho => ?_⟩
  · obtain ⟨hj, rfl⟩ := rangeT_at ht
    rw [Int.zero_add]
    have e0 : C[j]? = some (C[j]'(by omega)) := List.getElem?_eq_getElem _
    have e1 : C[j + 1]? = some (C[j + 1]'(by omega)) := List.getElem?_eq_getElem _
    walk_at "trun"
    refine ro_ixL rfl Rk.fz (show atI (C.map Tr.int) ((j : Nat) + 1 : Int) = some (.int _) by rw [show ((j : Nat) + 1 : Int) = ((j + 1 : Nat) : Int) by omega]; exact atI_nat (map_at e1)) ?_
    walk_at "trun"
    refine ro_ixL rfl Rk.fz (atI_nat (map_at e0)) ?_
    walk_at "trun"
    exact ⟨_, dif_at e0 e1, rfl⟩
  obtain rfl := lc_maps (xs := difL C) (by rw [hl2, rangeT_len, dl]; omega) ho
  walk_at "trun"
  refine ru_minL rfl Rk.fz mn ?_
  unfold fitV at φ
  generalize mnV (difL C) = sh at *
  have msh : Mid sh := midY (by omega) (by omega)
  have mle : Mid len := midY (by omega) (by omega)
  have mto : Mid (x1 - x0) := midY (by omega) (by omega)
  cases up with
  | true =>
    rw [show wayS true = "upright" from rfl]
    rw [if_pos rfl] at φ
    walk_at "trun"
    exact φ
  | false =>
    rw [show wayS false = "level" from rfl]
    rw [if_neg Bool.false_ne_true] at φ
    walk_at "trun"
    exact φ
def st_laxis : SpT := fun _ as Φ _ => ∃ (C : List Int) (x0 x1 len : Int), as = [.fz (.lst (C.map Tr.int)), .fz (.int len)] ∧ COk C x0 x1 ∧ 24 ≤ len ∧ len ≤ 2000 ∧ Φ (.fz (.tup [dayT x0 x1 len, .lst (C.map (tckD x0 x1 len))]))
theorem okT_l_axis (T : Txt K mg t) : FnOk P w K mg base CX0 5 t.f_l_axis t.d_l_axis ["_law_days_here", "_law_length"] (toSp K st_laxis) := by
  have G_show_day := okT_show_day (P := P) (w := w) (base := base) T
  refine T.F_l_axis.ok sc_l_axis (toSp_len (fun B as Φ Ψ h => by obtain ⟨_, _, _, _, rfl, _⟩ := h; rfl)) (fun cdv A outer s H vs Q E hr h => ?_)
  obtain ⟨B, as, Φ, Ψ, rfl, hS, hx, go⟩ := toSp_open h
  obtain ⟨C, x0, x1, len, rfl, ok, l0, l1, φ⟩ := hS
  refine ⟨_, (psc (ps_set (i := 2) sc_l_axis.nd rfl (Or.inr rfl) (pe_op op_sub (pe_ix ixl (pv 0) (pe_un un_neg pei) (fun _ _ => rfl)) (pe_ix ixl (pv 0) pei (fun _ _ => rfl))))
  (psc (ps_setLC (iy := 3) sc_l_axis.nd rfl (Or.inl rfl) rfl (compOk_of (fr := [("_law_days_here", 0), ("_law_length", 1), ("_law_total", 2)]) (osc := defScope s_l_axis) (N := ["_law_days_here", "_law_length", "_law_total", "_law_ticks"]) rfl rfl (by decide +kernel)) (pi_list (pv 0)) (fun _ _ _ _ _ => (pe_tup (pcn (pe_op op_fdivB (pe_op op_add (pe_op op_mulB (pe_op op_mulB pei (pv 2)) (pe_op op_sub (pv 0) (pe_ix (r := rIxL B.K) ixl (pv 1) pei (fun _ _ => rfl)))) (pv 3)) (pe_op op_mulB pei (pv 3))) (pcn (pe_call G_show_day (hr.mono (by decide)) rfl T.m_show_day T.k_show_day T.b_show_day .nil pass0 (pcn (pv 0) pnl)) pnl)))))
  (pso (ps_ret (pe_tup (pcn (pe_tup (pcn pe_str (pcn (pe_ix ixl (pv 0) pei (fun _ _ => rfl)) (pcn (pe_ix ixl (pv 0) (pe_un un_neg pei) (fun _ _ => rfl)) (pcn (pv 1) pnl))))) (pcn (pv 3) pnl))))))), go _ _ (s_go (τ := [.fz _, .fz _, .no, .no]) rfl ?_)⟩
  walk_at "trun"
  refine ro_ixL rfl Rk.fz (atI_last (by rw [List.length_map]; exact map_at ok.cN)) ?_
  walk_at "trun"
  refine ro_ixL rfl Rk.fz (atI_first (map_at ok.c0)) ?_
  walk_at "trun"
  have n1 := ok.n1
  have lt := ok.lt
  have xb0 := ok.b _ (List.mem_of_getElem? ok.c0)
  have xb1 := ok.b _ (List.mem_of_getElem? ok.cN)
  have m2 : Mid (2 * len) := midY (by omega) (by omega)
  have m3 : Mid len := midY (by omega) (by omega)
  have m4 : Mid (2 * (x1 - x0)) := midY (by omega) (by omega)
  have m5 : Mid (x1 - x0) := midY (by omega) (by omega)
  refine e_lc (i_list rfl ?_)
  walk_at "trun"
  refine ⟨_, .fz (by walk_at "tg") (.fz (by walk_at "tg") (.fz (by walk_at "tg") .nil)), by rw [List.length_map]; omega, fun j o => ∃ c, C[j]? = some c ∧ o = tckD x0 x1 len c, fun j tt ht => ?_, fun os hl2 ho => ?_⟩
  · obtain ⟨c, hc, rfl⟩ := of_map_at ht
    have cb := ok.b c (List.mem_of_getElem? hc)
    have mc : Mid (c - x0) := midY (by omega) (by omega)
    walk_at "trun"
    refine ro_ixL rfl Rk.fz (atI_first (map_at ok.c0)) ?_
    walk_at "trun"
    intro _ _
    refine ⟨c, rfl, by omega, by omega, fun _ => ?_⟩
    walk_at "trun"
    refine ⟨c, hc, ?_⟩
    unfold tckD
    rw [show 2 * len * (c - x0) = 2 * ((c - x0) * len) by grind]
  obtain rfl := lc_maps (xs := C) (f := tckD x0 x1 len) (by rw [hl2, List.length_map]) ho
  walk_at "trun"
  refine ro_ixL rfl Rk.fz (atI_first (map_at ok.c0)) ?_
  walk_at "trun"
  refine ro_ixL rfl Rk.fz (atI_last (by rw [List.length_map]; exact map_at ok.cN)) ?_
  walk_at "trun"
  exact φ
theorem mo_find2 {d n0 : Int} : ∀ k : Nat, mB n0 ≤ d → d < mB (n0 + (k : Int)) → ∃ n, n0 ≤ n ∧ n < n0 + (k : Int) ∧ MoIs d n
  | 0, h, g => by simp at g; omega
  | k + 1, h, g => by
    rcases Int.lt_or_le d (mB (n0 + (k : Int))) with z | z
    · obtain ⟨n, h1, h2, h3⟩ := mo_find2 k h z
      exact ⟨n, h1, by omega, h3⟩
    · exact ⟨n0 + (k : Int), by omega, by omega, z, by rw [show n0 + ((k + 1 : Nat) : Int) = n0 + (k : Int) + 1 by omega] at g; exact g⟩
theorem shD_ten {c : Int} (h0 : 364000 ≤ c) (h1 : c ≤ 3287000) : (shD c).length = 10 := by
  have a0 : mB 11000 ≤ 364000 := by decide
  have a1 : 3287000 < mB 109000 := by decide
  obtain ⟨n, n0, n1, hn⟩ := mo_find2 (d := c) (n0 := 11000) 98000 (by omega) (by rw [show (11000 : Int) + ((98000 : Nat) : Int) = 109000 from rfl]; omega)
  have h2 := hn.1
  have h3 := hn.2
  rw [mB_next] at h3
  have v : My.Valid (n / 12) (n % 12 + 1) (c - mB n + 1) := ⟨by omega, by omega, by omega, by omega, by omega, by omega⟩
  have ed : My.dayOf (n / 12) (n % 12 + 1) (c - mB n + 1) = c := by
    have : mB n = My.dayOf (n / 12) (n % 12 + 1) 1 := rfl
    unfold My.dayOf at this ⊢
    omega
  obtain ⟨e1, e2⟩ := shD_is (z := ⟨⟨My.dtx (n / 12).toNat (n % 12 + 1).toNat (c - mB n + 1).toNat⟩⟩) v ed rfl
  rw [e1]
  exact e2
theorem lng_ten {C : List Int} (hne : C ≠ []) (h : ∀ c ∈ C, 364000 ≤ c ∧ c ≤ 3287000) : lng (C.map shD) = 10 := by
  have h1 : ∀ z ∈ C.map shD, z.length = 10 := fun z hz => by
    obtain ⟨c, hc, rfl⟩ := List.mem_map.mp hz
    exact shD_ten (h c hc).1 (h c hc).2
  rcases lng_mem (C.map shD) with e | ⟨t, ht, e⟩
  · obtain ⟨c, r, rfl⟩ := List.exists_cons_of_ne_nil hne
    have := lng_ge _ _ (List.mem_map.mpr ⟨c, List.mem_cons_self, rfl⟩ : shD c ∈ (c :: r).map shD)
    have := h1 (shD c) (List.mem_map.mpr ⟨c, List.mem_cons_self, rfl⟩)
    omega
  · have := h1 t ht
    omega
theorem mul_le {k a b len m : Int} (m0 : 0 < m) : k * (m * b - m * a) ≤ len * m ↔ k * (b - a) ≤ len := by
  rw [← Int.mul_sub, show k * (m * (b - a)) = k * (b - a) * m by grind]
  exact ⟨fun h => Int.le_of_mul_le_mul_right h m0, fun h => Int.mul_le_mul_of_nonneg_right h (by omega)⟩
structure CelF (mo : Bool) (m a b : Int) (C : List Int) : Prop where
  ne : C ≠ []
  n0 : 2 ≤ C.length
  c0 : C[0]? = some (fV mo (m * a))
  cN : C[C.length - 1]? = some (fV mo (m * b))
  bd : ∀ c ∈ C, 364000 ≤ c ∧ c ≤ 3287000
  lt : fV mo (m * a) < fV mo (m * b)
  sh : 0 < mnV (difL C)
  far : (b - a) * mnV (difL C) ≤ fV mo (m * b) - fV mo (m * a)
theorem cel_f {mo : Bool} {m lo hi : Int} (s : StepOk mo m) (d : DOk lo hi) : CelF mo m (aV mo m lo) (bV mo m lo hi) (celV mo m lo hi) := by
  obtain ⟨m0, m1, lt, _⟩ := ab_ok s d
  have fb : ∀ n, m * aV mo m lo ≤ n → n ≤ m * bV mo m lo hi → 364000 ≤ fV mo n ∧ fV mo n ≤ 3287000 ∧ _ := fun n h1 h2 => f_bd s d h1 h2
  have ca := fun j h => cel_at (mo := mo) (m := m) (lo := lo) (hi := hi) (j := j) h
  have cl := cel_len (mo := mo) (m := m) (lo := lo) (hi := hi)
  have celdef : celV mo m lo hi = (List.range (bV mo m lo hi - aV mo m lo + 1).toNat).map fun j : Nat => fV mo (m * aV mo m lo + (j : Int) * m) := rfl
  generalize aV mo m lo = a at *
  generalize bV mo m lo hi = b at *
  generalize celV mo m lo hi = C at *
  have ab : m * a < m * b := Int.mul_lt_mul_of_pos_left lt m0
  have Ci : ∀ j : Nat, j < (b - a + 1).toNat → m * a ≤ m * a + (j : Int) * m ∧ m * a + (j : Int) * m ≤ m * b := fun j hj => cel_end m0 (by omega)
  have dl := dif_len (xs := C)
  have dne : difL C ≠ [] := fun z => by rw [z, cl] at dl; simp at dl; omega
  have mn := mnV_is dne
  have en : m * a + (((b - a).toNat : Nat) : Int) * m = m * b := by rw [show (((b - a).toNat : Nat) : Int) = b - a by omega, Int.sub_mul, Int.mul_comm b m, Int.mul_comm a m]; omega
  have df : ∀ j : Nat, j + 1 < (b - a + 1).toNat → (difL C)[j]? = some (fV mo (m * a + ((j + 1 : Nat) : Int) * m) - fV mo (m * a + (j : Int) * m)) := fun j hj => dif_at (ca j (by omega)) (ca (j + 1) hj)
  have far : ∀ k : Nat, (k : Int) ≤ b - a → fV mo (m * a) + (k : Int) * mnV (difL C) ≤ fV mo (m * a + (k : Int) * m) := by
    intro k
    induction k with
    | zero => intro _; simp
    | succ k ih =>
      intro hk
      have h1 := ih (by omega)
      have h2 := mn.2 _ (List.mem_of_getElem? (df k (by omega)))
      rw [show ((k + 1 : Nat) : Int) * mnV (difL C) = (k : Int) * mnV (difL C) + mnV (difL C) by rw [Int.natCast_add, Int.add_mul]; simp]
      omega
  exact {
    ne := fun z => by rw [z] at cl; simp at cl; omega
    n0 := by rw [cl]; omega
    c0 := by
      have := ca 0 (by omega)
      rw [show m * a + ((0 : Nat) : Int) * m = m * a by simp] at this
      exact this
    cN := by
      have := ca (b - a).toNat (by omega)
      rw [en] at this
      rw [cl, show (b - a + 1).toNat - 1 = (b - a).toNat by omega]
      exact this
    bd := fun c hc => by
      rw [celdef] at hc
      obtain ⟨j, hj, rfl⟩ := List.mem_map.mp hc
      obtain ⟨c1, c2⟩ := Ci j (List.mem_range.mp hj)
      obtain ⟨y1, y2, _⟩ := fb _ c1 c2
      exact ⟨y1, y2⟩
    lt := f_mono ab
    sh := by
      obtain ⟨j, hj, e⟩ := List.getElem_of_mem mn.1
      have := df j (by omega)
      rw [List.getElem?_eq_getElem hj, e] at this
      have := Option.some.inj this
      have hlt : fV mo (m * a + (j : Int) * m) < fV mo (m * a + ((j + 1 : Nat) : Int) * m) := f_mono (by rw [show ((j + 1 : Nat) : Int) * m = (j : Int) * m + m by rw [Int.natCast_add, Int.add_mul]; simp]; omega)
      omega
    far := by
      have := far (b - a).toNat (by omega)
      rw [en, show (((b - a).toNat : Nat) : Int) = b - a by omega] at this
      omega }
theorem try_is {mo up : Bool} {m lo hi len : Int} (s : StepOk mo m) (d : DOk lo hi) : tryD lo hi len up mo m = if 12 * (bV mo m lo hi - aV mo m lo) ≤ len ∧ fitV (celV mo m lo hi) (fV mo (m * aV mo m lo)) (fV mo (m * bV mo m lo hi)) len up = true then some (resD mo m lo hi len) else none := by
  obtain ⟨m0, m1, lt, _⟩ := ab_ok s d
  have F := cel_f s d
  have L := lng_ten F.ne F.bd
  have ab : m * aV mo m lo < m * bV mo m lo hi := Int.mul_lt_mul_of_pos_left lt m0
  have f1 := F.sh
  have f2 := F.far
  have f3 := F.lt
  unfold tryD fitV
  generalize mnV (difL (celV mo m lo hi)) = sh at *
  generalize fV mo (m * aV mo m lo) = x0 at *
  generalize fV mo (m * bV mo m lo hi) = x1 at *
  have e0 : lng [] = 0 := rfl
  cases up with
  | true =>
    split
    · rename_i c
      rw [fit_up (by omega), fit_up (by omega), mul_le m0] at c
      rw [if_pos ⟨c.1, decide_eq_true (by rw [if_pos rfl]; exact c.2)⟩]
    · rename_i c
      rw [fit_up (by omega), fit_up (by omega), mul_le m0] at c
      rw [if_neg fun e => c ⟨e.1, by have := of_decide_eq_true e.2; rw [if_pos rfl] at this; exact this⟩]
  | false =>
    have sm : 66 * (bV mo m lo hi - aV mo m lo) * sh ≤ 66 * (x1 - x0) := by rw [Int.mul_assoc]; omega
    split
    · rename_i c
      rw [fit_lv (by omega), fit_lv (by omega), e0, L, show (6 + 6 * 0 : Int) = 6 from rfl, mul_le m0] at c
      obtain ⟨⟨_, c1⟩, _, c2⟩ := c
      have c2 : 66 * (x1 - x0) ≤ len * sh := c2
      have := Int.le_of_mul_le_mul_right (Int.le_trans sm c2) f1
      rw [if_pos ⟨by omega, decide_eq_true (by rw [if_neg Bool.false_ne_true]; exact c2)⟩]
    · rename_i c
      rw [fit_lv (by omega), fit_lv (by omega), e0, L, show (6 + 6 * 0 : Int) = 6 from rfl, mul_le m0] at c
      rw [if_neg fun e => c ⟨⟨by decide, by have := e.1; omega⟩, by decide, by have := of_decide_eq_true e.2; rw [if_neg Bool.false_ne_true] at this; exact this⟩]
theorem mo_reach {m lo hi len : Int} (s : StepOk true m) (d : DOk lo hi) : 12 * (bV true m lo hi - aV true m lo) ≤ len → 12 * (mO hi - mO lo) ≤ (len + 24) * m := fun h => by
  obtain ⟨m0, _, lt, _⟩ := ab_ok s d
  have h1 : m * aV true m lo ≤ mO lo := by
    have := Int.ediv_mul_le (mO lo) (show m ≠ 0 by omega)
    rw [Int.mul_comm] at this
    exact this
  have h2 : hiV true hi ≤ m * bV true m lo hi := by
    have := (ceil_lt (m := m) (h := hiV true hi) (c := bV true m lo hi) m0)
    have hb : -(-hiV true hi / m) ≤ bV true m lo hi := by unfold bV mxV; split <;> omega
    omega
  have h3 : mO hi ≤ hiV true hi := by unfold hiV; rw [if_pos rfl]; split <;> omega
  have h4 := Int.mul_le_mul_of_nonneg_right h (show 0 ≤ m by omega)
  have h5 : 12 * (bV true m lo hi - aV true m lo) * m = 12 * (m * bV true m lo hi - m * aV true m lo) := by grind
  have h6 : (len + 24) * m = len * m + 24 * m := Int.add_mul _ _ _
  omega
def st_due : SpT := fun _ as Φ _ => ∃ (lo hi len : Int) (up : Bool), as = [.fz (.int lo), .fz (.int hi), .fz (.int len), .fz (.str (wayS up))] ∧ DOk lo hi ∧ 24 ≤ len ∧ len ≤ 2000 ∧ Φ (.fz (dT (fstS (tryD lo hi len up) stepsV)))
theorem okT_l_due (T : Txt K mg t) : FnOk P w K mg base CX0 6 t.f_l_due t.d_l_due ["_law_least", "_law_greatest", "_law_length", "_law_way"] (toSp K st_due) := by
  have G_l_fit := okT_l_fit (P := P) (w := w) (base := base) T
  have G_l_axis := okT_l_axis (P := P) (w := w) (base := base) T
  have G_l_months := okT_l_months (P := P) (w := w) (base := base) T
  have G_month_of := okT_month_of (P := P) (w := w) (base := base) T
  have G_month_begin := okT_month_begin (P := P) (w := w) (base := base) T
  refine T.F_l_due.ok sc_l_due (toSp_len (fun B as Φ Ψ h => by obtain ⟨_, _, _, _, rfl, _⟩ := h; rfl)) (fun cdv A outer s H vs Q E hr h => ?_)
  obtain ⟨B, as, Φ, Ψ, rfl, hS, hx, go⟩ := toSp_open h
  obtain ⟨lo, hi, len, up, rfl, dok, l0, l1, φ⟩ := hS
  have mle : Mid len := midY (by omega) (by omega)
  refine ⟨_, (psc (ps_for PassesOwn.never rfl (pi_list (pe_lst (pcn pei (pcn pei pnl)))) (pg_name (i := 4) sc_l_due.nd rfl (Or.inl rfl)) (psc (ps_set (i := 5) sc_l_due.nd rfl (Or.inl rfl) (pe_op op_mulB (pe_op op_fdivB (pv 0) (pv 4)) (pv 4)))
  (psc (ps_set (i := 6) sc_l_due.nd rfl (Or.inl rfl) (pe_callB (call_max2 rfl) rfl T.z_max bt_max (pcn (pe_op op_add (pv 5) (pv 4)) (pcn (pe_op op_sub pei (pe_op op_mulB (pe_op op_fdivB (pe_op op_sub pei (pv 1)) (pv 4)) (pv 4))) pnl))))
  (pso (ps_if (pt_cmpR op_le (pe_op op_mulB pei (pe_op op_sub (pv 6) (pv 5))) (pe_op op_mulB (pv 2) (pv 4)) (nomark _)) (psc (ps_set (i := 7) sc_l_due.nd rfl (Or.inl rfl) (pe_listrng3 rfl rfl T.z_list rfl T.z_range (pcn (pv 5) (pcn (pe_op op_add (pv 6) pei) (pcn (pv 4) pnl)))))
  (pso (ps_if (pt_val (pe_call G_l_fit (hr.mono (by decide)) rfl T.m_l_fit T.k_l_fit T.b_l_fit .nil pass0 (pcn (pv 7) (pcn (pv 2) (pcn (pv 3) pnl))))) (pso (ps_ret (pe_call G_l_axis (hr.mono (by decide)) rfl T.m_l_axis T.k_l_axis T.b_l_axis .nil pass0 (pcn (pv 7) (pcn (pv 2) pnl))))) pss_nil))) pss_nil)))))
  (psc (ps_for PassesOwn.never rfl (pi_list (pe_lst (pa_ints [1, 3, 12, 120, 1200, 12000] rfl))) (pg_name (i := 4) sc_l_due.nd rfl (Or.inl rfl)) (pso (ps_if (pt_cmpR op_le (pe_op op_mulB pei (pe_op op_sub (pe_call G_month_of (hr.mono (by decide)) rfl T.m_month_of T.k_month_of T.b_month_of .nil pass0 (pcn (pv 1) pnl)) (pe_call G_month_of (hr.mono (by decide)) rfl T.m_month_of T.k_month_of T.b_month_of .nil pass0 (pcn (pv 0) pnl)))) (pe_op op_mulB (pe_op op_add (pv 2) pei) (pv 4)) (nomark _)) (psc (ps_setLC (iy := 7) sc_l_due.nd rfl (Or.inl rfl) rfl (compOk_of (fr := []) (osc := defScope s_l_due) (N := ["_law_least", "_law_greatest", "_law_length", "_law_way", "_law_step", "_law_first", "_law_last", "_law_days_here"]) rfl rfl (by decide +kernel)) (pi_list (pe_call G_l_months (hr.mono (by decide)) rfl T.m_l_months T.k_l_months T.b_l_months .nil pass0 (pcn (pv 4) (pcn (pv 0) (pcn (pv 1) pnl))))) (fun _ _ _ _ _ => (pe_call G_month_begin (hr.mono (by decide)) rfl T.m_month_begin T.k_month_begin T.b_month_begin .nil pass0 (pcn (pv 0) pnl))))
  (pso (ps_if (PW.pt (pw_and (pt_cmpR op_le (pe_op op_mulB pei (pe_op op_sub (pe_callB call_len_seq rfl T.z_len PySem.boot_len (pcn (pv 7) pnl)) pei)) (pv 2) (nomark _)) (pw_and1 (pt_val (pe_call G_l_fit (hr.mono (by decide)) rfl T.m_l_fit T.k_l_fit T.b_l_fit .nil pass0 (pcn (pv 7) (pcn (pv 2) (pcn (pv 3) pnl)))))))) (pso (ps_ret (pe_call G_l_axis (hr.mono (by decide)) rfl T.m_l_axis T.k_l_axis T.b_l_axis .nil pass0 (pcn (pv 7) (pcn (pv 2) pnl))))) pss_nil))) pss_nil)))
  (pso (ps_ret pe_non)))), go _ _ (s_go (τ := [.fz _, .fz _, .fz _, .fz _, .no, .no, .no, .no]) rfl ?_)⟩
  walk_at "trun"
  refine ⟨fun i τ => ∃ u4 u5 u6 u7, τ = [.fz (.int lo), .fz (.int hi), .fz (.int len), .fz (.str (wayS up)), u4, u5, u6, u7] ∧ fstS (tryD lo hi len up) stepsV = fstS (tryD lo hi len up) (stepsV.drop i), ⟨_, _, _, _, rfl, rfl⟩, ?_, ?_⟩
  · rintro i tt τ hi' ⟨u4, u5, u6, u7, rfl, hb⟩
    obtain ⟨m, rfl, hm, hst⟩ : ∃ m : Int, tt = .int m ∧ (m = 1 ∨ m = 7) ∧ stepsV[i]? = some (false, m) := by
      match i, hi' with
      | 0, h => cases h; exact ⟨1, rfl, .inl rfl, rfl⟩
      | 1, h => cases h; exact ⟨7, rfl, .inr rfl, rfl⟩
    have sok : StepOk false m := .inl ⟨rfl, hm⟩
    rw [drop_at hst] at hb
    obtain ⟨m0, m1, lt, _, k2⟩ := ab_ok sok dok
    obtain ⟨k1, k2⟩ := k2 rfl
    have F := cel_f sok dok
    have tr := try_is (up := up) (len := len) sok dok
    have cl := cel_len (mo := false) (m := m) (lo := lo) (hi := hi)
    have celdef : (celV false m lo hi).map Tr.int = stepT (m * aV false m lo) m (bV false m lo hi - aV false m lo + 1).toNat := by unfold celV stepT; rw [List.map_map]; rfl
    have y1 := dok.l.a
    have y2 := dok.h.b
    have y3 := dok.le
    have ef : lo / m * m = m * aV false m lo := Int.mul_comm _ _
    have el : (if 0 - (0 - hi) / m * m > lo / m * m + m then 0 - (0 - hi) / m * m else lo / m * m + m) = m * bV false m lo hi := by
      unfold bV mxV aV loV hiV
      rw [if_neg Bool.false_ne_true, if_neg Bool.false_ne_true]
      rcases hm with rfl | rfl <;> (split <;> split <;> omega)
    have mm : Mid m := midY (by omega) (by omega)
    have n1 : Mid (lo / m) := by rcases hm with rfl | rfl <;> exact midY (by omega) (by omega)
    have n2 : Mid ((0 - hi) / m) := by rcases hm with rfl | rfl <;> exact midY (by omega) (by omega)
    walk_at "trunI"
    rw [el, ef]
    clear el ef n1 n2
    unfold resD at tr
    generalize aV false m lo = a at *
    generalize bV false m lo hi = b at *
    generalize celV false m lo hi = C at *
    have cm : 12 * (m * b - m * a) ≤ len * m ↔ 12 * (b - a) ≤ len := mul_le m0
    have ab : m * a < m * b := Int.mul_lt_mul_of_pos_left lt m0
    have md : Mid (m * b - m * a) := midY (by omega) (by omega)
    walk_at "trun"
    refine z_iteD (fun c => ?_) (fun c => ?_)
    rotate_left
    · rw [if_neg (fun d => c (cm.mpr d.1))] at tr
      rw [fs_none (x := (false, m)) tr] at hb
      walk_at "trun"
      exact ⟨_, _, _, _, rfl, hb⟩
    have c := cm.mp c
    walk_at "trun"
    refine e_lrng ?_
    walk_at "trun"
    have rn := rng_is (a := a) (b := b) m0 (by omega)
    refine ⟨m0, by omega, small9 (by omega) (by omega) (by omega) (by omega) (by omega) (by omega), by rw [rn]; omega, ?_⟩
    rw [rn, ← celdef]
    refine g_nw (by walk_at "ts") ?_
    refine s_fix (k := 7) (by walk_at "tg") (by walk_at "ts") ?_
    have cok : COk C (fV false (m * a)) (fV false (m * b)) := ⟨F.n0, by rw [cl]; omega, fun c hc => by have := F.bd c hc; omega, F.c0, F.cN, F.lt⟩
    walk_at "trun"
    intro _ _
    refine ⟨C, _, _, len, up, rfl, cok, l0, l1, ?_⟩
    walk_at "trun"
    cases hf : fitV C (fV false (m * a)) (fV false (m * b)) len up with
    | false =>
      rw [hf, if_neg (fun d => absurd d.2 Bool.false_ne_true)] at tr
      rw [fs_none (x := (false, m)) tr] at hb
      walk_at "trun"
      exact ⟨_, _, _, _, rfl, hb⟩
    | true =>
      rw [hf, if_pos ⟨c, rfl⟩] at tr
      rw [fs_some (x := (false, m)) tr] at hb
      rw [hb] at φ
      walk_at "trun"
      intro _ _
      refine ⟨C, _, _, len, rfl, cok, l0, l1, ?_⟩
      walk_at "trun"
      exact φ
  · rintro τ ⟨u4, u5, u6, u7, rfl, hb⟩
    walk_at "trun"
    refine ⟨fun i τ => ∃ u4 u5 u6 u7, τ = [.fz (.int lo), .fz (.int hi), .fz (.int len), .fz (.str (wayS up)), u4, u5, u6, u7] ∧ fstS (tryD lo hi len up) stepsV = fstS (tryD lo hi len up) (stepsV.drop (2 + i)), ⟨_, _, _, _, rfl, hb⟩, ?_, ?_⟩
    · clear hb
      rintro i tt τ hi' ⟨u4, u5, u6, u7, rfl, hb⟩
      obtain ⟨m, rfl, hm, hst⟩ : ∃ m : Int, tt = .int m ∧ (m = 1 ∨ m = 3 ∨ m = 12 ∨ m = 120 ∨ m = 1200 ∨ m = 12000) ∧ stepsV[2 + i]? = some (true, m) := by
        match i, hi' with
        | 0, h => cases h; exact ⟨1, rfl, by simp, rfl⟩
        | 1, h => cases h; exact ⟨3, rfl, by simp, rfl⟩
        | 2, h => cases h; exact ⟨12, rfl, by simp, rfl⟩
        | 3, h => cases h; exact ⟨120, rfl, by simp, rfl⟩
        | 4, h => cases h; exact ⟨1200, rfl, by simp, rfl⟩
        | 5, h => cases h; exact ⟨12000, rfl, by simp, rfl⟩
      have sok : StepOk true m := .inr ⟨rfl, hm⟩
      rw [drop_at hst, show 2 + i + 1 = 2 + (i + 1) by omega] at hb
      obtain ⟨m0, m1, lt, k2, _⟩ := ab_ok sok dok
      obtain ⟨k1, k2⟩ := k2 rfl
      have F := cel_f sok dok
      have tr := try_is (up := up) (len := len) sok dok
      have cl := cel_len (mo := true) (m := m) (lo := lo) (hi := hi)
      have celdef : celV true m lo hi = (List.range (bV true m lo hi - aV true m lo + 1).toNat).map fun j : Nat => fV true (m * aV true m lo + (j : Int) * m) := rfl
      have reach := mo_reach (len := len) sok dok
      obtain ⟨x1, x2, _⟩ := mO_ok dok.l
      obtain ⟨x3, x4, _⟩ := mO_ok dok.h
      have fb : ∀ n, m * aV true m lo ≤ n → n ≤ m * bV true m lo hi → 364000 ≤ fV true n ∧ fV true n ≤ 3287000 ∧ _ := fun n h1 h2 => f_bd sok dok h1 h2
      have y1 := dok.l.a
      have y2 := dok.h.b
      have y3 := dok.le
      have mm : Mid m := midY (by omega) (by omega)
      have m24 : Mid (len + 24) := midY (by omega) (by omega)
      have mdd : Mid (mO hi - mO lo) := midY (by omega) (by omega)
      walk_at "trun"
      intro _ _
      refine ⟨hi, rfl, by omega, by omega, fun n hn _ _ => ?_⟩
      have en := mO_is hn
      subst en
      walk_at "trun"
      intro _ _
      refine ⟨lo, rfl, by omega, by omega, fun n hn _ _ => ?_⟩
      have en := mO_is hn
      subst en
      unfold resD at tr
      have lts : (List.range (bV true m lo hi - aV true m lo + 1).toNat).length ≤ 96001 := by
        rw [List.length_range]
        have ab := Int.mul_le_mul_of_nonneg_left (show 1 ≤ m by omega) (show 0 ≤ bV true m lo hi - aV true m lo by omega)
        have e := Int.sub_mul (bV true m lo hi) (aV true m lo) m
        have e2 := Int.mul_comm (bV true m lo hi) m
        have e3 := Int.mul_comm (aV true m lo) m
        omega
      walk_at "trun"
      refine z_iteD (fun c => ?_) (fun c => ?_)
      rotate_left
      · rw [if_neg (fun d => c (reach d.1))] at tr
        rw [fs_none (x := (true, m)) tr] at hb
        walk_at "trun"
        exact ⟨_, _, _, _, rfl, hb⟩
      clear c reach
      walk_at "trun"
      refine e_lc (i_list rfl ?_)
      walk_at "trun"
      intro _ _
      refine ⟨m, lo, hi, rfl, sok, dok, ?_⟩
      generalize aV true m lo = a at *
      generalize bV true m lo hi = b at *
      generalize celV true m lo hi = C at *
      walk_at "trun"
      refine ⟨[], .nil, by rw [List.length_map]; omega, fun j o => o = .int (fV true (m * a + (j : Int) * m)), fun j tt ht => ?_, fun os hl2 ho => ?_⟩
      · have hj : j < (b - a + 1).toNat := by
          have := (List.getElem?_eq_some_iff.mp ht).1
          rw [List.length_map, List.length_range] at this
          exact this
        rw [List.getElem?_map, List.getElem?_range hj] at ht
        cases ht
        obtain ⟨c1, c2⟩ := cel_end (m := m) (a := a) (b := b) (j := j) m0 (by omega)
        obtain ⟨_, _, c3⟩ := fb _ c1 c2
        have c3 := c3 rfl
        walk_at "trun"
        intro _ _
        refine ⟨_, rfl, by omega, by omega, ?_⟩
        walk_at "trun"
        rfl
      rw [List.length_map, List.length_range] at hl2
      obtain rfl := lc_rng hl2 ho
      rw [show ((List.range (b - a + 1).toNat).map fun j : Nat => Tr.int (fV true (m * a + (j : Int) * m))) = C.map Tr.int by rw [celdef, List.map_map]; rfl]
      refine g_nw (by walk_at "ts") ?_
      refine s_fix (k := 7) (by walk_at "tg") (by walk_at "ts") ?_
      have lC : ((C.map Tr.int).length : Int) = b - a + 1 := by rw [List.length_map, cl]; omega
      have mC : Mid (((C.map Tr.int).length : Int) - 1) := by rw [lC]; rw [List.length_range] at lts; exact midY (by omega) (by omega)
      walk_at "trun"
      rw [lC]
      refine z_iteD (fun c => ?_) (fun c => ?_)
      rotate_left
      · rw [if_neg (fun d => c (by have := d.1; omega))] at tr
        rw [fs_none (x := (true, m)) tr] at hb
        walk_at "trun"
        exact ⟨_, _, _, _, rfl, hb⟩
      have c : 12 * (b - a) ≤ len := by omega
      have cok : COk C (fV true (m * a)) (fV true (m * b)) := ⟨F.n0, by rw [cl]; omega, fun c hc => by have := F.bd c hc; omega, F.c0, F.cN, F.lt⟩
      walk_at "trun"
      intro _ _
      refine ⟨C, _, _, len, up, rfl, cok, l0, l1, ?_⟩
      walk_at "trun"
      cases hf : fitV C (fV true (m * a)) (fV true (m * b)) len up with
      | false =>
        rw [hf, if_neg (fun d => absurd d.2 Bool.false_ne_true)] at tr
        rw [fs_none (x := (true, m)) tr] at hb
        walk_at "trun"
        exact ⟨_, _, _, _, rfl, hb⟩
      | true =>
        rw [hf, if_pos ⟨c, rfl⟩] at tr
        rw [fs_some (x := (true, m)) tr] at hb
        rw [hb] at φ
        walk_at "trun"
        intro _ _
        refine ⟨C, _, _, len, rfl, cok, l0, l1, ?_⟩
        walk_at "trun"
        exact φ
    · clear hb
      rintro τ ⟨u4, u5, u6, u7, rfl, hb⟩
      have hb : fstS (tryD lo hi len up) stepsV = none := hb
      walk_at "trun"
      rw [hb] at φ
      exact φ
theorem e_minDv {B : Bk} {τ : TSt} {Φ : TK} {K : Fg} (hK : K = B.K) {k : Nat} {ns : List Int} {d : Int} (g : Gt τ k (.fz (.lst (ns.map Tr.int)))) (q : Φ (.fz (.int (if ns = [] then d else mnV ns))) τ) : EV B (tMinD K (tCons (tVar k) tNil) (tCons (tC (.int d)) tNil)) τ Φ := fun σ F H Q r c => by
  subst hK
  obtain ⟨v, e, iv⟩ := r.fz k _ g.eq
  cases iv with
  | @lst p xs _ hs il =>
  cases il.ints
  refine ⟨.ref p, e, p, ns, .int d, rfl, rfl, r.up.i.seq hs, ?_⟩
  by_cases z : ns = []
  · rw [if_pos z] at q
    exact .inl ⟨z, c.pl r .int q⟩
  · rw [if_neg z] at q
    exact .inr ⟨_, mnV_is z, c.pl r .int q⟩
theorem e_maxDv {B : Bk} {τ : TSt} {Φ : TK} {K : Fg} (hK : K = B.K) {k : Nat} {ns : List Int} {d : Int} (g : Gt τ k (.fz (.lst (ns.map Tr.int)))) (q : Φ (.fz (.int (if ns = [] then d else mxN ns))) τ) : EV B (tMaxD K (tCons (tVar k) tNil) (tCons (tC (.int d)) tNil)) τ Φ := fun σ F H Q r c => by
  subst hK
  obtain ⟨v, e, iv⟩ := r.fz k _ g.eq
  cases iv with
  | @lst p xs _ hs il =>
  cases il.ints
  refine ⟨.ref p, e, p, ns, .int d, rfl, rfl, r.up.i.seq hs, ?_⟩
  by_cases z : ns = []
  · rw [if_pos z] at q
    exact .inl ⟨z, c.pl r .int q⟩
  · rw [if_neg z] at q
    exact .inr ⟨_, mxN_is z, c.pl r .int q⟩
theorem ok_law (T : Txt K mg t) : FnOk P w K mg base CX0 13 t.f_law t.d_law ["_law_script"] (sp_law K) := by
  have G_l_source := okT_l_source (P := P) (w := w) (base := base) T
  have G_l_draw := okT_l_draw (P := P) (w := w) (base := base) T
  have G_l_great := okT_l_great (P := P) (w := w) (base := base) T
  have G_l_days := okT_l_days (P := P) (w := w) (base := base) T
  have G_l_right := okT_l_right (P := P) (w := w) (base := base) T
  have G_l_due := okT_l_due (P := P) (w := w) (base := base) T
  refine T.F_law.ok sc_law (fun vs H Q E h => ?_) (fun cdv A outer s H vs Q E hr h => ?_)
  · obtain ⟨a, ns, rfl, _⟩ := h
    rfl
  obtain ⟨a, ns, rfl, hS, hn, hb, q⟩ := h
  refine ⟨_, (psc (ps_for PassesOwn.never rfl (pi_range1 rfl T.z_range (pcn (pe_callB (call_max2 rfl) rfl T.z_max bt_max (pcn pei (pcn (pe_callB (call_min2 rfl) rfl T.z_min bt_min (pcn (pe_callB call_len_seq rfl T.z_len PySem.boot_len (pcn (pv 0) pnl)) (pcn pei pnl))) pnl))) pnl)) (pg_name (i := 1) sc_law.nd rfl (Or.inl rfl)) (psc (ps_set (i := 2) sc_law.nd rfl (Or.inl rfl) (pe_call G_l_source (hr.mono (by decide)) rfl T.m_l_source T.k_l_source T.b_l_source .nil pass0 (pcn (pv 0) (pcn (pv 1) pnl))))
  (psc (ps_set (i := 3) sc_law.nd rfl (Or.inl rfl) (pe_call G_l_days (hr.mono (by decide)) rfl T.m_l_days T.k_l_days T.b_l_days .nil pass0 (pcn (pv 2) pnl)))
  (psc (ps_set (i := 4) sc_law.nd rfl (Or.inl rfl) (pe_op op_add pei (pe_call G_l_great (hr.mono (by decide)) rfl T.m_l_great T.k_l_great T.b_l_great .nil pass0 (pcn (pv 2) (pcn pei pnl)))))
  (psc (ps_set (i := 5) sc_law.nd rfl (Or.inl rfl) (pe_cmpR op_eq (pe_call G_l_draw (hr.mono (by decide)) rfl T.m_l_draw T.k_l_draw T.b_l_draw .nil pass0 (pcn (pv 2) (pcn pei pnl))) pei (nomark _)))
  (psc (ps_set (i := 6) sc_law.nd rfl (Or.inl rfl) (pe_minD rfl rfl T.z_min (pcn (pv 3) pnl) (pk_cons pei pk_nil)))
  (psc (ps_set (i := 7) sc_law.nd rfl (Or.inl rfl) (pe_maxD rfl rfl T.z_max (pcn (pv 3) pnl) (pk_cons pei pk_nil)))
  (pso (ps_for PassesOwn.never rfl (pi_list (pe_lst (pcn pe_str (pcn pe_str pnl)))) (pg_name (i := 8) sc_law.nd rfl (Or.inl rfl)) (pso (ps_if (pt_not (pt_val (pe_call G_l_right (hr.mono (by decide)) rfl T.m_l_right T.k_l_right T.b_l_right .nil pass0 (pcn (pe_tup (pcn pe_str pnl)) (pcn (pv 3) (pcn (pv 4) (pcn (pv 8) (pcn (pv 5) (pcn (pe_call G_l_due (hr.mono (by decide)) rfl T.m_l_due T.k_l_due T.b_l_due .nil pass0 (pcn (pv 6) (pcn (pv 7) (pcn (pv 4) (pcn (pv 8) pnl))))) pnl))))))))) (pso (ps_ret pe_bl)) pss_nil)))))))))))
  (pso (ps_ret pe_bl))), law_open hS q _ _ fun D hD => ?_⟩
  refine d_go (τ := [.fz (.lst (ns.map Tr.int)), .no, .no, .no, .no, .no, .no, .no, .no]) rfl (d_true (rt := fun _ => True) hD ?_)
  walk_at "trun"
  refine ⟨by omega, ?_⟩
  refine ⟨fun _ τ => ∃ u1 u2 u3 u4 u5 u6 u7 u8, τ = [.fz (.lst (ns.map Tr.int)), u1, u2, u3, u4, u5, u6, u7, u8], ⟨_, _, _, _, _, _, _, _, rfl⟩, fun i tt τ2 ht hI => ?_, fun τ2 hI => ?_⟩
  · obtain ⟨u1, u2, u3, u4, u5, u6, u7, u8, rfl⟩ := hI
    obtain ⟨hi, rfl⟩ := rangeT_at ht
    refine g_fz (by walk_at "ts") ?_
    refine s_forget 2 (s_forget 3 (s_forget 4 (s_forget 5 (s_forget 6 (s_forget 7 (s_forget 8 ?_))))))
    show SV _ _ [.fz (.lst (ns.map Tr.int)), .fz (.int (0 + (i : Nat))), .no, .no, .no, .no, .no, .no, .no] _
    walk_at "trun"
    intro _ _
    refine ⟨ns, _, rfl, hb, by omega, by omega, fun a0 b0 h1 h2 h3 => ?_⟩
    refine g_nw (by walk_at "ts") ?_
    refine s_lendM (fun p ⟨vs, hx⟩ => absurd hx List.not_mem_nil) (fun H x hx => absurd hx List.not_mem_nil) (k := 2) (by walk_at "tg") rfl ⟨_, _, rfl, h1, h2, h3⟩ (fun F0 H0 l sb => ?_)
    show SV _ _ [.fz (.lst (ns.map Tr.int)), .fz (.int (0 + (i : Nat))), .wd, .no, .no, .no, .no, .no, .no] _
    walk_at "trun"
    intro _ _
    refine ⟨rfl, sb.now, fun cs hc hq => ?_⟩
    refine g_nw (by walk_at "ts") ?_
    refine s_fix (k := 3) (by walk_at "tg") (by walk_at "ts") ?_
    walk_at "trun"
    intro _ _
    refine a_great sb.now (by decide) fun g g0 g1 => ?_
    walk_at "trun"
    generalize hlen : 24 + g = len
    intro _ _
    refine a_drawT sb.now (by decide) (by decide) fun d2 d20 d21 => ?_
    walk_at "trun"
    generalize decide (d2 = 1) = nb
    have ok : WOk cs len := ⟨hc, hq, by omega, by omega⟩
    refine e_minDv rfl (by walk_at "tg") ?_
    rw [show (if cs = [] then 730119 else mnV cs) = loN cs from rfl]
    walk_at "trun"
    refine e_maxDv rfl (by walk_at "tg") ?_
    rw [show (if cs = [] then 730120 else mxN cs) = hiN cs from rfl]
    walk_at "trun"
    refine ⟨fun _ τ => ∃ u8, τ = [.fz (.lst (ns.map Tr.int)), .fz (.int (0 + (i : Nat))), .wd, .fz (.lst (cs.map Tr.int)), .fz (.int len), .fz (.bl nb), .fz (.int (loN cs)), .fz (.int (hiN cs)), u8], ⟨_, rfl⟩, fun i2 tt τ3 hi2 hI => ?_, fun τ3 hI => ?_⟩
    · obtain ⟨u8, rfl⟩ := hI
      obtain ⟨up, rfl⟩ : ∃ up : Bool, tt = .str (wayS up) := by
        match i2, hi2 with
        | 0, h => cases h; exact ⟨true, rfl⟩
        | 1, h => cases h; exact ⟨false, rfl⟩
      walk_at "trun"
      intro _ _
      refine ⟨loN cs, hiN cs, len, up, rfl, ok.d, ok.l0, ok.l1, ?_⟩
      walk_at "trun"
      intro _ _
      refine ⟨cs, len, up, nb, rfl, ok, ?_⟩
      walk_at "trun"
      exact ⟨_, rfl⟩
    · obtain ⟨u8, rfl⟩ := hI
      walk_at "trun"
      exact ⟨_, _, _, _, _, _, _, _, rfl⟩
  · obtain ⟨u1, u2, u3, u4, u5, u6, u7, u8, rfl⟩ := hI
    walk_at "trun"
    rfl
end
theorem all_mk {l : PySem.W.OpenLaw} {w : World} {K : Fg} {h : Heap} {mg : Str → Option Value} {fa f0 f1 f2 f3 f4 f5 f6 f7 f8 f9 f10 f11 f12 f13 f14 f15 f16 f17 f18 f19 f20 f21 f22 f23 f24 f25 f26 f27 f28 f29 f30 f31 f32 f33 f34 f35 f36 f37 f38 f39 f40 f41 f42 C_NoNumber C_NoDay C_NoSpace g_MONTH_LENGTHS g_NO_CELLS_DAYS g_DAY_STEPS dT2 dT29 : Addr} (X : K.In h) (G : h.Ns mainGlobals mg) (hfa : mg "law" = some (.ref fa))
    {od0 an0 od1 an1 od2 an2 od3 an3 od4 an4 od5 an5 od6 an6 od7 an7 od8 an8 od9 an9 od10 an10 od11 an11 od12 an12 od13 an13 od14 an14 od15 an15 od16 an16 od17 an17 od18 an18 od19 an19 od20 an20 od21 an21 od22 an22 od23 an23 od24 an24 od25 an25 od26 an26 od27 an27 od28 an28 od29 an29 od30 an30 od31 an31 od32 an32 od33 an33 od34 an34 od35 an35 od36 an36 od37 an37 od38 an38 od39 an39 od40 an40 od41 an41 od42 an42 : Option Addr} {sl0 sl1 sl2 sl3 sl4 sl5 sl6 sl7 sl8 sl9 sl10 sl11 sl12 sl13 sl14 sl15 sl16 sl17 sl18 sl19 sl20 sl21 sl22 sl23 sl24 sl25 sl26 sl27 sl28 sl29 sl30 sl31 sl32 sl33 sl34 sl35 sl36 sl37 sl38 sl39 sl40 sl41 sl42 : Array (Option Value)} {oc0 kV0 dc0 pm0 cd0 ct0 oc1 kV1 dc1 pm1 cd1 ct1 oc2 kV2 dc2 pm2 cd2 ct2 oc3 kV3 dc3 pm3 cd3 ct3 oc4 kV4 dc4 pm4 cd4 ct4 oc5 kV5 dc5 pm5 cd5 ct5 oc6 kV6 dc6 pm6 cd6 ct6 oc7 kV7 dc7 pm7 cd7 ct7 oc8 kV8 dc8 pm8 cd8 ct8 oc9 kV9 dc9 pm9 cd9 ct9 oc10 kV10 dc10 pm10 cd10 ct10 oc11 kV11 dc11 pm11 cd11 ct11 oc12 kV12 dc12 pm12 cd12 ct12 oc13 kV13 dc13 pm13 cd13 ct13 oc14 kV14 dc14 pm14 cd14 ct14 oc15 kV15 dc15 pm15 cd15 ct15 oc16 kV16 dc16 pm16 cd16 ct16 oc17 kV17 dc17 pm17 cd17 ct17 oc18 kV18 dc18 pm18 cd18 ct18 oc19 kV19 dc19 pm19 cd19 ct19 oc20 kV20 dc20 pm20 cd20 ct20 oc21 kV21 dc21 pm21 cd21 ct21 oc22 kV22 dc22 pm22 cd22 ct22 oc23 kV23 dc23 pm23 cd23 ct23 oc24 kV24 dc24 pm24 cd24 ct24 oc25 kV25 dc25 pm25 cd25 ct25 oc26 kV26 dc26 pm26 cd26 ct26 oc27 kV27 dc27 pm27 cd27 ct27 oc28 kV28 dc28 pm28 cd28 ct28 oc29 kV29 dc29 pm29 cd29 ct29 oc30 kV30 dc30 pm30 cd30 ct30 oc31 kV31 dc31 pm31 cd31 ct31 oc32 kV32 dc32 pm32 cd32 ct32 oc33 kV33 dc33 pm33 cd33 ct33 oc34 kV34 dc34 pm34 cd34 ct34 oc35 kV35 dc35 pm35 cd35 ct35 oc36 kV36 dc36 pm36 cd36 ct36 oc37 kV37 dc37 pm37 cd37 ct37 oc38 kV38 dc38 pm38 cd38 ct38 oc39 kV39 dc39 pm39 cd39 ct39 oc40 kV40 dc40 pm40 cd40 ct40 oc41 kV41 dc41 pm41 cd41 ct41 oc42 kV42 dc42 pm42 cd42 ct42 : Value}
    {g_SIGN_WIDTH : Tok}
    {g_WIDEST_LABEL : Tok}
    {g_LEAST_UPRIGHT : Tok}
    {g_ROOM_BESIDE : Tok}
    {g_LAST_YEAR : Tok}
    {g_DAYS_OF_400_YEARS : Tok}
    {gd_MONTH_LENGTHS : Option Addr} {gn_MONTH_LENGTHS : Nat} {gs_MONTH_LENGTHS : Array (Option Value)} {tg_MONTH_LENGTHS_0 tg_MONTH_LENGTHS_1 tg_MONTH_LENGTHS_2 tg_MONTH_LENGTHS_3 tg_MONTH_LENGTHS_4 tg_MONTH_LENGTHS_5 tg_MONTH_LENGTHS_6 tg_MONTH_LENGTHS_7 tg_MONTH_LENGTHS_8 tg_MONTH_LENGTHS_9 tg_MONTH_LENGTHS_10 tg_MONTH_LENGTHS_11 : Tok}
    {gd_NO_CELLS_DAYS : Option Addr} {gn_NO_CELLS_DAYS : Nat} {gs_NO_CELLS_DAYS : Array (Option Value)} {tg_NO_CELLS_DAYS_0 tg_NO_CELLS_DAYS_1 : Tok}
    {gd_DAY_STEPS : Option Addr} {gn_DAY_STEPS : Nat} {gs_DAY_STEPS : Array (Option Value)}
    {gi_DAY_STEPS_0 : Addr} {gdi_DAY_STEPS_0 : Option Addr} {gni_DAY_STEPS_0 : Nat} {gsi_DAY_STEPS_0 : Array (Option Value)} {tg_DAY_STEPS_0_0 tg_DAY_STEPS_0_1 : Tok} {gi_DAY_STEPS_1 : Addr} {gdi_DAY_STEPS_1 : Option Addr} {gni_DAY_STEPS_1 : Nat} {gsi_DAY_STEPS_1 : Array (Option Value)} {tg_DAY_STEPS_1_0 tg_DAY_STEPS_1_1 : Tok} {gi_DAY_STEPS_2 : Addr} {gdi_DAY_STEPS_2 : Option Addr} {gni_DAY_STEPS_2 : Nat} {gsi_DAY_STEPS_2 : Array (Option Value)} {tg_DAY_STEPS_2_0 tg_DAY_STEPS_2_1 : Tok} {gi_DAY_STEPS_3 : Addr} {gdi_DAY_STEPS_3 : Option Addr} {gni_DAY_STEPS_3 : Nat} {gsi_DAY_STEPS_3 : Array (Option Value)} {tg_DAY_STEPS_3_0 tg_DAY_STEPS_3_1 : Tok} {gi_DAY_STEPS_4 : Addr} {gdi_DAY_STEPS_4 : Option Addr} {gni_DAY_STEPS_4 : Nat} {gsi_DAY_STEPS_4 : Array (Option Value)} {tg_DAY_STEPS_4_0 tg_DAY_STEPS_4_1 : Tok} {gi_DAY_STEPS_5 : Addr} {gdi_DAY_STEPS_5 : Option Addr} {gni_DAY_STEPS_5 : Nat} {gsi_DAY_STEPS_5 : Array (Option Value)} {tg_DAY_STEPS_5_0 tg_DAY_STEPS_5_1 : Tok} {gi_DAY_STEPS_6 : Addr} {gdi_DAY_STEPS_6 : Option Addr} {gni_DAY_STEPS_6 : Nat} {gsi_DAY_STEPS_6 : Array (Option Value)} {tg_DAY_STEPS_6_0 tg_DAY_STEPS_6_1 : Tok} {gi_DAY_STEPS_7 : Addr} {gdi_DAY_STEPS_7 : Option Addr} {gni_DAY_STEPS_7 : Nat} {gsi_DAY_STEPS_7 : Array (Option Value)} {tg_DAY_STEPS_7_0 tg_DAY_STEPS_7_1 : Tok}
    {tc2 : Value} {td2 : Option Addr} {tn2 : Nat} {ts2 : Array (Option Value)} {tk2 : Tok}
    {tc29 : Value} {td29 : Option Addr} {tn29 : Nat} {ts29 : Array (Option Value)}
    (a0 : PySem.W.nsIn K mainGlobals "is_whole" = some (some (.ref f0))) (l0 : K.lookup f0 = some ⟨oc0, od0, .func (PySem.W.fnOf "is_whole" "is_whole" (defArgs s_is_whole) (defBody s_is_whole) (defScope s_is_whole) .none kV0 dc0 pm0 an0 cd0 ct0), sl0⟩) (c0 : PySem.W.codeIn K cd0 "is_whole" = true) (k0 : PySem.W.keepIn K (.ref f0) = true)
    (a1 : PySem.W.nsIn K mainGlobals "divisor_of" = some (some (.ref f1))) (l1 : K.lookup f1 = some ⟨oc1, od1, .func (PySem.W.fnOf "divisor_of" "divisor_of" (defArgs s_divisor_of) (defBody s_divisor_of) (defScope s_divisor_of) .none kV1 dc1 pm1 an1 cd1 ct1), sl1⟩) (c1 : PySem.W.codeIn K cd1 "divisor_of" = true) (k1 : PySem.W.keepIn K (.ref f1) = true)
    (a2 : PySem.W.nsIn K mainGlobals "number" = some (some (.ref f2))) (l2 : K.lookup f2 = some ⟨oc2, od2, .func (PySem.W.fnOf "number" "number" (defArgs s_number) (defBody s_number) (defScope s_number) (.ref dT2) kV2 dc2 pm2 an2 cd2 ct2), sl2⟩) (c2 : PySem.W.codeIn K cd2 "number" = true) (k2 : PySem.W.keepIn K (.ref f2) = true)
    (dl2 : K.lookup dT2 = some ⟨tc2, td2, .seq #[.int 1 tk2] tn2, ts2⟩)
    (a3 : PySem.W.nsIn K mainGlobals "plus" = some (some (.ref f3))) (l3 : K.lookup f3 = some ⟨oc3, od3, .func (PySem.W.fnOf "plus" "plus" (defArgs s_plus) (defBody s_plus) (defScope s_plus) .none kV3 dc3 pm3 an3 cd3 ct3), sl3⟩) (c3 : PySem.W.codeIn K cd3 "plus" = true) (k3 : PySem.W.keepIn K (.ref f3) = true)
    (a4 : PySem.W.nsIn K mainGlobals "minus" = some (some (.ref f4))) (l4 : K.lookup f4 = some ⟨oc4, od4, .func (PySem.W.fnOf "minus" "minus" (defArgs s_minus) (defBody s_minus) (defScope s_minus) .none kV4 dc4 pm4 an4 cd4 ct4), sl4⟩) (c4 : PySem.W.codeIn K cd4 "minus" = true) (k4 : PySem.W.keepIn K (.ref f4) = true)
    (a5 : PySem.W.nsIn K mainGlobals "times" = some (some (.ref f5))) (l5 : K.lookup f5 = some ⟨oc5, od5, .func (PySem.W.fnOf "times" "times" (defArgs s_times) (defBody s_times) (defScope s_times) .none kV5 dc5 pm5 an5 cd5 ct5), sl5⟩) (c5 : PySem.W.codeIn K cd5 "times" = true) (k5 : PySem.W.keepIn K (.ref f5) = true)
    (a6 : PySem.W.nsIn K mainGlobals "over" = some (some (.ref f6))) (l6 : K.lookup f6 = some ⟨oc6, od6, .func (PySem.W.fnOf "over" "over" (defArgs s_over) (defBody s_over) (defScope s_over) .none kV6 dc6 pm6 an6 cd6 ct6), sl6⟩) (c6 : PySem.W.codeIn K cd6 "over" = true) (k6 : PySem.W.keepIn K (.ref f6) = true)
    (a7 : PySem.W.nsIn K mainGlobals "under" = some (some (.ref f7))) (l7 : K.lookup f7 = some ⟨oc7, od7, .func (PySem.W.fnOf "under" "under" (defArgs s_under) (defBody s_under) (defScope s_under) .none kV7 dc7 pm7 an7 cd7 ct7), sl7⟩) (c7 : PySem.W.codeIn K cd7 "under" = true) (k7 : PySem.W.keepIn K (.ref f7) = true)
    (a8 : PySem.W.nsIn K mainGlobals "rounded" = some (some (.ref f8))) (l8 : K.lookup f8 = some ⟨oc8, od8, .func (PySem.W.fnOf "rounded" "rounded" (defArgs s_rounded) (defBody s_rounded) (defScope s_rounded) .none kV8 dc8 pm8 an8 cd8 ct8), sl8⟩) (c8 : PySem.W.codeIn K cd8 "rounded" = true) (k8 : PySem.W.keepIn K (.ref f8) = true)
    (a9 : PySem.W.nsIn K mainGlobals "is_leap" = some (some (.ref f9))) (l9 : K.lookup f9 = some ⟨oc9, od9, .func (PySem.W.fnOf "is_leap" "is_leap" (defArgs s_is_leap) (defBody s_is_leap) (defScope s_is_leap) .none kV9 dc9 pm9 an9 cd9 ct9), sl9⟩) (c9 : PySem.W.codeIn K cd9 "is_leap" = true) (k9 : PySem.W.keepIn K (.ref f9) = true)
    (a10 : PySem.W.nsIn K mainGlobals "month_length" = some (some (.ref f10))) (l10 : K.lookup f10 = some ⟨oc10, od10, .func (PySem.W.fnOf "month_length" "month_length" (defArgs s_month_length) (defBody s_month_length) (defScope s_month_length) .none kV10 dc10 pm10 an10 cd10 ct10), sl10⟩) (c10 : PySem.W.codeIn K cd10 "month_length" = true) (k10 : PySem.W.keepIn K (.ref f10) = true)
    (a11 : PySem.W.nsIn K mainGlobals "year_begin" = some (some (.ref f11))) (l11 : K.lookup f11 = some ⟨oc11, od11, .func (PySem.W.fnOf "year_begin" "year_begin" (defArgs s_year_begin) (defBody s_year_begin) (defScope s_year_begin) .none kV11 dc11 pm11 an11 cd11 ct11), sl11⟩) (c11 : PySem.W.codeIn K cd11 "year_begin" = true) (k11 : PySem.W.keepIn K (.ref f11) = true)
    (a12 : PySem.W.nsIn K mainGlobals "day_of" = some (some (.ref f12))) (l12 : K.lookup f12 = some ⟨oc12, od12, .func (PySem.W.fnOf "day_of" "day_of" (defArgs s_day_of) (defBody s_day_of) (defScope s_day_of) .none kV12 dc12 pm12 an12 cd12 ct12), sl12⟩) (c12 : PySem.W.codeIn K cd12 "day_of" = true) (k12 : PySem.W.keepIn K (.ref f12) = true)
    (a13 : PySem.W.nsIn K mainGlobals "year_of" = some (some (.ref f13))) (l13 : K.lookup f13 = some ⟨oc13, od13, .func (PySem.W.fnOf "year_of" "year_of" (defArgs s_year_of) (defBody s_year_of) (defScope s_year_of) .none kV13 dc13 pm13 an13 cd13 ct13), sl13⟩) (c13 : PySem.W.codeIn K cd13 "year_of" = true) (k13 : PySem.W.keepIn K (.ref f13) = true)
    (a14 : PySem.W.nsIn K mainGlobals "parts_of" = some (some (.ref f14))) (l14 : K.lookup f14 = some ⟨oc14, od14, .func (PySem.W.fnOf "parts_of" "parts_of" (defArgs s_parts_of) (defBody s_parts_of) (defScope s_parts_of) .none kV14 dc14 pm14 an14 cd14 ct14), sl14⟩) (c14 : PySem.W.codeIn K cd14 "parts_of" = true) (k14 : PySem.W.keepIn K (.ref f14) = true)
    (a15 : PySem.W.nsIn K mainGlobals "show_day" = some (some (.ref f15))) (l15 : K.lookup f15 = some ⟨oc15, od15, .func (PySem.W.fnOf "show_day" "show_day" (defArgs s_show_day) (defBody s_show_day) (defScope s_show_day) .none kV15 dc15 pm15 an15 cd15 ct15), sl15⟩) (c15 : PySem.W.codeIn K cd15 "show_day" = true) (k15 : PySem.W.keepIn K (.ref f15) = true)
    (a16 : PySem.W.nsIn K mainGlobals "month_of" = some (some (.ref f16))) (l16 : K.lookup f16 = some ⟨oc16, od16, .func (PySem.W.fnOf "month_of" "month_of" (defArgs s_month_of) (defBody s_month_of) (defScope s_month_of) .none kV16 dc16 pm16 an16 cd16 ct16), sl16⟩) (c16 : PySem.W.codeIn K cd16 "month_of" = true) (k16 : PySem.W.keepIn K (.ref f16) = true)
    (a17 : PySem.W.nsIn K mainGlobals "month_begin" = some (some (.ref f17))) (l17 : K.lookup f17 = some ⟨oc17, od17, .func (PySem.W.fnOf "month_begin" "month_begin" (defArgs s_month_begin) (defBody s_month_begin) (defScope s_month_begin) .none kV17 dc17 pm17 an17 cd17 ct17), sl17⟩) (c17 : PySem.W.codeIn K cd17 "month_begin" = true) (k17 : PySem.W.keepIn K (.ref f17) = true)
    (a18 : PySem.W.nsIn K mainGlobals "comes_before" = some (some (.ref f18))) (l18 : K.lookup f18 = some ⟨oc18, od18, .func (PySem.W.fnOf "comes_before" "comes_before" (defArgs s_comes_before) (defBody s_comes_before) (defScope s_comes_before) .none kV18 dc18 pm18 an18 cd18 ct18), sl18⟩) (c18 : PySem.W.codeIn K cd18 "comes_before" = true) (k18 : PySem.W.keepIn K (.ref f18) = true)
    (a19 : PySem.W.nsIn K mainGlobals "least_of" = some (some (.ref f19))) (l19 : K.lookup f19 = some ⟨oc19, od19, .func (PySem.W.fnOf "least_of" "least_of" (defArgs s_least_of) (defBody s_least_of) (defScope s_least_of) .none kV19 dc19 pm19 an19 cd19 ct19), sl19⟩) (c19 : PySem.W.codeIn K cd19 "least_of" = true) (k19 : PySem.W.keepIn K (.ref f19) = true)
    (a20 : PySem.W.nsIn K mainGlobals "greatest_of" = some (some (.ref f20))) (l20 : K.lookup f20 = some ⟨oc20, od20, .func (PySem.W.fnOf "greatest_of" "greatest_of" (defArgs s_greatest_of) (defBody s_greatest_of) (defScope s_greatest_of) .none kV20 dc20 pm20 an20 cd20 ct20), sl20⟩) (c20 : PySem.W.codeIn K cd20 "greatest_of" = true) (k20 : PySem.W.keepIn K (.ref f20) = true)
    (a21 : PySem.W.nsIn K mainGlobals "place_on_days" = some (some (.ref f21))) (l21 : K.lookup f21 = some ⟨oc21, od21, .func (PySem.W.fnOf "place_on_days" "place_on_days" (defArgs s_place_on_days) (defBody s_place_on_days) (defScope s_place_on_days) .none kV21 dc21 pm21 an21 cd21 ct21), sl21⟩) (c21 : PySem.W.codeIn K cd21 "place_on_days" = true) (k21 : PySem.W.keepIn K (.ref f21) = true)
    (a22 : PySem.W.nsIn K mainGlobals "place_on" = some (some (.ref f22))) (l22 : K.lookup f22 = some ⟨oc22, od22, .func (PySem.W.fnOf "place_on" "place_on" (defArgs s_place_on) (defBody s_place_on) (defScope s_place_on) .none kV22 dc22 pm22 an22 cd22 ct22), sl22⟩) (c22 : PySem.W.codeIn K cd22 "place_on" = true) (k22 : PySem.W.keepIn K (.ref f22) = true)
    (a23 : PySem.W.nsIn K mainGlobals "widest_of" = some (some (.ref f23))) (l23 : K.lookup f23 = some ⟨oc23, od23, .func (PySem.W.fnOf "widest_of" "widest_of" (defArgs s_widest_of) (defBody s_widest_of) (defScope s_widest_of) .none kV23 dc23 pm23 an23 cd23 ct23), sl23⟩) (c23 : PySem.W.codeIn K cd23 "widest_of" = true) (k23 : PySem.W.keepIn K (.ref f23) = true)
    (a24 : PySem.W.nsIn K mainGlobals "labels_fit" = some (some (.ref f24))) (l24 : K.lookup f24 = some ⟨oc24, od24, .func (PySem.W.fnOf "labels_fit" "labels_fit" (defArgs s_labels_fit) (defBody s_labels_fit) (defScope s_labels_fit) .none kV24 dc24 pm24 an24 cd24 ct24), sl24⟩) (c24 : PySem.W.codeIn K cd24 "labels_fit" = true) (k24 : PySem.W.keepIn K (.ref f24) = true)
    (a25 : PySem.W.nsIn K mainGlobals "with_ticks" = some (some (.ref f25))) (l25 : K.lookup f25 = some ⟨oc25, od25, .func (PySem.W.fnOf "with_ticks" "with_ticks" (defArgs s_with_ticks) (defBody s_with_ticks) (defScope s_with_ticks) .none kV25 dc25 pm25 an25 cd25 ct25), sl25⟩) (c25 : PySem.W.codeIn K cd25 "with_ticks" = true) (k25 : PySem.W.keepIn K (.ref f25) = true)
    (a26 : PySem.W.nsIn K mainGlobals "days_about" = some (some (.ref f26))) (l26 : K.lookup f26 = some ⟨oc26, od26, .func (PySem.W.fnOf "days_about" "days_about" (defArgs s_days_about) (defBody s_days_about) (defScope s_days_about) .none kV26 dc26 pm26 an26 cd26 ct26), sl26⟩) (c26 : PySem.W.codeIn K cd26 "days_about" = true) (k26 : PySem.W.keepIn K (.ref f26) = true)
    (a27 : PySem.W.nsIn K mainGlobals "days_by" = some (some (.ref f27))) (l27 : K.lookup f27 = some ⟨oc27, od27, .func (PySem.W.fnOf "days_by" "days_by" (defArgs s_days_by) (defBody s_days_by) (defScope s_days_by) .none kV27 dc27 pm27 an27 cd27 ct27), sl27⟩) (c27 : PySem.W.codeIn K cd27 "days_by" = true) (k27 : PySem.W.keepIn K (.ref f27) = true)
    (a28 : PySem.W.nsIn K mainGlobals "days_axis" = some (some (.ref f28))) (l28 : K.lookup f28 = some ⟨oc28, od28, .func (PySem.W.fnOf "days_axis" "days_axis" (defArgs s_days_axis) (defBody s_days_axis) (defScope s_days_axis) .none kV28 dc28 pm28 an28 cd28 ct28), sl28⟩) (c28 : PySem.W.codeIn K cd28 "days_axis" = true) (k28 : PySem.W.keepIn K (.ref f28) = true)
    (a29 : PySem.W.nsIn K mainGlobals "axis_for" = some (some (.ref f29))) (l29 : K.lookup f29 = some ⟨oc29, od29, .func (PySem.W.fnOf "axis_for" "axis_for" (defArgs s_axis_for) (defBody s_axis_for) (defScope s_axis_for) (.ref dT29) kV29 dc29 pm29 an29 cd29 ct29), sl29⟩) (c29 : PySem.W.codeIn K cd29 "axis_for" = true) (k29 : PySem.W.keepIn K (.ref f29) = true)
    (dl29 : K.lookup dT29 = some ⟨tc29, td29, .seq #[.bool false] tn29, ts29⟩)
    (a30 : PySem.W.nsIn K mainGlobals "_law_cell_at" = some (some (.ref f30))) (l30 : K.lookup f30 = some ⟨oc30, od30, .func (PySem.W.fnOf "_law_cell_at" "_law_cell_at" (defArgs s_l_cell_at) (defBody s_l_cell_at) (defScope s_l_cell_at) .none kV30 dc30 pm30 an30 cd30 ct30), sl30⟩) (c30 : PySem.W.codeIn K cd30 "_law_cell_at" = true) (k30 : PySem.W.keepIn K (.ref f30) = true)
    (a31 : PySem.W.nsIn K mainGlobals "_law_source" = some (some (.ref f31))) (l31 : K.lookup f31 = some ⟨oc31, od31, .func (PySem.W.fnOf "_law_source" "_law_source" (defArgs s_l_source) (defBody s_l_source) (defScope s_l_source) .none kV31 dc31 pm31 an31 cd31 ct31), sl31⟩) (c31 : PySem.W.codeIn K cd31 "_law_source" = true) (k31 : PySem.W.keepIn K (.ref f31) = true)
    (a32 : PySem.W.nsIn K mainGlobals "_law_draw" = some (some (.ref f32))) (l32 : K.lookup f32 = some ⟨oc32, od32, .func (PySem.W.fnOf "_law_draw" "_law_draw" (defArgs s_l_draw) (defBody s_l_draw) (defScope s_l_draw) .none kV32 dc32 pm32 an32 cd32 ct32), sl32⟩) (c32 : PySem.W.codeIn K cd32 "_law_draw" = true) (k32 : PySem.W.keepIn K (.ref f32) = true)
    (a33 : PySem.W.nsIn K mainGlobals "_law_great" = some (some (.ref f33))) (l33 : K.lookup f33 = some ⟨oc33, od33, .func (PySem.W.fnOf "_law_great" "_law_great" (defArgs s_l_great) (defBody s_l_great) (defScope s_l_great) .none kV33 dc33 pm33 an33 cd33 ct33), sl33⟩) (c33 : PySem.W.codeIn K cd33 "_law_great" = true) (k33 : PySem.W.keepIn K (.ref f33) = true)
    (a34 : PySem.W.nsIn K mainGlobals "_law_asked" = some (some (.ref f34))) (l34 : K.lookup f34 = some ⟨oc34, od34, .func (PySem.W.fnOf "_law_asked" "_law_asked" (defArgs s_l_asked) (defBody s_l_asked) (defScope s_l_asked) .none kV34 dc34 pm34 an34 cd34 ct34), sl34⟩) (c34 : PySem.W.codeIn K cd34 "_law_asked" = true) (k34 : PySem.W.keepIn K (.ref f34) = true)
    (a35 : PySem.W.nsIn K mainGlobals "_law_is_axis" = some (some (.ref f35))) (l35 : K.lookup f35 = some ⟨oc35, od35, .func (PySem.W.fnOf "_law_is_axis" "_law_is_axis" (defArgs s_l_is_axis) (defBody s_l_is_axis) (defScope s_l_is_axis) .none kV35 dc35 pm35 an35 cd35 ct35), sl35⟩) (c35 : PySem.W.codeIn K cd35 "_law_is_axis" = true) (k35 : PySem.W.keepIn K (.ref f35) = true)
    (a36 : PySem.W.nsIn K mainGlobals "_law_right" = some (some (.ref f36))) (l36 : K.lookup f36 = some ⟨oc36, od36, .func (PySem.W.fnOf "_law_right" "_law_right" (defArgs s_l_right) (defBody s_l_right) (defScope s_l_right) .none kV36 dc36 pm36 an36 cd36 ct36), sl36⟩) (c36 : PySem.W.codeIn K cd36 "_law_right" = true) (k36 : PySem.W.keepIn K (.ref f36) = true)
    (a37 : PySem.W.nsIn K mainGlobals "_law_days" = some (some (.ref f37))) (l37 : K.lookup f37 = some ⟨oc37, od37, .func (PySem.W.fnOf "_law_days" "_law_days" (defArgs s_l_days) (defBody s_l_days) (defScope s_l_days) .none kV37 dc37 pm37 an37 cd37 ct37), sl37⟩) (c37 : PySem.W.codeIn K cd37 "_law_days" = true) (k37 : PySem.W.keepIn K (.ref f37) = true)
    (a38 : PySem.W.nsIn K mainGlobals "_law_months" = some (some (.ref f38))) (l38 : K.lookup f38 = some ⟨oc38, od38, .func (PySem.W.fnOf "_law_months" "_law_months" (defArgs s_l_months) (defBody s_l_months) (defScope s_l_months) .none kV38 dc38 pm38 an38 cd38 ct38), sl38⟩) (c38 : PySem.W.codeIn K cd38 "_law_months" = true) (k38 : PySem.W.keepIn K (.ref f38) = true)
    (a39 : PySem.W.nsIn K mainGlobals "_law_fit" = some (some (.ref f39))) (l39 : K.lookup f39 = some ⟨oc39, od39, .func (PySem.W.fnOf "_law_fit" "_law_fit" (defArgs s_l_fit) (defBody s_l_fit) (defScope s_l_fit) .none kV39 dc39 pm39 an39 cd39 ct39), sl39⟩) (c39 : PySem.W.codeIn K cd39 "_law_fit" = true) (k39 : PySem.W.keepIn K (.ref f39) = true)
    (a40 : PySem.W.nsIn K mainGlobals "_law_axis" = some (some (.ref f40))) (l40 : K.lookup f40 = some ⟨oc40, od40, .func (PySem.W.fnOf "_law_axis" "_law_axis" (defArgs s_l_axis) (defBody s_l_axis) (defScope s_l_axis) .none kV40 dc40 pm40 an40 cd40 ct40), sl40⟩) (c40 : PySem.W.codeIn K cd40 "_law_axis" = true) (k40 : PySem.W.keepIn K (.ref f40) = true)
    (a41 : PySem.W.nsIn K mainGlobals "_law_due" = some (some (.ref f41))) (l41 : K.lookup f41 = some ⟨oc41, od41, .func (PySem.W.fnOf "_law_due" "_law_due" (defArgs s_l_due) (defBody s_l_due) (defScope s_l_due) .none kV41 dc41 pm41 an41 cd41 ct41), sl41⟩) (c41 : PySem.W.codeIn K cd41 "_law_due" = true) (k41 : PySem.W.keepIn K (.ref f41) = true)
    (a42 : PySem.W.nsIn K mainGlobals "law" = some (some (.ref f42))) (l42 : K.lookup f42 = some ⟨oc42, od42, .func (PySem.W.fnOf "law" "law" (defArgs s_law) (defBody s_law) (defScope s_law) .none kV42 dc42 pm42 an42 cd42 ct42), sl42⟩) (c42 : PySem.W.codeIn K cd42 "law" = true) (k42 : PySem.W.keepIn K (.ref f42) = true)
    (w_SIGN_WIDTH : PySem.W.nsIn K mainGlobals "SIGN_WIDTH" = some (some (.int 6 g_SIGN_WIDTH)))
    (w_WIDEST_LABEL : PySem.W.nsIn K mainGlobals "WIDEST_LABEL" = some (some (.int 60 g_WIDEST_LABEL)))
    (w_LEAST_UPRIGHT : PySem.W.nsIn K mainGlobals "LEAST_UPRIGHT" = some (some (.int 12 g_LEAST_UPRIGHT)))
    (w_ROOM_BESIDE : PySem.W.nsIn K mainGlobals "ROOM_BESIDE" = some (some (.int 6 g_ROOM_BESIDE)))
    (w_LAST_YEAR : PySem.W.nsIn K mainGlobals "LAST_YEAR" = some (some (.int 9999 g_LAST_YEAR)))
    (w_DAYS_OF_400_YEARS : PySem.W.nsIn K mainGlobals "DAYS_OF_400_YEARS" = some (some (.int 146097 g_DAYS_OF_400_YEARS)))
    (w_MONTH_LENGTHS : PySem.W.nsIn K mainGlobals "MONTH_LENGTHS" = some (some (.ref g_MONTH_LENGTHS))) (u_MONTH_LENGTHS : K.lookup g_MONTH_LENGTHS = some ⟨.type "tuple", gd_MONTH_LENGTHS, .seq #[.int 31 tg_MONTH_LENGTHS_0, .int 28 tg_MONTH_LENGTHS_1, .int 31 tg_MONTH_LENGTHS_2, .int 30 tg_MONTH_LENGTHS_3, .int 31 tg_MONTH_LENGTHS_4, .int 30 tg_MONTH_LENGTHS_5, .int 31 tg_MONTH_LENGTHS_6, .int 31 tg_MONTH_LENGTHS_7, .int 30 tg_MONTH_LENGTHS_8, .int 31 tg_MONTH_LENGTHS_9, .int 30 tg_MONTH_LENGTHS_10, .int 31 tg_MONTH_LENGTHS_11] gn_MONTH_LENGTHS, gs_MONTH_LENGTHS⟩)
    (w_NO_CELLS_DAYS : PySem.W.nsIn K mainGlobals "NO_CELLS_DAYS" = some (some (.ref g_NO_CELLS_DAYS))) (u_NO_CELLS_DAYS : K.lookup g_NO_CELLS_DAYS = some ⟨.type "tuple", gd_NO_CELLS_DAYS, .seq #[.int 730119 tg_NO_CELLS_DAYS_0, .int 730120 tg_NO_CELLS_DAYS_1] gn_NO_CELLS_DAYS, gs_NO_CELLS_DAYS⟩)
    (w_DAY_STEPS : PySem.W.nsIn K mainGlobals "DAY_STEPS" = some (some (.ref g_DAY_STEPS))) (u_DAY_STEPS : K.lookup g_DAY_STEPS = some ⟨.type "tuple", gd_DAY_STEPS, .seq #[.ref gi_DAY_STEPS_0, .ref gi_DAY_STEPS_1, .ref gi_DAY_STEPS_2, .ref gi_DAY_STEPS_3, .ref gi_DAY_STEPS_4, .ref gi_DAY_STEPS_5, .ref gi_DAY_STEPS_6, .ref gi_DAY_STEPS_7] gn_DAY_STEPS, gs_DAY_STEPS⟩)
    (ui_DAY_STEPS_0 : K.lookup gi_DAY_STEPS_0 = some ⟨.type "tuple", gdi_DAY_STEPS_0, .seq #[.str "days" tg_DAY_STEPS_0_0, .int 1 tg_DAY_STEPS_0_1] gni_DAY_STEPS_0, gsi_DAY_STEPS_0⟩)
    (ui_DAY_STEPS_1 : K.lookup gi_DAY_STEPS_1 = some ⟨.type "tuple", gdi_DAY_STEPS_1, .seq #[.str "days" tg_DAY_STEPS_1_0, .int 7 tg_DAY_STEPS_1_1] gni_DAY_STEPS_1, gsi_DAY_STEPS_1⟩)
    (ui_DAY_STEPS_2 : K.lookup gi_DAY_STEPS_2 = some ⟨.type "tuple", gdi_DAY_STEPS_2, .seq #[.str "months" tg_DAY_STEPS_2_0, .int 1 tg_DAY_STEPS_2_1] gni_DAY_STEPS_2, gsi_DAY_STEPS_2⟩)
    (ui_DAY_STEPS_3 : K.lookup gi_DAY_STEPS_3 = some ⟨.type "tuple", gdi_DAY_STEPS_3, .seq #[.str "months" tg_DAY_STEPS_3_0, .int 3 tg_DAY_STEPS_3_1] gni_DAY_STEPS_3, gsi_DAY_STEPS_3⟩)
    (ui_DAY_STEPS_4 : K.lookup gi_DAY_STEPS_4 = some ⟨.type "tuple", gdi_DAY_STEPS_4, .seq #[.str "months" tg_DAY_STEPS_4_0, .int 12 tg_DAY_STEPS_4_1] gni_DAY_STEPS_4, gsi_DAY_STEPS_4⟩)
    (ui_DAY_STEPS_5 : K.lookup gi_DAY_STEPS_5 = some ⟨.type "tuple", gdi_DAY_STEPS_5, .seq #[.str "months" tg_DAY_STEPS_5_0, .int 120 tg_DAY_STEPS_5_1] gni_DAY_STEPS_5, gsi_DAY_STEPS_5⟩)
    (ui_DAY_STEPS_6 : K.lookup gi_DAY_STEPS_6 = some ⟨.type "tuple", gdi_DAY_STEPS_6, .seq #[.str "months" tg_DAY_STEPS_6_0, .int 1200 tg_DAY_STEPS_6_1] gni_DAY_STEPS_6, gsi_DAY_STEPS_6⟩)
    (ui_DAY_STEPS_7 : K.lookup gi_DAY_STEPS_7 = some ⟨.type "tuple", gdi_DAY_STEPS_7, .seq #[.str "months" tg_DAY_STEPS_7_0, .int 12000 tg_DAY_STEPS_7_1] gni_DAY_STEPS_7, gsi_DAY_STEPS_7⟩)
    (n_NoNumber : PySem.W.nsIn K mainGlobals "NoNumber" = some (some (.ref C_NoNumber))) (x_NoNumber : PySem.W.excIn K C_NoNumber bmVE "ValueError.__new__" = true) (e_NoNumber : PySem.W.exmOne K (.ref C_NoNumber) (.ref C_NoNumber) = some true)
    (n_NoDay : PySem.W.nsIn K mainGlobals "NoDay" = some (some (.ref C_NoDay))) (x_NoDay : PySem.W.excIn K C_NoDay bmVE "ValueError.__new__" = true) (e_NoDay : PySem.W.exmOne K (.ref C_NoDay) (.ref C_NoDay) = some true)
    (n_NoSpace : PySem.W.nsIn K mainGlobals "NoSpace" = some (some (.ref C_NoSpace))) (x_NoSpace : PySem.W.excIn K C_NoSpace bmVE "ValueError.__new__" = true) (e_NoSpace : PySem.W.exmOne K (.ref C_NoSpace) (.ref C_NoSpace) = some true)
    (z_isinstance : PySem.W.nsIn K mainGlobals "isinstance" = some none)
    (z_int : PySem.W.nsIn K mainGlobals "int" = some none)
    (z_bool : PySem.W.nsIn K mainGlobals "bool" = some none)
    (z_tuple : PySem.W.nsIn K mainGlobals "tuple" = some none)
    (z_str : PySem.W.nsIn K mainGlobals "str" = some none)
    (z_list : PySem.W.nsIn K mainGlobals "list" = some none)
    (z_abs : PySem.W.nsIn K mainGlobals "abs" = some none)
    (z_len : PySem.W.nsIn K mainGlobals "len" = some none)
    (z_range : PySem.W.nsIn K mainGlobals "range" = some none)
    (z_sum : PySem.W.nsIn K mainGlobals "sum" = some none)
    (z_max : PySem.W.nsIn K mainGlobals "max" = some none)
    (z_min : PySem.W.nsIn K mainGlobals "min" = some none)
    (z_zip : PySem.W.nsIn K mainGlobals "zip" = some none)
    : ∃ fd : FuncData, (∀ (s : Shared) (v : Value), BindsTo s fd ⟨[v], []⟩ [("_law_script", v)]) ∧ ∀ base : Heap, K.In base → base.Ns mainGlobals mg → FnOk l.prog w K mg base CX0 13 fa fd ["_law_script"] (sp_law K) := by
  have e := hfa.symm.trans (PySem.W.mg_of X G a42)
  cases e
  have F0 := fun_mk (st := s_is_whole) l0 c0 k0
  have b0 := F0.binds (ps := ["thing"]) fun _ _ _ _ _ _ us hl => match us, hl with | [_], _ => rfl
  have F1 := fun_mk (st := s_divisor_of) l1 c1 k1
  have b1 := F1.binds (ps := ["one", "other"]) fun _ _ _ _ _ _ us hl => match us, hl with | [_, _], _ => rfl
  have F2 := fun_mkD (st := s_number) l2 c2 k2
  have b2 : Binds K (PySem.W.fnOf "number" "number" (defArgs s_number) (defBody s_number) (defScope s_number) (.ref dT2) kV2 dc2 pm2 an2 cd2 ct2) ["top", "bottom"] [] := fun s us X hl => match us, hl with | [_, _], _ => BindsTo.of_defaults rfl (X _ _ dl2) rfl rfl rfl
  have bd2 : ∃ ds, Vals [V.int 1] ds ∧ Binds K (PySem.W.fnOf "number" "number" (defArgs s_number) (defBody s_number) (defScope s_number) (.ref dT2) kV2 dc2 pm2 an2 cd2 ct2) ["top", "bottom"] ds := ⟨[.int 1 tk2], .cons ⟨_, rfl⟩ .nil, fun s us X hl => match us, (by simpa using hl : us.length = 1) with | [_], _ => BindsTo.of_defaults rfl (X _ _ dl2) rfl rfl rfl⟩
  have F3 := fun_mk (st := s_plus) l3 c3 k3
  have b3 := F3.binds (ps := ["one", "other"]) fun _ _ _ _ _ _ us hl => match us, hl with | [_, _], _ => rfl
  have F4 := fun_mk (st := s_minus) l4 c4 k4
  have b4 := F4.binds (ps := ["one", "other"]) fun _ _ _ _ _ _ us hl => match us, hl with | [_, _], _ => rfl
  have F5 := fun_mk (st := s_times) l5 c5 k5
  have b5 := F5.binds (ps := ["one", "other"]) fun _ _ _ _ _ _ us hl => match us, hl with | [_, _], _ => rfl
  have F6 := fun_mk (st := s_over) l6 c6 k6
  have b6 := F6.binds (ps := ["one", "other"]) fun _ _ _ _ _ _ us hl => match us, hl with | [_, _], _ => rfl
  have F7 := fun_mk (st := s_under) l7 c7 k7
  have b7 := F7.binds (ps := ["one", "other"]) fun _ _ _ _ _ _ us hl => match us, hl with | [_, _], _ => rfl
  have F8 := fun_mk (st := s_rounded) l8 c8 k8
  have b8 := F8.binds (ps := ["one"]) fun _ _ _ _ _ _ us hl => match us, hl with | [_], _ => rfl
  have F9 := fun_mk (st := s_is_leap) l9 c9 k9
  have b9 := F9.binds (ps := ["year"]) fun _ _ _ _ _ _ us hl => match us, hl with | [_], _ => rfl
  have F10 := fun_mk (st := s_month_length) l10 c10 k10
  have b10 := F10.binds (ps := ["year", "month"]) fun _ _ _ _ _ _ us hl => match us, hl with | [_, _], _ => rfl
  have F11 := fun_mk (st := s_year_begin) l11 c11 k11
  have b11 := F11.binds (ps := ["year"]) fun _ _ _ _ _ _ us hl => match us, hl with | [_], _ => rfl
  have F12 := fun_mk (st := s_day_of) l12 c12 k12
  have b12 := F12.binds (ps := ["year", "month", "day"]) fun _ _ _ _ _ _ us hl => match us, hl with | [_, _, _], _ => rfl
  have F13 := fun_mk (st := s_year_of) l13 c13 k13
  have b13 := F13.binds (ps := ["day"]) fun _ _ _ _ _ _ us hl => match us, hl with | [_], _ => rfl
  have F14 := fun_mk (st := s_parts_of) l14 c14 k14
  have b14 := F14.binds (ps := ["day"]) fun _ _ _ _ _ _ us hl => match us, hl with | [_], _ => rfl
  have F15 := fun_mk (st := s_show_day) l15 c15 k15
  have b15 := F15.binds (ps := ["day"]) fun _ _ _ _ _ _ us hl => match us, hl with | [_], _ => rfl
  have F16 := fun_mk (st := s_month_of) l16 c16 k16
  have b16 := F16.binds (ps := ["day"]) fun _ _ _ _ _ _ us hl => match us, hl with | [_], _ => rfl
  have F17 := fun_mk (st := s_month_begin) l17 c17 k17
  have b17 := F17.binds (ps := ["month"]) fun _ _ _ _ _ _ us hl => match us, hl with | [_], _ => rfl
  have F18 := fun_mk (st := s_comes_before) l18 c18 k18
  have b18 := F18.binds (ps := ["one", "other"]) fun _ _ _ _ _ _ us hl => match us, hl with | [_, _], _ => rfl
  have F19 := fun_mk (st := s_least_of) l19 c19 k19
  have b19 := F19.binds (ps := ["cells"]) fun _ _ _ _ _ _ us hl => match us, hl with | [_], _ => rfl
  have F20 := fun_mk (st := s_greatest_of) l20 c20 k20
  have b20 := F20.binds (ps := ["cells"]) fun _ _ _ _ _ _ us hl => match us, hl with | [_], _ => rfl
  have F21 := fun_mk (st := s_place_on_days) l21 c21 k21
  have b21 := F21.binds (ps := ["scale", "cell"]) fun _ _ _ _ _ _ us hl => match us, hl with | [_, _], _ => rfl
  have F22 := fun_mk (st := s_place_on) l22 c22 k22
  have b22 := F22.binds (ps := ["scale", "cell"]) fun _ _ _ _ _ _ us hl => match us, hl with | [_, _], _ => rfl
  have F23 := fun_mk (st := s_widest_of) l23 c23 k23
  have b23 := F23.binds (ps := ["labels"]) fun _ _ _ _ _ _ us hl => match us, hl with | [_], _ => rfl
  have F24 := fun_mk (st := s_labels_fit) l24 c24 k24
  have b24 := F24.binds (ps := ["labels", "gap", "way"]) fun _ _ _ _ _ _ us hl => match us, hl with | [_, _, _], _ => rfl
  have F25 := fun_mk (st := s_with_ticks) l25 c25 k25
  have b25 := F25.binds (ps := ["scale", "cells", "labels"]) fun _ _ _ _ _ _ us hl => match us, hl with | [_, _, _], _ => rfl
  have F26 := fun_mk (st := s_days_about) l26 c26 k26
  have b26 := F26.binds (ps := ["unit", "many", "least", "greatest"]) fun _ _ _ _ _ _ us hl => match us, hl with | [_, _, _, _], _ => rfl
  have F27 := fun_mk (st := s_days_by) l27 c27 k27
  have b27 := F27.binds (ps := ["unit", "many", "least", "greatest", "length", "way"]) fun _ _ _ _ _ _ us hl => match us, hl with | [_, _, _, _, _, _], _ => rfl
  have F28 := fun_mk (st := s_days_axis) l28 c28 k28
  have b28 := F28.binds (ps := ["cells", "length", "way"]) fun _ _ _ _ _ _ us hl => match us, hl with | [_, _, _], _ => rfl
  have F29 := fun_mkD (st := s_axis_for) l29 c29 k29
  have b29 : Binds K (PySem.W.fnOf "axis_for" "axis_for" (defArgs s_axis_for) (defBody s_axis_for) (defScope s_axis_for) (.ref dT29) kV29 dc29 pm29 an29 cd29 ct29) ["wish", "cells", "length", "way", "nought"] [] := fun s us X hl => match us, hl with | [_, _, _, _, _], _ => BindsTo.of_defaults rfl (X _ _ dl29) rfl rfl rfl
  have bd29 : ∃ ds, Vals [V.bl false] ds ∧ Binds K (PySem.W.fnOf "axis_for" "axis_for" (defArgs s_axis_for) (defBody s_axis_for) (defScope s_axis_for) (.ref dT29) kV29 dc29 pm29 an29 cd29 ct29) ["wish", "cells", "length", "way", "nought"] ds := ⟨[.bool false], .cons rfl .nil, fun s us X hl => match us, (by simpa using hl : us.length = 4) with | [_, _, _, _], _ => BindsTo.of_defaults rfl (X _ _ dl29) rfl rfl rfl⟩
  have F30 := fun_mk (st := s_l_cell_at) l30 c30 k30
  have b30 := F30.binds (ps := ["_law_script", "_law_k"]) fun _ _ _ _ _ _ us hl => match us, hl with | [_, _], _ => rfl
  have F31 := fun_mk (st := s_l_source) l31 c31 k31
  have b31 := F31.binds (ps := ["_law_script", "_law_k"]) fun _ _ _ _ _ _ us hl => match us, hl with | [_, _], _ => rfl
  have F32 := fun_mk (st := s_l_draw) l32 c32 k32
  have b32 := F32.binds (ps := ["_law_source_here", "_law_many"]) fun _ _ _ _ _ _ us hl => match us, hl with | [_, _], _ => rfl
  have F33 := fun_mk (st := s_l_great) l33 c33 k33
  have b33 := F33.binds (ps := ["_law_source_here", "_law_many"]) fun _ _ _ _ _ _ us hl => match us, hl with | [_, _], _ => rfl
  have F34 := fun_mk (st := s_l_asked) l34 c34 k34
  have b34 := F34.binds (ps := ["_law_wish", "_law_cells", "_law_length", "_law_way", "_law_nought"]) fun _ _ _ _ _ _ us hl => match us, hl with | [_, _, _, _, _], _ => rfl
  have F35 := fun_mk (st := s_l_is_axis) l35 c35 k35
  have b35 := F35.binds (ps := ["_law_found", "_law_due_here"]) fun _ _ _ _ _ _ us hl => match us, hl with | [_, _], _ => rfl
  have F36 := fun_mk (st := s_l_right) l36 c36 k36
  have b36 := F36.binds (ps := ["_law_wish", "_law_cells", "_law_length", "_law_way", "_law_nought", "_law_due_here"]) fun _ _ _ _ _ _ us hl => match us, hl with | [_, _, _, _, _, _], _ => rfl
  have F37 := fun_mk (st := s_l_days) l37 c37 k37
  have b37 := F37.binds (ps := ["_law_source_here"]) fun _ _ _ _ _ _ us hl => match us, hl with | [_], _ => rfl
  have F38 := fun_mk (st := s_l_months) l38 c38 k38
  have b38 := F38.binds (ps := ["_law_step", "_law_least", "_law_greatest"]) fun _ _ _ _ _ _ us hl => match us, hl with | [_, _, _], _ => rfl
  have F39 := fun_mk (st := s_l_fit) l39 c39 k39
  have b39 := F39.binds (ps := ["_law_days_here", "_law_length", "_law_way"]) fun _ _ _ _ _ _ us hl => match us, hl with | [_, _, _], _ => rfl
  have F40 := fun_mk (st := s_l_axis) l40 c40 k40
  have b40 := F40.binds (ps := ["_law_days_here", "_law_length"]) fun _ _ _ _ _ _ us hl => match us, hl with | [_, _], _ => rfl
  have F41 := fun_mk (st := s_l_due) l41 c41 k41
  have b41 := F41.binds (ps := ["_law_least", "_law_greatest", "_law_length", "_law_way"]) fun _ _ _ _ _ _ us hl => match us, hl with | [_, _, _, _], _ => rfl
  have F42 := fun_mk (st := s_law) l42 c42 k42
  have b42 := F42.binds (ps := ["_law_script"]) fun _ _ _ _ _ _ us hl => match us, hl with | [_], _ => rfl
  have T : Txt K mg ⟨_, _, _, _, _, _, _, _, _, _, _, _, _, _, _, _, _, _, _, _, _, _, _, _, _, _, _, _, _, _, _, _, _, _, _, _, _, _, _, _, _, _, _, _, _, _, _, _, _, _, _, _, _, _, _, _, _, _, _, _, _, _, _, _, _, _, _, _, _, _, _, _, _, _, _, _, _, _, _, _, _, _, _, _, _, _, C_NoNumber, C_NoDay, C_NoSpace, g_SIGN_WIDTH, g_WIDEST_LABEL, g_LEAST_UPRIGHT, g_ROOM_BESIDE, g_LAST_YEAR, g_DAYS_OF_400_YEARS, g_MONTH_LENGTHS, g_NO_CELLS_DAYS, g_DAY_STEPS⟩ := ⟨F0, PySem.W.mg_of X G a0, k0, b0, F1, PySem.W.mg_of X G a1, k1, b1, F2, PySem.W.mg_of X G a2, k2, b2, bd2, F3, PySem.W.mg_of X G a3, k3, b3, F4, PySem.W.mg_of X G a4, k4, b4, F5, PySem.W.mg_of X G a5, k5, b5, F6, PySem.W.mg_of X G a6, k6, b6, F7, PySem.W.mg_of X G a7, k7, b7, F8, PySem.W.mg_of X G a8, k8, b8, F9, PySem.W.mg_of X G a9, k9, b9, F10, PySem.W.mg_of X G a10, k10, b10, F11, PySem.W.mg_of X G a11, k11, b11, F12, PySem.W.mg_of X G a12, k12, b12, F13, PySem.W.mg_of X G a13, k13, b13, F14, PySem.W.mg_of X G a14, k14, b14, F15, PySem.W.mg_of X G a15, k15, b15, F16, PySem.W.mg_of X G a16, k16, b16, F17, PySem.W.mg_of X G a17, k17, b17, F18, PySem.W.mg_of X G a18, k18, b18, F19, PySem.W.mg_of X G a19, k19, b19, F20, PySem.W.mg_of X G a20, k20, b20, F21, PySem.W.mg_of X G a21, k21, b21, F22, PySem.W.mg_of X G a22, k22, b22, F23, PySem.W.mg_of X G a23, k23, b23, F24, PySem.W.mg_of X G a24, k24, b24, F25, PySem.W.mg_of X G a25, k25, b25, F26, PySem.W.mg_of X G a26, k26, b26, F27, PySem.W.mg_of X G a27, k27, b27, F28, PySem.W.mg_of X G a28, k28, b28, F29, PySem.W.mg_of X G a29, k29, b29, bd29, F30, PySem.W.mg_of X G a30, k30, b30, F31, PySem.W.mg_of X G a31, k31, b31, F32, PySem.W.mg_of X G a32, k32, b32, F33, PySem.W.mg_of X G a33, k33, b33, F34, PySem.W.mg_of X G a34, k34, b34, F35, PySem.W.mg_of X G a35, k35, b35, F36, PySem.W.mg_of X G a36, k36, b36, F37, PySem.W.mg_of X G a37, k37, b37, F38, PySem.W.mg_of X G a38, k38, b38, F39, PySem.W.mg_of X G a39, k39, b39, F40, PySem.W.mg_of X G a40, k40, b40, F41, PySem.W.mg_of X G a41, k41, b41, F42, PySem.W.mg_of X G a42, k42, b42, PySem.W.mg_of X G n_NoNumber, n_NoNumber, x_NoNumber, e_NoNumber, PySem.W.mg_of X G n_NoDay, n_NoDay, x_NoDay, e_NoDay, PySem.W.mg_of X G n_NoSpace, n_NoSpace, x_NoSpace, e_NoSpace, PySem.W.mg_of X G w_SIGN_WIDTH, PySem.W.mg_of X G w_WIDEST_LABEL, PySem.W.mg_of X G w_LEAST_UPRIGHT, PySem.W.mg_of X G w_ROOM_BESIDE, PySem.W.mg_of X G w_LAST_YEAR, PySem.W.mg_of X G w_DAYS_OF_400_YEARS, PySem.W.mg_of X G w_MONTH_LENGTHS, fun _ => .inr ⟨_, _, _, u_MONTH_LENGTHS, rfl, rfl, (by show 12 ≤ sizeLine; decide), .cons ⟨_, rfl⟩ (.cons ⟨_, rfl⟩ (.cons ⟨_, rfl⟩ (.cons ⟨_, rfl⟩ (.cons ⟨_, rfl⟩ (.cons ⟨_, rfl⟩ (.cons ⟨_, rfl⟩ (.cons ⟨_, rfl⟩ (.cons ⟨_, rfl⟩ (.cons ⟨_, rfl⟩ (.cons ⟨_, rfl⟩ (.cons ⟨_, rfl⟩ (.nil))))))))))))⟩, PySem.W.mg_of X G w_NO_CELLS_DAYS, fun _ => .inr ⟨_, _, _, u_NO_CELLS_DAYS, rfl, rfl, (by show 2 ≤ sizeLine; decide), .cons ⟨_, rfl⟩ (.cons ⟨_, rfl⟩ (.nil))⟩, PySem.W.mg_of X G w_DAY_STEPS, fun _ => .tup (.inr ⟨_, _, _, u_DAY_STEPS, rfl, rfl, (by show 8 ≤ sizeLine; decide), .cons (show RelV (V.ref gi_DAY_STEPS_0) (Value.ref gi_DAY_STEPS_0) from rfl) (.cons (show RelV (V.ref gi_DAY_STEPS_1) (Value.ref gi_DAY_STEPS_1) from rfl) (.cons (show RelV (V.ref gi_DAY_STEPS_2) (Value.ref gi_DAY_STEPS_2) from rfl) (.cons (show RelV (V.ref gi_DAY_STEPS_3) (Value.ref gi_DAY_STEPS_3) from rfl) (.cons (show RelV (V.ref gi_DAY_STEPS_4) (Value.ref gi_DAY_STEPS_4) from rfl) (.cons (show RelV (V.ref gi_DAY_STEPS_5) (Value.ref gi_DAY_STEPS_5) from rfl) (.cons (show RelV (V.ref gi_DAY_STEPS_6) (Value.ref gi_DAY_STEPS_6) from rfl) (.cons (show RelV (V.ref gi_DAY_STEPS_7) (Value.ref gi_DAY_STEPS_7) from rfl) (.nil))))))))⟩) (.cons (.tup (.inr ⟨_, _, _, ui_DAY_STEPS_0, rfl, rfl, (by show 2 ≤ sizeLine; decide), .cons (show RelV (V.str "days") (Value.str "days" tg_DAY_STEPS_0_0) from ⟨_, rfl⟩) (.cons (show RelV (V.int 1) (Value.int 1 tg_DAY_STEPS_0_1) from ⟨_, rfl⟩) (.nil))⟩) (.cons .str (.cons .int (.nil)))) (.cons (.tup (.inr ⟨_, _, _, ui_DAY_STEPS_1, rfl, rfl, (by show 2 ≤ sizeLine; decide), .cons (show RelV (V.str "days") (Value.str "days" tg_DAY_STEPS_1_0) from ⟨_, rfl⟩) (.cons (show RelV (V.int 7) (Value.int 7 tg_DAY_STEPS_1_1) from ⟨_, rfl⟩) (.nil))⟩) (.cons .str (.cons .int (.nil)))) (.cons (.tup (.inr ⟨_, _, _, ui_DAY_STEPS_2, rfl, rfl, (by show 2 ≤ sizeLine; decide), .cons (show RelV (V.str "months") (Value.str "months" tg_DAY_STEPS_2_0) from ⟨_, rfl⟩) (.cons (show RelV (V.int 1) (Value.int 1 tg_DAY_STEPS_2_1) from ⟨_, rfl⟩) (.nil))⟩) (.cons .str (.cons .int (.nil)))) (.cons (.tup (.inr ⟨_, _, _, ui_DAY_STEPS_3, rfl, rfl, (by show 2 ≤ sizeLine; decide), .cons (show RelV (V.str "months") (Value.str "months" tg_DAY_STEPS_3_0) from ⟨_, rfl⟩) (.cons (show RelV (V.int 3) (Value.int 3 tg_DAY_STEPS_3_1) from ⟨_, rfl⟩) (.nil))⟩) (.cons .str (.cons .int (.nil)))) (.cons (.tup (.inr ⟨_, _, _, ui_DAY_STEPS_4, rfl, rfl, (by show 2 ≤ sizeLine; decide), .cons (show RelV (V.str "months") (Value.str "months" tg_DAY_STEPS_4_0) from ⟨_, rfl⟩) (.cons (show RelV (V.int 12) (Value.int 12 tg_DAY_STEPS_4_1) from ⟨_, rfl⟩) (.nil))⟩) (.cons .str (.cons .int (.nil)))) (.cons (.tup (.inr ⟨_, _, _, ui_DAY_STEPS_5, rfl, rfl, (by show 2 ≤ sizeLine; decide), .cons (show RelV (V.str "months") (Value.str "months" tg_DAY_STEPS_5_0) from ⟨_, rfl⟩) (.cons (show RelV (V.int 120) (Value.int 120 tg_DAY_STEPS_5_1) from ⟨_, rfl⟩) (.nil))⟩) (.cons .str (.cons .int (.nil)))) (.cons (.tup (.inr ⟨_, _, _, ui_DAY_STEPS_6, rfl, rfl, (by show 2 ≤ sizeLine; decide), .cons (show RelV (V.str "months") (Value.str "months" tg_DAY_STEPS_6_0) from ⟨_, rfl⟩) (.cons (show RelV (V.int 1200) (Value.int 1200 tg_DAY_STEPS_6_1) from ⟨_, rfl⟩) (.nil))⟩) (.cons .str (.cons .int (.nil)))) (.cons (.tup (.inr ⟨_, _, _, ui_DAY_STEPS_7, rfl, rfl, (by show 2 ≤ sizeLine; decide), .cons (show RelV (V.str "months") (Value.str "months" tg_DAY_STEPS_7_0) from ⟨_, rfl⟩) (.cons (show RelV (V.int 12000) (Value.int 12000 tg_DAY_STEPS_7_1) from ⟨_, rfl⟩) (.nil))⟩) (.cons .str (.cons .int (.nil)))) (.nil))))))))), PySem.W.mg_none_of X G z_isinstance, PySem.W.mg_none_of X G z_int, PySem.W.mg_none_of X G z_bool, PySem.W.mg_none_of X G z_tuple, PySem.W.mg_none_of X G z_str, PySem.W.mg_none_of X G z_list, PySem.W.mg_none_of X G z_abs, PySem.W.mg_none_of X G z_len, PySem.W.mg_none_of X G z_range, PySem.W.mg_none_of X G z_sum, PySem.W.mg_none_of X G z_max, PySem.W.mg_none_of X G z_min, PySem.W.mg_none_of X G z_zip⟩
  exact ⟨PySem.W.fnOf "law" "law" (defArgs s_law) (defBody s_law) (defScope s_law) .none kV42 dc42 pm42 an42 cd42 ct42, fun s v => .of_eq rfl, fun base _ _ => ok_law T⟩
theorem walk {l : PySem.W.OpenLaw} {q : Program} {loose : List Str} {XP : (Str → Option Value) → Heap → Prop} {YP : World → Heap → Prop} {d : DefRec} {K : Params → Fg} (hn : l.most = some 63) (hdf : d.params.defaults = [])
    (hY : ∀ (w : World) (h : Heap), YP w h → (K w.params).In h)
    (F : ∀ (w : World) (mg : Str → Option Value) (fa : Addr) (h : Heap), (K w.params).In h → h.Ns mainGlobals mg → mg d.name = some (.ref fa) →
      ∃ fd : FuncData, (∀ (s : Shared) (u : Value), BindsTo s fd ⟨[u], []⟩ [("_law_script", u)]) ∧ ∀ base : Heap, (K w.params).In base → base.Ns mainGlobals mg → FnOk l.prog w (K w.params) mg base CX0 13 fa fd ["_law_script"] (sp_law (K w.params))) :
    PySem.W.WalkO q loose XP YP l.row.toRowW d [] (fun f vs => PySem.call f vs) :=
  L2.walk_ofB (n := 63) (k := 13) (x := "_law_script") (CX := fun _ => CX0) (sp := fun w => sp_law (K w.params)) hn (by decide) hdf ⟨rfl, by decide, by decide⟩ hY F (fun _ _ a ns hl hbt _ hS => ⟨a, ns, rfl, hS, hl, hbt, fun _ => rfl⟩) fun _ _ _ _ _ z => z
end MyLaw
open PySem PySem.W PyProof.Rows
set_option maxRecDepth 100000 in
set_option maxHeartbeats 0 in
theorem PySem.Challenge.cw_markscale_k30_days_by_steps_holds : PySem.Challenge.rw_markscale_k30_days_by_steps.Holds := by
  w_on; o_law
  refine holds_open (q := MyLaw.hdV) (loose := [Str.ofString "number", Str.ofString "axis_for"]) (Xt := MyLaw.hdX MyLaw.hdV) (XP := XL MyLaw.hdV [])
    (Yf := Hook.obs (kHook MyLaw.hdKs.heap_1 MyLaw.hdKs MyLaw.hdKe)) (Ya := Hook.val (kHook MyLaw.hdKs.heap_1 MyLaw.hdKs MyLaw.hdKe)) (YP := Hook.says (kHook MyLaw.hdKs.heap_1 MyLaw.hdKs MyLaw.hdKe)) (N := 6542)
    MyLaw.hdL (Hook.of _) (Hook.keeps _) (fun s z => xl_of s (Bool.and_eq_true_iff.mp z).1) XL.keeps (by rfl)
    (by rfl) (by rfl) (fun s z => recFacts_of (Bool.and_eq_true_iff.mp z).2) (by rfl)
    (by first | assumption | decide +kernel) (by decide +kernel)
    ⟨rfl, rfl, rfl, rfl, rfl, by decide +kernel⟩ ?hw ?hc
  (case hw => w_witness2)
  k_fill
  refine MyLaw.walk (l := PySem.Challenge.rw_markscale_k30_days_by_steps) rfl rfl (fun w h Y => PySem.W.kIn_of Y) ?F
  case F =>
    intro w mg fa h KX G hmg
    refine' MyLaw.all_mk KX G hmg ?a0 ?l0 ?c0 ?k0 ?a1 ?l1 ?c1 ?k1 ?a2 ?l2 ?c2 ?k2 ?dl2 ?a3 ?l3 ?c3 ?k3 ?a4 ?l4 ?c4 ?k4 ?a5 ?l5 ?c5 ?k5 ?a6 ?l6 ?c6 ?k6 ?a7 ?l7 ?c7 ?k7 ?a8 ?l8 ?c8 ?k8 ?a9 ?l9 ?c9 ?k9 ?a10 ?l10 ?c10 ?k10 ?a11 ?l11 ?c11 ?k11 ?a12 ?l12 ?c12 ?k12 ?a13 ?l13 ?c13 ?k13 ?a14 ?l14 ?c14 ?k14 ?a15 ?l15 ?c15 ?k15 ?a16 ?l16 ?c16 ?k16 ?a17 ?l17 ?c17 ?k17 ?a18 ?l18 ?c18 ?k18 ?a19 ?l19 ?c19 ?k19 ?a20 ?l20 ?c20 ?k20 ?a21 ?l21 ?c21 ?k21 ?a22 ?l22 ?c22 ?k22 ?a23 ?l23 ?c23 ?k23 ?a24 ?l24 ?c24 ?k24 ?a25 ?l25 ?c25 ?k25 ?a26 ?l26 ?c26 ?k26 ?a27 ?l27 ?c27 ?k27 ?a28 ?l28 ?c28 ?k28 ?a29 ?l29 ?c29 ?k29 ?dl29 ?a30 ?l30 ?c30 ?k30 ?a31 ?l31 ?c31 ?k31 ?a32 ?l32 ?c32 ?k32 ?a33 ?l33 ?c33 ?k33 ?a34 ?l34 ?c34 ?k34 ?a35 ?l35 ?c35 ?k35 ?a36 ?l36 ?c36 ?k36 ?a37 ?l37 ?c37 ?k37 ?a38 ?l38 ?c38 ?k38 ?a39 ?l39 ?c39 ?k39 ?a40 ?l40 ?c40 ?k40 ?a41 ?l41 ?c41 ?k41 ?a42 ?l42 ?c42 ?k42 ?w_SIGN_WIDTH ?w_WIDEST_LABEL ?w_LEAST_UPRIGHT ?w_ROOM_BESIDE ?w_LAST_YEAR ?w_DAYS_OF_400_YEARS ?w_MONTH_LENGTHS ?u_MONTH_LENGTHS ?w_NO_CELLS_DAYS ?u_NO_CELLS_DAYS ?w_DAY_STEPS ?u_DAY_STEPS ?ui_DAY_STEPS_0 ?ui_DAY_STEPS_1 ?ui_DAY_STEPS_2 ?ui_DAY_STEPS_3 ?ui_DAY_STEPS_4 ?ui_DAY_STEPS_5 ?ui_DAY_STEPS_6 ?ui_DAY_STEPS_7 ?n_NoNumber ?x_NoNumber ?e_NoNumber ?n_NoDay ?x_NoDay ?e_NoDay ?n_NoSpace ?x_NoSpace ?e_NoSpace ?z_isinstance ?z_int ?z_bool ?z_tuple ?z_str ?z_list ?z_abs ?z_len ?z_range ?z_sum ?z_max ?z_min ?z_zip
    all_goals try k_is
    (case x_NoNumber => k_exc)
    (case e_NoNumber => kts_exm)
    (case x_NoDay => k_exc)
    (case e_NoDay => kts_exm)
    (case x_NoSpace => k_exc)
    (case e_NoSpace => kts_exm)
