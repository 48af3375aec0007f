import PyProof.Rows.All
import Wide.All
import OpenK.AllK
import Wide.FinOn
import Lean
import PyProof.EqAt
import PyProof.EqKinds
import PyProof.TupleCall
import PyProof.NeKinds
import PyProof.SumWalkG
import PySem.Challenge.RW_markscale_k38_lines
noncomputable section
set_option compiler.extract_closed false
set_option Elab.async false
set_option linter.all false
set_option maxRecDepth 100000
theorem hGq {G : Prop} (h : ∀ P : Prop, (G → P) → P) : G := h G id
theorem qLq {l n : Nat} {k : Int} (h : l = n) (g : k < (n : Int)) : k < (l : Int) := h ▸ g
def cntPq : Nat → Lean.Syntax → Nat
  | 0, _ => 0
  | n + 1, s => if s.isIdent then 1 else s.getArgs.foldl (fun m a => m + cntPq n a) 0
local macro_rules | `(tactic| obtain $p:rcasesPatMed := $h) => if cntPq 30 p.raw < 4 then Lean.Macro.throwUnsupported else `(tactic| first | ((refine hGq fun P k => ?_); (obtain $p:rcasesPatMed : _ := $h) <;> ((refine k ?_); clear k P)) | obtain $p:rcasesPatMed : _ := $h)
local macro_rules | `(tactic| rintro $ps*) => (match ps.back? with | some q => (if cntPq 30 q.raw < 4 then Lean.Macro.throwUnsupported else (match q with | `(rintroPat| $p:rcasesPat) => do { let t ← `(tactic| (intro x; obtain $p:rcasesPat := x)); if ps.size = 1 then return t else `(tactic| ((rintro $(ps.pop)*); $t:tactic)) } | _ => Lean.Macro.throwUnsupported)) | none => Lean.Macro.throwUnsupported)
local macro_rules | `(tactic| lia) => `(tactic| first | with_reducible assumption | ((with_reducible refine qLq (by assumption) ?_); decide) | ((with_reducible refine Nat.le_trans (by assumption) ?_); decide) | lia +splitMatch | omega)
noncomputable section
abbrev cx := @PySem.wpAny_bind
abbrev cI := @List.length_map
abbrev dM := @List.getElem?_eq_getElem
abbrev e9 := @PySem.Heap.get?_push_of_some
abbrev fh := @PySem.wpAny_pure
abbrev gS := @if_neg
abbrev gV := @Bool.false_ne_true
abbrev i8 := @decide_eq_false
abbrev i9 := @if_pos
abbrev ja := @List.size_toArray
abbrev jb := @List.getElem?_map
abbrev jo := @Nat.le_refl
abbrev j3 := @List.getElem?_eq_some_iff
abbrev j4 := @List.mem_of_getElem?
abbrev j5 := @PySem.Heap.lt_size
abbrev j6 := @decide_eq_true
abbrev j7 := @List.mem_singleton
abbrev j8 := @List.mem_cons
abbrev j9 := @List.mem_append_right
abbrev kv := @List.mem_cons_self
abbrev kw := @List.map_cons
abbrev lb := @Int.emod_lt_of_pos
abbrev ld := @PySem.F.plainAttrs_list
abbrev lS := @Rat.intCast_mul
abbrev mv := @Nat.lt_of_lt_of_le
abbrev mV := @List.not_mem_nil
abbrev m7 := @List.mem_map
abbrev m8 := @PySem.Heap.get?_push_size
abbrev m9 := @PySem.lookup_relabel_local
abbrev nh := @List.length_append
abbrev nO := @List.getD_eq_getElem?_getD
abbrev nS := @Option.some.inj
abbrev nW := @Int.emod_nonneg
abbrev n8 := @List.mem_cons_of_mem
abbrev n9 := @Nat.le_trans
abbrev oM := @List.map_append
abbrev o4 := @PySem.PassesOwn.never
abbrev o5 := @List.length_cons
abbrev o7 := @PySem.F.slot_list_append
abbrev o8 := @PySem.F.type_list_append
abbrev o9 := @Int.pow_zero
abbrev q9 := @List.map_map
abbrev rd := @Nat.lt_of_le_of_lt
abbrev rm := @List.forall_mem_cons
abbrev rn := @Int.mul_one
abbrev r8 := @Int.mul_pos
abbrev sa := @decide_eq_true_eq
abbrev sf := @PySem.W.mg_none_of
abbrev sG := @List.nodup_cons
abbrev sV := @List.length_take
abbrev sY := @Int.ne_of_gt
abbrev tM := @Int.mul_le_mul_of_nonneg_right
abbrev t6 := @Int.pow_succ
abbrev uh := @Int.mul_assoc
abbrev uj := @PySem.call_isinstance
abbrev ur := @PySem.wpAny_mono
abbrev ut := @Int.le_of_lt
abbrev uD := @List.mem_append
abbrev uL := @List.getElem?_append_right
abbrev uR := @Bool.and_eq_true
abbrev uS := @Nat.ne_of_lt
abbrev uY := @PySem.wpAny_newObj_type
abbrev vo := @List.getElem?_append_left
abbrev vt := @List.all_eq_true
abbrev vv := @List.filterMap_cons
abbrev vF := @List.replicate_succ
abbrev vG := @List.getElem?_eq_none
abbrev vK := @PySem.wpAny_field
abbrev vM := @List.append_nil
abbrev Fg := PySem.W.Frag
abbrev Pn := List (PySem.Addr × PySem.Obj)
section
set_option maxRecDepth 100000
set_option maxHeartbeats 0
namespace MyLaw
open PySem PySem.W
def hdF (s : String) : Str := ⟨⟨(PySem.W.S.toListS s).map Char.toNat⟩⟩
theorem hdFe : @Str.ofString = hdF := by
 rw [Str.ofString_eq_byList]; funext s
 show (⟨⟨(String.toList s).map Char.toNat⟩⟩ : Str) = _
 rw [PySem.W.S.toListS_eq]; rfl
abbrev hdP : Program := PySem.Challenge.pw_markscale_k38_lines
abbrev LJ : OpenRow := OpenLaw.row PySem.Challenge.rw_markscale_k38_lines
noncomputable def hdG : PSigma λ G : (String -> Str) -> Program => PySem.Challenge.pw_markscale_k38_lines = G Str.ofString := by
 refine ⟨?G, (?g : PySem.Challenge.pw_markscale_k38_lines = (?G : (String -> Str) -> Program) Str.ofString -> _) ?p⟩
 case p =>
  delta PySem.Challenge.pw_markscale_k38_lines
  generalize Str.ofString = f
  exact rfl
 case g =>
  intro _
  exact rfl
def MR : List Nat := [1, 2, 4, 5, 7, 8, 9, 10, 11, 12, 13, 15, 16, 17, 18, 19, 20, 21, 22, 23, 24, 26, 27, 28, 29, 30, 31, 32, 34, 35, 36, 37, 39, 40, 41, 42, 43, 44, 45, 46, 47, 48, 49, 50, 51, 52, 53, 54, 55, 56, 57, 58, 59, 60, 61, 62, 63]
def hdV : Program := PySem.W.view hdP MR
end MyLaw
noncomputable def PySem.W.Fast.tw13209624178085538554 : PySem.Program := MyLaw.hdG.1 MyLaw.hdF
theorem PySem.W.Fast.te13209624178085538554 : PySem.Challenge.pw_markscale_k38_lines = PySem.W.Fast.tw13209624178085538554 := MyLaw.hdG.2.trans (congrArg MyLaw.hdG.1 MyLaw.hdFe)
namespace MyLaw
open PySem PySem.W
noncomputable abbrev ze : Program := PySem.W.Fast.tw13209624178085538554
noncomputable def hdT : Program := PySem.W.view ze MR
theorem hdE : hdV = hdT := congrArg (λ p => PySem.W.view p MR) PySem.W.Fast.te13209624178085538554
abbrev hdX (q : Program) (s : Shared) : Bool := xlAt q [] s && recOk (OpenRow.toRowW LJ).records s
def HdHyp (K : Params -> Frag) (as : List Addr) : Prop := ∀ (K' : Params -> Frag) (as' : List Addr), (∀ P, as' = (K' P).map (·.1)) -> K' = K -> as' = as -> LJ.Holds
def Gf (K : Params -> Frag) (as : List Addr) (_ : HdHyp K as -> LJ.Holds) (e : ∀ P, as = (K P).map (·.1)) : List Addr := let _ := e; as
local macro_rules
 | `(tactic| o_head (kHook $K $as $e)) => `(tactic| exact (show MyLaw.HdHyp _ _ from by assumption) $K $as $e rfl rfl)
def hdKs : List Addr := by
 apply Gf
 case x => intro hyp; k_head
 case e => intro P; kernel_rfl
abbrev CH : Params -> Frag := MyLaw.hdKs.heap_1
theorem hdKe : ∀ P, hdKs = (MyLaw.hdKs.heap_1 P).map (·.1) := by intro P; kernel_rfl
noncomputable def zR : PSigma λ G : (String -> Str) -> Params -> Frag => MyLaw.hdKs.heap_1 = G Str.ofString := by
 refine ⟨?G, (?g : MyLaw.hdKs.heap_1 = (?G : (String -> Str) -> Params -> Frag) Str.ofString -> _) ?p⟩
 case p =>
  delta MyLaw.hdKs.heap_1
  generalize Str.ofString = f
  exact rfl
 case g =>
  intro _
  exact rfl
noncomputable def Ez (tb : String -> Option Builtin) (p : Program) (w : World) (n₀ : Nat) (ann : Option Value) : Nat -> SharedT -> Thread -> Option SharedT
 | 0, _, _ => none
 | n + 1, s, t => match through t with
  | true => some s
  | false => match PySem.W.Fast.tw6613529449190102663 n₀ ann t with
   | false => none
   | true => match PySem.W.Fast.tw10156331382660048174 (PySem.W.Fast.tw11892475500146522536 tb) p w s t with
    | some (s', t') => Ez tb p w n₀ ann n s' t'
    | none => none
theorem xj {tb : String -> Option Builtin} {p : Program} {w : World} {n₀ : Nat} {ann : Option Value} : ∀ {n : Nat} {s r : SharedT} {t : Thread}, Ez tb p w n₀ ann n s t = some r -> topRun tb p w n₀ ann n s.abs t = some r.abs
 | 0, _, _, _, h => by cases h
 | n + 1, s, r, t, h => by
  unfold Ez at h
  rw [<- PySem.W.Fast.te6613529449190102663, <- PySem.W.Fast.te10156331382660048174, <- PySem.W.Fast.te11892475500146522536] at h
  unfold topRun
  cases he : through t with
  | true => rw [he] at h; cases h; rfl
  | false =>
   rw [he] at h
   cases hk : stepOk n₀ ann t with
   | false => rw [hk] at h; cases h
   | true =>
    rw [hk] at h
    cases hs : stepT (denote tb) p w s t with
    | none => rw [hs] at h; cases h
    | some q => obtain ⟨s₂, t₂⟩ := q; rw [hs] at h; rw [stepT_spec hs]; exact xj h
noncomputable def Cb : List Obj -> Nat -> BT -> BT
 | [], _, t => t
 | o :: r, i, t => Cb r (i + 1) (t.ins i o)
noncomputable def IB (s : Shared) : SharedT := ⟨Cb s.heap.objs.toList 0 .nil, s.heap.objs.size, s.heap.life, s.gens, s.drawn, s.toks, s.os⟩
noncomputable abbrev hdTb := PySem.W.Fast.tw14364793385576792824
noncomputable abbrev Jt (s₀ s₁ : Shared) : Option Shared := match staticsOk (importedModules ze.main.body) s₀.heap s₁.heap && namesBound ze s₁.heap && gensDone s₁ && laidKept s₀.heap s₁.heap with
 | true => some s₁
 | false => none
noncomputable def wn (w : World) (s₀ : Shared) : Option Shared := match s₀.heap.isNs mainGlobals && s₀.gens.size == 0 with
 | true => (Ez hdTb ze w s₀.heap.objs.size (s₀.heap.nsMap mainGlobals "__annotations__") 4574 (IB s₀) (topStub ze)).bind λ r => Jt s₀ r.abs
 | false => none
noncomputable def mQ (w : World) : Option Shared := (fencedOpening hdTb ze w 4574).bind (wn w)
theorem hdO : ∀ w : World, (fencedOpening hdTb ze w 4574).map (λ s => (IB s).abs) = fencedOpening hdTb ze w 4574 := by intro w; kernel_rfl
theorem zw {w : World} {s : Shared} (h : mQ w = some s) : openEnds hdTb ze w 4574 = some s := by
 unfold mQ at h
 unfold openEnds
 have o := hdO w
 generalize fencedOpening hdTb ze w 4574 = x at h o ⊢
 cases x with
 | none => cases h
 | some s₀ =>
  have o : (IB s₀).abs = s₀ := nS o
  have h : wn w s₀ = some s := h
  show topFrom hdTb ze w 4574 s₀ = some s
  unfold wn at h
  unfold topFrom
  cases hb : (s₀.heap.isNs mainGlobals && s₀.gens.size == 0) with
  | false => rw [hb] at h; cases h
  | true =>
   rw [hb] at h
   dsimp only at h ⊢
   obtain ⟨r, h1, h2⟩ := Option.bind_eq_some_iff.mp h
   have h3 := xj h1
   rw [o] at h3
   rw [h3]
   exact h2
noncomputable abbrev jc (s : Shared) := PySem.W.Fast.tw4187177175401517315 hdT [hdF "number"] (PySem.W.Fast.tw5923862056798008813 ze.main.body) (hdX hdT) true s
noncomputable abbrev hdGood := openGood hdT [hdF "number"]
open PyProof PyProof.Rows
theorem hdA : ∀ w : World, Option.map (λ s => (jc s).1) (mQ w) = some (expectedOf hdT) := by intro w; kernel_rfl
theorem hdB : ∀ w : World, Option.map (λ s => ((jc s).2.1, (jc s).2.2.1, (jc s).2.2.2.1)) (mQ w) = some (bltViewBooted, true, true) := by intro w; kernel_rfl
theorem LN : ∀ w : World, Option.map (λ s => (jc s).2.2.2.2) (mQ w) = some (pinGoodD (drecsOf hdT), plainGoodE hdT (looseW hdT [hdF "number"]), plainGoodD hdT [hdF "number"], wideGood hdT, clsGoodW hdT [hdF "number"]) := by intro w; kernel_rfl
theorem hdD : ∀ w : World, Option.map (λ s => hdKs.map s.heap.get?) (mQ w) = some ((zR.1 hdF w.params).map λ p => some p.2) := by intro w; kernel_rfl
theorem hdL : LeftO LJ.prog hdV [Str.ofString "number"] (hdX hdV) (kHook CH hdKs hdKe).obs (kHook CH hdKs hdKe).val 4574 := by
 intro w
 show Option.map (λ s => (openSeen hdV [Str.ofString "number"] (importedModules (PySem.Challenge.pw_markscale_k38_lines).main.body) (hdX hdV) true s, hdKs.map s.heap.get?)) (openEnds treeTable PySem.Challenge.pw_markscale_k38_lines w 4574) = some (openGood hdV [Str.ofString "number"], (CH w.params).map λ p => some p.2)
 have eK : CH = zR.1 hdF := zR.2.trans (congrArg zR.1 hdFe)
 rw [hdE, hdFe, PySem.W.Fast.te13209624178085538554, PySem.W.Fast.te4187177175401517315, PySem.W.Fast.te5923862056798008813, PySem.W.Fast.te14364793385576792824, eK]
 have a := hdA w
 have b := hdB w
 have c := LN w
 have d := hdD w
 cases hx : mQ w with
 | none => rw [hx] at a; cases a
 | some s =>
  rw [hx] at a b c d
  rw [show openEnds PySem.W.Fast.tw14364793385576792824 PySem.W.Fast.tw13209624178085538554 w 4574 = some s from zw hx]
  have a : (jc s).1 = expectedOf hdT := nS a
  have b := nS b
  have c : (jc s).2.2.2.2 = _ := nS c
  have d : hdKs.map s.heap.get? = (zR.1 hdF w.params).map λ p => some p.2 := nS d
  obtain ⟨b1, b2⟩ := Prod.mk.inj b
  obtain ⟨b2, b3⟩ := Prod.mk.inj b2
  show some (jc s, hdKs.map s.heap.get?) = some (hdGood, _)
  rw [d]
  generalize jc s = y at a b1 b2 b3 c ⊢
  obtain ⟨y1, y2, y3, y4, y5⟩ := y
  subst a b1 b2 b3 c
  rfl
open PyProof.Rows in
set_option maxRecDepth 100000 in
set_option maxHeartbeats 0 in
def hdZ : PSigma λ G : Prop => G → PySem.Challenge.rw_markscale_k38_lines.Holds := by
 apply PSigma.mk
 case snd =>
  intro hc
  w_on; o_law
  refine holds_open (q := MyLaw.hdV) (loose := [Str.ofString "number"]) (Xt := MyLaw.hdX MyLaw.hdV) (XP := XL MyLaw.hdV [])
   (Yf := Hook.obs (kHook MyLaw.hdKs.heap_1 MyLaw.hdKs MyLaw.hdKe)) (Ya := Hook.val (kHook MyLaw.hdKs.heap_1 MyLaw.hdKs MyLaw.hdKe)) (YP := Hook.says (kHook MyLaw.hdKs.heap_1 MyLaw.hdKs MyLaw.hdKe)) (N := 4574)
   MyLaw.hdL (Hook.of _) (Hook.keeps _) (λ s z => xl_of s (Bool.and_eq_true_iff.mp z).1) XL.keeps (by rfl)
   (by rfl) (by rfl) (λ s z => recFacts_of (Bool.and_eq_true_iff.mp z).2) (by rfl)
   (by first | assumption | decide +kernel) (by decide +kernel)
   ⟨rfl, rfl, rfl, rfl, rfl, by decide +kernel⟩ ?hw ?hcc
  (case hw => w_witness2)
  exact hc
end MyLaw
end
namespace L2
open PySem PySem.Spec PyProof.Rows
noncomputable abbrev Key := Sum Int Str
def Fv : Key -> Value -> Bool
 | .inl k, v => Value.isInt k v
 | .inr x, v => Value.isStrOf x v
def Nr (w : World) : Key -> Int
 | .inl k => hashInt k
 | .inr x => hashStr w x
theorem bV : ∀ {k : Key} {v : Value}, Fv k v = true -> (∃ i t, k = Sum.inl i /\ v = Value.int i t) ∨ (∃ x t, k = Sum.inr x /\ v = Value.str x t)
 | .inl i, v, h => by
  obtain ⟨t, e⟩ := Value.isInt_shape (k := i) (v := v) h
  exact .inl ⟨i, t, rfl, e⟩
 | .inr x, v, h => by
  obtain ⟨t, e⟩ := Value.isStrOf_shape (x := x) (v := v) h
  exact .inr ⟨x, t, rfl, e⟩
theorem Iv (a b : Int) : decide ((Sum.inl a : Key) = Sum.inl b) = (a == b) := by
 by_cases e : a = b
 ·subst e; simp
 ·have h : ¬ (Sum.inl a : Key) = Sum.inl b := λ q => e (Sum.inl.inj q)
  rw [i8 h]
  exact (beq_eq_false_iff_ne.mpr e).symm
theorem IK (a b : Str) : decide ((Sum.inr a : Key) = Sum.inr b) = decide (a = b) := by
 by_cases e : a = b
 ·subst e; simp
 ·have h : ¬ (Sum.inr a : Key) = Sum.inr b := λ q => e (Sum.inr.inj q)
  rw [i8 h, i8 e]
theorem Gs (a : Int) (b : Str) : decide ((Sum.inl a : Key) = Sum.inr b) = false := i8 (λ q => nomatch q)
theorem GB (a : Str) (b : Int) : decide ((Sum.inr a : Key) = Sum.inl b) = false := i8 (λ q => nomatch q)
def jC (prog : Program) (w : World) : PySem.KeyKind prog w Key where
 is := Fv
 hash := Nr w
 inj := λ v a b ha hb => by
  rcases bV ha with ⟨i, t, rfl, rfl⟩ | ⟨x, t, rfl, rfl⟩
  ·rcases bV hb with ⟨j, u, rfl, e⟩ | ⟨y, u, rfl, e⟩
   ·injection e with e1 _; rw [e1]
   ·exact nomatch e
  ·rcases bV hb with ⟨j, u, rfl, e⟩ | ⟨y, u, rfl, e⟩
   ·exact nomatch e
   ·injection e with e1 _; rw [e1]
 byValue := λ k v h => by
  rcases bV h with ⟨i, t, rfl, rfl⟩ | ⟨x, t, rfl, rfl⟩ <;> rfl
 pyHash := λ hv h => by
  rcases bV hv with ⟨i, t, rfl, rfl⟩ | ⟨x, t, rfl, rfl⟩
  ·exact wpAny_pyHash_int h
  ·exact wpAny_pyHash_str h
 eqBool := λ hu hv h => by
  rcases bV hu with ⟨i, t, rfl, rfl⟩ | ⟨x, t, rfl, rfl⟩
  ·rcases bV hv with ⟨j, u, rfl, rfl⟩ | ⟨y, u, rfl, rfl⟩
   ·rw [Iv] at h; exact wpAny_eqBool_int h
   ·rw [Gs] at h; exact SeqAt.EqAt.int_str i t y u _ _ _ _ h
  ·rcases bV hv with ⟨j, u, rfl, rfl⟩ | ⟨y, u, rfl, rfl⟩
   ·rw [GB] at h; exact SeqAt.EqAt.str_int x t j u _ _ _ _ h
   ·rw [IK] at h; exact wpAny_eqBool_str h
 «strs» := λ k x t v h => by
  rcases bV h with ⟨i, u, rfl, e⟩ | ⟨y, u, rfl, e⟩
  ·exact nomatch e
  ·injection e with e1 _
   subst e1
   cases v <;> rfl
inductive V where
 | non | bl (b : Bool) | int (i : Int) | str (x : Str) | byt (b : Array UInt8) | flt (b : UInt64) | ref (a : Addr) | ty (n : String)
 deriving DecidableEq
def bh : V -> Value -> Prop
 | .non, u => u = Value.none
 | .bl b, u => u = Value.bool b
 | .int i, u => ∃ t, u = Value.int i t
 | .str x, u => ∃ t, u = Value.str x t
 | .byt b, u => ∃ t, u = Value.bytes b t
 | .flt b, u => ∃ t, u = Value.float b t
 | .ref a, u => u = Value.ref a
 | .ty n, u => u = Value.type n
noncomputable abbrev aM : List V -> List Value -> Prop := Paired bh
theorem aM.length {xs : List V} {us : List Value} (r : aM xs us) : xs.length = us.length := Paired.length r
theorem aM.get : ∀ {xs : List V} {us : List Value} {i : Nat} {x : V}, aM xs us -> xs[i]? = some x -> ∃ u, us[i]? = some u /\ bh x u
 | _, _, _, _, .nil, e => by simp at e
 | _, _, 0, _, .cons r _, e => by simp at e; subst e; exact ⟨_, rfl, r⟩
 | _, _, i + 1, x, .cons _ t, e => by
  obtain ⟨u, h1, h2⟩ := aM.get (i := i) (x := x) t (by simpa using e)
  exact ⟨u, by simpa using h1, h2⟩
theorem aM.append : ∀ {xs ys : List V} {us ws : List Value}, aM xs us -> aM ys ws -> aM (xs ++ ys) (us ++ ws)
 | _, _, _, _, .nil, s => s
 | _, _, _, _, .cons r t, s => .cons r (aM.append t s)
theorem aM.take : ∀ {xs : List V} {us : List Value} (n : Nat), aM xs us -> aM (xs.take n) (us.take n)
 | _, _, 0, _ => .nil
 | _, _, _ + 1, .nil => .nil
 | _, _, n + 1, .cons r t => .cons r (aM.take n t)
theorem aM.drop : ∀ {xs : List V} {us : List Value} (n : Nat), aM xs us -> aM (xs.drop n) (us.drop n)
 | _, _, 0, r => r
 | _, _, _ + 1, .nil => .nil
 | _, _, n + 1, .cons _ t => aM.drop n t
def EJ : Option V -> Option Value -> Prop
 | some v, some u => bh v u
 | none, none => True
 | _, _ => False
def KV {κ : Type} : List (κ × V) -> List (κ × Value) -> Prop := Paired λ (p : κ × V) (q : κ × Value) => p.1 = q.1 /\ bh p.2 q.2
noncomputable def kV : Key -> V
 | .inl i => .int i
 | .inr x => .str x
inductive HO where
 | lst (xs : List V)
 | tup (xs : List V)
 | dK (kvs : List (Key × V)) | dT (kvs : List (List Key × V))
 | set (S : Int -> Bool) (n : Nat)
 | ins (C dx : Addr) (fs : List (Str × V))
 | own (x : Addr)
 | xd (fs : List (Str × V))
 | met (f x : Addr)
 | rng (lo hi : Int)
 | frz (o : Obj) (u : HO)
 | tbl (ps : Array Value)
 | ext (φ : Heap -> Prop)
noncomputable abbrev Hp := Addr -> Option HO
def upd (H : Hp) (a : Addr) (o : HO) : Hp := λ b => if b = a then some o else H b
variable {H : Hp} {a : Addr} {o : HO}
theorem ar : upd H a o a = some o := by unfold upd; rw [i9 rfl]
variable {b : Addr}
theorem am (h : b ≠ a) : upd H a o b = H b := by unfold upd; rw [gS h]
theorem wv {u : HO} (h : H a = some o) (h' : H b = some u) (d : o ≠ u) : a ≠ b := by
 intro e; subst e; rw [h] at h'; exact d (nS h')
theorem cH (h : H a = some o) (h' : H b = none) : a ≠ b := by
 intro e; subst e; rw [h] at h'; cases h'
section
variable (P : Program) (w : World)
def cA (H : Hp) (h : Heap) (a : Addr) : HO -> Prop
 | .lst xs => xs.length <= sizeLine /\ ∃ (its : List Value) (n : Nat), aM xs its /\ h.get? a = some { cls := .type "list", data := .seq its.toArray n }
 | .tup xs => xs.length <= sizeLine /\ ∃ its : List Value, aM xs its /\ IsTup h a its.toArray
 | .dK kvs => kvs.length <= sizeLine /\ (a == sysModules) = false /\ ∃ vs, KV kvs vs /\ h.DictOf (jC P w) a vs
 | .dT kvs => kvs.length <= sizeLine /\ (a == sysModules) = false /\ ∃ xs : List (List Key × Addr × Value),
   Paired (λ (p : List Key × V) (q : List Key × Addr × Value) => p.1 = q.1 /\ H q.2.1 = some (.tup (p.1.map kV)) /\ bh p.2 q.2.2) kvs xs /\
   ∃ o es ep, h.get? a = some o /\ o.ExactDict /\ o.data = .dict es ep /\ es.toList = xs.map (entryOfKey (tupleKind (jC P w))) /\ (xs.map (·.1)).Nodup
 | .set S n => h.SetOf (intKind P w) a S n
 | .ins C dx fs => H dx = some (.own a) /\ fs.length <= 1000 /\ dx ≠ a /\ h.get? a = some (PySem.W.instObj C dx) /\
   ∃ mA, h.Ns1 dx mA /\ (∀ f, EJ (fs.lookup f) (mA f)) /\ PySem.Within mA (fs.map (·.1))
 | .own _ => ∃ o, h.get? a = some o
 | .xd fs => ∃ mA, h.Ns1 a mA /\ ∀ f, EJ (fs.lookup f) (mA f)
 | .rng lo hi => ∃ t u v, h.get? a = some { cls := .type "range", data := .fields #[.int lo t, .int hi u, .int 1 v] }
 | .frz o u => h.get? a = some o /\ cA H h a u
 | .tbl ps => h.get? a = some { cls := .none, data := .fields ps }
 | .met f x => h.get? a = some (PySem.W.methodObj (.ref f) (.ref x))
 | .ext φ => φ h /\ (∃ o, h.get? a = some o) /\ ∀ h1 h2 : Heap, φ h1 -> (∀ o, h1.get? a = some o -> h2.get? a = some o) -> φ h2
def lU (H : Hp) (h : Heap) : Prop := ∀ a o, H a = some o -> cA P w H h a o
end
section
variable {P : Program} {w : World} {H H' : Hp} {h h' : Heap} {a : Addr} {o : HO}
theorem cA.lt (x : cA P w H h a o) : a < h.objs.size := by
 cases o with
 | lst xs => obtain ⟨_, _, _, _, e⟩ := x; exact j5 e
 | tup xs => obtain ⟨_, _, _, p⟩ := x; exact p.lt
 | dK kvs => obtain ⟨_, _, _, _, o, _, _, e, _⟩ := x; exact j5 e
 | dT kvs => obtain ⟨_, _, _, _, o, _, _, e, _⟩ := x; exact j5 e
 | set S n => obtain ⟨o, _, _, _, e, _⟩ := x; exact j5 e
 | ins C dx fs => obtain ⟨_, _, _, e, _⟩ := x; exact j5 e
 | own y => obtain ⟨_, e⟩ := x; exact j5 e
 | xd fs => obtain ⟨_, ⟨_, _, _, e, _⟩, _⟩ := x; exact j5 e
 | rng lo hi => obtain ⟨_, _, _, e⟩ := x; exact j5 e
 | frz ob u => obtain ⟨e, _⟩ := x; exact j5 e
 | tbl ps => exact j5 (show h.get? a = some _ from x)
 | met f y => exact j5 (show h.get? a = some _ from x)
 | ext φ => obtain ⟨_, ⟨_, e⟩, _⟩ := x; exact j5 e
theorem Paired.mapP {α β : Type} {F G : α -> β -> Prop} : ∀ {l₁ : List α} {l₂ : List β}, Paired F l₁ l₂ -> (∀ a b, F a b -> G a b) -> Paired G l₁ l₂
 | _, _, .nil, _ => .nil
 | _, _, .cons r t, f => .cons (f _ _ r) (Paired.mapP t f)
theorem cA.stay (x : cA P w H h a o) (k : ∀ b u, (b = a ∨ H b = some (.own a)) -> h.get? b = some u -> h'.get? b = some u)
  (ho : ∀ b, H b = some (.own a) -> H' b = some (.own a)) (ht : ∀ b xs, H b = some (.tup xs) -> H' b = some (.tup xs)) : cA P w H' h' a o := by
 induction o with
 | lst xs => obtain ⟨z, its, n, r, e⟩ := x; exact ⟨z, its, n, r, k _ _ (.inl rfl) e⟩
 | tup xs => obtain ⟨z, its, r, ob, e, c⟩ := x; exact ⟨z, its, r, ob, k _ _ (.inl rfl) e, c⟩
 | dK kvs => obtain ⟨z, y, vs, r, ob, es, ep, e, c⟩ := x; exact ⟨z, y, vs, r, ob, es, ep, k _ _ (.inl rfl) e, c⟩
 | dT kvs =>
  obtain ⟨z, y, xs, r, ob, es, ep, e, c⟩ := x
  exact ⟨z, y, xs, Paired.mapP r λ p q z => ⟨z.1, ht _ _ z.2.1, z.2.2⟩, ob, es, ep, k _ _ (.inl rfl) e, c⟩
 | set S n => obtain ⟨ob, es, ep, t, e, c⟩ := x; exact ⟨ob, es, ep, t, k _ _ (.inl rfl) e, c⟩
 | ins C dx fs =>
  obtain ⟨d, z, ne, e, mA, ⟨od, es, ep, e2, c⟩, r⟩ := x
  exact ⟨ho _ d, z, ne, k _ _ (.inl rfl) e, mA, ⟨od, es, ep, k _ _ (.inr d) e2, c⟩, r⟩
 | own y => obtain ⟨ob, e⟩ := x; exact ⟨ob, k _ _ (.inl rfl) e⟩
 | xd fs => obtain ⟨mA, ⟨od, es, ep, e, c⟩, r⟩ := x; exact ⟨mA, ⟨od, es, ep, k _ _ (.inl rfl) e, c⟩, r⟩
 | rng lo hi => obtain ⟨t, u, v, e⟩ := x; exact ⟨t, u, v, k _ _ (.inl rfl) e⟩
 | frz ob u ih => obtain ⟨e, q⟩ := x; exact ⟨k _ _ (.inl rfl) e, ih q⟩
 | tbl ps =>
  have e : h.get? a = some { cls := .none, data := .fields ps } := x
  show h'.get? a = some { cls := .none, data := .fields ps }
  exact k a _ (.inl rfl) e
 | met f y =>
  have e : h.get? a = some (PySem.W.methodObj (.ref f) (.ref y)) := x
  show h'.get? a = some (PySem.W.methodObj (.ref f) (.ref y))
  exact k a _ (.inl rfl) e
 | ext φ => obtain ⟨p, ⟨o, e⟩, st⟩ := x; exact ⟨st _ _ p λ o q => k _ _ (.inl rfl) q, ⟨o, k _ _ (.inl rfl) e⟩, st⟩
theorem lU.lt (x : lU P w H h) (e : H a = some o) : a < h.objs.size := (x a o e).lt
theorem lU.fresh (x : lU P w H h) (e : h.objs.size <= a) : H a = none := by
 cases q : H a with
 | none => rfl
 | some u => exact absurd (mv (x.lt q) e) (Nat.lt_irrefl _)
theorem lU.kept (x : lU P w H h) (k : ∀ b u, h.get? b = some u -> h'.get? b = some u) : lU P w H h' := λ a o e =>
 (x a o e).stay (λ b u _ q => k b u q) (λ _ q => q) λ _ _ q => q
theorem lU.laid (x : lU P w H h) (k : ∀ b u, h.get? b = some u -> h'.get? b = some u) (hp : h.objs.size <= a) (new : cA P w (upd H a o) h' a o) : lU P w (upd H a o) h' := λ b u e => by
 have hn := x.fresh hp
 by_cases hb : b = a
 ·subst hb; rw [ar] at e; cases e; exact new
 ·rw [am hb] at e
  exact (x b u e).stay (λ c v _ q => k c v q) (λ c q => by rw [am (cH q hn)]; exact q) λ c xs q => by rw [am (cH q hn)]; exact q
end
def Rd (H : Hp) (a : Addr) (u : HO) : Prop := H a = some u ∨ ∃ o, H a = some (.frz o u)
variable {h : Heap}
theorem Rd.ok {P : Program} {w : World} {u : HO} (r : Rd H a u) (x : lU P w H h) : cA P w H h a u := by
 rcases r with r | ⟨o, r⟩
 ·exact x a u r
 ·obtain ⟨_, q⟩ := x a _ r
  exact q
def LK : Option HO -> Prop
 | some (.lst _) => True
 | some (.dK _) => True
 | some (.dT _) => True
 | some (.set _ _) => True
 | some (.ins _ _ _) => True
 | some (.ext _) => True
 | _ => False
section
variable {P : Program} {w : World} {H : Hp} {h h' : Heap} {x e : Addr} {o' : HO}
theorem lU.write (ok : lU P w H h) (mu : LK (H x)) (he : e = x ∨ H e = some (.own x)) (k : ∀ b u, b ≠ e -> h.get? b = some u -> h'.get? b = some u) (heo : ∃ u, h'.get? e = some u)
  (new : cA P w (upd H x o') h' x o') : lU P w (upd H x o') h' := λ b u q => by
 have nown : ∀ c y, H c = some (.own y) -> c ≠ x := λ c y r z => by subst z; rw [r] at mu; exact mu
 have ntup : ∀ c xs, H c = some (.tup xs) -> c ≠ x := λ c xs r z => by subst z; rw [r] at mu; exact mu
 by_cases hb : b = x
 ·subst hb; rw [ar] at q; cases q; exact new
 ·rw [am hb] at q
  by_cases hbe : b = e
  ·have q' : H b = some (.own x) := by
    rcases he with z | z
    ·exact absurd (hbe.trans z) hb
    ·rw [hbe]; exact z
   rw [q] at q'; cases q'
   obtain ⟨v, hv⟩ := heo
   exact ⟨v, by rw [hbe]; exact hv⟩
  ·refine (ok b u q).stay (λ c v hc r => k c v ?_ r) (λ c r => by rw [am (nown c b r)]; exact r) λ c xs r => by rw [am (ntup c xs r)]; exact r
   rcases hc with rfl | hc
   ·exact hbe
   ·rintro rfl
    rcases he with z | z
    ·exact nown c b hc z
    ·rw [hc] at z; cases z; exact hb rfl
end
structure Un (fs ex : List Addr) (H H' : Hp) (h h' : Heap) : Prop where
 keep : ∀ b o, h.get? b = some o -> H b = none -> b ∉ fs -> b ∉ ex -> h'.get? b = some o
 slot : ∀ b o, h.get? b = some o -> H b = none -> b ∈ fs -> b ∉ ex -> ∃ sl, h'.get? b = some { o with slots := sl }
 free : ∀ b o, h.get? b = some o -> H b = none -> b ∉ ex -> H' b = none
 there : ∀ b o, h.get? b = some o -> b ∉ ex -> ∃ o', h'.get? b = some o'
 tups : ∀ b xs, H b = some (.tup xs) -> H' b = some (.tup xs)
 frzs : ∀ b o u, H b = some (.frz o u) -> H' b = some (.frz o u)
 tbls : ∀ b ps, H b = some (.tbl ps) -> ∃ more, H' b = some (.tbl (ps ++ more))
section
variable {fs fs' ex ex' : List Addr} {H H1 H2 : Hp} {h h1 h2 h' : Heap} {a x e : Addr} {o : HO}
theorem Un.any (u : Un fs ex H H1 h h1) {b : Addr} {ob : Obj} (q : h.get? b = some ob) (n : H b = none) (hx : b ∉ ex) : ∃ sl, h1.get? b = some { ob with slots := sl } := by
 by_cases hb : b ∈ fs
 ·exact u.slot b ob q n hb hx
 ·exact ⟨ob.slots, u.keep b ob q n hb hx⟩
theorem Un.kept (k : ∀ b u, h.get? b = some u -> h'.get? b = some u) : Un fs ex H H h h' :=
 ⟨λ b ob q _ _ _ => k b ob q, λ b ob q _ _ _ => ⟨ob.slots, k b ob q⟩, λ _ _ _ n _ => n, λ b ob q _ => ⟨ob, k b ob q⟩, λ _ _ q => q, λ _ _ _ q => q, λ _ ps q => ⟨#[], by rw [q]; simp⟩⟩
theorem Un.refl : Un fs ex H H h h := Un.kept λ _ _ q => q
theorem Un.laid (k : ∀ b u, h.get? b = some u -> h'.get? b = some u) (hp : h.objs.size <= a) (hn : H a = none) : Un fs ex H (upd H a o) h h' where
 keep := λ b u q _ _ _ => k b u q
 slot := λ b u q _ _ _ => ⟨u.slots, k b u q⟩
 free := λ b u q n _ => by rw [am (uS (mv (j5 q) hp))]; exact n
 there := λ b u q _ => ⟨u, k b u q⟩
 tups := λ b xs q => by rw [am (cH q hn)]; exact q
 frzs := λ b u xs q => by rw [am (cH q hn)]; exact q
 tbls := λ b ps q => ⟨#[], by rw [am (cH q hn), q]; simp⟩
theorem Un.write (mu : LK (H x)) (he : e = x ∨ H e = some (.own x)) (k : ∀ b u, b ≠ e -> h.get? b = some u -> h'.get? b = some u) (heo : ∃ u, h'.get? e = some u) : Un fs ex H (upd H x o) h h' := by
 have hx : ∀ b, H b = none -> b ≠ x := λ b n z => by subst z; rw [n] at mu; exact mu
 have hb : ∀ b, H b = none -> b ≠ e := λ b n z => by
  subst z
  rcases he with r | r
  ·exact hx b n r
  ·rw [n] at r; cases r
 have hm : ∀ b u, H b = some u -> ¬ LK (some u) -> b ≠ x := λ b u q nm z => by subst z; rw [q] at mu; exact nm mu
 refine ⟨λ b u q n _ _ => k b u (hb b n) q, λ b u q n _ _ => ⟨u.slots, k b u (hb b n) q⟩, λ b u q n _ => by rw [am (hx b n)]; exact n, λ b u q _ => ?_,
  λ b xs q => by rw [am (hm b _ q λ z => z)]; exact q, λ b u xs q => by rw [am (hm b _ q λ z => z)]; exact q, λ b ps q => ⟨#[], by rw [am (hm b _ q λ z => z), q]; simp⟩⟩
 by_cases hbe : b = e
 ·subst hbe; exact heo
 ·exact ⟨u, k b u hbe q⟩
end
def LQ (h : Heap) (H : Hp) : List Addr := (List.range h.objs.size).filter λ a => (H a).isSome
noncomputable def qH (h : Heap) (H : Hp) : Heap := PySem.W.hideAll h (LQ h H)
theorem xH (h : Heap) (H : Hp) : (qH h H).objs.size = h.objs.size := PySem.W.hideAll_size _ _
theorem AH {o : Obj} (e : h.get? b = some o) (n : H b = none) : (qH h H).get? b = some o :=
 PySem.W.hideAll_get _ e λ hm => by
  have q : (H b).isSome = true := (List.mem_filter.mp hm).2
  rw [n] at q; simp at q
theorem EQ {o : Obj} (e : (qH h H).get? b = some o) : h.get? b = some o /\ H b = none := by
 have e' : h.get? b = some o := PySem.W.of_hideAll (LQ h H) e
 refine ⟨e', ?_⟩
 cases q : H b with
 | none => rfl
 | some x =>
  have hm : b ∈ LQ h H := List.mem_filter.mpr ⟨List.mem_range.mpr (j5 e'), by simp [q]⟩
  have z : (qH h H).get? b = none := PySem.W.hideAll_none (LQ h H) hm
  rw [z] at e; cases e
structure Mod (K : Fg) (mg : Str -> Option Value) (base : Heap) : Prop where
 kin : K.In base
 glob : base.Ns mainGlobals mg
 blt : ∃ mb, base.Ns builtinsNs mb /\ ∀ x : Str, x ≠ "__name__" -> mb x = bootBuiltins x
 nolimit : base.NoLimit
structure Cx where
 prog : Program
 w : World
 K : Fg
 mg : Str -> Option Value
 base : Heap
 A : Around
 N : List Str
 s₀ : Shared
 H₀ : Hp
 env : Env
 outer : List Env
 stack : List Env
 ex : List Addr
 fn : Str -> Bool
 calm : Bool
 pn : Pn
 xe : Value -> Shared -> Prop
def jV (l : List Env) : List Addr := l.filterMap (·.frame)
noncomputable abbrev Cx.fs (X : Cx) : List Addr := jV X.outer
def JA (sc : Scope) (x : Str) : Prop := sc.names.lookup x = some .local ∨ sc.names.lookup x = some .cell ∨ sc.names.lookup x = some .free
def Fi (sc : Scope) (x : Str) : Prop := sc.names.lookup x = some .local ∨ sc.names.lookup x = some .cell
def MM (env : Env) (h : Heap) (m : Str -> Option Value) (x : Str) (u : Value) : Prop :=
 (env.kindOf x = some .local /\ m x = some u) ∨ ((env.kindOf x = some .cell ∨ env.kindOf x = some .free) /\ ∃ c, env.cells.lookup x = some c /\ h.IsCell c (some u))
structure Cx.Ok (X : Cx) : Prop where
 mod : Mod X.K X.mg X.base
 kind : X.env.scope.kind = .function
 glob : X.env.globals = mainGlobals
 blt : X.env.builtins = builtinsNs
 above : X.s₀.heap.objs.size <= X.env.locals
 inj : ∀ x y c, X.env.cells.lookup x = some c -> X.env.cells.lookup y = some c -> x = y
 has : ∀ x, (X.env.kindOf x = some .cell ∨ X.env.kindOf x = some .free) -> ∃ c, X.env.cells.lookup x = some c
 cab : ∀ x c, X.fn x = true -> X.env.cells.lookup x = some c -> X.s₀.heap.objs.size <= c
 hd : X.calm = true -> X.A.handled = none
 frames : X.A.frames = some X.stack
 stk : X.stack = X.outer ∨ (X.stack = X.env :: X.outer /\ X.env.frame = some X.env.locals)
 exf : ∀ b ∈ X.ex, b ≠ X.env.locals /\ ∀ x c, X.env.cells.lookup x = some c -> c ≠ b
 bs : ∀ b o, X.base.get? b = some o -> X.s₀.heap.get? b = some o /\ X.H₀ b = none
 bsz : X.base.objs.size <= X.s₀.heap.objs.size
 noex : ∀ b o, X.base.get? b = some o -> b ∉ X.ex
 exfs : ∀ b ∈ X.ex, b ∉ X.fs
 funs : X.s₀.heap.FunFrames X.base X.outer
 frf : ∀ b ∈ X.fs, X.H₀ b = none
structure Inv (X : Cx) (pins : Pn) (Z : List (Option V)) (H : Hp) (s : Shared) : Prop where
 ok : X.Ok
 os : s.os = X.s₀.os
 bare : AllBare s.gens
 base : Un X.fs X.ex X.H₀ H X.s₀.heap s.heap
 loc : ∃ m, s.heap.Ns X.env.locals m /\ ∀ (i : Nat) (x : Str) (v : V), X.N[i]? = some x -> Z[i]? = some (some v) -> JA X.env.scope x -> ∃ u, bh v u /\ MM X.env s.heap m x u
 cell : ∀ x c, X.env.cells.lookup x = some c -> ∃ v, s.heap.IsCell c v
 free : H X.env.locals = none
 freeC : ∀ x c, X.env.cells.lookup x = some c -> H c = none
 pin : ∀ p ∈ X.pn ++ pins, s.heap.get? p.1 = some p.2 /\ H p.1 = none /\ p.1 ≠ X.env.locals /\ p.1 ∉ X.fs /\ ∀ v, p.2.data ≠ .cell v
 hok : lU X.prog X.w H s.heap
 len : Z.length = X.N.length
section
variable {X : Cx} {pins : Pn} {Z : List (Option V)} {H H' : Hp} {s : Shared} {h' : Heap}
theorem Cx.Ok.nofr (ok : X.Ok) {b : Addr} {o : Obj} (e : X.base.get? b = some o) : b ∉ X.fs := λ hb => by
 have := (ok.funs.mem hb).1
 rw [e] at this; cases this
theorem Inv.bs (I : Inv X pins Z H s) : ∀ b o, X.base.get? b = some o -> s.heap.get? b = some o /\ H b = none := λ b o e =>
 ⟨I.base.keep b o (I.ok.bs b o e).1 (I.ok.bs b o e).2 (I.ok.nofr e) (I.ok.noex b o e), I.base.free b o (I.ok.bs b o e).1 (I.ok.bs b o e).2 (I.ok.noex b o e)⟩
theorem Inv.bk (I : Inv X pins Z H s) : ∀ b o, X.base.get? b = some o -> s.heap.get? b = some o := λ b o e => (I.bs b o e).1
theorem Inv.mod (I : Inv X pins Z H s) : Mod X.K X.mg X.base := I.ok.mod
theorem Inv.kIn (I : Inv X pins Z H s) : X.K.In s.heap := I.ok.mod.kin.keeps I.bk
theorem Inv.lt (I : Inv X pins Z H s) : X.env.locals < s.heap.objs.size := let ⟨_, hn, _⟩ := I.loc; hn.lt
theorem Inv.sz (I : Inv X pins Z H s) : X.s₀.heap.objs.size <= s.heap.objs.size := n9 I.ok.above (Nat.le_of_lt I.lt)
theorem Inv.nofs (I : Inv X pins Z H s) {a : Addr} (h : s.heap.objs.size <= a) : a ∉ X.fs := λ hb => by
 obtain ⟨_, o, ho, _⟩ := I.ok.funs.mem hb
 exact absurd (mv (j5 ho) (n9 I.sz h)) (Nat.lt_irrefl _)
theorem Inv.cne (I : Inv X pins Z H s) : ∀ x c, X.env.cells.lookup x = some c -> c ≠ X.env.locals := λ x c e z => by
 obtain ⟨v, o, ho, hd⟩ := I.cell x c e
 obtain ⟨m, ⟨o', es, ep, ho', hd', _⟩, _⟩ := I.loc
 rw [z, ho'] at ho; cases ho; rw [hd'] at hd; cases hd
theorem Inv.funs (I : Inv X pins Z H s) : s.heap.FunFrames X.base X.outer := by
 have all : ∀ (l : List Env), (∀ b ∈ jV l, b ∈ X.fs) -> X.s₀.heap.FunFrames X.base l -> s.heap.FunFrames X.base l := by
  intro l
  induction l with
  | nil => intro _ _; trivial
  | cons env r ih =>
   intro hs hl
   obtain ⟨hk, ⟨L, o, hf, hn, ho, hd⟩, hr⟩ := hl
   have hL : L ∈ X.fs := hs L (by unfold jV; rw [vv, hf]; exact kv)
   obtain ⟨sl, e⟩ := I.base.slot L o ho (I.ok.frf L hL) hL λ z => I.ok.exfs L z hL
   exact ⟨hk, ⟨L, _, hf, hn, e, hd⟩, ih (λ b hb => hs b (by unfold jV; rw [vv, hf]; exact n8 _ hb)) hr⟩
 exact all X.outer (λ _ hb => hb) I.ok.funs
theorem Inv.stack (I : Inv X pins Z H s) : s.heap.FunFrames X.base X.stack := by
 rcases I.ok.stk with e | ⟨e, hf⟩
 ·rw [e]; exact I.funs
 ·rw [e]
  obtain ⟨m, hn, _⟩ := I.loc
  refine .cons (by rw [I.ok.kind]; decide) hf hn ?_ I.funs
  exact Heap.get?_none_of_le (n9 I.ok.bsz I.ok.above)
theorem Inv.stkSub (I : Inv X pins Z H s) : ∀ b ∈ jV X.stack, b ∈ X.env.locals :: X.fs := λ b hb => by
 rcases I.ok.stk with e | ⟨e, hf⟩
 ·rw [e] at hb; exact n8 _ hb
 ·rw [e] at hb
  unfold jV at hb
  rw [vv, hf] at hb
  exact hb
theorem Inv.stkFree (I : Inv X pins Z H s) : ∀ b ∈ jV X.stack, H b = none := λ b hb => by
 rcases j8.mp (I.stkSub b hb) with e | hb
 ·rw [e]; exact I.free
 ·obtain ⟨_, o, ho, _⟩ := I.ok.funs.mem hb
  exact I.base.free b o ho (I.ok.frf b hb) λ z => I.ok.exfs b z hb
theorem Inv.step {g' : Array GenState} {t' : Nat} {d' : Drawn} {ch : List Addr} (I : Inv X pins Z H s)
  (hch : ∀ b ∈ ch, (b ∈ X.ex ∨ X.s₀.heap.objs.size <= b) /\ b ≠ X.env.locals /\ (∀ x c, X.env.cells.lookup x = some c -> c ≠ b) /\ ∀ p ∈ X.pn ++ pins, p.1 ≠ b)
  (keep : ∀ b o, b ≠ X.env.locals -> b ∉ X.fs -> b ∉ ch -> s.heap.get? b = some o -> H b = none -> h'.get? b = some o)
  (slot : ∀ b o, b ≠ X.env.locals -> b ∈ X.fs -> b ∉ ch -> s.heap.get? b = some o -> H b = none -> ∃ sl, h'.get? b = some { o with slots := sl }) (free : ∀ b o, b ∉ ch -> s.heap.get? b = some o -> H b = none -> H' b = none)
  (there : ∀ b o, b ∉ ch -> s.heap.get? b = some o -> ∃ o', h'.get? b = some o')
  (tups : ∀ b xs, H b = some (.tup xs) -> H' b = some (.tup xs)) (frzs : ∀ b o u, H b = some (.frz o u) -> H' b = some (.frz o u)) (tbls : ∀ b ps, H b = some (.tbl ps) -> ∃ more, H' b = some (.tbl (ps ++ more)))
  (ns : ∀ m, s.heap.Ns X.env.locals m -> h'.Ns X.env.locals m) (hok : lU X.prog X.w H' h') (hg : AllBare g') :
  Inv X pins Z H' { s with heap := h', gens := g', drawn := d', toks := t' } := by
 have neL : ∀ b o, X.s₀.heap.get? b = some o -> b ≠ X.env.locals := λ b o e => uS (mv (j5 e) I.ok.above)
 have neC : ∀ b o, X.s₀.heap.get? b = some o -> b ∉ X.ex -> b ∉ ch := λ b o e hx hb => by
  rcases (hch b hb).1 with z | z
  ·exact hx z
  ·exact absurd (mv (j5 e) z) (Nat.lt_irrefl _)
 have cellK : ∀ x c, X.env.cells.lookup x = some c -> ∀ v, s.heap.IsCell c v -> h'.IsCell c v := λ x c e v ⟨o, ho, hd⟩ => by
  have nch : c ∉ ch := λ z => (hch c z).2.2.1 x c e rfl
  by_cases hc : c ∈ X.fs
  ·obtain ⟨sl, q⟩ := slot c o (I.cne x c e) hc nch ho (I.freeC x c e)
   exact ⟨_, q, hd⟩
  ·exact ⟨o, keep c o (I.cne x c e) hc nch ho (I.freeC x c e), hd⟩
 refine ⟨I.ok, I.os, hg, ⟨λ b o e n hb hx => ?_, λ b o e n hb hx => ?_, λ b o e n hx => ?_, λ b o e hx => ?_, λ b xs e => tups b xs (I.base.tups b xs e), λ b o xs e => frzs b o xs (I.base.frzs b o xs e), λ b ps e => ?_⟩, ?_, λ x c e => ?_, ?_, λ x c e => ?_, λ p hp => ?_, hok, I.len⟩
 ·exact keep b o (neL b o e) hb (neC b o e hx) (I.base.keep b o e n hb hx) (I.base.free b o e n hx)
 ·obtain ⟨sl, e1⟩ := I.base.slot b o e n hb hx
  obtain ⟨sl', e2⟩ := slot b _ (neL b o e) hb (neC b o e hx) e1 (I.base.free b o e n hx)
  exact ⟨sl', e2⟩
 ·obtain ⟨o', e1⟩ := I.base.there b o e hx
  exact free b o' (neC b o e hx) e1 (I.base.free b o e n hx)
 ·obtain ⟨o', e1⟩ := I.base.there b o e hx
  exact there b o' (neC b o e hx) e1
 ·obtain ⟨m1, e1⟩ := I.base.tbls b ps e
  obtain ⟨m2, e2⟩ := tbls b _ e1
  exact ⟨m1 ++ m2, by rw [e2, Array.append_assoc]⟩
 ·obtain ⟨m, hn, hl⟩ := I.loc
  refine ⟨m, ns m hn, λ i x v e1 e2 e3 => ?_⟩
  obtain ⟨u, r, l⟩ := hl i x v e1 e2 e3
  refine ⟨u, r, ?_⟩
  rcases l with l | ⟨k, c, e, z⟩
  ·exact .inl l
  ·exact .inr ⟨k, c, e, cellK x c e _ z⟩
 ·obtain ⟨v, z⟩ := I.cell x c e
  exact ⟨v, cellK x c e v z⟩
 ·obtain ⟨m, ⟨o, _, _, ho, _⟩, _⟩ := I.loc
  exact free _ o (λ z => (hch _ z).2.1 rfl) ho I.free
 ·obtain ⟨v, o, ho, hd⟩ := I.cell x c e
  exact free c o (λ z => (hch c z).2.2.1 x c e rfl) ho (I.freeC x c e)
 ·obtain ⟨e, n, ne, nf, d⟩ := I.pin p hp
  have nch : p.1 ∉ ch := λ z => (hch p.1 z).2.2.2 p hp rfl
  exact ⟨keep p.1 p.2 ne nf nch e n, free p.1 p.2 nch e n, ne, nf, d⟩
theorem Inv.un {t' : Nat} (I : Inv X pins Z H s) (u : Un X.fs [] H H' s.heap h') (hok : lU X.prog X.w H' h') : Inv X pins Z H' { s with heap := h', toks := t' } := by
 obtain ⟨m, ⟨o, es, ep, ho, r⟩, _⟩ := id I.loc
 obtain ⟨sl, hL⟩ := u.any ho I.free (by simp)
 exact I.step (g' := s.gens) (d' := s.drawn) (ch := []) (λ _ z => nomatch z) (λ b o _ hb _ e n => u.keep b o e n hb (by simp)) (λ b o _ hb _ e n => u.slot b o e n hb (by simp)) (λ b o _ e n => u.free b o e n (by simp)) (λ b o _ e => u.there b o e (by simp)) u.tups u.frzs u.tbls (λ m' hm => by
  obtain ⟨o', es', ep', ho', r'⟩ := hm
  rw [ho] at ho'; cases ho'
  exact ⟨_, es', ep', hL, r'⟩) hok I.bare
theorem Inv.call {g' : Array GenState} {t' : Nat} {d' : Drawn} {ch : List Addr} (I : Inv X pins Z H s) (u : Un (jV X.stack) ch H H' s.heap h') (hok : lU X.prog X.w H' h') (hg : AllBare g')
  (hch : ∀ b ∈ ch, (b ∈ X.ex ∨ X.s₀.heap.objs.size <= b) /\ b ≠ X.env.locals /\ (∀ x c, X.env.cells.lookup x = some c -> c ≠ b) /\ ∀ p ∈ X.pn ++ pins, p.1 ≠ b) :
  Inv X pins Z H' { s with heap := h', gens := g', drawn := d', toks := t' } := by
 obtain ⟨m, ⟨o, es, ep, ho, r⟩, _⟩ := id I.loc
 obtain ⟨sl, hL⟩ := u.any ho I.free λ z => (hch _ z).2.1 rfl
 exact I.step (ch := ch) hch (λ b o hL hb hc e n => u.keep b o e n (λ z => (j8.mp (I.stkSub b z)).elim hL hb) hc) (λ b o _ _ hc e n => u.any e n hc) (λ b o hc e n => u.free b o e n hc) (λ b o hc e => u.there b o e hc) u.tups u.frzs u.tbls (λ m' hm => by
  obtain ⟨o', es', ep', ho', r'⟩ := hm
  rw [ho] at ho'; cases ho'
  exact ⟨_, es', ep', hL, r'⟩) hok hg
theorem Inv.turned {t' : Nat} {it : Addr} (I : Inv X pins Z H s) (k : ∀ b o, b ≠ it -> s.heap.get? b = some o -> h'.get? b = some o) (hn : H it = none) (hL : it ≠ X.env.locals)
  (h1 : it ∈ X.ex ∨ X.s₀.heap.objs.size <= it) (h2 : ∀ x c, X.env.cells.lookup x = some c -> c ≠ it) (h3 : ∀ p ∈ X.pn ++ pins, p.1 ≠ it) : Inv X pins Z H { s with heap := h', toks := t' } := by
 have nit : ∀ b u, H b = some u -> b ≠ it := λ b u e z => by rw [z, hn] at e; cases e
 refine I.step (g' := s.gens) (d' := s.drawn) (ch := [it]) (λ b hb => ?_) (λ b o _ _ hc e _ => k b o (λ z => hc (by simp [z])) e) (λ b o _ _ hc e _ => ⟨o.slots, k b o (λ z => hc (by simp [z])) e⟩) (λ _ _ _ _ n => n)
  (λ b o hc e => ⟨o, k b o (λ z => hc (by simp [z])) e⟩) (λ _ _ e => e) (λ _ _ _ e => e) (λ b ps e => ⟨#[], by rw [e]; simp⟩) (λ m hm => ?_) (λ b u e => ?_) I.bare
 ·have e : b = it := by simpa using hb
  subst e
  exact ⟨h1, hL, h2, h3⟩
 ·obtain ⟨o, es, ep, ho, r⟩ := hm
  exact ⟨o, es, ep, k _ o (Ne.symm hL) ho, r⟩
 ·refine (I.hok b u e).stay (λ c v hc q => k c v ?_ q) (λ _ q => q) λ _ _ q => q
  rcases hc with z | z
  ·rw [z]; exact nit b u e
  ·exact nit c _ z
theorem Inv.tok (I : Inv X pins Z H s) (t : Nat) : Inv X pins Z H { s with toks := t } := I.un (h' := s.heap) (t' := t) Un.refl I.hok
theorem Inv.kept {t' : Nat} (I : Inv X pins Z H s) (k : ∀ b u, s.heap.get? b = some u -> h'.get? b = some u) : Inv X pins Z H { s with heap := h', toks := t' } := I.un (Un.kept k) (I.hok.kept k)
theorem Inv.laid {a : Addr} {o : HO} {t' : Nat} (I : Inv X pins Z H s) (k : ∀ b u, s.heap.get? b = some u -> h'.get? b = some u) (hp : s.heap.objs.size <= a) (new : cA X.prog X.w (upd H a o) h' a o) :
  Inv X pins Z (upd H a o) { s with heap := h', toks := t' } := I.un (Un.laid k hp (I.hok.fresh hp)) (I.hok.laid k hp new)
theorem Inv.write {x e : Addr} {o : HO} {t' : Nat} (I : Inv X pins Z H s) (mu : LK (H x)) (he : e = x ∨ H e = some (.own x)) (k : ∀ b u, b ≠ e -> s.heap.get? b = some u -> h'.get? b = some u) (heo : ∃ u, h'.get? e = some u)
  (new : cA X.prog X.w (upd H x o) h' x o) : Inv X pins Z (upd H x o) { s with heap := h', toks := t' } := I.un (Un.write mu he k heo) (I.hok.write mu he k heo new)
theorem Inv.pins_of {pins' : Pn} (I : Inv X pins Z H s) (h : ∀ p ∈ pins', s.heap.get? p.1 = some p.2 /\ H p.1 = none /\ p.1 ≠ X.env.locals /\ p.1 ∉ X.fs /\ ∀ v, p.2.data ≠ .cell v) : Inv X pins' Z H s :=
 ⟨I.ok, I.os, I.bare, I.base, I.loc, I.cell, I.free, I.freeC, λ p hp => (uD.mp hp).elim (λ z => I.pin p (List.mem_append_left _ z)) (h p), I.hok, I.len⟩
theorem rT {N : List Str} (hN : N.Nodup) {i j : Nat} {x : Str} (a : N[i]? = some x) (b : N[j]? = some x) : i = j := by
 obtain ⟨h1, e1⟩ := j3.mp a
 obtain ⟨h2, e2⟩ := j3.mp b
 exact (List.getElem_inj hN).mp (e1.trans e2.symm)
theorem yO {M : Model} {A : Around} {E : Value -> Shared -> Prop} {i : Nat} {x : Str} {v : V} {u : Value} {Q : Unit -> Shared -> Prop} (I : Inv X pins Z H s) (hN : X.N.Nodup) (hi : X.N[i]? = some x) (hx : Fi X.env.scope x) (r : bh v u)
  (h : ∀ s', Inv X pins (Z.set i (some v)) H s' -> (∃ a, Heap.SameBut a s.heap s'.heap /\ (a = X.env.locals ∨ X.env.cells.lookup x = some a)) -> Q () s') (hf : X.fn x = true ∨ X.env.scope.names.lookup x = some .local := by first | exact .inl rfl | exact .inr rfl | assumption) : wpAny M A (storeName X.env x u) Q E s := by
 obtain ⟨m, hn, hl⟩ := id I.loc
 have hcls : (X.env.scope.kind == .class || (X.env.scope.kind == .module && X.env.locals != X.env.globals)) = false := by rw [I.ok.kind]; rfl
 have hiσ : i < Z.length := by rw [I.len]; exact (j3.mp hi).1
 have cne := I.cne
 have tracked : ∀ {a : Addr} {h' : Heap}, (∃ o, s.heap.get? a = some o /\ H a = none) -> Heap.SameBut a s.heap h' -> lU X.prog X.w H h' := λ {a h'} ha hs b ob e => by
  obtain ⟨_, _, hfree⟩ := ha
  refine (I.hok b ob e).stay (λ c w' hc q => (hs.2 c ?_).trans q) (λ _ q => q) λ _ _ q => q
  rintro rfl
  rcases hc with rfl | hc
  ·rw [hfree] at e; cases e
  ·rw [hfree] at hc; cases hc
 rcases hx with hk | hk
 ·refine wpAny_storeName_local hk hn (λ h' hn' hs => ?_) hcls
  obtain ⟨oL, _, _, hoL, _⟩ := id hn
  refine h _ ⟨I.ok, I.os, I.bare, ⟨λ b o e n hb hx => ?_, λ b o e n hb hx => ?_, I.base.free, λ b o e hx => ?_, I.base.tups, I.base.frzs, I.base.tbls⟩, ⟨_, hn', λ j y v' e1 e2 e3 => ?_⟩, λ y c e => ?_, I.free, I.freeC, λ p hp => ?_, tracked ⟨oL, hoL, I.free⟩ hs, by simpa using I.len⟩ ⟨_, hs, .inl rfl⟩
  ·exact (hs.2 b (uS (mv (j5 e) I.ok.above))).trans (I.base.keep b o e n hb hx)
  ·obtain ⟨sl, e1⟩ := I.base.slot b o e n hb hx
   exact ⟨sl, (hs.2 b (uS (mv (j5 e) I.ok.above))).trans e1⟩
  ·obtain ⟨o', e1⟩ := I.base.there b o e hx
   exact ⟨o', (hs.2 b (uS (mv (j5 e) I.ok.above))).trans e1⟩
  ·by_cases hj : j = i
   ·subst hj
    rw [hi] at e1; cases e1
    rw [List.getElem?_set_self hiσ] at e2
    cases e2
    exact ⟨u, r, .inl ⟨hk, by simp⟩⟩
   ·rw [List.getElem?_set_ne (Ne.symm hj)] at e2
    obtain ⟨u', r', q⟩ := hl j y v' e1 e2 e3
    refine ⟨u', r', ?_⟩
    rcases q with ⟨k, e⟩ | ⟨k, c, e, z⟩
    ·refine .inl ⟨k, ?_⟩
     have : y ≠ x := λ e => hj (rT hN e1 (e ▸ hi))
     simp [this, e]
    ·exact .inr ⟨k, c, e, z.sameBut hs (cne y c e)⟩
  ·obtain ⟨w', z⟩ := I.cell y c e
   exact ⟨w', z.sameBut hs (cne y c e)⟩
  ·obtain ⟨e, n, ne, nf, d⟩ := I.pin p hp
   exact ⟨(hs.2 p.1 ne).trans e, n, ne, nf, d⟩
 ·have hfn : X.fn x = true := by
   rcases hf with z | z
   ·exact z
   ·rw [z] at hk; cases hk
  obtain ⟨c, hc⟩ := I.ok.has x (.inl hk)
  obtain ⟨w', z⟩ := I.cell x c hc
  refine wpAny_storeName_cell I.ok.kind hk hc z (λ h' hc' hs => ?_)
  obtain ⟨oc, hoc, hocd⟩ := id z
  refine h { s with heap := h' } ⟨I.ok, I.os, I.bare, ⟨λ b o e n hb hx => ?_, λ b o e n hb hx => ?_, I.base.free, λ b o e hx => ?_, I.base.tups, I.base.frzs, I.base.tbls⟩, ⟨m, hn.sameBut hs (Ne.symm (cne x c hc)), λ j y v' e1 e2 e3 => ?_⟩, λ y c' e => ?_, I.free, I.freeC, λ p hp => ?_, tracked ⟨oc, hoc, I.freeC x c hc⟩ hs, by simpa using I.len⟩ ⟨c, hs, .inr hc⟩
  ·exact (hs.2 b (uS (mv (j5 e) (I.ok.cab x c hfn hc)))).trans (I.base.keep b o e n hb hx)
  ·obtain ⟨sl, e1⟩ := I.base.slot b o e n hb hx
   exact ⟨sl, (hs.2 b (uS (mv (j5 e) (I.ok.cab x c hfn hc)))).trans e1⟩
  ·obtain ⟨o', e1⟩ := I.base.there b o e hx
   exact ⟨o', (hs.2 b (uS (mv (j5 e) (I.ok.cab x c hfn hc)))).trans e1⟩
  ·by_cases hj : j = i
   ·subst hj
    rw [hi] at e1; cases e1
    rw [List.getElem?_set_self hiσ] at e2
    cases e2
    exact ⟨u, r, .inr ⟨.inl hk, c, hc, hc'⟩⟩
   ·rw [List.getElem?_set_ne (Ne.symm hj)] at e2
    obtain ⟨u', r', q⟩ := hl j y v' e1 e2 e3
    refine ⟨u', r', ?_⟩
    rcases q with q | ⟨k, c', e, z'⟩
    ·exact .inl q
    ·refine .inr ⟨k, c', e, z'.sameBut hs ?_⟩
     rintro rfl
     exact hj (rT hN e1 (I.ok.inj _ _ _ e hc ▸ hi))
  ·by_cases hcc : c' = c
   ·subst hcc; exact ⟨_, hc'⟩
   ·obtain ⟨w2, z2⟩ := I.cell y c' e
    exact ⟨w2, z2.sameBut hs hcc⟩
  ·obtain ⟨e, n, ne, nf, d⟩ := I.pin p hp
   refine ⟨(hs.2 p.1 ?_).trans e, n, ne, nf, d⟩
   intro q
   rw [q, hoc] at e
   have q' : oc = p.2 := nS e
   exact d w' (by rw [<- q']; exact hocd)
theorem gJ {M : Model} {A : Around} {E : Value -> Shared -> Prop} {i : Nat} {x : Str} {v : V} {u : Value} {Q : Unit -> Shared -> Prop} (I : Inv X pins Z H s) (hN : X.N.Nodup) (hi : X.N[i]? = some x) (hx : Fi X.env.scope x) (r : bh v u)
  (h : ∀ s', Inv X pins (Z.set i (some v)) H s' -> Q () s') (hf : X.fn x = true ∨ X.env.scope.names.lookup x = some .local := by first | exact .inl rfl | exact .inr rfl | assumption) : wpAny M A (storeName X.env x u) Q E s :=
 yO I hN hi hx r (λ s' I' _ => h s' I') hf
end
noncomputable abbrev XK := Value -> Option Addr -> Hp -> Prop
noncomputable abbrev St := List (Option V)
noncomputable abbrev VK := V -> Hp -> Prop
noncomputable abbrev TE := St -> Hp -> VK -> Prop
noncomputable abbrev TT := St -> Hp -> (Bool -> Hp -> Prop) -> Prop
noncomputable abbrev TA := St -> Hp -> (List V -> Hp -> Prop) -> Prop
structure eQ where
 nx : St -> Hp -> Prop
 rt : VK
 bk : St -> Hp -> Prop := λ _ _ => False
 ct : St -> Hp -> Prop := λ _ _ => False
noncomputable abbrev TS := eQ -> St -> Hp -> Prop
def EP (X : Cx) (pins : Pn) (Z : St) (Q : VK) (u : Value) (s' : Shared) : Prop := ∃ v H', Inv X pins Z H' s' /\ bh v u /\ Q v H'
def TP (X : Cx) (pins : Pn) (Z : St) (Q : Bool -> Hp -> Prop) (b : Bool) (s' : Shared) : Prop := ∃ H', Inv X pins Z H' s' /\ Q b H'
def AP (X : Cx) (pins : Pn) (Z : St) (Q : List V -> Hp -> Prop) (us : List Value) (s' : Shared) : Prop := ∃ vs H', Inv X pins Z H' s' /\ aM vs us /\ Q vs H'
def SP (X : Cx) (pins : Pn) (D : eQ) (f : Flow) (s' : Shared) : Prop :=
 match f with
 | .next => ∃ σ' H', Inv X pins σ' H' s' /\ D.nx σ' H'
 | .brk => ∃ σ' H', Inv X pins σ' H' s' /\ D.bk σ' H'
 | .cont => ∃ σ' H', Inv X pins σ' H' s' /\ D.ct σ' H'
 | .ret u => ∃ v σ' H', Inv X pins σ' H' s' /\ bh v u /\ D.rt v H'
def PE (X : Cx) (e : Expr) (t : TE) : Prop :=
 ∀ (pins : Pn) (s : Shared) (Z : St) (H : Hp) (Q : VK), Inv X pins Z H s -> t Z H Q -> wpAny (model X.prog X.w) X.A (eval e X.env) (EP X pins Z Q) X.xe s
def PT (X : Cx) (e : Expr) (t : TT) : Prop :=
 ∀ (pins : Pn) (s : Shared) (Z : St) (H : Hp) (Q : Bool -> Hp -> Prop), Inv X pins Z H s -> t Z H Q -> wpAny (model X.prog X.w) X.A (isTrue e X.env (eval e X.env)) (TP X pins Z Q) X.xe s
def PW (X : Cx) (e : Expr) (t : TT) : Prop :=
 ∀ (whole : Sem Value) (pins : Pn) (s : Shared) (Z : St) (H : Hp) (Q : Bool -> Hp -> Prop), Inv X pins Z H s -> t Z H Q -> wpAny (model X.prog X.w) X.A (isTrue e X.env whole) (TP X pins Z Q) X.xe s
theorem PW.pt {X : Cx} {e : Expr} {t : TT} (h : PW X e t) : PT X e t := h _
def PA (X : Cx) (es : List Expr) (t : TA) : Prop :=
 ∀ (pos : Pos) (pins : Pn) (s : Shared) (Z : St) (H : Hp) (Q : List V -> Hp -> Prop), Inv X pins Z H s -> t Z H Q -> wpAny (model X.prog X.w) X.A (spliced (backTo pos (starEach es X.env))) (AP X pins Z Q) X.xe s
def PS (X : Cx) (st : Stmt) (t : TS) : Prop :=
 ∀ (pins : Pn) (s : Shared) (Z : St) (H : Hp) (D : eQ), Inv X pins Z H s -> t D Z H -> wpAny (model X.prog X.w) X.A (exec st X.env) (SP X pins D) X.xe s
def xx (X : Cx) (st : List Stmt) (t : TS) : Prop :=
 ∀ (pins : Pn) (s : Shared) (Z : St) (H : Hp) (D : eQ), Inv X pins Z H s -> t D Z H -> wpAny (model X.prog X.w) X.A (execs st X.env) (SP X pins D) X.xe s
theorem cj {α : Type} {t : Sem α} {Q Q' : α -> Shared -> Prop} {M : Model} {A : Around} {E : Value -> Shared -> Prop} {s : Shared} (h : wpAny M A t Q E s) (hQ : ∀ a s, Q a s -> Q' a s) : wpAny M A t Q' E s := ur h hQ λ _ _ x => x
section
variable {X : Cx}
def gN (i : Nat) : TE := λ Z H Q => ∃ v, Z[i]? = some (some v) /\ Q v H
def tC (v : V) : TE := λ _ H Q => Q v H
variable {x : Str}
theorem GU {i : Nat} {pos : Pos} (hN : X.N[i]? = some x) (hv : JA X.env.scope x) (hd : (x == ("__debug__" : Str)) = false := by decide) (hcd : (x == ("__classdict__" : Str)) = false := by decide) : PE X (.Name x pos) (gN i) := by
 intro pins s Z H Q I h
 obtain ⟨v, e, h⟩ := h
 obtain ⟨m, hn, hl⟩ := I.loc
 obtain ⟨u, r, l⟩ := hl i x v hN e hv
 have fin : EP X pins Z Q u s := ⟨v, H, I, r, h⟩
 rcases l with ⟨hk, hm⟩ | ⟨hk, c, hc, hcell⟩
 ·exact wpAny_Name (wpAny_loadName_local I.ok.kind hk hn hm fin) hd
 ·rcases hk with hk | hk
  ·exact wpAny_Name (wpAny_loadName_cell I.ok.kind hk hc hcell fin) hd
  ·exact wpAny_Name (wpAny_loadName_free I.ok.kind hk hc hcell fin hcd) hd
theorem aD {i j pos} : PE X (.Constant (.int i) j pos) (tC (.int i)) := λ _ _ _ H _ I h => wpAny_Constant_int ⟨.int i, H, I.tok _, ⟨_, rfl⟩, h⟩
theorem Bm {b j pos} : PE X (.Constant (.bool b) j pos) (tC (.bl b)) := λ _ _ _ H _ I h => Constant_bool ⟨.bl b, H, I, rfl, h⟩
theorem kP {j pos} : PE X (.Constant .none j pos) (tC .non) := λ _ _ _ H _ I h => Constant_none ⟨.non, H, I, rfl, h⟩
theorem aI {x j pos} : PE X (.Constant (.str x) j pos) (tC (.str x)) := λ _ _ _ H _ I h => Calls.Constant_str ⟨.str x, H, I.tok _, ⟨_, rfl⟩, h⟩
def Gl (X : Cx) (x : Str) : Prop := X.env.kindOf x = some .globalImplicit
variable {u : Value}
theorem xB {E : Value -> Shared -> Prop} {pins : Pn} {s : Shared} {Z : St} {H : Hp} {pos : Pos} {Q : Value -> Shared -> Prop} (I : Inv X pins Z H s) (hg : Gl X x) (hm : X.mg x = some u) (h : Q u s)
  (hd : (x == ("__debug__" : Str)) = false := by decide) : wpAny (model X.prog X.w) X.A (eval (.Name x pos) X.env) Q E s :=
 Calls.Name_function_global I.ok.kind hg (Calls.loadGlobal_global (by rw [I.ok.glob]; exact I.mod.glob.keeps I.bk) hm h) hd
theorem oy {E : Value -> Shared -> Prop} {pins : Pn} {s : Shared} {Z : St} {H : Hp} {pos : Pos} {Q : Value -> Shared -> Prop} (I : Inv X pins Z H s) (hg : Gl X x) (hm : X.mg x = none) (hv : bootBuiltins x = some u) (h : Q u s)
  (hn : x ≠ "__name__" := by decide) (hd : (x == ("__debug__" : Str)) = false := by decide) : wpAny (model X.prog X.w) X.A (eval (.Name x pos) X.env) Q E s := by
 obtain ⟨mb, h1, h2⟩ := I.mod.blt
 exact Calls.Name_function_global I.ok.kind hg (Calls.loadGlobal_builtin (by rw [I.ok.glob]; exact I.mod.glob.keeps I.bk) hm (by rw [I.ok.blt]; exact h1.keeps I.bk) ((h2 x hn).trans hv) h) hd
theorem qD {v : V} {pos : Pos} (hg : Gl X x) (hm : X.mg x = none) (hv : bootBuiltins x = some u) (r : bh v u) (hn : x ≠ "__name__" := by decide) (hd : (x == ("__debug__" : Str)) = false := by decide) : PE X (.Name x pos) (tC v) :=
 λ _ _ _ H _ I h => oy I hg hm hv ⟨v, H, I, r, h⟩ hn hd
variable {a b : Expr} {ta tb : TE} {pos : Pos}
def tB (t : TE) : TT := λ Z H Q => t Z H λ x H1 => ∃ c, x = .bl c /\ Q c H1
theorem cU {e : Expr} {t : TE} (h : PE X e t) (he : ∀ whole, isTrue e X.env whole = (do let v <- whole; standAt e.pos; holding [v] (truthy v)) := by intro _; rfl) : PT X e (tB t) := by
 intro pins s Z H Q I hw
 refine isTrue_plain (cj (h pins s Z H _ I hw) λ v s1 ⟨x, H1, I1, r1, q1⟩ => ?_) (he _)
 obtain ⟨d, rfl, q⟩ := q1
 cases r1
 exact wpAny_truthy_bool ⟨H1, I1, q⟩
variable {tA tB' : TT} {dm : List Expr}
def FQ (t u : TT) : TT := λ Z H Q => t Z H λ c H1 => if c = true then u Z H1 Q else Q false H1
def Mh (t u : TT) : TT := λ Z H Q => t Z H λ c H1 => if c = true then Q true H1 else u Z H1 Q
def Ix (t : TT) : TT := λ Z H Q => t Z H λ c H1 => Q (!c) H1
theorem gY (ha : PT X a tA) : PW X (.BoolOp .And [a] pos) tA := by
 intro wh pins s Z H Q I h
 refine isTrue_and (cj (ha pins s Z H Q I h) λ c s1 e => ?_)
 cases c with
 | true => exact isTrue_and_nil e
 | false => exact e
theorem nE (ha : PT X a tA) : PW X (.BoolOp .Or [a] pos) tA := by
 intro wh pins s Z H Q I h
 refine isTrue_or (cj (ha pins s Z H Q I h) λ c s1 e => ?_)
 cases c with
 | false => exact isTrue_or_nil e
 | true => exact e
theorem kC (ha : PT X a tA) (hb : PW X (.BoolOp .And (b :: dm) pos) tB') : PW X (.BoolOp .And (a :: b :: dm) pos) (FQ tA tB') := by
 intro wh pins s Z H Q I h
 refine isTrue_and (cj (ha pins s Z H _ I h) λ c s1 ⟨H1, I1, q1⟩ => ?_)
 cases c with
 | true => exact hb wh pins s1 Z H1 Q I1 q1
 | false => exact ⟨H1, I1, q1⟩
theorem pO (ha : PT X a tA) (hb : PW X (.BoolOp .Or (b :: dm) pos) tB') : PW X (.BoolOp .Or (a :: b :: dm) pos) (Mh tA tB') := by
 intro wh pins s Z H Q I h
 refine isTrue_or (cj (ha pins s Z H _ I h) λ c s1 ⟨H1, I1, q1⟩ => ?_)
 cases c with
 | true => exact ⟨H1, I1, q1⟩
 | false => exact hb wh pins s1 Z H1 Q I1 q1
theorem kf (ha : PT X a tA) : PT X (.UnaryOp .Not a pos) (Ix tA) := by
 intro pins s Z H Q I h
 exact isTrue_not (ha pins s Z H (λ c H1 => Q (!c) H1) I h)
def zS (ta tb : TE) : TE := λ Z H Q => ta Z H λ x H1 => ∃ c, x = .bl c /\ if c = true then tb Z H1 Q else Q (.bl false) H1
def AR (ta : TE) : TE := λ Z H Q => ta Z H λ x H1 => ∃ c, x = .bl c /\ Q (.bl (!c)) H1
theorem kq {op} {t : TE} (h : PE X a t) : PE X (.BoolOp op [a] pos) t := λ pins s Z H Q I hw => BoolOp_one (h pins s Z H Q I hw)
theorem jZ (ha : PE X a ta) (hb : PE X (.BoolOp .And (b :: dm) pos) tb) : PE X (.BoolOp .And (a :: b :: dm) pos) (zS ta tb) := by
 intro pins s Z H Q I h
 refine BoolOp_and (cj (ha pins s Z H _ I h) λ v s1 ⟨x, H1, I1, r1, q1⟩ => ?_)
 obtain ⟨c, rfl, q1⟩ := q1
 cases r1
 refine wpAny_truthy_bool ?_
 cases c with
 | true => exact hb pins s1 Z H1 Q I1 q1
 | false => exact ⟨.bl false, H1, I1, rfl, q1⟩
theorem rg (ha : PE X a ta) : PE X (.UnaryOp .Not a pos) (AR ta) := by
 intro pins s Z H Q I h
 refine UnaryOp_ (cj (ha pins s Z H _ I h) λ v s1 ⟨x, H1, I1, r1, q1⟩ => ?_)
 obtain ⟨c, rfl, q1⟩ := q1
 cases r1
 exact not_of (wpAny_truthy_bool ⟨.bl (!c), H1, I1, rfl, q1⟩)
def MI (t : TT) (ta tb : TE) : TE := λ Z H Q => t Z H λ c H1 => if c = true then ta Z H1 Q else tb Z H1 Q
theorem nD {c : Expr} (hc : PT X c tA) (ha : PE X a ta) (hb : PE X b tb) : PE X (.IfExp c a b pos) (MI tA ta tb) := by
 intro pins s Z H Q I h
 refine wpAny_IfExp (cj (hc pins s Z H _ I h) λ d s1 ⟨H1, I1, q1⟩ => ?_)
 cases d with
 | true => exact ha pins s1 Z H1 Q I1 q1
 | false => exact hb pins s1 Z H1 Q I1 q1
end
def aZ (K : Fg) (H : Hp) (a : Addr) (xs : List V) : Prop :=
 Rd H a (.lst xs) ∨
  ∃ (o : Obj) (its : Array Value) (n : Nat), K.lookup a = some o /\ o.cls = .type "list" /\ o.dict = none /\ o.data = .seq its n /\ its.size <= sizeLine /\ aM xs its.toList
def bq (K : Fg) (H : Hp) (a : Addr) (xs : List V) : Prop :=
 Rd H a (.tup xs) ∨
  ∃ (o : Obj) (its : Array Value) (n : Nat), K.lookup a = some o /\ o.cls = .type "tuple" /\ o.data = .seq its n /\ its.size <= sizeLine /\ aM xs its.toList
noncomputable def Ny : Value -> Option V
 | .none => some .non
 | .bool b => some (.bl b)
 | .int i _ => some (.int i)
 | .str x _ => some (.str x)
 | .bytes b _ => some (.byt b)
 | .float b _ => some (.flt b)
 | .ref a => some (.ref a)
 | .type n => some (.ty n)
 | _ => none
variable {u : Value}
theorem bh.abs {x : V} (r : bh x u) : Ny u = some x := by
 cases x with
 | non => cases r; rfl
 | bl _ => cases r; rfl
 | int _ => obtain ⟨t, rfl⟩ := r; rfl
 | str _ => obtain ⟨t, rfl⟩ := r; rfl
 | byt _ => obtain ⟨t, rfl⟩ := r; rfl
 | flt _ => obtain ⟨t, rfl⟩ := r; rfl
 | ref _ => cases r; rfl
 | ty _ => cases r; rfl
theorem bh.inj {x y : V} (r : bh x u) (q : bh y u) : x = y := nS (r.abs.symm.trans q.abs)
theorem aM.inj : ∀ {xs ys : List V} {us : List Value}, aM xs us -> aM ys us -> xs = ys
 | _, _, _, .nil, .nil => rfl
 | _, _, _, .cons r t, .cons r' t' => by rw [r.inj r', aM.inj t t']
section
variable {X : Cx} {pins : Pn} {Z : St} {H : Hp} {s : Shared} {a : Addr} {xs ys : List V}
theorem aZ.of {K : Fg} (h : H a = some (.lst xs)) : aZ K H a xs := .inl (.inl h)
theorem bq.of {K : Fg} (h : H a = some (.tup xs)) : bq K H a xs := .inl (.inl h)
theorem Inv.list (I : Inv X pins Z H s) (h : aZ X.K H a xs) : ∃ its : List Value, aM xs its /\ PlainL s.heap a its.toArray /\ xs.length <= sizeLine := by
 rcases h with h | ⟨o, its, n, hk, hc, hd, hs, hz, r⟩
 ·obtain ⟨z, its, n, r, e⟩ := h.ok I.hok
  exact ⟨its, r, ⟨_, n, e, rfl, rfl, rfl⟩, z⟩
 ·refine ⟨its.toList, r, ⟨o, n, I.kIn a o hk, hc, hd, by simpa using hs⟩, ?_⟩
  have e := r.length
  simp only [Array.length_toList] at e
  lia
theorem Inv.tuple (I : Inv X pins Z H s) (h : bq X.K H a xs) : ∃ its : List Value, aM xs its /\ IsTup s.heap a its.toArray /\ xs.length <= sizeLine := by
 rcases h with h | ⟨o, its, n, hk, hc, hs, hz, r⟩
 ·obtain ⟨z, its, r, p⟩ := h.ok I.hok
  exact ⟨its, r, p, z⟩
 ·refine ⟨its.toList, r, ⟨o, I.kIn a o hk, hc, n, by simpa using hs⟩, ?_⟩
  have e := r.length
  simp only [Array.length_toList] at e
  lia
theorem Inv.list_inj (I : Inv X pins Z H s) (h : aZ X.K H a xs) (h' : aZ X.K H a ys) : xs = ys := by
 obtain ⟨its, r, ⟨o, n, e, _, _, d⟩, _⟩ := I.list h
 obtain ⟨its', r', ⟨o', n', e', _, _, d'⟩, _⟩ := I.list h'
 rw [e] at e'; cases e'
 rw [d] at d'
 injection d' with d1 _
 have : its = its' := by simpa using congrArg Array.toList d1
 subst this
 exact r.inj r'
theorem Inv.tuple_inj (I : Inv X pins Z H s) (h : bq X.K H a xs) (h' : bq X.K H a ys) : xs = ys := by
 obtain ⟨its, r, ⟨o, e, _, n, d⟩, _⟩ := I.tuple h
 obtain ⟨its', r', ⟨o', e', _, n', d'⟩, _⟩ := I.tuple h'
 rw [e] at e'; cases e'
 rw [d] at d'
 injection d' with d1 _
 have : its = its' := by simpa using congrArg Array.toList d1
 subst this
 exact r.inj r'
end
noncomputable abbrev Cx.wish (X : Cx) (E : Value -> Shared -> Prop) : Cx := { X with xe := E }
noncomputable abbrev Cx.nox (X : Cx) : Cx := X.wish λ _ _ => False
variable {X : Cx}
theorem Cx.Ok.wish (ok : X.Ok) (E : Value -> Shared -> Prop) : (X.wish E).Ok :=
 ⟨ok.mod, ok.kind, ok.glob, ok.blt, ok.above, ok.inj, ok.has, ok.cab, ok.hd, ok.frames, ok.stk, ok.exf, ok.bs, ok.bsz, ok.noex, ok.exfs, ok.funs, ok.frf⟩
theorem Cx.Ok.unwish {E : Value -> Shared -> Prop} (ok : (X.wish E).Ok) : X.Ok :=
 ⟨ok.mod, ok.kind, ok.glob, ok.blt, ok.above, ok.inj, ok.has, ok.cab, ok.hd, ok.frames, ok.stk, ok.exf, ok.bs, ok.bsz, ok.noex, ok.exfs, ok.funs, ok.frf⟩
section
variable {X : Cx} {pins : Pn} {Z : St} {H : Hp} {s : Shared} {E : Value -> Shared -> Prop}
theorem Inv.wish (I : Inv X pins Z H s) (E : Value -> Shared -> Prop) : Inv (X.wish E) pins Z H s := ⟨I.ok.wish E, I.os, I.bare, I.base, I.loc, I.cell, I.free, I.freeC, I.pin, I.hok, I.len⟩
theorem Inv.unwish (I : Inv (X.wish E) pins Z H s) : Inv X pins Z H s := ⟨I.ok.unwish, I.os, I.bare, I.base, I.loc, I.cell, I.free, I.freeC, I.pin, I.hok, I.len⟩
theorem SP.unwish {D : eQ} {f : Flow} {s' : Shared} (h : SP (X.wish E) pins D f s') : SP X pins D f s' := by
 cases f with
 | next => obtain ⟨σ', H', I, q⟩ := h; exact ⟨σ', H', I.unwish, q⟩
 | brk => obtain ⟨σ', H', I, q⟩ := h; exact ⟨σ', H', I.unwish, q⟩
 | cont => obtain ⟨σ', H', I, q⟩ := h; exact ⟨σ', H', I.unwish, q⟩
 | ret u => obtain ⟨v, σ', H', I, r, q⟩ := h; exact ⟨v, σ', H', I.unwish, r, q⟩
theorem xx.nox {st : List Stmt} {t : TS} (h : xx X.nox st t) : xx X st t := λ pins s Z H D I hw =>
 ur (h pins s Z H D (I.wish _) hw) (λ _ _ q => q.unwish) λ _ _ z => False.elim z
end
section
variable {X : Cx} {st : Stmt} {dm : List Stmt} {t u : TS} {e : Expr} {te : TE} {pos : Pos}
def tNext : TS := λ D Z H => D.nx Z H
def ke (t u : TS) : TS := λ D Z H => t { D with nx := u D } Z H
theorem au : xx X [] tNext := λ _ _ Z H _ I h => wpAny_execs_nil ⟨Z, H, I, h⟩
theorem aJ (h1 : PS X st t) (h2 : xx X dm u) : xx X (st :: dm) (ke t u) := by
 intro pins s Z H D I h
 refine wpAny_execs_cons (cj (h1 pins s Z H { D with nx := u D } I h) λ f s1 q => ?_)
 cases f with
 | next =>
  obtain ⟨σ', H', I', q⟩ := q
  exact h2 pins s1 σ' H' D I' q
 | ret v => exact q
 | brk => exact q
 | cont => exact q
theorem aR (h1 : PS X st t) : xx X [st] t := by
 intro pins s Z H D I h
 refine wpAny_execs_cons (cj (h1 pins s Z H D I h) λ f s1 q => ?_)
 cases f with
 | next => exact wpAny_execs_nil q
 | ret v => exact q
 | brk => exact q
 | cont => exact q
theorem Inv.quiet {pins : Pn} {Z : St} {H : Hp} {s : Shared} (I : Inv X pins Z H s) : interactive X.env = false := by simp [interactive, I.ok.kind]
def Bf (te : TE) : TS := λ D Z H => te Z H λ _ H1 => D.nx Z H1
theorem bU (he : PE X e te) (hs : swapsWith e none pos.line X.env = pure false := by rfl) : PS X (.Expr e pos) (Bf te) := by
 intro pins s Z H D I h
 exact wpAny_Expr_any (cj (he pins s Z H _ I h) λ v s1 ⟨x, H1, I1, r1, q1⟩ => ⟨Z, H1, I1, q1⟩) I.quiet hs
def AM (te : TE) : TS := λ D Z H => te Z H D.rt
theorem ai (he : PE X e te) : PS X (.Return (some e) pos) (AM te) := by
 intro pins s Z H D I h
 exact wpAny_Return_some (cj (he pins s Z H _ I h) λ v s1 ⟨x, H1, I1, r1, q1⟩ => ⟨x, Z, H1, I1, r1, q1⟩)
def Cm (c : TT) (t u : TS) : TS := λ D Z H => c Z H λ b H1 => if b = true then t D Z H1 else u D Z H1
theorem aK {c : Expr} {a b : List Stmt} {tc : TT} (hc : PT X c tc) (ha : xx X a t) (hb : xx X b u) : PS X (.If c a b pos) (Cm tc t u) := by
 intro pins s Z H D I h
 refine wpAny_If (cj (hc pins s Z H _ I h) λ d s1 ⟨H1, I1, q1⟩ => ?_)
 cases d with
 | true => exact ha pins s1 Z H1 D I1 q1
 | false => exact hb pins s1 Z H1 D I1 q1
end
noncomputable abbrev TG := V -> St -> Hp -> (St -> Hp -> Prop) -> Prop
noncomputable abbrev TGs := List V -> St -> Hp -> (St -> Hp -> Prop) -> Prop
def PG (X : Cx) (target : Expr) (t : TG) : Prop :=
 ∀ (pins : Pn) (s : Shared) (Z : St) (H : Hp) (v : V) (u : Value) (Q : St -> Hp -> Prop), Inv X pins Z H s -> bh v u -> t v Z H Q ->
  wpAny (model X.prog X.w) X.A (assign target X.env u) (λ _ s' => ∃ σ' H', Inv X pins σ' H' s' /\ Q σ' H') X.xe s
def LF (X : Cx) (ts : List Expr) (t : TGs) : Prop :=
 ∀ (pins : Pn) (s : Shared) (Z : St) (H : Hp) (vs : List V) (us : List Value) (Q : St -> Hp -> Prop), Inv X pins Z H s -> aM vs us -> t vs Z H Q ->
  wpAny (model X.prog X.w) X.A (assignInOrder ((assignEach ts X.env).map (·.2)) us) (λ _ s' => ∃ σ' H', Inv X pins σ' H' s' /\ Q σ' H') X.xe s
noncomputable abbrev TIp := V -> V -> Hp -> VK -> Prop
def MP (X : Cx) (op : Operator) (t : TIp) : Prop :=
 ∀ (pins : Pn) (s : Shared) (Z : St) (H : Hp) (x y : V) (v u : Value) (Q : VK), Inv X pins Z H s -> bh x v -> bh y u -> t x y H Q ->
  wpAny (model X.prog X.w) X.A (inplaceOp op v u) (EP X pins Z Q) X.xe s
section
variable {X : Cx} {pos : Pos}
def bH (i : Nat) : TG := λ v Z H Q => Q (Z.set i (some v)) H
variable {i : Nat} {x : Str}
theorem az (hN : X.N.Nodup) (hi : X.N[i]? = some x) (hx : Fi X.env.scope x) (hf : X.fn x = true ∨ X.env.scope.names.lookup x = some .local := by first | exact .inl rfl | exact .inr rfl | assumption) : PG X (.Name x pos) (bH i) := by
 intro pins s Z H v u Q I r h
 exact wpAny_assign_Name (gJ I hN hi hx r (λ s' I' => ⟨_, H, I', h⟩) hf)
def gNil : TGs := λ vs Z H Q => vs = [] /\ Q Z H
def dG (t : TG) (u : TGs) : TGs := λ vs Z H Q => ∃ v r, vs = v :: r /\ t v Z H λ σ' H' => u r σ' H' Q
theorem dk : LF X [] gNil := by
 intro pins s Z H vs us Q I r h
 obtain ⟨e, h⟩ := h
 subst e
 cases r
 exact assignInOrder_nil ⟨Z, H, I, h⟩
variable {e : Expr}
theorem aF {es : List Expr} {t : TG} {u : TGs} (h1 : PG X e t) (h2 : LF X es u)
  (hs : (assignEach (e :: es) X.env).map (·.2) = assign e X.env :: (assignEach es X.env).map (·.2) := by rfl) : LF X (e :: es) (dG t u) := by
 intro pins s Z H vs us Q I r h
 obtain ⟨v, vr, e1, h⟩ := h
 subst e1
 cases r with
 | cons r rr =>
  rw [hs]
  refine assignInOrder_cons (cj (h1 pins s Z H _ _ _ I r h) λ _ s1 ⟨σ1, H1, I1, q1⟩ => ?_)
  exact h2 pins s1 σ1 H1 _ _ Q I1 rr q1
def tQ (K : Fg) (n : Nat) (t : TGs) : TG := λ v Z H Q => ∃ a xs, v = .ref a /\ bq K H a xs /\ xs.length = n /\ t xs Z H Q
theorem eV {es : List Expr} {k : Nat} {t : TGs} {n : Nat} (hc : X.calm = true) (h : LF X es t)
  (hn : (assignEach es X.env).length = n := by rfl) (hst : (assignEach es X.env).findIdx? (·.1) = none := by rfl) : PG X (.Tuple es k pos) (tQ X.K n t) := by
 intro pins s Z H v u Q I r hw
 obtain ⟨a, xs, e1, hq, hl, hw⟩ := hw
 subst e1
 cases r
 obtain ⟨its, rv, ht, hz⟩ := I.tuple hq
 refine assign_Tuple_tuple (I.ok.hd hc) ht (by simp [hn, <- hl, rv.length]) hst λ h' hx => ?_
 have I1 : Inv X pins Z H { s with heap := h' } := I.kept (t' := s.toks) λ b o e => hx b o (uS (j5 e)) e
 exact h pins _ Z H xs _ Q I1 (by simpa using rv) hw
def qg (te : TE) (g : TG) : TS := λ D Z H => te Z H λ x H1 => g x Z H1 D.nx
variable {te : TE}
theorem vm {tg : Expr} {g : TG} (he : PE X e te) (hg : PG X tg g) (hs : swapsWithSole [tg] e pos.line X.env = pure false := by rfl) (hw : swappedStores [tg] e X.env = pure none := by rfl)
  (h1 : (assignEach [tg] X.env).map (·.2) = [assign tg X.env] := by rfl) : PS X (.Assign [tg] e pos) (qg te g) := by
 intro pins s Z H D I h
 refine wpAny_Assign_stores (cj (he pins s Z H _ I h) λ v s1 ⟨x, H1, I1, r1, q1⟩ => ?_) hs hw
 rw [h1]
 exact cj (hg pins s1 Z H1 x v _ I1 r1 q1) λ _ s2 q => q
theorem ag {pos' : Pos} (hN : X.N.Nodup) (hi : X.N[i]? = some x) (hx : Fi X.env.scope x) (he : PE X e te) (hs : swapsWith e (some (.Name x pos')) pos.line X.env = pure false := by rfl) (hf : X.fn x = true ∨ X.env.scope.names.lookup x = some .local := by first | exact .inl rfl | exact .inr rfl | assumption) :
  PS X (.Assign [.Name x pos'] e pos) (qg te (bH i)) := by
 intro pins s Z H D I h
 refine wpAny_Assign_Name (cj (he pins s Z H _ I h) λ v s1 ⟨y, H1, I1, r1, q1⟩ => ?_) hs
 exact gJ I1 hN hi hx r1 (λ s2 I2 => ⟨_, H1, I2, q1⟩) hf
def Gn (i j : Nat) (ta : TA) : TS := λ D Z H => ta Z H λ vs H1 => ∃ v w, vs = [v, w] /\ D.nx ((Z.set i (some v)).set j (some w)) H1
theorem Hl {j : Nat} {y : Str} {a b : Expr} {ta : TA} {px py pt : Pos} {kt k2 pt2} (hc : X.calm = true) (hN : X.N.Nodup) (hi : X.N[i]? = some x) (hj : X.N[j]? = some y) (hij : i ≠ j)
  (hx : X.env.scope.names.lookup x = some .local) (hy : X.env.scope.names.lookup y = some .local) (ha : PA X [a, b] ta)
  (hw : swappedStores [.Tuple [.Name x px, .Name y py] kt pt] (.Tuple [a, b] k2 pt2) X.env = pure (some [x, y]))
  (hs : swapsWithSole [.Tuple [.Name x px, .Name y py] kt pt] (.Tuple [a, b] k2 pt2) pos.line X.env = pure false := by rfl) :
  PS X (.Assign [.Tuple [.Name x px, .Name y py] kt pt] (.Tuple [a, b] k2 pt2) pos) (Gn i j ta) := by
 intro pins s Z H D I h
 rw [exec_Assign_arm]
 refine cx (wpAny_standAt ?_)
 rw [hs]
 refine cx (fh ?_)
 rw [gS (by decide)]
 refine cx (Tuple_ (cj (ha _ pins s Z H _ I h) λ us s1 ⟨vs, H1, I1, r1, q1⟩ => ?_))
 obtain ⟨v, w, e1, q1⟩ := q1
 subst e1
 obtain ⟨u1, u2, rfl, rv, rw'⟩ : ∃ u1 u2, us = [u1, u2] /\ bh v u1 /\ bh w u2 := by
  cases r1 with
  | cons p q =>
   cases q with
   | cons p' q' =>
    cases q'
    exact ⟨_, _, rfl, p, p'⟩
 refine uY ?_ (by show 2 <= sizeLine; decide)
 have I2 : Inv X pins Z H1 { s1 with heap := s1.heap.push { cls := .type "tuple", data := .seq [u1, u2].toArray } } := I1.kept (t' := s1.toks) λ b o e => e9 _ e
 rw [hw]
 refine cx (fh ?_)
 show wpAny (model X.prog X.w) X.A (do rule "assign.swapped-stores"; let items <- unpackItems (.ref s1.heap.objs.size) 2 none; assignInOrder [λ v => bindName X.env y v, λ v => bindName X.env x v] items.reverse; pure Flow.next) _ _ _
 refine cx (wpAny_rule (cx (unpackItems_tuple (items := #[u1, u2]) (I.ok.hd hc) (IsTup.new s1.heap _) λ h' hx' => ?_)))
 have I3 := I2.kept (h' := h') (t' := s1.toks) λ b o e => hx' b o (uS (j5 e)) e
 show wpAny _ _ (assignInOrder [λ v => bindName X.env y v, λ v => bindName X.env x v] [u2, u1] >>= λ _ => pure Flow.next) _ _ _
 refine cx (assignInOrder_cons (wpAny_bindName (gJ I3 hN hj (.inl hy) rw' (λ s2 I4 => ?_) (.inr hy))))
 refine assignInOrder_cons (wpAny_bindName (gJ I4 hN hi (.inl hx) rv (λ s3 I5 => assignInOrder_nil (fh ?_)) (.inr hx)))
 rw [List.set_comm _ _ (Ne.symm hij)] at I5
 exact ⟨_, H1, I5, q1⟩
def Nw (i : Nat) (te : TE) (ti : TIp) : TS := λ D Z H => ∃ x, Z[i]? = some (some x) /\ te Z H λ y H1 => ti x y H1 λ z H2 => D.nx (Z.set i (some z)) H2
theorem Cy {op : Operator} {ti : TIp} {pos' : Pos} (hN : X.N.Nodup) (hi : X.N[i]? = some x) (hx : Fi X.env.scope x) (he : PE X e te) (ho : MP X op ti) (hf : X.fn x = true ∨ X.env.scope.names.lookup x = some .local := by first | exact .inl rfl | exact .inr rfl | assumption) :
  PS X (.AugAssign (.Name x pos') op e pos) (Nw i te ti) := by
 intro pins s Z H D I h
 obtain ⟨v, e1, h⟩ := h
 obtain ⟨m, hn, hl⟩ := I.loc
 have vis : JA X.env.scope x := by rcases hx with k | k; exact .inl k; exact .inr (.inl k)
 obtain ⟨u, r, l⟩ := hl i x v hi e1 vis
 refine wpAny_AugAssign_Name ?_
 have go : wpAny (model X.prog X.w) X.A (eval e X.env) (λ w s₂ => wpAny (model X.prog X.w) X.A (inplaceOp op u w) (λ r s₃ => wpAny (model X.prog X.w) X.A (storeName X.env x r) (λ _ => SP X pins D .next) X.xe s₃) X.xe s₂) X.xe s := by
  refine cj (he pins s Z H _ I h) λ w s1 ⟨y, H1, I1, r1, q1⟩ => ?_
  refine cj (ho pins s1 Z H1 v y u w _ I1 r r1 q1) λ z s2 ⟨zv, H2, I2, r2, q2⟩ => ?_
  exact gJ I2 hN hi hx r2 (λ s3 I3 => ⟨_, H2, I3, q2⟩) hf
 rcases l with ⟨hk, hm⟩ | ⟨hk, c, hc, hcell⟩
 ·exact wpAny_loadName_local I.ok.kind hk hn hm go
 ·rcases hk with hk | hk
  ·exact wpAny_loadName_cell I.ok.kind hk hc hcell go
  ·rcases hx with k | k
   ·have : X.env.scope.names.lookup x = some .free := hk
    rw [k] at this; cases this
   ·have : X.env.scope.names.lookup x = some .free := hk
    rw [k] at this; cases this
def ipI (f : Int -> Int -> Int) : TIp := λ x y H Q => ∃ i j, x = .int i /\ y = .int j /\ Q (.int (f i j)) H
theorem IA : MP X .Add (ipI λ i j => i + j) := by
 intro pins s Z H x y v u Q I r1 r2 h
 obtain ⟨i, j, e1, e2, q⟩ := h
 subst e1; subst e2
 obtain ⟨t, rfl⟩ := r1
 obtain ⟨t', rfl⟩ := r2
 exact iadd_int ⟨.int _, H, I.tok _, ⟨_, rfl⟩, q⟩
theorem Gj : MP X .Sub (ipI λ i j => i - j) := by
 intro pins s Z H x y v u Q I r1 r2 h
 obtain ⟨i, j, e1, e2, q⟩ := h
 subst e1; subst e2
 obtain ⟨t, rfl⟩ := r1
 obtain ⟨t', rfl⟩ := r2
 exact isub_int ⟨.int _, H, I.tok _, ⟨_, rfl⟩, q⟩
end
section
variable {X : Cx} {pos : Pos}
def uW (c : TT) (tb : TS) : TS := λ D Z H => ∃ W : Nat -> St -> Hp -> Prop, (∃ m, W m Z H) /\ ∀ m Z H, W m Z H ->
 c Z H λ b H1 => if b = true then ∃ N : St -> Hp -> Prop, (∀ σ' H', N σ' H' -> ∃ m', m' < m /\ W m' σ' H') /\ tb { D with nx := N, ct := N, bk := D.nx } Z H1 else D.nx Z H1
theorem fm {c : Expr} {body : List Stmt} {tc : TT} {tb : TS} (hp : PassesOwn (model X.prog X.w) X.A X.env X.xe) (hc : PT X c tc) (hb : xx X body tb) : PS X (.While c body [] pos) (uW tc tb) := by
 intro pins s Z H D I h
 obtain ⟨W, ⟨m0, w0⟩, turn⟩ := h
 refine wpAny_While (codeAny_whileLoop (λ n s' => ∃ σ' H', Inv X pins σ' H' s' /\ W n σ' H') ?_ m0 ⟨Z, H, I, w0⟩)
 rintro n s1 ⟨σ1, H1, I1, w1⟩
 refine wpAny_passesOwn hp (cj (hc pins s1 σ1 H1 _ I1 (turn n σ1 H1 w1)) λ b s2 ⟨H2, I2, q2⟩ => ?_)
 cases b with
 | true =>
  obtain ⟨N, hN, q2⟩ := q2
  rw [i9 rfl]
  refine wpAny_passesOwn hp (cj (hb pins s2 σ1 H2 _ I2 q2) λ f s3 q3 => ?_)
  cases f with
  | next =>
   obtain ⟨σ3, H3, I3, n3⟩ := q3
   obtain ⟨m', hm, w3⟩ := hN σ3 H3 n3
   exact ⟨m', hm, σ3, H3, I3, w3⟩
  | cont =>
   obtain ⟨σ3, H3, I3, n3⟩ := q3
   obtain ⟨m', hm, w3⟩ := hN σ3 H3 n3
   exact ⟨m', hm, σ3, H3, I3, w3⟩
  | brk => exact q3
  | ret v => exact q3
 | false =>
  rw [gS gV]
  exact wpAny_execs_nil ⟨σ1, H2, I2, q2⟩
end
structure It where
 go : Nat -> Hp -> Prop
 yld : Nat -> Hp -> V -> Hp -> Prop
 stop : Nat -> Hp -> Prop
def lZ (X : Cx) (pins : Pn) (H : Hp) (b : Addr) : Prop :=
 H b = none /\ b ≠ X.env.locals /\ b ∉ X.fs /\ (b ∈ X.ex ∨ X.s₀.heap.objs.size <= b) /\ (∀ x c, X.env.cells.lookup x = some c -> c ≠ b) /\ ∀ p ∈ X.pn ++ pins, p.1 ≠ b
theorem Inv.fpOk {pins : Pn} {Z : St} {H H' : Hp} {s : Shared} {b : Addr} (I : Inv X pins Z H s) (hb : s.heap.objs.size <= b) (hn : H' b = none) : lZ X pins H' b := by
 refine ⟨hn, Nat.ne_of_gt (mv I.lt hb), I.nofs hb, .inr (n9 I.sz hb), λ x c e z => ?_, λ p hp z => ?_⟩
 ·obtain ⟨v, q⟩ := I.cell x c e
  exact absurd (mv q.lt (by rw [z]; exact hb)) (Nat.lt_irrefl _)
 ·exact absurd (mv (j5 (I.pin p hp).1) (by rw [z]; exact hb)) (Nat.lt_irrefl _)
structure Au (P : Program) (w : World) (K : Fg) (tg : Expr) (J : It) (fp : List Addr) (it : Addr) (tn : Nat -> Heap -> Prop) : Prop where
 mem : it ∈ fp
 obj : ∀ i h, tn i h -> ∀ b ∈ fp, ∃ o, h.get? b = some o /\ ∀ v, o.data ≠ .cell v
 keep : ∀ i h h', tn i h -> (∀ b ∈ fp, ∀ o, h.get? b = some o -> h'.get? b = some o) -> tn i h'
 item : ∀ (X : Cx), X.prog = P -> X.w = w -> X.K = K -> X.calm = true -> ∀ (i : Nat) (pins : Pn) (s : Shared) (Z : St) (H : Hp) (E : Value -> Shared -> Prop), Inv X pins Z H s -> (∀ b ∈ fp, lZ X pins H b) -> tn i s.heap -> J.go i H ->
  wpAny (model P w) X.A (pyNext (.ref it)) (λ r s1 => ∃ u, r = some u /\
   wpAny (model P w) X.A (letOwnedTupleGo tg (.ref it) u) (λ _ s2 => ∃ x H', Inv X pins Z H' s2 /\ bh x u /\ J.yld i H x H' /\ tn (i + 1) s2.heap /\ ∀ b ∈ fp, H' b = none) E s1) E s
 done : ∀ (X : Cx), X.prog = P -> X.w = w -> X.K = K -> X.calm = true -> ∀ (i : Nat) (pins : Pn) (s : Shared) (Z : St) (H : Hp) (E : Value -> Shared -> Prop), Inv X pins Z H s -> (∀ b ∈ fp, lZ X pins H b) -> tn i s.heap -> J.stop i H ->
  wpAny (model P w) X.A (pyNext (.ref it)) (λ r s1 => r = none /\ Inv X pins Z H s1) E s
 self : ∀ (A : Around) (i : Nat) (s : Shared) (Q : Value -> Shared -> Prop) (E : Value -> Shared -> Prop), tn i s.heap -> Q (.ref it) s -> wpAny (model P w) A (pyIter (.ref it)) Q E s
noncomputable abbrev TI := St -> Hp -> (It -> Hp -> Prop) -> Prop
def PIE (X : Cx) (pins : Pn) (Z : St) (tg : Expr) (R : It -> Hp -> Prop) (itv : Value) (s2 : Shared) : Prop :=
 ∃ (it : Addr) (fp : List Addr) (tn : Nat -> Heap -> Prop) (J : It) (H' : Hp), itv = .ref it /\ Inv X pins Z H' s2 /\ Au X.prog X.w X.K tg J fp it tn /\ tn 0 s2.heap /\ (∀ b ∈ fp, lZ X pins H' b) /\ R J H'
def PI (X : Cx) (tg iter : Expr) (wi : TI) : Prop :=
 ∀ (pins : Pn) (s : Shared) (Z : St) (H : Hp) (R : It -> Hp -> Prop), Inv X pins Z H s -> wi Z H R ->
  wpAny (model X.prog X.w) X.A (eval iter X.env) (λ v s1 => wpAny (model X.prog X.w) X.A (pyIter v) (PIE X pins Z tg R) X.xe s1) X.xe s
variable {tg : Expr}
theorem zC {M : Model} {A : Around} {E : Value -> Shared -> Prop} {s : Shared} {it : Addr} {o : Obj} {n : String} {vs : Array Value} {Q : Unit -> Shared -> Prop} (ho : s.heap.get? it = some o) (hc : o.cls = .type n) (hd : o.data = .fields vs)
    (hn : ["enumerate", "zip", "dict_itemiterator", "dict_reverseitemiterator", "odict_iterator", "itertools.zip_longest", "itertools.pairwise"].contains n = false) (hQ : Q () s) : wpAny M A (letOwnedTupleGo tg (.ref it) u) Q E s := by
  unfold letOwnedTupleGo
  cases tg <;> first
    | exact fh hQ
    | (cases u <;> first
        | exact fh hQ
        | (refine cx (wpAny_load ho ?_)
           rw [hc, hd]
           show wpAny M A (if (["enumerate", "zip", "dict_itemiterator", "dict_reverseitemiterator", "odict_iterator", "itertools.zip_longest", "itertools.pairwise"].contains n && vs[0]? == some (rawInt _)) = true then _ else _) Q E s
           rw [gS (by intro h; rw [hn, Bool.false_and] at h; cases h)]
           exact fh hQ))
def Fb (K : Fg) (a : Addr) : It :=
 ⟨λ i H => ∃ xs x, aZ K H a xs /\ xs[i]? = some x, λ i H x H' => H' = H /\ ∀ xs, aZ K H a xs -> xs[i]? = some x, λ i H => ∃ xs, aZ K H a xs /\ xs.length <= i⟩
def MX (K : Fg) (a : Addr) : It :=
 ⟨λ i H => ∃ xs x, bq K H a xs /\ xs[i]? = some x, λ i H x H' => H' = H /\ ∀ xs, bq K H a xs -> xs[i]? = some x, λ i H => ∃ xs, bq K H a xs /\ xs.length <= i⟩
def CC (lo : Int) (n : Nat) : It := ⟨λ i _ => i < n, λ i H x H' => H' = H /\ x = .int (lo + i), λ i _ => n <= i⟩
variable {P : Program} {w : World} {K : Fg}
theorem yB (a it : Addr) : Au P w K tg (Fb K a) [it] it (λ i h => h.IsListIter it a i) where
 mem := by simp
 obj := λ i h st b hb => by
  have e : b = it := by simpa using hb
  subst e
  obtain ⟨o, e, c, d⟩ := st
  exact ⟨o, e, λ v z => by rw [d] at z; cases z⟩
 keep := λ i h h' st k => st.at λ o e => k it (by simp) o e
 item := by
  intro X hP hw hK hc i pins s Z H E I hf st hg
  subst hP hw hK
  obtain ⟨xs, x, hq, hx⟩ := hg
  obtain ⟨its, rv, p, hz⟩ := I.list hq
  obtain ⟨u, hu, ru⟩ := rv.get hx
  obtain ⟨f0, f1, f2, f3, f4, f5⟩ := hf it (by simp)
  refine wpAny_pyNext_list_item st p.isList (x := u) (by simpa using hu) λ h' st' sb => ?_
  have I1 : Inv X pins Z H { s with heap := h' } := I.turned (t' := s.toks) (λ b o hb e => (sb.2 b hb).trans e) f0 f1 f3 f4 f5
  obtain ⟨o, e, c, d⟩ := id st'
  exact ⟨u, rfl, zC (s := { s with heap := h' }) e c d (by decide) ⟨x, H, I1, ru, ⟨rfl, λ ys hy => by rw [I.list_inj hy hq]; exact hx⟩, st', λ b hb => (hf b hb).1⟩⟩
 done := by
  intro X hP hw hK hc i pins s Z H E I hf st hg
  subst hP hw hK
  obtain ⟨xs, hq, hx⟩ := hg
  obtain ⟨its, rv, p, hz⟩ := I.list hq
  obtain ⟨f0, f1, f2, f3, f4, f5⟩ := hf it (by simp)
  have hl := rv.length
  exact wpAny_pyNext_list_end (I.ok.hd hc) st p.isList (by simp; lia) λ h' eb => ⟨rfl, I.turned (t' := s.toks) (λ b o hb e => eb b o hb e) f0 f1 f3 f4 f5⟩
 self := λ _ _ _ _ _ st h => wpAny_pyIter_listiter st h
theorem vT (a it : Addr) : Au P w K tg (MX K a) [it] it (λ i h => h.IsTupleIter it a i) where
 mem := by simp
 obj := λ i h st b hb => by
  have e : b = it := by simpa using hb
  subst e
  obtain ⟨o, e, c, d⟩ := st
  exact ⟨o, e, λ v z => by rw [d] at z; cases z⟩
 keep := λ i h h' st k => st.at λ o e => k it (by simp) o e
 item := by
  intro X hP hw hK hc i pins s Z H E I hf st hg
  subst hP hw hK
  obtain ⟨xs, x, hq, hx⟩ := hg
  obtain ⟨its, rv, p, hz⟩ := I.tuple hq
  obtain ⟨u, hu, ru⟩ := rv.get hx
  obtain ⟨f0, f1, f2, f3, f4, f5⟩ := hf it (by simp)
  refine wpAny_pyNext_tuple_item st (show s.heap.IsTuple a its.toArray from p) (x := u) (by simpa using hu) λ h' st' sb => ?_
  have I1 : Inv X pins Z H { s with heap := h' } := I.turned (t' := s.toks) (λ b o hb e => (sb.2 b hb).trans e) f0 f1 f3 f4 f5
  obtain ⟨o, e, c, d⟩ := id st'
  exact ⟨u, rfl, zC (s := { s with heap := h' }) e c d (by decide) ⟨x, H, I1, ru, ⟨rfl, λ ys hy => by rw [I.tuple_inj hy hq]; exact hx⟩, st', λ b hb => (hf b hb).1⟩⟩
 done := by
  intro X hP hw hK hc i pins s Z H E I hf st hg
  subst hP hw hK
  obtain ⟨xs, hq, hx⟩ := hg
  obtain ⟨its, rv, p, hz⟩ := I.tuple hq
  obtain ⟨f0, f1, f2, f3, f4, f5⟩ := hf it (by simp)
  have hl := rv.length
  exact wpAny_pyNext_tuple_end (I.ok.hd hc) st (show s.heap.IsTuple a its.toArray from p) (by simp; lia) λ h' eb => ⟨rfl, I.turned (t' := s.toks) (λ b o hb e => eb b o hb e) f0 f1 f3 f4 f5⟩
 self := λ _ _ _ _ _ st h => wpAny_pyIter_tupleiter st h
theorem vh (it : Addr) (lo : Int) (n : Nat) : Au P w K tg (CC lo n) [it] it (λ i h => IsRangeIter h it (lo + (i : Nat) * 1) ((n : Int) - (i : Nat)) 1) where
 mem := by simp
 obj := λ i h st b hb => by
  have e : b = it := by simpa using hb
  subst e
  exact ⟨_, st, λ v z => by
   have z' : Data.fields _ = Data.cell v := z
   cases z'⟩
 keep := λ i h h' st k => k it (by simp) _ st
 item := by
  intro X hP hw hK hc i pins s Z H E I hf st hg
  subst hP hw hK
  obtain ⟨f0, f1, f2, f3, f4, f5⟩ := hf it (by simp)
  have W := Walks.range (prog := X.prog) (w := X.w) (I.ok.hd hc) it lo 1 n
  refine W.item i s _ _ hg st λ v h' tk hv st' kk => ?_
  obtain ⟨t, rfl⟩ := hv
  have I1 : Inv X pins Z H { s with heap := h', toks := tk } := I.turned (λ b o hb e => kk b o (by simpa using hb) e) f0 f1 f3 f4 f5
  refine ⟨_, rfl, zC (s := { s with heap := h', toks := tk }) (n := "range_iterator") st' rfl rfl (by decide) ⟨.int (lo + i), H, I1, ⟨t, ?_⟩, ⟨rfl, rfl⟩, st', λ b hb => (hf b hb).1⟩⟩
  rw [rn]
 done := by
  intro X hP hw hK hc i pins s Z H E I hf st hg
  subst hP hw hK
  obtain ⟨f0, f1, f2, f3, f4, f5⟩ := hf it (by simp)
  exact wpAny_pyNext_range_end (I.ok.hd hc) st (by have : n <= i := hg; lia) λ h' eb => ⟨rfl, I.turned (t' := s.toks) (λ b o hb e => eb b o hb e) f0 f1 f3 f4 f5⟩
 self := λ _ _ _ _ _ st h => wpAny_pyIter_rangeiter st h
section
variable {X : Cx} {tg : Expr}
def AJ (K : Fg) (tl : TE) : TI := λ Z H R => tl Z H λ x H1 => ∃ a, x = .ref a /\ (∃ xs, aZ K H1 a xs) /\ R (Fb K a) H1
def IS (K : Fg) (tl : TE) : TI := λ Z H R => tl Z H λ x H1 => ∃ a, x = .ref a /\ (∃ xs, bq K H1 a xs) /\ R (MX K a) H1
theorem br {l : Expr} {tl : TE} (hl : PE X l tl) : PI X tg l (AJ X.K tl) := by
 intro pins s Z H R I h
 refine cj (hl pins s Z H _ I h) λ v s1 ⟨x, H1, I1, r1, q1⟩ => ?_
 obtain ⟨a, e, ⟨xs, hq⟩, q⟩ := q1
 subst e
 cases r1
 obtain ⟨its, rv, p, hz⟩ := I1.list hq
 refine wpAny_pyIter_list p.isList ?_
 refine ⟨s1.heap.objs.size, [s1.heap.objs.size], _, _, H1, rfl, I1.kept (t' := s1.toks) λ b o e => e9 _ e, yB a _, ⟨_, m8 _ rfl, rfl, rfl⟩, λ b hb => ?_, q⟩
 have e : b = s1.heap.objs.size := by simpa using hb
 subst e
 exact I1.fpOk (jo _) (I1.hok.fresh (jo _))
theorem Av {l : Expr} {tl : TE} (hl : PE X l tl) : PI X tg l (IS X.K tl) := by
 intro pins s Z H R I h
 refine cj (hl pins s Z H _ I h) λ v s1 ⟨x, H1, I1, r1, q1⟩ => ?_
 obtain ⟨a, e, ⟨xs, hq⟩, q⟩ := q1
 subst e
 cases r1
 obtain ⟨its, rv, p, hz⟩ := I1.tuple hq
 refine wpAny_pyIter_tuple (show s1.heap.IsTuple a its.toArray from p) ?_
 refine ⟨s1.heap.objs.size, [s1.heap.objs.size], _, _, H1, rfl, I1.kept (t' := s1.toks) λ b o e => e9 _ e, vT a _, ⟨_, m8 _ rfl, rfl, rfl⟩, λ b hb => ?_, q⟩
 have e : b = s1.heap.objs.size := by simpa using hb
 subst e
 exact I1.fpOk (jo _) (I1.hok.fresh (jo _))
variable {pins : Pn} {Z : St} {H : Hp} {s : Shared}
theorem zt {R : It -> Hp -> Prop} {E : Value -> Shared -> Prop} {lo hi : Int} {t u v : Tok} {tk : Nat} (I : Inv X pins Z H s) (h1 : -(2 ^ 62) <= lo) (h2 : lo < 2 ^ 62) (h3 : -(2 ^ 62) <= hi) (h4 : hi < 2 ^ 62)
  (q : R (CC lo (hi - lo).toNat) H) : wpAny (model X.prog X.w) X.A (pyIter (.ref s.heap.objs.size)) (PIE X pins Z tg R) E { s with heap := s.heap.push { cls := .type "range", data := .fields #[.int lo t, .int hi u, .int 1 v] }, toks := tk } := by
 refine wpAny_pyIter_range (IsRange.new ..) (small_one h1 h2 h3 h4) ?_
 have I1 : Inv X pins Z H { s with heap := s.heap.push { cls := .type "range", data := .fields #[.int lo t, .int hi u, .int 1 v] }, toks := tk } := I.kept λ b o e => e9 _ e
 refine ⟨(s.heap.push { cls := .type "range", data := .fields #[.int lo t, .int hi u, .int 1 v] }).objs.size, [(s.heap.push { cls := .type "range", data := .fields #[.int lo t, .int hi u, .int 1 v] }).objs.size], _, _, H, rfl,
  I1.kept (t' := tk) λ b o e => e9 _ e, vh _ lo (hi - lo).toNat, ?_, λ b hb => ?_, q⟩
 ·have e1 : lo + ((0 : Nat) : Int) * 1 = lo := by simp
  have e2 : (((hi - lo).toNat : Nat) : Int) - ((0 : Nat) : Int) = Builtin.Range.rangeSize lo hi 1 := by rw [rangeSize_one]; split <;> lia
  show IsRangeIter _ _ (lo + ((0 : Nat) : Int) * 1) ((((hi - lo).toNat : Nat) : Int) - ((0 : Nat) : Int)) 1
  rw [e1, e2]
  exact m8 _ rfl
 ·have e : b = (s.heap.push { cls := .type "range", data := .fields #[.int lo t, .int hi u, .int 1 v] }).objs.size := by simpa using hb
  subst e
  exact I1.fpOk (jo _) (I1.hok.fresh (jo _))
def zD (ta : TA) : TI := λ Z H R => ta Z H λ vs H1 => ∃ j : Int, vs = [.int j] /\ -(2 ^ 62) <= j /\ j < 2 ^ 62 /\ R (CC 0 j.toNat) H1
theorem fo {a : Expr} {ta : TA} {p pos : Pos} (hg : Gl X "range") (hm : X.mg "range" = none) (ha : PA X [a] ta) (hs : starEach [a] X.env = [(false, eval a X.env)] := by rfl) : PI X tg (.Call (.Name "range" p) [a] [] pos) (zD ta) := by
 intro pins s Z H R I h
 refine Call_ (oy I hg hm boot_range (PyProof.Rows.callWith_type1 (cj (ha pos pins s Z H _ I h) λ us s1 ⟨vs, H1, I1, r1, q1⟩ => ?_) hs rfl))
 obtain ⟨j, e, q1, q2, q⟩ := q1
 subst e
 cases r1 with
 | cons r rr =>
  cases rr
  obtain ⟨t, rfl⟩ := r
  exact call_range_1 (zt I1 (by lia) (by lia) q1 q2 (by simpa using q))
def Ii (wi : TI) (g : TG) (tb : TS) : TS := λ D Z H => wi Z H λ J H1 => ∃ W : Nat -> Nat -> St -> Hp -> Prop, (∃ m, W 0 m Z H1) /\ ∀ i m Z H, W i m Z H ->
 (J.stop i H /\ D.nx Z H) ∨ (J.go i H /\ ∃ N : St -> Hp -> Prop, (∀ σ' H', N σ' H' -> ∃ m', m' < m /\ W (i + 1) m' σ' H') /\ ∀ x H', J.yld i H x H' -> g x Z H' λ σ2 H2 => tb { D with nx := N, ct := N, bk := D.nx } σ2 H2)
def re (fp : List Addr) (h : Heap) : Pn := fp.filterMap λ b => (h.get? b).map λ o => (b, o)
variable {fp : List Addr}
theorem fM {h : Heap} {b : Addr} {o : Obj} (hb : b ∈ fp) (e : h.get? b = some o) : (b, o) ∈ re fp h := List.mem_filterMap.mpr ⟨b, hb, by rw [e]; rfl⟩
theorem yt {h : Heap} {p : Addr × Obj} (hp : p ∈ re fp h) : p.1 ∈ fp /\ h.get? p.1 = some p.2 := by
 obtain ⟨b, hb, e⟩ := List.mem_filterMap.mp hp
 cases q : h.get? b with
 | none => rw [q] at e; cases e
 | some o =>
  rw [q] at e
  have e' : (b, o) = p := nS e
  subst e'
  exact ⟨hb, q⟩
theorem Inv.pinned (I : Inv X pins Z H s) (hf : ∀ b ∈ fp, lZ X pins H b) (ho : ∀ b ∈ fp, ∃ o, s.heap.get? b = some o /\ ∀ v, o.data ≠ .cell v) : Inv X (pins ++ re fp s.heap) Z H s :=
 I.pins_of λ p hp => (uD.mp hp).elim (λ z => I.pin p (j9 _ z)) λ z => by
  obtain ⟨hb, e⟩ := yt z
  obtain ⟨f0, f1, f2, _⟩ := hf p.1 hb
  obtain ⟨o, e', d⟩ := ho p.1 hb
  rw [e] at e'; cases e'
  exact ⟨e, f0, f1, f2, d⟩
theorem Inv.unpinned {pl : Pn} (I : Inv X (pins ++ pl) Z H s) : Inv X pins Z H s := I.pins_of λ p hp => I.pin p (j9 _ (List.mem_append_left _ hp))
theorem cm {iter : Expr} {body : List Stmt} {wi : TI} {g : TG} {tb : TS} {pos : Pos} (hp : PassesOwn (model X.prog X.w) X.A X.env X.xe) (hc : X.calm = true) (hi : PI X tg iter wi) (hg : PG X tg g) (hb : xx X body tb)
  (hs : ∀ x, foldedSetIterable iter X.env x = pure x := by intro _; rfl) : PS X (.For tg iter body [] pos) (Ii wi g tb) := by
 intro pins s Z H D I h
 refine wpAny_For (cj (hi pins s Z H _ I h) λ v s1 h1 => cj h1 λ itv s2 h2 => ?_) hs
 obtain ⟨it, fp, tn, J, H2, e, I2, T, st2, f2, W, ⟨m0, w0⟩, turn⟩ := h2
 subst e
 have stat : ∀ {H' : Hp}, (∀ b ∈ fp, H' b = none) -> ∀ b ∈ fp, lZ X pins H' b := λ hn b hb => ⟨hn b hb, (f2 b hb).2⟩
 refine codeAny_forLoop_any (λ n s' => ∃ i σ' H', Inv X pins σ' H' s' /\ tn i s'.heap /\ (∀ b ∈ fp, H' b = none) /\ W i n σ' H') ?_ m0 ⟨0, Z, H2, I2, st2, λ b hb => (f2 b hb).1, w0⟩
 rintro n s3 ⟨i, σ3, H3, I3, st3, fr3, w3⟩
 rcases turn i n σ3 H3 w3 with ⟨stop, qn⟩ | ⟨go, N, hN, step⟩
 ·refine wpAny_passesOwn hp (cj (T.done X rfl rfl rfl hc i pins s3 σ3 H3 X.xe I3 (stat fr3) st3 stop) λ r s4 ⟨hr, I4⟩ => ?_)
  subst hr
  exact wpAny_execs_nil ⟨σ3, H3, I4, qn⟩
 ·refine wpAny_passesOwn hp (cj (T.item X rfl rfl rfl hc i pins s3 σ3 H3 X.xe I3 (stat fr3) st3 go) λ r s4 ⟨u, hr, h4⟩ => ?_)
  subst hr
  refine wpAny_passesOwn hp (cj h4 λ _ s5 ⟨x, H5, I5, r5, y5, st5, fr5⟩ => ?_)
  have I5' := I5.pinned (stat fr5) (T.obj _ _ st5)
  refine wpAny_passesOwn hp (cj (hg _ s5 σ3 H5 x u _ I5' r5 (step x H5 y5)) λ _ s6 ⟨σ6, H6, I6, q6⟩ => ?_)
  refine wpAny_passesOwn hp (cj (hb _ s6 σ6 H6 _ I6 q6) λ f s7 q7 => ?_)
  have again : ∀ {σ7 : St} {H7 : Hp}, Inv X (pins ++ re fp s5.heap) σ7 H7 s7 -> N σ7 H7 -> ∃ m, m < n /\ ∃ i σ' H', Inv X pins σ' H' s7 /\ tn i s7.heap /\ (∀ b ∈ fp, H' b = none) /\ W i m σ' H' := λ {σ7 H7} I7 n7 => by
   obtain ⟨m', hm, w7⟩ := hN σ7 H7 n7
   refine ⟨m', hm, i + 1, σ7, H7, I7.unpinned, T.keep _ _ _ st5 λ b hb o e => (I7.pin (b, o) (j9 _ (j9 _ (fM hb e)))).1, λ b hb => ?_, w7⟩
   obtain ⟨o, e, d⟩ := T.obj _ _ st5 b hb
   exact (I7.pin (b, o) (j9 _ (j9 _ (fM hb e)))).2.1
  cases f with
  | next => obtain ⟨σ7, H7, I7, n7⟩ := q7; exact again I7 n7
  | cont => obtain ⟨σ7, H7, I7, n7⟩ := q7; exact again I7 n7
  | brk => obtain ⟨σ7, H7, I7, q7⟩ := q7; exact ⟨σ7, H7, I7.unpinned, q7⟩
  | ret v => obtain ⟨x7, σ7, H7, I7, r7, q7⟩ := q7; exact ⟨x7, σ7, H7, I7.unpinned, r7, q7⟩
end
variable {tb : TS} {D : eQ} {Z : St} {H : Hp}
theorem BG {K : Fg} {a : Addr} {xs : List V} {g : TG} (Pv : Nat -> St -> Hp -> Prop) (h0 : Pv 0 Z H) (hl : ∀ i Z H, i <= xs.length -> Pv i Z H -> aZ K H a xs)
  (hs : ∀ i x Z H, xs[i]? = some x -> Pv i Z H -> g x Z H λ σ2 H2 => tb { D with nx := Pv (i + 1), ct := Pv (i + 1), bk := D.nx } σ2 H2) (hd : ∀ Z H, Pv xs.length Z H -> D.nx Z H) :
  ∃ W : Nat -> Nat -> St -> Hp -> Prop, (∃ m, W 0 m Z H) /\ ∀ i m Z H, W i m Z H ->
   ((Fb K a).stop i H /\ D.nx Z H) ∨ ((Fb K a).go i H /\ ∃ N : St -> Hp -> Prop, (∀ σ' H', N σ' H' -> ∃ m', m' < m /\ W (i + 1) m' σ' H') /\ ∀ x H', (Fb K a).yld i H x H' -> g x Z H' λ σ2 H2 => tb { D with nx := N, ct := N, bk := D.nx } σ2 H2) := by
 refine ⟨λ i m Z H => m = xs.length - i /\ i <= xs.length /\ Pv i Z H, ⟨xs.length, by simp, Nat.zero_le _, h0⟩, ?_⟩
 rintro i m Z H ⟨rfl, hi, p⟩
 have q := hl i Z H hi p
 by_cases hlt : i < xs.length
 ·refine .inr ⟨⟨xs, xs[i], q, by simp [hlt]⟩, Pv (i + 1), λ σ' H' p' => ⟨xs.length - (i + 1), by lia, rfl, hlt, p'⟩, λ x H' y => ?_⟩
  obtain ⟨e, y⟩ := y
  subst e
  exact hs i x Z _ (y xs q) p
 ·have e : i = xs.length := by lia
  subst e
  exact .inl ⟨⟨xs, q, jo _⟩, hd Z H p⟩
theorem xR {lo : Int} {n : Nat} {g : TG} (Pv : Nat -> St -> Hp -> Prop) (h0 : Pv 0 Z H)
  (hs : ∀ i Z H, i < n -> Pv i Z H -> g (.int (lo + i)) Z H λ σ2 H2 => tb { D with nx := Pv (i + 1), ct := Pv (i + 1), bk := D.nx } σ2 H2) (hd : ∀ Z H, Pv n Z H -> D.nx Z H) :
  ∃ W : Nat -> Nat -> St -> Hp -> Prop, (∃ m, W 0 m Z H) /\ ∀ i m Z H, W i m Z H ->
   ((CC lo n).stop i H /\ D.nx Z H) ∨ ((CC lo n).go i H /\ ∃ N : St -> Hp -> Prop, (∀ σ' H', N σ' H' -> ∃ m', m' < m /\ W (i + 1) m' σ' H') /\ ∀ x H', (CC lo n).yld i H x H' -> g x Z H' λ σ2 H2 => tb { D with nx := N, ct := N, bk := D.nx } σ2 H2) := by
 refine ⟨λ i m Z H => m = n - i /\ i <= n /\ Pv i Z H, ⟨n, by simp, Nat.zero_le _, h0⟩, ?_⟩
 rintro i m Z H ⟨rfl, hi, p⟩
 by_cases hlt : i < n
 ·refine .inr ⟨hlt, Pv (i + 1), λ σ' H' p' => ⟨n - (i + 1), by lia, rfl, hlt, p'⟩, λ x H' y => ?_⟩
  obtain ⟨e, y⟩ := y
  subst e y
  exact hs i Z _ hlt p
 ·have e : i = n := by lia
  subst e
  exact .inl ⟨jo _, hd Z H p⟩
theorem jU {c : TT} (Pv : St -> Hp -> Prop) (μ : St -> Hp -> Nat) (h0 : Pv Z H)
  (hs : ∀ Z H, Pv Z H -> c Z H λ b H1 => if b = true then tb { D with nx := λ σ' H' => Pv σ' H' /\ μ σ' H' < μ Z H, ct := λ σ' H' => Pv σ' H' /\ μ σ' H' < μ Z H, bk := D.nx } Z H1 else D.nx Z H1)
  (mono : ∀ Z H Q Q', (∀ b H1, Q b H1 -> Q' b H1) -> c Z H Q -> c Z H Q') : uW c tb D Z H := by
 refine ⟨λ m Z H => m = μ Z H /\ Pv Z H, ⟨_, rfl, h0⟩, ?_⟩
 rintro m Z H ⟨rfl, p⟩
 refine mono Z H _ _ (λ b H1 q => ?_) (hs Z H p)
 cases b with
 | true => exact ⟨_, λ σ' H' ⟨p', l⟩ => ⟨_, l, rfl, p'⟩, q⟩
 | false => exact q
noncomputable abbrev R2 := V -> V -> Hp -> VK -> Prop
def gd (X : Cx) (f : Value -> Value -> Sem Value) (r : R2) : Prop :=
 ∀ (pins : Pn) (s : Shared) (Z : St) (H : Hp) (x y : V) (v u : Value) (Q : VK), Inv X pins Z H s -> bh x v -> bh y u -> r x y H Q ->
  wpAny (model X.prog X.w) X.A (f v u) (EP X pins Z Q) X.xe s
def Nt (X : Cx) (f : Value -> Sem Value) (r : V -> Hp -> VK -> Prop) : Prop :=
 ∀ (pins : Pn) (s : Shared) (Z : St) (H : Hp) (x : V) (v : Value) (Q : VK), Inv X pins Z H s -> bh x v -> r x H Q ->
  wpAny (model X.prog X.w) X.A (f v) (EP X pins Z Q) X.xe s
def cz (X : Cx) (f : Value) (r : List V -> Hp -> VK -> Prop) : Prop :=
 ∀ (pins : Pn) (s : Shared) (Z : St) (H : Hp) (xs : List V) (us : List Value) (Q : VK), Inv X pins Z H s -> aM xs us -> r xs H Q ->
  wpAny (model X.prog X.w) X.A (call f us) (EP X pins Z Q) X.xe s
def Nq (X : Cx) (r : V -> Hp -> (Bool -> Hp -> Prop) -> Prop) : Prop :=
 ∀ (pins : Pn) (s : Shared) (Z : St) (H : Hp) (x : V) (v : Value) (Q : Bool -> Hp -> Prop), Inv X pins Z H s -> bh x v -> r x H Q ->
  wpAny (model X.prog X.w) X.A (truthy v) (TP X pins Z Q) X.xe s
def xT (r : R2) (ta tb : TE) : TE := λ Z H Q => ta Z H λ x H1 => tb Z H1 λ y H2 => r x y H2 Q
def Nd (r : V -> Hp -> VK -> Prop) (ta : TE) : TE := λ Z H Q => ta Z H λ x H1 => r x H1 Q
def rI (C : Int -> Int -> Prop) (g : Int -> Int -> V) : R2 := λ x y H Q => ∃ i j, x = .int i /\ y = .int j /\ C i j /\ Q (g i j) H
def zF (g : Int -> Int -> V) : R2 := λ x y H Q => ∃ i j, x = .int i /\ y = .int j /\ Q (g i j) H
def rU (g : Int -> V) : V -> Hp -> VK -> Prop := λ x H Q => ∃ i, x = .int i /\ Q (g i) H
section
variable {X : Cx} {a b c : Expr} {ta tb tc : TE} {pos : Pos}
theorem Iq (ha : PE X a ta) (hb : PE X b tb) {pins : Pn} {s : Shared} {Z : St} {H : Hp} {R : V -> V -> Hp -> Prop} (I : Inv X pins Z H s)
  (h : ta Z H λ x H1 => tb Z H1 λ y H2 => R x y H2) {Q : Value -> Shared -> Prop} {f : Value -> Value -> Sem Value}
  (hf : ∀ v u s2 x y H2, Inv X pins Z H2 s2 -> bh x v -> bh y u -> R x y H2 -> wpAny (model X.prog X.w) X.A (f v u) Q X.xe s2) :
  wpAny (model X.prog X.w) X.A (eval a X.env) (λ v s₁ => wpAny (model X.prog X.w) X.A (eval b X.env) (λ u s₂ => wpAny (model X.prog X.w) X.A (f v u) Q X.xe s₂) X.xe s₁) X.xe s := by
 refine cj (ha pins s Z H _ I h) λ v s1 ⟨x, H1, I1, r1, q1⟩ => ?_
 refine cj (hb pins s1 Z H1 _ I1 q1) λ u s2 ⟨y, H2, I2, r2, q2⟩ => ?_
 exact hf v u s2 x y H2 I2 r1 r2 q2
theorem ac {op : Operator} {r : R2} (ho : gd X (binaryOp op) r) (ha : PE X a ta) (hb : PE X b tb) : PE X (.BinOp a op b pos) (xT r ta tb) := by
 intro pins s Z H Q I h
 exact wpAny_BinOp (Iq ha hb I h λ v u s2 x y H2 I2 rx ry q => ho pins s2 Z H2 x y v u Q I2 rx ry q)
theorem dH {op : UnaryOp} {r : V -> Hp -> VK -> Prop} (ho : Nt X (unaryOp op) r) (ha : PE X a ta) : PE X (.UnaryOp op a pos) (Nd r ta) := by
 intro pins s Z H Q I h
 exact UnaryOp_ (cj (ha pins s Z H _ I h) λ v s1 ⟨x, H1, I1, r1, q1⟩ => ho pins s1 Z H1 x v Q I1 r1 q1)
theorem HM {f : Value -> Value -> Sem Value} {C : Int -> Int -> Prop} {g : Int -> Int -> Int}
  (rule : ∀ (i j : Int) (t u : Tok) (s : Shared) (Q : Value -> Shared -> Prop) (E : Value -> Shared -> Prop), C i j -> Q (.int (g i j) s.toks) { s with toks := s.toks + 1 } -> wpAny (model X.prog X.w) X.A (f (.int i t) (.int j u)) Q E s) :
  gd X f (rI C λ i j => .int (g i j)) := by
 intro pins s Z H x y v u Q I rx ry h
 obtain ⟨i, j, rfl, rfl, hc, q⟩ := h
 obtain ⟨t, rfl⟩ := rx
 obtain ⟨t', rfl⟩ := ry
 exact rule i j t t' s _ _ hc ⟨.int (g i j), H, I.tok _, ⟨_, rfl⟩, q⟩
theorem Ku {f : Value -> Value -> Sem Value} {g : Int -> Int -> Int}
  (rule : ∀ (i j : Int) (t u : Tok) (s : Shared) (Q : Value -> Shared -> Prop) (E : Value -> Shared -> Prop), Q (.int (g i j) s.toks) { s with toks := s.toks + 1 } -> wpAny (model X.prog X.w) X.A (f (.int i t) (.int j u)) Q E s) :
  gd X f (zF λ i j => .int (g i j)) := by
 intro pins s Z H x y v u Q I rx ry h
 obtain ⟨i, j, rfl, rfl, q⟩ := h
 obtain ⟨t, rfl⟩ := rx
 obtain ⟨t', rfl⟩ := ry
 exact rule i j t t' s _ _ ⟨.int (g i j), H, I.tok _, ⟨_, rfl⟩, q⟩
variable {f : Value -> Value -> Sem Value}
theorem ER {g : Int -> Int -> Bool}
  (rule : ∀ (i j : Int) (t u : Tok) (s : Shared) (Q : Value -> Shared -> Prop) (E : Value -> Shared -> Prop), Q (.bool (g i j)) s -> wpAny (model X.prog X.w) X.A (f (.int i t) (.int j u)) Q E s) :
  gd X f (zF λ i j => .bl (g i j)) := by
 intro pins s Z H x y v u Q I rx ry h
 obtain ⟨i, j, rfl, rfl, q⟩ := h
 obtain ⟨t, rfl⟩ := rx
 obtain ⟨t', rfl⟩ := ry
 exact rule i j t t' s _ _ ⟨.bl (g i j), H, I, rfl, q⟩
def Mz (i j : Int) : Prop := 0 <= j /\ j <= 1000000 /\ i.natAbs < 2 ^ 64
def HJ (i j : Int) : Prop := (-(2 ^ 64) < i /\ i < 2 ^ 64) ∨ (-(2 ^ 64) < j /\ j < 2 ^ 64)
theorem HJ.ok {i j : Int} (h : HJ i j) : IntMulOk i j := by
 rcases h with ⟨h1, h2⟩ | ⟨h1, h2⟩
 ·exact .of_left (intBits_le_64 h1 h2)
 ·exact .of_right (intBits_le_64 h1 h2)
theorem aC : gd X (binaryOp .Add) (zF λ i j => .int (i + j)) := Ku λ _ _ _ _ _ _ _ q => add_int q
theorem bw : gd X (binaryOp .Sub) (zF λ i j => .int (i - j)) := Ku λ _ _ _ _ _ _ _ q => sub_int q
theorem dQ : gd X (binaryOp .Mult) (rI HJ λ i j => .int (i * j)) := HM λ _ _ _ _ _ _ _ hc q => mul_int q hc.ok
theorem aQ : gd X (binaryOp .Mod) (rI (λ _ j => 0 < j) λ i j => .int (i % j)) := HM λ i j _ _ _ _ _ hc q => by
 have h1 : (0 : Int) < j := hc
 exact mod_int' (by lia) (by rw [Int.fmod_eq_emod_of_nonneg i (by lia)]; exact q)
theorem dE : gd X (binaryOp .Pow) (rI Mz λ i j => .int (i ^ j.toNat)) := HM λ _ _ _ _ _ _ _ hc q => pow_int_small hc.1 hc.2.1 hc.2.2 q
theorem unI {f : Value -> Sem Value} {g : Int -> Int}
  (rule : ∀ (i : Int) (t : Tok) (s : Shared) (Q : Value -> Shared -> Prop) (E : Value -> Shared -> Prop), Q (.int (g i) s.toks) { s with toks := s.toks + 1 } -> wpAny (model X.prog X.w) X.A (f (.int i t)) Q E s) :
  Nt X f (rU λ i => .int (g i)) := by
 intro pins s Z H x v Q I rx h
 obtain ⟨i, rfl, q⟩ := h
 obtain ⟨t, rfl⟩ := rx
 exact rule i t s _ _ ⟨.int (g i), H, I.tok _, ⟨_, rfl⟩, q⟩
theorem cv : Nt X (unaryOp .USub) (rU λ i => .int (-i)) := unI λ _ _ _ _ _ q => neg_int q
end
noncomputable def KF : V -> V -> Bool
 | .non, .non => true | .non, .int _ => true | .int _, .non => true | .non, .bl _ => true | .bl _, .non => true | .non, .str _ => true | .str _, .non => true
 | .int _, .int _ => true | .bl _, .bl _ => true | .str _, .str _ => true | .byt _, .byt _ => true
 | .int _, .str _ => true | .str _, .int _ => true | .bl _, .str _ => true | .str _, .bl _ => true
 | _, _ => false
def rEq : R2 := λ x y H Q => KF x y = true /\ Q (.bl (decide (x = y))) H
def rNe : R2 := λ x y H Q => KF x y = true /\ Q (.bl (!decide (x = y))) H
theorem wX {i j : Int} : decide (V.int i = V.int j) = (i == j) := by
 rw [Bool.eq_iff_iff]
 simp
theorem Az {i j : Bool} : decide (V.bl i = V.bl j) = (i == j) := by
 rw [Bool.eq_iff_iff]
 simp
theorem wJ {i j : Str} : decide (V.str i = V.str j) = (i == j) := by
 rw [Bool.eq_iff_iff]
 simp
theorem xC {i j : Array UInt8} : decide (V.byt i = V.byt j) = (i.toList == j.toList) := by
 rw [Bool.eq_iff_iff]
 cases i
 cases j
 simp
section
variable {X : Cx} {a b c : Expr} {ta tb tc : TE} {pos : Pos}
theorem aX {pins : Pn} {Z : St} {H : Hp} {s : Shared} {Q : VK} {k k' : Bool} (I : Inv X pins Z H s) (q : Q (.bl k) H) (e : k = k') : EP X pins Z Q (.bool k') s := by
 subst e
 exact ⟨.bl k, H, I, rfl, q⟩
theorem bB : gd X (compareOp .Eq) rEq := by
 intro pins s Z H x y v u Q I rx ry h
 obtain ⟨hs, q⟩ := h
 cases x with
 | non =>
  cases rx
  cases y with
  | non => cases ry; exact PySem.EqNone.eq_none_none (aX I q (by simp))
  | bl j => cases ry; exact PySem.EqNone.eq_none_bool (aX I q (by simp))
  | int j => obtain ⟨t', rfl⟩ := ry; exact PySem.EqNone.eq_none_int (aX I q (by simp))
  | str j => obtain ⟨t', rfl⟩ := ry; exact PySem.EqNone.eq_none_str (aX I q (by simp))
  | _ => exact absurd (show false = true from hs) gV
 | bl i =>
  cases rx
  cases y with
  | non => cases ry; exact PySem.EqNone.eq_bool_none (aX I q (by simp))
  | bl j => cases ry; exact eq_bool (aX I q Az)
  | str j => obtain ⟨t', rfl⟩ := ry; exact PySem.EqMixed.eq_bool_str (aX I q (by simp))
  | _ => exact absurd (show false = true from hs) gV
 | int i =>
  obtain ⟨t, rfl⟩ := rx
  cases y with
  | non => cases ry; exact PySem.EqNone.eq_int_none (aX I q (by simp))
  | int j => obtain ⟨t', rfl⟩ := ry; exact eq_int (aX I q wX)
  | str j => obtain ⟨t', rfl⟩ := ry; exact PySem.EqMixed.eq_int_str (aX I q (by simp))
  | _ => exact absurd (show false = true from hs) gV
 | str i =>
  obtain ⟨t, rfl⟩ := rx
  cases y with
  | non => cases ry; exact PySem.EqNone.eq_str_none (aX I q (by simp))
  | bl j => cases ry; exact PySem.EqMixed.eq_str_bool (aX I q (by simp))
  | int j => obtain ⟨t', rfl⟩ := ry; exact PySem.EqMixed.eq_str_int (aX I q (by simp))
  | str j => obtain ⟨t', rfl⟩ := ry; exact eq_str (aX I q wJ)
  | _ => exact absurd (show false = true from hs) gV
 | byt i =>
  obtain ⟨t, rfl⟩ := rx
  cases y with
  | byt j => obtain ⟨t', rfl⟩ := ry; exact PySem.W.eq_bytes (aX I q xC)
  | _ => exact absurd (show false = true from hs) gV
 | _ => cases y <;> exact absurd (show false = true from hs) gV
theorem ui : gd X (compareOp .NotEq) rNe := by
 intro pins s Z H x y v u Q I rx ry h
 obtain ⟨hs, q⟩ := h
 cases x with
 | non =>
  cases rx
  cases y with
  | non => cases ry; exact PySem.EqNone.ne_none_none (aX I q (by simp))
  | bl j => cases ry; exact PySem.EqNone.ne_none_bool (aX I q (by simp))
  | int j => obtain ⟨t', rfl⟩ := ry; exact PySem.EqNone.ne_none_int (aX I q (by simp))
  | str j => obtain ⟨t', rfl⟩ := ry; exact PySem.EqNone.ne_none_str (aX I q (by simp))
  | _ => exact absurd (show false = true from hs) gV
 | bl i =>
  cases rx
  cases y with
  | non => cases ry; exact PySem.EqNone.ne_bool_none (aX I q (by simp))
  | bl j => cases ry; exact ne_bool (aX I q (congrArg not Az))
  | str j => obtain ⟨t', rfl⟩ := ry; exact PySem.EqMixed.ne_bool_str (aX I q (by simp))
  | _ => exact absurd (show false = true from hs) gV
 | int i =>
  obtain ⟨t, rfl⟩ := rx
  cases y with
  | non => cases ry; exact PySem.EqNone.ne_int_none (aX I q (by simp))
  | int j => obtain ⟨t', rfl⟩ := ry; exact ne_int (aX I q (congrArg not wX))
  | str j => obtain ⟨t', rfl⟩ := ry; exact PySem.EqMixed.ne_int_str (aX I q (by simp))
  | _ => exact absurd (show false = true from hs) gV
 | str i =>
  obtain ⟨t, rfl⟩ := rx
  cases y with
  | non => cases ry; exact PySem.EqNone.ne_str_none (aX I q (by simp))
  | bl j => cases ry; exact PySem.EqMixed.ne_str_bool (aX I q (by simp))
  | int j => obtain ⟨t', rfl⟩ := ry; exact PySem.EqMixed.ne_str_int (aX I q (by simp))
  | str j => obtain ⟨t', rfl⟩ := ry; exact ne_str (aX I q (congrArg not wJ))
  | _ => exact absurd (show false = true from hs) gV
 | byt i =>
  obtain ⟨t, rfl⟩ := rx
  cases y with
  | byt j => obtain ⟨t', rfl⟩ := ry; exact PySem.W.ne_bytes (aX I q (congrArg not xC))
  | _ => exact absurd (show false = true from hs) gV
 | _ => cases y <;> exact absurd (show false = true from hs) gV
theorem lO : gd X (compareOp .Lt) (zF λ i j => .bl (decide (i < j))) := ER λ _ _ _ _ _ _ _ q => lt_int q
theorem lz : gd X (compareOp .LtE) (zF λ i j => .bl (decide (i <= j))) := ER λ _ _ _ _ _ _ _ q => le_int q
theorem sQ : gd X (compareOp .Gt) (zF λ i j => .bl (decide (j < i))) := ER λ _ _ _ _ _ _ _ q => gt_int q
theorem AO : gd X (compareOp .GtE) (zF λ i j => .bl (decide (j <= i))) := ER λ _ _ _ _ _ _ _ q => ge_int q
theorem FP : gd X (compareOp .Is) (λ x y H Q => y = .non /\ Q (.bl (decide (x = .non))) H) := by
 intro pins s Z H x y v u Q I rx ry h
 obtain ⟨rfl, q⟩ := h
 cases ry
 refine is_none_gen (aX I q ?_)
 cases x <;> first
  | (cases rx; rfl)
  | (obtain ⟨t, rfl⟩ := rx; rfl)
theorem aw (b : Expr) {op : CmpOp} (h : op ≠ .In := by decide) (h2 : op ≠ .NotIn := by decide) : behindInMarks op b = false := by
 have e1 : (op == CmpOp.In) = false := by cases op <;> first | rfl | exact absurd rfl h
 have e2 : (op == CmpOp.NotIn) = false := by cases op <;> first | rfl | exact absurd rfl h2
 cases b <;> simp [behindInMarks, e1, e2]
variable {op : CmpOp}
theorem fN {r : R2} (ho : gd X (compareOp op) r) (ha : PE X a ta) (hb : PE X b tb) (hm : behindInMarks op b = false) : PE X (.Compare a [op] [b] pos) (xT r ta tb) := by
 intro pins s Z H Q I h
 exact wpAny_Compare1 (Iq ha hb I h λ v u s2 x y H2 I2 rx ry q => ho pins s2 Z H2 x y v u Q I2 rx ry q) hm
def wT (t : TE) : TT := λ Z H Q => t Z H λ x H' => ∃ k, x = .bl k /\ Q k H'
theorem aj {r : R2} (ho : gd X (compareOp op) r) (ha : PE X a ta) (hb : PE X b tb) (hm : behindInMarks op b = false) : PT X (.Compare a [op] [b] pos) (wT (xT r ta tb)) := by
 intro pins s Z H Q I h
 refine wpAny_isTrue_Compare1 (cj (ha pins s Z H _ I h) λ v s1 ⟨x, H1, I1, r1, q1⟩ => cj (hb pins s1 Z H1 _ I1 q1) λ u s2 ⟨y, H2, I2, r2, q2⟩ =>
  cj (ho pins s2 Z H2 x y v u _ I2 r1 r2 q2) λ c s3 ⟨z, H3, I3, r3, k, e, q3⟩ => ?_) hm
 subst e
 cases r3
 exact wpAny_truthy_bool ⟨H3, I3, q3⟩
def uQ (r r' : R2) (ta tb tc : TE) : TE := λ Z H Q => ta Z H λ x H1 => tb Z H1 λ y H2 => r x y H2 λ z H3 => ∃ k, z = .bl k /\
 (if k = true then tc Z H3 λ w' H4 => r' y w' H4 Q else Q (.bl false) H3)
theorem Bv {op' : CmpOp} {r r' : R2} (ho : gd X (compareOp op) r) (ho' : gd X (compareOp op') r') (ha : PE X a ta) (hb : PE X b tb) (hc : PE X c tc)
  (hm : lastMarks [op, op'] [b, c] = false := by with_unfolding_all rfl) : PT X (.Compare a [op, op'] [b, c] pos) (wT (uQ r r' ta tb tc)) := by
 intro pins s Z H Q I h
 refine isTrue_chain (cj (ha pins s Z H _ I h) λ v s1 ⟨x, H1, I1, r1, q1⟩ => test_link (cj (hb pins s1 Z H1 _ I1 q1) λ u s2 ⟨y, H2, I2, r2, q2⟩ =>
  cj (ho pins s2 Z H2 x y v u _ I2 r1 r2 q2) λ d s3 ⟨z, H3, I3, r3, k, e, q3⟩ => ?_)) hm
 subst e
 cases r3
 refine wpAny_truthy_bool ?_
 cases k with
 | false =>
  obtain ⟨k', e', q'⟩ := q3
  cases e'
  exact ite_ff ⟨H3, I3, q'⟩
 | true =>
  refine ite_tt (test_last (cj (hc pins s3 Z H3 _ I3 q3) λ w' s4 ⟨z', H4, I4, r4, q4⟩ => cj (ho' pins s4 Z H4 y z' u w' _ I4 r2 r4 q4) λ d' s5 ⟨z2, H5, I5, r5, k2, e2, q5⟩ => ?_))
  subst e2
  cases r5
  exact wpAny_truthy_bool ⟨H5, I5, q5⟩
def Lh (K : Fg) (x : V) (H : Hp) (k : Bool) : Prop :=
 match x with
 | .non => k = false
 | .bl b => k = b
 | .int i => k = (i != 0)
 | .str y => y.length <= sizeLine /\ k = ((y.length : Int) != 0)
 | .byt y => y.size <= sizeLine /\ k = ((y.size : Int) != 0)
 | .ref p => (∃ xs, aZ K H p xs /\ k = !xs.isEmpty) ∨ (∃ xs, bq K H p xs /\ k = !xs.isEmpty) ∨ ∃ kvs, H p = some (.dK kvs) /\ k = !kvs.isEmpty
 | _ => False
theorem vR {κ : Type} {kvs : List (κ × V)} {vs : List (κ × Value)} (r : KV kvs vs) : (!vs.isEmpty) = !kvs.isEmpty := by
 cases r <;> rfl
theorem mE {xs : List V} {its : List Value} (r : aM xs its) : (!its.toArray.isEmpty) = !xs.isEmpty := by
 cases r <;> simp
theorem kA : (sizeLine : Nat) < 2 ^ 63 := by rw [sizeLine_eq]; decide
theorem GJ : Nq X (λ x H Q => ∃ k, Lh X.K x H k /\ Q k H) := by
 intro pins s Z H x v Q I rx h
 obtain ⟨k, e, q⟩ := h
 have hl := kA
 have hs : sizeLine = 16777216 := sizeLine_eq
 cases x with
 | non =>
  cases rx
  have e' : k = false := e
  subst e'
  exact truthy_none ⟨H, I, q⟩
 | bl b =>
  cases rx
  have e' : k = b := e
  subst e'
  exact wpAny_truthy_bool ⟨H, I, q⟩
 | int i =>
  obtain ⟨t, rfl⟩ := rx
  have e' : k = (i != 0) := e
  subst e'
  exact PySem.P.truthy_int ⟨H, I, q⟩
 | str y =>
  obtain ⟨t, rfl⟩ := rx
  obtain ⟨hy, e'⟩ : y.length <= sizeLine /\ k = ((y.length : Int) != 0) := e
  subst e'
  exact PySem.P.truthy_str (by lia) ⟨H, I.tok _, q⟩
 | byt y =>
  obtain ⟨t, rfl⟩ := rx
  obtain ⟨hy, e'⟩ : y.size <= sizeLine /\ k = ((y.size : Int) != 0) := e
  subst e'
  exact PySem.W.truthy_bytes (by lia) ⟨H, I.tok _, q⟩
 | ref p =>
  cases rx
  have e' : (∃ xs, aZ X.K H p xs /\ k = !xs.isEmpty) ∨ (∃ xs, bq X.K H p xs /\ k = !xs.isEmpty) ∨ ∃ kvs, H p = some (.dK kvs) /\ k = !kvs.isEmpty := e
  rcases e' with ⟨xs, hx, e'⟩ | ⟨xs, hx, e'⟩ | ⟨kvs, hx, e'⟩
  ·subst e'
   obtain ⟨its, r, pl, hz⟩ := I.list hx
   have hlen := r.length
   exact wpAny_truthy_list pl.isList (by simp only [ja]; lia) ⟨H, I.tok _, by rw [mE r]; exact q⟩
  ·subst e'
   obtain ⟨its, r, pl, hz⟩ := I.tuple hx
   have hlen := r.length
   exact truthy_tuple pl (by simp only [ja]; lia) ⟨H, I.tok _, by rw [mE r]; exact q⟩
  ·subst e'
   obtain ⟨hz, hS, vs, r, m⟩ : kvs.length <= sizeLine /\ (p == sysModules) = false /\ ∃ vs, KV kvs vs /\ s.heap.DictOf (jC X.prog X.w) p vs := I.hok p _ hx
   have hlen : kvs.length = vs.length := Paired.length r
   exact wpAny_truthy_dict hS m (by lia) ⟨H, I.tok _, by rw [vR r]; exact q⟩
 | _ => exact (show False from e).elim
theorem Ao (ha : PE X a ta) (he : ∀ whole, isTrue a X.env whole = (do let v <- whole; standAt a.pos; holding [v] (truthy v))) :
  PT X a (λ Z H Q => ta Z H λ x H' => ∃ k, Lh X.K x H' k /\ Q k H') := by
 intro pins s Z H Q I h
 exact isTrue_plain (cj (ha pins s Z H _ I h) λ v s1 ⟨x, H1, I1, r1, q1⟩ => GJ pins s1 Z H1 x v Q I1 r1 q1) (he _)
theorem uZ : gd X (binaryOp .Add) (λ x y H Q => ∃ i j, x = .str i /\ y = .str j /\ i.length + j.length <= sizeLine /\ Q (.str (i ++ j)) H) := by
 intro pins s Z H x y v u Q I rx ry h
 obtain ⟨i, j, rfl, rfl, hz, q⟩ := h
 obtain ⟨t, rfl⟩ := rx
 obtain ⟨t', rfl⟩ := ry
 exact add_str (λ t' tk => ⟨.str (i ++ j), H, I.tok _, ⟨_, rfl⟩, q⟩) hz
theorem pG {x : V} {us : List Value} (r : aM [x] us) : ∃ u, us = [u] /\ bh x u := by
 cases r with
 | cons r1 r2 => cases r2; exact ⟨_, rfl, r1⟩
theorem rW {x y : V} {us : List Value} (r : aM [x, y] us) : ∃ u w', us = [u, w'] /\ bh x u /\ bh y w' := by
 cases r with
 | cons r1 r2 =>
  cases r2 with
  | cons r3 r4 => cases r4; exact ⟨_, _, rfl, r1, r3⟩
theorem fg : cz X (.builtin "abs") (λ xs H Q => ∃ i, xs = [.int i] /\ Q (.int (if i < 0 then -i else i)) H) := by
 intro pins s Z H xs us Q I r h
 obtain ⟨i, rfl, q⟩ := h
 obtain ⟨u, rfl, t, rfl⟩ := pG r
 exact call_abs_int λ u tk => ⟨.int (if i < 0 then -i else i), H, I.tok _, ⟨_, rfl⟩, q⟩
theorem pL (hc : X.calm = true) : cz X (.builtin "max") (λ xs H Q => ∃ i j, xs = [.int i, .int j] /\ Q (.int (if j > i then j else i)) H) := by
 intro pins s Z H xs us Q I r h
 obtain ⟨i, j, rfl, q⟩ := h
 obtain ⟨u, w', rfl, ⟨t, rfl⟩, ⟨t', rfl⟩⟩ := rW r
 refine max_two_ints (I.ok.hd hc) λ h' tk k => ⟨_, H, I.kept k, ?_, q⟩
 by_cases hj : j > i
 ·rw [i9 hj, i9 hj]; exact ⟨_, rfl⟩
 ·rw [gS hj, gS hj]; exact ⟨_, rfl⟩
theorem oY (hc : X.calm = true) : cz X (.builtin "min") (λ xs H Q => ∃ i j, xs = [.int i, .int j] /\ Q (.int (if j < i then j else i)) H) := by
 intro pins s Z H xs us Q I r h
 obtain ⟨i, j, rfl, q⟩ := h
 obtain ⟨u, w', rfl, ⟨t, rfl⟩, ⟨t', rfl⟩⟩ := rW r
 refine min_two_ints (I.ok.hd hc) λ h' tk k => ⟨_, H, I.kept k, ?_, q⟩
 by_cases hj : j < i
 ·rw [i9 hj, i9 hj]; exact ⟨_, rfl⟩
 ·rw [gS hj, gS hj]; exact ⟨_, rfl⟩
theorem pN : cz X (.type "int") (λ xs H Q => (∃ i, xs = [.int i] /\ Q (.int i) H) ∨ ∃ k, xs = [.bl k] /\ Q (.int (if k then 1 else 0)) H) := by
 intro pins s Z H xs us Q I r h
 rcases h with ⟨i, rfl, q⟩ | ⟨k, rfl, q⟩
 ·obtain ⟨u, rfl, t, rfl⟩ := pG r
  exact call_int_int ⟨.int i, H, I, ⟨_, rfl⟩, q⟩
 ·obtain ⟨u, rfl, r1⟩ := pG r
  cases r1
  exact call_int_bool ⟨.int (if k then 1 else 0), H, I.tok _, ⟨_, rfl⟩, q⟩
end
structure dr (k : Nat) (A : Around) : Prop where
 hd : A.handled = none
 dp : A.depth + 3 * k + 5 < recursionLimit
 un : A.units + 16 * k + 200 < cLine
variable {k : Nat} {A : Around}
theorem dr.mono {j : Nat} (r : dr k A) (h : j <= k) : dr j A := ⟨r.hd, by have := r.dp; lia, by have := r.un; lia⟩
theorem dr.deeper (r : dr (k + 1) A) (env : Env) : dr k (A.deeper env) :=
 ⟨r.hd, by have := r.dp; show A.depth + 1 + 3 * k + 5 < _; lia, by have := r.un; show A.units + 3 + 16 * k + 200 < _; lia⟩
theorem dr.depth (r : dr k A) : A.depth < recursionLimit := by have := r.dp; lia
theorem dr.units0 (r : dr k A) : A.units < cLine := by have := r.un; lia
def tNil : TA := λ _ H Q => Q [] H
def bW (ta : TE) (tr : TA) : TA := λ Z H Q => ta Z H λ x H1 => tr Z H1 λ xs H2 => Q (x :: xs) H2
section
variable {X : Cx} {e : Expr} {es : List Expr} {te : TE} {t : TA} {pos : Pos}
theorem aA : PA X [] tNil := λ _ _ _ _ H Q I h => Calls.spliced_nil ⟨[], H, I, .nil, h⟩
theorem af (ha : PE X e te) (hr : PA X es t) (hs : starEach (e :: es) X.env = (false, eval e X.env) :: starEach es X.env := by rfl) : PA X (e :: es) (bW te t) := by
 intro pos pins s Z H Q I h
 rw [hs]
 show wpAny _ _ (spliced ((false, eval e X.env) :: backTo pos (starEach es X.env))) _ _ s
 refine Calls.spliced_cons (cj (ha pins s Z H _ I h) λ u s1 ⟨x, H1, I1, r1, q1⟩ => ?_)
 exact cj (hr pos pins s1 Z H1 _ I1 q1) λ us s2 ⟨xs, H2, I2, r2, q2⟩ => ⟨x :: xs, H2, I2, .cons r1 r2, q2⟩
def AN (t : TA) : TE := λ Z H Q => t Z H λ xs H1 => xs.length <= sizeLine /\ ∀ p, H1 p = none -> Q (.ref p) (upd H1 p (.tup xs))
def CU (t : TA) : TE := λ Z H Q => t Z H λ xs H1 => xs.length <= sizeLine /\ ∀ p, H1 p = none -> Q (.ref p) (upd H1 p (.lst xs))
theorem aL {x1} (h : PA X es t) : PE X (.Tuple es x1 pos) (AN t) := by
 intro pins s Z H Q I hq
 refine wpAny_Tuple_spliced (cj (h pos pins s Z H _ I hq) λ us s1 ⟨xs, H1, I1, r, z, q⟩ => ⟨by rw [<- r.length]; exact z, ?_⟩)
 have hf : H1 s1.heap.objs.size = none := I1.hok.fresh (jo _)
 refine ⟨.ref s1.heap.objs.size, upd H1 s1.heap.objs.size (.tup xs), I1.laid (t' := s1.toks) (λ b u e => e9 _ e) (jo _) ?_, rfl, q _ hf⟩
 exact ⟨z, us, r, ⟨_, m8 _ rfl, rfl, _, rfl⟩⟩
theorem aT (h : PA X es t) : PE X (.List es pos) (CU t) := by
 intro pins s Z H Q I hq
 refine wpAny_List_spliced (cj (h pos pins s Z H _ I hq) λ us s1 ⟨xs, H1, I1, r, z, q⟩ => ⟨by rw [<- r.length]; exact z, ?_⟩)
 have hf : H1 s1.heap.objs.size = none := I1.hok.fresh (jo _)
 refine ⟨.ref s1.heap.objs.size, upd H1 s1.heap.objs.size (.lst xs), I1.laid (t' := s1.toks) (λ b u e => e9 _ e) (jo _) ?_, rfl, q _ hf⟩
 exact ⟨z, us, 0, r, m8 _ rfl⟩
end
noncomputable abbrev Sp := List V -> Hp -> VK -> XK -> Prop
noncomputable abbrev CXT := List Env -> Hp -> Shared -> XK -> Value -> Shared -> Prop
structure vb (P : Program) (w : World) (K : Fg) (mg : Str -> Option Value) (base : Heap) (A : Around) (outer : List Env) (s : Shared) (H : Hp) : Prop where
 frames : A.frames = some outer
 mod : Mod K mg base
 bs : ∀ b o, base.get? b = some o -> s.heap.get? b = some o /\ H b = none
 bsz : base.objs.size <= s.heap.objs.size
 funs : s.heap.FunFrames base outer
 frf : ∀ b ∈ jV outer, H b = none
 hok : lU P w H s.heap
 bare : AllBare s.gens
def CE (outer : List Env) (P : Program) (w : World) (H : Hp) (s : Shared) (Q : VK) (u : Value) (s' : Shared) : Prop :=
 ∃ v H', s'.os = s.os /\ AllBare s'.gens /\ Un (jV outer) [] H H' s.heap s'.heap /\ lU P w H' s'.heap /\ bh v u /\ Q v H'
def CR (CX : CXT) (outer : List Env) (P : Program) (w : World) (H : Hp) (s : Shared) (Q : VK) (E : XK) (r : Result) (s' : Shared) : Prop :=
 match r with
 | .ok (.ret u) => CE outer P w H s Q u s'
 | .ok _ => False
 | .error e => CX outer H s E e s'
structure dL (P : Program) (w : World) (K : Fg) (mg : Str -> Option Value) (base : Heap) (CX : CXT) (k : Nat) (f : Addr) (fd : FuncData) (ps : List Str) (sp : Sp) : Prop where
 len : ∀ vs H Q E, sp vs H Q E -> vs.length = ps.length
 run : ∀ (A : Around) (outer : List Env) (s : Shared) (H : Hp) (args : Args) (us : List Value) (vs : List V) (Q : VK) (E : XK), dr k A -> vb P w K mg base A outer s H -> BindsTo s fd args (ps.zip us) -> aM vs us -> sp vs H Q E ->
  codeAny (model P w) A (.call (.ref f) args) (CR CX outer P w H s Q E) s
variable {P : Program} {w : World} {K : Fg} {mg : Str -> Option Value} {base : Heap} {CX : CXT} {f : Addr} {ps : List Str}
theorem dL.imp {fd : FuncData} {sp sp' : Sp} (F : dL P w K mg base CX k f fd ps sp)
  (h : ∀ vs H Q E, sp' vs H Q E -> sp vs H Q E) : dL P w K mg base CX k f fd ps sp' :=
 ⟨λ vs H Q E q => F.len vs H Q E (h _ _ _ _ q), λ A outer s H args us vs Q E hr he hb hv hs => F.run A outer s H args us vs Q E hr he hb hv (h _ _ _ _ hs)⟩
section
variable {X : Cx} {pins : Pn} {Z : St} {H : Hp} {s s' : Shared}
theorem Inv.env0 (I : Inv X pins Z H s) : vb X.prog X.w X.K X.mg X.base X.A X.stack s H :=
 ⟨I.ok.frames, I.ok.mod, I.bs, n9 I.ok.bsz I.sz, I.stack, I.stkFree, I.hok, I.bare⟩
theorem Inv.after {Q : VK} {u : Value} (I : Inv X pins Z H s) (h : CE X.stack X.prog X.w H s Q u s') : EP X pins Z Q u s' := by
 obtain ⟨v, H', os, bare, un, hok, r, q⟩ := h
 obtain ⟨hh, g, d, t, os'⟩ := s'
 obtain rfl : os' = s.os := os
 exact ⟨v, H', I.call (h' := hh) (g' := g) (d' := d) (t' := t) (ch := []) un hok bare (λ b z => absurd z (by simp)), r, q⟩
end
def eD (sp : Sp) (dvs : List V) (E : XK) (t : TA) : TE := λ Z H Q => t Z H λ vs H1 => sp (vs ++ dvs) H1 Q E
def gM (K : Fg) (fd : FuncData) (ps : List Str) (ds : List Value) : Prop :=
 ∀ (s : Shared) (us : List Value), K.In s.heap -> (us ++ ds).length = ps.length -> BindsTo s fd ⟨us, []⟩ (ps.zip (us ++ ds))
theorem gM.all {fd : FuncData} (h : ∀ us : List Value, us.length = ps.length -> bindArgs fd ⟨us, []⟩ = pure (ps.zip us)) : gM K fd ps [] := λ s us _ hl => by
 rw [vM] at hl ⊢
 exact .of_eq (h us hl)
def qM (CX : CXT) (X : Cx) (E : XK) : Prop := ∀ (pins : Pn) (Z : St) (H : Hp) (s : Shared) (e : Value) (s' : Shared), Inv X pins Z H s -> CX X.stack H s E e s' -> X.xe e s'
section
variable {X : Cx} {CX : CXT} {k : Nat} {f C : Addr} {fd : FuncData} {ps : List Str} {sp : Sp} {dvs : List V} {ds : List Value} {E : XK} {x m : Str} {p pos apos : Pos} {e o : Expr} {es : List Expr} {ta : TE} {t : TA}
theorem IZ {pins : Pn} {Z : St} {H : Hp} {s : Shared} {Q : VK} {us : List Value} {vs : List V} (F : dL X.prog X.w X.K X.mg X.base CX k f fd ps sp) (hr : dr k X.A) (hb : gM X.K fd ps ds) (hd : aM dvs ds) (hx : qM CX X E)
  (I : Inv X pins Z H s) (r : aM vs us) (h : sp (vs ++ dvs) H Q E) : wpAny (model X.prog X.w) X.A (call (.ref f) us) (EP X pins Z Q) X.xe s := by
 have r2 : aM (vs ++ dvs) (us ++ ds) := r.append hd
 have hl : (us ++ ds).length = ps.length := by rw [<- r2.length]; exact F.len _ _ _ _ h
 refine wpAny_call (codeAny_mono (F.run X.A X.stack s H ⟨us, []⟩ (us ++ ds) (vs ++ dvs) Q E hr I.env0 (hb s us I.kIn hl) r2 h) λ r s' hq => ?_)
 cases r with
 | error e => exact hx pins Z H s e s' I hq
 | ok fl =>
  cases fl with
  | ret u => exact I.after hq
  | next => exact False.elim hq
  | brk => exact False.elim hq
  | cont => exact False.elim hq
theorem bX (F : dL X.prog X.w X.K X.mg X.base CX k f fd ps sp) (hr : dr k X.A) (hg : Gl X x) (hm : X.mg x = some (.ref f)) (hk : PySem.W.keepIn X.K (.ref f) = true) (hb : gM X.K fd ps ds) (hd : aM dvs ds) (hx : qM CX X E)
  (ha : PA X (e :: es) t) (hdb : (x == ("__debug__" : Str)) = false := by decide) (he : starEach (e :: es) X.env = (false, eval e X.env) :: starEach es X.env := by rfl) (hpl : (backTo pos (starEach es X.env)).any (·.1) = false := by rfl) :
  PE X (.Call (.Name x p) (e :: es) [] pos) (eD sp dvs E t) := by
 intro pins s Z H Q I h
 refine wpAny_Call_Name_kw (xB I hg hm ?_ hdb)
 refine PySem.W.callWith_K (h₀ := X.base) I.ok.mod.kin hk (cj (ha pos pins s Z H _ I h) λ us s1 ⟨vs, H1, I1, r, q⟩ => ⟨I1.kIn, ?_⟩) he hpl
 exact IZ F hr hb hd hx I1 r q
end
structure ao (N P : List Str) (sc : Scope) : Prop where
 kind : sc.kind = .function
 co : sc.isCoroutine = false
 gen : sc.isGenerator = false
 nd : N.Nodup
 pre : N.take P.length = P
 par : ∀ x ∈ P, sc.names.lookup x = some .local ∨ sc.names.lookup x = some .cell
 nofree : ∀ y ∈ sc.names, y.2 ≠ .free
variable {x : Str}
theorem pM {kindOf : Str -> Option NameKind} : ∀ {binds : List (Str × Value)} {m : Str -> Option Value}, (∀ v, (x, v) ∉ binds) -> bindL kindOf binds m x = m x
 | [], _, _ => rfl
 | (n, v) :: r, m, h => by
  unfold bindL
  rw [pM λ w hw => h w (n8 _ hw)]
  split
  ·have : x ≠ n := by rintro rfl; exact h v kv
   simp [this]
  ·rfl
theorem pW {kindOf : Str -> Option NameKind} : ∀ {binds : List (Str × Value)} {m : Str -> Option Value}, (∀ v, (x, v) ∉ binds) -> bindC kindOf binds m x = m x
 | [], _, _ => rfl
 | (n, v) :: r, m, h => by
  unfold bindC
  rw [pW λ w hw => h w (n8 _ hw)]
  split
  ·rfl
  ·have : x ≠ n := by rintro rfl; exact h v kv
   simp [this]
theorem pz {kindOf : Str -> Option NameKind} {x : Str} {v : Value} : ∀ {P : List Str} {vs : List Value} {i : Nat} {m : Str -> Option Value}, P.Nodup -> P[i]? = some x -> vs[i]? = some v -> kindOf x = some .local ->
  bindL kindOf (P.zip vs) m x = some v
 | [], _, _, _, _, h, _, _ => by simp at h
 | _ :: _, [], _, _, _, _, h, _ => by simp at h
 | p :: P, w :: vs, 0, m, nd, h1, h2, hk => by
  simp at h1 h2; subst h1; subst h2
  show bindL kindOf ((p, w) :: P.zip vs) m p = _
  unfold bindL
  rw [pM λ v hv => (sG.mp nd).1 (List.of_mem_zip hv).1, i9 hk]
  simp
 | p :: P, w :: vs, i + 1, m, nd, h1, h2, hk => by
  show bindL kindOf ((p, w) :: P.zip vs) m x = _
  unfold bindL
  exact pz (i := i) (sG.mp nd).2 (by simpa using h1) (by simpa using h2) hk
theorem pU {kindOf : Str -> Option NameKind} {x : Str} {v : Value} : ∀ {P : List Str} {vs : List Value} {i : Nat} {m : Str -> Option Value}, P.Nodup -> P[i]? = some x -> vs[i]? = some v -> kindOf x ≠ some .local ->
  bindC kindOf (P.zip vs) m x = some v
 | [], _, _, _, _, h, _, _ => by simp at h
 | _ :: _, [], _, _, _, _, h, _ => by simp at h
 | p :: P, w :: vs, 0, m, nd, h1, h2, hk => by
  simp at h1 h2; subst h1; subst h2
  show bindC kindOf ((p, w) :: P.zip vs) m p = _
  unfold bindC
  rw [pW λ v hv => (sG.mp nd).1 (List.of_mem_zip hv).1, gS hk]
  simp
 | p :: P, w :: vs, i + 1, m, nd, h1, h2, hk => by
  show bindC kindOf ((p, w) :: P.zip vs) m x = _
  unfold bindC
  exact pU (i := i) (sG.mp nd).2 (by simpa using h1) (by simpa using h2) hk
def cV (N : List Str) (vs : List V) : St := vs.map some ++ List.replicate (N.length - vs.length) none
noncomputable def ee (CX : CXT) (P : Program) (w : World) (K : Fg) (mg : Str -> Option Value) (base : Heap) (N : List Str) (qual : Str) (scope : Scope) (f : Addr) (cd : Value) (A : Around) (outer : List Env) (s : Shared) (H : Hp) (E : XK) : Cx where
 prog := P
 w := w
 K := K
 mg := mg
 base := base
 A := A.deeper (envOfC qual scope s.heap.objs.size f cd)
 N := N
 s₀ := s
 H₀ := H
 env := envOfC qual scope s.heap.objs.size f cd
 outer := outer
 stack := envOfC qual scope s.heap.objs.size f cd :: outer
 ex := []
 calm := true
 fn := λ _ => true
 pn := []
 xe := λ e s' => wpAny (model P w) (A.deeper (envOfC qual scope s.heap.objs.size f cd)) (leaving (envOfC qual scope s.heap.objs.size f cd) e) (λ _ s'' => CX outer H s E e s'') (λ e' s'' => CX outer H s E e' s'') s'
theorem se {sc : Scope} {n : Nat} (h : sc.names.lookup x = some .cell) : ∃ c, (cellsFrom n sc.names []).lookup x = some c := by
 have q := PySem.W.cellsFrom_some sc.names n [] (.inl h)
 exact Option.isSome_iff_exists.mp q
theorem yx {N : List Str} {qual : Str} {scope : Scope} {cd : Value} {outer : List Env} {s s1 : Shared} {H : Hp} {E : XK} {us : List Value} {vs : List V}
  (S : ao N ps scope) (hd : A.handled = none) (e0 : vb P w K mg base A outer s H) (hl : vs.length = ps.length) (r : aM vs us)
  (x : InCallC s s.heap.objs.size (bindL (envOfC qual scope s.heap.objs.size f cd).kindOf (ps.zip us) λ _ => none) (cellsFrom (s.heap.objs.size + 1) scope.names []) (bindC (envOfC qual scope s.heap.objs.size f cd).kindOf (ps.zip us) λ _ => none) s1) :
  Inv (ee CX P w K mg base N qual scope f cd A outer s H E) [] (cV N vs) H s1 := by
 have hpl : ps.length <= N.length := by have := congrArg List.length S.pre; rw [sV] at this; lia
 obtain ⟨h1, tk, rfl, hk⟩ := x.done
 have noA : ∀ b : Addr, b ∉ (ee CX P w K mg base N qual scope f cd A outer s H E).ex := λ b z => absurd (show b ∈ ([] : List Addr) from z) (by simp)
 refine ⟨⟨e0.mod, S.kind, rfl, rfl, jo _, λ y z c h1 h2 => ?_, λ y hy => ?_, λ y c _ h => ?_, λ _ => hd, Around.frames_deeper e0.frames, .inr ⟨rfl, rfl⟩, λ b z => absurd z (noA b), e0.bs, e0.bsz, λ b _ _ => noA b, λ b z => absurd z (noA b), e0.funs, e0.frf⟩,
  rfl, e0.bare, Un.kept hk, ⟨_, x.toInCall.ns, λ i y v h1 h2 h3 => ?_⟩, λ y c h => ⟨_, x.cell y c h⟩, e0.hok.fresh (jo _), λ y c h => ?_, λ p hp => absurd (show p ∈ ([] : Pn) from hp) (by simp), e0.hok.kept hk, ?_⟩
 ·exact name_of_addr x.apart (PySem.mem_of_lookup h1) (PySem.mem_of_lookup h2)
 ·have hy : scope.names.lookup y = some .cell ∨ scope.names.lookup y = some .free := hy
  rcases hy with hy | hy
  ·exact se hy
  ·exact absurd rfl (S.nofree _ (PySem.mem_of_lookup hy))
 ·exact Nat.le_of_lt (x.above y c (PySem.mem_of_lookup h))
 ·have hi : i < vs.length := by
   unfold cV at h2
   by_cases hi : i < vs.length
   ·exact hi
   ·rw [uL (by simpa using hi)] at h2
    rw [List.getElem?_replicate] at h2
    split at h2 <;> cases h2
  have ha : vs[i]? = some v := by
   unfold cV at h2
   rw [vo (by simpa using hi), jb] at h2
   cases e : vs[i]? with
   | none => rw [e] at h2; cases h2
   | some a => rw [e] at h2; cases h2; rfl
  obtain ⟨u, hu, rv⟩ := r.get ha
  have hp : ps[i]? = some y := by
   rw [<- S.pre, List.getElem?_take_of_lt (by lia)]; exact h1
  have ndP : ps.Nodup := by rw [<- S.pre]; exact S.nd.sublist (List.take_sublist _ _)
  refine ⟨u, rv, ?_⟩
  rcases S.par y (j4 hp) with k | k
  ·exact .inl ⟨k, pz ndP hp hu k⟩
  ·obtain ⟨c, e⟩ := se (n := s.heap.objs.size + 1) k
   refine .inr ⟨.inl k, c, e, ?_⟩
   have q := x.cell y c e
   rw [pU ndP hp hu (by show scope.names.lookup y ≠ _; rw [k]; decide)] at q
   exact q
 ·exact e0.hok.fresh (Nat.le_of_lt (x.above y c (PySem.mem_of_lookup h)))
 ·unfold cV
  show _ = N.length
  rw [nh, cI, List.length_replicate]
  lia
theorem ES {name qual : Str} {params : Arguments} {body : List Stmt} {scope : Scope} {dV kV doc pm cdv ct oc : Value} {an od : Option Addr}
  {osl : Array (Option Value)} {N ps : List Str} {sp : Sp} (lk : K.lookup f = some ⟨oc, od, .func (PySem.W.fnOf name qual params body scope dV kV doc pm an cdv ct), osl⟩) (hcd : PySem.W.codeIn K cdv qual = true) (S : ao N ps scope)
  (len : ∀ vs H Q E, sp vs H Q E -> vs.length = ps.length)
  (hbody : ∀ (A : Around) (outer : List Env) (s : Shared) (H : Hp) (vs : List V) (Q : VK) (E : XK), dr k (A.deeper (envOfC qual scope s.heap.objs.size f cdv)) -> sp vs H Q E ->
   ∃ t, xx (ee CX P w K mg base N qual scope f cdv A outer s H E) body t /\ t { nx := λ _ H' => Q .non H', rt := Q } (cV N vs) H) :
  dL P w K mg base CX (k + 1) f (PySem.W.fnOf name qual params body scope dV kV doc pm an cdv ct) ps sp := by
 refine ⟨len, λ A outer s H args us vs Q E hr e0 hb r hsp => ?_⟩
 have hl := len _ _ _ _ hsp
 have KX : K.In s.heap := e0.mod.kin.keeps λ b o e => (e0.bs b o e).1
 have lim : s.heap.NoLimit := e0.mod.nolimit.keeps λ b o e => (e0.bs b o e).1
 have hkind : ∀ y ∈ ps.zip us, scope.names.lookup y.1 = some .local ∨ (scope.names.lookup y.1 = some .cell /\ ((cellsFrom (s.heap.objs.size + 1) scope.names []).lookup y.1).isSome = true) := λ ⟨n, v⟩ hy => by
  rcases S.par n (List.of_mem_zip hy).1 with q | q
  ·exact .inl q
  ·exact .inr ⟨q, PySem.W.cellsFrom_some _ _ _ (.inl q)⟩
 refine codeAny_call_function hr.depth (KX _ _ lk) rfl S.co S.gen rfl (PySem.W.codeRec_of KX hcd) (hb _ _ _ _ ?_)
 refine wpAny_newFunctionEnv_cells S.kind hkind λ env he s1 x => ?_
 subst he
 refine ⟨lim.keeps x.toInCall.keep, codeAny_func ?_⟩
 obtain ⟨t, ht, hq⟩ := hbody A outer s H vs Q E (hr.deeper _) hsp
 have I : Inv (ee CX P w K mg base N qual scope f cdv A outer s H E) [] (cV N vs) H s1 := yx S hr.hd e0 hl r x
 refine ur (ht [] s1 (cV N vs) H _ I hq) (λ fl s' hs => ?_) λ e s' hs => hs
 have fin : ∀ {σ' : St} {H' : Hp} {v : V} {u : Value}, Inv (ee CX P w K mg base N qual scope f cdv A outer s H E) [] σ' H' s' -> bh v u -> Q v H' -> CE outer P w H s Q u s' :=
  λ {σ' H' v u} J rv q => ⟨v, H', J.os, J.bare, J.base, J.hok, rv, q⟩
 cases fl with
 | ret u =>
  obtain ⟨v, σ', H', J, rv, q⟩ := hs
  exact fin J rv q
 | next =>
  obtain ⟨σ', H', J, q⟩ := hs
  exact fin (v := V.non) (u := Value.none) J rfl q
 | brk =>
  obtain ⟨_, _, _, q⟩ := hs
  exact False.elim q
 | cont =>
  obtain ⟨_, _, _, q⟩ := hs
  exact False.elim q
section
variable {X : Cx} {x : Str} {p pos : Pos} {e : Expr} {es : List Expr} {t : TA} {id T : String} {r : List V -> Hp -> VK -> Prop}
def Ic (r : List V -> Hp -> VK -> Prop) (t : TA) : TE := λ Z H Q => t Z H λ vs H1 => r vs H1 Q
theorem aN (hc : cz X (.builtin id) r) (hg : Gl X x) (hm : X.mg x = none) (hv : bootBuiltins x = some (.builtin id)) (ha : PA X (e :: es) t) (hn : x ≠ "__name__" := by decide) (hdb : (x == ("__debug__" : Str)) = false := by decide)
  (he : starEach (e :: es) X.env = (false, eval e X.env) :: starEach es X.env := by rfl) (hpl : (backTo pos (starEach es X.env)).any (·.1) = false := by rfl) : PE X (.Call (.Name x p) (e :: es) [] pos) (Ic r t) := by
 intro pins s Z H Q I h
 refine wpAny_Call_Name_kw (oy I hg hm hv ?_ hn hdb)
 exact PyProof.Rows.callWith_builtin1 (cj (ha pos pins s Z H _ I h) λ us s1 ⟨vs, H1, I1, r1, q1⟩ => hc pins s1 Z H1 vs us Q I1 r1 q1) he hpl
theorem gZ (hc : cz X (.type T) r) (hg : Gl X x) (hm : X.mg x = none) (hv : bootBuiltins x = some (.type T)) (ha : PA X (e :: es) t) (hn : x ≠ "__name__" := by decide) (hdb : (x == ("__debug__" : Str)) = false := by decide)
  (he : starEach (e :: es) X.env = (false, eval e X.env) :: starEach es X.env := by rfl) (hpl : (backTo pos (starEach es X.env)).any (·.1) = false := by rfl) : PE X (.Call (.Name x p) (e :: es) [] pos) (Ic r t) := by
 intro pins s Z H Q I h
 refine wpAny_Call_Name_kw (oy I hg hm hv ?_ hn hdb)
 exact PyProof.Rows.callWith_type1 (cj (ha pos pins s Z H _ I h) λ us s1 ⟨vs, H1, I1, r1, q1⟩ => hc pins s1 Z H1 vs us Q I1 r1 q1) he hpl
end
end L2
namespace HT
open PySem PyProof.Rows
section
variable {prog : Program} {w : World} {A : Around} {E : Value -> Shared -> Prop} {s : Shared}
theorem cat_tup {t b : Addr} {vs ws : List Value} {Q : Value -> Shared -> Prop} (ht : IsTup s.heap t vs.toArray) (hb : IsTup s.heap b ws.toArray) (hv : vs ≠ [])
  (h1 : ws = [] -> Q (.ref t) s) (h2 : ws ≠ [] -> Q (.ref s.heap.objs.size) { s with heap := s.heap.push { cls := .type "tuple", data := .seq (vs ++ ws).toArray } })
  (hsz : vs.length + ws.length <= sizeLine) : wpAny (model prog w) A (binaryOp .Add (.ref t) (.ref b)) Q E s := by
 obtain ⟨⟨cls, dd, data, sl⟩, ho, hc, n, hd⟩ := id ht
 obtain ⟨⟨cls2, dd2, data2, sl2⟩, ho2, hc2, n2, hd2⟩ := id hb
 simp only at hc hd hc2 hd2
 subst hc hd hc2 hd2
 have e : vs.toArray ++ ws.toArray = (vs ++ ws).toArray := by simp
 by_cases hw : ws = []
 ·exact concat_meets ⟨_, ho, rfl⟩ ⟨_, ho2, rfl⟩ noFill_tuple_add seq_tuple_add PySem.F.slot_tuple_add PySem.F.entry_tuple_add (PySem.F.args_tuple_add_2 _ _)
   (tuple_addW1 t b vs.toArray ws.toArray n n2 dd dd2 sl sl2 (by simpa using hv) (by simp [hw])) ⟨ho, ho2, h1 hw⟩
 ·refine concat_meets ⟨_, ho, rfl⟩ ⟨_, ho2, rfl⟩ noFill_tuple_add seq_tuple_add PySem.F.slot_tuple_add PySem.F.entry_tuple_add (PySem.F.args_tuple_add_2 _ _)
   (tuple_addW2 t b vs.toArray ws.toArray n n2 dd dd2 sl sl2 (by simpa using hv) (by simpa using hw) (by rw [ja, ja]; exact hsz)) ⟨ho, ho2, ?_⟩
  rw [e]
  exact h2 hw
def sIx (n d : Nat) : Option Int -> Nat
 | none => d
 | some v => if v < 0 then (v + (n : Int)).toNat else min v.toNat n
theorem sIx_nat (n d k : Nat) : sIx n d (some (k : Int)) = min k n := by
 show (if (k : Int) < 0 then ((k : Int) + (n : Int)).toNat else min (k : Int).toNat n) = min k n
 rw [gS (by lia), Int.toNat_natCast]
theorem sIx_le (n d : Nat) (hd : d <= n) (o : Option Int) : sIx n d o <= n := by
 cases o with
 | none => exact hd
 | some v =>
  show (if v < 0 then (v + (n : Int)).toNat else min v.toNat n) <= n
  by_cases hv : v < 0
  ·rw [i9 hv]; lia
  ·rw [gS hv]; exact Nat.min_le_right _ _
theorem clip_eq (v : Int) (n d : Nat) : (if v < 0 then max (v + (n : Int)) 0 else min v (n : Int)) = ((sIx n d (some v) : Nat) : Int) := by
 show (if v < 0 then max (v + (n : Int)) 0 else min v (n : Int)) = (((if v < 0 then (v + (n : Int)).toNat else min v.toNat n) : Nat) : Int)
 by_cases hv : v < 0
 ·simp only [i9 hv]; lia
 ·simp only [gS hv]; lia
theorem adjust_gen (lo hi : Option Int) (n : Nat) : Builtin.Slice.sliceAdjust lo hi 1 (n : Int) = (((sIx n 0 lo : Nat) : Int), ((sIx n n hi : Nat) : Int)) := by
 have h1 : ¬ ((1 : Int) < 0) := by lia
 unfold Builtin.Slice.sliceAdjust
 simp only [h1, if_false]
 refine Prod.ext ?_ ?_
 ·cases lo with
  | none => rfl
  | some v => exact clip_eq v n 0
 ·cases hi with
  | none => rfl
  | some v => exact clip_eq v n n
theorem places_gen (i j : Nat) : Builtin.Slice.slicePlaces (i : Int) (j : Int) 1 = j - i := by
 unfold Builtin.Slice.slicePlaces
 have h1 : (1 : Int) > 0 := by lia
 simp only [h1, if_true, Int.ediv_one]
 split <;> lia
theorem slicePart_ {v : Value} {o : Option Int} {Q : Option Int -> Shared -> Prop} (p : IsPart v o) (h : Q o s) : wpAny (model prog w) A (Builtin.Slice.slicePartIndex v) Q E s := by
 cases p with
 | none => exact slicePart_none h
 | int i t => exact slicePart_int h
theorem sliceApplied_gen {sl : Addr} {vl vu : Value} {lo hi : Option Int} {n : Nat} {Q : Int × Int × Nat -> Shared -> Prop} (hs : s.heap.IsSliceOf sl vl vu .none) (pl : IsPart vl lo) (pu : IsPart vu hi)
  (h : Q (((sIx n 0 lo : Nat) : Int), 1, sIx n n hi - sIx n 0 lo) s) : wpAny (model prog w) A (Builtin.Slice.sliceApplied (.ref sl) (pure (n : Int))) Q E s := by
 obtain ⟨os, hos, hcs, hds⟩ := id hs
 unfold Builtin.Slice.sliceApplied Builtin.Slice.sliceFields
 refine cx (cx (vK hos hds (x := vl) rfl (cx (vK hos hds (x := vu) rfl (cx (vK hos hds (x := .none) rfl (fh ?_)))))))
 refine cx (slicePart_none ?_)
 show wpAny _ _ (if ((1 : Int) == 0) = true then _ else _) _ _ s
 rw [gS (by decide)]
 refine cx (slicePart_ pl (cx (slicePart_ pu (cx (fh ?_)))))
 show wpAny _ _ (match Builtin.Slice.sliceAdjust lo hi 1 (n : Int) with | (lo, hi) => pure (lo, (1 : Int), Builtin.Slice.slicePlaces lo hi 1)) _ _ s
 rw [adjust_gen lo hi n]
 show wpAny _ _ (pure (((sIx n 0 lo : Nat) : Int), (1 : Int), Builtin.Slice.slicePlaces ((sIx n 0 lo : Nat) : Int) ((sIx n n hi : Nat) : Int) 1)) _ _ s
 rw [places_gen]
 exact fh h
theorem pick_gen (xs : Array Value) (i k : Nat) : ((List.range k).filterMap λ (m : Nat) => xs[((i : Int) + (m : Int) * 1).toNat]?).toArray = ((xs.toList.drop i).take k).toArray := by
 have e : (λ (m : Nat) => xs[((i : Int) + (m : Int) * 1).toNat]?) = λ m => xs[i + m]? := by
  funext m
  have : ((i : Int) + (m : Int) * 1).toNat = i + m := by lia
  rw [this]
 rw [e]
 have := pick_run xs i k
 rw [List.filterMap_map] at this
 have e2 : ((λ x => xs[x]?) ∘ λ x => i + x) = λ m => xs[i + m]? := rfl
 rw [e2] at this
 rw [this]
theorem getItem_tuple_cut {t sl : Addr} {items : Array Value} {vl vu : Value} {lo hi : Option Int} {Q : Value -> Shared -> Prop} (ht : IsTup s.heap t items) (hs : s.heap.IsSliceOf sl vl vu .none) (pl : IsPart vl lo) (pu : IsPart vu hi)
  (hw : ¬ (sIx items.size 0 lo = 0 /\ sIx items.size items.size hi = items.size))
  (h : Q (.ref s.heap.objs.size) { s with heap := s.heap.push { cls := .type "tuple", data := .seq ((items.toList.drop (sIx items.size 0 lo)).take (sIx items.size items.size hi - sIx items.size 0 lo)).toArray } })
  (hsz : items.size <= sizeLine) : wpAny (model prog w) A (getItem (.ref t) (.ref sl)) Q E s := by
 have htake : sizeOk (.seq ((items.toList.drop (sIx items.size 0 lo)).take (sIx items.size items.size hi - sIx items.size 0 lo)).toArray) := by
  show ((items.toList.drop (sIx items.size 0 lo)).take (sIx items.size items.size hi - sIx items.size 0 lo)).toArray.size <= sizeLine
  rw [ja, sV, List.length_drop, Array.length_toList]
  lia
 have hj : sIx items.size items.size hi <= items.size := sIx_le _ _ (jo _) hi
 obtain ⟨os, hos, hcs, hds⟩ := id hs
 have hTs : s.TypeIs (.ref sl) "slice" := ⟨os, hos, hcs⟩
 unfold getItem
 try with_reducible refine wpAny_holding ?_
 first | refine cx (fh ?_) | skip
 refine cx (wpAny_sequenceKey ht.typeIs (by decide) ?_)
 refine cx (wpAny_callSpecial?_slot (name := Str.ofString "__getitem__") ht.typeIs PyProof.Rows.slot_tuple_getitem
  (wpAny_call_entry PyProof.Rows.slot_tuple_getitem ht.typeIs entry_tuple_getitem ?_ (args_tuple_getitem _ _)))
 show wpAny _ _ (Builtin.Tuple.tupleItemsOf (.ref t) >>= _) _ _ s
 refine cx (tupleItemsOf_ ht ?_)
 refine cx (wpAny_typeOf hTs ?_)
 rw [i9 (by decide)]
 refine cx (sliceApplied_gen hs pl pu ?_)
 have hno : ¬ ((((sIx items.size 0 lo : Nat) : Int) == 0 && (1 : Int) == 1 && (sIx items.size items.size hi - sIx items.size 0 lo) == items.size) = true) := by
  intro q
  rw [uR, uR] at q
  have q1 : ((sIx items.size 0 lo : Nat) : Int) = 0 := eq_of_beq q.1.1
  have q2 : sIx items.size items.size hi - sIx items.size 0 lo = items.size := eq_of_beq q.2
  exact hw ⟨by lia, by lia⟩
 show wpAny _ _ (if (((sIx items.size 0 lo : Nat) : Int) == 0 && (1 : Int) == 1 && (sIx items.size items.size hi - sIx items.size 0 lo) == items.size) = true then _ else _) _ _ s
 rw [gS hno, pick_gen]
 first
  | exact cx (m := Builtin.Tuple.tupleExact _) (uY (fh ⟨_, rfl, fh h⟩) htake)
  | exact cx (m := Builtin.Tuple.tupleExact _) (uY (cx (fh (fh ⟨_, rfl, fh h⟩))) htake)
  | exact cx (cx (m := Builtin.Tuple.tupleExact _) (uY (fh (fh ⟨_, rfl, fh h⟩)) htake))
  | exact cx (cx (m := Builtin.Tuple.tupleExact _) (uY (fh ⟨_, rfl, fh h⟩) htake))
end
end HT
namespace L2
open PySem PySem.Spec PyProof.Rows
noncomputable abbrev TO := St -> Hp -> (Option Int -> Hp -> Prop) -> Prop
def PO (X : Cx) (e : Option Expr) (t : TO) : Prop :=
 ∀ (pins : Pn) (s : Shared) (Z : St) (H : Hp) (Q : Option Int -> Hp -> Prop), Inv X pins Z H s -> t Z H Q ->
  wpAny (model X.prog X.w) X.A (evalPart e X.env) (λ u s' => ∃ o H', Inv X pins Z H' s' /\ IsPart u o /\ Q o H') X.xe s
def Ab (t : TE) : TO := λ Z H Q => t Z H λ x H1 => ∃ i, x = .int i /\ Q (some i) H1
section
variable {X : Cx} {e : Expr} {te : TE} {lo hi : Option Expr} {tl th : TO} {pos p2 : Pos}
theorem bS (h : PE X e te) : PO X (some e) (Ab te) := by
 intro pins s Z H Q I hw
 rw [evalPart_some]
 refine cj (h pins s Z H _ I hw) λ u s1 ⟨x, H1, I1, r1, q1⟩ => ?_
 obtain ⟨i, rfl, q⟩ := q1
 obtain ⟨t, rfl⟩ := r1
 exact ⟨some i, H1, I1, .int i t, q⟩
def ME (X : Cx) (r : V -> Option Int -> Option Int -> Hp -> VK -> Prop) : Prop :=
 ∀ (pins : Pn) (s : Shared) (Z : St) (H : Hp) (x : V) (v vl vu : Value) (lo hi : Option Int) (sl : Addr) (Q : VK), Inv X pins Z H s -> bh x v -> s.heap.IsSliceOf sl vl vu .none -> IsPart vl lo -> IsPart vu hi -> r x lo hi H Q ->
  ∃ T id, typeLookup (.type T) "__getitem__" = pure (some (.builtin id)) /\ s.TypeIs v T /\ wpAny (model X.prog X.w) X.A (getItem v (.ref sl)) (EP X pins Z Q) X.xe s
def Na (r : V -> Option Int -> Option Int -> Hp -> VK -> Prop) (te : TE) (tl th : TO) : TE := λ Z H Q => te Z H λ x H1 => tl Z H1 λ l H2 => th Z H2 λ u H3 => r x l u H3 Q
theorem cS {r : V -> Option Int -> Option Int -> Hp -> VK -> Prop} (hr : ME X r) (he : PE X e te) (hl : PO X lo tl) (hu : PO X hi th) : PE X (.Subscript e (.Slice lo hi none p2) pos) (Na r te tl th) := by
 intro pins s Z H Q I h
 refine Subscript_ (cj (he pins s Z H _ I h) λ v s1 ⟨x, H1, I1, r1, q1⟩ => ?_)
 refine wpAny_Slice (cj (hl pins s1 Z H1 _ I1 q1) λ vl s2 ⟨l, H2, I2, pl, q2⟩ => cj (hu pins s2 Z H2 _ I2 q2) λ vu s3 ⟨u, H3, I3, pu, q3⟩ => ?_)
 rw [evalPart_none]
 refine fh ?_
 have I4 : Inv X pins Z H3 { s3 with heap := s3.heap.push { cls := .type "slice", data := .fields #[vl, vu, .none] } } := I3.kept (t' := s3.toks) λ b ob q => e9 _ q
 obtain ⟨T, id, hT, ht, hg⟩ := hr pins { s3 with heap := s3.heap.push { cls := .type "slice", data := .fields #[vl, vu, .none] } } Z H3 x v vl vu l u s3.heap.objs.size Q I4 r1 (Heap.IsSliceOf.new ..) pl pu q3
 show wpAny (model X.prog X.w) X.A (subscriptTail e (.Slice lo hi none p2) v (.ref s3.heap.objs.size)) (EP X pins Z Q) X.xe { s3 with heap := s3.heap.push { cls := .type "slice", data := .fields #[vl, vu, .none] } }
 exact tail_any (ops := [.ref s3.heap.objs.size, v]) ht hT hg (by with_unfolding_all rfl)
def sh (xs : List V) (lo hi : Option Int) : List V := (xs.drop (HT.sIx xs.length 0 lo)).take (HT.sIx xs.length xs.length hi - HT.sIx xs.length 0 lo)
theorem lG (xs : List V) (lo hi : Option Int) : (sh xs lo hi).length <= xs.length := by
 unfold sh
 rw [sV, List.length_drop]
 lia
def KU (K : Fg) : V -> Option Int -> Option Int -> Hp -> VK -> Prop := λ x lo hi H Q => ∃ a xs, x = .ref a /\ bq K H a xs /\
 ¬ (HT.sIx xs.length 0 lo = 0 /\ HT.sIx xs.length xs.length hi = xs.length) /\ ∀ p, H p = none -> Q (.ref p) (upd H p (.tup (sh xs lo hi)))
theorem GL : ME X (KU X.K) := by
 intro pins s Z H x v vl vu lo hi sl Q I rx hs pl pu h
 obtain ⟨a, xs, rfl, hx, hw, q⟩ := h
 cases rx
 obtain ⟨its, r, ht, hz⟩ := I.tuple hx
 have hlen : its.toArray.size = xs.length := by rw [ja]; exact r.length.symm
 refine ⟨"tuple", _, PyProof.Rows.slot_tuple_getitem.lookup, ht.typeIs, ?_⟩
 refine HT.getItem_tuple_cut ht hs pl pu (by rw [hlen]; exact hw) ?_ (by rw [hlen]; exact hz)
 rw [hlen]
 refine ⟨.ref s.heap.objs.size, _, I.laid (t' := s.toks) (o := .tup (sh xs lo hi)) (λ b ob q => e9 _ q) (jo _) ?_, rfl, q _ (I.hok.fresh (jo _))⟩
 exact ⟨n9 (lG xs lo hi) hz, _, (r.drop (HT.sIx xs.length 0 lo)).take (HT.sIx xs.length xs.length hi - HT.sIx xs.length 0 lo), IsTup.new _ _⟩
def Fj (K : Fg) : R2 := λ x y H Q => ∃ a b xs ys, x = .ref a /\ y = .ref b /\ bq K H a xs /\ bq K H b ys /\ xs ≠ [] /\ xs.length + ys.length <= sizeLine /\
 (ys = [] -> Q (.ref a) H) /\ (ys ≠ [] -> ∀ p, H p = none -> Q (.ref p) (upd H p (.tup (xs ++ ys))))
theorem aM.nil_iff {xs : List V} {us : List Value} (r : aM xs us) : us = [] ↔ xs = [] := by
 cases r with
 | nil => simp
 | cons _ _ => simp
theorem wO : gd X (binaryOp .Add) (Fj X.K) := by
 intro pins s Z H x y v u Q I rx ry h
 obtain ⟨a, b, xs, ys, rfl, rfl, ha, hb, hx, hz, q1, q2⟩ := h
 cases rx
 cases ry
 obtain ⟨its, r1, p1, _⟩ := I.tuple ha
 obtain ⟨its2, r2, p2, _⟩ := I.tuple hb
 refine HT.cat_tup p1 p2 (λ z => hx (r1.nil_iff.mp z)) (λ z => ⟨.ref a, H, I, rfl, q1 (r2.nil_iff.mp z)⟩) (λ z => ?_) (by rw [<- r1.length, <- r2.length]; exact hz)
 refine ⟨.ref s.heap.objs.size, _, I.laid (t' := s.toks) (o := .tup (xs ++ ys)) (λ b ob q => e9 _ q) (jo _) ?_, rfl, q2 (λ w => z (r2.nil_iff.mpr w)) _ (I.hok.fresh (jo _))⟩
 exact ⟨by rw [nh]; exact hz, _, r1.append r2, IsTup.new _ _⟩
end
noncomputable def CA (n : Nat) (i : Int) : Option Nat := if 0 <= i then (if i < n then some i.toNat else none) else if -(n : Int) <= i then some (i + n).toNat else none
noncomputable def eP {α : Type} (xs : List α) (i : Int) : Option α := (CA xs.length i).bind λ j => xs[j]?
theorem Dt {n : Nat} {i : Int} {j : Nat} (h : CA n i = some j) : seqIndex? i n = some j /\ j < n /\ -(n : Int) <= i /\ i < n := by
 unfold CA at h
 by_cases h0 : 0 <= i
 ·rw [i9 h0] at h
  by_cases h1 : i < n
  ·rw [i9 h1] at h
   have e : i.toNat = j := nS h
   exact ⟨by rw [seqIndex_of h0 h1, e], by lia, by lia, h1⟩
  ·rw [gS h1] at h; cases h
 ·rw [gS h0] at h
  by_cases h1 : -(n : Int) <= i
  ·rw [i9 h1] at h
   have e : (i + n).toNat = j := nS h
   exact ⟨by rw [seqIndex_neg (by lia) h1, e], by lia, h1, by lia⟩
  ·rw [gS h1] at h; cases h
variable {α : Type}
theorem qf {xs : List α} {i : Int} {v : α} (h : eP xs i = some v) : ∃ j, seqIndex? i xs.length = some j /\ xs[j]? = some v /\ j < xs.length /\ -(xs.length : Int) <= i /\ i < xs.length := by
 unfold eP at h
 cases e : CA xs.length i with
 | none => rw [e] at h; cases h
 | some j =>
  rw [e] at h
  obtain ⟨h1, h2, h3, h4⟩ := Dt e
  exact ⟨j, h1, h, h2, h3, h4⟩
theorem ce {xs : List α} {j : Nat} {v : α} (h : xs[j]? = some v) : eP xs (j : Int) = some v := by
 have hj : j < xs.length := (j3.mp h).1
 have e : CA xs.length (j : Int) = some j := by
  unfold CA
  rw [i9 (by lia), i9 (by lia)]; simp
 unfold eP; rw [e]; exact h
theorem atI_last (xs : List α) (v : α) : eP (xs ++ [v]) (-1) = some v := by
 have hl : (xs ++ [v]).length = xs.length + 1 := by simp
 have e : CA (xs ++ [v]).length (-1) = some xs.length := by
  unfold CA
  rw [hl, gS (by decide), i9 (by lia)]
  congr 1
  lia
 unfold eP
 rw [e]
 show (xs ++ [v])[xs.length]? = some v
 simp
def DQ (b : Expr) : Prop := ∀ o i, subscripted b false o i = operate [o, i] (getItem o i)
def Lz (X : Cx) (r : R2) : Prop :=
 ∀ (value slice : Expr) (pins : Pn) (s : Shared) (Z : St) (H : Hp) (x y : V) (v u : Value) (Q : VK), Inv X pins Z H s -> bh x v -> bh y u -> r x y H Q ->
  subscripted slice false v u = operate [v, u] (getItem v u) -> wpAny (model X.prog X.w) X.A (subscriptTail value slice v u) (EP X pins Z Q) X.xe s
def MtR (X : Cx) (id : String) (r : V -> List V -> Hp -> VK -> Prop) : Prop :=
 ∀ (pins : Pn) (s : Shared) (Z : St) (H : Hp) (x : V) (xs : List V) (v : Value) (us : List Value) (Q : VK), Inv X pins Z H s -> bh x v -> aM xs us -> r x xs H Q ->
  wpAny (model X.prog X.w) X.A (call (.builtin id) (v :: us)) (EP X pins Z Q) X.xe s
section
variable {X : Cx} {a b : Expr} {ta tb : TE} {pos : Pos}
theorem aV {r : R2} (hr : Lz X r) (ha : PE X a ta) (hb : PE X b tb) (hs : DQ b) : PE X (.Subscript a b pos) (xT r ta tb) := by
 intro pins s Z H Q I h
 exact Subscript_ (Iq ha hb I h λ v u s2 x y H2 I2 rx ry q => hr a b pins s2 Z H2 x y v u Q I2 rx ry q (hs _ _))
def yG (K : Fg) : R2 := λ x y H Q => ∃ p xs i v, x = .ref p /\ y = .int i /\ aZ K H p xs /\ eP xs i = some v /\ Q v H
def mJ (K : Fg) : R2 := λ x y H Q => ∃ p xs i v, x = .ref p /\ y = .int i /\ bq K H p xs /\ eP xs i = some v /\ Q v H
def rIxS : R2 := λ x y H Q => ∃ z i c, x = .str z /\ y = .int i /\ z.length <= sizeLine /\ eP z.cps.toList i = some c /\ Q (.str ⟨#[c]⟩) H
theorem jY : Lz X (yG X.K) := by
 intro value slice pins s Z H x y v u Q I rx ry h hs
 obtain ⟨p, xs, i, z, rfl, rfl, hq, he, q⟩ := h
 cases rx
 obtain ⟨t, rfl⟩ := ry
 obtain ⟨its, r, pl, hz⟩ := I.list hq
 obtain ⟨j, h1, h2, h3, h4, h5⟩ := qf he
 obtain ⟨w, ew, rw'⟩ := r.get h2
 have hl := r.length
 have hn := kA
 have fin : EP X pins Z Q w s := ⟨z, H, I, rw', q⟩
 by_cases h0 : 0 <= i
 ·have hj : i.toNat = j := by
   rw [seqIndex_of h0 h5] at h1
   exact nS h1
  exact item_listR pl.isList h0 (by lia) (by rw [hj]; simpa using ew) fin hs
 ·have hj : (i + (its.toArray.size : Int)).toNat = j := by
   rw [seqIndex_neg (by lia) h4] at h1
   rw [ja, <- hl]
   exact nS h1
  exact subscriptTail_builtinR (x := w) pl.isList.typeIs slot_list_getitem.lookup
   (wpAny_getItem_list_neg (Q := λ r s' => r = w /\ EP X pins Z Q r s') pl.isList (by lia) (by rw [ja] <;> lia) (by lia) (by rw [hj]; simpa using ew) ⟨rfl, fin⟩) hs
theorem ak {a : Expr} {ta : TE} {i : Int} {j p pos} (ha : PE X a ta) : PE X (.Subscript a (.Constant (.int i) j p) pos) (xT (yG X.K) ta (tC (.int i))) := aV jY ha aD (λ _ _ => rfl)
theorem CD : Lz X (mJ X.K) := by
 intro value slice pins s Z H x y v u Q I rx ry h hs
 obtain ⟨p, xs, i, z, rfl, rfl, hq, he, q⟩ := h
 cases rx
 obtain ⟨t, rfl⟩ := ry
 obtain ⟨its, r, pl, hz⟩ := I.tuple hq
 obtain ⟨j, h1, h2, h3, h4, h5⟩ := qf he
 obtain ⟨w, ew, rw'⟩ := r.get h2
 have hl := r.length
 have hn := kA
 have fin : EP X pins Z Q w s := ⟨z, H, I, rw', q⟩
 exact subscriptTail_builtinR (x := w) pl.typeIs slot_tuple_getitem.lookup
  (getItem_tuple (j := j) (Q := λ r s' => r = w /\ EP X pins Z Q r s') pl (by lia) (by lia) (by rw [ja, <- hl]; exact h1) (by simpa using ew) ⟨rfl, fin⟩) hs
theorem aa {a : Expr} {ta : TE} {i : Int} {j p pos} (ha : PE X a ta) : PE X (.Subscript a (.Constant (.int i) j p) pos) (xT (mJ X.K) ta (tC (.int i))) := aV CD ha aD (λ _ _ => rfl)
theorem nH : Lz X rIxS := by
 intro value slice pins s Z H x y v u Q I rx ry h hs
 obtain ⟨z, i, c, rfl, rfl, hz, he, q⟩ := h
 obtain ⟨t, rfl⟩ := rx
 obtain ⟨t', rfl⟩ := ry
 obtain ⟨j, h1, h2, h3, h4, h5⟩ := qf he
 have hl : z.cps.toList.length = z.length := by simp [Str.length]
 rw [hl] at h1 h4 h5
 have hn := kA
 exact tail_any (typeIs_str s z t) slot_str_getitem.lookup (getItem_str (c := c) (by
  have e1 : decide (i < -(2 ^ 63 : Int)) = false := i8 (by lia)
  have e2 : decide (i >= 2 ^ 63) = false := i8 (by lia)
  rw [e1, e2, Bool.or_false]) (by rw [h1]; simpa using h2) ⟨.str ⟨#[c]⟩, H, I.tok _, ⟨_, rfl⟩, q⟩) hs
theorem qO (lo hi : Option Int) (n : Nat) : (sliceBounds lo hi none n).1 = ((HT.sIx n 0 lo : Nat) : Int) /\ (sliceBounds lo hi none n).2.1 = ((HT.sIx n n hi : Nat) : Int) /\ (sliceBounds lo hi none n).2.2 = 1 := by
 refine ⟨?_, ?_, rfl⟩
 ·cases lo with
  | none => simp [sliceBounds, HT.sIx]
  | some i =>
   simp only [sliceBounds, HT.sIx, Option.getD_none, show (1 : Int) > 0 by decide, if_true]
   by_cases h : i < 0
   ·simp only [h, if_true] <;> lia
   ·simp only [h, if_false] <;> lia
 ·cases hi with
  | none => simp [sliceBounds, HT.sIx]
  | some i =>
   simp only [sliceBounds, HT.sIx, Option.getD_none, show (1 : Int) > 0 by decide, if_true]
   by_cases h : i < 0
   ·simp only [h, if_true] <;> lia
   ·simp only [h, if_false] <;> lia
theorem oO (its : List Value) (lo hi : Option Int) : slicePick its.toArray lo hi none = ((its.drop (HT.sIx its.length 0 lo)).take (HT.sIx its.length its.length hi - HT.sIx its.length 0 lo)).toArray := by
 obtain ⟨h1, h2, h3⟩ := qO lo hi its.toArray.size
 unfold slicePick
 rw [h1, h2, h3]
 simp only [sliceRange_one, pick_run, ja] <;> rfl
def Kb (K : Fg) : V -> Option Int -> Option Int -> Hp -> VK -> Prop := λ x lo hi H Q => ∃ a xs, x = .ref a /\ aZ K H a xs /\ ∀ p, H p = none -> Q (.ref p) (upd H p (.lst (sh xs lo hi)))
theorem et : ME X (Kb X.K) := by
 intro pins s Z H x v vl vu lo hi sl Q I rx hs pl pu h
 obtain ⟨a, xs, rfl, hx, q⟩ := h
 cases rx
 obtain ⟨its, r, ht, hz⟩ := I.list hx
 have hlen := r.length
 refine ⟨"list", _, slot_list_getitem.lookup, ht.isList.typeIs, ?_⟩
 refine wpAny_getItem_list_slice ht.isList hs pl pu .none (by simp) ?_ (by rw [ja] <;> lia)
 rw [oO, <- hlen]
 refine ⟨.ref s.heap.objs.size, _, I.laid (t' := s.toks) (o := .lst (sh xs lo hi)) (λ b ob q => e9 _ q) (jo _) ?_, rfl, q _ (I.hok.fresh (jo _))⟩
 exact ⟨n9 (lG xs lo hi) hz, _, 0, (r.drop (HT.sIx xs.length 0 lo)).take (HT.sIx xs.length xs.length hi - HT.sIx xs.length 0 lo), m8 _ rfl⟩
def dv : V -> Bool
 | .non => true
 | .bl _ => true
 | .int _ => true
 | .str _ => true
 | _ => false
noncomputable def ye : V -> V -> Bool
 | .non, .non => true
 | .bl a, .bl b => a == b
 | .bl a, .int b => (if a then 1 else 0) == b
 | .int a, .bl b => a == (if b then 1 else 0)
 | .int a, .int b => a == b
 | .str a, .str b => a == b
 | _, _ => false
variable {s : Shared} {x : V}
theorem GY {A : Around} {y : V} {u v : Value} (ry : bh y u) (rx : bh x v) (fy : dv y = true) (fx : dv x = true) : SeqAt.EqAt A s u v (ye y x) := by
 cases y with
 | non =>
  cases ry
  cases x with
  | non => cases rx; exact SeqAt.EqAt.same _
  | bl b => cases rx; exact SeqAt.EqAt.none_bool b
  | int b => obtain ⟨t, rfl⟩ := rx; exact SeqAt.EqAt.none_int b t
  | str b => obtain ⟨t, rfl⟩ := rx; exact SeqAt.EqAt.none_str b t
  | _ => exact absurd (show false = true from fx) gV
 | bl a =>
  cases ry
  cases x with
  | non => cases rx; exact SeqAt.EqAt.bool_none a
  | bl b => cases rx; exact SeqAt.EqAt.bool_bool a b
  | int b => obtain ⟨t, rfl⟩ := rx; exact SeqAt.EqAt.bool_int a b t
  | str b => obtain ⟨t, rfl⟩ := rx; exact SeqAt.EqAt.bool_str a b t
  | _ => exact absurd (show false = true from fx) gV
 | int a =>
  obtain ⟨t', rfl⟩ := ry
  cases x with
  | non => cases rx; exact SeqAt.EqAt.int_none a t'
  | bl b => cases rx; exact SeqAt.EqAt.int_bool a t' b
  | int b => obtain ⟨t, rfl⟩ := rx; exact SeqAt.EqAt.int_int a t' b t
  | str b => obtain ⟨t, rfl⟩ := rx; exact SeqAt.EqAt.int_str a t' b t
  | _ => exact absurd (show false = true from fx) gV
 | str a =>
  obtain ⟨t', rfl⟩ := ry
  cases x with
  | non => cases rx; exact SeqAt.EqAt.str_none a t'
  | bl b => cases rx; exact SeqAt.EqAt.str_bool a t' b
  | int b => obtain ⟨t, rfl⟩ := rx; exact SeqAt.EqAt.str_int a t' b t
  | str b => obtain ⟨t, rfl⟩ := rx; exact SeqAt.EqAt.str_str a t' b t
  | _ => exact absurd (show false = true from fx) gV
 | _ => exact absurd (show false = true from fy) gV
noncomputable def yM (x : V) (u : Value) : Bool := match u with
 | .none => ye .non x
 | .bool b => ye (.bl b) x
 | .int i _ => ye (.int i) x
 | .str z _ => ye (.str z) x
 | _ => false
theorem uX {y : V} {u : Value} (r : bh y u) (f : dv y = true) : yM x u = ye y x := by
 cases y with
 | non => cases r; rfl
 | bl b => cases r; rfl
 | int i => obtain ⟨t, rfl⟩ := r; rfl
 | str z => obtain ⟨t, rfl⟩ := r; rfl
 | _ => exact absurd (show false = true from f) gV
theorem qI : ∀ {xs : List V} {us : List Value}, aM xs us -> xs.all dv = true -> us.any (yM x) = xs.any λ y => ye y x
 | _, _, .nil, _ => rfl
 | y :: xs, u :: us, .cons r t, f => by
  rw [List.all_cons, uR] at f
  rw [List.any_cons, List.any_cons, uX r f.1, qI t f.2]
theorem jk {A : Around} {v : Value} (rx : bh x v) (fx : dv x = true) : ∀ {xs : List V} {us : List Value}, aM xs us -> xs.all dv = true -> ∀ u ∈ us, SeqAt.EqAt A s u v (yM x u)
 | _, _, .nil, _ => λ u hu => by cases hu
 | y :: xs, u :: us, .cons r t, f => λ u' hu => by
  rw [List.all_cons, uR] at f
  rcases j8.mp hu with rfl | hu
  ·rw [uX r f.1]; exact GY r rx f.1 fx
  ·exact jk rx fx t f.2 u' hu
def Jh (x : V) (xs : List V) : Bool := xs.any λ y => ye y x
def LM (K : Fg) (neg : Bool) : R2 := λ x y H Q => ∃ p xs, y = .ref p /\ (aZ K H p xs ∨ bq K H p xs) /\ dv x = true /\ xs.all dv = true /\ Q (.bl (if neg then !Jh x xs else Jh x xs)) H
theorem jd : gd X (compareOp .NotIn) (LM X.K true) := by
 intro pins s Z H x y v u Q I rx ry h
 obtain ⟨p, xs, rfl, hq, fx, fs, q⟩ := h
 cases ry
 rcases hq with hq | hq
 ·obtain ⟨its, r, pl, hz⟩ := I.list hq
  refine SeqAt.notIn_listAt (yM x) pl.isList (λ w hw => jk rx fx r fs w (by simpa using hw)) ⟨.bl _, H, I, rfl, ?_⟩
  rw [show its.toArray.any (yM x) = its.any (yM x) by simp, qI r fs]
  exact q
 ·obtain ⟨its, r, pl, hz⟩ := I.tuple hq
  refine SeqAt.notIn_tupleAt (yM x) pl (λ w hw => jk rx fx r fs w (by simpa using hw)) ⟨.bl _, H, I, rfl, ?_⟩
  rw [show its.toArray.any (yM x) = its.any (yM x) by simp, qI r fs]
  exact q
theorem bD : cz X (.builtin "len") (λ xs H Q => ∃ p ys, xs = [.ref p] /\ (aZ X.K H p ys ∨ bq X.K H p ys) /\ Q (.int ys.length) H) := by
 intro pins s Z H xs us Q I r h
 obtain ⟨p, ys, rfl, hq, q⟩ := h
 obtain ⟨u, rfl, rx⟩ := pG r
 cases rx
 have hn := kA
 rcases hq with hq | hq
 ·obtain ⟨its, r', pl, hz⟩ := I.list hq
  have hlen := r'.length
  exact Calls.call_len_list pl.isList (by simp only [ja] <;> lia) ⟨.int ys.length, H, I.tok _, ⟨s.toks + 1, by rw [ja, hlen]⟩, q⟩
 ·obtain ⟨its, r', pl, hz⟩ := I.tuple hq
  have hlen := r'.length
  exact len_tuple pl (by simp only [ja] <;> lia) ⟨.int ys.length, H, I.tok _, ⟨s.toks + 1, by rw [ja, hlen]⟩, q⟩
theorem rF : cz X (.type "list") (λ xs H Q => ∃ p ys, xs = [.ref p] /\ (aZ X.K H p ys ∨ bq X.K H p ys) /\ ∀ l, H l = none -> Q (.ref l) (upd H l (.lst ys))) := by
 intro pins s Z H xs us Q I r h
 obtain ⟨p, ys, rfl, hq, q⟩ := h
 obtain ⟨u, rfl, rx⟩ := pG r
 cases rx
 have fin : ∀ (its : List Value), aM ys its -> ys.length <= sizeLine -> ∀ (h' : Heap) (c' : Nat), (∀ b o', s.heap.get? b = some o' -> h'.get? b = some o') ->
   h'.get? s.heap.objs.size = some { cls := .type "list", dict := none, data := .seq its.toArray c', slots := #[] } -> EP X pins Z Q (.ref s.heap.objs.size) { s with heap := h' } := λ its r' hz h' c' kp e =>
  ⟨.ref s.heap.objs.size, _, I.laid (t' := s.toks) kp (jo _) (show cA X.prog X.w _ h' _ (.lst ys) from ⟨hz, its, c', r', e⟩), rfl, q _ (I.hok.fresh (jo _))⟩
 rcases hq with hq | hq
 ·obtain ⟨its, r', pl, hz⟩ := I.list hq
  have hlen := r'.length
  obtain ⟨o, ho, hc, n, hd⟩ := pl.isList
  exact call_list_seq p (.inl rfl) ho hc hd (λ h' c' kp e => fin its r' hz h' c' kp e) (by simp only [ja] <;> lia)
 ·obtain ⟨its, r', pl, hz⟩ := I.tuple hq
  have hlen := r'.length
  obtain ⟨o, ho, hc, n, hd⟩ := pl
  exact call_list_seq p (.inr rfl) ho hc hd (λ h' c' kp e => fin its r' hz h' c' kp e) (by simp only [ja] <;> lia)
theorem oS : cz X (.type "tuple") (λ xs H Q => ∃ p ys, xs = [.ref p] /\ ((aZ X.K H p ys /\ ∀ l, H l = none -> Q (.ref l) (upd H l (.tup ys))) ∨ (bq X.K H p ys /\ Q (.ref p) H))) := by
 intro pins s Z H xs us Q I r h
 obtain ⟨p, ys, rfl, h⟩ := h
 obtain ⟨u, rfl, rx⟩ := pG r
 cases rx
 rcases h with ⟨hq, q⟩ | ⟨hq, q⟩
 ·obtain ⟨its, r', pl, hz⟩ := I.list hq
  have hlen := r'.length
  refine call_tuple_list pl.isList (λ h' kp => ?_) (by simp only [ja] <;> lia)
  have I1 : Inv X pins Z H { s with heap := h' } := I.kept (t' := s.toks) kp
  have I2 : Inv X pins Z (upd H h'.objs.size (.tup ys)) { s with heap := h'.push { cls := .type "tuple", data := .seq its.toArray } } :=
   I1.laid (t' := s.toks) (λ b o e => e9 _ e) (jo _) (show cA X.prog X.w _ _ _ (.tup ys) from ⟨hz, its, r', IsTup.new _ _⟩)
  exact ⟨.ref h'.objs.size, _, I2, rfl, q _ (I1.hok.fresh (jo _))⟩
 ·obtain ⟨its, r', pl, hz⟩ := I.tuple hq
  exact call_tuple_same pl ⟨.ref p, H, I, rfl, q⟩
def Jj (K : Fg) (T : String) (x : V) (H : Hp) : Prop := match x with
 | .str _ => T = "str"
 | .int _ => T = "int"
 | .ref p => (T = "list" /\ ∃ xs, aZ K H p xs) ∨ (T = "tuple" /\ ∃ o, K.lookup p = some o /\ o.cls = .type "tuple" /\ o.dict = none) ∨
   (T = "dict" /\ ((∃ kvs, H p = some (.dK kvs)) ∨ ∃ kvs, H p = some (.dT kvs))) ∨ (T = "set" /\ ∃ S n, H p = some (.set S n))
 | _ => False
theorem Af {pins : Pn} {Z : St} {H : Hp} {T : String} {v : Value} (I : Inv X pins Z H s) (r : bh x v) (ty : Jj X.K T x H) :
  s.TypeIs v T /\ ∀ a, v = .ref a -> ∃ ob, s.heap.get? a = some ob /\ ob.dict = none := by
 cases x with
 | str z =>
  obtain ⟨t, rfl⟩ := r
  cases (show T = "str" from ty)
  exact ⟨typeIs_str s z t, λ _ e => nomatch e⟩
 | int i =>
  obtain ⟨t, rfl⟩ := r
  cases (show T = "int" from ty)
  exact ⟨typeIs_int s i t, λ _ e => nomatch e⟩
 | ref p =>
  cases r
  rcases ty with ⟨rfl, xs, hq⟩ | ⟨rfl, o, hk, hc, hd⟩ | ⟨rfl, hk⟩ | ⟨rfl, S, n, hk⟩
  ·obtain ⟨its, _, pl, _⟩ := I.list hq
   refine ⟨pl.isList.typeIs, λ a e => ?_⟩
   cases e
   obtain ⟨o, n, e, c, hd, _⟩ := pl
   exact ⟨o, e, hd⟩
  ·refine ⟨⟨o, I.kIn p o hk, hc⟩, λ a e => ?_⟩
   cases e
   exact ⟨o, I.kIn _ o hk, hd⟩
  ·have z : ∃ o, s.heap.get? p = some o /\ o.ExactDict := by
    rcases hk with ⟨kvs, hk⟩ | ⟨kvs, hk⟩
    ·obtain ⟨_, _, _, _, o, _, _, e, ex, _⟩ := I.hok p _ hk
     exact ⟨o, e, ex⟩
    ·obtain ⟨_, _, _, _, o, _, _, e, ex, _⟩ := I.hok p _ hk
     exact ⟨o, e, ex⟩
   obtain ⟨o, e, ex⟩ := z
   refine ⟨⟨o, e, ex.1⟩, λ a e2 => ?_⟩
   cases e2
   exact ⟨o, e, ex.2.1⟩
  ·obtain ⟨o, _, _, _, e, ex, _⟩ := I.hok p _ hk
   refine ⟨⟨o, e, ex.1⟩, λ a e2 => ?_⟩
   cases e2
   exact ⟨o, e, ex.2.1⟩
 | _ => exact False.elim ty
def La (K : Fg) (T : String) (r : V -> List V -> Hp -> VK -> Prop) (to : TE) : TE := λ Z H Q => to Z H λ x H1 => Jj K T x H1 /\ r x [] H1 Q
def Mq (K : Fg) (T : String) (r : V -> List V -> Hp -> VK -> Prop) (to : TE) (t : TA) : TE := λ Z H Q => to Z H λ x H1 => Jj K T x H1 /\ t Z H1 λ xs H2 => r x xs H2 Q
variable {o e : Expr} {es : List Expr} {to : TE} {t : TA} {name : Str} {apos cpos : Pos} {T id : String} {r : V -> List V -> Hp -> VK -> Prop}
theorem Aa (pa : PlainAttrs T) (slot : Slot T name id) (hty : typeOf (.builtin id) = pure (.type "method_descriptor")) (hm : MtR X id r) (ho : PE X o to)
  (hbase : attributeBase o name X.env (eval o X.env) = eval o X.env := by rfl) (hline : (apos.endLine == cpos.line) = true := by rfl) : PE X (.Call (.Attribute o name apos) [] [] cpos) (La X.K T r to) := by
 intro pins s Z H Q I h
 refine wpAny_Call_method0_late hbase hline (cj (ho pins s Z H _ I h) λ v s1 ⟨x, H1, I1, r1, ty, q1⟩ => ?_)
 obtain ⟨h1, h2⟩ := Af I1 r1 ty
 exact ⟨T, id, pa, slot, hty, h1, h2, Calls.callWith_builtin rfl (PySem.evalArgs_none (hm pins s1 Z H1 x [] v [] Q I1 r1 .nil q1))⟩
theorem dw (pa : PlainAttrs T) (slot : Slot T name id) (hty : typeOf (.builtin id) = pure (.type "method_descriptor")) (hm : MtR X id r) (ho : PE X o to) (ha : PA X (e :: es) t)
  (hbase : attributeBase o name X.env (eval o X.env) = eval o X.env := by rfl)
  (hfew : ((backTo cpos (starEach (e :: es) X.env)).all (λ x => !x.1) && (backToKw cpos (keywordEach [] X.env)).all (λ x => x.1.isSome)
   && decide ((e :: es).length + ([] : List Keyword).length + (if ([] : List Keyword).isEmpty then 0 else 1) < 30)) = true := by rfl)
  (hline : (apos.endLine == cpos.line) = true := by rfl) (hs : starEach (e :: es) X.env = (false, eval e X.env) :: starEach es X.env := by rfl) (hplain : (backTo cpos (starEach es X.env)).any (·.1) = false := by rfl) :
  PE X (.Call (.Attribute o name apos) (e :: es) [] cpos) (Mq X.K T r to t) := by
 intro pins s Z H Q I h
 refine wpAny_Call_method_late hbase hfew hline rfl (cj (ho pins s Z H _ I h) λ v s1 ⟨x, H1, I1, r1, ty, q1⟩ => ?_)
 obtain ⟨h1, h2⟩ := Af I1 r1 ty
 refine ⟨T, id, pa, slot, hty, h1, h2, ?_⟩
 have hA := ha cpos pins s1 Z H1 _ I1 q1
 rw [hs] at hA ⊢
 refine Calls.callWith_builtin (by show (false || (backTo cpos (starEach es X.env)).any (·.1)) = false; rw [hplain] <;> rfl) (Calls.evalArgs_plain ?_)
 exact cj hA λ us s2 ⟨vs, H2, I2, r2, q2⟩ => hm pins s2 Z H2 x vs v us Q I2 r1 r2 q2
end
def Ly (X : Cx) (id : String) (r : V -> List V -> Hp -> VK -> Prop) : Prop :=
 ∀ (pins : Pn) (s : Shared) (Z : St) (H : Hp) (x : V) (xs : List V) (v : Value) (us : List Value) (Q : VK), Inv X pins Z H s -> bh x v -> aM xs us -> r x xs H Q ->
  wpAny (model X.prog X.w) X.A (call (.builtin id) (v :: us)) (EP X pins Z Q) X.xe s
theorem aM.one : ∀ {x : V} {us : List Value}, aM [x] us -> ∃ u, us = [u] /\ bh x u
 | _, _, .cons r .nil => ⟨_, rfl, r⟩
theorem aM.zero : ∀ {us : List Value}, aM [] us -> us = []
 | _, .nil => rfl
theorem aM.reverse {xs : List V} {us : List Value} (h : aM xs us) : aM xs.reverse us.reverse := by
 induction h with
 | nil => exact .nil
 | cons r t ih => rw [List.reverse_cons, List.reverse_cons]; exact aM.append ih (.cons r .nil)
theorem aM.rep {xs : List V} {us : List Value} (h : aM xs us) : ∀ k : Nat, aM (List.replicate k xs).flatten (List.replicate k us).flatten
 | 0 => .nil
 | k + 1 => by
  rw [vF, vF, List.flatten_cons, List.flatten_cons]
  exact aM.append h (aM.rep h k)
theorem pP (its : List Value) : ∀ (k : Nat) (acc : List Value),
  List.foldl (λ x1 x2 => x1 ++ x2) acc.toArray (List.replicate k its.toArray) = (acc ++ (List.replicate k its).flatten).toArray
 | 0, acc => by simp
 | k + 1, acc => by
  have e : acc.toArray ++ its.toArray = (acc ++ its).toArray := by simp
  have e2 : (acc ++ its) ++ (List.replicate k its).flatten = acc ++ (List.replicate (k + 1) its).flatten := by
   rw [vF, List.flatten_cons, List.append_assoc]
  rw [<- e2, <- pP its k (acc ++ its), <- e, vF, List.foldl_cons]
section
variable {X : Cx} {pins : Pn} {Z : St} {H : Hp} {s : Shared} {l b : Addr} {xs ys zs : List V}
theorem Inv.lset {its its' : List Value} {n : Nat} {f : Array Value -> Array Value} {t' : Nat} (I : Inv X pins Z H s) (hH : H l = some (.lst xs))
  (e : s.heap.get? l = some { cls := .type "list", data := .seq its.toArray n }) (hf : f its.toArray = its'.toArray) (hv : aM ys its') (hz : ys.length <= sizeLine) :
  Inv X pins Z (upd H l (.lst ys)) { s with heap := s.heap.update l (Obj.mapSeq f), toks := t' } := by
 have q := PySem.IsL.update e f
 rw [hf] at q
 refine I.write (x := l) (e := l) (by rw [hH]; exact trivial) (.inl rfl) (λ b' u hb hu => (Heap.get?_update_other s.heap (Obj.mapSeq f) (Ne.symm hb)).trans hu) ⟨_, q⟩ ?_
 exact ⟨hz, its', _, hv, q⟩
theorem Inv.lnew {its : List Value} {t' : Nat} (I : Inv X pins Z H s) (hv : aM ys its) (hz : ys.length <= sizeLine) :
  Inv X pins Z (upd H s.heap.objs.size (.lst ys)) { s with heap := s.heap.push { cls := .type "list", data := .seq its.toArray }, toks := t' } :=
 I.laid (λ _ _ q => e9 _ q) (jo _) ⟨hz, its, 0, hv, m8 _ rfl⟩
theorem Inv.fresh (I : Inv X pins Z H s) : H s.heap.objs.size = none := I.hok.fresh (jo _)
theorem Inv.lstM (I : Inv X pins Z H s) (hH : H l = some (.lst xs)) : xs.length <= sizeLine /\ ∃ (its : List Value) (n : Nat), aM xs its /\ xs.length = its.length /\ s.heap.get? l = some { cls := .type "list", data := .seq its.toArray n } := by
 obtain ⟨z, its, n, r, e⟩ := I.hok l _ hH
 exact ⟨z, its, n, r, r.length, e⟩
theorem BD {n : Nat} (h : n <= sizeLine) : Builtin.List.listTooLong n = false := by
 unfold Builtin.List.listTooLong
 exact i8 (by lia)
end
section
variable {X : Cx}
def rAppend : V -> List V -> Hp -> VK -> Prop := λ x vs H Q => ∃ l xs y, x = .ref l /\ vs = [y] /\ H l = some (.lst xs) /\ xs.length < sizeLine /\ Q .non (upd H l (.lst (xs ++ [y])))
theorem bn : Ly X "list.append" rAppend := by
 intro pins s Z H x vs v us Q I rx rv h
 obtain ⟨l, xs, y, rfl, rfl, hH, hz, q⟩ := h
 cases rx
 obtain ⟨u, rfl, ru⟩ := rv.one
 obtain ⟨z, its, n, r, hl, e⟩ := I.lstM hH
 refine call_meets F.slot_list_append ⟨_, e, rfl⟩ F.entry_list_append (F.args_list_append_2 _ _) (PySem.list_append l its.toArray n u (by rw [ja]; lia)) ⟨e, ?_⟩
 refine ⟨.non, _, I.lset (its' := its ++ [u]) hH e (by simp) (r.append (.cons ru .nil)) ?_, rfl, q⟩
 rw [nh, List.length_singleton]
 lia
def rReverse : V -> List V -> Hp -> VK -> Prop := λ x vs H Q => ∃ l xs, x = .ref l /\ vs = [] /\ H l = some (.lst xs) /\ Q .non (upd H l (.lst xs.reverse))
theorem ve : Ly X "list.reverse" rReverse := by
 intro pins s Z H x vs v us Q I rx rv h
 obtain ⟨l, xs, rfl, rfl, hH, q⟩ := h
 cases rx
 have hus := rv.zero
 subst hus
 obtain ⟨z, its, n, r, hl, e⟩ := I.lstM hH
 refine call_meets F.slot_list_reverse ⟨_, e, rfl⟩ F.entry_list_reverse (F.args_list_reverse_1 _) (AutoSeq1.list_reverse_list_0 l its.toArray n (by rw [ja]; lia)) ⟨e, ?_⟩
 refine ⟨.non, _, I.lset (its' := its.reverse) hH e (by simp) r.reverse ?_, rfl, q⟩
 rw [List.length_reverse]
 lia
def rClear : V -> List V -> Hp -> VK -> Prop := λ x vs H Q => ∃ l xs, x = .ref l /\ vs = [] /\ H l = some (.lst xs) /\ Q .non (upd H l (.lst []))
theorem zq : Ly X "list.clear" rClear := by
 intro pins s Z H x vs v us Q I rx rv h
 obtain ⟨l, xs, rfl, rfl, hH, q⟩ := h
 cases rx
 have hus := rv.zero
 subst hus
 obtain ⟨z, its, n, r, hl, e⟩ := I.lstM hH
 refine call_meets F.slot_list_clear ⟨_, e, rfl⟩ F.entry_list_clear (F.args_list_clear_1 _) (AutoSeq1.list_clear_list_0 l its.toArray n (by rw [ja]; lia)) ⟨e, ?_⟩
 exact ⟨.non, _, I.lset (its' := []) (ys := []) hH e rfl .nil (Nat.zero_le _), rfl, q⟩
def rRep : R2 := λ x y H Q => ∃ l k xs, x = .ref l /\ y = .int k /\ H l = some (.lst xs) /\ -(2 ^ 63) <= k /\ k < 2 ^ 63 /\ xs.length * k.toNat <= sizeLine /\
 ∀ p, H p = none -> Q (.ref p) (upd H p (.lst (List.replicate k.toNat xs).flatten))
theorem DL {α : Type} (xs : List α) (k : Nat) : (List.replicate k xs).flatten.length = k * xs.length := by
 induction k with
 | zero => simp
 | succ k ih => rw [vF, List.flatten_cons, nh, ih, Nat.succ_mul, Nat.add_comm]
theorem zX : gd X (binaryOp .Mult) rRep := by
 intro pins s Z H x y v u Q I rx ry h
 obtain ⟨l, k, xs, rfl, rfl, hH, h1, h2, hz, q⟩ := h
 cases rx
 obtain ⟨t, rfl⟩ := ry
 obtain ⟨z, its, n, r, hl, e⟩ := I.lstM hH
 have hlen : its.toArray.size * k.toNat <= sizeLine := by rw [ja, <- hl]; exact hz
 have hcap : ¬ its.toArray.size * k.toNat > (2 ^ 63 - 1) / 8 := by
  have : (sizeLine : Nat) <= (2 ^ 63 - 1) / 8 := by decide
  lia
 have hfit : ¬ (!Builtin.List.listFitsIndex k) = true := by
  rw [fitsIndex_both h1 h2]
  exact gV
 have hlong : ¬ Builtin.List.listTooLong (its.toArray.size * k.toNat) = true := by
  rw [BD hlen]
  exact gV
 have hnew : List.foldl (λ x1 x2 => x1 ++ x2) #[] (List.replicate (if its.toArray.isEmpty = true then 0 else k.toNat) its.toArray) = (List.replicate k.toNat its).flatten.toArray := by
  have f0 : ∀ m : Nat, List.foldl (λ x1 x2 => x1 ++ x2) #[] (List.replicate m its.toArray) = (List.replicate m its).flatten.toArray := λ m => by
   have := pP its m []
   rw [List.nil_append] at this
   exact this
  rw [f0]
  cases its with
  | nil => simp
  | cons a r' => rw [gS (by simp)]
 refine wpAny_binaryOp_repeat_ref (T := "list") (U := "int") (by decide) ⟨_, e, rfl⟩ (λ s' => typeIs_int s' k t) noFill_list_mul F.fills_int_mul F.slot_int_rmul repeat_list F.slot_int_index.lookup
  (call_meets F.slot_int_rmul (typeIs_int s k t) F.entry_int_rmul (F.args_int_rmul_2 _ _) (int___rmul___int_list k t l its.toArray n)
   ⟨e, rfl, ⟨_, e, rfl⟩, call_meets F.slot_list_mul ⟨_, e, rfl⟩ F.entry_list_mul (F.args_list_mul_2 _ _) (AutoListH.list___mul___list_int_3 l its.toArray n k t hfit hcap hlong) ⟨e, ?_⟩⟩)
 rw [hnew]
 exact ⟨.ref _, _, I.lnew (t' := s.toks) (r.rep k.toNat) (by rw [DL, Nat.mul_comm]; exact hz), rfl, q _ I.fresh⟩
end
section
variable {prog : Program} {w : World} {A : Around} {E : Value -> Shared -> Prop} {s : Shared}
set_option maxRecDepth 100000 in
end
end L2
namespace Att
open PySem PySem.W PySem.Calls PyProof.Rows
theorem ints_of_wellAll {P : Params} {h : Heap} : ∀ (ns : List Int) (vs : List Value), WellAll P h vs (ns.map WData.int) -> IntsAre vs ns := by
 intro ns
 induction ns with
 | nil =>
  intro vs w
  rw [List.map_nil] at w
  cases w
  exact .nil
 | cons n ns ih =>
  intro vs w
  rw [kw] at w
  cases w with
  | cons a b =>
   cases a
   exact .cons _ _ (ih _ b)
theorem script_of {l : OpenLaw} {n : Nat} (hn : l.most = some n) {P : Params} {h : Heap} {args : List WData} {vals : List Value}
  (hpre : l.row.toRowW.claim.pre args = true) (hwl : WellAll P h vals args) :
  ∃ a vs ns, vals = [Value.ref a] /\ args = [WData.list (ns.map WData.int)] /\ h.get? a = some { cls := .type "list", data := .seq vs.toArray } /\ IntsAre vs ns /\ ns.length <= n := by
 have hsh : WShape.hasAll [] args [.list .int] = true := (pre_splitW hpre).1
 have hc : l.pre.holds [] { args := args } = true := (pre_splitW hpre).2
 obtain ⟨d, r, rfl, h1, h2⟩ := hasAllW_cons hsh
 obtain rfl := hasAllW_nil h2
 obtain ⟨xs, rfl, h3⟩ := hasW_list h1
 obtain ⟨ns, rfl⟩ := items_int h3
 have hlen : ns.length <= n := by
  unfold OpenLaw.pre at hc
  have h4 : (WTm.not (.lt (.lit (.int (n : Int))) (.len (.arg 0)))).holds [] { args := [.list (ns.map .int)] } = true := by
   have h4 := (holds_andW hc).1
   rw [hn] at h4
   exact h4
  have h5 := condW_of h4 (w_not (w_lt w_lit (w_len_list (w_arg rfl))))
  rw [cI] at h5
  refine Nat.le_of_not_lt λ q => ?_
  have q' : (n : Int) < ((ns.length : Nat) : Int) := by lia
  first
   | (rw [j6 q'] at h5; exact absurd h5 (by decide))
   | (simp at h5; lia)
 cases hwl with
 | cons w1 w2 =>
  cases w2
  cases w1 with
  | list ho hall => exact ⟨_, _, ns, rfl, rfl, ho, ints_of_wellAll ns _ hall, hlen⟩
theorem post_true (l : OpenLaw) (args : List WData) : l.row.toRowW.claim.post args (.bool true) args = true :=
 postW_of (r := l.row.toRowW) (X := (true == true))
  (show WShape.has [] (.bool true) .bool = true by first | rfl | decide | simp [WShape.has, WShape.arms, WShape.armsAll])
  (show (WTm.eq .res (.lit (.bool true))).value [] { args := args, res := some (.bool true), after := args } = some (.bool (true == true)) from w_eq_bool (w_res rfl) w_lit) rfl
theorem attach_call {l : OpenLaw} {n : Nat} {q : Program} {loose : List Str} {XP : (Str -> Option Value) -> Heap -> Prop} {YP : World -> Heap -> Prop} {d : DefRec}
  (hn : l.most = some n) (hdf : d.params.defaults = [])
  (call : ∀ (w : World) (s₀ s₁ : Shared) (mg mb : Str -> Option Value) (fa : Addr) (o : Obj) (pm cd doc : Value) (a : Addr) (vs : List Value) (ns : List Int),
   Ground q loose [] XP w s₀ mg mb s₁.heap -> YP w s₁.heap ->
   s₁.heap.get? fa = some o -> o.data = .func (docDef d.name d.params d.body d.scope pm cd doc) -> s₁.heap.CodeRec cd d.name -> mg d.name = some (.ref fa) ->
   s₁.heap.get? a = some { cls := .type "list", data := .seq vs.toArray } -> IntsAre vs ns -> ns.length <= n -> s₁.gens = #[] ->
   codeAny (model l.prog w) callerA (.call (.ref fa) ⟨[.ref a], []⟩) (λ r s' => r = .ok (.ret (.bool true)) /\ OldK s₁.heap s'.heap /\ s'.os = s₁.os /\ AllBare s'.gens) s₁) :
  WalkO q loose XP YP l.row.toRowW d [] (λ f vs => PySem.call f vs) := by
 intro w s₀ s₁ mg mb G Y fa o pm cd doc dV kV ho hd hcd hD hmg hg args vals as hpre hlay hrd hwl hlo
 obtain rfl : dV = .none := Dflts.none hD hdf
 obtain rfl : kV = .none := Dflts.noKw hD
 obtain ⟨a, vs, ns, rfl, rfl, hobj, hints, hlen⟩ := script_of hn hpre hwl
 refine enter_call (codeAny_mono (call w s₀ s₁ mg mb fa o pm cd doc a vs ns G Y ho (fd_plain hd) hcd hmg hobj hints hlen hg) λ r s' hq => ?_)
 obtain ⟨rfl, h2, h3, h4⟩ := hq
 exact ⟨.inl ⟨.bool true, .bool true, [], rfl, λ _ => rfl, .bool true, post_true l _, λ _ => ⟨List.Pairwise.nil, λ _ hm => (nomatch hm)⟩⟩, h2, h3, h4⟩
end Att
namespace L2
open PySem PySem.Spec PyProof.Rows
theorem kb : ∀ {vs : List Value} {ns : List Int}, IntsAre vs ns -> aM (ns.map V.int) vs
 | _, _, .nil => .nil
 | _, _, .cons n t h => .cons ⟨t, rfl⟩ (kb h)
def Ih (H : Hp) : Prop := ∀ b, H b = none ∨ ∃ o xs, H b = some (.frz o (.lst xs))
theorem AZ {P : Program} {w : World} {K : Fg} {mg mb : Str -> Option Value} {CX : CXT} {k : Nat} {fa a : Addr} {fd : FuncData} {x : Str} {sp : Sp} {s₁ : Shared} {vs : List Value} {ns : List Int}
  (KX : K.In s₁.heap) (hns : s₁.heap.Ns mainGlobals mg) (hb : s₁.heap.Ns builtinsNs mb) (hbb : ∀ x : Str, x ≠ "__name__" -> mb x = bootBuiltins x) (hlim : s₁.heap.NoLimit) (hg : s₁.gens = #[])
  (ha : s₁.heap.get? a = some { cls := .type "list", data := .seq vs.toArray }) (hi : IntsAre vs ns) (hl : ns.length <= sizeLine) (hr : dr k callerA)
  (F : ∀ base : Heap, K.In base -> base.Ns mainGlobals mg -> dL P w K mg base CX k fa fd [x] sp) (hbind : ∀ (s : Shared) (u : Value), BindsTo s fd ⟨[u], []⟩ [(x, u)])
  (hsp : ∀ H : Hp, Ih H -> aZ K H a (ns.map V.int) -> sp [.ref a] H (λ v _ => v = .bl true) λ _ _ _ => False)
  (hCX : ∀ H e s', CX [] H s₁ (λ _ _ _ => False) e s' -> False) :
  codeAny (model P w) callerA (.call (.ref fa) ⟨[.ref a], []⟩) (λ r s' => r = .ok (.ret (.bool true)) /\ OldK s₁.heap s'.heap /\ s'.os = s₁.os /\ AllBare s'.gens) s₁ := by
 have rv := kb hi
 have lenV := hi.length
 have core : ∀ H : Hp, Ih H -> aZ K H a (ns.map V.int) -> lU P w H s₁.heap -> (∀ b, H b ≠ none -> b = a) -> (H a ≠ none -> K.lookup a = none) ->
   codeAny (model P w) callerA (.call (.ref fa) ⟨[.ref a], []⟩) (λ r s' => r = .ok (.ret (.bool true)) /\ OldK s₁.heap s'.heap /\ s'.os = s₁.os /\ AllBare s'.gens) s₁ := by
  intro H hO hS hok hA hK
  have base_of : ∀ {b : Addr} {o : Obj}, s₁.heap.get? b = some o -> H b = none -> (qH s₁.heap H).get? b = some o := λ e n => AH e n
  have noA : ∀ {b : Addr} {o : Obj} {es : Array DictEntry} {ep : Nat}, s₁.heap.get? b = some o -> o.data = .dict es ep -> H b = none := λ {b o es ep} e d => by
   cases q : H b with
   | none => rfl
   | some u =>
    have e' : b = a := hA b (by rw [q]; simp)
    subst e'
    rw [ha] at e; cases e
    have d' : Data.seq vs.toArray _ = Data.dict es ep := d
    cases d'
  have nsK : ∀ {b : Addr} {m : Str -> Option Value}, s₁.heap.Ns b m -> (qH s₁.heap H).Ns b m := λ {b m} ⟨o, es, ep, e, d, r⟩ => ⟨o, es, ep, base_of e (noA e d), d, r⟩
  have hKb : K.In (qH s₁.heap H) := λ b o e => base_of (KX b o e) (by
   cases q : H b with
   | none => rfl
   | some u =>
    have e' : b = a := hA b (by rw [q]; simp)
    subst e'
    rw [hK (by rw [q]; simp)] at e; cases e)
  have hM : Mod K mg (qH s₁.heap H) := ⟨hKb, nsK hns, ⟨mb, nsK hb, hbb⟩, let ⟨mc, h1, h2⟩ := hlim; ⟨mc, nsK h1, h2⟩⟩
  have e0 : vb P w K mg (qH s₁.heap H) callerA [] s₁ H := ⟨rfl, hM, λ b o e => EQ e, Nat.le_of_eq (xH _ _), trivial, λ b hb => absurd (show b ∈ ([] : List Addr) from hb) (by simp), hok, .of_eq hg⟩
  refine codeAny_mono ((F _ hKb (nsK hns)).run callerA [] s₁ H ⟨[.ref a], []⟩ [.ref a] [.ref a] _ _ hr e0 (hbind s₁ (.ref a)) (.cons rfl .nil) (hsp H hO hS)) λ r s' h => ?_
  cases r with
  | error e => exact (hCX H e s' h).elim
  | ok fl =>
   cases fl with
   | next => exact False.elim h
   | brk => exact False.elim h
   | cont => exact False.elim h
   | ret u =>
    obtain ⟨v, H', os, bare, un, hok', r', q⟩ := h
    have q' : v = .bl true := q
    subst q'
    obtain rfl : u = Value.bool true := r'
    refine ⟨rfl, OldK.of_keep λ b o e => ?_, os, bare⟩
    cases q : H b with
    | none => exact un.keep b o e q (by intro z; exact absurd (show b ∈ ([] : List Addr) from z) (by simp)) (by simp)
    | some u =>
     rcases hO b with z | ⟨ob, xs, z⟩
     ·rw [q] at z; cases z
     ·have z2 := un.frzs b ob _ z
      obtain ⟨e1, _⟩ := hok b _ z
      obtain ⟨e2, _⟩ := hok' b _ z2
      rw [e] at e1; cases e1
      exact e2
 cases hk : K.lookup a with
 | some o =>
  have e := KX a o hk
  rw [ha] at e
  cases e
  refine core (λ _ => none) (λ _ => .inl rfl) (.inr ⟨_, vs.toArray, _, hk, rfl, rfl, rfl, by rw [ja, lenV]; exact hl, by simpa using rv⟩) (λ b u z => by have z' : (none : Option HO) = some u := z; cases z') (λ b z => absurd rfl z) λ z => absurd rfl z
 | none =>
  refine core (λ b => if b = a then some (.frz { cls := .type "list", data := .seq vs.toArray } (.lst (ns.map V.int))) else none) (λ b => ?_) (.inl (.inr ⟨{ cls := .type "list", data := .seq vs.toArray }, i9 rfl⟩)) (λ b u z => ?_) (λ b z => ?_) λ _ => hk
  ·by_cases hb : b = a
   ·exact .inr ⟨_, _, i9 hb⟩
   ·exact .inl (gS hb)
  ·by_cases hb : b = a
   ·have z' := (i9 hb).symm.trans z
    cases z'
    subst hb
    exact ⟨ha, by rw [cI]; exact hl, vs, _, rv, ha⟩
   ·have z' := (gS hb).symm.trans z
    cases z'
  ·by_cases hb : b = a
   ·exact hb
   ·exact absurd (gS hb) z
theorem walk_of {l : PySem.W.OpenLaw} {n k : Nat} {q : Program} {loose : List Str} {XP : (Str -> Option Value) -> Heap -> Prop} {YP : World -> Heap -> Prop} {d : DefRec} {K : Params -> Fg} {CX : World -> CXT} {sp : World -> Sp} {x : Str}
  (hn : l.most = some n) (hn2 : n <= sizeLine) (hdf : d.params.defaults = []) (hr : dr k callerA)
  (hY : ∀ (w : World) (h : Heap), YP w h -> (K w.params).In h)
  (F : ∀ (w : World) (mg : Str -> Option Value) (fa : Addr) (h : Heap), (K w.params).In h -> h.Ns mainGlobals mg -> mg d.name = some (.ref fa) ->
   ∃ fd : FuncData, (∀ (s : Shared) (u : Value), BindsTo s fd ⟨[u], []⟩ [(x, u)]) /\
    ∀ base : Heap, (K w.params).In base -> base.Ns mainGlobals mg -> dL l.prog w (K w.params) mg base (CX w) k fa fd [x] (sp w))
  (hsp : ∀ (w : World) (H : Hp) (a : Addr) (ns : List Int), ns.length <= n -> Ih H -> aZ (K w.params) H a (ns.map V.int) -> sp w [.ref a] H (λ v _ => v = .bl true) λ _ _ _ => False)
  (hCX : ∀ (w : World) (H : Hp) (s : Shared) (e : Value) (s' : Shared), CX w [] H s (λ _ _ _ => False) e s' -> False) :
  PySem.W.WalkO q loose XP YP l.row.toRowW d [] (λ f vs => PySem.call f vs) := by
 refine Att.attach_call hn hdf λ w s₀ s₁ mg mb fa o pm cd doc a vs ns G Y ho hd hcd hmg hobj hints hlen hg => ?_
 have KX := hY w _ Y
 obtain ⟨fd, hb, hF⟩ := F w mg fa _ KX G.T.g hmg
 exact AZ KX G.T.g G.T.b G.T.builtins G.T.nolimit hg hobj hints (n9 hlen hn2) hr hF hb (λ H hO hS => hsp w H a ns hlen hO hS) λ H e s' => hCX w H s₁ e s'
def cF (s : Stmt) : Arguments := match s with
 | .FunctionDef _ a _ _ _ _ _ _ _ _ => a
 | _ => { posonlyargs := [], args := [], vararg := none, kwonlyargs := [], kw_defaults := [], kwarg := none, defaults := [] }
noncomputable def bF (s : Stmt) : List Stmt := match s with
 | .FunctionDef _ _ b _ _ _ _ _ _ _ => b
 | _ => []
def ae (s : Stmt) : Scope := match s with
 | .FunctionDef _ _ _ _ _ _ sc _ _ _ => sc
 | _ => { kind := .function, names := [], isGenerator := false, isCoroutine := false }
noncomputable abbrev wQ : CXT := λ _ _ _ _ _ _ => False
noncomputable abbrev E0 : XK := λ _ _ _ => False
theorem Be {X : Cx} : qM wQ X E0 := λ _ _ _ _ _ _ _ h => h.elim
structure GF (K : Fg) (x qual : Str) (st : Stmt) (f : Addr) (fd : FuncData) : Prop where
 ex : ∃ (oc : Value) (od : Option Addr) (kV doc pm : Value) (an : Option Addr) (cdv ct : Value) (osl : Array (Option Value)),
  fd = PySem.W.fnOf x qual (cF st) (bF st) (ae st) .none kV doc pm an cdv ct /\ K.lookup f = some ⟨oc, od, .func fd, osl⟩ /\ PySem.W.codeIn K cdv qual = true
 kp : PySem.W.keepIn K (.ref f) = true
section
variable {P : Program} {w : World} {K : Fg} {mg : Str -> Option Value} {base : Heap} {x : Str} {qual : Str} {st : Stmt} {f : Addr}
theorem GF.ok {fd : FuncData} {N ps : List Str} {k : Nat} {sp : Sp} (F : GF K x qual st f fd) (S : ao N ps (ae st)) (len : ∀ vs H Q E, sp vs H Q E -> vs.length = ps.length)
  (hbody : ∀ (cdv : Value) (A : Around) (outer : List Env) (s : Shared) (H : Hp) (vs : List V) (Q : VK) (E : XK), dr k (A.deeper (envOfC qual (ae st) s.heap.objs.size f cdv)) -> sp vs H Q E ->
   ∃ t, xx (ee wQ P w K mg base N qual (ae st) f cdv A outer s H E).nox (bF st) t /\ t { nx := λ _ H' => Q .non H', rt := Q } (cV N vs) H) : dL P w K mg base wQ (k + 1) f fd ps sp := by
 obtain ⟨oc, od, kV, doc, pm, an, cdv, ct, osl, rfl, lk, hcd⟩ := F.ex
 refine ES lk hcd S len λ A outer s H vs Q E hr hsp => ?_
 obtain ⟨t, h, q⟩ := hbody cdv A outer s H vs Q E hr hsp
 exact ⟨t, h.nox, q⟩
theorem GF.binds {fd : FuncData} {ps : List Str} (F : GF K x qual st f fd)
  (h : ∀ (kV doc pm : Value) (an : Option Addr) (cdv ct : Value) (us : List Value), us.length = ps.length -> bindArgs (PySem.W.fnOf x qual (cF st) (bF st) (ae st) .none kV doc pm an cdv ct) ⟨us, []⟩ = pure (ps.zip us)) : gM K fd ps [] := by
 obtain ⟨oc, od, kV, doc, pm, an, cdv, ct, osl, rfl, lk, hcd⟩ := F.ex
 exact .all (h kV doc pm an cdv ct)
theorem kU {oc : Value} {od an : Option Addr} {osl : Array (Option Value)} {kV doc pm cdv ct : Value} (l : K.lookup f = some ⟨oc, od, .func (PySem.W.fnOf x qual (cF st) (bF st) (ae st) .none kV doc pm an cdv ct), osl⟩)
  (c : PySem.W.codeIn K cdv qual = true) (k : PySem.W.keepIn K (.ref f) = true) : GF K x qual st f (PySem.W.fnOf x qual (cF st) (bF st) (ae st) .none kV doc pm an cdv ct) := ⟨⟨oc, od, kV, doc, pm, an, cdv, ct, osl, rfl, l, c⟩, k⟩
end
section
variable {X : Cx}
theorem pv (i : Nat) {x : Str} {pos : Pos} (hN : X.N[i]? = some x := by rfl) (hv : JA X.env.scope x := by first | exact Or.inl rfl | exact Or.inr (Or.inl rfl) | exact Or.inr (Or.inr rfl)) (hd : (x == ("__debug__" : Str)) = false := by decide)
  (hcd : (x == ("__classdict__" : Str)) = false := by decide) : PE X (.Name x pos) (gN i) := GU hN hv hd hcd
end
variable {A : Prop} {B : Prop}
theorem fB (h : B) : if false = true then A else B := by
 rw [gS gV]
 exact h
theorem jH (h : A) : if true = true then A else B := by
 rw [i9 rfl]
 exact h
theorem Fa {c : Prop} [Decidable c] (hc : c) (h : B) : if (!decide c) = true then A else B := by
 rw [j6 hc]
 exact fB h
def ah (H H' : Hp) : Prop := ∀ b o, H b = some o -> H' b = some o
theorem ah.refl (H : Hp) : ah H H := λ _ _ h => h
variable {H : Hp}
theorem ah.trans {H1 H2 : Hp} (a : ah H H1) (b : ah H1 H2) : ah H H2 := λ c o h => b c o (a c o h)
theorem ah.free {H' : Hp} (e : ah H H') {l : Addr} (h : H' l = Option.none) : H l = Option.none := by
 cases q : H l with
 | none => rfl
 | some o =>
  rw [e l o q] at h
  cases h
theorem ah.seq {K : Fg} {H' : Hp} {a : Addr} {xs : List V} (e : ah H H') (h : aZ K H a xs) : aZ K H' a xs := by
 rcases h with (h | ⟨o, h⟩) | h
 ·exact .inl (.inl (e _ _ h))
 ·exact .inl (.inr ⟨o, e _ _ h⟩)
 ·exact .inr h
end L2
set_option maxHeartbeats 4000000
namespace My
def Bd (n : Nat) (x : Int) : Prop := x.natAbs < 2 ^ n
variable {n : Nat} {x : Int}
theorem Bd.mono {m : Nat} (h : Bd m x) (hn : m <= n) : Bd n x := mv h (Nat.pow_le_pow_right (by decide) hn)
theorem Bd.neg (h : Bd n x) : Bd n (-x) := by unfold Bd at *; rw [Int.natAbs_neg]; exact h
variable {y : Int}
theorem Bd.mul {m : Nat} (h : Bd m x) (g : Bd n y) : Bd (m + n) (x * y) := by
 unfold Bd at *
 rw [Int.natAbs_mul, Nat.pow_add]
 exact Nat.mul_lt_mul'' h g
theorem Bd.add (h : Bd n x) (g : Bd n y) : Bd (n + 1) (x + y) := by
 unfold Bd at *
 rw [Nat.pow_succ]
 have := Int.natAbs_add_le x y
 lia
theorem Bd.sub (h : Bd n x) (g : Bd n y) : Bd (n + 1) (x - y) := by
 rw [Int.sub_eq_add_neg]; exact h.add g.neg
theorem Bd.of_le (g : Bd n y) (h0 : 0 <= x) (h : x <= y) : Bd n x := by
 unfold Bd at *
 lia
theorem wb (x y : Int) (hy : 0 < y) : y * (x / y) <= x /\ x < y * (x / y) + y := by
 have h1 := Int.mul_ediv_add_emod x y
 have h2 := nW x (sY hy)
 have h3 := lb x hy
 lia
theorem Bd.div (hy : 0 < y) (g : Bd n x) : Bd n (x / y) := by
 unfold Bd at *
 refine rd ?_ g
 obtain ⟨h1, h2⟩ := wb x y hy
 rcases Int.lt_or_le (x / y) 0 with h | h
 ·
  have h3 : y * (x / y + 1) <= 1 * (x / y + 1) := Int.mul_le_mul_of_nonpos_right (by lia) (by lia)
  rw [Int.mul_add, rn, Int.one_mul] at h3
  lia
 ·have h3 : 1 * (x / y) <= y * (x / y) := tM (by lia) h
  rw [Int.one_mul] at h3
  lia
theorem gcd_step (a b : Int) : Int.gcd b (a % b) = Int.gcd a b := by
 apply Nat.dvd_antisymm
 ·apply Int.dvd_gcd
  ·have h1 : ((Int.gcd b (a % b) : Nat) : Int) ∣ b := Int.gcd_dvd_left ..
   have h2 : ((Int.gcd b (a % b) : Nat) : Int) ∣ a % b := Int.gcd_dvd_right ..
   have h3 := Int.mul_ediv_add_emod a b
   have h4 := Int.dvd_add (Int.dvd_trans h1 (Int.dvd_mul_right b (a / b))) h2
   rw [h3] at h4
   exact h4
  ·exact Int.gcd_dvd_left ..
 ·apply Int.dvd_gcd
  ·exact Int.gcd_dvd_right ..
  ·have h1 : ((Int.gcd a b : Nat) : Int) ∣ a := Int.gcd_dvd_left ..
   have h2 : ((Int.gcd a b : Nat) : Int) ∣ b := Int.gcd_dvd_right ..
   have h3 := Int.mul_ediv_add_emod a b
   have h4 : a % b = a - b * (a / b) := by lia
   rw [h4]
   exact Int.dvd_sub h1 (Int.dvd_trans h2 (Int.dvd_mul_right b (a / b)))
end My
namespace My
def sg (t m : Int) : Int := if m < 0 then -((Int.gcd t m : Nat) : Int) else ((Int.gcd t m : Nat) : Int)
theorem JQ {t m : Int} (hm : m ≠ 0) : sg t m ≠ 0 := by
 have h : 0 < Int.gcd t m := Int.gcd_pos_of_ne_zero_right t hm
 unfold sg
 split <;> lia
theorem rR (t m : Int) : sg t m ∣ t := by
 unfold sg
 split
 ·exact Int.neg_dvd.mpr (Int.gcd_dvd_left ..)
 ·exact Int.gcd_dvd_left ..
theorem ro (t m : Int) : sg t m ∣ m := by
 unfold sg
 split
 ·exact Int.neg_dvd.mpr (Int.gcd_dvd_right ..)
 ·exact Int.gcd_dvd_right ..
theorem tI {a b : Int} (hb : b ≠ 0) (h : b ∣ a) : a.fdiv b * b = a := Int.fdiv_mul_cancel h
theorem pR (t m : Int) : (sg t m).natAbs = Int.gcd t m := by
 unfold sg
 split
 ·rw [Int.natAbs_neg, Int.natAbs_natCast]
 ·rw [Int.natAbs_natCast]
structure MN (t m a b : Int) : Prop where
 pos : 0 < b
 low : Int.gcd a b = 1
 same : a * m = t * b
 ba : a.natAbs <= t.natAbs
 bb : b.natAbs <= m.natAbs
theorem made_of {t m : Int} (hm : m ≠ 0) : MN t m (t.fdiv (sg t m)) (m.fdiv (sg t m)) := by
 have hs := JQ (t := t) hm
 have e1 := tI hs (rR t m)
 have e2 := tI hs (ro t m)
 have hg : 0 < Int.gcd t m := Int.gcd_pos_of_ne_zero_right t hm
 generalize ha : t.fdiv (sg t m) = a at *
 generalize hb : m.fdiv (sg t m) = b at *
 have n1 : a.natAbs * Int.gcd t m = t.natAbs := by rw [<- pR, <- Int.natAbs_mul, e1]
 have n2 : b.natAbs * Int.gcd t m = m.natAbs := by rw [<- pR, <- Int.natAbs_mul, e2]
 refine ⟨?_, ?_, ?_, ?_, ?_⟩
 ·
  unfold sg at e2
  by_cases h : m < 0
  ·rw [i9 h, Int.mul_neg] at e2
   rcases Int.lt_or_le 0 b with q | q
   ·exact q
   ·have := Int.mul_nonpos_of_nonpos_of_nonneg q (show (0 : Int) <= ((Int.gcd t m : Nat) : Int) by lia)
    lia
  ·rw [gS h] at e2
   rcases Int.lt_or_le 0 b with q | q
   ·exact q
   ·have := Int.mul_nonpos_of_nonpos_of_nonneg q (show (0 : Int) <= ((Int.gcd t m : Nat) : Int) by lia)
    lia
 ·have q : Int.gcd a b * Int.gcd t m = Int.gcd t m := by
   have h := Nat.gcd_mul_right a.natAbs (Int.gcd t m) b.natAbs
   rw [n1, n2] at h
   exact h.symm
  exact Nat.eq_of_mul_eq_mul_right hg (by rw [q, Nat.one_mul])
 ·have q : a * m = a * (b * sg t m) := by rw [e2]
  have q2 : t * b = a * sg t m * b := by rw [e1]
  rw [q, q2, uh, Int.mul_comm b]
 ·rw [<- n1]; exact Nat.le_mul_of_pos_right _ hg
 ·rw [<- n2]; exact Nat.le_mul_of_pos_right _ hg
theorem Bd.of_natAbs {n : Nat} {x y : Int} (h : x.natAbs <= y.natAbs) (g : Bd n y) : Bd n x := rd h g
theorem natAbs_abs (i : Int) : (if i < 0 then -i else i) = ((i.natAbs : Nat) : Int) := by split <;> lia
end My
namespace L2
open PySem PySem.Spec PyProof.Rows
abbrev cr (x : Int) : Prop := My.Bd 4000 x
section
variable {X : Cx}
theorem aq : gd X (binaryOp .Mult) (rI (λ i j => cr i /\ cr j) λ i j => .int (i * j)) := HM λ _ _ _ _ _ _ _ hc q =>
 mul_int q (IntMulOk.of_le (PySem.intBits_le_iff.mpr hc.1) (PySem.intBits_le_iff.mpr hc.2) (by decide))
theorem lL {j : Int} (h : cr j) : j.natAbs.log2 < 9000 := by
 by_cases h0 : j.natAbs = 0
 ·rw [h0]; decide +kernel
 ·have h1 : j.natAbs.log2 < 4000 := (Nat.log2_lt h0).mpr h
  lia
theorem cn : gd X (binaryOp .FloorDiv) (rI (λ _ j => 0 < j /\ cr j) λ i j => .int (i / j)) := HM λ i j _ _ _ _ _ hc q => by
 have h1 : (0 : Int) < j := hc.1
 exact floordiv_int (by lia) (by rw [Int.fdiv_eq_ediv_of_nonneg i (by lia)]; exact q) (.inl (PyProof.noPylong_of_log2 (lL hc.2)))
end
theorem qT : bootBuiltins "int" = some (.type "int") := by decide +kernel
theorem xg : bootBuiltins "bool" = some (.type "bool") := by decide +kernel
theorem nF : bootBuiltins "str" = some (.type "str") := by decide +kernel
theorem ml : bootBuiltins "list" = some (.type "list") := by decide +kernel
theorem jv : bootBuiltins "tuple" = some (.type "tuple") := by decide +kernel
theorem lh : bootBuiltins "abs" = some (.builtin "abs") := by decide +kernel
theorem ib : bootBuiltins "isinstance" = some (.builtin "isinstance") := by decide +kernel
inductive Tg where
 | non | bl | int | str | tup | lst | dic
def Db (K : Fg) (H : Hp) : V -> Tg -> Prop
 | .non, .non => True
 | .bl _, .bl => True
 | .int _, .int => True
 | .str _, .str => True
 | .ref a, .tup => ∃ xs, bq K H a xs
 | .ref a, .lst => ∃ xs, aZ K H a xs
 | .ref a, .dic => ∃ kvs, H a = some (.dK kvs)
 | _, _ => False
def Tg.isInt : Tg -> Bool
 | .int => true | .bl => true | _ => false
def Tg.isBool : Tg -> Bool
 | .bl => true | _ => false
def Tg.isStr : Tg -> Bool
 | .str => true | _ => false
def Tg.isTup : Tg -> Bool
 | .tup => true | _ => false
def Tg.isLst : Tg -> Bool
 | .lst => true | _ => false
def kr (K : Fg) (n : String) (f : Tg -> Bool) : List V -> Hp -> VK -> Prop := λ xs H Q => ∃ x g, xs = [x, .ty n] /\ Db K H x g /\ Q (.bl (f g)) H
section
variable {X : Cx}
theorem nV {n : String} {f : Tg -> Bool}
  (h1 : ∀ {A : Around} {E : Value -> Shared -> Prop} {s : Shared} {Q : Value -> Shared -> Prop}, (∀ t, Q (.bool (f .non)) { s with toks := t }) -> wpAny (model X.prog X.w) A (call (.builtin "isinstance") [.none, .type n]) Q E s)
  (h2 : ∀ {A : Around} {E : Value -> Shared -> Prop} {s : Shared} {Q : Value -> Shared -> Prop} {b : Bool}, (∀ t, Q (.bool (f .bl)) { s with toks := t }) -> wpAny (model X.prog X.w) A (call (.builtin "isinstance") [.bool b, .type n]) Q E s)
  (h3 : ∀ {A : Around} {E : Value -> Shared -> Prop} {s : Shared} {Q : Value -> Shared -> Prop} {b : Int} {u : Tok}, (∀ t, Q (.bool (f .int)) { s with toks := t }) -> wpAny (model X.prog X.w) A (call (.builtin "isinstance") [.int b u, .type n]) Q E s)
  (h4 : ∀ {A : Around} {E : Value -> Shared -> Prop} {s : Shared} {Q : Value -> Shared -> Prop} {b : Str} {u : Tok}, (∀ t, Q (.bool (f .str)) { s with toks := t }) -> wpAny (model X.prog X.w) A (call (.builtin "isinstance") [.str b u, .type n]) Q E s)
  (h5 : ∀ {A : Around} {E : Value -> Shared -> Prop} {s : Shared} {Q : Value -> Shared -> Prop} {a : Addr} {o : Obj}, s.heap.get? a = some o -> o.cls = .type "tuple" -> (∀ t, Q (.bool (f .tup)) { s with toks := t }) -> wpAny (model X.prog X.w) A (call (.builtin "isinstance") [.ref a, .type n]) Q E s)
  (h6 : ∀ {A : Around} {E : Value -> Shared -> Prop} {s : Shared} {Q : Value -> Shared -> Prop} {a : Addr} {o : Obj}, s.heap.get? a = some o -> o.cls = .type "list" -> (∀ t, Q (.bool (f .lst)) { s with toks := t }) -> wpAny (model X.prog X.w) A (call (.builtin "isinstance") [.ref a, .type n]) Q E s)
  (h7 : ∀ {A : Around} {E : Value -> Shared -> Prop} {s : Shared} {Q : Value -> Shared -> Prop} {a : Addr} {o : Obj}, s.heap.get? a = some o -> o.cls = .type "dict" -> (∀ t, Q (.bool (f .dic)) { s with toks := t }) -> wpAny (model X.prog X.w) A (call (.builtin "isinstance") [.ref a, .type n]) Q E s) :
  cz X (.builtin "isinstance") (kr X.K n f) := by
 intro pins s Z H xs us Q I r h
 obtain ⟨x, g, rfl, e, q⟩ := h
 obtain ⟨u, w, rfl, rx, rw'⟩ := rW r
 cases rw'
 have fin : ∀ k : Bool, Q (.bl k) H -> ∀ t, EP X pins Z Q (.bool k) { s with toks := t } := λ k q t => ⟨.bl k, H, I.tok t, rfl, q⟩
 cases x with
 | non => cases g <;> first | exact (show False from e).elim | (cases rx; exact h1 (fin _ q))
 | bl b => cases g <;> first | exact (show False from e).elim | (cases rx; exact h2 (fin _ q))
 | int i => cases g <;> first | exact (show False from e).elim | (obtain ⟨t, rfl⟩ := rx; exact h3 (fin _ q))
 | str y => cases g <;> first | exact (show False from e).elim | (obtain ⟨t, rfl⟩ := rx; exact h4 (fin _ q))
 | ref a =>
  cases rx
  cases g with
  | tup =>
   obtain ⟨xs, hx⟩ := (show ∃ xs, bq X.K H a xs from e)
   obtain ⟨its, _, ⟨o, ho, hc, _⟩, _⟩ := I.tuple hx
   exact h5 ho hc (fin _ q)
  | lst =>
   obtain ⟨xs, hx⟩ := (show ∃ xs, aZ X.K H a xs from e)
   obtain ⟨its, _, ⟨o, n, ho, hc, _⟩, _⟩ := I.list hx
   exact h6 ho hc (fin _ q)
  | dic =>
   obtain ⟨kvs, hx⟩ := (show ∃ kvs, H a = some (.dK kvs) from e)
   obtain ⟨_, _, vs, _, o, es, ep, ho, hc, _⟩ := (show cA X.prog X.w H s.heap a (.dK kvs) from I.hok a _ hx)
   exact h7 ho hc.1 (fin _ q)
  | non => exact (show False from e).elim
  | bl => exact (show False from e).elim
  | int => exact (show False from e).elim
  | str => exact (show False from e).elim
 | _ => exact (show False from e).elim
theorem xb : cz X (.builtin "isinstance") (kr X.K "int" Tg.isInt) := nV (λ q => IsiPair.NoneType_int (q _)) (λ q => IsiPair.bool_int (q _)) (λ q => IsiPair.int_int (q _)) (λ q => IsiPair.str_int (q _))
 (λ ho hc q => uj (isinstance_false_tuple (by decide) PySem.F.isi_meta_int PySem.F.sub_tuple_int) ⟨⟨_, ho, hc⟩, q _⟩) (λ ho hc q => uj (isinstance_false_list (by decide) PySem.F.isi_meta_int PySem.F.sub_list_int) ⟨⟨_, ho, hc⟩, q _⟩) (λ ho hc q => uj (isinstance_false_dict (by decide) PySem.F.isi_meta_int PySem.F.sub_dict_int) ⟨⟨_, ho, hc⟩, q _⟩)
theorem sS : cz X (.builtin "isinstance") (kr X.K "bool" Tg.isBool) := nV (λ q => IsiPair.NoneType_bool (q _)) (λ q => IsiPair.bool_bool (q _)) (λ q => IsiPair.int_bool (q _)) (λ q => IsiPair.str_bool (q _))
 (λ ho hc q => uj (isinstance_false_tuple (by decide) PySem.F.isi_meta_bool PySem.F.sub_tuple_bool) ⟨⟨_, ho, hc⟩, q _⟩) (λ ho hc q => uj (isinstance_false_list (by decide) PySem.F.isi_meta_bool PySem.F.sub_list_bool) ⟨⟨_, ho, hc⟩, q _⟩) (λ ho hc q => uj (isinstance_false_dict (by decide) PySem.F.isi_meta_bool PySem.F.sub_dict_bool) ⟨⟨_, ho, hc⟩, q _⟩)
theorem jT : cz X (.builtin "isinstance") (kr X.K "str" Tg.isStr) := nV (λ q => IsiPair.NoneType_str (q _)) (λ q => IsiPair.bool_str (q _)) (λ q => IsiPair.int_str (q _)) (λ q => IsiPair.str_str (q _))
 (λ ho hc q => uj (isinstance_false_tuple (by decide) PySem.F.isi_meta_str PySem.F.sub_tuple_str) ⟨⟨_, ho, hc⟩, q _⟩) (λ ho hc q => uj (isinstance_false_list (by decide) PySem.F.isi_meta_str PySem.F.sub_list_str) ⟨⟨_, ho, hc⟩, q _⟩) (λ ho hc q => uj (isinstance_false_dict (by decide) PySem.F.isi_meta_str PySem.F.sub_dict_str) ⟨⟨_, ho, hc⟩, q _⟩)
theorem pK : cz X (.builtin "isinstance") (kr X.K "tuple" Tg.isTup) := nV (λ q => IsiPair.NoneType_tuple (q _)) (λ q => IsiPair.bool_tuple (q _)) (λ q => IsiPair.int_tuple (q _)) (λ q => IsiPair.str_tuple (q _))
 (λ ho hc q => uj (isinstance_true (Tx := "tuple") PySem.F.isi_meta_tuple PySem.F.sub_tuple_tuple) ⟨⟨_, ho, hc⟩, q _⟩) (λ ho hc q => uj (isinstance_false_list (by decide) PySem.F.isi_meta_tuple PySem.F.sub_list_tuple) ⟨⟨_, ho, hc⟩, q _⟩) (λ ho hc q => uj (isinstance_false_dict (by decide) PySem.F.isi_meta_tuple PySem.F.sub_dict_tuple) ⟨⟨_, ho, hc⟩, q _⟩)
theorem sj : cz X (.builtin "isinstance") (kr X.K "list" Tg.isLst) := nV (λ q => IsiPair.NoneType_list (q _)) (λ q => IsiPair.bool_list (q _)) (λ q => IsiPair.int_list (q _)) (λ q => IsiPair.str_list (q _))
 (λ ho hc q => uj (isinstance_false_tuple (by decide) PySem.F.isi_meta_list PySem.F.sub_tuple_list) ⟨⟨_, ho, hc⟩, q _⟩) (λ ho hc q => uj (isinstance_true (Tx := "list") PySem.F.isi_meta_list PySem.F.sub_list_list) ⟨⟨_, ho, hc⟩, q _⟩) (λ ho hc q => uj (isinstance_false_dict (by decide) PySem.F.isi_meta_list PySem.F.sub_dict_list) ⟨⟨_, ho, hc⟩, q _⟩)
theorem dj {e : Expr} {te : TE} {n : Str} {T : String} {f : Tg -> Bool} {p p2 pos : Pos} (hc : cz X (.builtin "isinstance") (kr X.K T f)) (hg : Gl X "isinstance") (hg2 : Gl X n) (hm : X.mg "isinstance" = none) (hm2 : X.mg n = none) (hb : bootBuiltins n = some (.type T)) (he : PE X e te)
  (hn : n ≠ "__name__" := by decide) (hd : (n == ("__debug__" : Str)) = false := by decide)
  (hs1 : starEach [e, .Name n p2] X.env = (false, eval e X.env) :: starEach [.Name n p2] X.env := by rfl) (hs2 : starEach [.Name n p2] X.env = (false, eval (.Name n p2) X.env) :: starEach [] X.env := by rfl)
  (hpl : (backTo pos (starEach [.Name n p2] X.env)).any (·.1) = false := by rfl) :
  PE X (.Call (.Name "isinstance" p) [e, .Name n p2] [] pos) (Ic (kr X.K T f) (bW te (bW (tC (.ty T)) tNil))) :=
 aN hc hg hm ib (af he (af (qD (v := .ty T) hg2 hm2 hb rfl hn hd) aA hs2) hs1) (by decide) (by decide) hs1 hpl
end
theorem ah.new {H : Hp} {p : Addr} (h : H p = none) (o : HO) : ah H (upd H p o) := λ b u q => by rw [am (cH q h)]; exact q
theorem ah.tup {K : Fg} {H H' : Hp} {a : Addr} {xs : List V} (e : ah H H') (h : bq K H a xs) : bq K H' a xs := by
 rcases h with (h | ⟨o, h⟩) | h
 ·exact .inl (.inl (e _ _ h))
 ·exact .inl (.inr ⟨o, e _ _ h⟩)
 ·exact .inr h
structure EC (K : Fg) (x qual : Str) (st : Stmt) (f : Addr) (fd : FuncData) : Prop where
 ex : ∃ (oc : Value) (od : Option Addr) (dV kV doc pm : Value) (an : Option Addr) (cdv ct : Value) (osl : Array (Option Value)),
  fd = PySem.W.fnOf x qual (cF st) (bF st) (ae st) dV kV doc pm an cdv ct /\ K.lookup f = some ⟨oc, od, .func fd, osl⟩ /\ PySem.W.codeIn K cdv qual = true
 kp : PySem.W.keepIn K (.ref f) = true
theorem Dq {K : Fg} {x qual : Str} {st : Stmt} {f : Addr} {oc : Value} {od an : Option Addr} {osl : Array (Option Value)} {dV kV doc pm cdv ct : Value} (l : K.lookup f = some ⟨oc, od, .func (PySem.W.fnOf x qual (cF st) (bF st) (ae st) dV kV doc pm an cdv ct), osl⟩)
  (c : PySem.W.codeIn K cdv qual = true) (k : PySem.W.keepIn K (.ref f) = true) : EC K x qual st f (PySem.W.fnOf x qual (cF st) (bF st) (ae st) dV kV doc pm an cdv ct) := ⟨⟨oc, od, dV, kV, doc, pm, an, cdv, ct, osl, rfl, l, c⟩, k⟩
section
variable {X : Cx}
theorem pQ : gd X (binaryOp .FloorDiv) (rI (λ _ j => j ≠ 0 /\ cr j) λ i j => .int (i.fdiv j)) := HM λ _ _ _ _ _ _ _ hc q => floordiv_int hc.1 q (.inl (PyProof.noPylong_of_log2 (lL hc.2)))
end
end L2
namespace PySem
theorem Obj.dict_mapFields (o : Obj) (f : Array Value -> Array Value) : (Obj.mapFields f o).dict = o.dict := by
 obtain ⟨c, d, dt, sl⟩ := o
 cases dt <;> rfl
def Heap.TrX (h base : Heap) (e : Addr) (cls : Value) (dx : Option Addr) (fl : Value) : Prop :=
 ∃ (x : Obj) (vs : Array Value) (T : Addr) (y : Obj) (ts : Array Value), h.get? e = some x /\ (x.cls = cls /\ x.dict = dx /\ (dx = none -> vs[2]? = some .none)) /\ x.data = .fields vs /\ vs[1]? = some (.ref T) /\ base.get? T = none /\ T ≠ e /\
  h.get? T = some y /\ y.data = .fields ts /\ ts[3]? = some fl
def Heap.OnX (base : Heap) (l : List Env) (e : Addr) (cls : Value) (dx : Option Addr) (fl : Value) (h : Heap) : Prop := base.StaysIn h /\ base.get? e = none /\ h.FunFrames base l /\ h.TrX base e cls dx fl
abbrev Heap.FlyX (base : Heap) (l : List Env) (e : Addr) (cls : Value) (dx : Option Addr) (h : Heap) : Prop := Heap.OnX base l e cls dx .none h
section
variable {M : Model} {A : Around} {E : Value -> Shared -> Prop} {s : Shared} {base : Heap} {env : Env} {outer l : List Env} {L e : Addr} {cls : Value} {dx : Option Addr} {Q : Unit -> Shared -> Prop}
theorem noteX {x : Obj} {vs : Array Value} {head : Value} {more : Bool} (hA : A.frames = some (env :: outer)) (hF : s.heap.FunFrames base (env :: outer)) (hL : env.frame = some L)
  (hx : s.heap.get? e = some x) (hB : base.StaysIn s.heap) (hn : base.get? e = none) (hv : x.data = .fields vs) (h2 : 1 < vs.size) (hc2 : x.dict = none -> vs[2]? = some .none)
  (k : ∀ h', Heap.OnX base (env :: outer) e x.cls x.dict (rawInt L) h' -> s.heap.UpToSlots h' -> Q () { s with heap := h' }) :
  wpAny M A (do let a <- frameOf env; let pl <- entryPlaceOf L more; let b <- EntryCells.newEntry head a .none (rawInt L) .none pl; setField (.ref e) 1 b) Q E s := by
 have out : e ∉ (env :: outer).filterMap (·.frame) := λ z => by
  obtain ⟨_, o, ho, hnf⟩ := hF.mem z
  rw [hx] at ho; cases ho; exact hnf vs hv
 refine cx (wpAny_frameOf_fun hA hF hL λ g sg => ?_)
 refine cx (wpAny_entryPlaceOf λ pl hpl => ?_)
 unfold EntryCells.newEntry newFields
 refine cx (uY ?_ (hpl.sizeOk5 _ _ _ _ _))
 have x1 : g.get? e = some x := (sg.2.1 e out).trans hx
 have B1 : base.StaysIn g := λ b o q => (sg.2.1 b λ z => by rw [(hF.mem z).1] at q; cases q).trans (hB b o q)
 have x2 := e9 (h := g) { cls := .type "traceback", dict := none, data := .fields ([head, .ref L, .none, rawInt L, .none] ++ (if pl.isEmpty then List.replicate 6 Value.none else pl)).toArray } x1
 refine wpAny_setField x2 hv h2 (k _ ?_ ?_)
 all_goals have neT : g.objs.size ≠ e := Nat.ne_of_gt (j5 x1)
 all_goals have kp : ∀ b o, b ≠ e -> g.get? b = some o -> ((g.push { cls := .type "traceback", dict := none, data := .fields ([head, .ref L, .none, rawInt L, .none] ++ (if pl.isEmpty then List.replicate 6 Value.none else pl)).toArray }).update e (Obj.mapFields (·.setIfInBounds 1 (Value.ref g.objs.size)))).get? b = some o := λ b o hb q => (Heap.get?_update_other _ _ (Ne.symm hb)).trans (e9 _ q)
 all_goals have nr : ∀ b o, s.heap.get? b = some o -> (∀ vs, o.data ≠ .fields vs) -> b ≠ e := λ b o q hnf z => by rw [z, hx] at q; cases q; exact hnf vs hv
 ·have hv3 := Obj.data_mapFields hv (·.setIfInBounds 1 (Value.ref g.objs.size))
  refine ⟨λ b o q => kp b o (λ z => by rw [z, hn] at q; cases q) (B1 b o q), hn, hF.of_keeps λ b o q hnf => ?_, ?_⟩
  ·obtain ⟨sl, q2⟩ := sg.2.2 b o q
   exact ⟨_, kp b _ (nr b o q hnf) q2, rfl⟩
  ·exact ⟨_, _, g.objs.size, _, _, Heap.get?_update_self _ x2 (Obj.isFreed_of_fields hv3), ⟨Obj.cls_mapFields _ _, Obj.dict_mapFields _ _, λ z => by rw [Array.getElem?_setIfInBounds_ne (by decide)]; exact hc2 z⟩, hv3, by simp [h2], B1.fresh, neT, (Heap.get?_update_other _ _ (Ne.symm neT)).trans (m8 g rfl), rfl, by
    first | (simp; done) | (rcases hpl with rfl | ⟨_, _, _, _, _, _, _, rfl⟩ <;> simp)⟩
 ·intro b o q hnf
  obtain ⟨sl, q2⟩ := sg.2.2 b o q
  exact ⟨sl, kp b _ (nr b o q hnf) q2⟩
theorem landsX {fl : Value} (z : Heap.OnX base l e cls dx fl s.heap) (k : ∀ h', Heap.FlyX base l e cls dx h' -> s.heap.UpToSlots h' -> Q () { s with heap := h' }) : wpAny M A (setFlight (.ref e) none) Q E s := by
 obtain ⟨hB, hn, hF, x, vs, T, y, ts, hx, hc, hv, h1, nT, Te, hT, hy, h3⟩ := z
 have ot : ∀ b, b ≠ T -> (s.heap.update T (Obj.mapFields (·.setIfInBounds 3 ((none : Option Addr).elim Value.none λ f => rawInt f)))).get? b = s.heap.get? b := λ b hb => Heap.get?_update_other _ _ (Ne.symm hb)
 have nr : ∀ b o, s.heap.get? b = some o -> (∀ vs, o.data ≠ .fields vs) -> b ≠ T := λ b o q hnf z => by rw [z, hT] at q; cases q; exact hnf ts hy
 have sz := (Array.getElem?_eq_some_iff.mp h3).1
 unfold setFlight
 refine cx (vK hx hv h1 ?_)
 rw [i9 (show (Value.ref T != Value.none) = true from by simp)]
 refine wpAny_setField hT hy sz (k _ ⟨λ b o q => (ot b λ z => by rw [z, nT] at q; cases q).trans (hB b o q), hn, hF.of_keeps λ b o q hnf => ⟨o, (ot b (nr b o q hnf)).trans q, rfl⟩,
  x, vs, T, _, _, (ot e (Ne.symm Te)).trans hx, hc, hv, h1, nT, Te, Heap.get?_update_self _ hT (Obj.isFreed_of_fields (Obj.data_mapFields hy _)), Obj.data_mapFields hy _, by simp [sz]⟩
  λ b o q hnf => ⟨o.slots, (ot b (nr b o q hnf)).trans q⟩)
theorem leavesNewX {x : Obj} {vs : Array Value} (hA : A.frames = some (env :: outer)) (hL : env.frame = some L) (hB : base.StaysIn s.heap) (hF : s.heap.FunFrames base (env :: outer)) (hx : s.heap.get? e = some x) (hn : base.get? e = none) (hv : x.data = .fields vs) (h1 : vs[1]? = some .none) (hc2 : x.dict = none -> vs[2]? = some .none)
  (k : ∀ h', Heap.FlyX base outer e x.cls x.dict h' -> s.heap.UpToSlots h' -> Q () { s with heap := h' }) : wpAny M A (leaving env (.ref e)) Q E s := by
 unfold leaving noteFrame
 simp only [hL]
 refine cx (cx (vK hx hv h1 ?_))
 rw [gS (by decide)]
 refine noteX hA hF hL hx hB hn hv (Array.getElem?_eq_some_iff.mp h1).1 hc2 λ g1 z1 u1 => ?_
 refine landsX (s := { s with heap := g1 }) z1 λ g2 z2 u2 => ?_
 obtain ⟨k1, k2, ⟨_, _, k3⟩, k4⟩ := z2
 exact k g2 ⟨k1, k2, k3, k4⟩ (u1.trans u2)
end
end PySem
namespace L2
open PySem PySem.Spec PyProof.Rows
def tR (P : Program) (w : World) : CXT := λ outer H s E e s' => ∃ (a C : Addr) (dx : Option Addr) (H' : Hp) (B : Heap),
 e = .ref a /\ s'.os = s.os /\ AllBare s'.gens /\ Un (jV outer) [] H H' s.heap s'.heap /\ lU P w H' B /\ Heap.FlyX B outer a (.ref C) dx s'.heap /\
 (∀ b o, s.heap.get? b = some o -> H b = none -> b ∉ jV outer -> B.get? b = some o) /\ (∀ b o, s.heap.get? b = some o -> b ∉ jV outer -> ∃ o', B.get? b = some o') /\ E (.ref C) dx H'
theorem db {P : Program} {w : World} {X : Cx} : qM (tR P w) X E0 := λ _ _ _ _ _ _ _ h => by
 obtain ⟨_, _, _, _, _, _, _, _, _, _, _, _, _, q⟩ := h
 exact q.elim
section
variable {P : Program} {w : World} {K : Fg} {mg : Str -> Option Value} {base : Heap} {N : List Str} {qual : Str} {scope : Scope} {f : Addr} {cd : Value} {A : Around} {outer : List Env} {s : Shared} {H : Hp} {E : XK}
 {pins : Pn} {Z : St} {H1 : Hp} {s1 : Shared}
theorem Et {CX : CXT} {b : Addr} : b ∈ jV (ee CX P w K mg base N qual scope f cd A outer s H E).stack ↔ b = s.heap.objs.size ∨ b ∈ jV outer := by
 show b ∈ (envOfC qual scope s.heap.objs.size f cd :: outer).filterMap (·.frame) ↔ _
 rw [vv]
 exact j8
theorem xL {h' : Heap} {e C : Addr} {vs : List Value} (I : Inv (ee (tR P w) P w K mg base N qual scope f cd A outer s H E) pins Z H1 s1) (hx : Heap.MadeExcOf s1.heap h' e (.ref C) vs) (q : E (.ref C) none H1) :
  (ee (tR P w) P w K mg base N qual scope f cd A outer s H E).xe (.ref e) { s1 with heap := h' } := by
 have hin : ∀ env ∈ (ee (tR P w) P w K mg base N qual scope f cd A outer s H E).stack, ∀ b, env.frame = some b -> b ∈ jV (ee (tR P w) P w K mg base N qual scope f cd A outer s H E).stack := λ env he b hb => List.mem_filterMap.mpr ⟨env, he, hb⟩
 have toB : ∀ b o, s1.heap.get? b = some o -> b ∉ jV (ee (tR P w) P w K mg base N qual scope f cd A outer s H E).stack -> (PySem.W.hideAll s1.heap (jV (ee (tR P w) P w K mg base N qual scope f cd A outer s H E).stack)).get? b = some o := λ b o e n => PySem.W.hideAll_get _ e n
 have hl := PySem.W.funFrames_hide (as := jV (ee (tR P w) P w K mg base N qual scope f cd A outer s H E).stack) I.stack hin
 have nstk : ∀ b o, s.heap.get? b = some o -> b ∉ jV outer -> b ∉ jV (ee (tR P w) P w K mg base N qual scope f cd A outer s H E).stack := λ b o e n z => by
  rcases Et.mp z with z | z
  ·rw [z] at e
   exact absurd (j5 e) (Nat.lt_irrefl _)
  ·exact n z
 have hB : lU P w H1 (PySem.W.hideAll s1.heap (jV (ee (tR P w) P w K mg base N qual scope f cd A outer s H E).stack)) := λ b u eu => (I.hok b u eu).stay (λ c v hc q => toB c v q λ z => by
  have n := I.stkFree c z
  rcases hc with hc | hc
  ·rw [hc, eu] at n; cases n
  ·rw [hc] at n; cases n) (λ _ q => q) λ _ _ q => q
 obtain ⟨tt, hmade, _, _⟩ := hx.there
 have fresh : (PySem.W.hideAll s1.heap (jV (ee (tR P w) P w K mg base N qual scope f cd A outer s H E).stack)).get? e = none := by
  cases z : (PySem.W.hideAll s1.heap (jV (ee (tR P w) P w K mg base N qual scope f cd A outer s H E).stack)).get? e with
  | none => rfl
  | some o => have := PySem.W.of_hideAll _ z; rw [hx.new] at this; cases this
 refine leavesNewX (base := PySem.W.hideAll s1.heap (jV (ee (tR P w) P w K mg base N qual scope f cd A outer s H E).stack)) (s := { s1 with heap := h' }) I.ok.frames rfl (λ b o q => hx.keeps b o (PySem.W.of_hideAll _ q)) (hl.of_keeps λ b o q _ => ⟨o, hx.keeps b o q, rfl⟩) hmade fresh rfl rfl (λ _ => rfl) λ h2 fl us => ?_
 refine ⟨e, C, none, H1, _, rfl, I.os, I.bare, ?_, hB, fl, ?_, ?_, q⟩
 ·have cs : ∀ b ∈ jV outer, ∀ o, s1.heap.get? b = some o -> ∃ sl, h2.get? b = some { o with slots := sl } := λ b hb o e => by
   obtain ⟨_, o', e', hd⟩ := I.funs.mem hb
   rw [e] at e'; cases e'
   exact us b o (hx.keeps b o e) hd
  exact {
   keep := λ b o e n hb _ => fl.1 b o (toB b o (I.base.keep b o e n hb (by exact λ z => nomatch z)) (nstk b o e hb))
   slot := λ b o e n hb _ => by
    obtain ⟨sl, e1⟩ := I.base.slot b o e n hb (by exact λ z => nomatch z)
    obtain ⟨sl', e2⟩ := cs b hb _ e1
    exact ⟨sl', e2⟩
   free := λ b o e n _ => I.base.free b o e n (by exact λ z => nomatch z)
   there := λ b o e _ => by
    obtain ⟨o', e1⟩ := I.base.there b o e (by exact λ z => nomatch z)
    by_cases hb : b ∈ jV outer
    ·obtain ⟨sl, e2⟩ := cs b hb _ e1
     exact ⟨_, e2⟩
    ·exact ⟨o', fl.1 b o' (toB b o' e1 (nstk b o e hb))⟩
   tups := I.base.tups
   frzs := I.base.frzs
   tbls := I.base.tbls }
 ·exact λ b o e n hb => toB b o (I.base.keep b o e n hb (by exact λ z => nomatch z)) (nstk b o e hb)
 ·intro b o e hb
  obtain ⟨o', e1⟩ := I.base.there b o e (by exact λ z => nomatch z)
  exact ⟨o', toB b o' e1 (nstk b o e hb)⟩
theorem EC.okE {x qual : Str} {st : Stmt} {f : Addr} {fd : FuncData} {N ps : List Str} {k : Nat} {sp : Sp} (F : EC K x qual st f fd) (S : ao N ps (ae st)) (len : ∀ vs H Q E, sp vs H Q E -> vs.length = ps.length)
  (hbody : ∀ (cdv : Value) (A : Around) (outer : List Env) (s : Shared) (H : Hp) (vs : List V) (Q : VK) (E : XK), dr k (A.deeper (envOfC qual (ae st) s.heap.objs.size f cdv)) -> sp vs H Q E ->
   ∃ t, xx (ee (tR P w) P w K mg base N qual (ae st) f cdv A outer s H E) (bF st) t /\ t { nx := λ _ H' => Q .non H', rt := Q } (cV N vs) H) : dL P w K mg base (tR P w) (k + 1) f fd ps sp := by
 obtain ⟨oc, od, dV, kV, doc, pm, an, cdv, ct, osl, rfl, lk, hcd⟩ := F.ex
 exact ES lk hcd S len λ A outer s H vs Q E hr hsp => hbody cdv A outer s H vs Q E hr hsp
end
abbrev Gy : List Value := [.type "ValueError", .type "Exception", .type "BaseException", .type "object"]
theorem sL {p : Program} {mg mb : Str -> Option Value} {h : Heap} (g : h.Ns mainGlobals mg) (b : h.Ns builtinsNs mb) (nl : h.NoLimit) (bl : ∀ x : Str, x ≠ "__name__" -> mb x = bootBuiltins x) :
  ∃ loose, PySem.W.TopRead p loose mg mb h := by
 obtain ⟨o, es, ep, ho, hd, hk, hm⟩ := id g
 refine ⟨es.toList.filterMap (λ (e : DictEntry) => match e.key with | .str n _ => some n | _ => none), ⟨g, b, nl, bl, λ x _ hx _ _ _ => ?_⟩⟩
 rw [<- hm x]
 unfold nsFind findBy
 rw [Option.map_eq_none_iff, Array.find?_eq_none]
 intro e he hs
 obtain ⟨n, t, hn⟩ := hk e he
 apply hx
 refine List.mem_filterMap.mpr ⟨e, Array.mem_toList_iff.mpr he, ?_⟩
 rw [hn] at hs ⊢
 have e2 : n = x := by simpa [Value.isStr] using hs
 rw [e2]
def HP (C : Addr) (E : XK) (t : TA) : TS := λ _ Z H => t Z H λ vs H1 => vs.length <= sizeLine /\ E (.ref C) none H1
def zo (X : Cx) (C : Addr) (E : XK) : Prop := ∀ (pins : Pn) (Z : St) (H : Hp) (s : Shared) (h' : Heap) (e : Addr) (vs : List Value), Inv X pins Z H s -> Heap.MadeExcOf s.heap h' e (.ref C) vs -> E (.ref C) none H -> X.xe (.ref e) { s with heap := h' }
theorem wB {P : Program} {w : World} {K : Fg} {mg : Str -> Option Value} {base : Heap} {N : List Str} {qual : Str} {scope : Scope} {f C : Addr} {cd : Value} {A : Around} {outer : List Env} {s : Shared} {H : Hp} {E : XK} :
  zo (ee (tR P w) P w K mg base N qual scope f cd A outer s H E) C E := λ _ _ _ _ _ _ _ I me q => xL I me q
section
variable {X : Cx} {E : XK} {x : Str} {np cpos pos : Pos} {e0 : Expr} {es : List Expr} {t : TA} {C : Addr}
theorem tV (hc : X.calm = true) (O : PySem.W.excIn X.K C Gy "ValueError.__new__" = true) (hn : PySem.W.nsIn X.K mainGlobals x = some (some (.ref C))) (hm : X.mg x = some (.ref C)) (hg : Gl X x) (hx : zo X C E) (ha : PA X (e0 :: es) t)
  (hd : (x == ("__debug__" : Str)) = false := by decide) (he : starEach (e0 :: es) X.env = (false, eval e0 X.env) :: starEach es X.env := by rfl) (hpl : (backTo cpos (starEach es X.env)).any (·.1) = false := by rfl) :
  PS X (.Raise (some (.Call (.Name x np) (e0 :: es) [] cpos)) none pos) (HP C E t) := by
 intro pins s Z H D I h
 obtain ⟨mb, b1, b2⟩ := I.mod.blt
 obtain ⟨loose, TR⟩ := sL (p := X.prog) I.mod.glob b1 I.mod.nolimit b2
 have OC := PySem.W.own_of_in I.mod.kin TR hn O
 obtain ⟨tl, Nn, nm, qq, bs, hdct, sn, sub, ab, col, dd, k0, k1, k2, k3, k5, mN, oC, oN, oi, oT⟩ := OC.obj
 have hp2 : (backTo cpos (starEach (e0 :: es) X.env)).any (·.1) = false := by
  rw [he]
  show (false || (backTo cpos (starEach es X.env)).any (·.1)) = false
  rw [hpl]
  rfl
 refine wpAny_Raise_call_subU (C := C) (nm := nm) (q := qq) (N := Nn) (bs := bs) (bm := tl) (hdct := hdct) (sn := sn) (sub := sub) (ab := ab) (col := col) (dd := dd) (k0 := k0) (k1 := k1) (k2 := k2) (k3 := k3) (k5 := k5)
  PySem.F.excBase_ValueError (by decide) PySem.F.excBase_ValueError (mN := mN) (oT.hasType PySem.F.excBase_ValueError.hasBase) (I.ok.hd hc) hp2 oi (xB I hg hm ⟨rfl, ?_⟩ hd)
 have hA := ha cpos pins s Z H _ I h
 rw [he] at hA ⊢
 refine Calls.evalArgs_plain (cj hA λ us s2 ⟨vs, H2, I2, r2, hl, q⟩ => ⟨rfl, by rw [<- r2.length]; exact hl, I2.bk _ _ oC, oN.keeps I2.bk, oT.keeps I2.bk, λ h' e me => hx pins Z H2 s2 h' e us I2 me q⟩)
end
section
variable {prog : Program} {w : World} {A : Around} {R : Result -> Shared -> Prop} {s : Shared}
noncomputable abbrev NB (prog : Program) (w : World) (A : Around) (env : Env) (R : Result -> Shared -> Prop) : Value -> Shared -> Prop := notedBy (model prog w) A env λ e s' => R (.error e) s'
theorem Jd {elt tg iter : Expr} {scope : Scope} {pos : Pos} {itv acc : Value} {env : Env} (J : Nat -> Shared -> Prop)
  (turn : ∀ n s, J n s -> wpAny (model prog w) A (pyNext itv) (λ r s1 => match r with
   | none => R (.ok .next) s1
   | some v => wpAny (model prog w) A (letOwnedTupleGo tg itv v) (λ _ s2 => wpAny (model prog w) A (assign tg env v) (λ _ s3 => wpAny (model prog w) A (eval elt env) (λ x s4 =>
     wpAny (model prog w) A (call (.builtin "list.append") [acc, x]) (λ _ s5 => ∃ m, m < n /\ J m s5) (NB prog w A env R) s4) (NB prog w A env R) s3) (NB prog w A env R) s2) (NB prog w A env R) s1) (NB prog w A env R) s)
  (n : Nat) (h : J n s) : codeAny (model prog w) A (.compLoop (.ListComp elt [⟨tg, iter, [], 0⟩] scope pos) 0 itv acc env) R s := by
 refine codeAny_loop rfl J (λ n s hJ => ?_) n h
 show wpAny _ _ ((compTurn (.ListComp elt [⟨tg, iter, [], 0⟩] scope pos) 0 itv acc env).onRaise (λ x => do noteFrame x env; theTreesLotGoes x)) _ _ s
 refine wpAny_noted ?_
 rw [compTurn_list1]
 refine cx (wpAny_standAt (cx (ur (turn n s hJ) (λ r s1 z => ?_) λ _ _ q => q)))
 match r, z with
 | none, z => exact fh z
 | some v, z =>
  exact cx (ur z (λ _ s2 z => cx (ur z (λ _ s3 z => cx (cx (ur z (λ x s4 z =>
   cx (ur z (λ _ s5 z => fh (fh ⟨rfl, z⟩)) λ _ _ q => q)) λ _ _ q => q))) λ _ _ q => q)) λ _ _ q => q)
end
theorem fG {env : Env} : ∀ (names : List (Str × NameKind)) (acc : List (Str × Addr)), (∀ y ∈ names, y.2 = .free -> ∃ c, env.cells.lookup y.1 = some c) -> (∀ x c, acc.lookup x = some c -> env.cells.lookup x = some c) ->
  ∃ cl, (forIn names acc (λ (x : Str × NameKind) cs => if (x.2 == NameKind.free) = true then (do let __do_lift <- cellOf env x.1; pure (ForInStep.yield ((x.1, __do_lift) :: cs))) else pure (ForInStep.yield cs)) : Sem (List (Str × Addr))) = pure cl /\
   (∀ x c, cl.lookup x = some c -> env.cells.lookup x = some c) /\ (∀ x, (∃ c, acc.lookup x = some c) -> ∃ c, cl.lookup x = some c) /\ ∀ y ∈ names, y.2 = .free -> ∃ c, cl.lookup y.1 = some c
 | [], acc, _, ha => ⟨acc, rfl, ha, λ _ h => h, λ _ h => nomatch h⟩
 | y :: r, acc, hn, ha => by
  by_cases hf : y.2 = .free
  ·obtain ⟨c, hc⟩ := hn y kv hf
   obtain ⟨cl, e, h1, h2, h3⟩ := fG r ((y.1, c) :: acc) (λ z hz => hn z (n8 _ hz)) (λ x d e => by
    rw [List.lookup_cons] at e
    cases q : x == y.1 with
    | true => rw [q] at e; cases e; rw [eq_of_beq q]; exact hc
    | false => rw [q] at e; exact ha x d e)
   refine ⟨cl, ?_, h1, λ x ⟨d, hd⟩ => h2 x ?_, λ z hz zf => ?_⟩
   ·rw [List.forIn_cons, i9 (by rw [hf]; rfl)]
    have ec : cellOf env y.1 = pure c := by unfold cellOf; rw [hc]
    rw [ec]
    exact e
   ·rw [List.lookup_cons]
    cases q : x == y.1 with
    | true => exact ⟨c, rfl⟩
    | false => exact ⟨d, hd⟩
   ·rcases j8.mp hz with z1 | z1
    ·subst z1
     exact h2 z.1 ⟨c, by rw [List.lookup_cons, beq_self_eq_true]⟩
    ·exact h3 z z1 zf
  ·obtain ⟨cl, e, h1, h2, h3⟩ := fG r acc (λ z hz => hn z (n8 _ hz)) ha
   refine ⟨cl, ?_, h1, h2, λ z hz zf => ?_⟩
   ·rw [List.forIn_cons, gS (by simpa using hf)]
    exact e
   ·rcases j8.mp hz with z1 | z1
    ·subst z1; exact absurd zf hf
    ·exact h3 z z1 zf
theorem vI {env : Env} {sc : Scope} (h : ∀ y ∈ sc.names, y.2 = .free -> ∃ c, env.cells.lookup y.1 = some c) :
  ∃ cl, closureFor sc env = pure cl /\ (∀ x c, cl.lookup x = some c -> env.cells.lookup x = some c) /\ ∀ y ∈ sc.names, y.2 = .free -> ∃ c, cl.lookup y.1 = some c := by
 obtain ⟨cl, e, h1, _, h3⟩ := fG sc.names [] h (λ x c e => by simp at e)
 refine ⟨cl, ?_, h1, h3⟩
 unfold closureFor
 simp only [e]
 rfl
structure uG (X : Cx) (tg : Str) (sc : Scope) (fr : List (Str × Nat)) : Prop where
 kind : sc.kind = .function
 nocell : ∀ y ∈ sc.names, y.2 ≠ .cell
 locs : ∀ y ∈ sc.names, y.2 = .local -> sc.names.lookup y.1 = some .local
 tgl : sc.names.lookup tg = some .local
 fre : ∀ y ∈ sc.names, y.2 = .free -> X.env.scope.names.lookup y.1 = some .cell ∨ X.env.scope.names.lookup y.1 = some .free
 nd : (tg :: fr.map (·.1)).Nodup
 vis : ∀ p ∈ fr, X.N[p.2]? = some p.1 /\ (X.env.scope.names.lookup p.1 = some .cell ∨ X.env.scope.names.lookup p.1 = some .free) /\ sc.names.lookup p.1 = some .free
noncomputable abbrev Cx.blk (X : Cx) (Nc : List Str) (sc : Scope) (cl : List (Str × Addr)) (C : Addr) (s3 : Shared) (H3 : Hp) (fp : List Addr) : Cx :=
 { X with N := Nc, s₀ := s3, H₀ := H3, env := compEnvC sc cl C X.env, outer := X.stack, ex := fp, fn := λ _ => false, pn := [], xe := λ _ _ => False }
theorem fT {env : Env} : ∀ {names : List (Str × NameKind)} {x : Str} {k : NameKind}, (∀ y ∈ names, y.2 ≠ .cell) -> (k = .cell ∨ k = .free) ->
  (names.map λ (n, k) => if (k == NameKind.free && env.scope.kind == .function && env.kindOf n == some .cell) then (n, NameKind.cell) else (n, k)).lookup x = some k -> ∃ y ∈ names, y.1 = x /\ y.2 = .free
 | [], _, _, _, _, e => by simp at e
 | (n, k') :: r, x, k, hn, hk, e => by
  have ih := @fT env r x k (λ y hy => hn y (n8 _ hy)) hk
  rw [kw] at e
  by_cases hc : (k' == NameKind.free && env.scope.kind == .function && env.kindOf n == some .cell) = true
  ·simp only [hc, if_true, List.lookup_cons] at e
   cases q : x == n with
   | true =>
    have hf : k' = .free := by
     simp only [uR, beq_iff_eq] at hc
     exact hc.1.1
    exact ⟨(n, k'), kv, (eq_of_beq q).symm, hf⟩
   | false =>
    rw [q] at e
    obtain ⟨y, h1, h2⟩ := ih e
    exact ⟨y, n8 _ h1, h2⟩
  ·simp only [hc, Bool.false_eq_true, if_false, List.lookup_cons] at e
   cases q : x == n with
   | true =>
    rw [q] at e
    have ek : k' = k := nS e
    rcases hk with z | z
    ·exact absurd (ek.trans z) (hn (n, k') kv)
    ·exact ⟨(n, k'), kv, (eq_of_beq q).symm, ek.trans z⟩
   | false =>
    rw [q] at e
    obtain ⟨y, h1, h2⟩ := ih e
    exact ⟨y, n8 _ h1, h2⟩
theorem fV {env : Env} : ∀ {names : List (Str × NameKind)} {x : Str}, names.lookup x = some .free ->
  (names.map λ (n, k) => if (k == NameKind.free && env.scope.kind == .function && env.kindOf n == some .cell) then (n, NameKind.cell) else (n, k)).lookup x = some .cell ∨
  (names.map λ (n, k) => if (k == NameKind.free && env.scope.kind == .function && env.kindOf n == some .cell) then (n, NameKind.cell) else (n, k)).lookup x = some .free
 | [], _, e => by simp at e
 | (n, k') :: r, x, e => by
  have ih := @fV env r x
  rw [kw]
  rw [List.lookup_cons] at e
  by_cases hc : (k' == NameKind.free && env.scope.kind == .function && env.kindOf n == some .cell) = true
  ·simp only [hc, if_true, List.lookup_cons]
   cases q : x == n with
   | true => exact .inl rfl
   | false => rw [q] at e; exact ih e
  ·simp only [hc, Bool.false_eq_true, if_false, List.lookup_cons]
   cases q : x == n with
   | true => rw [q] at e; exact .inr e
   | false => rw [q] at e; exact ih e
section
variable {X : Cx} {pins : Pn} {Z : St} {H : Hp} {s3 s4 : Shared} {tg : Str} {sc : Scope} {fr : List (Str × Nat)} {fp : List Addr} {cl : List (Str × Addr)}
def iG (Z : St) (fr : List (Str × Nat)) : St := fr.map λ p => (Z[p.2]?).join
end
noncomputable def fE (osc : Scope) (N : List Str) (tg : Str) (sc : Scope) (fr : List (Str × Nat)) : Bool :=
 decide (sc.kind = .function) && (sc.names.all λ y => decide (y.2 ≠ .cell)) && (sc.names.all λ y => decide (y.2 ≠ .local) || decide (sc.names.lookup y.1 = some .local)) && decide (sc.names.lookup tg = some .local) &&
 (sc.names.all λ y => decide (y.2 ≠ .free) || decide (osc.names.lookup y.1 = some .cell) || decide (osc.names.lookup y.1 = some .free)) && decide ((tg :: fr.map (·.1)).Nodup) &&
 (fr.all λ p => decide (N[p.2]? = some p.1) && (decide (osc.names.lookup p.1 = some .cell) || decide (osc.names.lookup p.1 = some .free)) && decide (sc.names.lookup p.1 = some .free))
theorem bM {X : Cx} {tg : Str} {sc : Scope} {fr : List (Str × Nat)} {osc : Scope} {N : List Str} (ho : X.env.scope = osc) (hN : X.N = N) (h : fE osc N tg sc fr = true) : uG X tg sc fr := by
 subst ho hN
 unfold fE at h
 simp only [uR, sa, vt, Bool.or_eq_true] at h
 obtain ⟨⟨⟨⟨⟨⟨h1, h2⟩, h3⟩, h4⟩, h5⟩, h6⟩, h7⟩ := h
 refine ⟨h1, h2, λ y hy e => ?_, h4, λ y hy e => ?_, h6, λ p hp => ?_⟩
 ·rcases h3 y hy with z | z
  ·exact absurd e z
  ·exact z
 ·rcases h5 y hy with (z | z) | z
  ·exact absurd e z
  ·exact .inl z
  ·exact .inr z
 ·obtain ⟨⟨a, b⟩, c⟩ := h7 p hp
  exact ⟨a, b, c⟩
end L2
namespace L2
open PySem
theorem AT {X : Cx} {es : List Expr} {t : TA} {i : Int} {j} {pos : Pos} (hr : PA X es t) : PA X (.Constant (.int i) j pos :: es) (bW (tC (.int i)) t) := af aD hr rfl
noncomputable def nC : List Expr -> Option (List Int)
 | [] => some []
 | .Constant (.int i) _ _ :: es => (nC es).map (i :: ·)
 | _ :: _ => none
def Fu (ns : List Int) : TA := λ _ H Q => Q (ns.map V.int) H
theorem qL {X : Cx} {es : List Expr} (ns : List Int) (h : nC es = some ns) : PA X es (Fu ns) := by
 induction es generalizing ns with
 | nil =>
  have e : ns = [] := (nS h).symm
  subst e
  exact aA
 | cons e es ih =>
  unfold nC at h
  split at h
  ·rename_i he; cases he
  ·rename_i i j pos es' he
   obtain ⟨rfl, rfl⟩ := List.cons.inj he
   cases hr : nC es with
   | none => rw [hr] at h; cases h
   | some ms =>
    rw [hr] at h
    have e : ns = i :: ms := (nS h).symm
    subst e
    exact AT (j := j) (pos := pos) (ih ms hr)
  ·cases h
end L2
namespace L2
open PySem PySem.Spec PyProof.Rows
section
variable {prog : Program} {w : World} {A : Around} {R : Result -> Shared -> Prop} {s : Shared}
noncomputable abbrev wG (ifs : List Expr) (env : Env) : Sem Bool := forIn ifs true λ c r => if r = true then do let ok <- isTrue c env (eval c env); pure (ForInStep.yield ok) else pure (ForInStep.yield r)
theorem uM {elt tg iter : Expr} {ifs : List Expr} {scope : Scope} {pos : Pos} {itv acc : Value} {env : Env} (J : Nat -> Shared -> Prop)
  (turn : ∀ n s, J n s -> wpAny (model prog w) A (pyNext itv) (λ r s1 => match r with
   | none => R (.ok .next) s1
   | some v => wpAny (model prog w) A (letOwnedTupleGo tg itv v) (λ _ s2 => wpAny (model prog w) A (assign tg env v) (λ _ s3 => wpAny (model prog w) A (wG ifs env) (λ ok s4 =>
     if ok = true then wpAny (model prog w) A (eval elt env) (λ x s5 => wpAny (model prog w) A (call (.builtin "list.append") [acc, x]) (λ _ s6 => ∃ m, m < n /\ J m s6) (NB prog w A env R) s5) (NB prog w A env R) s4
     else ∃ m, m < n /\ J m s4) (NB prog w A env R) s3) (NB prog w A env R) s2) (NB prog w A env R) s1) (NB prog w A env R) s)
  (n : Nat) (h : J n s) : codeAny (model prog w) A (.compLoop (.ListComp elt [⟨tg, iter, ifs, 0⟩] scope pos) 0 itv acc env) R s := by
 refine codeAny_loop rfl J (λ n s hJ => ?_) n h
 show wpAny _ _ ((compTurn (.ListComp elt [⟨tg, iter, ifs, 0⟩] scope pos) 0 itv acc env).onRaise (λ x => do noteFrame x env; theTreesLotGoes x)) _ _ s
 refine wpAny_noted ?_
 rw [compTurn_list]
 refine cx (wpAny_standAt (cx (ur (turn n s hJ) (λ r s1 z => ?_) λ _ _ q => q)))
 match r, z with
 | none, z => exact fh z
 | some v, z =>
  refine cx (ur z (λ _ s2 z => cx (ur z (λ _ s3 z => cx (ur z (λ ok s4 z => ?_) λ _ _ q => q)) λ _ _ q => q)) λ _ _ q => q)
  cases ok with
  | true =>
   have z' := (i9 rfl).mp z
   exact cx (cx (ur z' (λ x s5 z => cx (ur z (λ _ s6 z => fh (fh ⟨rfl, z⟩)) λ _ _ q => q)) λ _ _ q => q))
  | false =>
   have z' := (gS gV).mp z
   exact cx (fh (fh ⟨rfl, z'⟩))
end
structure dI (X : Cx) (tgs : List Str) (sc : Scope) (fr : List (Str × Nat)) : Prop where
 kind : sc.kind = .function
 nocell : ∀ y ∈ sc.names, y.2 ≠ .cell
 locs : ∀ y ∈ sc.names, y.2 = .local -> sc.names.lookup y.1 = some .local
 fre : ∀ y ∈ sc.names, y.2 = .free -> X.env.scope.names.lookup y.1 = some .cell ∨ X.env.scope.names.lookup y.1 = some .free
 nd : (tgs ++ fr.map (·.1)).Nodup
 vis : ∀ p ∈ fr, X.N[p.2]? = some p.1 /\ (X.env.scope.names.lookup p.1 = some .cell ∨ X.env.scope.names.lookup p.1 = some .free) /\ sc.names.lookup p.1 = some .free
def LH (X : Cx) (ifs : List Expr) (t : TT) : Prop :=
 ∀ (pins : Pn) (s : Shared) (Z : St) (H : Hp) (Q : Bool -> Hp -> Prop), Inv X pins Z H s -> t Z H Q -> wpAny (model X.prog X.w) X.A (wG ifs X.env) (TP X pins Z Q) X.xe s
def tYes : TT := λ _ H Q => Q true H
theorem jx {X : Cx} : LH X [] tYes := λ _ _ _ H _ I h => wpAny_tests_nil ⟨H, I, h⟩
section
variable {X : Cx} {pins : Pn} {Z : St} {H : Hp} {s3 s4 : Shared} {tgs : List Str} {sc : Scope} {fr : List (Str × Nat)} {fp : List Addr} {cl : List (Str × Addr)}
theorem uH (ok : dI X tgs sc fr) (I : Inv X pins Z H s3) (hf : ∀ b ∈ fp, lZ X pins H b) (hfo : ∀ b ∈ fp, ∃ o, s3.heap.get? b = some o) (hk : ∀ x c, cl.lookup x = some c -> X.env.cells.lookup x = some c) (hc : ∀ y ∈ sc.names, y.2 = .free -> ∃ c, cl.lookup y.1 = some c)
  {h4 : Heap} {t4 : Nat} (hns : ∃ m, h4.Ns s3.heap.objs.size m) (hkeep : ∀ b o, s3.heap.get? b = some o -> h4.get? b = some o) :
  Inv (X.blk (tgs ++ fr.map (·.1)) sc cl s3.heap.objs.size s3 H fp) [] (List.replicate tgs.length none ++ iG Z fr) H { s3 with heap := h4, toks := t4 } := by
 have hasc : ∀ x, ((relabel sc X.env).names.lookup x = some .cell ∨ (relabel sc X.env).names.lookup x = some .free) -> ∃ c, cl.lookup x = some c := λ x hx => by
  obtain ⟨y, h1, h2, h3⟩ : ∃ y ∈ sc.names, y.1 = x /\ y.2 = .free := by
   rcases hx with z | z
   ·exact fT ok.nocell (.inl rfl) z
   ·exact fT ok.nocell (.inr rfl) z
  subst h2
  exact hc y h1 h3
 have cell4 : ∀ x c, cl.lookup x = some c -> ∀ v, s3.heap.IsCell c v -> h4.IsCell c v := λ x c _ v ⟨o, ho, hd⟩ => ⟨o, hkeep c o ho, hd⟩
 have fresh : H s3.heap.objs.size = none := I.hok.fresh (jo _)
 refine ⟨⟨I.mod, ok.kind, I.ok.glob, I.ok.blt, jo _, λ x y c e1 e2 => I.ok.inj x y c (hk x c e1) (hk y c e2), hasc, (λ x c e => nomatch e), I.ok.hd, I.ok.frames, .inl rfl, λ b hb => ?_, I.bs, n9 I.ok.bsz I.sz, λ b o e hb => ?_, λ b hb z => ?_, I.stack, I.stkFree⟩,
  rfl, I.bare, Un.kept hkeep, ?_, λ x c e => ?_, fresh, λ x c e => I.freeC x c (hk x c e), (λ p hp => nomatch hp), I.hok.kept hkeep, ?_⟩
 ·obtain ⟨f0, f1, f2, f3, f4, f5⟩ := hf b hb
  refine ⟨λ z => ?_, λ x c e => f4 x c (hk x c e)⟩
  obtain ⟨o, eo⟩ := hfo b hb
  have z' : b = s3.heap.objs.size := z
  rw [z'] at eo
  exact absurd (j5 eo) (Nat.lt_irrefl _)
 ·obtain ⟨f0, f1, f2, f3, f4, f5⟩ := hf b hb
  rcases f3 with z | z
  ·exact I.ok.noex b o e z
  ·exact absurd (mv (mv (j5 e) I.ok.bsz) z) (Nat.lt_irrefl _)
 ·obtain ⟨f0, f1, f2, f3, f4, f5⟩ := hf b hb
  rcases j8.mp (I.stkSub b z) with q | q
  ·exact f1 q
  ·exact f2 q
 ·obtain ⟨m, hn⟩ := hns
  obtain ⟨m0, _, hl0⟩ := I.loc
  refine ⟨m, hn, λ i x v e1 e2 _ => ?_⟩
  have hge : tgs.length <= i := by
   rcases Nat.lt_or_ge i tgs.length with z | z
   ·rw [vo (by rw [List.length_replicate]; exact z), List.getElem?_replicate, i9 z] at e2
    cases e2
   ·exact z
  have e1x : (tgs ++ fr.map (·.1))[i]? = some x := e1
  rw [uL hge] at e1x
  rw [uL (by rw [List.length_replicate]; exact hge), List.length_replicate] at e2
  generalize i - tgs.length = i at *
  ·have e2' : ((fr.map λ p => (Z[p.2]?).join))[i]? = some (some v) := e2
   have e1' : (fr.map (·.1))[i]? = some x := e1x
   rw [jb] at e1' e2'
   cases q : fr[i]? with
   | none => rw [q] at e1'; cases e1'
   | some p =>
    rw [q] at e1' e2'
    have ex : p.1 = x := nS e1'
    have ev : (Z[p.2]?).join = some v := nS e2'
    obtain ⟨g1, g2, g3⟩ := ok.vis p (j4 q)
    have ev' : Z[p.2]? = some (some v) := by
     cases z : Z[p.2]? with
     | none => rw [z] at ev; cases ev
     | some w => rw [z] at ev; exact congrArg some ev
    have gv : JA X.env.scope p.1 := g2.elim (λ z => .inr (.inl z)) λ z => .inr (.inr z)
    obtain ⟨u, ru, lk⟩ := hl0 p.2 p.1 v g1 ev' gv
    subst ex
    refine ⟨u, ru, .inr ⟨fV g3, ?_⟩⟩
    rcases lk with ⟨k1, _⟩ | ⟨_, c, ec, hcell⟩
    ·rcases g2 with z | z
     ·have k2 : X.env.scope.names.lookup p.1 = some .local := k1
      rw [z] at k2; cases k2
     ·have k2 : X.env.scope.names.lookup p.1 = some .local := k1
      rw [z] at k2; cases k2
    ·obtain ⟨c', ec'⟩ := hasc p.1 (fV g3)
     have e3 := hk _ _ ec'
     rw [ec] at e3
     cases e3
     exact ⟨c, ec', cell4 _ c ec' _ hcell⟩
 ·obtain ⟨v, z⟩ := I.cell x c (hk x c e)
  exact ⟨v, cell4 x c e v z⟩
 ·show (List.replicate tgs.length none ++ iG Z fr).length = (tgs ++ fr.map (·.1)).length
  simp [iG]
end
def oU (k : Nat) (fr : List (Str × Nat)) (wi : TI) (g : TG) (tc : TT) (te : TE) : TE := λ Z H Q => wi Z H λ J H1 => ∀ acc, H1 acc = none -> ∃ W : Nat -> Nat -> St -> Hp -> Prop, (∃ m, W 0 m (List.replicate k none ++ iG Z fr) (upd H1 acc (.lst []))) /\ ∀ i m σb H2, W i m σb H2 ->
 (J.stop i H2 /\ Q (.ref acc) H2) ∨ (J.go i H2 /\ ∀ x H3, J.yld i H2 x H3 -> g x σb H3 λ σ2 H4 => tc σ2 H4 λ b H5 =>
  if b = true then te σ2 H5 λ v H6 => ∃ xs m', H6 acc = some (.lst xs) /\ xs.length < sizeLine /\ m' < m /\ W (i + 1) m' σ2 (upd H6 acc (.lst (xs ++ [v]))) else ∃ m', m' < m /\ W (i + 1) m' σ2 H5)
section
variable {X : Cx} {elt iter tg : Expr} {ifs : List Expr} {tgs : List Str} {pos : Pos} {sc : Scope} {fr : List (Str × Nat)} {wi : TI} {te : TE} {g : TG} {tc : TT}
theorem sW {use : Option (Value -> Sem Unit)} {Qf : Value -> Shared -> Prop} {ps : Pos} {pins : Pn} {Z : St} {s : Shared} {H : Hp} {Q : VK} (hc : X.calm = true) (ok : dI X tgs sc fr) (hi : PI X tg iter wi) (hg : ∀ cl C s3 H3 fp, PG (X.blk (tgs ++ fr.map (·.1)) sc cl C s3 H3 fp) tg g) (ht : ∀ cl C s3 H3 fp, LH (X.blk (tgs ++ fr.map (·.1)) sc cl C s3 H3 fp) ifs tc) (he : ∀ cl C s3 H3 fp, PE (X.blk (tgs ++ fr.map (·.1)) sc cl C s3 H3 fp) elt te) (hs : ∀ x, foldedSetIterable iter X.env x = pure x) (I : Inv X pins Z H s) (h : oU tgs.length fr wi g tc te Z H Q)
  (fin : ∀ (a C : Addr) (s6 : Shared) (H5 : Hp) m6, Inv X pins Z H5 s6 -> s6.heap.Ns C m6 -> H5 C = none -> lZ X pins H5 C -> Q (.ref a) H5 -> ∀ r, compPost (model X.prog X.w) X.A X.xe use Qf (.ref a) C (.ok r) s6) :
  wpAny (model X.prog X.w) X.A (comprehension (.ListComp elt [⟨tg, iter, ifs, 0⟩] sc pos) sc X.env ps (newList []) false (eval iter X.env) use) Qf X.xe s := by
 obtain ⟨cl, ecl, hk, hcx⟩ := vI (env := X.env) (sc := sc) (λ y hy yf => I.ok.has y.1 (ok.fre y hy yf))
 refine wpAny_comprehension_free (use := use) rfl hs ecl ok.kind ok.locs (cj (hi pins s Z H _ I h) λ v s1 h1 => cj h1 λ itv s2 h2 => ?_)
 obtain ⟨it, fp, tn, J, H2, e, I2, T, st2, f2, q⟩ := h2
 subst e
 have hacc : H2 s2.heap.objs.size = none := I2.hok.fresh (jo _)
 obtain ⟨W, ⟨m0, w0⟩, turn⟩ := q s2.heap.objs.size hacc
 refine uY ?_
 have I3 := I2.laid (a := s2.heap.objs.size) (o := .lst []) (h' := s2.heap.push { cls := .type "list", data := .seq ([] : List Value).toArray }) (t' := s2.toks) (λ b u e => e9 _ e) (jo _) ⟨Nat.zero_le _, [], 0, .nil, m8 _ rfl⟩
 refine wpAny_newFunctionEnv ok.nocell (by intro y hy; simp at hy) (λ h4 hns4 hsb4 => ?_) ok.kind
 generalize hs3 : ({ s2 with heap := s2.heap.push { cls := .type "list", data := .seq ([] : List Value).toArray } } : Shared) = s3 at *
 have keep4 : ∀ b o, s3.heap.get? b = some o -> h4.get? b = some o := λ b o e => hsb4.extBut b o (uS (j5 e)) (e9 _ e)
 have keep3 : ∀ b o, s2.heap.get? b = some o -> s3.heap.get? b = some o := λ b o e => by rw [<- hs3]; exact e9 _ e
 have hfo : ∀ b ∈ fp, ∃ o, s3.heap.get? b = some o := λ b hb => by
  obtain ⟨o, eo, _⟩ := T.obj 0 _ st2 b hb
  exact ⟨o, keep3 b o eo⟩
 have f3 : ∀ b ∈ fp, lZ X pins (upd H2 s2.heap.objs.size (.lst [])) b := λ b hb => by
  obtain ⟨o, eo, _⟩ := T.obj 0 _ st2 b hb
  exact ⟨by rw [am (uS (j5 eo))]; exact (f2 b hb).1, (f2 b hb).2⟩
 have I4 := uH (t4 := s3.toks + ([] : List (Str × Value)).length) ok I3 f3 hfo hk hcx ⟨_, hns4⟩ keep4
 have st4 : tn 0 h4 := T.keep 0 s2.heap h4 st2 λ b hb o e => keep4 b o (keep3 b o e)
 have stat : ∀ {H' : Hp}, (∀ b ∈ fp, H' b = none) -> ∀ b ∈ fp, lZ (X.blk (tgs ++ fr.map (·.1)) sc cl s3.heap.objs.size s3 (upd H2 s2.heap.objs.size (.lst [])) fp) [] H' b := λ hn b hb =>
  ⟨hn b hb, (I4.ok.exf b hb).1, I4.ok.exfs b hb, .inl hb, (I4.ok.exf b hb).2, λ p hp => nomatch hp⟩
 have loop : codeAny (model X.prog X.w) X.A (.compLoop (.ListComp elt [⟨tg, iter, ifs, 0⟩] sc pos) 0 (.ref it) (.ref s2.heap.objs.size) (compEnvC sc cl s3.heap.objs.size X.env))
   (compPost (model X.prog X.w) X.A X.xe use Qf (.ref s2.heap.objs.size) s3.heap.objs.size) { s3 with heap := h4, toks := s3.toks + ([] : List (Str × Value)).length } := by
  refine uM (λ n s' => ∃ i σb H', Inv (X.blk (tgs ++ fr.map (·.1)) sc cl s3.heap.objs.size s3 (upd H2 s2.heap.objs.size (.lst [])) fp) [] σb H' s' /\ tn i s'.heap /\ (∀ b ∈ fp, H' b = none) /\ W i n σb H') ?_ m0
   ⟨0, _, _, I4, st4, λ b hb => (f3 b hb).1, w0⟩
  rintro n s5 ⟨i, σb, H5, I5, st5, fr5, w5⟩
  rcases turn i n σb H5 w5 with ⟨stop, qq⟩ | ⟨go, step⟩
  ·refine cj (T.done (X.blk (tgs ++ fr.map (·.1)) sc cl s3.heap.objs.size s3 (upd H2 s2.heap.objs.size (.lst [])) fp) rfl rfl rfl hc i [] s5 _ H5 _ I5 (stat fr5) st5 stop) λ r s6 ⟨hr, I6⟩ => ?_
   subst hr
   obtain ⟨m6, hn6, _⟩ := I6.loc
   have u6 : Un (jV X.stack) fp (upd H2 s2.heap.objs.size (.lst [])) H5 s3.heap s6.heap := I6.base
   have hok6 : lU X.prog X.w H5 s6.heap := I6.hok
   have os6 : s6.os = s3.os := I6.os
   have bare6 := I6.bare
   have free6 : H5 s3.heap.objs.size = none := I6.free
   have IX : Inv X pins Z H5 s6 := by
    obtain ⟨hh, g, d, t, os'⟩ := s6
    obtain rfl : os' = s3.os := os6
    show Inv X pins Z H5 { s3 with heap := hh, gens := g, drawn := d, toks := t }
    exact I3.call (h' := hh) (g' := g) (d' := d) (t' := t) (ch := fp) u6 hok6 bare6 λ b hb => ⟨(f3 b hb).2.2.2.1, (f3 b hb).2.1, (f3 b hb).2.2.2.2.1, (f3 b hb).2.2.2.2.2⟩
   exact fin _ _ _ _ _ IX hn6 free6 (I3.fpOk (jo _) free6) qq _
  ·refine cj (T.item (X.blk (tgs ++ fr.map (·.1)) sc cl s3.heap.objs.size s3 (upd H2 s2.heap.objs.size (.lst [])) fp) rfl rfl rfl hc i [] s5 _ H5 _ I5 (stat fr5) st5 go) λ r s6 ⟨u, hr, h6⟩ => ?_
   subst hr
   refine cj h6 λ _ s7 ⟨y, H7, I7, r7, y7, st7, fr7⟩ => ?_
   have I7' := I7.pinned (stat fr7) (T.obj _ _ st7)
   refine ur (hg cl s3.heap.objs.size s3 (upd H2 s2.heap.objs.size (.lst [])) fp _ s7 _ H7 y u _ I7' r7 (step y H7 y7)) (λ _ s8 z => ?_) (λ e s z => (show False from z).elim)
   obtain ⟨σ8, H8, I8, q8⟩ := z
   refine ur (ht cl s3.heap.objs.size s3 (upd H2 s2.heap.objs.size (.lst [])) fp _ s8 σ8 H8 _ I8 q8) (λ b s8' z => ?_) (λ e s z => (show False from z).elim)
   obtain ⟨H8', I8', q8'⟩ := z
   have goOn : ∀ {s10 : Shared} {H10 : Hp} {m' : Nat}, Inv (X.blk (tgs ++ fr.map (·.1)) sc cl s3.heap.objs.size s3 (upd H2 s2.heap.objs.size (.lst [])) fp) _ σ8 H10 s10 -> m' < n -> W (i + 1) m' σ8 H10 -> ∃ m, m < n /\ ∃ i σb H', Inv (X.blk (tgs ++ fr.map (·.1)) sc cl s3.heap.objs.size s3 (upd H2 s2.heap.objs.size (.lst [])) fp) [] σb H' s10 /\ tn i s10.heap /\ (∀ b ∈ fp, H' b = none) /\ W i m σb H' := λ {s10 H10 m'} I10 hm w9 => by
    refine ⟨m', hm, i + 1, σ8, _, I10.unpinned, T.keep _ _ _ st7 λ b hb o e => (I10.pin (b, o) (j9 _ (j9 _ (fM hb e)))).1, λ b hb => ?_, w9⟩
    obtain ⟨o, e, d⟩ := T.obj _ _ st7 b hb
    exact (I10.pin (b, o) (j9 _ (j9 _ (fM hb e)))).2.1
   cases b with
   | false =>
    obtain ⟨m', hm, w9⟩ := (gS gV).mp q8'
    exact (gS gV).mpr (goOn I8' hm w9)
   | true =>
    refine (i9 rfl).mpr ?_
    refine ur (he cl s3.heap.objs.size s3 (upd H2 s2.heap.objs.size (.lst [])) fp _ s8' _ H8' _ I8' ((i9 rfl).mp q8')) (λ v s9 z => ?_) (λ e s z => (show False from z).elim)
    obtain ⟨z, H9, I9, r9, xs, m', ha, hl, hm, w9⟩ := z
    refine ur (bn (X := X.blk (tgs ++ fr.map (·.1)) sc cl s3.heap.objs.size s3 (upd H2 s2.heap.objs.size (.lst [])) fp) _ s9 _ H9 (.ref s2.heap.objs.size) [z] (.ref s2.heap.objs.size) [v] (λ _ H' => H' = upd H9 s2.heap.objs.size (.lst (xs ++ [z]))) I9 rfl (.cons r9 .nil) ⟨_, xs, z, rfl, rfl, ha, hl, rfl⟩) (λ _ s10 z => ?_) (λ e s z => (show False from z).elim)
    obtain ⟨_, H10, I10, _, e10⟩ := z
    subst e10
    exact goOn I10 hm w9
 exact codeAny_compStart_list loop (T.self X.A 0 _ _ _ st4 loop)
theorem wk (hc : X.calm = true) (ok : dI X tgs sc fr) (hi : PI X tg iter wi) (hg : ∀ cl C s3 H3 fp, PG (X.blk (tgs ++ fr.map (·.1)) sc cl C s3 H3 fp) tg g) (ht : ∀ cl C s3 H3 fp, LH (X.blk (tgs ++ fr.map (·.1)) sc cl C s3 H3 fp) ifs tc) (he : ∀ cl C s3 H3 fp, PE (X.blk (tgs ++ fr.map (·.1)) sc cl C s3 H3 fp) elt te) (hs : ∀ x, foldedSetIterable iter X.env x = pure x := by intro _; rfl) :
  PE X (.ListComp elt [⟨tg, iter, ifs, 0⟩] sc pos) (oU tgs.length fr wi g tc te) := by
 intro pins s Z H Q I h
 rw [eval_ListComp]
 refine sW (use := none) hc ok hi hg ht he hs I h λ a C s6 H5 m6 IX hn free6 hfC qq r => ⟨m6, hn, λ h8 hsb8 => ⟨.ref a, H5, ?_, rfl, qq⟩⟩
 exact IX.turned (it := C) (t' := s6.toks) (λ b o hb e => hsb8.extBut b o hb e) free6 hfC.2.1 hfC.2.2.2.1 hfC.2.2.2.2.1 hfC.2.2.2.2.2
def KM (fr : List (Str × Nat)) (wi : TI) (te : TE) : TE := oU 1 fr wi (bH 0) tYes te
theorem sP {X : Cx} {elt iter : Expr} {x : Str} {px pos : Pos} {sc : Scope} {fr : List (Str × Nat)} {wi : TI} {te : TE} (hc : X.calm = true) (ok : uG X x sc fr) (hi : PI X (.Name x px) iter wi) (he : ∀ cl C s3 H3 fp, PE (X.blk (x :: fr.map (·.1)) sc cl C s3 H3 fp) elt te) (hs : ∀ x, foldedSetIterable iter X.env x = pure x := by intro _; rfl) :
  PE X (.ListComp elt [⟨.Name x px, iter, [], 0⟩] sc pos) (KM fr wi te) :=
 wk (tgs := [x]) hc ⟨ok.kind, ok.nocell, ok.locs, ok.fre, ok.nd, ok.vis⟩ hi (λ _ _ _ _ _ => az ok.nd rfl (.inl (m9 ok.tgl)) (.inr (m9 ok.tgl))) (λ _ _ _ _ _ => jx) he hs
end
end L2
namespace My
def qv (a b : Int) : Rat := (a : Rat) / (b : Rat)
variable {b : Int}
theorem cast_ne (h : b ≠ 0) : (b : Rat) ≠ 0 := λ z => h (Rat.intCast_inj.mp z)
variable {a : Int}
theorem qv_eq {t m : Int} (hb : b ≠ 0) (hm : m ≠ 0) (h : a * m = t * b) : qv a b = qv t m := by
 have hb' := cast_ne hb
 have hm' := cast_ne hm
 have h' : (a : Rat) * m = t * b := by rw [<- lS, <- lS, h]
 unfold qv
 grind
theorem eq_of_qv {t m : Int} (hb : b ≠ 0) (hm : m ≠ 0) (h : qv a b = qv t m) : a * m = t * b := by
 have hb' := cast_ne hb
 have hm' := cast_ne hm
 unfold qv at h
 refine Rat.intCast_inj.mp ?_
 rw [lS, lS]
 grind
variable {c : Int} {d : Int}
theorem low_unique (hb : 0 < b) (hd : 0 < d) (h1 : Int.gcd a b = 1) (h2 : Int.gcd c d = 1) (h : a * d = c * b) : a = c /\ b = d := by
 have n : a.natAbs * d.natAbs = c.natAbs * b.natAbs := by rw [<- Int.natAbs_mul, <- Int.natAbs_mul, h]
 have e1 : b.natAbs ∣ d.natAbs := by
  have q : b.natAbs ∣ a.natAbs * d.natAbs := ⟨c.natAbs, by rw [n, Nat.mul_comm]⟩
  exact Nat.Coprime.dvd_of_dvd_mul_left (Nat.Coprime.symm h1) q
 have e2 : d.natAbs ∣ b.natAbs := by
  have q : d.natAbs ∣ c.natAbs * b.natAbs := ⟨a.natAbs, by rw [<- n, Nat.mul_comm]⟩
  exact Nat.Coprime.dvd_of_dvd_mul_left (Nat.Coprime.symm h2) q
 have e3 : b.natAbs = d.natAbs := Nat.dvd_antisymm e1 e2
 have e4 : b = d := by lia
 subst e4
 exact ⟨Int.eq_of_mul_eq_mul_right (by lia) h, rfl⟩
theorem qv_plus (hb : b ≠ 0) (hd : d ≠ 0) : qv (a * d + c * b) (b * d) = qv a b + qv c d := by
 have hb' := cast_ne hb
 have hd' := cast_ne hd
 unfold qv
 rw [Rat.intCast_add, lS, lS, lS]
 grind
theorem qv_minus (hb : b ≠ 0) (hd : d ≠ 0) : qv (a * d - c * b) (b * d) = qv a b - qv c d := by
 have hb' := cast_ne hb
 have hd' := cast_ne hd
 unfold qv
 rw [Rat.intCast_sub, lS, lS, lS]
 grind
theorem qv_times (hb : b ≠ 0) (hd : d ≠ 0) : qv (a * c) (b * d) = qv a b * qv c d := by
 have hb' := cast_ne hb
 have hd' := cast_ne hd
 unfold qv
 rw [lS, lS]
 grind
theorem qv_over (hb : b ≠ 0) (hd : d ≠ 0) (hc : c ≠ 0) : qv (a * d) (b * c) = qv a b / qv c d := by
 have hb' := cast_ne hb
 have hd' := cast_ne hd
 have hc' := cast_ne hc
 unfold qv
 rw [lS, lS]
 grind
theorem qv_int (a : Int) : qv a 1 = (a : Rat) := by
 unfold qv
 grind
end My
namespace My
variable {b : Int}
theorem nA (h : 0 < b) : (0 : Rat) < (b : Rat) := Rat.intCast_lt_intCast.mpr h
theorem lt_qv {a c d : Int} (hb : 0 < b) (hd : 0 < d) : qv a b < qv c d ↔ a * d < c * b := by
 have hb' := nA hb
 have hd' := nA hd
 unfold qv
 rw [Rat.div_lt_iff hb', show (c : Rat) / d * b = (c * b : Rat) / d by grind, Rat.lt_div_iff hd', <- lS, <- lS]
 exact Rat.intCast_lt_intCast
theorem le_qv {a c d : Int} (hb : 0 < b) (hd : 0 < d) : qv a b <= qv c d ↔ ¬ c * b < a * d := by
 rw [<- lt_qv hd hb]
 exact Rat.not_lt.symm
end My
namespace My
end My
namespace My
end My
namespace L2
open PySem PySem.Spec PyProof.Rows
def rIsN : R2 := λ x y H Q => y = .non /\ Q (.bl (decide (x = .non))) H
theorem qj {X : Cx} : gd X (compareOp .Is) rIsN := FP
def MkT (xs : List V) (H : Hp) (Q : VK) : Prop := xs.length <= sizeLine /\ ∀ p, H p = none -> Q (.ref p) (upd H p (.tup xs))
def MkL (xs : List V) (H : Hp) (Q : VK) : Prop := xs.length <= sizeLine /\ ∀ p, H p = none -> Q (.ref p) (upd H p (.lst xs))
inductive gi : St -> Nat -> Option V -> St -> Prop
 | here {x : Option V} {r : St} {v : Option V} : gi (x :: r) 0 v (v :: r)
 | next {x : Option V} {r : St} {v : Option V} {i : Nat} {r' : St} : gi r i v r' -> gi (x :: r) (i + 1) v (x :: r')
variable {Z : St}
theorem gi.eq {σ' : St} {i : Nat} {v : Option V} (h : gi Z i v σ') : Z.set i v = σ' := by
 induction h with
 | here => rfl
 | next _ ih => rw [List.set_cons_succ, ih]
inductive jr : St -> Nat -> V -> Prop
 | here {v : V} {r : St} : jr (some v :: r) 0 v
 | next {x : Option V} {r : St} {v : V} {i : Nat} : jr r i v -> jr (x :: r) (i + 1) v
theorem jr.eq {i : Nat} {v : V} (h : jr Z i v) : Z[i]? = some (some v) := by
 induction h with
 | here => rfl
 | next _ ih => rw [List.getElem?_cons_succ, ih]
section
variable {Z σ' : St} {H : Hp} {Q : VK} {i j : Int} {k : Nat} {v x y : V} {te ta tb tc : TE} {t u : TS} {nx bk ct : St -> Hp -> Prop} {rt : VK} {c d : TT} {R : Bool -> Hp -> Prop} {r r' : R2} {b : Bool}
theorem Kt (h : jr Z k v) (q : Q v H) : gN k Z H Q := ⟨v, h.eq, q⟩
theorem z_c (q : Q v H) : tC v Z H Q := q
theorem Mc (h : ta Z H λ x H1 => tb Z H1 λ y H2 => r x y H2 Q) : xT r ta tb Z H Q := h
theorem MV {r : V -> Hp -> VK -> Prop} (h : ta Z H λ x H1 => r x H1 Q) : Nd r ta Z H Q := h
theorem z_I {C : Int -> Int -> Prop} {g : Int -> Int -> V} (hc : C i j) (q : Q (g i j) H) : rI C g (.int i) (.int j) H Q := ⟨i, j, rfl, rfl, hc, q⟩
theorem LX {g : Int -> Int -> V} (q : Q (g i j) H) : zF g (.int i) (.int j) H Q := ⟨i, j, rfl, rfl, q⟩
theorem z_U {g : Int -> V} (q : Q (g i) H) : rU g (.int i) H Q := ⟨i, rfl, q⟩
theorem rM : decide (V.int i = V.int j) = decide (i = j) := by
 by_cases h : i = j
 ·subst h; simp
 ·rw [i8 h, i8 (λ z => h (V.int.inj z))]
variable {a : Str}
theorem tw {b : Str} : decide (V.str a = V.str b) = decide (a = b) := by
 by_cases h : a = b
 ·subst h; simp
 ·rw [i8 h, i8 (λ z => h (V.str.inj z))]
theorem FI (q : Q (.bl (decide (i = j))) H) : rEq (.int i) (.int j) H Q := ⟨rfl, by rw [rM]; exact q⟩
theorem FE (q : Q (.bl (!decide (i = j))) H) : rNe (.int i) (.int j) H Q := ⟨rfl, by rw [rM]; exact q⟩
theorem Ff {b : Str} (q : Q (.bl (decide (a = b))) H) : rEq (.str a) (.str b) H Q := ⟨rfl, by rw [tw]; exact q⟩
theorem HV (h : te Z H λ x H' => ∃ k, x = .bl k /\ R k H') : wT te Z H R := h
theorem Nh (h : te Z H λ x H' => ∃ k, x = .bl k /\ R k H') : tB te Z H R := h
theorem Jo {S : Bool -> Prop} (q : S b) : ∃ k, V.bl b = .bl k /\ S k := ⟨b, rfl, q⟩
theorem No (h : c Z H λ k H1 => if k = true then R true H1 else d Z H1 R) : Mh c d Z H R := h
theorem KD (h : c Z H λ k H1 => R (!k) H1) : Ix c Z H R := h
theorem GO (h : ta Z H λ x H1 => ∃ c, x = .bl c /\ if c = true then tb Z H1 Q else Q (.bl false) H1) : zS ta tb Z H Q := h
theorem Iw (h : ta Z H λ x H1 => ∃ c, x = .bl c /\ Q (.bl (!c)) H1) : AR ta Z H Q := h
theorem MC (h : c Z H λ k H1 => if k = true then ta Z H1 Q else tb Z H1 Q) : MI c ta tb Z H Q := h
theorem Ep (h : ta Z H λ x H1 => tb Z H1 λ y H2 => r x y H2 λ z H3 => ∃ k, z = .bl k /\ (if k = true then tc Z H3 λ w' H4 => r' y w' H4 Q else Q (.bl false) H3)) : uQ r r' ta tb tc Z H Q := h
theorem Kl {S : List V -> Hp -> Prop} (q : S [] H) : tNil Z H S := q
theorem GE {S : List V -> Hp -> Prop} {tr : TA} (h : ta Z H λ x H1 => tr Z H1 λ xs H2 => S (x :: xs) H2) : bW ta tr Z H S := h
theorem Lk (h : t ⟨u ⟨nx, rt, bk, ct⟩, rt, bk, ct⟩ Z H) : ke t u ⟨nx, rt, bk, ct⟩ Z H := h
theorem Ij (h : nx Z H) : tNext ⟨nx, rt, bk, ct⟩ Z H := h
theorem Ht (h : te Z H λ _ H1 => nx Z H1) : Bf te ⟨nx, rt, bk, ct⟩ Z H := h
theorem Lv (h : te Z H rt) : AM te ⟨nx, rt, bk, ct⟩ Z H := h
theorem JN (h : c Z H λ b H1 => if b = true then t ⟨nx, rt, bk, ct⟩ Z H1 else u ⟨nx, rt, bk, ct⟩ Z H1) : Cm c t u ⟨nx, rt, bk, ct⟩ Z H := h
theorem JJ {g : TG} (h : te Z H λ x H1 => g x Z H1 nx) : qg te g ⟨nx, rt, bk, ct⟩ Z H := h
variable {S : St -> Hp -> Prop}
theorem Ia (h : gi Z k (some v) σ') (q : S σ' H) : bH k v Z H S := by
 show S (Z.set k (some v)) H
 rw [h.eq]; exact q
variable {A : Prop} {B : Prop}
theorem aY {c : Prop} [Decidable c] (h1 : c -> A) (h2 : ¬ c -> B) : if decide c = true then A else B := by
 by_cases h : c
 ·rw [j6 h]; exact jH (h1 h)
 ·rw [i8 h]; exact fB (h2 h)
theorem aO {c : Prop} [Decidable c] (h1 : ¬ c) (h2 : B) : if decide c = true then A else B := aY (λ y => absurd y h1) λ _ => h2
theorem bR {x : α} [Decidable (x = x)] (h : A) : if decide (x = x) = true then A else B := aY (λ _ => h) λ y => absurd rfl y
theorem xo {b : Bool} (h : if b = true then B else A) : if (!b) = true then A else B := by
 cases b with
 | true => exact fB h
 | false => exact jH h
theorem iK {b : Bool} (h1 : b = true -> A) (h2 : b = false -> B) : if b = true then A else B := by
 cases b with
 | true => exact jH (h1 rfl)
 | false => exact fB (h2 rfl)
variable {tA : TA}
theorem Dj {sp : Sp} {E : XK} (h : tA Z H λ vs H1 => sp vs H1 Q E) : eD sp [] E tA Z H Q := by
 unfold eD
 simpa using h
theorem Ee {sp : Sp} {E : XK} {w : V} (h : tA Z H λ vs H1 => sp (vs ++ [w]) H1 Q E) : eD sp [w] E tA Z H Q := h
theorem Mu {rr : List V -> Hp -> VK -> Prop} (h : tA Z H λ vs H1 => rr vs H1 Q) : Ic rr tA Z H Q := h
theorem Jw (h : tA Z H λ xs H1 => MkT xs H1 Q) : AN tA Z H Q := h
variable {xs : List V}
theorem Jv (hl : xs.length <= 100) (q : ∀ p H', H p = none -> ah H H' -> H' p = some (.tup xs) -> Q (.ref p) H') : MkT xs H Q :=
 ⟨n9 hl (by decide), λ p hp => q p _ hp (ah.new hp _) ar⟩
variable {K : Fg} {p : Addr}
theorem mF (hs : bq K H p xs) (ha : eP xs i = some v) (q : Q v H) : mJ K (.ref p) (.int i) H Q := ⟨p, xs, i, v, rfl, rfl, hs, ha, q⟩
theorem AA (hs : aZ K H p xs) (ha : eP xs i = some v) (q : Q v H) : yG K (.ref p) (.int i) H Q := ⟨p, xs, i, v, rfl, rfl, hs, ha, q⟩
theorem FT (q : Q (.bl true) H) : rIsN .non .non H Q := ⟨rfl, q⟩
theorem IF (q : Q (.bl false) H) : rIsN (.int i) .non H Q := ⟨rfl, q⟩
theorem Gg (q : Q (.bl false) H) : rIsN (.str a) .non H Q := ⟨rfl, q⟩
theorem Gc (q : Q (.bl false) H) : rIsN (.ref p) .non H Q := ⟨rfl, q⟩
theorem z_len {ys : List V} {S : List V -> Prop} (hs : aZ K H p ys ∨ bq K H p ys) (q : S ys) : ∃ p' ys', [V.ref p] = [V.ref p'] /\ (aZ K H p' ys' ∨ bq K H p' ys') /\ S ys' := ⟨p, ys, rfl, hs, q⟩
theorem BX {n : Nat} {tg : TGs} (hs : bq K H p xs) (hl : xs.length = n) (q : tg xs Z H S) : tQ K n tg (.ref p) Z H S := ⟨p, xs, rfl, hs, hl, q⟩
theorem Gi (q : S Z H) : gNil [] Z H S := ⟨rfl, q⟩
theorem Ec {g : TG} {tg : TGs} {v : V} {r : List V} (q : g v Z H λ σ' H' => tg r σ' H' S) : dG g tg (v :: r) Z H S := ⟨v, r, rfl, q⟩
theorem Ka (h : tA Z H λ xs H1 => MkL xs H1 Q) : CU tA Z H Q := h
theorem Fq (hl : xs.length <= 100) (q : ∀ p H', H p = none -> ah H H' -> H' p = some (.lst xs) -> Q (.ref p) H') : MkL xs H Q :=
 ⟨n9 hl (by decide), λ p hp => q p _ hp (ah.new hp _) ar⟩
theorem MW {T : String} {rr : V -> List V -> Hp -> VK -> Prop} (h : te Z H λ x H1 => Jj K T x H1 /\ tA Z H1 λ xs H2 => rr x xs H2 Q) : Mq K T rr te tA Z H Q := h
end
theorem sm2 {A B C : Hp} (g : ah B C) (h : ah A B) : ah A C := h.trans g
def wo (l : Addr) (H H' : Hp) : Prop := ∀ b o, b ≠ l -> H b = some o -> H' b = some o
variable {H : Hp}
theorem wo.upd {l : Addr} {o : HO} : wo l H (upd H l o) := λ b u hb q => by rw [am hb]; exact q
theorem wo.tup {K : Fg} {H H' : Hp} {l a : Addr} {xs ys : List V} (e : wo l H H') (hl : H l = some (.lst ys)) (h : bq K H a xs) : bq K H' a xs := by
 rcases h with (h | ⟨o, h⟩) | h
 ·exact .inl (.inl (e _ _ (λ z => by rw [z, hl] at h; cases h) h))
 ·exact .inl (.inr ⟨o, e _ _ (λ z => by rw [z, hl] at h; cases h) h⟩)
 ·exact .inr h
section
variable {Z σ' : St} {H : Hp} {Q : VK}
theorem jP {l : Addr} {xs : List V} {v : V} (h : H l = some (.lst xs)) (hl : xs.length < sizeLine) (q : ∀ H', wo l H H' -> H' l = some (.lst (xs ++ [v])) -> Q .non H') : rAppend (.ref l) [v] H Q :=
 ⟨l, xs, v, rfl, rfl, h, hl, q _ wo.upd ar⟩
end
section
variable {Z : St} {H : Hp} {te : TE} {tb : TS} {g : TG} {nx bk ct : St -> Hp -> Prop} {rt : VK} {wi : TI} {K : Fg} {a : Addr} {xs : List V}
def FW (J : It) (g : TG) (tb : TS) (nx : St -> Hp -> Prop) (rt : VK) (Z : St) (H : Hp) : Prop := ∃ W : Nat -> Nat -> St -> Hp -> Prop, (∃ m, W 0 m Z H) /\ ∀ i m Z H, W i m Z H ->
 (J.stop i H /\ nx Z H) ∨ (J.go i H /\ ∃ N : St -> Hp -> Prop, (∀ σ' H', N σ' H' -> ∃ m', m' < m /\ W (i + 1) m' σ' H') /\ ∀ x H', J.yld i H x H' -> g x Z H' λ σ2 H2 => tb ⟨N, rt, nx, N⟩ σ2 H2)
theorem Jn (h : wi Z H λ J H1 => FW J g tb nx rt Z H1) : Ii wi g tb ⟨nx, rt, bk, ct⟩ Z H := h
theorem Ma {R : It -> Hp -> Prop} (h : te Z H λ x H1 => ∃ a, x = .ref a /\ (∃ xs, aZ K H1 a xs) /\ R (Fb K a) H1) : AJ K te Z H R := h
theorem Lm {S : Addr -> Prop} (hs : aZ K H a xs) (q : S a) : ∃ a', V.ref a = .ref a' /\ (∃ xs, aZ K H a' xs) /\ S a' := ⟨a, rfl, ⟨xs, hs⟩, q⟩
theorem rE (Pv : Nat -> St -> Hp -> Prop) (h0 : Pv 0 Z H) (hl : ∀ i Z H, i <= xs.length -> Pv i Z H -> aZ K H a xs)
  (hs : ∀ i x Z H, xs[i]? = some x -> Pv i Z H -> g x Z H λ σ2 H2 => tb ⟨Pv (i + 1), rt, nx, Pv (i + 1)⟩ σ2 H2) (hd : ∀ Z H, Pv xs.length Z H -> nx Z H) : FW (Fb K a) g tb nx rt Z H := BG (D := ⟨nx, rt, nx, nx⟩) Pv h0 hl hs hd
end
theorem mr {X : Cx} : gd X (binaryOp .Mult) (rI (λ i j => My.Bd 50000000 i /\ My.Bd 50000000 j) λ i j => .int (i * j)) := HM λ _ _ _ _ _ _ _ hc q =>
 mul_int q (IntMulOk.of_le (PySem.intBits_le_iff.mpr hc.1) (PySem.intBits_le_iff.mpr hc.2) (by decide))
variable {m : Nat} {n : Nat} {x : Int} {y : Int}
theorem Gm (h : My.Bd m x) (g : My.Bd n y) : My.Bd (m + n) (x * y) := h.mul g
theorem Hx (h : My.Bd m x) (g : My.Bd n y) : My.Bd (max m n + 1) (x + y) := (h.mono (show m <= max m n by lia)).add (g.mono (show n <= max m n by lia))
theorem Ik (h : My.Bd m x) (g : My.Bd n y) : My.Bd (max m n + 1) (x - y) := (h.mono (show m <= max m n by lia)).sub (g.mono (show n <= max m n by lia))
theorem dF {n : Int} (h1 : -1152921504606846976 < n) (h2 : n < 1152921504606846976) : My.Bd 60 n := by unfold My.Bd; lia
theorem Ax : bootBuiltins "max" = some (.builtin "max") := by decide +kernel
theorem zh : bootBuiltins "min" = some (.builtin "min") := by decide +kernel
theorem rN {K : Fg} {l : Addr} {xs : List V} {S : Prop} (h : aZ K H l xs) (q : S) : Jj K "list" (.ref l) H /\ S := ⟨.inl ⟨rfl, xs, h⟩, q⟩
theorem ir {N : List Str} {vs : List V} {t : TS} {D : eQ} (h : cV N vs = Z) (q : t D Z H) : t D (cV N vs) H := by rw [h]; exact q
section
variable {X : Cx} {elt iter tg : Expr} {ifs : List Expr} {tgs : List Str} {pos : Pos} {sc : Scope} {fr : List (Str × Nat)} {wi : TI} {te : TE} {g : TG} {tc : TT}
theorem pA {y : Str} {py spos : Pos} {iy : Nat} (hN : X.N.Nodup) (hi' : X.N[iy]? = some y) (hy : Fi X.env.scope y) (hc : X.calm = true) (ok : dI X tgs sc fr) (hi : PI X tg iter wi) (hg : ∀ cl C s3 H3 fp, PG (X.blk (tgs ++ fr.map (·.1)) sc cl C s3 H3 fp) tg g) (ht : ∀ cl C s3 H3 fp, LH (X.blk (tgs ++ fr.map (·.1)) sc cl C s3 H3 fp) ifs tc) (he : ∀ cl C s3 H3 fp, PE (X.blk (tgs ++ fr.map (·.1)) sc cl C s3 H3 fp) elt te) (hs : ∀ x, foldedSetIterable iter X.env x = pure x := by intro _; rfl)
  (hsw : swapsWith (.ListComp elt [⟨tg, iter, ifs, 0⟩] sc pos) (some (.Name y py)) spos.line X.env = pure true := by rfl) (hfn : X.fn y = true ∨ X.env.scope.names.lookup y = some .local := by first | exact .inl rfl | exact .inr rfl | assumption) :
  PS X (.Assign [.Name y py] (.ListComp elt [⟨tg, iter, ifs, 0⟩] sc pos) spos) (qg (oU tgs.length fr wi g tc te) (bH iy)) := by
 intro pins s Z H D I h
 rw [exec_Assign_Name_used _ _ _ _ hsw]
 refine cx (wpAny_standAt (cx ?_))
 show wpAny _ X.A (do let _ <- comprehension (.ListComp elt [⟨tg, iter, ifs, 0⟩] sc pos) sc X.env _ (newList []) false (eval iter X.env) (some (assign (.Name y py) X.env))) _ _ s
 refine cx (ur (sW (use := some (assign (.Name y py) X.env)) (Qf := λ _ s' => SP X pins D .next s') (Q := λ v H' => bH iy v Z H' D.nx) hc ok hi hg ht he hs I h λ a C s6 H5 m6 IX hn6 free6 hfC qq r => ?_) (λ _ s' z => fh (fh z)) λ _ _ z => z)
 obtain ⟨oC, es, ep, hoC, LN, rC⟩ := hn6
 have IX' : Inv X (pins ++ [(C, oC)]) Z H5 s6 := IX.pins_of λ p hp => by
  rcases uD.mp hp with z | z
  ·exact IX.pin p (j9 _ z)
  ·have z' := j7.mp z
   subst z'
   exact ⟨hoC, free6, hfC.2.1, hfC.2.2.1, λ v z => by
    have z2 : oC.data = .cell v := z
    rw [LN] at z2; cases z2⟩
 refine cj (az (X := X) (i := iy) (pos := py) hN hi' hy hfn _ s6 Z H5 (.ref a) (.ref a) (λ σ' H' => σ' = Z.set iy (some (.ref a)) /\ H' = H5) IX' rfl ⟨rfl, rfl⟩) λ _ s7 z => ?_
 obtain ⟨σ7, H7, I7, e7, e7'⟩ := z
 subst e7 e7'
 have pC := I7.pin (C, oC) (j9 _ (j9 _ (j7.mpr rfl)))
 refine ⟨m6, ⟨oC, es, ep, pC.1, LN, rC⟩, λ h8 hsb8 => ?_⟩
 have I7u : Inv X pins (Z.set iy (some (.ref a))) H7 s7 := I7.unpinned
 refine ⟨_, H7, ?_, qq⟩
 exact I7u.turned (it := C) (t' := s7.toks) (λ b o hb e => hsb8.extBut b o hb e) free6 hfC.2.1 hfC.2.2.2.1 hfC.2.2.2.2.1 hfC.2.2.2.2.2
def uN (iy : Nat) (fr : List (Str × Nat)) (wi : TI) (te : TE) : TS := qg (KM fr wi te) (bH iy)
theorem oo {X : Cx} {elt iter : Expr} {x : Str} {px pos : Pos} {sc : Scope} {fr : List (Str × Nat)} {wi : TI} {te : TE} {y : Str} {py spos : Pos} {iy : Nat} (hN : X.N.Nodup) (hi' : X.N[iy]? = some y) (hy : Fi X.env.scope y) (hc : X.calm = true) (ok : uG X x sc fr) (hi : PI X (.Name x px) iter wi) (he : ∀ cl C s3 H3 fp, PE (X.blk (x :: fr.map (·.1)) sc cl C s3 H3 fp) elt te) (hs : ∀ x, foldedSetIterable iter X.env x = pure x := by intro _; rfl)
  (hsw : swapsWith (.ListComp elt [⟨.Name x px, iter, [], 0⟩] sc pos) (some (.Name y py)) spos.line X.env = pure true := by rfl) (hfn : X.fn y = true ∨ X.env.scope.names.lookup y = some .local := by first | exact .inl rfl | exact .inr rfl | assumption) :
  PS X (.Assign [.Name y py] (.ListComp elt [⟨.Name x px, iter, [], 0⟩] sc pos) spos) (uN iy fr wi te) :=
 pA (tgs := [x]) hN hi' hy hc ⟨ok.kind, ok.nocell, ok.locs, ok.fre, ok.nd, ok.vis⟩ hi (λ _ _ _ _ _ => az ok.nd rfl (.inl (m9 ok.tgl)) (.inr (m9 ok.tgl))) (λ _ _ _ _ _ => jx) he hs hsw hfn
end
inductive fi (K : Fg) (H : Hp) : Nat -> V -> V -> Prop
 | int {n : Nat} {i : Int} : fi K H n (.int i) (.int i)
 | str {n : Nat} {x : Str} : fi K H n (.str x) (.str x)
 | bl {n : Nat} {b : Bool} : fi K H n (.bl b) (.bl b)
 | non {n : Nat} : fi K H n .non .non
 | ref {n : Nat} {a : Addr} : fi K H n (.ref a) (.ref a)
 | tup {n : Nat} {p q : Addr} {xs ys : List V} (h1 : bq K H p xs) (h2 : bq K H q ys) (hl : xs.length = ys.length) (he : ∀ (j : Nat) (x y : V), xs[j]? = some x -> ys[j]? = some y -> fi K H n x y) : fi K H (n + 1) (.ref p) (.ref q)
 | lst {n : Nat} {p q : Addr} {xs ys : List V} (h1 : aZ K H p xs) (h2 : aZ K H q ys) (hl : xs.length = ys.length) (he : ∀ (j : Nat) (x y : V), xs[j]? = some x -> ys[j]? = some y -> fi K H n x y) : fi K H (n + 1) (.ref p) (.ref q)
 | dct {n : Nat} {p q : Addr} (h1 : H p = some (.dK [])) (h2 : H q = some (.dK [])) : fi K H n (.ref p) (.ref q)
theorem so {P P' : Program} {w w' : World} {h : Heap} {a : Addr} (d : h.DictOf (jC P w) a []) : h.DictOf (jC P' w') a [] := by
 obtain ⟨o, es, ep, ho, he, hd, hk, hp, hn⟩ := d
 obtain ⟨es⟩ := es
 cases hp
 exact ⟨o, _, ep, ho, he, hd, λ _ h => absurd h (by simp), .nil, hn⟩
theorem eN {xs : List V} {us : List Value} (h : aM xs us) : ∀ {j : Nat} {u : Value}, us[j]? = some u -> ∃ x, xs[j]? = some x /\ bh x u := by
 induction h with
 | nil => intro j u e; simp at e
 | cons r rr ih =>
  intro j u e
  cases j with
  | zero => exact ⟨_, rfl, by rw [List.getElem?_cons_zero] at e; cases e; exact r⟩
  | succ j => exact ih (by rw [List.getElem?_cons_succ] at e; exact e)
theorem jy {n : Nat} : (List.range n).all (λ _ => true) = true := by rw [vt]; intro _ _; rfl
section
variable {X : Cx} {pins : Pn} {Z : St} {H : Hp} {s : Shared}
theorem Inv.alike (I : Inv X pins Z H s) {n : Nat} {x y : V} (h : fi X.K H n x y) : ∀ {A : Around} {u v : Value}, A.units + n < cLine -> bh x u -> bh y v -> SeqAt.EqAt A s u v true := by
 induction h with
 | @int n i =>
  intro A u v hu r1 r2
  obtain ⟨t, rfl⟩ := r1
  obtain ⟨t', rfl⟩ := r2
  have := SeqAt.EqAt.int_int (A := A) (s := s) i t i t'
  rw [beq_self_eq_true] at this
  exact this
 | @str n x =>
  intro A u v hu r1 r2
  obtain ⟨t, rfl⟩ := r1
  obtain ⟨t', rfl⟩ := r2
  have := SeqAt.EqAt.str_str (A := A) (s := s) x t x t'
  rw [beq_self_eq_true] at this
  exact this
 | bl => intro A u v hu r1 r2; cases r1; cases r2; exact SeqAt.EqAt.same _
 | non => intro A u v hu r1 r2; cases r1; cases r2; exact SeqAt.EqAt.same _
 | ref => intro A u v hu r1 r2; cases r1; cases r2; exact SeqAt.EqAt.same _
 | @tup n p q xs ys h1 h2 hl he ih =>
  intro A u v hu r1 r2
  cases r1
  cases r2
  by_cases e : p = q
  ·subst e; exact SeqAt.EqAt.same _
  ·refine SeqAt.EqAt.of_refs e ?_
   obtain ⟨its, v1, p1, _⟩ := I.tuple h1
   obtain ⟨its2, v2, p2, _⟩ := I.tuple h2
   have l1 := v1.length
   have l2 := v2.length
   have key := SeqAt.RcAt.tuples (A := A) (s := s) (l := p) (b := q) (items := its.toArray) (items2 := its2.toArray) (e := λ _ => true) p1 p2 (by lia) (λ j g1 g2 => by
    have g1' : j < its.length := by simpa using g1
    have g2' : j < its2.length := by simpa using g2
    obtain ⟨x, ex, rx⟩ := eN v1 (dM g1')
    obtain ⟨y, ey, ry⟩ := eN v2 (dM g2')
    have w1 : its.toArray[j] = its[j] := by simp
    have w2 : its2.toArray[j] = its2[j] := by simp
    rw [w1, w2]
    exact ih j x y ex ey (by show A.units + 1 + n < cLine; lia) rx ry)
   have e2 : ((List.range (min its.toArray.size its2.toArray.size)).all (λ _ => true) && its.toArray.size == its2.toArray.size) = true := by
    rw [jy, Bool.true_and, ja, ja, <- l1, <- l2, hl, beq_self_eq_true]
   rw [e2] at key
   exact key
 | @lst n p q xs ys h1 h2 hl he ih =>
  intro A u v hu r1 r2
  cases r1
  cases r2
  by_cases e : p = q
  ·subst e; exact SeqAt.EqAt.same _
  ·refine SeqAt.EqAt.of_refs e ?_
   obtain ⟨its, v1, p1, _⟩ := I.list h1
   obtain ⟨its2, v2, p2, _⟩ := I.list h2
   have l1 := v1.length
   have l2 := v2.length
   have key := SeqAt.RcAt.lists (A := A) (s := s) (l := p) (b := q) (items := its.toArray) (items2 := its2.toArray) (e := λ _ => true) p1.isList p2.isList (by rw [ja, ja, <- l1, <- l2, hl]) (by lia) (λ j g1 g2 => by
    have g1' : j < its.length := by simpa using g1
    have g2' : j < its2.length := by simpa using g2
    obtain ⟨x, ex, rx⟩ := eN v1 (dM g1')
    obtain ⟨y, ey, ry⟩ := eN v2 (dM g2')
    have w1 : its.toArray[j] = its[j] := by simp
    have w2 : its2.toArray[j] = its2[j] := by simp
    rw [w1, w2]
    exact ih j x y ex ey (by show A.units + 1 + n < cLine; lia) rx ry)
   rw [jy] at key
   exact key
 | @dct n p q h1 h2 =>
  intro A u v hu r1 r2
  cases r1
  cases r2
  by_cases e : p = q
  ·subst e; exact SeqAt.EqAt.same _
  ·refine SeqAt.EqAt.of_refs e λ prog w E Q hq => ?_
   obtain ⟨_, z1, vs1, k1, d1⟩ := (show cA X.prog X.w H s.heap p (.dK []) from I.hok p _ h1)
   obtain ⟨_, z2, vs2, k2, d2⟩ := (show cA X.prog X.w H s.heap q (.dK []) from I.hok q _ h2)
   cases k1
   cases k2
   exact PySem.W.keq_eq (r := true) z1 z2 (so (P' := prog) (w' := w) d1) (so d2) (by lia) (λ _ => .nil) hq
def zV (K : Fg) (H : Hp) (p q : Addr) : Prop := ∃ (n : Nat) (xs ys : List V), n <= 100 /\ ((bq K H p xs /\ bq K H q ys) ∨ (aZ K H p xs /\ aZ K H q ys)) /\ xs.length = ys.length /\ ∀ (j : Nat) (x y : V), xs[j]? = some x -> ys[j]? = some y -> fi K H n x y
def JD (K : Fg) (b : Bool) : R2 := λ x y H Q => ∃ p q, x = .ref p /\ y = .ref q /\ zV K H p q /\ Q (.bl b) H
theorem Fx {K : Fg} {H : Hp} {Q : VK} {b : Bool} {p q : Addr} (h : zV K H p q) (k : Q (.bl b) H) : JD K b (.ref p) (.ref q) H Q := ⟨p, q, rfl, rfl, h, k⟩
theorem zO (hu : X.A.units + 150 < cLine) : gd X (compareOp .NotEq) (JD X.K false) := by
 intro pins s Z H x y v u Q I rx ry h
 obtain ⟨p, q, rfl, rfl, ⟨n, xs, ys, hn, hs, hl, he⟩, k⟩ := h
 cases rx
 cases ry
 rcases hs with ⟨h1, h2⟩ | ⟨h1, h2⟩
 ·obtain ⟨its, v1, p1, _⟩ := I.tuple h1
  obtain ⟨its2, v2, p2, _⟩ := I.tuple h2
  have l1 := v1.length
  have l2 := v2.length
  have key := SeqAt.RcNeAt.tuples (A := X.A) (s := s) (l := p) (b := q) (items := its.toArray) (items2 := its2.toArray) (e := λ _ => true) p1 p2 (by lia) (λ j g1 g2 => by
   have g1' : j < its.length := by simpa using g1
   have g2' : j < its2.length := by simpa using g2
   obtain ⟨x, ex, rx⟩ := eN v1 (dM g1')
   obtain ⟨y, ey, ry⟩ := eN v2 (dM g2')
   have w1 : its.toArray[j] = its[j] := by simp
   have w2 : its2.toArray[j] = its2[j] := by simp
   rw [w1, w2]
   exact I.alike (he j x y ex ey) (by show X.A.units + 1 + n < cLine; lia) rx ry)
  have e2 : (!((List.range (min its.toArray.size its2.toArray.size)).all (λ _ => true) && its.toArray.size == its2.toArray.size)) = false := by
   rw [jy, Bool.true_and, ja, ja, <- l1, <- l2, hl, beq_self_eq_true]; rfl
  rw [e2] at key
  exact key _ _ _ _ ⟨.bl false, H, I, rfl, k⟩
 ·obtain ⟨its, v1, p1, _⟩ := I.list h1
  obtain ⟨its2, v2, p2, _⟩ := I.list h2
  have l1 := v1.length
  have l2 := v2.length
  have key := SeqAt.RcNeAt.lists (A := X.A) (s := s) (l := p) (b := q) (items := its.toArray) (items2 := its2.toArray) (e := λ _ => true) p1.isList p2.isList (by rw [ja, ja, <- l1, <- l2, hl]) (by lia) (λ j g1 g2 => by
   have g1' : j < its.length := by simpa using g1
   have g2' : j < its2.length := by simpa using g2
   obtain ⟨x, ex, rx⟩ := eN v1 (dM g1')
   obtain ⟨y, ey, ry⟩ := eN v2 (dM g2')
   have w1 : its.toArray[j] = its[j] := by simp
   have w2 : its2.toArray[j] = its2[j] := by simp
   rw [w1, w2]
   exact I.alike (he j x y ex ey) (by show X.A.units + 1 + n < cLine; lia) rx ry)
  rw [jy] at key
  exact key _ _ _ _ ⟨.bl false, H, I, rfl, k⟩
end
theorem dr.un150 {k : Nat} {A : Around} (r : dr k A) : A.units + 150 < cLine := by have := r.un; lia
def qR (K : Fg) : V -> List V -> Hp -> VK -> Prop := λ x vs H Q => ∃ (l : Addr) (xs : List V) (y z : V) (j : Nat), x = .ref l /\ vs = [y] /\ aZ K H l xs /\ dv y = true /\ xs.all dv = true /\ xs[j]? = some z /\ ye z y = true /\ (∀ (i : Nat) (u : V), i < j -> xs[i]? = some u -> ye u y = false) /\ Q (.int j) H
section
variable {X : Cx}
theorem Dv {xs : List V} (h : xs.all dv = true) {j : Nat} {x : V} (hx : xs[j]? = some x) : dv x = true := vt.mp h x (j4 hx)
theorem tJ : Ly X "list.index" (qR X.K) := by
 intro pins s Z H x vs v us Q I rx rv h
 obtain ⟨l, xs, y, z, j, rfl, rfl, hq, fy, fs, hz, hit, hno, q⟩ := h
 cases rx
 obtain ⟨u, rfl, ru⟩ := rv.one
 obtain ⟨its, r, pl, hsz⟩ := I.list hq
 have hlen := r.length
 have hj : j < xs.length := by
  rcases Nat.lt_or_ge j xs.length with c | c
  ·exact c
  ·rw [vG c] at hz; cases hz
 have h63 := kA
 obtain ⟨⟨cls, dd, data, sl⟩, n, ho, hc, _, hd⟩ := id pl
 simp only at hc hd
 subst hc hd
 have at_ : ∀ (i : Nat) (hi : i < its.length), ∃ w, xs[i]? = some w /\ yM y its[i] = ye w y := λ i hi => by
  obtain ⟨w, hw, rw'⟩ : ∃ w, xs[i]? = some w /\ bh w its[i] := by
   have : ∀ {xs : List V} {us : List Value}, aM xs us -> ∀ {i : Nat} {u : Value}, us[i]? = some u -> ∃ x, xs[i]? = some x /\ bh x u := by
    intro xs us h
    induction h with
    | nil => intro i u e; simp at e
    | cons r rr ih =>
     intro i u e
     cases i with
     | zero => exact ⟨_, rfl, by rw [List.getElem?_cons_zero] at e; cases e; exact r⟩
     | succ i => exact ih (by rw [List.getElem?_cons_succ] at e; exact e)
   exact this r (dM hi)
  exact ⟨w, hw, uX rw' (Dv fs hw)⟩
 refine call_meets PySem.F.slot_list_index ⟨_, ho, rfl⟩ PySem.F.entry_list_index (PySem.F.args_list_index_2 _ _)
  (SeqAt.list_indexAt l its.toArray n dd sl u (yM y) j (by simpa [<- hlen] using hj) (by lia) ?_ ?_) ⟨ho, λ w hw => jk ru fy r fs w (by simpa using hw), ⟨.int j, H, I.tok _, ⟨_, rfl⟩, q⟩⟩
 ·obtain ⟨w, hw, e⟩ := at_ j (by lia)
  rw [hz] at hw
  cases hw
  show yM y its.toArray[j] = true
  rw [show its.toArray[j]'(by simpa [<- hlen] using hj) = its[j]'(by lia) by simp, e]
  exact hit
 ·intro i hi hlt
  have hi' : i < its.length := by simpa using hi
  obtain ⟨w, hw, e⟩ := at_ i hi'
  show yM y its.toArray[i] = false
  rw [show its.toArray[i] = its[i] by simp, e]
  exact hno i w hlt hw
def Ko (K : Fg) (f : Bool -> Bool) : R2 := λ x y H Q => ∃ (p q : Addr) (xs : List V), x = .ref p /\ y = .ref q /\ aZ K H p xs /\ aZ K H q [] /\ Q (.bl (f xs.isEmpty)) H
theorem Hv (hu : X.A.units < cLine) : gd X (compareOp .NotEq) (Ko X.K (λ b => !b)) := by
 intro pins s Z H x y v u Q I rx ry h
 obtain ⟨p, q, xs, rfl, rfl, h1, h2, k⟩ := h
 cases rx
 cases ry
 obtain ⟨its, v1, p1, _⟩ := I.list h1
 obtain ⟨its2, v2, p2, _⟩ := I.list h2
 have l1 := v1.length
 have l2 := v2.length
 cases xs with
 | nil =>
  have e1 : its.length = 0 := by rw [<- l1]; rfl
  have e2 : its2.length = 0 := by rw [<- l2]; rfl
  have key := SeqAt.RcNeAt.lists (A := X.A) (s := s) (l := p) (b := q) (items := its.toArray) (items2 := its2.toArray) (e := λ _ => true) p1.isList p2.isList (by rw [ja, ja, e1, e2]) hu (λ j g1 g2 => by
   have g1' : j < its.length := by simpa using g1
   lia)
  have e3 : (List.range its.toArray.size).all (λ _ => true) = true := by rw [vt]; intro _ _; rfl
  rw [e3] at key
  exact key _ _ _ _ ⟨.bl false, H, I, rfl, k⟩
 | cons y r =>
  have e1 : its.length = r.length + 1 := by rw [<- l1]; rfl
  have e2 : its2.length = 0 := by rw [<- l2]; rfl
  have key := SeqAt.RcNeAt.lists_lengths (A := X.A) (s := s) (l := p) (b := q) (items := its.toArray) (items2 := its2.toArray) p1.isList p2.isList (by rw [ja, ja, e1, e2]; rfl) hu
  exact key _ _ _ _ ⟨.bl true, H, I, rfl, k⟩
def rAddS : R2 := λ x y H Q => ∃ i j, x = .str i /\ y = .str j /\ i.length + j.length <= sizeLine /\ Q (.str (i ++ j)) H
theorem qk : gd X (binaryOp .Add) rAddS := uZ
end
section
variable {Z : St} {H : Hp} {Q : VK} {K : Fg} {p q : Addr} {xs : List V} {f : Bool -> Bool}
theorem MH {b : Bool} {x : V} (h : aZ K H p xs) (fx : dv x = true) (fs : xs.all dv = true) (k : Q (.bl (if b then !Jh x xs else Jh x xs)) H) : LM K b x (.ref p) H Q := ⟨p, xs, rfl, .inl h, fx, fs, k⟩
theorem CL {y z : V} {j : Nat} (h : aZ K H p xs) (fy : dv y = true) (fs : xs.all dv = true) (hz : xs[j]? = some z) (hit : ye z y = true) (hno : ∀ (i : Nat) (u : V), i < j -> xs[i]? = some u -> ye u y = false) (k : Q (.int j) H) : qR K (.ref p) [y] H Q := ⟨p, xs, y, z, j, rfl, rfl, h, fy, fs, hz, hit, hno, k⟩
end
def LCO (st : St) (J : It) (te : TE) (H1 : Hp) (Q : VK) : Prop := ∀ acc, H1 acc = none -> ∃ W : Nat -> Nat -> Hp -> Prop, (∃ m, W 0 m (upd H1 acc (.lst []))) /\ ∀ i m H2, W i m H2 ->
 (J.stop i H2 /\ Q (.ref acc) H2) ∨ (J.go i H2 /\ ∀ x H3, J.yld i H2 x H3 -> te (some x :: st) H3 λ v H4 => ∃ xs m', H4 acc = some (.lst xs) /\ xs.length < sizeLine /\ m' < m /\ W (i + 1) m' (upd H4 acc (.lst (xs ++ [v]))))
def MS (st : St) (J : It) (te : TE) (H1 : Hp) (Q : VK) : Prop := ∀ acc, H1 acc = none -> ∃ W : Nat -> Nat -> St -> Hp -> Prop, (∃ m, W 0 m (List.replicate 1 none ++ st) (upd H1 acc (.lst []))) /\ ∀ i m σb H2, W i m σb H2 ->
 (J.stop i H2 /\ Q (.ref acc) H2) ∨ (J.go i H2 /\ ∀ x H3, J.yld i H2 x H3 -> bH 0 x σb H3 λ σ2 H4 => tYes σ2 H4 λ b H5 =>
  if b = true then te σ2 H5 λ v H6 => ∃ xs m', H6 acc = some (.lst xs) /\ xs.length < sizeLine /\ m' < m /\ W (i + 1) m' σ2 (upd H6 acc (.lst (xs ++ [v]))) else ∃ m', m' < m /\ W (i + 1) m' σ2 H5)
theorem BZ {st : St} {J : It} {te : TE} {H1 : Hp} {Q : VK} (h : LCO st J te H1 Q) : MS st J te H1 Q := λ acc ha => by
 obtain ⟨W, ⟨m0, w0⟩, turn⟩ := h acc ha
 refine ⟨λ i m σb H2 => W i m H2 /\ ∃ u, σb = u :: st, ⟨m0, w0, _, rfl⟩, ?_⟩
 rintro i m σb H2 ⟨w, u, rfl⟩
 rcases turn i m H2 w with z | ⟨a, b⟩
 ·exact .inl z
 ·refine .inr ⟨a, λ x H3 y => ?_⟩
  have e : ∀ j m' G, (W j m' G /\ ∃ v, (u :: st).set 0 (some x) = v :: st) = W j m' G := λ _ _ _ => propext ⟨And.left, λ h => ⟨h, some x, rfl⟩⟩
  dsimp only [bH, tYes]
  rw [i9 rfl]
  simp only [e]
  exact b x H3 y
theorem Ah {fr : List (Str × Nat)} {wi : TI} {te : TE} {Z : St} {H : Hp} {Q : VK} (h : wi Z H λ J H1 => MS (iG Z fr) J te H1 Q) : KM fr wi te Z H Q := h
end L2
namespace L2
open PySem PySem.Spec PyProof.Rows PySem.Builtin PySem.Builtin.Str
section
variable {X : Cx}
def Ie (K : Fg) : List V -> Hp -> VK -> Prop := λ xs H Q => ∃ (p : Addr) (bs : List Bool), xs = [.ref p] /\ aZ K H p (bs.map V.bl) /\ Q (.bl (bs.all λ b => b)) H
theorem uo : ∀ {bs : List Bool} {us : List Value}, aM (bs.map V.bl) us -> us = bs.map Value.bool
 | [], _, .nil => rfl
 | b :: r, _, .cons h t => by
  cases h
  rw [uo (bs := r) t]; rfl
theorem yY (bs : List Bool) : (List.range bs.length).all (λ i => bs.getD i true) = bs.all λ b => b := by
 rw [Bool.eq_iff_iff, vt, vt]
 constructor
 ·intro h x hx
  obtain ⟨i, hi, e⟩ := List.getElem_of_mem hx
  have := h i (List.mem_range.mpr hi)
  rw [nO, dM hi] at this
  rw [<- e]; exact this
 ·intro h i hi
  have hi := List.mem_range.mp hi
  rw [nO, dM hi]
  exact h _ (List.getElem_mem hi)
theorem zx (hc : X.calm = true) : cz X (.builtin "all") (Ie X.K) := by
 intro pins s Z H xs us Q I r h
 obtain ⟨p, bs, rfl, hq, q⟩ := h
 obtain ⟨u, rfl, ru⟩ := r.one
 cases ru
 obtain ⟨its, v, pl, _⟩ := I.list hq
 have ev := uo v
 have hl : s.heap.IsList p its.toArray := pl.isList
 have hlt : p < s.heap.objs.size := by
  obtain ⟨o, ho, _⟩ := hl
  exact j5 ho
 refine call_all_walk (wpAny_pyIter_list hl ⟨s.heap.objs.size, [s.heap.objs.size, p], [s.heap.objs.size], its.toArray.size, (λ i v => its.toArray[i]? = some v), _, (λ i => bs.getD i true), rfl, Walks.list (prog := X.prog) (w := X.w) (A := X.A.in1) (I.ok.hd hc) _ p (uS hlt) its.toArray, ⟨⟨_, m8 _ rfl, rfl, rfl⟩, hl.at λ o e => e9 _ e⟩, ?_, ?_⟩)
 ·intro i v s' Q' E' hv hQ
  rw [ev] at hv
  have hv' : (bs.map Value.bool)[i]? = some v := by simpa using hv
  rw [jb] at hv'
  cases hb : bs[i]? with
  | none => rw [hb] at hv'; cases hv'
  | some b =>
   rw [hb] at hv'
   cases hv'
   have : bs.getD i true = b := by rw [nO, hb]; rfl
   refine wpAny_truthy_bool ?_
   rw [<- this]; exact hQ
 ·intro h' tk hk
  have e : (List.range its.toArray.size).all (λ i => bs.getD i true) = bs.all λ b => b := by
   rw [<- yY]
   have : its.toArray.size = bs.length := by rw [ev]; simp
   rw [this]
  rw [e]
  exact ⟨.bl _, H, I.kept (t' := tk) (λ b o ho => hk b o (by simp only [j7]; exact uS (j5 ho)) (e9 _ ho)), rfl, q⟩
theorem IN : bootBuiltins "all" = some (.builtin "all") := by decide +kernel
end
end L2
namespace My
open PySem PySem.NumText
end My
namespace My
open PySem PySem.NumText PySem.StrLaws
end My
namespace L2
open PySem PySem.Spec PyProof.Rows
theorem Ld {H : Hp} {Q : VK} {a b : Bool} (q : Q (.bl (!decide (a = b))) H) : rNe (.bl a) (.bl b) H Q := by
 refine ⟨rfl, ?_⟩
 have e : decide (V.bl a = V.bl b) = decide (a = b) := by cases a <;> cases b <;> rfl
 rw [e]; exact q
def FM (K : Fg) : R2 := λ x y H Q => ∃ l m xs zs, x = .ref l /\ y = .ref m /\ aZ K H l xs /\ aZ K H m zs /\ xs.length + zs.length <= sizeLine /\ ∀ p, H p = none -> Q (.ref p) (upd H p (.lst (xs ++ zs)))
theorem gT {X : Cx} : gd X (binaryOp .Add) (FM X.K) := by
 intro pins s Z H x y v u Q I rx ry h
 obtain ⟨l, b, xs, zs, rfl, rfl, hH, hB, hz, q⟩ := h
 cases rx
 cases ry
 obtain ⟨its, r, p1, _⟩ := I.list hH
 obtain ⟨its2, r2, p2, _⟩ := I.list hB
 have l1 := r.length
 have l2 := r2.length
 obtain ⟨⟨cls, dd, data, sl⟩, ho, hc, n, hd⟩ := p1.isList
 obtain ⟨⟨cls2, dd2, data2, sl2⟩, ho2, hc2, n2, hd2⟩ := p2.isList
 simp only at hc hd hc2 hd2
 subst hc hd hc2 hd2
 have e : its.toArray ++ its2.toArray = (its ++ its2).toArray := by simp
 refine concat_meets ⟨_, ho, rfl⟩ ⟨_, ho2, rfl⟩ noFill_list_add seq_list_add PySem.F.slot_list_add PySem.F.entry_list_add (PySem.F.args_list_add_2 _ _) (list_addW l b its.toArray its2.toArray n n2 dd dd2 sl sl2 (by rw [ja, ja]; lia)) ⟨ho, ho2, ?_⟩
 rw [e]
 exact ⟨.ref _, _, I.lnew (t' := s.toks) (r.append r2) (by rw [nh]; lia), rfl, q _ I.fresh⟩
section
variable {X : Cx} {pins : Pn} {Z : St} {H : Hp} {s : Shared} {h' : Heap}
theorem Inv.turnedL {t' : Nat} {fp : List Addr} (I : Inv X pins Z H s) (k : ∀ b o, b ∉ fp -> s.heap.get? b = some o -> h'.get? b = some o) (hf : ∀ b ∈ fp, lZ X pins H b) : Inv X pins Z H { s with heap := h', toks := t' } := by
 have nit : ∀ b u, H b = some u -> b ∉ fp := λ b u e z => by rw [(hf b z).1] at e; cases e
 refine I.step (g' := s.gens) (d' := s.drawn) (ch := fp) (λ b hb => ?_) (λ b o _ _ hc e _ => k b o hc e) (λ b o _ _ hc e _ => ⟨o.slots, k b o hc e⟩) (λ _ _ _ _ n => n)
  (λ b o hc e => ⟨o, k b o hc e⟩) (λ _ _ e => e) (λ _ _ _ e => e) (λ b ps e => ⟨#[], by rw [e]; simp⟩) (λ m hm => ?_) (λ b u e => ?_) I.bare
 ·obtain ⟨_, f1, _, f3, f4, f5⟩ := hf b hb
  exact ⟨f3, f1, f4, f5⟩
 ·obtain ⟨o, es, ep, ho, r⟩ := hm
  exact ⟨o, es, ep, k _ o (λ z => (hf _ z).2.1 rfl) ho, r⟩
 ·refine (I.hok b u e).stay (λ c v hc q => k c v ?_ q) (λ _ q => q) λ _ _ q => q
  rcases hc with z | z
  ·rw [z]; exact nit b u e
  ·exact nit c _ z
end
section
variable {X : Cx} {pins : Pn} {Z : St} {H : Hp} {s : Shared} {a : Addr} {y v : V} {u r : Value} {o : Option V} {A : Around} {E : Value -> Shared -> Prop}
theorem Inv.big (I : Inv X pins Z H s) : sysModules < s.heap.objs.size := by
 have h : mainGlobals < s.heap.objs.size := (I.mod.glob.keeps I.bk).lt
 exact Nat.lt_trans (by decide) h
end
def Kx (i : Expr) : Prop := ∀ ov iv, subscripted i false ov iv = operate [ov, iv] (getItem ov iv)
theorem ED {prog : Program} {w : World} {A : Around} {E : Value -> Shared -> Prop} {s : Shared} {env : Env} {value slice : Expr} {pos : Pos} {T id : String} {Q : Value -> Shared -> Prop}
  (hl : typeLookup (.type T) "__getitem__" = pure (some (.builtin id))) (hs : Kx slice)
  (h : wpAny (model prog w) A (eval value env) (λ o s₁ => wpAny (model prog w) A (eval slice env) (λ i s₂ => s₂.TypeIs o T /\ wpAny (model prog w) A (getItem o i) Q E s₂) E s₁) E s) :
  wpAny (model prog w) A (eval (.Subscript value slice pos) env) Q E s := by
 refine Subscript_ (ur h (λ o s₁ h₁ => ur h₁ (λ i s₂ h₂ => ?_) λ _ _ x => x) λ _ _ x => x)
 obtain ⟨hT, h₂⟩ := h₂
 unfold subscriptTail
 refine cx ?_
 rw [getitemInPython_of_ne hT.not_modules]
 refine cx (wpAny_specialOf hT hl ?_)
 have fin : wpAny (model prog w) A (subscripted slice false o i) (λ r s₃ => wpAny (model prog w) A (letTemporaryGo value o r >>= λ _ => pure r) Q E s₃) E s₂ := by
  rw [hs o i]
  exact wpAny_operating (ur h₂ (λ r s₃ h₃ => cx (wpAny_letTemporaryGo (fh h₃))) λ _ _ x => x)
 first
  | exact fh (cx fin)
  | exact cx (fh (cx fin))
  | exact cx fin
structure M2 (X : Cx) (o : Expr) (m : Str) (apos : Pos) (e f : Expr) (cpos : Pos) : Prop where
 base : attributeBase o m X.env (eval o X.env) = eval o X.env
 few : ((backTo cpos (starEach [e, f] X.env)).all (λ x => !x.1) && (backToKw cpos (keywordEach [] X.env)).all (λ x => x.1.isSome)
  && decide (([e, f] : List Expr).length + ([] : List Keyword).length + (if ([] : List Keyword).isEmpty then 0 else 1) < 30)) = true
 line : (apos.endLine == cpos.line) = true
 trees : backTo cpos (starEach [e, f] X.env) = [(false, eval e X.env), (false, eval f X.env)]
end L2
namespace L2
open PySem PySem.Spec PyProof.Rows PySem.Builtin
section
variable {X : Cx}
def rInsert : V -> List V -> Hp -> VK -> Prop := λ x vs H Q => ∃ (l : Addr) (xs : List V) (i : Int) (v : V), x = .ref l /\ vs = [.int i, v] /\ H l = some (.lst xs) /\ 0 <= i /\ i <= xs.length /\ xs.length < sizeLine /\ Q .non (upd H l (.lst (xs.take i.toNat ++ v :: xs.drop i.toNat)))
theorem yS : Ly X "list.insert" rInsert := by
 intro pins s Z H x vs v us Q I rx rv h
 obtain ⟨l, xs, i, y, rfl, rfl, hH, h0, h1, hz, q⟩ := h
 cases rx
 obtain ⟨u1, u2, rfl, r1, r2⟩ := rW rv
 obtain ⟨t, rfl⟩ := r1
 obtain ⟨z, its, n, r, hl, e⟩ := I.lstM hH
 have hfit : ¬ (!Builtin.List.listFitsIndex i) = true := by
  have h2 : (sizeLine : Int) < 2 ^ 62 := by decide
  rw [fitsIndex_both (by lia) (by lia)]
  decide
 refine call_meets F.slot_list_insert ⟨_, e, rfl⟩ F.entry_list_insert (F.args_list_insert_3 _ _ _) (AutoSeq1.list_insert_list_int_val_1 l its.toArray n i t u2 hfit (by rw [ja]; lia)) ⟨e, ?_⟩
 refine ⟨.non, _, I.lset (its' := its.take i.toNat ++ u2 :: its.drop i.toNat) hH e ?_ ((r.take _).append (.cons r2 (r.drop _))) ?_, rfl, q⟩
 ·have hk : (if i < 0 then (i + ((its.toArray.size : Nat) : Int)).toNat else min i.toNat its.toArray.size) = i.toNat := by
   rw [gS (by lia), ja]; lia
  show (its.toArray.extract 0 (if i < 0 then (i + ((its.toArray.size : Nat) : Int)).toNat else min i.toNat its.toArray.size)).push u2 ++ its.toArray.extract (if i < 0 then (i + ((its.toArray.size : Nat) : Int)).toNat else min i.toNat its.toArray.size) = _
  rw [hk]
  apply Array.toList_inj.mp
  simp
  exact List.take_of_length_le (by rw [List.length_drop]; exact jo _)
 ·rw [nh, o5, sV, List.length_drop]; lia
end
theorem lP {X : Cx} {t1 t2 : Str} {sc : Scope} {fr : List (Str × Nat)} {osc : Scope} {N : List Str} (ho : X.env.scope = osc) (hN : X.N = N) (h1 : fE osc N t1 sc fr = true) (h2 : fE osc N t2 sc fr = true) (hne : t1 ≠ t2) : dI X [t1, t2] sc fr /\ sc.names.lookup t1 = some .local /\ sc.names.lookup t2 = some .local := by
 have o1 := bM ho hN h1
 have o2 := bM ho hN h2
 refine ⟨⟨o1.kind, o1.nocell, o1.locs, o1.fre, ?_, o1.vis⟩, o1.tgl, o2.tgl⟩
 obtain ⟨a1, a2⟩ := sG.mp o1.nd
 exact sG.mpr ⟨λ m => (j8.mp m).elim hne a1, o2.nd⟩
theorem Ad {X : Cx} {elt iter : Expr} {t1 t2 : Str} {x1 : _} {p1 p2 p3 pos : Pos} {sc : Scope} {fr : List (Str × Nat)} {wi : TI} {te : TE} (hc : X.calm = true) (ok : dI X [t1, t2] sc fr /\ sc.names.lookup t1 = some .local /\ sc.names.lookup t2 = some .local)
  (hi : PI X (.Tuple [.Name t1 p1, .Name t2 p2] x1 p3) iter wi) (he : ∀ cl C s3 H3 fp, PE (X.blk ([t1, t2] ++ fr.map (·.1)) sc cl C s3 H3 fp) elt te) (hs : ∀ x, foldedSetIterable iter X.env x = pure x := by intro _; rfl) :
  PE X (.ListComp elt [⟨.Tuple [.Name t1 p1, .Name t2 p2] x1 p3, iter, [], 0⟩] sc pos) (oU 2 fr wi (tQ X.K 2 (dG (bH 0) (dG (bH 1) gNil))) tYes te) :=
 wk (tgs := [t1, t2]) hc ok.1 hi (λ _ _ _ _ _ => eV hc (aF (az ok.1.nd rfl (.inl (m9 ok.2.1)) (.inr (m9 ok.2.1))) (aF (az ok.1.nd rfl (.inl (m9 ok.2.2)) (.inr (m9 ok.2.2))) dk))) (λ _ _ _ _ _ => jx) he hs
end L2
namespace L2
open PySem PySem.Spec PyProof.Rows
def iX (z : Str) (n : Int) : Str := ⟨(List.replicate n.toNat z.cps).foldl (λ a b => a ++ b) #[]⟩
theorem kJ (z : Array Nat) : ∀ (m : Nat) (a : Array Nat), (List.replicate m z).foldl (λ a b => a ++ b) a = a ++ (List.replicate m z).foldl (λ a b => a ++ b) #[]
 | 0, a => by simp
 | m + 1, a => by
  rw [vF, List.foldl_cons, List.foldl_cons, kJ z m (a ++ z), kJ z m (#[] ++ z)]
  simp
theorem jz (z : Str) (n : Int) : (iX z n).length = n.toNat * z.length := by
 unfold iX Str.length
 show ((List.replicate n.toNat z.cps).foldl (λ a b => a ++ b) #[]).size = _
 generalize n.toNat = m
 induction m with
 | zero => simp
 | succ m ih => rw [vF, List.foldl_cons, kJ]; simp [ih, Nat.succ_mul]; lia
def rRepS : R2 := λ x y H Q => ∃ (z : Str) (n : Int), x = .str z /\ y = .int n /\ 0 <= n /\ n <= 1000 /\ z.length <= 1000 /\ Q (.str (iX z n)) H
theorem xu {X : Cx} : gd X (binaryOp .Mult) rRepS := by
 intro pins s Z H x y v u Q I rx ry h
 obtain ⟨z, n, rfl, rfl, h0, h1, hz, q⟩ := h
 obtain ⟨t1, rfl⟩ := rx
 obtain ⟨t2, rfl⟩ := ry
 have hq : ∀ (r : Str) t', r = iX z n -> EP X pins Z Q (.str r t') { s with toks := s.toks + 1 } := λ r t' e => by
  subst e
  exact ⟨.str _, H, I.tok _, ⟨_, rfl⟩, q⟩
 refine P.mul_str ?_ (λ a b => ?_) (λ a b => ?_) ?_
 ·rw [i8 (by lia), i8 (by lia)]; rfl
 ·have hn : 0 < n := by lia
  have e1 : (1000 : Int) <= (2 ^ 63 - 1) / n := by
   rw [Int.le_ediv_iff_mul_le hn]
   have : (1000 : Int) * n <= 1000 * 1000 := Int.mul_le_mul_of_nonneg_left h1 (by decide)
   exact Int.le_trans this (by decide)
  lia
 ·have : z.length * n.toNat <= 1000 * 1000 := Nat.mul_le_mul hz (by lia)
  show decide (z.length * n.toNat > sizeLine) = false
  exact i8 (Nat.not_lt_of_le (n9 this (by decide)))
 ·by_cases hn : n < 1
  ·rw [i9 hn]
   refine ⟨by decide, hq _ _ ?_⟩
   unfold iX
   rw [show n.toNat = 0 by lia]
   rfl
  rw [gS hn]
  by_cases h2 : (n == 1 || z.length == 0) = true
  ·rw [i9 h2]
   have e : z = iX z n := by
    rcases Bool.or_eq_true _ _ |>.mp h2 with h | h
    ·have : n = 1 := by simpa using h
     subst this
     unfold iX
     show z = ⟨#[] ++ z.cps⟩
     simp
    ·have hz0 : z.length = 0 := by simpa using h
     have e0 : (iX z n).length = 0 := by rw [jz, hz0, Nat.mul_zero]
     obtain ⟨c⟩ := z
     have h1 : c = #[] := Array.eq_empty_of_size_eq_zero hz0
     subst h1
     generalize iX ⟨#[]⟩ n = y at e0
     obtain ⟨d⟩ := y
     have h3 : d = #[] := Array.eq_empty_of_size_eq_zero e0
     rw [h3]
   show EP X pins Z Q (.str z t1) s
   exact ⟨.str z, H, I, ⟨_, rfl⟩, by rw [e]; exact q⟩
  ·rw [gS h2]
   refine ⟨?_, hq _ _ rfl⟩
   show (iX z n).length <= sizeLine
   rw [jz]
   exact n9 (Nat.mul_le_mul (show n.toNat <= 1000 by lia) hz) (by decide)
def Bj (K : Fg) : List V -> Hp -> VK -> Prop := λ xs H Q => ∃ x g tp, xs = [x, .ref tp] /\ bq K H tp [.ty "tuple", .ty "list"] /\ Db K H x g /\ Q (.bl (g.isTup || g.isLst)) H
section
variable {K : Fg}
theorem Em : PySem.W.kitAny K (.type "int") [.type "tuple", .type "list"] = some false := by rfl
theorem EI : PySem.W.kitAny K (.type "str") [.type "tuple", .type "list"] = some false := by rfl
theorem Cn : PySem.W.kitAny K (.type "bool") [.type "tuple", .type "list"] = some false := by rfl
theorem zW : PySem.W.kitAny K (.type "NoneType") [.type "tuple", .type "list"] = some false := by rfl
theorem Ap : PySem.W.kitAny K (.type "dict") [.type "tuple", .type "list"] = some false := by rfl
theorem yR : PySem.W.kitAny K (.type "tuple") [.type "tuple", .type "list"] = some true := by rfl
theorem AS : PySem.W.kitAny K (.type "list") [.type "tuple", .type "list"] = some true := by rfl
end
theorem Go {X : Cx} : cz X (.builtin "isinstance") (Bj X.K) := by
 intro pins s Z H xs vs Q I r h
 obtain ⟨x, g, tp, rfl, ht, e, q⟩ := h
 obtain ⟨v, w, rfl, rx, rw'⟩ := rW r
 cases rw'
 obtain ⟨its, rv, ⟨o, ho, hcl, n, hd⟩, _⟩ := I.tuple ht
 obtain ⟨c1, d1, dt, sl⟩ := o
 cases hcl
 cases hd
 cases rv with
 | cons a1 rv =>
  cases rv with
  | cons a2 rv =>
   cases rv
   cases a1
   cases a2
   have fin : ∀ k : Bool, Q (.bl k) H -> ∀ t, EP X pins Z Q (.bool k) { s with toks := t } := λ k q t => ⟨.bl k, H, I.tok t, rfl, q⟩
   cases x with
   | non => cases g <;> first | exact (show False from e).elim | (cases rx; exact PySem.W.kia_tup PySem.W.kitx_none I.kIn trivial ho zW (by intro z; cases z) (fin _ q))
   | bl b => cases g <;> first | exact (show False from e).elim | (cases rx; exact PySem.W.kia_tup PySem.W.kitx_bool I.kIn trivial ho Cn (by intro z; cases z) (fin _ q))
   | int i => cases g <;> first | exact (show False from e).elim | (obtain ⟨t, rfl⟩ := rx; exact PySem.W.kia_tup PySem.W.kitx_int I.kIn trivial ho Em (by intro z; cases z) (fin _ q))
   | str y => cases g <;> first | exact (show False from e).elim | (obtain ⟨t, rfl⟩ := rx; exact PySem.W.kia_tup PySem.W.kitx_str I.kIn trivial ho EI (by intro z; cases z) (fin _ q))
   | ref a =>
    cases rx
    cases g with
    | tup =>
     obtain ⟨xs, hx⟩ := (show ∃ xs, bq X.K H a xs from e)
     obtain ⟨_, _, ⟨o, hoa, hc, _⟩, _⟩ := I.tuple hx
     exact PySem.W.kia_tup PySem.W.kitx_tuple I.kIn ⟨o, hoa, hc⟩ ho yR (by intro z; cases z) (fin _ q)
    | lst =>
     obtain ⟨xs, hx⟩ := (show ∃ xs, aZ X.K H a xs from e)
     obtain ⟨_, _, ⟨o, n, hoa, hc, _⟩, _⟩ := I.list hx
     exact PySem.W.kia_tup PySem.W.kitx_list I.kIn ⟨o, hoa, hc⟩ ho AS (by intro z; cases z) (fin _ q)
    | dic =>
     obtain ⟨kvs, hx⟩ := (show ∃ kvs, H a = some (.dK kvs) from e)
     obtain ⟨_, _, vs, _, o, es, ep, hoa, hc, _⟩ := (show cA X.prog X.w H s.heap a (.dK kvs) from I.hok a _ hx)
     exact PySem.W.kia_tup PySem.W.kitx_dict I.kIn ⟨o, hoa, hc.1⟩ ho Ap (by intro z; cases z) (fin _ q)
    | _ => exact (show False from e).elim
   | _ => exact (show False from e).elim
def mo (q : Bool) (h : Heap) (n a : Addr) (k : Nat) : Prop := ∃ o, h.get? n = some o /\ o.cls = .type (if q = true then "tuple_iterator" else "list_iterator") /\ o.data = .fields #[.ref a, .int k 0]
def oQ (q : Bool) (h : Heap) (a : Addr) (us : Array Value) : Prop := ∃ o, h.get? a = some o /\ o.cls = .type (if q = true then "tuple" else "list") /\ ∃ n, o.data = .seq us n
variable {q : Bool} {a : Addr}
theorem mo.at {h h' : Heap} {n : Addr} {k : Nat} (x : mo q h n a k) (e : ∀ o, h.get? n = some o -> h'.get? n = some o) : mo q h' n a k := by
 obtain ⟨o, ho, r⟩ := x; exact ⟨o, e o ho, r⟩
variable {us : Array Value}
theorem oQ.at {h h' : Heap} (x : oQ q h a us) (e : ∀ o, h.get? a = some o -> h'.get? a = some o) : oQ q h' a us := by
 obtain ⟨o, ho, r⟩ := x; exact ⟨o, e o ho, r⟩
section
variable {P : Program} {w : World} {A : Around} {E : Value -> Shared -> Prop} {s : Shared} {q : Bool} {n a : Addr} {k : Nat} {us : Array Value} {u : Value}
theorem va {Q : Value -> Shared -> Prop} (hi : mo q s.heap n a k) (hs : oQ q s.heap a us) (hu : us[k]? = some u) (go : ∀ h', mo q h' n a (k + 1) -> Heap.SameBut n s.heap h' -> Q u { s with heap := h' }) : wpAny (model P w) A (Builtin.SmallTypes.nextOf (.ref n)) Q E s := by
 cases q with
 | false => exact wpAny_nextOf_list_item hi hs hu go
 | true =>
  have ty : s.heap.IsTupleIter n a k := hi
  obtain ⟨oi, e1, e2, e3⟩ := hi
  obtain ⟨os, e4, _, m, e5⟩ := hs
  unfold Builtin.SmallTypes.nextOf
  refine cx (wpAny_callSpecial?_slot (name := Str.ofString "__next__") ty.typeIs F.slot_tuple_iterator_next (wpAny_call_entry F.slot_tuple_iterator_next ty.typeIs F.entry_tuple_iterator_next ?_ (F.args_tuple_iterator_next_1 _)))
  refine cx (m := field (.ref n) 0) (vK e1 e3 (x := .ref a) rfl ?_)
  show wpAny _ _ (ite ((Value.ref a == Value.none) = true) _ _) _ _ s; rw [gS (show ¬ (Value.ref a == Value.none) = true from nofun)]
  refine cx (m := field (.ref n) 1) (vK e1 e3 (x := .int k 0) rfl (cx (m := seqItems? (.ref a)) (wpAny_seqItems e4 e5 ?_)))
  simp only [hu, Int.toNat_natCast]
  refine cx (wpAny_setField e1 e3 (by simp) (fh ⟨u, rfl, fh (go _ ⟨_, Heap.get?_update_self _ e1 (Obj.isFreed_of_fields (Obj.data_mapFields e3 _)), (Obj.cls_mapFields ..).trans e2, ?_⟩ (Heap.SameBut.update ..))⟩))
  rw [Obj.data_mapFields e3]; simp [rawInt]
theorem zy {Q : Value -> Shared -> Prop} (hh : A.handled = none) (hi : mo q s.heap n a k) (hs : oQ q s.heap a us) (hu : us[k]? = none) (go : ∀ h' e, Heap.ExtBut n s.heap h' -> (∃ o, h'.get? e = some o /\ o.cls = .type "StopIteration") -> E (.ref e) { s with heap := h' }) : wpAny (model P w) A (Builtin.SmallTypes.nextOf (.ref n)) Q E s := by
 cases q with
 | false => exact wpAny_nextOf_list_end hh hi hs hu go
 | true =>
  have ty : s.heap.IsTupleIter n a k := hi
  obtain ⟨oi, e1, e2, e3⟩ := hi
  obtain ⟨os, e4, _, m, e5⟩ := hs
  unfold Builtin.SmallTypes.nextOf
  refine cx (wpAny_callSpecial?_slot (name := Str.ofString "__next__") ty.typeIs F.slot_tuple_iterator_next (wpAny_call_entry F.slot_tuple_iterator_next ty.typeIs F.entry_tuple_iterator_next ?_ (F.args_tuple_iterator_next_1 _)))
  refine cx (m := field (.ref n) 0) (vK e1 e3 (x := .ref a) rfl ?_)
  show wpAny _ _ (ite ((Value.ref a == Value.none) = true) _ _) _ _ s; rw [gS (show ¬ (Value.ref a == Value.none) = true from nofun)]
  refine cx (m := field (.ref n) 1) (vK e1 e3 (x := .int k 0) rfl (cx (m := seqItems? (.ref a)) (wpAny_seqItems e4 e5 ?_)))
  simp only [hu, Int.toNat_natCast]
  refine cx (wpAny_rule (cx (wpAny_setField e1 e3 (by simp) (cx (m := newExc (.type "StopIteration") []) ?_))))
  simp only [newTuple, newExc]
  refine cx (uY (cx (m := firstArgMember _ _) (wpAny_of_eq (a := Value.none) (by first | rfl | (simp only [firstArgMember]; rfl)) (uY ?_ (by size_fits)))) (by size_fits))
  simp only [raiseNew]
  refine cx (wpAny_handled ?_)
  first | rw [hh] | rw [show A.in1.handled = none from hh]
  exact cx (fh (wpAny_throw (go _ _ (((Heap.SameBut.update ..).extBut.push _).push _) ⟨_, m8 _ rfl, rfl⟩)))
end
section
variable {P : Program} {w : World} {A : Around} {E : Value -> Shared -> Prop} {s : Shared} {q1 q2 : Bool} {z ti to n1 n2 a1 a2 : Addr} {k : Nat} {us vs : Array Value} {u v c d : Value}
structure Jf (z ti to n1 n2 a1 a2 : Addr) : Prop where
 nd : [z, ti, to, n1, n2].Nodup
 x1 : a1 ∉ [z, to, n1, n2]
 x2 : a2 ∉ [z, to, n1, n2]
theorem GC {Q : Value -> Shared -> Prop} (D : Jf z ti to n1 n2 a1 a2) (hz : IsZip s.heap z ti to .none) (hi : IsPair s.heap ti (.ref n1) (.ref n2)) (ho : IsPair s.heap to c d)
  (h1 : mo q1 s.heap n1 a1 k) (h2 : mo q2 s.heap n2 a2 k) (l1 : oQ q1 s.heap a1 us) (l2 : oQ q2 s.heap a2 vs) (hu : us[k]? = some u) (hv : vs[k]? = some v)
  (go : ∀ h', IsZip h' z ti to (rawInt s.heap.objs.size) -> IsPair h' to u v -> mo q1 h' n1 a1 (k + 1) -> mo q2 h' n2 a2 (k + 1) -> IsPair h' s.heap.objs.size u v -> h'.objs.size = s.heap.objs.size + 1 ->
   (∀ b o, b ∉ [z, to, n1, n2] -> s.heap.get? b = some o -> h'.get? b = some o) -> Q (.ref s.heap.objs.size) { s with heap := h' }) :
  wpAny (model P w) A (Builtin.«zip.__next__» ⟨[.ref z], []⟩) (λ fin s' => ∃ r, fin = .done (.ret r) /\ Q r s') E s := by
 obtain ⟨nd, x1, x2⟩ := D
 simp only [sG, j8, mV, or_false, not_or, List.nodup_nil, not_false_eq_true, and_true] at nd x1 x2
 obtain ⟨⟨zti, zto, zn1, zn2⟩, ⟨tito, tin1, tin2⟩, ⟨ton1, ton2⟩, n12⟩ := nd
 refine cx (m := field (.ref z) 2) (vK hz rfl (x := .bool false) rfl (cx (m := field (.ref z) 3) (vK hz rfl (x := .ref ti) rfl (cx (wpAny_seqItems hi rfl ?_)))))
 refine cx (m := Builtin.SmallTypes.ownedTupleIsFree (.ref z)) ?_
 unfold Builtin.SmallTypes.ownedTupleIsFree
 refine cx (vK hz rfl (x := .none) rfl (fh ?_))
 simp only [if_true]
 refine cx (wpAny_rule (cx (vK hz rfl (x := .ref to) rfl (cx (wpAny_setField_rec hz (by simp) λ g1 z1 s1 => cx ?_)))))
 have z1 : IsZip g1 z ti to .ellipsis := z1
 simp only [List.forIn_cons, List.forIn_nil, List.zipIdx_cons, List.zipIdx_nil]
 refine cx (cx (wpAny_onRaise (cx (m := Builtin.SmallTypes.nextOf (.ref n1)) (va (h1.at λ o e => s1.extBut _ _ (Ne.symm zn1) e) (l1.at λ o e => s1.extBut _ _ x1.1 e) hu λ g2 i2 s2 => fh ?_))))
 have t2 : IsPair g2 to c d := s2.extBut _ _ ton1 (s1.extBut _ _ (Ne.symm zto) ho)
 refine cx (wpAny_seqItems t2 rfl (cx (wpAny_updateSeq_pair t2 λ g3 t3 s3 => cx (wpAny_letGo (fh ?_)))))
 have t3 : IsPair g3 to u d := t3
 refine cx (cx (wpAny_onRaise (cx (m := Builtin.SmallTypes.nextOf (.ref n2)) (va (h2.at λ o e => s3.extBut _ _ (Ne.symm ton2) (s2.extBut _ _ (Ne.symm n12) (s1.extBut _ _ (Ne.symm zn2) e))) (l2.at λ o e => s3.extBut _ _ x2.2.1 (s2.extBut _ _ x2.2.2.1 (s1.extBut _ _ x2.1 e))) hv λ g4 i4 s4 => fh ?_))))
 have t4 : IsPair g4 to u d := s4.extBut _ _ ton2 t3
 refine cx (wpAny_seqItems t4 rfl (cx (wpAny_updateSeq_pair t4 λ g5 t5 s5 => cx (wpAny_letGo (fh (fh ?_))))))
 have t5 : IsPair g5 to u v := t5
 refine cx (wpAny_seqItems t5 rfl (cx (wpAny_newTuple ?_)))
 have sz : g5.objs.size = s.heap.objs.size := by rw [s5.1, s4.1, s3.1, s2.1, s1.1]
 have z5 : IsZip g5 z ti to .ellipsis := s5.extBut _ _ zto (s4.extBut _ _ zn2 (s3.extBut _ _ zto (s2.extBut _ _ zn1 z1)))
 have k5 : ∀ b o, b ∉ [z, to, n1, n2] -> s.heap.get? b = some o -> g5.get? b = some o := λ b o hb e => by
  simp only [j8, mV, or_false, not_or] at hb
  exact s5.extBut _ _ hb.2.1 (s4.extBut _ _ hb.2.2.2 (s3.extBut _ _ hb.2.1 (s2.extBut _ _ hb.2.2.1 (s1.extBut _ _ hb.1 e))))
 have i1 : mo q1 g5 n1 a1 (k + 1) := i2.at λ o e => s5.extBut _ _ (Ne.symm ton1) (s4.extBut _ _ n12 (s3.extBut _ _ (Ne.symm ton1) e))
 have i2' : mo q2 g5 n2 a2 (k + 1) := i4.at λ o e => s5.extBut _ _ (Ne.symm ton2) e
 have zlt : z < g5.objs.size := j5 z5
 refine cx (m := Builtin.SmallTypes.ownedTupleHandOut (.ref z) (.ref g5.objs.size)) ?_
 unfold Builtin.SmallTypes.ownedTupleHandOut
 refine cx (wpAny_setField_rec (show IsZip (g5.push { cls := .type "tuple", data := .seq #[u, v] }) z ti to .ellipsis from e9 _ z5) (by simp) λ g7 z7 s7 => ?_)
 have z7 : IsZip g7 z ti to (rawInt g5.objs.size) := z7
 refine wpAny_setField_rec z7 (by simp) λ g8 z8 s8 => fh ⟨_, rfl, ?_⟩
 have z8 : IsZip g8 z ti to (rawInt g5.objs.size) := z8
 have up : ∀ b o, b ≠ z -> g5.get? b = some o -> g8.get? b = some o := λ b o hb e => s8.extBut _ _ hb (s7.extBut _ _ hb (e9 _ e))
 have t8 : IsPair g8 g5.objs.size u v := s8.extBut _ _ (Nat.ne_of_gt zlt) (s7.extBut _ _ (Nat.ne_of_gt zlt) (m8 _ rfl))
 have sz8 : g8.objs.size = g5.objs.size + 1 := by rw [s8.1, s7.1, Heap.size_push]
 show Q (.ref g5.objs.size) _
 rw [sz] at z8 t8 sz8 ⊢
 exact go g8 z8 (up _ _ (Ne.symm zto) t5) (i1.at λ o e => up _ o (Ne.symm zn1) e) (i2'.at λ o e => up _ o (Ne.symm zn2) e) t8 sz8 λ b o hb e => up b o (λ x => hb (by simp [x])) (k5 b o hb e)
theorem FX {Q : PySem.Fin -> Shared -> Prop} (hh : A.handled = none) (D : Jf z ti to n1 n2 a1 a2) (hz : IsZip s.heap z ti to .none) (hi : IsPair s.heap ti (.ref n1) (.ref n2)) (ho : IsPair s.heap to c d)
  (h1 : mo q1 s.heap n1 a1 k) (h2 : mo q2 s.heap n2 a2 k) (l1 : oQ q1 s.heap a1 us) (l2 : oQ q2 s.heap a2 vs) (hend : us[k]? = none ∨ vs[k]? = none)
  (go : ∀ h' e, (∀ b o, b ∉ [z, to, n1, n2] -> s.heap.get? b = some o -> h'.get? b = some o) -> (∃ o, h'.get? e = some o /\ o.cls = .type "StopIteration") -> E (.ref e) { s with heap := h' }) :
  wpAny (model P w) A (Builtin.«zip.__next__» ⟨[.ref z], []⟩) Q E s := by
 obtain ⟨nd, x1, x2⟩ := D
 simp only [sG, j8, mV, or_false, not_or, List.nodup_nil, not_false_eq_true, and_true] at nd x1 x2
 obtain ⟨⟨zti, zto, zn1, zn2⟩, ⟨tito, tin1, tin2⟩, ⟨ton1, ton2⟩, n12⟩ := nd
 refine cx (m := field (.ref z) 2) (vK hz rfl (x := .bool false) rfl (cx (m := field (.ref z) 3) (vK hz rfl (x := .ref ti) rfl (cx (wpAny_seqItems hi rfl ?_)))))
 refine cx (m := Builtin.SmallTypes.ownedTupleIsFree (.ref z)) ?_
 unfold Builtin.SmallTypes.ownedTupleIsFree
 refine cx (vK hz rfl (x := .none) rfl (fh ?_))
 simp only [if_true]
 refine cx (wpAny_rule (cx (vK hz rfl (x := .ref to) rfl (cx (wpAny_setField_rec hz (by simp) λ g1 z1 s1 => cx ?_)))))
 have z1 : IsZip g1 z ti to .ellipsis := z1
 simp only [List.forIn_cons, List.forIn_nil, List.zipIdx_cons, List.zipIdx_nil]
 cases hu : us[k]? with
 | none =>
  refine cx (cx (wpAny_onRaise (cx (m := Builtin.SmallTypes.nextOf (.ref n1)) (zy hh (h1.at λ o e => s1.extBut _ _ (Ne.symm zn1) e) (l1.at λ o e => s1.extBut _ _ x1.1 e) hu λ g2 e s2 he => ?_))))
  obtain ⟨oe, hoe, hce⟩ := he
  have z2 : IsZip g2 z ti to .ellipsis := s2 _ _ zn1 z1
  have ez : e ≠ z := λ x => by rw [x, z2] at hoe; cases hoe; simp at hce
  refine wpAny_setField_rec z2 (by simp) λ g3 _ s3 => go g3 e (λ b o hb x => ?_) ⟨oe, s3.extBut _ _ ez hoe, hce⟩
  simp only [j8, mV, or_false, not_or] at hb
  exact s3.extBut _ _ hb.1 (s2 _ _ hb.2.2.1 (s1.extBut _ _ hb.1 x))
 | some u =>
  have hv : vs[k]? = none := by
   rcases hend with h | h
   ·rw [hu] at h; cases h
   ·exact h
  refine cx (cx (wpAny_onRaise (cx (m := Builtin.SmallTypes.nextOf (.ref n1)) (va (h1.at λ o e => s1.extBut _ _ (Ne.symm zn1) e) (l1.at λ o e => s1.extBut _ _ x1.1 e) hu λ g2 i2 s2 => fh ?_))))
  have t2 : IsPair g2 to c d := s2.extBut _ _ ton1 (s1.extBut _ _ (Ne.symm zto) ho)
  refine cx (wpAny_seqItems t2 rfl (cx (wpAny_updateSeq_pair t2 λ g3 t3 s3 => cx (wpAny_letGo (fh ?_)))))
  refine cx (cx (wpAny_onRaise (cx (m := Builtin.SmallTypes.nextOf (.ref n2)) (zy hh (h2.at λ o e => s3.extBut _ _ (Ne.symm ton2) (s2.extBut _ _ (Ne.symm n12) (s1.extBut _ _ (Ne.symm zn2) e))) (l2.at λ o e => s3.extBut _ _ x2.2.1 (s2.extBut _ _ x2.2.2.1 (s1.extBut _ _ x2.1 e))) hv λ g4 e s4 he => ?_))))
  obtain ⟨oe, hoe, hce⟩ := he
  have z4 : IsZip g4 z ti to .ellipsis := s4 _ _ zn2 (s3.extBut _ _ zto (s2.extBut _ _ zn1 z1))
  have ez : e ≠ z := λ x => by rw [x, z4] at hoe; cases hoe; simp at hce
  refine wpAny_setField_rec z4 (by simp) λ g5 _ s5 => go g5 e (λ b o hb x => ?_) ⟨oe, s5.extBut _ _ ez hoe, hce⟩
  simp only [j8, mV, or_false, not_or] at hb
  exact s5.extBut _ _ hb.1 (s4 _ _ hb.2.2.2 (s3.extBut _ _ hb.2.1 (s2.extBut _ _ hb.2.2.1 (s1.extBut _ _ hb.1 x))))
theorem DR {Q : Option Value -> Shared -> Prop} (D : Jf z ti to n1 n2 a1 a2) (hz : IsZip s.heap z ti to .none) (hi : IsPair s.heap ti (.ref n1) (.ref n2)) (ho : IsPair s.heap to c d)
  (h1 : mo q1 s.heap n1 a1 k) (h2 : mo q2 s.heap n2 a2 k) (l1 : oQ q1 s.heap a1 us) (l2 : oQ q2 s.heap a2 vs) (hu : us[k]? = some u) (hv : vs[k]? = some v)
  (go : ∀ h', IsZip h' z ti to (rawInt s.heap.objs.size) -> IsPair h' to u v -> mo q1 h' n1 a1 (k + 1) -> mo q2 h' n2 a2 (k + 1) -> IsPair h' s.heap.objs.size u v -> h'.objs.size = s.heap.objs.size + 1 ->
   (∀ b o, b ∉ [z, to, n1, n2] -> s.heap.get? b = some o -> h'.get? b = some o) -> Q (some (.ref s.heap.objs.size)) { s with heap := h' }) : wpAny (model P w) A (pyNext (.ref z)) Q E s := by
 have ty : s.TypeIs (.ref z) "zip" := ⟨_, hz, rfl⟩
 unfold pyNext
 exact cx (wpAny_attempt (wpAny_callSpecial?_slot (name := Str.ofString "__next__") ty F.slot_zip_next (wpAny_call_entry F.slot_zip_next ty F.entry_zip_next (GC D hz hi ho h1 h2 l1 l2 hu hv λ h' b1 b2 b3 b4 b5 b6 b7 => fh (go h' b1 b2 b3 b4 b5 b6 b7)) (F.args_zip_next_1 _))))
theorem DD {Q : Option Value -> Shared -> Prop} (hh : A.handled = none) (D : Jf z ti to n1 n2 a1 a2) (hz : IsZip s.heap z ti to .none) (hi : IsPair s.heap ti (.ref n1) (.ref n2)) (ho : IsPair s.heap to c d)
  (h1 : mo q1 s.heap n1 a1 k) (h2 : mo q2 s.heap n2 a2 k) (l1 : oQ q1 s.heap a1 us) (l2 : oQ q2 s.heap a2 vs) (hend : us[k]? = none ∨ vs[k]? = none)
  (go : ∀ h', (∀ b o, b ∉ [z, to, n1, n2] -> s.heap.get? b = some o -> h'.get? b = some o) -> Q none { s with heap := h' }) : wpAny (model P w) A (pyNext (.ref z)) Q E s := by
 have ty : s.TypeIs (.ref z) "zip" := ⟨_, hz, rfl⟩
 unfold pyNext
 refine cx (wpAny_attempt (wpAny_callSpecial?_slot (name := Str.ofString "__next__") ty F.slot_zip_next (wpAny_call_entry F.slot_zip_next ty F.entry_zip_next (FX hh D hz hi ho h1 h2 l1 l2 hend λ h' e hk he => ?_) (F.args_zip_next_1 _))))
 obtain ⟨o, e1, e2⟩ := he
 exact cx (wpAny_isInstance (T := "StopIteration") (b := true) ⟨o, e1, e2⟩ isSubtype_stop (fh (go _ hk)))
end
noncomputable abbrev LR (q : Bool) (a : Addr) : Obj := { cls := .type (if q = true then "tuple_iterator" else "list_iterator"), data := .fields #[.ref a, .int 0 0] }
theorem Bi {P : Program} {w : World} {A : Around} {E : Value -> Shared -> Prop} {s : Shared} {Q : Value -> Shared -> Prop} (hs : oQ q s.heap a us) (go : Q (.ref s.heap.objs.size) { s with heap := s.heap.push (LR q a) }) : wpAny (model P w) A (pyIter (.ref a)) Q E s := by
 cases q with
 | false => exact wpAny_pyIter_list hs go
 | true => exact wpAny_pyIter_tuple hs go
noncomputable abbrev LA (h : Heap) (q1 : Bool) (a1 : Addr) : Heap := h.push (LR q1 a1)
noncomputable abbrev LL (h : Heap) (q1 q2 : Bool) (a1 a2 : Addr) : Heap := (LA h q1 a1).push (LR q2 a2)
noncomputable abbrev LD (h : Heap) (q1 q2 : Bool) (a1 a2 : Addr) : Heap := (LL h q1 q2 a1 a2).push { cls := .type "tuple", data := .seq #[.ref h.objs.size, .ref (LA h q1 a1).objs.size] }
noncomputable abbrev LO (h : Heap) (q1 q2 : Bool) (a1 a2 : Addr) : Heap := (LD h q1 q2 a1 a2).push { cls := .type "tuple", data := .seq #[.none, .none] }
noncomputable abbrev Ji (h : Heap) (q1 q2 : Bool) (a1 a2 : Addr) : Heap := (LO h q1 q2 a1 a2).push { cls := .type "zip", data := .fields #[.none, .bool false, .bool false, .ref (LL h q1 q2 a1 a2).objs.size, .ref (LD h q1 q2 a1 a2).objs.size] }
theorem Hh (q1 q2 : Bool) (a1 a2 : Addr) (us vs : Array Value) : Meets (Builtin.«zip.__new__» ⟨[.type "zip", .ref a1, .ref a2], []⟩) (λ _ R s => oQ q1 s.heap a1 us /\ oQ q2 s.heap a2 vs /\ R (.ok (.ret (.ref (LO s.heap q1 q2 a1 a2).objs.size))) { s with heap := Ji s.heap q1 q2 a1 a2 }) :=
 .of_wp λ prog w A R s h => by
  obtain ⟨hp, g, d, tk, os⟩ := s
  obtain ⟨l1, l2, h⟩ := h
  have hsub := sub_zip
  have L1 : oQ q1 (Shared.heap ⟨hp, g, d, tk, os⟩) a1 us := l1
  have L2 : oQ q2 (Shared.heap ⟨hp.push (LR q1 a1), g, d, tk, os⟩) a2 vs := l2.at λ o e => e9 _ e
  wp_walk using Bi L1, Bi L2
  exact ⟨_, rfl, h⟩
theorem Iu {P : Program} {w : World} {A : Around} {E : Value -> Shared -> Prop} {s : Shared} {q1 q2 : Bool} {a1 a2 : Addr} {vs : Array Value} {Q : Value -> Shared -> Prop} (l1 : oQ q1 s.heap a1 us) (l2 : oQ q2 s.heap a2 vs)
  (go : ∀ h', IsZip h' (s.heap.objs.size + 4) (s.heap.objs.size + 2) (s.heap.objs.size + 3) .none -> IsPair h' (s.heap.objs.size + 2) (.ref s.heap.objs.size) (.ref (s.heap.objs.size + 1)) -> IsPair h' (s.heap.objs.size + 3) .none .none ->
   mo q1 h' s.heap.objs.size a1 0 -> mo q2 h' (s.heap.objs.size + 1) a2 0 -> (∀ b o, s.heap.get? b = some o -> h'.get? b = some o) -> Q (.ref (s.heap.objs.size + 4)) { s with heap := h' }) : wpAny (model P w) A (call (.type "zip") [.ref a1, .ref a2]) Q E s := by
 refine callType_new F.called_zip (by decide) (F.typeCall_zip_2 _ _) (F.newCall_zip_2 _ _) (λ obj => F.args_object_init_3 obj _ _) F.entry_zip_new (Hh q1 q2 a1 a2 us vs) ⟨l1, l2, ?_⟩
 have y1 : (LA s.heap q1 a1).objs.size = s.heap.objs.size + 1 := Heap.size_push ..
 have y2 : (LL s.heap q1 q2 a1 a2).objs.size = s.heap.objs.size + 2 := by rw [Heap.size_push, y1]
 have y3 : (LD s.heap q1 q2 a1 a2).objs.size = s.heap.objs.size + 3 := by rw [Heap.size_push, y2]
 have y4 : (LO s.heap q1 q2 a1 a2).objs.size = s.heap.objs.size + 4 := by rw [Heap.size_push, y3]
 have p5 : (Ji s.heap q1 q2 a1 a2).get? (LO s.heap q1 q2 a1 a2).objs.size = some _ := m8 _ rfl
 have p4 : (Ji s.heap q1 q2 a1 a2).get? (LD s.heap q1 q2 a1 a2).objs.size = some _ := e9 _ (m8 _ rfl)
 have p3 : (Ji s.heap q1 q2 a1 a2).get? (LL s.heap q1 q2 a1 a2).objs.size = some _ := e9 _ (e9 _ (m8 _ rfl))
 have p2 : (Ji s.heap q1 q2 a1 a2).get? (LA s.heap q1 a1).objs.size = some _ := e9 _ (e9 _ (e9 _ (m8 _ rfl)))
 have p1 : (Ji s.heap q1 q2 a1 a2).get? s.heap.objs.size = some _ := e9 _ (e9 _ (e9 _ (e9 _ (m8 _ rfl))))
 show _ /\ _
 rw [y2, y3, y4] at p5
 rw [y1, y2] at p3
 rw [y3] at p4
 rw [y1] at p2
 rw [y4]
 exact ⟨⟨_, p5, rfl⟩, go _ p5 p3 p4 ⟨_, p1, rfl, rfl⟩ ⟨_, p2, rfl, rfl⟩ λ b o x => e9 _ (e9 _ (e9 _ (e9 _ (e9 _ x))))⟩
def mI (q : Bool) (K : Fg) (H : Hp) (a : Addr) (xs : List V) : Prop := if q = true then bq K H a xs else aZ K H a xs
section
variable {X : Cx} {pins : Pn} {Z : St} {H : Hp} {s : Shared} {q : Bool} {a : Addr} {xs ys : List V}
theorem Inv.sqB (I : Inv X pins Z H s) (h : mI q X.K H a xs) : ∃ its : List Value, aM xs its /\ oQ q s.heap a its.toArray := by
 cases q with
 | false =>
  obtain ⟨its, r, p, _⟩ := I.list h
  exact ⟨its, r, p.isList⟩
 | true =>
  obtain ⟨its, r, p, _⟩ := I.tuple h
  exact ⟨its, r, show s.heap.IsTuple a its.toArray from p⟩
theorem Inv.sqB_inj (I : Inv X pins Z H s) (h : mI q X.K H a xs) (g : mI q X.K H a ys) : xs = ys := by
 cases q with
 | false => exact I.list_inj h g
 | true => exact I.tuple_inj h g
end
def Itz (K : Fg) (q1 q2 : Bool) (a1 a2 : Addr) : It :=
  ⟨λ i H => ∃ xs ys x y, mI q1 K H a1 xs /\ mI q2 K H a2 ys /\ xs[i]? = some x /\ ys[i]? = some y,
   λ i H v H' => ∃ p x y, v = .ref p /\ H p = none /\ (∀ xs, mI q1 K H a1 xs -> xs[i]? = some x) /\ (∀ ys, mI q2 K H a2 ys -> ys[i]? = some y) /\ H' = upd H p (.tup [x, y]),
   λ i H => ∃ xs ys, mI q1 K H a1 xs /\ mI q2 K H a2 ys /\ (xs.length <= i ∨ ys.length <= i)⟩
theorem Bt {P : Program} {w : World} {K : Fg} {elts : List Expr} {x1 : _} {pos : Pos} {q1 q2 : Bool} {a1 a2 z ti to n1 n2 : Addr} (D : Jf z ti to n1 n2 a1 a2) :
  Au P w K (.Tuple elts x1 pos) (Itz K q1 q2 a1 a2) [z, ti, to, n1, n2] z (λ i h => IsZip h z ti to .none /\ IsPair h ti (.ref n1) (.ref n2) /\ (∃ c d, IsPair h to c d) /\ mo q1 h n1 a1 i /\ mo q2 h n2 a2 i) where
 mem := by simp
 obj := λ i h st b hb => by
  obtain ⟨hz, hi, ⟨c, d, ho⟩, ⟨o1, e1, c1, d1⟩, ⟨o2, e2, c2, d2⟩⟩ := st
  have hb' : b = z ∨ b = ti ∨ b = to ∨ b = n1 ∨ b = n2 := by simpa using hb
  rcases hb' with rfl | rfl | rfl | rfl | rfl
  ·exact ⟨_, hz, λ v y => by cases y⟩
  ·exact ⟨_, hi, λ v y => by cases y⟩
  ·exact ⟨_, ho, λ v y => by cases y⟩
  ·exact ⟨o1, e1, λ v y => by rw [d1] at y; cases y⟩
  ·exact ⟨o2, e2, λ v y => by rw [d2] at y; cases y⟩
 keep := λ i h h' st k => by
  obtain ⟨hz, hi, ⟨c, d, ho⟩, h1, h2⟩ := st
  exact ⟨k z (by simp) _ hz, k ti (by simp) _ hi, ⟨c, d, k to (by simp) _ ho⟩, h1.at λ o e => k n1 (by simp) o e, h2.at λ o e => k n2 (by simp) o e⟩
 item := by
  intro X hP hw hK hc i pins s Z H E I hf st hg
  subst hP hw hK
  obtain ⟨xs, ys, x, y, hq1, hq2, hx, hy⟩ := hg
  obtain ⟨hz, hi, ⟨c, d, ho⟩, h1, h2⟩ := st
  obtain ⟨it1, r1, p1⟩ := I.sqB hq1
  obtain ⟨it2, r2, p2⟩ := I.sqB hq2
  obtain ⟨u, hu, ru⟩ := r1.get hx
  obtain ⟨v, hv, rv⟩ := r2.get hy
  have fpl : ∀ b ∈ [z, ti, to, n1, n2], b < s.heap.objs.size := λ b hb => by
   obtain ⟨o1, e1, _⟩ := id h1
   obtain ⟨o2, e2, _⟩ := id h2
   have hb' : b = z ∨ b = ti ∨ b = to ∨ b = n1 ∨ b = n2 := by simpa using hb
   rcases hb' with rfl | rfl | rfl | rfl | rfl
   ·exact j5 hz
   ·exact j5 hi
   ·exact j5 ho
   ·exact j5 e1
   ·exact j5 e2
  refine DR D hz hi ho h1 h2 p1 p2 (u := u) (v := v) (by simpa using hu) (by simpa using hv) λ g z1 o1 i1 i2 t1 sz kk => ?_
  refine ⟨.ref s.heap.objs.size, rfl, wpAny_letOwnedTupleGo_zip z1 λ g2 z2 sb => ?_⟩
  have sb2 : ∀ b, b ≠ z -> g2.get? b = g.get? b := sb.2
  have hfr : H s.heap.objs.size = none := I.hok.fresh (jo _)
  have I1 : Inv X pins Z (upd H s.heap.objs.size (.tup [x, y])) { s with heap := s.heap.push { cls := .type "tuple", data := .seq #[u, v] } } :=
   I.laid (t' := s.toks) (λ b o e => e9 _ e) (jo _) ⟨by show 2 <= sizeLine; decide, [u, v], .cons ru (.cons rv .nil), _, m8 _ rfl, rfl, _, rfl⟩
  have hf2 : ∀ b ∈ [z, ti, to, n1, n2], lZ X pins (upd H s.heap.objs.size (.tup [x, y])) b := λ b hb => by
   obtain ⟨f0, f1, f2, f3, f4, f5⟩ := hf b hb
   exact ⟨by rw [am (uS (fpl b hb))]; exact f0, f1, f2, f3, f4, f5⟩
  have I2 := Inv.turnedL (h' := g2) (t' := s.toks) (fp := [z, ti, to, n1, n2]) I1 (λ b o hb e => by
   have hbz : b ≠ z := λ q => hb (by simp [q])
   rw [sb2 b hbz]
   rcases Heap.get?_push_cases e with ⟨y1, y2⟩ | y1
   ·rw [y1, y2]; exact t1
   ·exact kk b o (λ q => hb (by simp at q ⊢; rcases q with q | q | q | q <;> simp [q])) y1) hf2
  have nz : ∀ b ∈ [ti, to, n1, n2], b ≠ z := λ b hb q => by
   have := D.nd
   simp only [sG] at this
   exact this.1 (by rw [<- q]; exact hb)
  have keep2 : ∀ b ∈ [ti, to, n1, n2], ∀ o, g.get? b = some o -> g2.get? b = some o := λ b hb o e => by rw [sb2 b (nz b hb)]; exact e
  have tk : g.get? ti = some _ := kk ti _ (λ q => by
   have := D.nd
   simp only [sG] at this
   simp at q
   rcases q with q | q | q | q
   ·exact nz ti (by simp) q
   ·exact this.2.1 (by rw [q]; simp)
   ·exact this.2.1 (by rw [q]; simp)
   ·exact this.2.1 (by rw [q]; simp)) hi
  exact ⟨.ref s.heap.objs.size, _, I2, rfl, ⟨_, x, y, rfl, hfr, λ zs hzs => by rw [I.sqB_inj hzs hq1]; exact hx, λ zs hzs => by rw [I.sqB_inj hzs hq2]; exact hy, rfl⟩,
   ⟨z2, keep2 ti (by simp) _ tk, ⟨_, _, keep2 to (by simp) _ o1⟩, i1.at λ o e => keep2 n1 (by simp) o e, i2.at λ o e => keep2 n2 (by simp) o e⟩, λ b hb => (hf2 b hb).1⟩
 done := by
  intro X hP hw hK hc i pins s Z H E I hf st hg
  subst hP hw hK
  obtain ⟨xs, ys, hq1, hq2, hx⟩ := hg
  obtain ⟨hz, hi, ⟨c, d, ho⟩, h1, h2⟩ := st
  obtain ⟨it1, r1, p1⟩ := I.sqB hq1
  obtain ⟨it2, r2, p2⟩ := I.sqB hq2
  have l1 := r1.length
  have l2 := r2.length
  refine DD (I.ok.hd hc) D hz hi ho h1 h2 p1 p2 ?_ λ g kk => ⟨rfl, Inv.turnedL (t' := s.toks) I (λ b o hb e => kk b o (λ q => hb (by simp at q ⊢; rcases q with q | q | q | q <;> simp [q])) e) hf⟩
  rcases hx with hx | hx
  ·exact .inl (by simp; lia)
  ·exact .inr (by simp; lia)
 self := λ _ _ _ _ _ st h => wpAny_pyIter_zip st.1 h
theorem Hy : bootBuiltins "zip" = some (.type "zip") := by decide +kernel
section
variable {X : Cx}
def Js (K : Fg) (ta : TA) : TI := λ Z H R => ta Z H λ vs H1 => ∃ q1 q2 a1 a2, vs = [.ref a1, .ref a2] /\ (∃ xs, mI q1 K H1 a1 xs) /\ (∃ ys, mI q2 K H1 a2 ys) /\ R (Itz K q1 q2 a1 a2) H1
theorem Cd {l1 l2 : Expr} {ta : TA} {elts : List Expr} {x1 : _} {p pos pos' : Pos} (hg : Gl X "zip") (hm : X.mg "zip" = none) (ha : PA X [l1, l2] ta) (hs : starEach [l1, l2] X.env = (false, eval l1 X.env) :: starEach [l2] X.env := by rfl) (hpl : (backTo pos (starEach [l2] X.env)).any (·.1) = false := by rfl) :
  PI X (.Tuple elts x1 pos') (.Call (.Name "zip" p) [l1, l2] [] pos) (Js X.K ta) := by
 intro pins s Z H R I h
 refine Call_ (oy I hg hm Hy (PyProof.Rows.callWith_type1 (cj (ha pos pins s Z H _ I h) λ us s1 ⟨vs, H1, I1, r1, q1⟩ => ?_) hs hpl))
 obtain ⟨b1, b2, a1, a2, e, ⟨xs, hq1⟩, ⟨ys, hq2⟩, q⟩ := q1
 subst e
 cases r1 with
 | cons r rr =>
  cases rr with
  | cons r2 rr =>
   cases rr
   cases r
   cases r2
   obtain ⟨it1, rv1, p1⟩ := I1.sqB hq1
   obtain ⟨it2, rv2, p2⟩ := I1.sqB hq2
   have lt1 : a1 < s1.heap.objs.size := by obtain ⟨o, e, _⟩ := id p1; exact j5 e
   have lt2 : a2 < s1.heap.objs.size := by obtain ⟨o, e, _⟩ := id p2; exact j5 e
   refine Iu p1 p2 λ g hz hi ho h1 h2 kk => ?_
   have I2 : Inv X pins Z H1 { s1 with heap := g } := I1.kept (t' := s1.toks) kk
   have D : Jf (s1.heap.objs.size + 4) (s1.heap.objs.size + 2) (s1.heap.objs.size + 3) s1.heap.objs.size (s1.heap.objs.size + 1) a1 a2 := by
    have ap : ∀ b : Addr, b < s1.heap.objs.size -> b ∉ [s1.heap.objs.size + 4, s1.heap.objs.size + 3, s1.heap.objs.size, s1.heap.objs.size + 1] := λ b lt hb => by
     have hb' : b = s1.heap.objs.size + 4 ∨ b = s1.heap.objs.size + 3 ∨ b = s1.heap.objs.size ∨ b = s1.heap.objs.size + 1 := by simpa using hb
     rcases hb' with e | e | e | e
     ·exact absurd lt (by rw [e]; exact Nat.not_lt_of_le (Nat.le_add_right _ _))
     ·exact absurd lt (by rw [e]; exact Nat.not_lt_of_le (Nat.le_add_right _ _))
     ·exact absurd lt (by rw [e]; exact Nat.lt_irrefl _)
     ·exact absurd lt (by rw [e]; exact Nat.not_lt_of_le (Nat.le_add_right _ _))
    exact ⟨by simp, ap a1 lt1, ap a2 lt2⟩
   refine wpAny_pyIter_zip hz ⟨s1.heap.objs.size + 4, [s1.heap.objs.size + 4, s1.heap.objs.size + 2, s1.heap.objs.size + 3, s1.heap.objs.size, s1.heap.objs.size + 1], _, _, H1, rfl, I2, Bt D, ⟨hz, hi, ⟨_, _, ho⟩, h1, h2⟩, λ b hb => ?_, q⟩
   have hge : s1.heap.objs.size <= b := by
    have hb' : b = s1.heap.objs.size + 4 ∨ b = s1.heap.objs.size + 2 ∨ b = s1.heap.objs.size + 3 ∨ b = s1.heap.objs.size ∨ b = s1.heap.objs.size + 1 := by simpa using hb
    rcases hb' with e | e | e | e | e
    ·rw [e]; exact Nat.le_add_right _ _
    ·rw [e]; exact Nat.le_add_right _ _
    ·rw [e]; exact Nat.le_add_right _ _
    ·rw [e]; exact jo _
    ·rw [e]; exact Nat.le_add_right _ _
   exact I1.fpOk hge (I1.hok.fresh hge)
end
inductive Tr where
 | non | bl (b : Bool) | int (i : Int) | str (x : Str) | tup (ts : List Tr) | lst (ts : List Tr) | dct (kvs : List (Key × Tr)) | ty (n : String)
mutual
inductive Is (K : Fg) (F : Hp) : V -> Tr -> Prop
 | non : Is K F .non .non
 | bl {b : Bool} : Is K F (.bl b) (.bl b)
 | int {i : Int} : Is K F (.int i) (.int i)
 | str {x : Str} : Is K F (.str x) (.str x)
 | ty {n : String} : Is K F (.ty n) (.ty n)
 | tup {p : Addr} {vs : List V} {ts : List Tr} : bq K F p vs -> IsL K F vs ts -> Is K F (.ref p) (.tup ts)
 | lst {p : Addr} {vs : List V} {ts : List Tr} : aZ K F p vs -> IsL K F vs ts -> Is K F (.ref p) (.lst ts)
 | dct {p : Addr} {kvs : List (Key × V)} {ts : List (Key × Tr)} : F p = some (.dK kvs) -> kvs.map (·.1) = ts.map (·.1) -> IsL K F (kvs.map (·.2)) (ts.map (·.2)) -> Is K F (.ref p) (.dct ts)
inductive IsL (K : Fg) (F : Hp) : List V -> List Tr -> Prop
 | nil : IsL K F [] []
 | cons {v : V} {t : Tr} {vs : List V} {ts : List Tr} : Is K F v t -> IsL K F vs ts -> IsL K F (v :: vs) (t :: ts)
end
mutual
theorem Is.same {K : Fg} {F F' : Hp} (s : ah F F') : ∀ {v : V} {t : Tr}, Is K F v t -> Is K F' v t
 | _, _, .non => .non
 | _, _, .bl => .bl
 | _, _, .int => .int
 | _, _, .str => .str
 | _, _, .ty => .ty
 | _, _, .tup h g => .tup (s.tup h) (IsL.same s g)
 | _, _, .lst h g => .lst (s.seq h) (IsL.same s g)
 | _, _, .dct h e g => .dct (s _ _ h) e (IsL.same s g)
theorem IsL.same {K : Fg} {F F' : Hp} (s : ah F F') : ∀ {vs : List V} {ts : List Tr}, IsL K F vs ts -> IsL K F' vs ts
 | _, _, .nil => .nil
 | _, _, .cons h g => .cons (Is.same s h) (IsL.same s g)
end
section
variable {K : Fg} {F : Hp}
theorem IsL.length : ∀ {vs : List V} {ts : List Tr}, IsL K F vs ts -> vs.length = ts.length
 | _, _, .nil => rfl
 | _, _, .cons _ g => congrArg (· + 1) (IsL.length g)
theorem IsL.get : ∀ {vs : List V} {ts : List Tr} {i : Nat} {t : Tr}, IsL K F vs ts -> ts[i]? = some t -> ∃ v, vs[i]? = some v /\ Is K F v t
 | _, _, _, _, .nil, e => by simp at e
 | _, _, 0, _, .cons h _, e => by simp at e; subst e; exact ⟨_, rfl, h⟩
 | _, _, i + 1, t, .cons _ g, e => by
  obtain ⟨u, h1, h2⟩ := IsL.get (i := i) (t := t) g (by simpa using e)
  exact ⟨u, by simpa using h1, h2⟩
theorem IsL.get2 : ∀ {vs : List V} {ts : List Tr} {i : Nat} {v : V}, IsL K F vs ts -> vs[i]? = some v -> ∃ t, ts[i]? = some t /\ Is K F v t
 | _, _, _, _, .nil, e => by simp at e
 | _, _, 0, _, .cons h _, e => by simp at e; subst e; exact ⟨_, rfl, h⟩
 | _, _, i + 1, t, .cons _ g, e => by
  obtain ⟨u, h1, h2⟩ := IsL.get2 (i := i) (v := t) g (by simpa using e)
  exact ⟨u, by simpa using h1, h2⟩
theorem IsL.app : ∀ {vs ws : List V} {ts us : List Tr}, IsL K F vs ts -> IsL K F ws us -> IsL K F (vs ++ ws) (ts ++ us)
 | _, _, _, _, .nil, s => s
 | _, _, _, _, .cons h g, s => .cons h (IsL.app g s)
theorem IsL.take : ∀ {vs : List V} {ts : List Tr} (n : Nat), IsL K F vs ts -> IsL K F (vs.take n) (ts.take n)
 | _, _, 0, _ => .nil
 | _, _, _ + 1, .nil => .nil
 | _, _, n + 1, .cons h g => .cons h (IsL.take n g)
theorem IsL.drop : ∀ {vs : List V} {ts : List Tr} (n : Nat), IsL K F vs ts -> IsL K F (vs.drop n) (ts.drop n)
 | _, _, 0, h => h
 | _, _, _ + 1, .nil => .nil
 | _, _, n + 1, .cons _ g => IsL.drop n g
variable {vs : List V}
theorem IsL.snoc {ts : List Tr} {v : V} {t : Tr} (h : IsL K F vs ts) (g : Is K F v t) : IsL K F (vs ++ [v]) (ts ++ [t]) := h.app (.cons g .nil)
theorem IsL.ints {ns : List Int} (h : IsL K F vs (ns.map Tr.int)) : vs = ns.map V.int := by
 induction ns generalizing vs with
 | nil => cases h; rfl
 | cons n r ih => cases h with | cons a g => cases a; rw [ih g]; rfl
theorem IsL.strs {ns : List Str} (h : IsL K F vs (ns.map Tr.str)) : vs = ns.map V.str := by
 induction ns generalizing vs with
 | nil => cases h; rfl
 | cons n r ih => cases h with | cons a g => cases a; rw [ih g]; rfl
theorem IsL.bls {ns : List Bool} (h : IsL K F vs (ns.map Tr.bl)) : vs = ns.map V.bl := by
 induction ns generalizing vs with
 | nil => cases h; rfl
 | cons n r ih => cases h with | cons a g => cases a; rw [ih g]; rfl
theorem IsL.ofInts : ∀ (ns : List Int), IsL K F (ns.map V.int) (ns.map Tr.int)
 | [] => .nil
 | _ :: r => .cons .int (IsL.ofInts r)
theorem IsL.ofStrs : ∀ (ns : List Str), IsL K F (ns.map V.str) (ns.map Tr.str)
 | [] => .nil
 | _ :: r => .cons .str (IsL.ofStrs r)
end
def Mb : HO -> Prop
 | .lst _ => True
 | .dK _ => True
 | .tbl _ => True
 | _ => False
structure Bk where
 K : Fg
 F0 : Hp
 H0 : Hp
 W : Addr -> Prop
 J : Hp -> Prop
 rt : Addr
 jl : ∀ H H' : Hp, (∀ p, W p -> H p = H' p) -> (∀ p φ, H p = some (.ext φ) -> H' p = some (.ext φ)) -> J H -> J H'
 jm : ∀ (H : Hp) (p : Addr), J H -> W p -> ∃ o, H p = some o /\ Mb o
structure Up (B : Bk) (F H F' H' : Hp) : Prop where
 f : ah F F'
 h : ∀ p o, ¬ B.W p -> H p = some o -> H' p = some o
 i : ah F' H'
 m : ∀ p o, H p = some o -> Mb o -> F p = none -> F' p = none
 w : ∀ p, H' p = none -> H p = none
 x : ∀ p, B.W p -> F p = none -> F' p = none
 j : B.J H -> B.J H'
variable {B : Bk} {F : Hp} {H : Hp}
theorem Up.refl (i : ah F H) : Up B F H F H := ⟨ah.refl _, λ _ _ _ h => h, i, λ _ _ _ _ h => h, λ _ h => h, λ _ _ h => h, λ h => h⟩
theorem Up.trans {F1 H1 F2 H2 : Hp} (a : Up B F H F1 H1) (b : Up B F1 H1 F2 H2) : Up B F H F2 H2 := ⟨a.f.trans b.f, λ p o n h => b.h p o n (a.h p o n h), b.i, λ p o h mb n => by
 by_cases hw : B.W p
 ·exact b.x p hw (a.x p hw n)
 ·exact b.m p o (a.h p o hw h) mb (a.m p o h mb n), λ p h => a.w p (b.w p h), λ p hw n => b.x p hw (a.x p hw n), λ h => b.j (a.j h)⟩
inductive Ow (K : Fg) (F H : Hp) (l : Addr) : Tr -> Prop
 | lst {vs : List V} {ts : List Tr} : H l = some (.lst vs) -> IsL K F vs ts -> Ow K F H l (.lst ts)
 | dct {kvs : List (Key × V)} {ts : List (Key × Tr)} : H l = some (.dK kvs) -> kvs.map (·.1) = ts.map (·.1) -> IsL K F (kvs.map (·.2)) (ts.map (·.2)) -> Ow K F H l (.dct ts)
variable {K : Fg} {l : Addr} {t : Tr}
theorem Ow.mb (h : Ow K F H l t) : ∃ o, H l = some o /\ Mb o := by
 cases h with
 | lst h _ => exact ⟨_, h, trivial⟩
 | dct h _ _ => exact ⟨_, h, trivial⟩
variable {F' : Hp}
theorem Ow.to {H' : Hp} (h : Ow K F H l t) (s : ah F F') (e : ∀ o, H l = some o -> H' l = some o) : Ow K F' H' l t := by
 cases h with
 | lst h g => exact .lst (e _ h) (g.same s)
 | dct h e' g => exact .dct (e _ h) e' (g.same s)
theorem Ow.is (h : Ow K F H l t) (s : ah F F') (e : F' l = H l) : Is K F' (.ref l) t := by
 cases h with
 | lst h g => exact .lst (aZ.of (by rw [e, h])) (g.same s)
 | dct h e' g => exact .dct (by rw [e, h]) e' (g.same s)
inductive Sl where
 | no | fz (t : Tr) | own (t : Tr) | vw (t : Tr) | wd
noncomputable abbrev TSt := List Sl
abbrev gf (Z : St) (i : Nat) (v : V) : Prop := Z[i]? = some (some v)
abbrev cP (τ : TSt) (i : Nat) (s : Sl) : Prop := τ[i]? = some s
structure Rp (B : Bk) (F H : Hp) (Z : St) (τ : TSt) : Prop where
 up : Up B B.F0 B.H0 F H
 wa : ∀ p, B.W p -> B.H0 p ≠ none
 wf : ∀ p, B.W p -> F p = none
 wj : B.J H
 wd : ∀ i, cP τ i .wd -> gf Z i (.ref B.rt)
 len : Z.length = τ.length
 fz : ∀ i t, cP τ i (.fz t) -> ∃ v, gf Z i v /\ Is B.K F v t
 ow : ∀ i t, cP τ i (.own t) -> ∃ l, gf Z i (.ref l) /\ Ow B.K F H l t /\ F l = none /\ B.H0 l = none
 vw : ∀ i t, cP τ i (.vw t) -> ∃ l, gf Z i (.ref l) /\ Ow B.K F H l t /\ F l = none /\ ¬ B.W l
 ap : ∀ i j t u l, cP τ i (.own t) -> cP τ j (.own u) -> i ≠ j -> gf Z i (.ref l) -> gf Z j (.ref l) -> False
 av : ∀ i j t u l, cP τ i (.own t) -> cP τ j (.vw u) -> gf Z i (.ref l) -> gf Z j (.ref l) -> False
inductive Kd where
 | fz (t : Tr) | nw (t : Tr) | sl (i : Nat) | wd
def vD (B : Bk) (F H : Hp) (Z : St) (τ : TSt) (v : V) : Kd -> Prop
 | .fz t => Is B.K F v t
 | .nw t => ∃ l, v = .ref l /\ Ow B.K F H l t /\ F l = none /\ B.H0 l = none /\ ∀ i u, cP τ i (.own u) ∨ cP τ i (.vw u) -> ¬ gf Z i (.ref l)
 | .sl i => gf Z i v
 | .wd => v = .ref B.rt
def DM (H : Hp) (v : V) : Kd -> Prop
 | .nw _ => ∀ l, v = .ref l -> H l = none
 | _ => True
structure Fr (B : Bk) (Z : St) (τ : TSt) (F H : Hp) (τ' : TSt) (F' H' : Hp) : Prop where
 f : ah F F'
 k : ∀ p o, H p = some o -> ¬ B.W p -> (∀ i t, cP τ i (.own t) -> ¬ gf Z i (.ref p)) -> H' p = some o /\ (Mb o -> F p = none -> F' p = none)
 o : ∀ i t, cP τ' i (.own t) -> ∃ u, cP τ i (.own u)
 h : ∀ p, H' p = none -> H p = none
variable {Z : St}
theorem Fr.refl {τ : TSt} : Fr B Z τ F H τ F H := ⟨ah.refl _, λ _ _ h _ _ => ⟨h, λ _ z => z⟩, λ _ t h => ⟨t, h⟩, λ _ h => h⟩
theorem Fr.trans {τ τ1 τ2 : TSt} {F1 H1 F2 H2 : Hp} (a : Fr B Z τ F H τ1 F1 H1) (b : Fr B Z τ1 F1 H1 τ2 F2 H2) : Fr B Z τ F H τ2 F2 H2 :=
 ⟨a.f.trans b.f, λ p o h nw n => by
  obtain ⟨h1, h2⟩ := a.k p o h nw n
  obtain ⟨h3, h4⟩ := b.k p o h1 nw λ i t e => by
   obtain ⟨u, e'⟩ := a.o i t e
   exact n i u e'
  exact ⟨h3, λ mb z => h4 mb (h2 mb z)⟩, λ i t e => by
  obtain ⟨u, e'⟩ := b.o i t e
  exact a.o i u e', λ p h => a.h p (b.h p h)⟩
noncomputable abbrev TK := Kd -> TSt -> Prop
def CT (B : Bk) (Z : St) (τ : TSt) (F H : Hp) (Φ : TK) (Q : VK) : Prop := ∀ v F' H' k τ', Fr B Z τ F H τ' F' H' -> Rp B F' H' Z τ' -> vD B F' H' Z τ' v k -> DM H v k -> Φ k τ' -> Q v H'
def EV (B : Bk) (te : TE) (τ : TSt) (Φ : TK) : Prop := ∀ Z F H Q, Rp B F H Z τ -> CT B Z τ F H Φ Q -> te Z H Q
def TV (B : Bk) (tt : TT) (τ : TSt) (Φ : Bool -> TSt -> Prop) : Prop := ∀ Z F H (Q : Bool -> Hp -> Prop), Rp B F H Z τ -> (∀ b F' H' τ', Fr B Z τ F H τ' F' H' -> Rp B F' H' Z τ' -> Φ b τ' -> Q b H') -> tt Z H Q
def Dy (B : Bk) (ta : TA) (τ : TSt) (Φ : List Tr -> TSt -> Prop) : Prop := ∀ Z F H (Q : List V -> Hp -> Prop), Rp B F H Z τ -> (∀ vs F' H' ts τ', Fr B Z τ F H τ' F' H' -> Rp B F' H' Z τ' -> IsL B.K F' vs ts -> Φ ts τ' -> Q vs H') -> ta Z H Q
def tU (k : Kd) (τ : TSt) (S : Tr -> TSt -> Prop) : Prop := match k with
 | .fz t => S t τ
 | .nw t => S t τ
 | .sl i => (∃ t, cP τ i (.own t) /\ S t (τ.set i (.fz t))) ∨ ∃ t, cP τ i (.fz t) /\ S t τ
 | .wd => False
def um (k : Kd) (τ : TSt) (S : TK) : Prop := match k with
 | .fz t => S (.fz t) τ
 | .nw t => S (.fz t) τ
 | .sl i => S (.sl i) τ
 | .wd => False
def ga (K : Fg) (F : Hp) (Z : St) (v : V) : Kd -> Prop
 | .fz t => Is K F v t
 | .nw _ => False
 | .sl i => gf Z i v
 | .wd => False
theorem ga.same {v : V} {k : Kd} (s : ah F F') (h : ga K F Z v k) : ga K F' Z v k := by
 cases k with
 | fz t => exact Is.same s h
 | nw t => exact h
 | sl i => exact h
 | wd => exact h
section
variable {B : Bk} {F H F1 H1 F' H' : Hp} {Z : St} {τ τ1 τ' : TSt}
theorem CT.on {Φ : TK} {Q : VK} (c : CT B Z τ F H Φ Q) (f : Fr B Z τ F H τ1 F1 H1) : CT B Z τ1 F1 H1 Φ Q := λ v F' H' k τ' f' r ok n φ => c v F' H' k τ' (f.trans f') r ok (by
 cases k with
 | nw t => exact λ l e => f.h l (n l e)
 | fz t => exact trivial
 | sl i => exact trivial
 | wd => exact trivial) φ
theorem Rp.go (r : Rp B F H Z τ) (u : Up B F H F' H') : Rp B F' H' Z τ where
 up := r.up.trans u
 wa := r.wa
 wf := λ p hw => u.x p hw (r.wf p hw)
 wj := u.j r.wj
 wd := r.wd
 len := r.len
 fz := λ i t h => by obtain ⟨v, e, g⟩ := r.fz i t h; exact ⟨v, e, g.same u.f⟩
 ow := λ i t h => by
  obtain ⟨l, e, g, n, n0⟩ := r.ow i t h
  obtain ⟨o, ho, mb⟩ := g.mb
  exact ⟨l, e, g.to u.f (λ o => u.h l o λ hw => r.wa l hw n0), u.m l o ho mb n, n0⟩
 vw := λ i t h => by
  obtain ⟨l, e, g, n, nw⟩ := r.vw i t h
  obtain ⟨o, ho, mb⟩ := g.mb
  exact ⟨l, e, g.to u.f (λ o => u.h l o nw), u.m l o ho mb n, nw⟩
 ap := r.ap
 av := r.av
theorem Fr.up (u : Up B F H F' H') : Fr B Z τ F H τ F' H' := ⟨u.f, λ p o h nw _ => ⟨u.h p o nw h, λ mb n => u.m p o h mb n⟩, λ _ t h => ⟨t, h⟩, u.w⟩
variable {o : HO}
theorem ju {H : Hp} {a b : Addr} (h : upd H a o b = none) : H b = none := by
 by_cases e : b = a
 ·rw [e, ar] at h; cases h
 ·rw [am e] at h; exact h
theorem Rp.tup {p : Addr} {vs : List V} (r : Rp B F H Z τ) (n : H p = none) : Up B F H (upd F p (.tup vs)) (upd H p (.tup vs)) where
 f := ah.new (r.up.i.free n) _
 h := λ q o _ z => ah.new n _ q o z
 i := λ b o e => by
  by_cases hb : b = p
  ·subst hb; rw [ar] at e ⊢; exact e
  ·rw [am hb] at e ⊢; exact r.up.i b o e
 m := λ q o h _ z => by
  have : q ≠ p := λ e => by rw [e, n] at h; cases h
  rw [am this]; exact z
 w := λ q h => ju h
 x := λ q hw z => by
  have : q ≠ p := λ e => r.wa q hw (r.up.w q (by rw [e]; exact n))
  rw [am this]; exact z
 j := λ h => B.jl _ _ (λ q hw => by
  have : q ≠ p := λ e => r.wa q hw (r.up.w q (by rw [e]; exact n))
  rw [am this]) (λ q φ z => ah.new n _ q _ z) h
theorem Rp.new {p : Addr} (r : Rp B F H Z τ) (n : H p = none) : Up B F H F (upd H p o) where
 f := ah.refl _
 h := λ q o _ z => ah.new n _ q o z
 i := r.up.i.trans (ah.new n _)
 m := λ q o h _ z => z
 w := λ q h => ju h
 x := λ q hw z => z
 j := λ h => B.jl _ _ (λ q hw => by
  have : q ≠ p := λ e => r.wa q hw (r.up.w q (by rw [e]; exact n))
  rw [am this]) (λ q φ z => ah.new n _ q _ z) h
theorem Rp.inc (r : Rp B F H Z τ) : ah F H := r.up.i
theorem Rp.fixA {l : Addr} (r : Rp B F H Z τ) (ho : H l = some o) (n : F l = none) (n0 : B.H0 l = none) (ne : ∀ i u, cP τ i (.own u) ∨ cP τ i (.vw u) -> ¬ gf Z i (.ref l)) : Rp B (upd F l o) H Z τ where
  wa := r.wa
  wf := λ p hw => by
    have : p ≠ l := λ e => r.wa p hw (by rw [e]; exact n0)
    rw [am this]; exact r.wf p hw
  wj := r.wj
  wd := r.wd
  up := { f := r.up.f.trans (ah.new n o), h := r.up.h, w := r.up.w, j := r.up.j
          m := λ p q hp mb z => by
            have : p ≠ l := λ e => by rw [e, n0] at hp; cases hp
            rw [am this]; exact r.up.m p q hp mb z
          x := λ p hw z => by
            have : p ≠ l := λ e => r.wa p hw (by rw [e]; exact n0)
            rw [am this]; exact r.up.x p hw z
          i := λ b q e => by
            by_cases hb : b = l
            · subst hb; rw [ar] at e; cases e; exact ho
            · rw [am hb] at e; exact r.up.i b q e }
  len := r.len
  fz := λ i t h => by obtain ⟨v, e, g⟩ := r.fz i t h; exact ⟨v, e, g.same (ah.new n o)⟩
  ow := λ i t h => by
    obtain ⟨l', e, g, n', n0'⟩ := r.ow i t h
    have hl : l' ≠ l := λ z => ne i t (.inl h) (by rw [<- z]; exact e)
    exact ⟨l', e, g.to (ah.new n o) (λ _ q => q), by rw [am hl]; exact n', n0'⟩
  vw := λ i t h => by
    obtain ⟨l', e, g, n', nw⟩ := r.vw i t h
    have hl : l' ≠ l := λ z => ne i t (.inr h) (by rw [<- z]; exact e)
    exact ⟨l', e, g.to (ah.new n o) (λ _ q => q), by rw [am hl]; exact n', nw⟩
  ap := r.ap
  av := r.av
variable {i : Nat} {j : Nat}
theorem cg {τ : TSt} {s u : Sl} (h : cP (τ.set i s) j u) : (j = i /\ u = s /\ i < τ.length) ∨ (j ≠ i /\ cP τ j u) := by
 unfold cP at h
 rw [List.getElem?_set] at h
 by_cases e : i = j
 ·subst e
  rw [i9 rfl] at h
  by_cases g : i < τ.length
  ·rw [i9 g] at h; cases h; exact .inl ⟨rfl, rfl, g⟩
  ·rw [gS g] at h; cases h
 ·rw [gS e] at h; exact .inr ⟨λ z => e z.symm, h⟩
theorem lV {Z : St} {x : Option V} {v : V} (h : gf (Z.set i x) j v) : (j = i /\ x = some v) ∨ (j ≠ i /\ gf Z j v) := by
 unfold gf at h
 rw [List.getElem?_set] at h
 by_cases e : i = j
 ·subst e
  rw [i9 rfl] at h
  by_cases g : i < Z.length
  ·rw [i9 g] at h; cases h; exact .inl ⟨rfl, rfl⟩
  ·rw [gS g] at h; cases h
 ·rw [gS e] at h; exact .inr ⟨λ z => e z.symm, h⟩
theorem tD {Z : St} {v : V} (h : i < Z.length) : gf (Z.set i (some v)) i v := by
 unfold gf
 rw [List.getElem?_set, i9 rfl, i9 h]
theorem gO {Z : St} {x : Option V} {v : V} (n : j ≠ i) (h : gf Z j v) : gf (Z.set i x) j v := by
 unfold gf at h ⊢
 rw [List.getElem?_set, gS (λ z => n z.symm)]; exact h
variable {t : Tr}
theorem Rp.setF {v : V} (r : Rp B F H Z τ) (h : Is B.K F v t) : Rp B F H (Z.set i (some v)) (τ.set i (.fz t)) where
 up := r.up
 wa := r.wa
 wf := r.wf
 wj := r.wj
 wd := λ j e => by
  rcases cg e with ⟨_, e, _⟩ | ⟨n, e⟩
  ·cases e
  ·exact gO n (r.wd j e)
 len := by rw [List.length_set, List.length_set]; exact r.len
 fz := λ j u e => by
  rcases cg e with ⟨rfl, e, g⟩ | ⟨n, e⟩
  ·cases e; exact ⟨v, tD (by rw [r.len]; exact g), h⟩
  ·obtain ⟨w, a, b⟩ := r.fz j u e
   exact ⟨w, gO n a, b⟩
 ow := λ j u e => by
  rcases cg e with ⟨rfl, e, g⟩ | ⟨n, e⟩
  ·cases e
  ·obtain ⟨w, a, b⟩ := r.ow j u e
   exact ⟨w, gO n a, b⟩
 vw := λ j u e => by
  rcases cg e with ⟨rfl, e, g⟩ | ⟨n, e⟩
  ·cases e
  ·obtain ⟨w, a, b⟩ := r.vw j u e
   exact ⟨w, gO n a, b⟩
 ap := λ a b t u l ha hb ne hi hj => by
  rcases cg ha with ⟨_, e, _⟩ | ⟨na, ha⟩
  ·cases e
  rcases cg hb with ⟨_, e, _⟩ | ⟨nb, hb⟩
  ·cases e
  rcases lV hi with ⟨e, _⟩ | ⟨_, hi⟩
  ·exact na e
  rcases lV hj with ⟨e, _⟩ | ⟨_, hj⟩
  ·exact nb e
  exact r.ap a b t u l ha hb ne hi hj
 av := λ a b t u l ha hb hi hj => by
  rcases cg ha with ⟨_, e, _⟩ | ⟨na, ha⟩
  ·cases e
  rcases cg hb with ⟨_, e, _⟩ | ⟨nb, hb⟩
  ·cases e
  rcases lV hi with ⟨e, _⟩ | ⟨_, hi⟩
  ·exact na e
  rcases lV hj with ⟨e, _⟩ | ⟨_, hj⟩
  ·exact nb e
  exact r.av a b t u l ha hb hi hj
theorem Rp.setN {v : V} (r : Rp B F H Z τ) (h : vD B F H Z τ v (.nw t)) : Rp B F H (Z.set i (some v)) (τ.set i (.own t)) := by
 obtain ⟨l0, rfl, hw, n, n0, dis⟩ := h
 exact {
 up := r.up
 wa := r.wa
 wf := r.wf
 wj := r.wj
 wd := λ j e => by
  rcases cg e with ⟨_, e, _⟩ | ⟨n, e⟩
  ·cases e
  ·exact gO n (r.wd j e)
 len := by rw [List.length_set, List.length_set]; exact r.len
 fz := λ j u e => by
  rcases cg e with ⟨rfl, e, g⟩ | ⟨n, e⟩
  ·cases e
  ·obtain ⟨w, a, b⟩ := r.fz j u e
   exact ⟨w, gO n a, b⟩
 ow := λ j u e => by
  rcases cg e with ⟨rfl, e, g⟩ | ⟨n, e⟩
  ·cases e; exact ⟨l0, tD (by rw [r.len]; exact g), hw, n, n0⟩
  ·obtain ⟨w, a, b⟩ := r.ow j u e
   exact ⟨w, gO n a, b⟩
 vw := λ j u e => by
  rcases cg e with ⟨rfl, e, g⟩ | ⟨n, e⟩
  ·cases e
  ·obtain ⟨w, a, b⟩ := r.vw j u e
   exact ⟨w, gO n a, b⟩
 ap := λ a b t u l ha hb ne hi hj => by
  rcases cg ha with ⟨ea, _, _⟩ | ⟨na, ha⟩
  ·rcases cg hb with ⟨eb, _, _⟩ | ⟨nb, hb⟩
   ·exact ne (ea.trans eb.symm)
   ·rcases lV hi with ⟨_, e⟩ | ⟨na, _⟩
    ·cases e
     rcases lV hj with ⟨e, _⟩ | ⟨_, hj⟩
     ·exact nb e
     ·exact dis b u (.inl hb) hj
    ·exact na ea
  ·rcases lV hi with ⟨e, _⟩ | ⟨_, hi⟩
   ·exact na e
   rcases cg hb with ⟨eb, _, _⟩ | ⟨nb, hb⟩
   ·rcases lV hj with ⟨_, e⟩ | ⟨nb, _⟩
    ·cases e; exact dis a t (.inl ha) hi
    ·exact nb eb
   ·rcases lV hj with ⟨e, _⟩ | ⟨_, hj⟩
    ·exact nb e
    ·exact r.ap a b t u l ha hb ne hi hj
 av := λ a b t u l ha hb hi hj => by
  rcases cg hb with ⟨_, e, _⟩ | ⟨nb, hb⟩
  ·cases e
  rcases lV hj with ⟨e, _⟩ | ⟨_, hj⟩
  ·exact nb e
  rcases cg ha with ⟨ea, _, _⟩ | ⟨na, ha⟩
  ·rcases lV hi with ⟨_, e⟩ | ⟨na, _⟩
   ·cases e; exact dis b u (.inr hb) hj
   ·exact na ea
  ·rcases lV hi with ⟨e, _⟩ | ⟨_, hi⟩
   ·exact na e
   ·exact r.av a b t u l ha hb hi hj }
theorem Rp.forget (r : Rp B F H Z τ) : Rp B F H Z (τ.set i .no) where
 up := r.up
 wa := r.wa
 wf := r.wf
 wj := r.wj
 wd := λ j e => by
  rcases cg e with ⟨_, e, _⟩ | ⟨n, e⟩
  ·cases e
  ·exact r.wd j e
 len := by rw [List.length_set]; exact r.len
 fz := λ j u e => by
  rcases cg e with ⟨_, e, _⟩ | ⟨_, e⟩
  ·cases e
  ·exact r.fz j u e
 ow := λ j u e => by
  rcases cg e with ⟨_, e, _⟩ | ⟨_, e⟩
  ·cases e
  ·exact r.ow j u e
 vw := λ j u e => by
  rcases cg e with ⟨_, e, _⟩ | ⟨_, e⟩
  ·cases e
  ·exact r.vw j u e
 ap := λ a b t u l ha hb => by
  rcases cg ha with ⟨_, e, _⟩ | ⟨_, ha⟩
  ·cases e
  rcases cg hb with ⟨_, e, _⟩ | ⟨_, hb⟩
  ·cases e
  exact r.ap a b t u l ha hb
 av := λ a b t u l ha hb => by
  rcases cg ha with ⟨_, e, _⟩ | ⟨_, ha⟩
  ·cases e
  rcases cg hb with ⟨_, e, _⟩ | ⟨_, hb⟩
  ·cases e
  exact r.av a b t u l ha hb
theorem aE {Z : St} {v w : V} (h : gf Z i v) (g : gf Z i w) : v = w := by
 unfold gf at h g
 rw [h] at g; exact nS (nS g)
theorem Bn {Z : St} {v : V} (h : gf Z i v) : Z.set i (some v) = Z := by
 apply List.ext_getElem?
 intro j
 rw [List.getElem?_set]
 by_cases e : i = j
 ·subst e
  rw [i9 rfl, i9 (j3.mp h).1]; exact h.symm
 ·rw [gS e]
theorem Rp.fixS (r : Rp B F H Z τ) (h : cP τ i (.own t)) : ∃ F2 l, gf Z i (.ref l) /\ ah F F2 /\ Rp B F2 H Z (τ.set i (.fz t)) /\ Is B.K F2 (.ref l) t /\ ∀ p, p ≠ l -> F2 p = F p := by
 obtain ⟨l, e, g, n, n0⟩ := r.ow i t h
 obtain ⟨o, ho, mb⟩ := g.mb
 have r1 : Rp B F H Z (τ.set i .no) := r.forget
 have r2 := r1.fixA ho n n0 (λ j u hj hs => by
  rcases hj with hj | hj
  ·rcases cg hj with ⟨_, z, _⟩ | ⟨nj, hj⟩
   ·cases z
   ·exact r.ap i j t u l h hj (λ z => nj z.symm) e hs
  ·rcases cg hj with ⟨_, z, _⟩ | ⟨nj, hj⟩
   ·cases z
   ·exact r.av i j t u l h hj e hs)
 have hi : Is B.K (upd F l o) (.ref l) t := g.is (ah.new n o) (by rw [ar, ho])
 have r3 := r2.setF (i := i) hi
 rw [Bn e, List.set_set] at r3
 exact ⟨_, l, e, ah.new n o, r3, hi, λ p hp => am hp⟩
theorem eT {v : V} {k : Kd} {S : Tr -> TSt -> Prop} (f : Fr B Z τ F H τ1 F1 H1) (r : Rp B F1 H1 Z τ1) (ok : vD B F1 H1 Z τ1 v k) (nk : DM H v k) (h : tU k τ1 S) : ∃ F2 t τ2, Fr B Z τ F H τ2 F2 H1 /\ Rp B F2 H1 Z τ2 /\ Is B.K F2 v t /\ S t τ2 /\ ah F1 F2 := by
 cases k with
 | fz t => exact ⟨F1, t, τ1, f, r, ok, h, ah.refl _⟩
 | nw t =>
  obtain ⟨l, rfl, g, n, n0, ne⟩ := ok
  obtain ⟨o, ho, mb⟩ := g.mb
  refine ⟨upd F1 l o, t, τ1, ⟨f.f.trans (ah.new n o), λ p q hp nw no => ?_, f.o, f.h⟩, r.fixA ho n n0 ne, g.is (ah.new n o) (by rw [ar, ho]), h, ah.new n o⟩
  obtain ⟨h1, h2⟩ := f.k p q hp nw no
  refine ⟨h1, λ mb z => ?_⟩
  have : p ≠ l := λ e => by rw [e, nk l rfl] at hp; cases hp
  rw [am this]; exact h2 mb z
 | sl i =>
  rcases h with ⟨t, ht, hs⟩ | ⟨t, ht, hs⟩
  ·obtain ⟨F2, l, e, sF, r2, hi, ne⟩ := r.fixS ht
   cases aE e ok
   refine ⟨F2, t, _, ⟨f.f.trans sF, λ p q hp nw no => ?_, λ j u hj => ?_, f.h⟩, r2, hi, hs, sF⟩
   ·obtain ⟨h1, h2⟩ := f.k p q hp nw no
    refine ⟨h1, λ mb z => ?_⟩
    obtain ⟨u, hu⟩ := f.o i t ht
    have : p ≠ l := λ e' => no i u hu (by rw [e']; exact e)
    rw [ne p this]; exact h2 mb z
   ·rcases cg hj with ⟨_, z, _⟩ | ⟨_, hj⟩
    ·cases z
    ·exact f.o j u hj
  ·obtain ⟨w, e, hi⟩ := r.fz i t ht
   cases aE e ok
   exact ⟨F1, t, τ1, f, r, hi, hs, ah.refl _⟩
 | wd => exact h.elim
theorem dh {v : V} {k : Kd} {S : TK} (f : Fr B Z τ F H τ1 F1 H1) (r : Rp B F1 H1 Z τ1) (ok : vD B F1 H1 Z τ1 v k) (nk : DM H v k) (h : um k τ1 S) : ∃ F2 k', Fr B Z τ F H τ1 F2 H1 /\ Rp B F2 H1 Z τ1 /\ ga B.K F2 Z v k' /\ S k' τ1 /\ ah F1 F2 := by
 cases k with
 | fz t => exact ⟨F1, .fz t, f, r, ok, h, ah.refl _⟩
 | nw t =>
  obtain ⟨F2, t2, τ2, f2, r2, i2, ⟨s2, rfl, rfl⟩, sF⟩ := eT (S := λ t' τ' => S (.fz t') τ' /\ t' = t /\ τ' = τ1) f r ok nk ⟨h, rfl, rfl⟩
  exact ⟨F2, _, f2, r2, (show ga B.K F2 Z v (.fz _) from i2), s2, sF⟩
 | sl i => exact ⟨F1, .sl i, f, r, ok, h, ah.refl _⟩
 | wd => exact h.elim
end
inductive Gt {α : Type} : List α -> Nat -> α -> Prop
 | here {v : α} {r : List α} : Gt (v :: r) 0 v
 | next {x v : α} {r : List α} {i : Nat} : Gt r i v -> Gt (x :: r) (i + 1) v
theorem Gt.eq {α : Type} {Z : List α} {i : Nat} {v : α} (h : Gt Z i v) : Z[i]? = some v := by
 induction h with
 | here => rfl
 | next _ ih => rw [List.getElem?_cons_succ, ih]
inductive jJ {α : Type} : List α -> Nat -> α -> List α -> Prop
 | here {x v : α} {r : List α} : jJ (x :: r) 0 v (v :: r)
 | next {x v : α} {r r' : List α} {i : Nat} : jJ r i v r' -> jJ (x :: r) (i + 1) v (x :: r')
theorem jJ.eq {α : Type} {Z σ' : List α} {i : Nat} {v : α} (h : jJ Z i v σ') : Z.set i v = σ' := by
 induction h with
 | here => rfl
 | next _ ih => rw [List.set_cons_succ, ih]
inductive Rk (τ : TSt) : Kd -> Tr -> Prop
 | fz {t : Tr} : Rk τ (.fz t) t
 | own {i : Nat} {t : Tr} : Gt τ i (.own t) -> Rk τ (.sl i) t
 | vw {i : Nat} {t : Tr} : Gt τ i (.vw t) -> Rk τ (.sl i) t
 | sfz {i : Nat} {t : Tr} : Gt τ i (.fz t) -> Rk τ (.sl i) t
section
variable {B : Bk} {F H : Hp} {Z : St} {τ : TSt} {k : Kd}
theorem Rk.list {v : V} {ts : List Tr} (h : Rk τ k (.lst ts)) (r : Rp B F H Z τ) (ok : ga B.K F Z v k) : ∃ p vs, v = .ref p /\ aZ B.K H p vs /\ IsL B.K F vs ts := by
 cases h with
 | fz =>
  cases ok with
  | lst a b => exact ⟨_, _, rfl, r.inc.seq a, b⟩
 | own g =>
  obtain ⟨l, e, hw, _⟩ := r.ow _ _ g.eq
  cases aE e ok
  cases hw with
  | lst a b => exact ⟨_, _, rfl, aZ.of a, b⟩
 | vw g =>
  obtain ⟨l, e, hw, _⟩ := r.vw _ _ g.eq
  cases aE e ok
  cases hw with
  | lst a b => exact ⟨_, _, rfl, aZ.of a, b⟩
 | sfz g =>
  obtain ⟨w, e, hi⟩ := r.fz _ _ g.eq
  cases aE e ok
  cases hi with
  | lst a b => exact ⟨_, _, rfl, r.inc.seq a, b⟩
theorem Rk.tuple {v : V} {ts : List Tr} (h : Rk τ k (.tup ts)) (r : Rp B F H Z τ) (ok : ga B.K F Z v k) : ∃ p vs, v = .ref p /\ bq B.K H p vs /\ IsL B.K F vs ts := by
 cases h with
 | fz =>
  cases ok with
  | tup a b => exact ⟨_, _, rfl, r.inc.tup a, b⟩
 | own g =>
  obtain ⟨l, e, hw, _⟩ := r.ow _ _ g.eq
  cases hw
 | vw g =>
  obtain ⟨l, e, hw, _⟩ := r.vw _ _ g.eq
  cases hw
 | sfz g =>
  obtain ⟨w, e, hi⟩ := r.fz _ _ g.eq
  cases aE e ok
  cases hi with
  | tup a b => exact ⟨_, _, rfl, r.inc.tup a, b⟩
theorem Rk.dict {v : V} {ts : List (Key × Tr)} (h : Rk τ k (.dct ts)) (r : Rp B F H Z τ) (ok : ga B.K F Z v k) : ∃ p kvs, v = .ref p /\ H p = some (.dK kvs) /\ kvs.map (·.1) = ts.map (·.1) /\ IsL B.K F (kvs.map (·.2)) (ts.map (·.2)) := by
 cases h with
 | fz =>
  cases ok with
  | dct a b c => exact ⟨_, _, rfl, r.inc _ _ a, b, c⟩
 | own g =>
  obtain ⟨l, e, hw, _⟩ := r.ow _ _ g.eq
  cases aE e ok
  cases hw with
  | dct a b c => exact ⟨_, _, rfl, a, b, c⟩
 | vw g =>
  obtain ⟨l, e, hw, _⟩ := r.vw _ _ g.eq
  cases aE e ok
  cases hw with
  | dct a b c => exact ⟨_, _, rfl, a, b, c⟩
 | sfz g =>
  obtain ⟨w, e, hi⟩ := r.fz _ _ g.eq
  cases aE e ok
  cases hi with
  | dct a b c => exact ⟨_, _, rfl, r.inc _ _ a, b, c⟩
end
section
variable {B : Bk} {τ τ' : TSt} {Φ : TK} {te ta tb tc : TE} {k : Nat} {t : Tr} {i j : Int} {x y : Kd} {b : Bool} {c d : TT} {Ψ : Bool -> TSt -> Prop} {S : TK}
theorem MU (h : S (.fz t) τ) : um (.fz t) τ S := h
theorem MO (h : S (.fz t) τ) : um (.nw t) τ S := h
theorem Nk (h : S (.sl k) τ) : um (.sl k) τ S := h
theorem JL {S : Tr -> TSt -> Prop} (h : S t τ) : tU (.fz t) τ S := h
theorem JE {S : Tr -> TSt -> Prop} (h : S t τ) : tU (.nw t) τ S := h
theorem Ck {S : Tr -> TSt -> Prop} (g : Gt τ k (.own t)) (s : jJ τ k (.fz t) τ') (h : S t τ') : tU (.sl k) τ S := .inl ⟨t, g.eq, by rw [s.eq]; exact h⟩
variable {F : Hp} {H : Hp} {Z : St} {Q : VK}
theorem CT.pl {v : V} (c : CT B Z τ F H Φ Q) (r : Rp B F H Z τ) (h : Is B.K F v t) (φ : Φ (.fz t) τ) : Q v H := c v F H (.fz t) τ Fr.refl r h trivial φ
theorem Kk (g : Gt τ k (.fz t)) (q : Φ (.fz t) τ) : EV B (gN k) τ Φ := λ Z F H Q r c => by
 obtain ⟨v, e, h⟩ := r.fz _ _ g.eq
 exact ⟨v, e, c.pl r h q⟩
theorem Ga (g : Gt τ k (.own t)) (q : Φ (.sl k) τ) : EV B (gN k) τ Φ := λ Z F H Q r c => by
 obtain ⟨l, e, h⟩ := r.ow _ _ g.eq
 exact ⟨_, e, c _ F H (.sl k) τ Fr.refl r e trivial q⟩
theorem LW (q : Φ (.fz (.int i)) τ) : EV B (tC (.int i)) τ Φ := λ _ _ _ _ r c => c.pl r .int q
theorem Mp (q : Φ (.fz .non) τ) : EV B (tC .non) τ Φ := λ _ _ _ _ r c => c.pl r .non q
variable {z : Str}
theorem Nv (q : Φ (.fz (.str z)) τ) : EV B (tC (.str z)) τ Φ := λ _ _ _ _ r c => c.pl r .str q
theorem LY {z : String} (q : Φ (.fz (.ty z)) τ) : EV B (tC (.ty z)) τ Φ := λ _ _ _ _ r c => c.pl r .ty q
def RO (B : Bk) (r : R2) (x y : Kd) (τ : TSt) (Φ : TK) : Prop := ∀ Z F H v w Q, Rp B F H Z τ -> ga B.K F Z v x -> ga B.K F Z w y -> CT B Z τ F H Φ Q -> r v w H Q
theorem Mt {r : R2} (h : EV B ta τ λ x τ1 => um x τ1 λ x τ1 => EV B tb τ1 λ y τ2 => um y τ2 λ y τ2 => RO B r x y τ2 Φ) : EV B (xT r ta tb) τ Φ := λ Z F H Q rp c => by
 refine h Z F H _ rp λ v F1 H1 k τ1 f1 r1 ok1 n1 h1 => ?_
 obtain ⟨F2, k', f2, r2, ok2, h2, _⟩ := dh f1 r1 ok1 n1 h1
 refine h2 Z F2 H1 _ r2 λ w F3 H3 k3 τ3 f3 r3 ok3 n3 h3 => ?_
 obtain ⟨F4, k4, f4, r4, ok4, h4, _⟩ := dh f3 r3 ok3 n3 h3
 exact h4 Z F4 H3 v w Q r4 (ok2.same f4.f) ok4 (c.on (f2.trans f4))
def RU (B : Bk) (r : V -> Hp -> VK -> Prop) (x : Kd) (τ : TSt) (Φ : TK) : Prop := ∀ Z F H v Q, Rp B F H Z τ -> ga B.K F Z v x -> CT B Z τ F H Φ Q -> r v H Q
theorem Me {r : V -> Hp -> VK -> Prop} (h : EV B ta τ λ x τ1 => um x τ1 λ x τ1 => RU B r x τ1 Φ) : EV B (Nd r ta) τ Φ := λ Z F H Q rp c => by
 refine h Z F H _ rp λ v F1 H1 k τ1 f1 r1 ok1 n1 h1 => ?_
 obtain ⟨F2, k', f2, r2, ok2, h2, _⟩ := dh f1 r1 ok1 n1 h1
 exact h2 Z F2 H1 v Q r2 ok2 (c.on f2)
variable {K : Fg}
theorem bO {v : V} (h : ga K F Z v (.fz (.int i))) : v = .int i := by cases h; rfl
theorem jw {v : V} (h : ga K F Z v (.fz (.bl b))) : v = .bl b := by cases h; rfl
theorem fF {v : V} (h : ga K F Z v (.fz (.str z))) : v = .str z := by cases h; rfl
theorem zL {v : V} (h : ga K F Z v (.fz .non)) : v = .non := by cases h; rfl
theorem KH {C : Int -> Int -> Prop} {g : Int -> Int -> Int} (hc : C i j) (q : Φ (.fz (.int (g i j))) τ) : RO B (rI C λ i j => .int (g i j)) (.fz (.int i)) (.fz (.int j)) τ Φ := λ _ _ _ _ _ _ r a b c => by
 cases bO a; cases bO b
 exact ⟨i, j, rfl, rfl, hc, c.pl r .int q⟩
theorem Ke {g : Int -> Int -> Int} (q : Φ (.fz (.int (g i j))) τ) : RO B (zF λ i j => .int (g i j)) (.fz (.int i)) (.fz (.int j)) τ Φ := λ _ _ _ _ _ _ r a b c => by
 cases bO a; cases bO b
 exact ⟨i, j, rfl, rfl, c.pl r .int q⟩
theorem Hk {g : Int -> Int -> Bool} (q : Φ (.fz (.bl (g i j))) τ) : RO B (zF λ i j => .bl (g i j)) (.fz (.int i)) (.fz (.int j)) τ Φ := λ _ _ _ _ _ _ r a b c => by
 cases bO a; cases bO b
 exact ⟨i, j, rfl, rfl, c.pl r .bl q⟩
theorem Ms {g : Int -> Int} (q : Φ (.fz (.int (g i))) τ) : RU B (rU λ i => .int (g i)) (.fz (.int i)) τ Φ := λ _ _ _ _ _ r a c => by
 cases bO a
 exact ⟨i, rfl, c.pl r .int q⟩
theorem IG (q : Φ (.fz (.bl (decide (i = j)))) τ) : RO B rEq (.fz (.int i)) (.fz (.int j)) τ Φ := λ _ _ _ _ _ _ r a b c => by
 cases bO a; cases bO b
 exact FI (c.pl r .bl q)
theorem Gw (q : Φ (.fz (.bl (!decide (i = j)))) τ) : RO B rNe (.fz (.int i)) (.fz (.int j)) τ Φ := λ _ _ _ _ _ _ r a b c => by
 cases bO a; cases bO b
 exact FE (c.pl r .bl q)
theorem IL {u : Str} (q : Φ (.fz (.bl (decide (z = u)))) τ) : RO B rEq (.fz (.str z)) (.fz (.str u)) τ Φ := λ _ _ _ _ _ _ r a b c => by
 cases fF a; cases fF b
 exact Ff (c.pl r .bl q)
theorem Ir {b1 b2 : Bool} (q : Φ (.fz (.bl (!decide (b1 = b2)))) τ) : RO B rNe (.fz (.bl b1)) (.fz (.bl b2)) τ Φ := λ _ _ _ _ _ _ r a b c => by
 cases jw a; cases jw b
 exact Ld (c.pl r .bl q)
def Tr.isN : Tr -> Bool
 | .non => true
 | _ => false
theorem Ca {v : V} (h : Is K F v t) : decide (v = .non) = t.isN := by cases h <;> rfl
theorem zJ (q : Φ (.fz (.bl t.isN)) τ) : RO B rIsN (.fz t) (.fz .non) τ Φ := λ _ _ _ v _ _ r a b c => by
 cases zL b
 refine ⟨rfl, ?_⟩
 rw [Ca (show Is B.K _ v t from a)]
 exact c.pl r .bl q
variable {vs : List V} {ts : List Tr}
theorem BN (h : IsL K F vs ts) (e : eP ts i = some t) : ∃ v, eP vs i = some v /\ Is K F v t := by
 unfold eP at e ⊢
 rw [h.length]
 cases hx : CA ts.length i with
 | none => rw [hx] at e; cases e
 | some n =>
  rw [hx] at e
  exact h.get e
theorem aW (hK : K = B.K) (rk : Rk τ x (.lst ts)) (e : eP ts i = some t) (q : Φ (.fz t) τ) : RO B (yG K) x (.fz (.int i)) τ Φ := λ _ _ _ _ _ _ r a b c => by
 subst hK
 cases bO b
 obtain ⟨p, vs, rfl, s, l⟩ := rk.list r a
 obtain ⟨w, ew, hw⟩ := BN l e
 exact ⟨p, vs, i, w, rfl, rfl, s, ew, c.pl r hw q⟩
theorem uU (hK : K = B.K) (rk : Rk τ x (.tup ts)) (e : eP ts i = some t) (q : Φ (.fz t) τ) : RO B (mJ K) x (.fz (.int i)) τ Φ := λ _ _ _ _ _ _ r a b c => by
 subst hK
 cases bO b
 obtain ⟨p, vs, rfl, s, l⟩ := rk.tuple r a
 obtain ⟨w, ew, hw⟩ := BN l e
 exact ⟨p, vs, i, w, rfl, rfl, s, ew, c.pl r hw q⟩
theorem Ha {ch : Nat} (hl : z.length <= sizeLine) (e : eP z.cps.toList i = some ch) (q : Φ (.fz (.str ⟨#[ch]⟩)) τ) : RO B rIxS (.fz (.str z)) (.fz (.int i)) τ Φ := λ _ _ _ _ _ _ r a b c => by
 cases bO b
 cases fF a
 exact ⟨z, i, ch, rfl, rfl, hl, e, c.pl r .str q⟩
theorem EG {u : Str} (hl : z.length + u.length <= sizeLine) (q : Φ (.fz (.str (z ++ u))) τ) : RO B rAddS (.fz (.str z)) (.fz (.str u)) τ Φ := λ _ _ _ _ _ _ r a b c => by
 cases fF a
 cases fF b
 exact ⟨z, u, rfl, rfl, hl, c.pl r .str q⟩
theorem Bh (h : EV B te τ λ x τ1 => ∃ b, x = .fz (.bl b) /\ Ψ b τ1) : TV B (wT te) τ Ψ := λ Z F H Q r c => by
 refine h Z F H _ r λ v F1 H1 k τ1 f1 r1 ok1 _ ⟨b, e, h1⟩ => ?_
 subst e
 cases ok1
 exact ⟨b, rfl, c b F1 H1 τ1 f1 r1 h1⟩
theorem t_B (h : EV B te τ λ x τ1 => ∃ b, x = .fz (.bl b) /\ Ψ b τ1) : TV B (tB te) τ Ψ := Bh h
theorem Jk {S : Bool -> Prop} (q : S b) : ∃ b', Kd.fz (.bl b) = .fz (.bl b') /\ S b' := ⟨b, rfl, q⟩
theorem TV.on {F1 H1 : Hp} {τ1 : TSt} {Q : Bool -> Hp -> Prop} (c : ∀ b F' H' τ', Fr B Z τ F H τ' F' H' -> Rp B F' H' Z τ' -> Ψ b τ' -> Q b H') (f : Fr B Z τ F H τ1 F1 H1) : ∀ b F' H' τ', Fr B Z τ1 F1 H1 τ' F' H' -> Rp B F' H' Z τ' -> Ψ b τ' -> Q b H' :=
 λ b F' H' τ' f' r h => c b F' H' τ' (f.trans f') r h
theorem Kr (h : TV B c τ λ k τ1 => if k = true then TV B d τ1 Ψ else Ψ false τ1) : TV B (FQ c d) τ Ψ := λ Z F H Q r k => by
 refine h Z F H _ r λ b F1 H1 τ1 f1 r1 h1 => ?_
 cases b with
 | true => rw [i9 rfl] at h1 ⊢; exact h1 Z F1 H1 Q r1 (TV.on k f1)
 | false => rw [gS gV] at h1 ⊢; exact k _ F1 H1 τ1 f1 r1 h1
theorem Md (h : TV B c τ λ k τ1 => if k = true then Ψ true τ1 else TV B d τ1 Ψ) : TV B (Mh c d) τ Ψ := λ Z F H Q r k => by
 refine h Z F H _ r λ b F1 H1 τ1 f1 r1 h1 => ?_
 cases b with
 | true => rw [i9 rfl] at h1 ⊢; exact k _ F1 H1 τ1 f1 r1 h1
 | false => rw [gS gV] at h1 ⊢; exact h1 Z F1 H1 Q r1 (TV.on k f1)
theorem Km (h : TV B c τ λ k τ1 => Ψ (!k) τ1) : TV B (Ix c) τ Ψ := λ Z F H Q r k => h Z F H _ r λ b F1 H1 τ1 f1 r1 h1 => k _ F1 H1 τ1 f1 r1 h1
theorem Iy (h : EV B ta τ λ x τ1 => ∃ b, x = .fz (.bl b) /\ if b = true then EV B tb τ1 Φ else Φ (.fz (.bl false)) τ1) : EV B (zS ta tb) τ Φ := λ Z F H Q r c => by
 refine h Z F H _ r λ v F1 H1 k τ1 f1 r1 ok1 _ ⟨b, e, h1⟩ => ?_
 subst e
 cases ok1
 refine ⟨b, rfl, ?_⟩
 cases b with
 | true => rw [i9 rfl] at h1 ⊢; exact h1 Z F1 H1 Q r1 (c.on f1)
 | false => rw [gS gV] at h1 ⊢; exact (c.on f1).pl r1 .bl h1
theorem Hc (h : EV B ta τ λ x τ1 => ∃ b, x = .fz (.bl b) /\ Φ (.fz (.bl (!b))) τ1) : EV B (AR ta) τ Φ := λ Z F H Q r c => by
 refine h Z F H _ r λ v F1 H1 k τ1 f1 r1 ok1 _ ⟨b, e, h1⟩ => ?_
 subst e
 cases ok1
 exact ⟨b, rfl, (c.on f1).pl r1 .bl h1⟩
theorem Mv (h : TV B c τ λ k τ1 => if k = true then EV B ta τ1 Φ else EV B tb τ1 Φ) : EV B (MI c ta tb) τ Φ := λ Z F H Q r k => by
 refine h Z F H _ r λ b F1 H1 τ1 f1 r1 h1 => ?_
 cases b with
 | true => rw [i9 rfl] at h1 ⊢; exact h1 Z F1 H1 Q r1 (k.on f1)
 | false => rw [gS gV] at h1 ⊢; exact h1 Z F1 H1 Q r1 (k.on f1)
theorem KO {S : List Tr -> TSt -> Prop} (q : S [] τ) : Dy B tNil τ S := λ Z F H Q r c => c [] F H [] τ Fr.refl r .nil q
theorem Hb {S : List Tr -> TSt -> Prop} {ns : List Int} (q : S (ns.map Tr.int) τ) : Dy B (Fu ns) τ S := λ Z F H Q r c => c _ F H _ τ Fr.refl r (.ofInts ns) q
theorem GI {tr : TA} {S : List Tr -> TSt -> Prop} (h : EV B te τ λ x τ1 => tU x τ1 λ t τ2 => Dy B tr τ2 λ ts τ3 => S (t :: ts) τ3) : Dy B (bW te tr) τ S := λ Z F H Q r c => by
 refine h Z F H _ r λ v F1 H1 k τ1 f1 r1 ok1 n1 h1 => ?_
 obtain ⟨F2, t, τ2, f2, r2, i2, h2, _⟩ := eT f1 r1 ok1 n1 h1
 exact h2 Z F2 H1 _ r2 λ vs F3 H3 ts τ3 f3 r3 l3 h3 => c _ F3 H3 _ τ3 (f2.trans f3) r3 (.cons (i2.same f3.f) l3) h3
theorem Ki {tA : TA} (h : Dy B tA τ λ ts τ1 => ts.length <= 1000 /\ Φ (.fz (.tup ts)) τ1) : EV B (AN tA) τ Φ := λ Z F H Q r c => by
 refine h Z F H _ r λ vs F1 H1 ts τ1 f1 r1 l1 ⟨hl, h1⟩ => ⟨by rw [l1.length]; exact n9 hl (by decide), λ p hp => ?_⟩
 have u := r1.tup (vs := vs) hp
 exact c _ _ _ (.fz (.tup ts)) τ1 (f1.trans (Fr.up u)) (r1.go u) (Is.tup (bq.of ar) (l1.same u.f)) trivial h1
variable {p : Addr}
theorem FS (r : Rp B F H Z τ) (l : IsL B.K F vs ts) (hp : H p = none) : vD B F (upd H p (.lst vs)) Z τ (.ref p) (.nw (.lst ts)) := by
 refine ⟨p, rfl, .lst ar l, r.inc.free hp, r.up.w p hp, λ i u h e => ?_⟩
 rcases h with h | h
 ·obtain ⟨l', e', g, _⟩ := r.ow i u h
  obtain ⟨o, ho, _⟩ := g.mb
  have := aE e' e
  cases this
  rw [hp] at ho; cases ho
 ·obtain ⟨l', e', g, _⟩ := r.vw i u h
  obtain ⟨o, ho, _⟩ := g.mb
  have := aE e' e
  cases this
  rw [hp] at ho; cases ho
theorem CT.nl (c : CT B Z τ F H Φ Q) (r : Rp B F H Z τ) (l : IsL B.K F vs ts) (hp : H p = none) (φ : Φ (.nw (.lst ts)) τ) : Q (.ref p) (upd H p (.lst vs)) :=
 c _ F _ (.nw (.lst ts)) τ (Fr.up (r.new hp)) (r.go (r.new hp)) (FS r l hp) (λ l e => by cases e; exact hp) φ
theorem CT.nt (c : CT B Z τ F H Φ Q) (r : Rp B F H Z τ) (l : IsL B.K F vs ts) (hp : H p = none) (φ : Φ (.fz (.tup ts)) τ) : Q (.ref p) (upd H p (.tup vs)) := by
 have u := r.tup (vs := vs) hp
 exact c _ _ _ (.fz (.tup ts)) τ (Fr.up u) (r.go u) (Is.tup (bq.of ar) (l.same u.f)) trivial φ
theorem JV {tA : TA} (h : Dy B tA τ λ ts τ1 => ts.length <= 1000 /\ Φ (.nw (.lst ts)) τ1) : EV B (CU tA) τ Φ := λ Z F H Q r c => by
 refine h Z F H _ r λ vs F1 H1 ts τ1 f1 r1 l1 ⟨hl, h1⟩ => ⟨by rw [l1.length]; exact n9 hl (by decide), λ p hp => ?_⟩
 exact (c.on f1).nl r1 l1 hp h1
theorem Lo {r : List V -> Hp -> VK -> Prop} (h : EV B te τ λ x τ1 => um x τ1 λ x τ1 => RU B (λ v H Q => r [v] H Q) x τ1 Φ) : EV B (Ic r (bW te tNil)) τ Φ := λ Z F H Q rp c => by
 refine h Z F H _ rp λ v F1 H1 k τ1 f1 r1 ok1 n1 h1 => ?_
 obtain ⟨F2, k', f2, r2, ok2, h2, _⟩ := dh f1 r1 ok1 n1 h1
 exact h2 Z F2 H1 v Q r2 ok2 (c.on f2)
theorem KY {r : List V -> Hp -> VK -> Prop} (h : EV B ta τ λ x τ1 => um x τ1 λ x τ1 => EV B tb τ1 λ y τ2 => um y τ2 λ y τ2 => RO B (λ v w H Q => r [v, w] H Q) x y τ2 Φ) : EV B (Ic r (bW ta (bW tb tNil))) τ Φ := λ Z F H Q rp c => by
 refine h Z F H _ rp λ v F1 H1 k τ1 f1 r1 ok1 n1 h1 => ?_
 obtain ⟨F2, k', f2, r2, ok2, h2, _⟩ := dh f1 r1 ok1 n1 h1
 refine h2 Z F2 H1 _ r2 λ w F3 H3 k3 τ3 f3 r3 ok3 n3 h3 => ?_
 obtain ⟨F4, k4, f4, r4, ok4, h4, _⟩ := dh f3 r3 ok3 n3 h3
 exact h4 Z F4 H3 v w Q r4 (ok2.same f4.f) ok4 (c.on (f2.trans f4))
def OV (B : Bk) (to : TO) (τ : TSt) (Φ : Option Int -> TSt -> Prop) : Prop := ∀ Z F H (Q : Option Int -> Hp -> Prop), Rp B F H Z τ -> (∀ b F' H' τ', Fr B Z τ F H τ' F' H' -> Rp B F' H' Z τ' -> Φ b τ' -> Q b H') -> to Z H Q
theorem Gq {S : Option Int -> TSt -> Prop} (h : EV B te τ λ x τ1 => ∃ i, x = .fz (.int i) /\ S (some i) τ1) : OV B (Ab te) τ S := λ Z F H Q r c => by
 refine h Z F H _ r λ v F1 H1 k τ1 f1 r1 ok1 _ ⟨b, e, h1⟩ => ?_
 subst e
 cases ok1
 exact ⟨b, rfl, c _ F1 H1 τ1 f1 r1 h1⟩
theorem IM {S : Int -> Prop} (q : S i) : ∃ b', Kd.fz (.int i) = .fz (.int b') /\ S b' := ⟨i, rfl, q⟩
def MA (B : Bk) (r : V -> Option Int -> Option Int -> Hp -> VK -> Prop) (x : Kd) (lo hi : Option Int) (τ : TSt) (Φ : TK) : Prop := RU B (λ v H Q => r v lo hi H Q) x τ Φ
theorem MJ {r : V -> Option Int -> Option Int -> Hp -> VK -> Prop} {tl th : TO} (h : EV B te τ λ x τ1 => um x τ1 λ x τ1 => OV B tl τ1 λ lo τ2 => OV B th τ2 λ hi τ3 => MA B r x lo hi τ3 Φ) : EV B (Na r te tl th) τ Φ := λ Z F H Q rp c => by
 refine h Z F H _ rp λ v F1 H1 k τ1 f1 r1 ok1 n1 h1 => ?_
 obtain ⟨F2, k', f2, r2, ok2, h2, _⟩ := dh f1 r1 ok1 n1 h1
 refine h2 Z F2 H1 _ r2 λ lo F3 H3 τ3 f3 r3 h3 => ?_
 refine h3 Z F3 H3 _ r3 λ hi F4 H4 τ4 f4 r4 h4 => ?_
 exact h4 Z F4 H4 v Q r4 ((ok2.same f3.f).same f4.f) (c.on (f2.trans (f3.trans f4)))
def jj (xs : List Tr) (lo hi : Option Int) : List Tr := (xs.drop (HT.sIx xs.length 0 lo)).take (HT.sIx xs.length xs.length hi - HT.sIx xs.length 0 lo)
variable {lo : Option Int} {hi : Option Int}
theorem xp (h : IsL K F vs ts) : IsL K F (sh vs lo hi) (jj ts lo hi) := by
 unfold sh jj
 rw [h.length]
 exact (h.drop _).take _
theorem Nl (hK : K = B.K) (rk : Rk τ x (.lst ts)) (q : Φ (.nw (.lst (jj ts lo hi))) τ) : MA B (Kb K) x lo hi τ Φ := λ _ _ _ _ _ r a c => by
 subst hK
 obtain ⟨p, vs, rfl, s, l⟩ := rk.list r a
 exact ⟨p, vs, rfl, s, λ p' hp => c.nl r (xp l) hp q⟩
theorem KR (hK : K = B.K) (rk : Rk τ x (.tup ts)) (hw : ¬ (HT.sIx ts.length 0 lo = 0 /\ HT.sIx ts.length ts.length hi = ts.length)) (q : Φ (.fz (.tup (jj ts lo hi))) τ) : MA B (KU K) x lo hi τ Φ := λ _ _ H _ Q r a c => by
 subst hK
 obtain ⟨p, vs, rfl, s, l⟩ := rk.tuple r a
 rw [<- l.length] at hw
 exact ⟨p, vs, rfl, s, hw, λ p' hp => c.nt r (xp l) hp q⟩
end
section
variable {B : Bk} {F H : Hp} {Z : St} {τ τ' : TSt}
theorem Rp.setO {i : Nat} {t t' : Tr} {l : Addr} {o' : HO} (r : Rp B F H Z τ) (h : cP τ i (.own t)) (e : gf Z i (.ref l)) (g : Ow B.K F (upd H l o') l t') : Rp B F (upd H l o') Z (τ.set i (.own t')) /\ Fr B Z τ F H (τ.set i (.own t')) F (upd H l o') := by
  obtain ⟨l', e', g0, n, n0⟩ := r.ow i t h
  cases aE e e'
  have keep : ∀ q, q ≠ l -> ∀ o, H q = some o -> (upd H l o') q = some o := λ q hq o z => by rw [am hq]; exact z
  have kx : ∀ q φ, H q = some (.ext φ) -> (upd H l o') q = some (.ext φ) := λ q φ z => keep q (λ e => by
    obtain ⟨o, ho, mb⟩ := g0.mb
    rw [e, ho] at z; cases z; exact mb) _ z
  refine ⟨{
    wa := r.wa
    wf := r.wf
    wj := B.jl _ _ (λ q hw => by
      have : q ≠ l := λ e => r.wa q hw (by rw [e]; exact n0)
      rw [am this]) kx r.wj
    wd := λ j z => by
      rcases cg z with ⟨_, z, _⟩ | ⟨_, z⟩
      · cases z
      · exact r.wd j z
    up := { f := r.up.f, h := λ q o nw z => by
              have : q ≠ l := λ e => by rw [e, n0] at z; cases z
              exact keep q this o (r.up.h q o nw z)
            w := λ q z => r.up.w q (ju z)
            x := r.up.x
            j := λ z => B.jl _ _ (λ q hw => by
              have : q ≠ l := λ e => r.wa q hw (by rw [e]; exact n0)
              rw [am this]) kx r.wj
            i := λ q o z => by
              have : q ≠ l := λ e => by rw [e, n] at z; cases z
              exact keep q this o (r.up.i q o z)
            m := r.up.m }
    len := by rw [List.length_set]; exact r.len
    fz := λ j u z => by
      rcases cg z with ⟨_, z, _⟩ | ⟨_, z⟩
      · cases z
      · exact r.fz j u z
    ow := λ j u z => by
      rcases cg z with ⟨rfl, z, _⟩ | ⟨nj, z⟩
      · cases z; exact ⟨l, e, g, n, n0⟩
      · obtain ⟨l2, a, b, c⟩ := r.ow j u z
        have : l2 ≠ l := λ q => r.ap i j t u l h z (λ q => nj q.symm) e (by rw [<- q]; exact a)
        exact ⟨l2, a, b.to (ah.refl _) (keep l2 this), c⟩
    vw := λ j u z => by
      rcases cg z with ⟨_, z, _⟩ | ⟨nj, z⟩
      · cases z
      · obtain ⟨l2, a, b, c⟩ := r.vw j u z
        have : l2 ≠ l := λ q => r.av i j t u l h z e (by rw [<- q]; exact a)
        exact ⟨l2, a, b.to (ah.refl _) (keep l2 this), c⟩
    ap := λ a b u w l2 ha hb ne hi hj => by
      obtain ⟨u', ha'⟩ : ∃ u, cP τ a (.own u) := by
        rcases cg ha with ⟨rfl, _, _⟩ | ⟨_, z⟩
        · exact ⟨_, h⟩
        · exact ⟨_, z⟩
      obtain ⟨w', hb'⟩ : ∃ u, cP τ b (.own u) := by
        rcases cg hb with ⟨rfl, _, _⟩ | ⟨_, z⟩
        · exact ⟨_, h⟩
        · exact ⟨_, z⟩
      exact r.ap a b u' w' l2 ha' hb' ne hi hj
    av := λ a b u w l2 ha hb hi hj => by
      obtain ⟨u', ha'⟩ : ∃ u, cP τ a (.own u) := by
        rcases cg ha with ⟨rfl, _, _⟩ | ⟨_, z⟩
        · exact ⟨_, h⟩
        · exact ⟨_, z⟩
      rcases cg hb with ⟨_, z, _⟩ | ⟨_, z⟩
      · cases z
      · exact r.av a b u' w l2 ha' z hi hj }, ?_⟩
  refine ⟨ah.refl _, λ p o hp _ no => ?_, λ j u z => ?_, λ p hp => ?_⟩
  · have : p ≠ l := λ q => no i t h (by rw [q]; exact e)
    exact ⟨keep p this o hp, λ _ z => z⟩
  · rcases cg z with ⟨rfl, _, _⟩ | ⟨_, z⟩
    · exact ⟨_, h⟩
    · exact ⟨_, z⟩
  · by_cases q : p = l
    · rw [q, ar] at hp; cases hp
    · rw [am q] at hp; exact hp
end
section
variable {B : Bk} {τ τ' τ2 : TSt} {Φ : TK} {te ta tb : TE} {i k : Nat} {t u : Tr} {x : Kd} {ts us : List Tr}
def tyT (T : String) : Tr -> Prop
 | .str _ => T = "str"
 | .lst _ => T = "list"
 | .dct _ => T = "dict"
 | _ => False
def Jg (T : String) (x : Kd) (τ : TSt) : Prop := ∃ t, Rk τ x t /\ tyT T t
variable {F : Hp} {H : Hp} {Z : St}
theorem Jg.v {T : String} {v : V} (h : Jg T x τ) (r : Rp B F H Z τ) (ok : ga B.K F Z v x) : Jj B.K T v H := by
 obtain ⟨t, rk, ht⟩ := h
 cases t with
 | lst ts =>
  obtain ⟨p, vs, rfl, s, _⟩ := rk.list r ok
  exact .inl ⟨ht, vs, s⟩
 | dct ts =>
  obtain ⟨p, vs, rfl, s, _⟩ := rk.dict r ok
  exact .inr (.inr (.inl ⟨ht, .inl ⟨vs, s⟩⟩))
 | str z =>
  have : v = .str z := by
   cases rk with
   | fz => cases ok; rfl
   | own g => obtain ⟨l, e, hw, _⟩ := r.ow _ _ g.eq; cases hw
   | vw g => obtain ⟨l, e, hw, _⟩ := r.vw _ _ g.eq; cases hw
   | sfz g =>
    obtain ⟨w, e, hi⟩ := r.fz _ _ g.eq
    cases aE e ok
    cases hi; rfl
  subst this
  exact ht
 | _ => exact ht.elim
def RM (B : Bk) (rr : V -> List V -> Hp -> VK -> Prop) (x : Kd) (ts : List Tr) (τ : TSt) (Φ : TK) : Prop := ∀ Z F H v vs Q, Rp B F H Z τ -> ga B.K F Z v x -> IsL B.K F vs ts -> CT B Z τ F H Φ Q -> rr v vs H Q
variable {K : Fg}
theorem Mn (hK : K = B.K) {T : String} {rr : V -> List V -> Hp -> VK -> Prop} {tA : TA} (h : EV B te τ λ x τ1 => um x τ1 λ x τ1 => Jg T x τ1 /\ Dy B tA τ1 λ ts τ2 => RM B rr x ts τ2 Φ) : EV B (Mq K T rr te tA) τ Φ := λ Z F H Q rp c => by
 subst hK
 refine h Z F H _ rp λ v F1 H1 k τ1 f1 r1 ok1 n1 h1 => ?_
 obtain ⟨F2, k', f2, r2, ok2, ⟨ty, h2⟩, _⟩ := dh f1 r1 ok1 n1 h1
 refine ⟨ty.v r2 ok2, h2 Z F2 H1 _ r2 λ vs F3 H3 ts τ3 f3 r3 l3 h3 => ?_⟩
 exact h3 Z F3 H3 v vs Q r3 (ok2.same f3.f) l3 (c.on (f2.trans f3))
theorem Dl {S : Prop} (rk : Rk τ x (.lst ts)) (q : S) : Jg "list" x τ /\ S := ⟨⟨_, rk, rfl⟩, q⟩
theorem qX {rr : V -> List V -> Hp -> VK -> Prop} {ts us : List Tr} {as : List Tr} {res : Tr} (g : Gt τ k (.own (.lst ts))) (st : jJ τ k (.own (.lst us)) τ')
  (h : ∀ (K : Fg) (F H : Hp) (l : Addr) (vs ws : List V) (Q : VK), H l = some (.lst vs) -> IsL K F vs ts -> IsL K F ws as -> (∀ v vs', IsL K F vs' us -> Is K F v res -> Q v (upd H l (.lst vs'))) -> rr (.ref l) ws H Q) (q : Φ (.fz res) τ') : RM B rr (.sl k) as τ Φ := λ Z F H v ws Q r a l c => by
 obtain ⟨l0, e, hw, n, n0⟩ := r.ow _ _ g.eq
 cases aE e a
 cases hw with
 | lst h1 h2 =>
  refine h B.K F H l0 _ ws Q h1 h2 l λ v vs' l' hv => ?_
  obtain ⟨r2, f2⟩ := r.setO g.eq e (.lst ar l')
  rw [st.eq] at r2 f2
  exact c _ F _ (.fz res) τ' f2 r2 hv trivial q
theorem yX (g : Gt τ k (.own (.lst ts))) (hl : ts.length <= 10000) (st : jJ τ k (.own (.lst (ts ++ [t]))) τ') (q : Φ (.fz .non) τ') : RM B rAppend (.sl k) [t] τ Φ :=
 qX g st (λ K F H l vs ws Q h1 h2 h3 c => by
  cases h3 with
  | cons a b =>
   cases b
   exact ⟨l, vs, _, rfl, rfl, h1, by rw [h2.length]; exact rd hl (by decide), c _ _ (h2.snoc a) .non⟩) q
theorem yP {j : Int} (g : Gt τ k (.own (.lst ts))) (h0 : 0 <= j) (h1 : j <= ts.length) (hl : ts.length <= 10000) (st : jJ τ k (.own (.lst (ts.take j.toNat ++ t :: ts.drop j.toNat))) τ') (q : Φ (.fz .non) τ') : RM B rInsert (.sl k) [.int j, t] τ Φ :=
 qX g st (λ K F H l vs ws Q e1 e2 e3 c => by
  cases e3 with
  | cons a b =>
   cases a
   cases b with
   | cons a b =>
    cases b
    exact ⟨l, vs, j, _, rfl, rfl, e1, h0, by rw [e2.length]; exact h1, by rw [e2.length]; exact rd hl (by decide), c _ _ ((e2.take _).app (.cons a (e2.drop _))) .non⟩) q
inductive Ar where
 | fz (t : Tr) | wd
def vA (B : Bk) (F : Hp) (v : V) : Ar -> Prop
 | .fz t => Is B.K F v t
 | .wd => v = .ref B.rt
inductive ge (B : Bk) (F : Hp) : List V -> List Ar -> Prop
 | nil : ge B F [] []
 | cons {v : V} {a : Ar} {vs : List V} {as : List Ar} : vA B F v a -> ge B F vs as -> ge B F (v :: vs) (a :: as)
theorem ge.length {B : Bk} : ∀ {vs : List V} {as : List Ar}, ge B F vs as -> vs.length = as.length
 | _, _, .nil => rfl
 | _, _, .cons _ g => congrArg (· + 1) (ge.length g)
variable {F' : Hp}
theorem vA.same {B : Bk} {v : V} {a : Ar} (s : ah F F') (h : vA B F v a) : vA B F' v a := by
 cases a with
 | fz t => exact Is.same s h
 | wd => exact h
theorem ge.get {B : Bk} {F : Hp} : ∀ {vs : List V} {as : List Ar} {i : Nat} {a : Ar}, ge B F vs as -> as[i]? = some a -> ∃ v, vs[i]? = some v /\ vA B F v a
 | _, _, _, _, .nil, e => by simp at e
 | _, _, 0, _, .cons h _, e => by simp at e; subst e; exact ⟨_, rfl, h⟩
 | _, _, i + 1, t, .cons _ g, e => by
  obtain ⟨u, h1, h2⟩ := ge.get (i := i) (a := t) g (by simpa using e)
  exact ⟨u, by simpa using h1, h2⟩
def FH (B : Bk) (ta : TA) (τ : TSt) (Φ : List Ar -> TSt -> Prop) : Prop := ∀ Z F H (Q : List V -> Hp -> Prop), Rp B F H Z τ -> (∀ vs F' H' as τ', Fr B Z τ F H τ' F' H' -> Rp B F' H' Z τ' -> ge B F' vs as -> Φ as τ' -> Q vs H') -> ta Z H Q
def Fs (k : Kd) (τ : TSt) (S : Ar -> TSt -> Prop) : Prop := match k with
 | .wd => S .wd τ
 | .fz t => S (.fz t) τ
 | .nw t => S (.fz t) τ
 | .sl i => (∃ t, cP τ i (.own t) /\ S (.fz t) (τ.set i (.fz t))) ∨ ∃ t, cP τ i (.fz t) /\ S (.fz t) τ
variable {S : Ar -> TSt -> Prop}
theorem JP (h : S (.fz t) τ) : Fs (.fz t) τ S := h
theorem Jr (h : S (.fz t) τ) : Fs (.nw t) τ S := h
theorem GG (g : Gt τ k (.own t)) (s : jJ τ k (.fz t) τ') (h : S (.fz t) τ') : Fs (.sl k) τ S := Ck (S := λ t τ' => S (.fz t) τ') g s h
theorem Ky {S : List Ar -> TSt -> Prop} (q : S [] τ) : FH B tNil τ S := λ Z F H Q r c => c [] F H [] τ Fr.refl r .nil q
theorem GN {tr : TA} {S : List Ar -> TSt -> Prop} (h : EV B te τ λ x τ1 => Fs x τ1 λ a τ2 => FH B tr τ2 λ as τ3 => S (a :: as) τ3) : FH B (bW te tr) τ S := λ Z F H Q r c => by
 refine h Z F H _ r λ v F1 H1 k τ1 f1 r1 ok1 n1 h1 => ?_
 have go : tU k τ1 (λ t τ2 => FH B tr τ2 λ as τ3 => S (.fz t :: as) τ3) -> tr Z H1 λ vs H2 => Q (v :: vs) H2 := λ h => by
  obtain ⟨F2, t, τ2, f2, r2, i2, h2, _⟩ := eT f1 r1 ok1 n1 h
  exact h2 Z F2 H1 _ r2 λ vs F3 H3 ts τ3 f3 r3 l3 h3 => c _ F3 H3 _ τ3 (f2.trans f3) r3 (.cons (vA.same (a := .fz t) f3.f i2) l3) h3
 cases k with
 | wd => exact h1 Z F1 H1 _ r1 λ vs F3 H3 ts τ3 f3 r3 l3 h3 => c _ F3 H3 _ τ3 (f1.trans f3) r3 (.cons (a := .wd) ok1 l3) h3
 | fz t => exact go h1
 | nw t => exact go h1
 | sl i => exact go h1
def su (B : Bk) (F H : Hp) (v : V) : Kd -> Prop
 | .fz t => Is B.K F v t
 | .nw t => ∃ l, v = .ref l /\ Ow B.K F H l t /\ F l = none /\ B.H0 l = none
 | .sl _ => False
 | .wd => False
noncomputable abbrev SpT := Bk -> List Ar -> (Kd -> Prop) -> (Addr -> Prop) -> Prop
structure qc (B : Bk) : Prop where
 i : ah B.F0 B.H0
 wa : ∀ p, B.W p -> B.H0 p ≠ none
 wf : ∀ p, B.W p -> B.F0 p = none
 wj : B.J B.H0
def bE (K : Fg) (S : SpT) : Sp := λ vs H Q E => ∃ B as Φ Ψ, B.K = K /\ B.H0 = H /\ qc B /\ ge B B.F0 vs as /\ S B as Φ Ψ /\ (∀ v F' H' k, Up B B.F0 H F' H' -> su B F' H' v k -> Φ k -> Q v H') /\ ∀ C F' H', Up B B.F0 H F' H' -> Ψ C -> E (.ref C) none H'
theorem aH {S : SpT} {n : Nat} (hn : ∀ B as Φ Ψ, S B as Φ Ψ -> as.length = n) : ∀ vs H Q E, bE K S vs H Q E -> vs.length = n := λ vs H Q E h => by
 obtain ⟨B, as, Φ, Ψ, _, _, _, l, s, _⟩ := h
 rw [l.length]; exact hn B as Φ Ψ s
theorem Cf {H' : Hp} {v : V} {kd : Kd} {B' : Bk} (r : Rp B F H Z τ) (hK : B'.K = B.K) (hH : B'.H0 = H) (h : su B' F' H' v kd) : vD B F' H' Z τ v kd /\ DM H v kd := by
 cases kd with
 | fz t => exact ⟨by
   have h2 : Is B'.K F' v t := h
   rw [hK] at h2; exact h2, trivial⟩
 | sl i => exact h.elim
 | wd => exact h.elim
 | nw t =>
  obtain ⟨l, rfl, g, n, n0⟩ := h
  rw [hH] at n0
  rw [hK] at g
  refine ⟨⟨l, rfl, g, n, r.up.w l n0, λ i w h e => ?_⟩, λ l' e => by cases e; exact n0⟩
  rcases h with h | h
  ·obtain ⟨l', e', g, _⟩ := r.ow i w h
   obtain ⟨o, ho, _⟩ := g.mb
   cases aE e' e
   rw [n0] at ho; cases ho
  ·obtain ⟨l', e', g, _⟩ := r.vw i w h
   obtain ⟨o, ho, _⟩ := g.mb
   cases aE e' e
   rw [n0] at ho; cases ho
noncomputable abbrev Bk.now (B : Bk) (F H : Hp) : Bk := { B with F0 := F, H0 := H }
theorem Up.of_now {F1 H1 H' : Hp} (u : Up (B.now F1 H1) F H F' H') : Up B F H F' H' := ⟨u.f, u.h, u.i, u.m, u.w, u.x, u.j⟩
theorem Rp.bkok (r : Rp B F H Z τ) : qc (B.now F H) := ⟨r.inc, λ p hw z => r.wa p hw (r.up.w p z), r.wf, r.wj⟩
theorem ge.now {F1 H1 : Hp} : ∀ {vs : List V} {as : List Ar}, ge B F vs as -> ge (B.now F1 H1) F vs as
 | _, _, .nil => .nil
 | _, _, .cons (a := .fz _) h g => .cons (a := .fz _) h (ge.now g)
 | _, _, .cons (a := .wd) h g => .cons (a := .wd) h (ge.now g)
theorem Dm (hK : K = B.K) {S : SpT} {E : XK} {tA : TA} {Ψ : Addr -> Prop} (hE : ∀ C F H, Up B B.F0 B.H0 F H -> Ψ C -> E (.ref C) none H) (h : FH B tA τ λ as τ1 => ∀ F H, S (B.now F H) as (λ k => Φ k τ1) Ψ) : EV B (eD (bE K S) [] E tA) τ Φ := λ Z F H Q rp c => by
 subst hK
 unfold eD
 simp only [vM]
 refine h Z F H _ rp λ vs F1 H1 as τ1 f1 r1 l1 h1 => ?_
 refine ⟨B.now F1 H1, as, _, _, rfl, rfl, r1.bkok, ?_, h1 F1 H1, λ v F2 H2 kd u ok φ => ?_, λ C F2 H2 u ψ => hE C F2 H2 (r1.up.trans u.of_now) ψ⟩
 ·exact l1.now
 obtain ⟨a, b⟩ := Cf r1 (B' := B.now F1 H1) rfl rfl ok
 exact c.on f1 v F2 H2 kd τ1 (Fr.up u.of_now) (r1.go u.of_now) (by
  cases kd with
  | nw t => exact ⟨a.choose, a.choose_spec.1, a.choose_spec.2.1, a.choose_spec.2.2⟩
  | _ => exact a) b φ
theorem Gv (hK : K = B.K) {S : SpT} {E : XK} {tA : TA} (h : FH B tA τ λ as τ1 => ∀ F H, S (B.now F H) as (λ k => Φ k τ1) λ _ => False) : EV B (eD (bE K S) [] E tA) τ Φ := Dm hK (λ _ _ _ _ z => z.elim) h
end
structure ET where
 nx : TSt -> Prop
 rt : Kd -> Prop
 bk : TSt -> Prop
 ct : TSt -> Prop
structure EO (B : Bk) (F : Hp) (D : eQ) (D' : ET) : Prop where
 nx : ∀ Z F' H τ, ah F F' -> Rp B F' H Z τ -> D'.nx τ -> D.nx Z H
 rt : ∀ v F' H k, Up B B.F0 B.H0 F' H -> su B F' H v k -> D'.rt k -> D.rt v H
 bk : ∀ Z F' H τ, ah F F' -> Rp B F' H Z τ -> D'.bk τ -> D.bk Z H
 ct : ∀ Z F' H τ, ah F F' -> Rp B F' H Z τ -> D'.ct τ -> D.ct Z H
def SV (B : Bk) (t : TS) (τ : TSt) (D' : ET) : Prop := ∀ Z F H D, Rp B F H Z τ -> EO B F D D' -> t D Z H
section
variable {B : Bk} {τ τ' τ2 : TSt} {te ta tb : TE} {i k : Nat} {t u : Tr} {x : Kd} {ts us : List Tr} {s1 s2 : TS} {nx bk ct : TSt -> Prop} {rt : Kd -> Prop} {c : TT}
theorem EO.on {F F1 : Hp} {D : eQ} {D' : ET} (e : EO B F D D') (s : ah F F1) : EO B F1 D D' := ⟨λ Z F' H τ z => e.nx Z F' H τ (s.trans z), e.rt, λ Z F' H τ z => e.bk Z F' H τ (s.trans z), λ Z F' H τ z => e.ct Z F' H τ (s.trans z)⟩
theorem nc (h : SV B s1 τ ⟨λ τ1 => SV B s2 τ1 ⟨nx, rt, bk, ct⟩, rt, bk, ct⟩) : SV B (ke s1 s2) τ ⟨nx, rt, bk, ct⟩ := λ Z F H D r e => h Z F H _ r ⟨λ σ' F' H' τ' s r' h' => h' σ' F' H' D r' (e.on s), e.rt, e.bk, e.ct⟩
theorem qd (h : nx τ) : SV B tNext τ ⟨nx, rt, bk, ct⟩ := λ Z F H D r e => e.nx Z F H τ (ah.refl _) r h
theorem Il (h : EV B te τ λ _ τ1 => nx τ1) : SV B (Bf te) τ ⟨nx, rt, bk, ct⟩ := λ Z F H D r e => h Z F H _ r λ v F1 H1 k τ1 f r1 _ _ h1 => e.nx Z F1 H1 τ1 f.f r1 h1
def LI (k : Kd) (τ : TSt) (R : Kd -> Prop) : Prop := match k with
 | .fz t => R (.fz t)
 | .nw t => R (.nw t) ∨ R (.fz t)
 | .sl i => (∃ t, cP τ i (.own t) /\ (R (.nw t) ∨ R (.fz t))) ∨ ∃ t, cP τ i (.fz t) /\ R (.fz t)
 | .wd => False
theorem JB (h : EV B te τ λ k τ1 => LI k τ1 rt) : SV B (AM te) τ ⟨nx, rt, bk, ct⟩ := λ Z F H D r e => h Z F H _ r λ v F1 H1 k τ1 f r1 ok n h1 => by
 have fixed : ∀ l t, v = .ref l -> Ow B.K F1 H1 l t -> F1 l = none -> B.H0 l = none -> rt (.fz t) -> D.rt v H1 := λ l t ev g nn n0 h => by
  subst ev
  obtain ⟨o, ho, mb⟩ := g.mb
  refine e.rt _ (upd F1 l o) H1 (.fz t) ⟨r1.up.f.trans (ah.new nn o), r1.up.h, λ q z hz => ?_, λ q z hz mz nz => ?_, r1.up.w, λ q hw nz => ?_, r1.up.j⟩ (g.is (ah.new nn o) (by rw [ar, ho])) h
  ·by_cases hq : q = l
   ·rw [hq, ar] at hz; cases hz; rw [hq]; exact ho
   ·rw [am hq] at hz; exact r1.up.i q z hz
  ·have : q ≠ l := λ e' => by rw [e', n0] at hz; cases hz
   rw [am this]; exact r1.up.m q z hz mz nz
  ·have : q ≠ l := λ e' => r1.wa q hw (by rw [e']; exact n0)
   rw [am this]; exact r1.up.x q hw nz
 cases k with
 | fz t => exact e.rt v F1 H1 (.fz t) r1.up ok h1
 | nw t =>
  obtain ⟨l, ev, g, nn, n0, _⟩ := ok
  rcases h1 with h1 | h1
  ·exact e.rt v F1 H1 (.nw t) r1.up ⟨l, ev, g, nn, n0⟩ h1
  ·exact fixed l t ev g nn n0 h1
 | sl i =>
  rcases h1 with ⟨t, ht, h1⟩ | ⟨t, ht, h1⟩
  ·obtain ⟨l, es, g, nn, n0⟩ := r1.ow i t ht
   have ev : v = .ref l := aE ok es
   rcases h1 with h1 | h1
   ·exact e.rt v F1 H1 (.nw t) r1.up ⟨l, ev, g, nn, n0⟩ h1
   ·exact fixed l t ev g nn n0 h1
  ·obtain ⟨w, es, g⟩ := r1.fz i t ht
   cases aE es ok
   exact e.rt v F1 H1 (.fz t) r1.up g h1
 | wd => exact h1.elim
variable {R : Kd -> Prop}
theorem JO (h : R (.fz t)) : LI (.fz t) τ R := h
theorem Jx (h : R (.nw t)) : LI (.nw t) τ R := .inl h
theorem AX (g : Gt τ k (.own t)) (h : R (.nw t)) : LI (.sl k) τ R := .inl ⟨t, g.eq, .inl h⟩
theorem Fc (h : TV B c τ λ b τ1 => if b = true then SV B s1 τ1 ⟨nx, rt, bk, ct⟩ else SV B s2 τ1 ⟨nx, rt, bk, ct⟩) : SV B (Cm c s1 s2) τ ⟨nx, rt, bk, ct⟩ := λ Z F H D r e => h Z F H _ r λ b F1 H1 τ1 f r1 h1 => by
 cases b with
 | true => rw [i9 rfl] at h1 ⊢; exact h1 Z F1 H1 D r1 (e.on f.f)
 | false => rw [gS gV] at h1 ⊢; exact h1 Z F1 H1 D r1 (e.on f.f)
theorem gQ (J : TSt -> Prop) (h : SV B s1 τ ⟨J, rt, bk, ct⟩) (q : ∀ τ', J τ' -> nx τ') : SV B s1 τ ⟨nx, rt, bk, ct⟩ := λ Z F H D r e => h Z F H D r ⟨λ Z F' H τ s r h => e.nx Z F' H τ s r (q τ h), e.rt, e.bk, e.ct⟩
def GA (B : Bk) (g : TG) (k : Kd) (τ : TSt) (N : TSt -> Prop) : Prop := ∀ Z F H v (S : St -> Hp -> Prop), Rp B F H Z τ -> vD B F H Z τ v k -> (∀ σ' F' H' τ', ah F F' -> Rp B F' H' σ' τ' -> N τ' -> S σ' H') -> g v Z H S
variable {g : TG}
theorem EX (h : EV B te τ λ k τ1 => GA B g k τ1 nx) : SV B (qg te g) τ ⟨nx, rt, bk, ct⟩ := λ Z F H D r e => h Z F H _ r λ v F1 H1 k τ1 f r1 ok _ h1 => h1 Z F1 H1 v _ r1 ok λ σ' F' H' τ' s r' n => e.nx σ' F' H' τ' (f.f.trans s) r' n
variable {N : TSt -> Prop}
theorem Lg (s : jJ τ k (.fz t) τ') (h : N τ') : GA B (bH k) (.fz t) τ N := λ Z F H v S r ok q => q _ F H τ' (ah.refl _) (by have := r.setF (i := k) ok; rw [s.eq] at this; exact this) h
theorem MF (s : jJ τ k (.own t) τ') (h : N τ') : GA B (bH k) (.nw t) τ N := λ Z F H v S r ok q => q _ F H τ' (ah.refl _) (by have := r.setN (i := k) ok; rw [s.eq] at this; exact this) h
def LU (B : Bk) (g : TGs) (ts : List Tr) (τ : TSt) (N : TSt -> Prop) : Prop := ∀ Z F H vs (S : St -> Hp -> Prop), Rp B F H Z τ -> IsL B.K F vs ts -> (∀ σ' F' H' τ', ah F F' -> Rp B F' H' σ' τ' -> N τ' -> S σ' H') -> g vs Z H S
variable {K : Fg}
theorem JT (hK : K = B.K) {N : TSt -> Prop} {n : Nat} {g : TGs} (hl : ts.length = n) (h : LU B g ts τ N) : GA B (tQ K n g) (.fz (.tup ts)) τ N := λ Z F H v S r ok q => by
 subst hK
 cases (show Is B.K F v (.tup ts) from ok) with
 | tup a b => exact ⟨_, _, rfl, r.inc.tup a, by rw [b.length]; exact hl, h Z F H _ S r b q⟩
theorem Hf (h : N τ) : LU B gNil [] τ N := λ Z F H vs S r l q => by
 cases l
 exact ⟨rfl, q Z F H τ (ah.refl _) r h⟩
theorem Es {gr : TGs} (h : GA B g (.fz t) τ λ τ1 => LU B gr ts τ1 N) : LU B (dG g gr) (t :: ts) τ N := λ Z F H vs S r l q => by
 cases l with
 | cons a b => exact ⟨_, _, rfl, h Z F H _ _ r a λ σ1 F1 H1 τ1 s1 r1 h1 => h1 σ1 F1 H1 _ S r1 (b.same s1) λ σ' F' H' τ' s' r' n => q σ' F' H' τ' (s1.trans s') r' n⟩
def KS (B : Bk) (F : Hp) (J : It) (ts : List Tr) : Prop := ∀ Z τ F' H', ah F F' -> Rp B F' H' Z τ -> (∀ i t, ts[i]? = some t -> J.go i H' /\ ∀ x H2, J.yld i H' x H2 -> ∃ F2, Up B F' H' F2 H2 /\ Is B.K F2 x t) /\ J.stop ts.length H'
def IV (B : Bk) (wi : TI) (τ : TSt) (Φ : List Tr -> TSt -> Prop) : Prop := ∀ Z F H (R : It -> Hp -> Prop), Rp B F H Z τ -> (∀ J F' H' ts τ', Fr B Z τ F H τ' F' H' -> Rp B F' H' Z τ' -> KS B F' J ts -> Φ ts τ' -> R J H') -> wi Z H R
theorem iU (hK : K = B.K) {Φ : List Tr -> TSt -> Prop} (h : EV B te τ λ x τ1 => tU x τ1 λ t τ2 => ∃ ts, t = .lst ts /\ Φ ts τ2) : IV B (AJ K te) τ Φ := λ Z F H R r c => by
 subst hK
 refine h Z F H _ r λ v F1 H1 k τ1 f1 r1 ok1 n1 h1 => ?_
 obtain ⟨F2, t, τ2, f2, r2, i2, ⟨ts, e, h2⟩, _⟩ := eT f1 r1 ok1 n1 h1
 subst e
 cases i2 with
 | lst a b =>
  refine ⟨_, rfl, ⟨_, r2.inc.seq a⟩, c _ F2 H1 ts τ2 f2 r2 (λ σ' τ' F' H' sF rH => ⟨λ i t e => ?_, ⟨_, rH.inc.seq (sF.seq a), by rw [b.length]; exact jo _⟩⟩) h2⟩
  obtain ⟨w, ew, hw⟩ := b.get e
  refine ⟨⟨_, w, rH.inc.seq (sF.seq a), ew⟩, λ x H2 y => ?_⟩
  obtain ⟨rfl, y2⟩ := y
  have := y2 _ (rH.inc.seq (sF.seq a))
  rw [ew] at this
  cases this
  exact ⟨F', Up.refl rH.inc, hw.same sF⟩
theorem FB (hK : K = B.K) {Φ : List Tr -> TSt -> Prop} (h : EV B te τ λ x τ1 => tU x τ1 λ t τ2 => ∃ ts, t = .tup ts /\ Φ ts τ2) : IV B (IS K te) τ Φ := λ Z F H R r c => by
 subst hK
 refine h Z F H _ r λ v F1 H1 k τ1 f1 r1 ok1 n1 h1 => ?_
 obtain ⟨F2, t, τ2, f2, r2, i2, ⟨ts, e, h2⟩, _⟩ := eT f1 r1 ok1 n1 h1
 subst e
 cases i2 with
 | tup a b =>
  refine ⟨_, rfl, ⟨_, r2.inc.tup a⟩, c _ F2 H1 ts τ2 f2 r2 (λ σ' τ' F' H' sF rH => ⟨λ i t e => ?_, ⟨_, rH.inc.tup (sF.tup a), by rw [b.length]; exact jo _⟩⟩) h2⟩
  obtain ⟨w, ew, hw⟩ := b.get e
  refine ⟨⟨_, w, rH.inc.tup (sF.tup a), ew⟩, λ x H2 y => ?_⟩
  obtain ⟨rfl, y2⟩ := y
  have := y2 _ (rH.inc.tup (sF.tup a))
  rw [ew] at this
  cases this
  exact ⟨F', Up.refl rH.inc, hw.same sF⟩
theorem KE {S : List Tr -> Prop} (q : S ts) : ∃ ts', Tr.lst ts = .lst ts' /\ S ts' := ⟨ts, rfl, q⟩
theorem KW {S : List Tr -> Prop} (q : S ts) : ∃ ts', Tr.tup ts = .tup ts' /\ S ts' := ⟨ts, rfl, q⟩
def iT (lo : Int) (n : Nat) : List Tr := (List.range n).map λ i => .int (lo + (i : Nat))
variable {lo : Int} {n : Nat}
theorem ff {i : Nat} {t : Tr} (h : (iT lo n)[i]? = some t) : i < n /\ t = .int (lo + (i : Nat)) := by
 unfold iT at h
 rw [jb] at h
 by_cases hi : i < n
 ·rw [List.getElem?_range hi] at h; cases h; exact ⟨hi, rfl⟩
 ·rw [vG (by rw [List.length_range]; lia)] at h; cases h
theorem dU : (iT lo n).length = n := by unfold iT; rw [cI, List.length_range]
theorem Ba {F : Hp} : KS B F (CC lo n) (iT lo n) := λ σ' τ' F' H' sF rH => ⟨λ i t e => by
  obtain ⟨hi, rfl⟩ := ff e
  exact ⟨hi, λ x H2 y => by obtain ⟨rfl, rfl⟩ := y; exact ⟨F', Up.refl rH.inc, .int⟩⟩, by rw [dU]; exact jo _⟩
theorem FR {Φ : List Tr -> TSt -> Prop} (h : EV B te τ λ x τ1 => ∃ j, x = .fz (.int j) /\ (-(2 ^ 62) <= j /\ j < 2 ^ 62) /\ Φ (iT 0 j.toNat) τ1) : IV B (zD (bW te tNil)) τ Φ := λ Z F H R r c => by
 refine h Z F H _ r λ v F1 H1 k τ1 f1 r1 ok1 n1 ⟨j, e, hb, h1⟩ => ?_
 subst e
 cases ok1
 exact ⟨j, rfl, hb.1, hb.2, c _ F1 H1 _ τ1 f1 r1 Ba h1⟩
theorem KL {wi : TI} {tbd : TS} (h : IV B wi τ λ ts τ1 => ∃ I : Nat -> TSt -> Prop, I 0 τ1 /\ (∀ i t τ2, ts[i]? = some t -> I i τ2 -> GA B g (.fz t) τ2 λ τ3 => SV B tbd τ3 ⟨I (i + 1), rt, nx, I (i + 1)⟩) /\ ∀ τ2, I ts.length τ2 -> nx τ2) : SV B (Ii wi g tbd) τ ⟨nx, rt, bk, ct⟩ := λ Z F H D r e => by
 refine h Z F H _ r λ J F1 H1 ts τ1 f1 r1 itk ⟨I, i0, step, fin⟩ => ?_
 refine ⟨λ i m Z H => ∃ F2 τ2, ah F1 F2 /\ Rp B F2 H Z τ2 /\ I i τ2 /\ i <= ts.length /\ m = ts.length - i, ⟨_, F1, τ1, ah.refl _, r1, i0, Nat.zero_le _, rfl⟩, ?_⟩
 rintro i m Z H ⟨F2, τ2, s2, r2, i2, hi, rfl⟩
 obtain ⟨itg, its⟩ := itk Z τ2 F2 H s2 r2
 by_cases hlt : i < ts.length
 ·obtain ⟨g1, g2⟩ := itg i ts[i] (dM hlt)
  refine .inr ⟨g1, λ σ' H' => ∃ F2 τ2, ah F1 F2 /\ Rp B F2 H' σ' τ2 /\ I (i + 1) τ2, λ σ' H' ⟨F2, τ2, a, b, c⟩ => ⟨_, by lia, F2, τ2, a, b, c, hlt, rfl⟩, λ x H3 y => ?_⟩
  obtain ⟨F3, u3, hx⟩ := g2 x H3 y
  refine step i ts[i] τ2 (dM hlt) i2 Z F3 H3 x _ (r2.go u3) hx λ σ4 F4 H4 τ4 s4 r4 h4 => ?_
  have s14 := s2.trans (u3.f.trans s4)
  exact h4 σ4 F4 H4 _ r4 ⟨λ σ5 F5 H5 τ5 s5 r5 h5 => ⟨F5, τ5, s14.trans s5, r5, h5⟩, e.rt, λ σ5 F5 H5 τ5 s5 r5 h5 => e.nx σ5 F5 H5 τ5 (f1.f.trans (s14.trans s5)) r5 h5, λ σ5 F5 H5 τ5 s5 r5 h5 => ⟨F5, τ5, s14.trans s5, r5, h5⟩⟩
 ·have ei : i = ts.length := by lia
  subst ei
  exact .inl ⟨its, e.nx Z F2 H τ2 (f1.f.trans s2) r2 (fin τ2 i2)⟩
theorem wS {tbd : TS} (I : Nat -> TSt -> Prop) (m0 : Nat) (h0 : I m0 τ) (step : ∀ m τ1, I m τ1 -> TV B c τ1 λ b τ2 => if b = true then SV B tbd τ2 ⟨λ τ3 => ∃ m', m' < m /\ I m' τ3, rt, nx, λ τ3 => ∃ m', m' < m /\ I m' τ3⟩ else nx τ2) : SV B (uW c tbd) τ ⟨nx, rt, bk, ct⟩ := λ Z F H D r e => by
 refine ⟨λ m Z H => ∃ F2 τ2, ah F F2 /\ Rp B F2 H Z τ2 /\ I m τ2, ⟨m0, F, τ, ah.refl _, r, h0⟩, ?_⟩
 rintro m Z H ⟨F2, τ2, s2, r2, i2⟩
 refine step m τ2 i2 Z F2 H _ r2 λ b F3 H3 τ3 f3 r3 h3 => ?_
 have s3 := s2.trans f3.f
 cases b with
 | true =>
  rw [i9 rfl] at h3 ⊢
  refine ⟨λ σ' H' => ∃ m', m' < m /\ ∃ F2 τ2, ah F F2 /\ Rp B F2 H' σ' τ2 /\ I m' τ2, λ σ' H' z => z, h3 Z F3 H3 _ r3 ⟨?_, e.rt, λ σ5 F5 H5 τ5 s5 r5 h5 => e.nx σ5 F5 H5 τ5 (s3.trans s5) r5 h5, ?_⟩⟩
  ·rintro σ5 F5 H5 τ5 s5 r5 ⟨m', hm, h5⟩
   exact ⟨m', hm, F5, τ5, s3.trans s5, r5, h5⟩
  ·rintro σ5 F5 H5 τ5 s5 r5 ⟨m', hm, h5⟩
   exact ⟨m', hm, F5, τ5, s3.trans s5, r5, h5⟩
 | false => rw [gS gV] at h3 ⊢; exact e.nx Z F3 H3 τ3 s3 r3 h3
end
def Li : Ar -> Sl
 | .fz t => .fz t
 | .wd => .wd
def dS (n : Nat) (as : List Ar) : TSt := as.map Li ++ List.replicate (n - as.length) Sl.no
theorem dP {n : Nat} {as : List Ar} {i : Nat} {s : Sl} (h : cP (dS n as) i s) : (∃ a, s = Li a /\ as[i]? = some a) ∨ s = .no := by
 unfold cP dS at h
 by_cases hi : i < as.length
 ·rw [vo (by rw [cI]; exact hi), jb, dM hi] at h
  cases h
  exact .inl ⟨_, rfl, dM hi⟩
 ·rw [uL (by rw [cI]; lia), List.getElem?_replicate] at h
  split at h
  ·cases h; exact .inr rfl
  ·cases h
theorem mH {B : Bk} {N : List Str} {vs : List V} {as : List Ar} (k : qc B) (l : ge B B.F0 vs as) : Rp B B.F0 B.H0 (cV N vs) (dS N.length as) := by
 have got : ∀ i a, as[i]? = some a -> ∃ v, gf (cV N vs) i v /\ vA B B.F0 v a := λ i a h => by
  obtain ⟨v, hv, hi⟩ := l.get h
  refine ⟨v, ?_, hi⟩
  have hj := (j3.mp hv).1
  unfold gf cV
  rw [vo (by rw [cI]; exact hj), jb, hv]
  rfl
 exact {
 up := Up.refl k.i
 wa := k.wa
 wf := k.wf
 wj := k.wj
 wd := λ j h => by
  rcases dP h with ⟨a, e, hu⟩ | e
  ·cases a with
   | fz t => cases e
   | wd =>
    obtain ⟨v, e, hv⟩ := got j _ hu
    cases (show v = .ref B.rt from hv)
    exact e
  ·cases e
 len := by unfold cV dS; rw [nh, nh, cI, cI, List.length_replicate, List.length_replicate, l.length]
 fz := λ j t h => by
  rcases dP h with ⟨a, e, hu⟩ | e
  ·cases a with
   | wd => cases e
   | fz u =>
    cases e
    obtain ⟨v, e, hv⟩ := got j _ hu
    exact ⟨v, e, hv⟩
  ·cases e
 ow := λ j t h => by
  rcases dP h with ⟨a, e, hu⟩ | e
  ·cases a <;> cases e
  ·cases e
 vw := λ j t h => by
  rcases dP h with ⟨a, e, hu⟩ | e
  ·cases a <;> cases e
  ·cases e
 ap := λ _ b t u l h => by
  rcases dP h with ⟨a, e, hu⟩ | e
  ·cases a <;> cases e
  ·cases e
 av := λ _ b t u l h => by
  rcases dP h with ⟨a, e, hu⟩ | e
  ·cases a <;> cases e
  ·cases e }
theorem aB {K : Fg} {S : SpT} {vs : List V} {H : Hp} {Q : VK} {E : XK} (h : bE K S vs H Q E) : ∃ B as Φ Ψ, B.K = K /\ S B as Φ Ψ /\ (∀ C F' H', Up B B.F0 B.H0 F' H' -> Ψ C -> E (.ref C) none H') /\ ∀ (N : List Str) (t : TS), SV B t (dS N.length as) ⟨λ _ => Φ (.fz .non), Φ, λ _ => False, λ _ => False⟩ -> t { nx := λ _ H' => Q .non H', rt := Q } (cV N vs) H := by
 obtain ⟨B, as, Φ, Ψ, hK, rfl, k, l, s, q, x⟩ := h
 refine ⟨B, as, Φ, Ψ, hK, s, x, λ N t sv => sv _ _ _ _ (mH k l) ⟨?_, ?_, ?_, ?_⟩⟩
 ·intro Z F' H' τ _ r h
  exact q .non F' H' (.fz .non) r.up .non h
 ·intro v F' H' k u ok h
  exact q v F' H' k u ok h
 ·exact λ _ _ _ _ _ _ z => z
 ·exact λ _ _ _ _ _ _ z => z
theorem cB {B : Bk} {t : TS} {τ : TSt} {n : Nat} {ts : List Ar} {D : ET} (h : dS n ts = τ) (q : SV B t τ D) : SV B t (dS n ts) D := by rw [h]; exact q
inductive oR (τ : TSt) : List (Str × Nat) -> TSt -> Prop
 | nil : oR τ [] []
 | fz {x : Str} {k : Nat} {t : Tr} {r : List (Str × Nat)} {r' : TSt} : Gt τ k (.fz t) -> oR τ r r' -> oR τ ((x, k) :: r) (.fz t :: r')
 | own {x : Str} {k : Nat} {t : Tr} {r : List (Str × Nat)} {r' : TSt} : Gt τ k (.own t) -> oR τ r r' -> oR τ ((x, k) :: r) (.vw t :: r')
 | vw {x : Str} {k : Nat} {t : Tr} {r : List (Str × Nat)} {r' : TSt} : Gt τ k (.vw t) -> oR τ r r' -> oR τ ((x, k) :: r) (.vw t :: r')
 | wd {x : Str} {k : Nat} {r : List (Str × Nat)} {r' : TSt} : Gt τ k .wd -> oR τ r r' -> oR τ ((x, k) :: r) (.wd :: r')
 | no {x : Str} {k : Nat} {r : List (Str × Nat)} {r' : TSt} : oR τ r r' -> oR τ ((x, k) :: r) (.no :: r')
theorem oR.at {τ : TSt} {fr : List (Str × Nat)} {τi : TSt} (h : oR τ fr τi) : τi.length = fr.length /\ ∀ i s, cP τi i s -> ∃ x k, fr[i]? = some (x, k) /\ ((s = .no ∨ (s = .wd /\ cP τ k .wd)) ∨ (∃ t, s = .fz t /\ cP τ k (.fz t)) ∨ ∃ t, s = .vw t /\ (cP τ k (.own t) ∨ cP τ k (.vw t))) := by
 induction h with
 | nil => exact ⟨rfl, λ i s h => by unfold cP at h; simp at h⟩
 | fz g _ ih =>
  refine ⟨by rw [o5, o5, ih.1], λ i s h => ?_⟩
  cases i with
  | zero => simp [cP] at h; subst h; exact ⟨_, _, rfl, .inr (.inl ⟨_, rfl, g.eq⟩)⟩
  | succ i => exact ih.2 i s (by simpa [cP] using h)
 | own g _ ih =>
  refine ⟨by rw [o5, o5, ih.1], λ i s h => ?_⟩
  cases i with
  | zero => simp [cP] at h; subst h; exact ⟨_, _, rfl, .inr (.inr ⟨_, rfl, .inl g.eq⟩)⟩
  | succ i => exact ih.2 i s (by simpa [cP] using h)
 | vw g _ ih =>
  refine ⟨by rw [o5, o5, ih.1], λ i s h => ?_⟩
  cases i with
  | zero => simp [cP] at h; subst h; exact ⟨_, _, rfl, .inr (.inr ⟨_, rfl, .inr g.eq⟩)⟩
  | succ i => exact ih.2 i s (by simpa [cP] using h)
 | no _ ih =>
  refine ⟨by rw [o5, o5, ih.1], λ i s h => ?_⟩
  cases i with
  | zero => simp [cP] at h; subst h; exact ⟨_, _, rfl, .inl (.inl rfl)⟩
  | succ i => exact ih.2 i s (by simpa [cP] using h)
 | wd g _ ih =>
  refine ⟨by rw [o5, o5, ih.1], λ i s h => ?_⟩
  cases i with
  | zero => simp [cP] at h; subst h; exact ⟨_, _, rfl, .inl (.inr ⟨rfl, g.eq⟩)⟩
  | succ i => exact ih.2 i s (by simpa [cP] using h)
section
variable {B : Bk} {F H : Hp} {Z : St} {τ τi : TSt} {fr : List (Str × Nat)}
theorem mh {i k : Nat} {x : Str} {v : V} (h : fr[i]? = some (x, k)) (g : gf Z k v) : gf (iG Z fr) i v := by
 unfold gf iG at *
 rw [jb, h]
 show some ((Z[k]?).join) = _
 rw [g]; rfl
theorem oR.rp (h : oR τ fr τi) (r : Rp B F H Z τ) : Rp B F H (iG Z fr) τi where
 up := r.up
 wa := r.wa
 wf := r.wf
 wj := r.wj
 wd := λ i z => by
  obtain ⟨x, k, hk, (e | ⟨e, g⟩) | ⟨u, e, g⟩ | ⟨u, e, g⟩⟩ := h.at.2 i _ z
  ·cases e
  ·exact mh hk (r.wd _ g)
  ·cases e
  ·cases e
 len := by unfold iG; rw [cI, h.at.1]
 fz := λ i t z => by
  obtain ⟨x, k, hk, (e | ⟨e, g⟩) | ⟨u, e, g⟩ | ⟨u, e, g⟩⟩ := h.at.2 i _ z
  ·cases e
  ·cases e
  ·cases e
   obtain ⟨v, a, b⟩ := r.fz _ _ g
   exact ⟨v, mh hk a, b⟩
  ·cases e
 ow := λ i t z => by
  obtain ⟨x, k, hk, (e | ⟨e, g⟩) | ⟨u, e, g⟩ | ⟨u, e, g⟩⟩ := h.at.2 i _ z <;> cases e
 vw := λ i t z => by
  obtain ⟨x, k, hk, (e | ⟨e, g⟩) | ⟨u, e, g⟩ | ⟨u, e, g⟩⟩ := h.at.2 i _ z
  ·cases e
  ·cases e
  ·cases e
  ·cases e
   rcases g with g | g
   ·obtain ⟨l, a, b, c, n0⟩ := r.ow _ _ g
    exact ⟨l, mh hk a, b, c, λ hw => r.wa l hw n0⟩
   ·obtain ⟨l, a, b, c⟩ := r.vw _ _ g
    exact ⟨l, mh hk a, b, c⟩
 ap := λ a b t u l z => by
  obtain ⟨x, k, hk, (e | ⟨e, g⟩) | ⟨u, e, g⟩ | ⟨u, e, g⟩⟩ := h.at.2 a _ z <;> cases e
 av := λ a b t u l z => by
  obtain ⟨x, k, hk, (e | ⟨e, g⟩) | ⟨u, e, g⟩ | ⟨u, e, g⟩⟩ := h.at.2 a _ z <;> cases e
theorem oR.noown (h : oR τ fr τi) {i : Nat} {t : Tr} (z : cP τi i (.own t)) : False := by
 obtain ⟨x, k, hk, (e | ⟨e, g⟩) | ⟨u, e, g⟩ | ⟨u, e, g⟩⟩ := h.at.2 i _ z <;> cases e
theorem Rp.consO {o : Option V} (r : Rp B F H Z τ) : Rp B F H (o :: Z) (.no :: τ) where
 up := r.up
 wa := r.wa
 wf := r.wf
 wj := r.wj
 wd := λ i z => by
  cases i with
  | zero => cases z
  | succ i => exact r.wd i z
 len := by rw [o5, o5, r.len]
 fz := λ i t z => by
  cases i with
  | zero => cases z
  | succ i => obtain ⟨v, a, b⟩ := r.fz i t z; exact ⟨v, a, b⟩
 ow := λ i t z => by
  cases i with
  | zero => cases z
  | succ i => exact r.ow i t z
 vw := λ i t z => by
  cases i with
  | zero => cases z
  | succ i => exact r.vw i t z
 ap := λ a b t u l ha hb ne hi hj => by
  cases a with
  | zero => cases ha
  | succ a =>
   cases b with
   | zero => cases hb
   | succ b => exact r.ap a b t u l ha hb (λ z => ne (by rw [z])) hi hj
 av := λ a b t u l ha hb hi hj => by
  cases a with
  | zero => cases ha
  | succ a =>
   cases b with
   | zero => cases hb
   | succ b => exact r.av a b t u l ha hb hi hj
theorem Rp.consF {v : V} {t : Tr} (r : Rp B F H Z τ) (h : Is B.K F v t) : Rp B F H (some v :: Z) (.fz t :: τ) := (r.consO (o := none)).setF (i := 0) h
theorem Rp.back {σi : St} {τ2 τ3 : TSt} {F' H' : Hp} (r : Rp B F H Z τ) (f : Fr B σi τ2 F H τ3 F' H') (no : ∀ i t, ¬ cP τ2 i (.own t)) (ri : Rp B F' H' σi τ3) : Rp B F' H' Z τ /\ Up B F H F' H' := by
 have up : Up B F H F' H' := ⟨f.f, λ p o nw hp => (f.k p o hp nw λ i t z => (no i t z).elim).1, ri.up.i, λ p o hp mb n => by
  by_cases hw : B.W p
  ·exact ri.wf p hw
  ·exact (f.k p o hp hw λ i t z => (no i t z).elim).2 mb n, f.h, λ p hw _ => ri.wf p hw, λ _ => ri.wj⟩
 exact ⟨r.go up, up⟩
theorem Rp.acc {acc : Addr} {o : HO} {ys : List V} (rb : Rp B F H Z τ) (hy : H acc = some (.lst ys)) (h0 : B.H0 acc = none) (na : F acc = none) (dis : ∀ i u, cP τ i (.own u) ∨ cP τ i (.vw u) -> ¬ gf Z i (.ref acc)) : Rp B F (upd H acc o) Z τ := {
      wa := rb.wa
      wf := rb.wf
      wj := B.jl _ _ (λ q hw => by
        have : q ≠ acc := λ e => rb.wa q hw (by rw [e]; exact h0)
        rw [am this]) (λ q φ z => by rw [am (wv z hy nofun)]; exact z) rb.wj
      wd := rb.wd
      up := { f := rb.up.f, h := λ q o nw z => by
                have : q ≠ acc := λ e => by rw [e, h0] at z; cases z
                rw [am this]; exact rb.up.h q o nw z
              i := λ q o z => by
                have : q ≠ acc := λ e => by rw [e, na] at z; cases z
                rw [am this]; exact rb.up.i q o z
              m := rb.up.m
              w := λ q z => rb.up.w q (ju z)
              x := rb.up.x
              j := λ z => B.jl _ _ (λ q hw => by
                have : q ≠ acc := λ e => rb.wa q hw (by rw [e]; exact h0)
                rw [am this]) (λ q φ z => by rw [am (wv z hy nofun)]; exact z) rb.wj }
      len := rb.len
      fz := rb.fz
      ow := λ j u z => by
        obtain ⟨l', a, b, c⟩ := rb.ow j u z
        have : l' ≠ acc := λ e => dis j u (.inl z) (by rw [<- e]; exact a)
        exact ⟨l', a, b.to (ah.refl _) (λ o ho => by rw [am this]; exact ho), c⟩
      vw := λ j u z => by
        obtain ⟨l', a, b, c⟩ := rb.vw j u z
        have : l' ≠ acc := λ e => dis j u (.inr z) (by rw [<- e]; exact a)
        exact ⟨l', a, b.to (ah.refl _) (λ o ho => by rw [am this]; exact ho), c⟩
      ap := rb.ap
      av := rb.av }
end
section
variable {B : Bk} {τ τi : TSt} {Φ : TK} {fr : List (Str × Nat)} {wi : TI} {te : TE}
theorem Bb (h : IV B wi τ λ ts τ1 => ∃ τi, oR τ1 fr τi /\ ts.length <= 100000 /\ ∃ P : Nat -> Tr -> Prop, (∀ i t, ts[i]? = some t -> EV B te (.fz t :: τi) λ k τ2 => tU k τ2 λ o _ => P i o) /\ ∀ os : List Tr, os.length = ts.length -> (∀ i o, os[i]? = some o -> P i o) -> Φ (.nw (.lst os)) τ1) : EV B (KM fr wi te) τ Φ := λ Z F H Q r c => by
 refine h Z F H _ r λ J F1 H1 ts τ1 f1 r1 itk ⟨τi, inr, hlen, P, step, fin⟩ => ?_
 refine BZ ?_
 intro acc hacc
 refine ⟨λ i m H2 => ∃ F2 vs os, Rp B F2 H2 Z τ1 /\ Fr B Z τ1 F1 H1 τ1 F2 H2 /\ H2 acc = some (.lst vs) /\ F2 acc = none /\ IsL B.K F2 vs os /\ os.length = i /\ (∀ j o, os[j]? = some o -> P j o) /\ i <= ts.length /\ m = ts.length - i, ⟨_, F1, [], [], r1.go (r1.new hacc), Fr.up (r1.new hacc), ar, r1.inc.free hacc, .nil, rfl, λ j o z => (by cases z), Nat.zero_le _, rfl⟩, ?_⟩
 rintro i m H2 ⟨F2, vs, os, r2, f2, ha, na, l2, hos, hP, hi, rfl⟩
 obtain ⟨itg, its⟩ := itk Z τ1 F2 H2 f2.f r2
 have dis : ∀ (i : Nat) (u : Tr), cP τ1 i (.own u) ∨ cP τ1 i (.vw u) -> ¬ gf Z i (.ref acc) := λ i u hu hs => by
  rcases hu with hu | hu
  ·obtain ⟨l', e', g, _⟩ := r1.ow i u hu
   obtain ⟨o, ho, _⟩ := g.mb
   cases aE e' hs
   rw [hacc] at ho; cases ho
  ·obtain ⟨l', e', g, _⟩ := r1.vw i u hu
   obtain ⟨o, ho, _⟩ := g.mb
   cases aE e' hs
   rw [hacc] at ho; cases ho
 by_cases hlt : i < ts.length
 ·obtain ⟨g1, g2⟩ := itg i ts[i] (dM hlt)
  refine .inr ⟨g1, λ x H3 y => ?_⟩
  obtain ⟨F3, u3, hx⟩ := g2 x H3 y
  have r3 := r2.go u3
  have ri : Rp B F3 H3 (some x :: iG Z fr) (.fz ts[i] :: τi) := (inr.rp r3).consF hx
  refine step i ts[i] (dM hlt) _ F3 H3 _ ri λ v F4 H4 k τ4 f4 r4 ok4 n4 h4 => ?_
  obtain ⟨F5, o, τ5, f5, r5, i5, hp5, _⟩ := eT f4 r4 ok4 n4 h4
  have noo' : ∀ j t, ¬ cP (Sl.fz ts[i] :: τi) j (.own t) := λ j t z => by
   cases j with
   | zero => cases z
   | succ j => exact inr.noown z
  obtain ⟨rb, ub⟩ := r3.back f5 noo' r5
  have u25 := u3.trans ub
  have nwa : ¬ B.W acc := λ hw => r1.wa acc hw (r1.up.w acc hacc)
  have ha5 : H4 acc = some (.lst vs) := u25.h _ _ nwa ha
  have na5 : F5 acc = none := u25.m _ _ ha trivial na
  refine ⟨vs, ts.length - (i + 1), ha5, by rw [l2.length, hos]; exact mv (mv hlt hlen) (by decide), by lia, ?_⟩
  have r6 : Rp B F5 (upd H4 acc (.lst (vs ++ [v]))) Z τ1 := rb.acc ha5 (r1.up.w acc hacc) na5 dis
  have f6 : Fr B Z τ1 F1 H1 τ1 F5 (upd H4 acc (.lst (vs ++ [v]))) := by
   have f7 := f2.trans (Fr.up u25)
   refine ⟨f7.f, λ p o hp nw no => ?_, f7.o, λ p hp => ?_⟩
   ·have : p ≠ acc := λ e => by rw [e, hacc] at hp; cases hp
    rw [am this]; exact f7.k p o hp nw no
   ·by_cases e : p = acc
    ·rw [e, ar] at hp; cases hp
    ·rw [am e] at hp; exact f7.h p hp
  refine ⟨F5, vs ++ [v], os ++ [o], r6, f6, ar, na5, (l2.same u25.f).snoc i5, by rw [nh, hos]; rfl, λ j q hj => ?_, hlt, rfl⟩
  rcases Nat.lt_or_ge j os.length with hjl | hjl
  ·rw [vo hjl] at hj
   exact hP j q hj
  ·rw [uL hjl] at hj
   have hz := (j3.mp hj).1
   rw [List.length_singleton] at hz
   have ej : j = i := by lia
   rw [show j - os.length = 0 by lia] at hj
   cases hj
   rw [ej]; exact hp5
 ·have ei : i = ts.length := by lia
  subst ei
  exact .inl ⟨its, c _ F2 H2 (.nw (.lst os)) τ1 (f1.trans f2) r2 ⟨acc, rfl, .lst ha l2, na, r1.up.w acc hacc, dis⟩ (λ l e => by cases e; exact f1.h _ hacc) (fin os hos hP)⟩
end
section
variable {B : Bk} {F H : Hp} {Z : St} {τ τi : TSt} {fr : List (Str × Nat)}
theorem Rp.pre (r : Rp B F H Z τ) : ∀ (vs : List V) (ts : List Tr), IsL B.K F vs ts -> Rp B F H (vs.map some ++ Z) (ts.map Sl.fz ++ τ)
 | _, _, .nil => r
 | _, _, .cons h g => (Rp.pre r _ _ g).consF h
end
section
variable {B : Bk} {τ τi : TSt} {Φ : TK} {fr : List (Str × Nat)} {wi : TI} {te : TE} {tc : TT} {g : TG} {k : Nat}
theorem Ft (Cut : Tr -> List Tr -> Prop) (hk : ∀ t as, Cut t as -> as.length = k)
  (hg : ∀ t as, Cut t as -> ∀ (F H : Hp) (v : V) (σb : St) (S : St -> Hp -> Prop), ah F H -> Is B.K F v t -> k <= σb.length -> (∀ ws, IsL B.K F ws as -> S (ws.map some ++ σb.drop k) H) -> g v σb H S)
  (h : IV B wi τ λ ts τ1 => ∃ τi, oR τ1 fr τi /\ ts.length <= 100000 /\ ∃ P : Nat -> Option Tr -> Prop, (∀ i t, ts[i]? = some t -> ∃ as, Cut t as /\ TV B tc (as.map Sl.fz ++ τi) λ b τ2 => if b = true then EV B te τ2 λ k τ3 => tU k τ3 λ o _ => P i (some o) else P i none) /\ ∀ os : List (Option Tr), os.length = ts.length -> (∀ i o, os[i]? = some o -> P i o) -> Φ (.nw (.lst (os.filterMap id))) τ1) : EV B (oU k fr wi g tc te) τ Φ := λ Z F H Q r c => by
 refine h Z F H _ r λ J F1 H1 ts τ1 f1 r1 itk ⟨τi, inr, hlen, P, step, fin⟩ => ?_
 intro acc hacc
 refine ⟨λ i m σb H2 => ∃ F2 vs os, Rp B F2 H2 Z τ1 /\ Fr B Z τ1 F1 H1 τ1 F2 H2 /\ H2 acc = some (.lst vs) /\ F2 acc = none /\ IsL B.K F2 vs (os.filterMap id) /\ os.length = i /\ (∀ j o, os[j]? = some o -> P j o) /\ i <= ts.length /\ m = ts.length - i /\ k <= σb.length /\ σb.drop k = iG Z fr, ⟨_, F1, [], [], r1.go (r1.new hacc), Fr.up (r1.new hacc), ar, r1.inc.free hacc, .nil, rfl, λ j o z => (by cases z), Nat.zero_le _, rfl, by rw [nh, List.length_replicate]; lia, by rw [List.drop_append_of_le_length (by rw [List.length_replicate]; exact jo _), List.drop_replicate, Nat.sub_self]; rfl⟩, ?_⟩
 rintro i m σb H2 ⟨F2, vs, os, r2, f2, ha, na, l2, hos, hP, hi, rfl, hkb, hdb⟩
 obtain ⟨itg, its⟩ := itk Z τ1 F2 H2 f2.f r2
 have nwa : ¬ B.W acc := λ hw => r1.wa acc hw (r1.up.w acc hacc)
 have dis : ∀ (i : Nat) (u : Tr), cP τ1 i (.own u) ∨ cP τ1 i (.vw u) -> ¬ gf Z i (.ref acc) := λ i u hu hs => by
  rcases hu with hu | hu
  ·obtain ⟨l', e', g, _⟩ := r1.ow i u hu
   obtain ⟨o, ho, _⟩ := g.mb
   cases aE e' hs
   rw [hacc] at ho; cases ho
  ·obtain ⟨l', e', g, _⟩ := r1.vw i u hu
   obtain ⟨o, ho, _⟩ := g.mb
   cases aE e' hs
   rw [hacc] at ho; cases ho
 have more : ∀ {o : Option Tr}, P i o -> ∀ (j : Nat) (q : Option Tr), (os ++ [o])[j]? = some q -> P j q := λ {o} hp j q hj => by
  rcases Nat.lt_or_ge j os.length with hjl | hjl
  ·rw [vo hjl] at hj
   exact hP j q hj
  ·rw [uL hjl] at hj
   have hz := (j3.mp hj).1
   rw [List.length_singleton] at hz
   have ej : j = i := by lia
   rw [show j - os.length = 0 by lia] at hj
   cases hj
   rw [ej]; exact hp
 by_cases hlt : i < ts.length
 ·obtain ⟨g1, g2⟩ := itg i ts[i] (dM hlt)
  refine .inr ⟨g1, λ x H3 y => ?_⟩
  obtain ⟨F3, u3, hx⟩ := g2 x H3 y
  have r3 := r2.go u3
  obtain ⟨as, hcut, htv⟩ := step i ts[i] (dM hlt)
  refine hg ts[i] as hcut F3 H3 x σb _ r3.inc hx hkb λ ws lw => ?_
  rw [hdb]
  have ri : Rp B F3 H3 (ws.map some ++ iG Z fr) (as.map Sl.fz ++ τi) := Rp.pre (inr.rp r3) ws as lw
  have noo : ∀ j t, ¬ cP (as.map Sl.fz ++ τi) j (.own t) := λ j t z => by
   unfold cP at z
   rcases Nat.lt_or_ge j as.length with q | q
   ·rw [vo (by rw [cI]; exact q), jb, dM q] at z
    cases z
   ·rw [uL (by rw [cI]; exact q)] at z
    exact inr.noown z
  have hwl : (ws.map some).length = k := by rw [cI, lw.length, hk _ _ hcut]
  have hk2 : k <= (ws.map some ++ iG Z fr).length := by rw [nh, hwl]; lia
  have hd2 : (ws.map some ++ iG Z fr).drop k = iG Z fr := by rw [<- hwl, List.drop_left]
  refine htv _ F3 H3 _ ri λ b F4 H4 τ4 f4 r4 h4 => ?_
  cases b with
  | false =>
   rw [gS gV] at h4 ⊢
   obtain ⟨rb, ub⟩ := r3.back f4 noo r4
   have u25 := u3.trans ub
   exact ⟨ts.length - (i + 1), by lia, F4, vs, os ++ [none], rb, f2.trans (Fr.up u25), u25.h _ _ nwa ha, u25.m _ _ ha trivial na, by rw [List.filterMap_append]; simpa using l2.same u25.f, by rw [nh, hos]; rfl, more h4, hlt, rfl, hk2, hd2⟩
  | true =>
   rw [i9 rfl] at h4 ⊢
   refine h4 _ F4 H4 _ r4 λ v F5 H5 kd τ5 f5 r5 ok5 n5 h5 => ?_
   obtain ⟨F6, o, τ6, f6, r6, i6, hp6, _⟩ := eT f5 r5 ok5 n5 h5
   obtain ⟨rb, ub⟩ := r3.back (f4.trans f6) noo r6
   have u25 := u3.trans ub
   have ha5 : H5 acc = some (.lst vs) := u25.h _ _ nwa ha
   have na5 : F6 acc = none := u25.m _ _ ha trivial na
   have hvl : vs.length <= i := by rw [l2.length, <- hos]; exact List.length_filterMap_le _ _
   refine ⟨vs, ts.length - (i + 1), ha5, rd hvl (mv (mv hlt hlen) (by decide)), by lia, ?_⟩
   have f6' : Fr B Z τ1 F1 H1 τ1 F6 (upd H5 acc (.lst (vs ++ [v]))) := by
    have f7 := f2.trans (Fr.up u25)
    refine ⟨f7.f, λ p o hp nw no => ?_, f7.o, λ p hp => ?_⟩
    ·have : p ≠ acc := λ e => by rw [e, hacc] at hp; cases hp
     rw [am this]; exact f7.k p o hp nw no
    ·by_cases e : p = acc
     ·rw [e, ar] at hp; cases hp
     ·rw [am e] at hp; exact f7.h p hp
   exact ⟨F6, vs ++ [v], os ++ [some o], rb.acc ha5 (r1.up.w acc hacc) na5 dis, f6', ar, na5, by rw [List.filterMap_append]; exact (l2.same u25.f).snoc i6, by rw [nh, hos]; rfl, more hp6, hlt, rfl, hk2, hd2⟩
 ·have ei : i = ts.length := by lia
  subst ei
  exact .inl ⟨its, c _ F2 H2 (.nw (.lst (os.filterMap id))) τ1 (f1.trans f2) r2 ⟨acc, rfl, .lst ha l2, na, r1.up.w acc hacc, dis⟩ (λ l e => by cases e; exact f1.h _ hacc) (fin os hos hP)⟩
theorem Cc {K : Fg} (hK : K = B.K) (h : IV B wi τ λ ts τ1 => ∃ τi, oR τ1 fr τi /\ ts.length <= 100000 /\ ∃ P : Nat -> Option Tr -> Prop, (∀ i t, ts[i]? = some t -> ∃ a b, t = .tup [a, b] /\ TV B tc (.fz a :: .fz b :: τi) λ b τ2 => if b = true then EV B te τ2 λ k τ3 => tU k τ3 λ o _ => P i (some o) else P i none) /\ ∀ os : List (Option Tr), os.length = ts.length -> (∀ i o, os[i]? = some o -> P i o) -> Φ (.nw (.lst (os.filterMap id))) τ1) : EV B (oU 2 fr wi (tQ K 2 (dG (bH 0) (dG (bH 1) gNil))) tc te) τ Φ := by
 subst hK
 refine Ft (λ t as => ∃ a b, t = .tup [a, b] /\ as = [a, b]) (λ t as e => by obtain ⟨a, b, _, rfl⟩ := e; rfl) (λ t as e F H v σb S i hi hk q => ?_) ?_
 ·obtain ⟨a, b, rfl, rfl⟩ := e
  cases hi with
  | tup s l =>
   cases l with
   | cons h1 l =>
    cases l with
    | cons h2 l =>
     cases l
     refine ⟨_, _, rfl, i.tup s, rfl, _, _, rfl, _, _, rfl, rfl, ?_⟩
     have := q _ (.cons h1 (.cons h2 .nil))
     match σb, hk with
     | x :: y :: r, _ => exact this
 ·intro Z F H R r c
  refine h Z F H R r λ J F' H' ts τ' f r' it ⟨τi, a, b, P, st, fin⟩ => c J F' H' ts τ' f r' it ⟨τi, a, b, P, λ i t e => ?_, fin⟩
  obtain ⟨a, b, e, tv⟩ := st i t e
  exact ⟨[a, b], ⟨a, b, e, rfl⟩, tv⟩
theorem KB {Ψ : Bool -> TSt -> Prop} (h : Ψ true τ) : TV B tYes τ Ψ := λ Z F H Q r c => c true F H τ Fr.refl r h
theorem DI {iy : Nat} {nx bk ct : TSt -> Prop} {rt : Kd -> Prop} (h : EV B (KM fr wi te) τ λ k τ1 => GA B (bH iy) k τ1 nx) : SV B (uN iy fr wi te) τ ⟨nx, rt, bk, ct⟩ := λ Z F H D r e => h Z F H _ r λ v F1 H1 k τ1 f r1 ok _ h1 => h1 Z F1 H1 v _ r1 ok λ σ' F' H' τ' s r' n => e.nx σ' F' H' τ' (f.f.trans s) r' n
end
section
variable {B : Bk} {τ τ' : TSt} {Φ : TK} {x : Kd} {i j : Int} {ts : List Tr} {b : Bool} {t : Tr} {K : Fg}
theorem HI (hK : K = B.K) (rk : Rk τ x (.lst ts)) (q : Φ (.fz (.int (ts.length : Nat))) τ) : RU B (λ v H Q => ∃ p ys, [v] = [V.ref p] /\ (aZ K H p ys ∨ bq K H p ys) /\ Q (.int (ys.length : Nat)) H) x τ Φ := λ Z F H v Q r a c => by
 subst hK
 obtain ⟨p, vs, rfl, s, l⟩ := rk.list r a
 refine ⟨p, vs, rfl, .inl s, ?_⟩
 rw [l.length]; exact c.pl r .int q
theorem Eb (hK : K = B.K) (rk : Rk τ x (.tup ts)) (q : Φ (.fz (.int (ts.length : Nat))) τ) : RU B (λ v H Q => ∃ p ys, [v] = [V.ref p] /\ (aZ K H p ys ∨ bq K H p ys) /\ Q (.int (ys.length : Nat)) H) x τ Φ := λ Z F H v Q r a c => by
 subst hK
 obtain ⟨p, vs, rfl, s, l⟩ := rk.tuple r a
 refine ⟨p, vs, rfl, .inr s, ?_⟩
 rw [l.length]; exact c.pl r .int q
theorem IP (q : Φ (.fz (.int (if i < 0 then -i else i))) τ) : RU B (λ v H Q => ∃ i, [v] = [V.int i] /\ Q (.int (if i < 0 then -i else i)) H) (.fz (.int i)) τ Φ := λ Z F H v Q r a c => by
 cases bO a
 exact ⟨i, rfl, c.pl r .int q⟩
theorem Ja (q : Φ (.fz (.int (if b = true then 1 else 0))) τ) : RU B (λ v H Q => (∃ i, [v] = [V.int i] /\ Q (.int i) H) ∨ ∃ k, [v] = [V.bl k] /\ Q (.int (if k = true then 1 else 0)) H) (.fz (.bl b)) τ Φ := λ Z F H v Q r a c => by
 cases jw a
 exact .inr ⟨b, rfl, c.pl r .int q⟩
theorem BJ (hK : K = B.K) {bs : List Bool} (rk : Rk τ x (.lst (bs.map Tr.bl))) (q : Φ (.fz (.bl (bs.all λ b => b))) τ) : RU B (λ v H Q => Ie K [v] H Q) x τ Φ := λ Z F H v Q r a c => by
 subst hK
 obtain ⟨p, vs, rfl, s, l⟩ := rk.list r a
 rw [l.bls] at s
 exact ⟨p, bs, rfl, s, c.pl r .bl q⟩
theorem DK (hK : K = B.K) (rk : Rk τ x (.lst ts)) (q : Φ (.nw (.lst ts)) τ) : RU B (λ v H Q => ∃ p ys, [v] = [V.ref p] /\ (aZ K H p ys ∨ bq K H p ys) /\ ∀ l, H l = none -> Q (.ref l) (upd H l (.lst ys))) x τ Φ := λ Z F H v Q r a c => by
 subst hK
 obtain ⟨p, vs, rfl, s, l⟩ := rk.list r a
 exact ⟨p, vs, rfl, .inl s, λ l' hl => c.nl r l hl q⟩
theorem HH (hK : K = B.K) (rk : Rk τ x (.lst ts)) (q : Φ (.fz (.tup ts)) τ) : RU B (λ v H Q => ∃ p ys, [v] = [V.ref p] /\ ((aZ K H p ys /\ ∀ l, H l = none -> Q (.ref l) (upd H l (.tup ys))) ∨ (bq K H p ys /\ Q (.ref p) H))) x τ Φ := λ Z F H v Q r a c => by
 subst hK
 obtain ⟨p, vs, rfl, s, l⟩ := rk.list r a
 exact ⟨p, vs, rfl, .inl ⟨s, λ l' hl => c.nt r l hl q⟩⟩
theorem Dd (q : Φ (.fz (.int (if j > i then j else i))) τ) : RO B (λ v w H Q => ∃ i j, [v, w] = [V.int i, V.int j] /\ Q (.int (if j > i then j else i)) H) (.fz (.int i)) (.fz (.int j)) τ Φ := λ Z F H v w Q r a b c => by
 cases bO a; cases bO b
 exact ⟨i, j, rfl, c.pl r .int q⟩
theorem DV (q : Φ (.fz (.int (if j < i then j else i))) τ) : RO B (λ v w H Q => ∃ i j, [v, w] = [V.int i, V.int j] /\ Q (.int (if j < i then j else i)) H) (.fz (.int i)) (.fz (.int j)) τ Φ := λ Z F H v w Q r a b c => by
 cases bO a; cases bO b
 exact ⟨i, j, rfl, c.pl r .int q⟩
noncomputable def CB : Tr -> Option Tg
 | .non => some .non
 | .bl _ => some .bl
 | .int _ => some .int
 | .str _ => some .str
 | .tup _ => some .tup
 | .lst _ => some .lst
 | .dct _ => some .dic
 | .ty _ => none
theorem Fl {F H : Hp} {v : V} {g : Tg} (i : ah F H) (h : Is K F v t) (e : CB t = some g) : Db K H v g := by
 cases h with
 | tup a b => cases e; exact ⟨_, i.tup a⟩
 | lst a b => cases e; exact ⟨_, i.seq a⟩
 | dct a b c => cases e; exact ⟨_, i _ _ a⟩
 | ty => cases e
 | _ => cases e; trivial
theorem mW (hK : K = B.K) {n : String} {f : Tg -> Bool} {g : Tg} (e : CB t = some g) (q : Φ (.fz (.bl (f g))) τ) : RO B (λ v w H Q => kr K n f [v, w] H Q) (.fz t) (.fz (.ty n)) τ Φ := λ Z F H v w Q r a b c => by
 subst hK
 cases (show Is B.K F w (.ty n) from b)
 exact ⟨v, g, rfl, Fl r.inc a e, c.pl r .bl q⟩
theorem DC (hK : K = B.K) {n : String} {f : Tg -> Bool} {g : Tg} (e : CB t = some g) (hb : f g = true) (q : Φ (.fz (.bl true)) τ) : RO B (λ v w H Q => kr K n f [v, w] H Q) (.fz t) (.fz (.ty n)) τ Φ := mW hK e (by rw [hb]; exact q)
theorem DA (hK : K = B.K) {n : String} {f : Tg -> Bool} {g : Tg} (e : CB t = some g) (hb : f g = false) (q : Φ (.fz (.bl false)) τ) : RO B (λ v w H Q => kr K n f [v, w] H Q) (.fz t) (.fz (.ty n)) τ Φ := mW hK e (by rw [hb]; exact q)
theorem DU (h : t.isN = true) (q : Φ (.fz (.bl true)) τ) : RO B rIsN (.fz t) (.fz .non) τ Φ := zJ (by rw [h]; exact q)
theorem DY (h : t.isN = false) (q : Φ (.fz (.bl false)) τ) : RO B rIsN (.fz t) (.fz .non) τ Φ := zJ (by rw [h]; exact q)
end
theorem JK {α : Type} {l : List α} {n : Nat} {S : Prop} (h : l.length <= n) (q : S) : l.length <= n /\ S := ⟨h, q⟩
noncomputable def fc : List Tr -> List Tr -> List Tr
 | x :: r, y :: q => .tup [x, y] :: fc r q
 | _, _ => []
theorem gX : ∀ xs ys : List Tr, (fc xs ys).length = min xs.length ys.length
 | [], _ => by simp [fc]
 | _ :: _, [] => by simp [fc]
 | _ :: r, _ :: q => by
  simp only [fc, o5, gX r q]
  lia
theorem gz : ∀ (xs ys : List Tr) (i : Nat) (t : Tr), (fc xs ys)[i]? = some t -> ∃ x y, xs[i]? = some x /\ ys[i]? = some y /\ t = .tup [x, y]
 | [], _, _, _, h => by simp [fc] at h
 | _ :: _, [], _, _, h => by simp [fc] at h
 | x :: r, y :: q, 0, t, h => by simp [fc] at h; exact ⟨x, y, rfl, rfl, h.symm⟩
 | _ :: r, _ :: q, i + 1, t, h => by
  obtain ⟨x, y, h1, h2, h3⟩ := gz r q i t (by simpa [fc] using h)
  exact ⟨x, y, by simpa using h1, by simpa using h2, h3⟩
noncomputable def Ig : Tr -> Option (Bool × List Tr)
 | .lst ts => some (false, ts)
 | .tup ts => some (true, ts)
 | _ => none
section
variable {B : Bk} {τ : TSt} {ta tb : TE} {K : Fg}
theorem qY {F H : Hp} {v : V} {t : Tr} {q : Bool} {ts : List Tr} (i : ah F H) (h : Is K F v t) (e : Ig t = some (q, ts)) : ∃ a xs, v = .ref a /\ mI q K H a xs /\ IsL K F xs ts := by
 cases h with
 | lst a b => cases e; exact ⟨_, _, rfl, i.seq a, b⟩
 | tup a b => cases e; exact ⟨_, _, rfl, i.tup a, b⟩
 | _ => cases e
theorem mI.same {q : Bool} {H H' : Hp} {a : Addr} {xs : List V} (s : ah H H') (h : mI q K H a xs) : mI q K H' a xs := by
 cases q with
 | true => exact s.tup h
 | false => exact s.seq h
theorem zu (hK : K = B.K) {Φ : List Tr -> TSt -> Prop} (h : EV B ta τ λ x τ1 => tU x τ1 λ t τ2 => EV B tb τ2 λ y τ3 => tU y τ3 λ u τ4 => ∃ q1 ts q2 us, Ig t = some (q1, ts) /\ Ig u = some (q2, us) /\ Φ (fc ts us) τ4) : IV B (Js K (bW ta (bW tb tNil))) τ Φ := λ Z F H R r c => by
 subst hK
 refine h Z F H _ r λ v F1 H1 k τ1 f1 r1 ok1 n1 h1 => ?_
 obtain ⟨F2, t, τ2, f2, r2, i2, h2, _⟩ := eT f1 r1 ok1 n1 h1
 refine h2 Z F2 H1 _ r2 λ w F3 H3 k3 τ3 f3 r3 ok3 n3 h3 => ?_
 obtain ⟨F4, u, τ4, f4, r4, i4, ⟨q1, ts, q2, us, e1, e2, h4⟩, _⟩ := eT f3 r3 ok3 n3 h3
 obtain ⟨a1, xs, rfl, s1, l1⟩ := qY r4.inc (i2.same f4.f) e1
 obtain ⟨a2, ys, rfl, s2, l2⟩ := qY r4.inc i4 e2
 obtain ⟨_, _, ea, s1', l1'⟩ := qY (ah.refl F4) (i2.same f4.f) e1
 cases ea
 obtain ⟨_, _, eb, s2', l2'⟩ := qY (ah.refl F4) i4 e2
 cases eb
 refine ⟨q1, q2, a1, a2, rfl, ⟨xs, s1⟩, ⟨ys, s2⟩, c _ F4 H3 _ τ4 (f2.trans f4) r4 (λ σ' τ' F' H' sF rH => ⟨λ i t e => ?_, ?_⟩) h4⟩
 ·obtain ⟨x0, y0, ex, ey, rfl⟩ := gz ts us i t e
  obtain ⟨w1, ew1, hw1⟩ := l1'.get ex
  obtain ⟨w2, ew2, hw2⟩ := l2'.get ey
  have t1 := mI.same rH.inc (mI.same sF s1')
  have t2 := mI.same rH.inc (mI.same sF s2')
  refine ⟨⟨_, _, w1, w2, t1, t2, ew1, ew2⟩, ?_⟩
  rintro x H2 ⟨p, y1, y2, rfl, hn, hy1, hy2, rfl⟩
  have g1 := hy1 _ t1
  have g2 := hy2 _ t2
  rw [ew1] at g1
  rw [ew2] at g2
  cases g1
  cases g2
  have u := rH.tup (vs := [w1, w2]) hn
  exact ⟨_, u, .tup (bq.of ar) (.cons ((hw1.same sF).same u.f) (.cons ((hw2.same sF).same u.f) .nil))⟩
 ·refine ⟨_, _, mI.same rH.inc (mI.same sF s1'), mI.same rH.inc (mI.same sF s2'), ?_⟩
  rw [l1'.length, l2'.length, gX]
  lia
end
section
variable {B : Bk} {τ τ' : TSt} {Φ : TK} {x y : Kd} {ts us : List Tr} {K : Fg}
theorem gU (hK : K = B.K) (r1 : Rk τ x (.lst ts)) (r2 : Rk τ y (.lst us)) (hl : ts.length + us.length <= 100000) (q : Φ (.nw (.lst (ts ++ us))) τ) : RO B (FM K) x y τ Φ := λ _ _ _ _ _ _ r a b c => by
 subst hK
 obtain ⟨p, vs, rfl, s, l⟩ := r1.list r a
 obtain ⟨p2, ws, rfl, s2, l2⟩ := r2.list r b
 exact ⟨p, p2, vs, ws, rfl, rfl, s, s2, by rw [l.length, l2.length]; exact n9 hl (by decide), λ p' hp => c.nl r (l.app l2) hp q⟩
theorem Rk.isT {F H : Hp} {Z : St} {v : V} (h : Rk τ x (.tup ts)) (r : Rp B F H Z τ) (ok : ga B.K F Z v x) : Is B.K F v (.tup ts) := by
 cases h with
 | fz => exact ok
 | own g => obtain ⟨l, e, hw, _⟩ := r.ow _ _ g.eq; cases hw
 | vw g => obtain ⟨l, e, hw, _⟩ := r.vw _ _ g.eq; cases hw
 | sfz g =>
  obtain ⟨w, e, hi⟩ := r.fz _ _ g.eq
  cases aE e ok
  exact hi
theorem xz (hK : K = B.K) (r1 : Rk τ x (.tup ts)) (r2 : Rk τ y (.tup us)) (hn : ts ≠ []) (hl : ts.length + us.length <= 100000) (q : Φ (.fz (.tup (ts ++ us))) τ) : RO B (Fj K) x y τ Φ := λ _ F H v w Q r a b c => by
 subst hK
 have i1 := r1.isT r a
 obtain ⟨p, vs, rfl, s, l⟩ := r1.tuple r a
 obtain ⟨p2, ws, rfl, s2, l2⟩ := r2.tuple r b
 refine ⟨p, p2, vs, ws, rfl, rfl, s, s2, λ e => ?_, by rw [l.length, l2.length]; exact n9 hl (by decide), λ e => ?_, λ _ p' hp => c.nt r (l.app l2) hp q⟩
 ·subst e
  cases l
  exact hn rfl
 ·subst e
  cases l2
  rw [vM] at q
  exact c.pl r i1 q
end
inductive Dp : Nat -> Tr -> Prop
 | non {n : Nat} : Dp n .non
 | bl {n : Nat} {b : Bool} : Dp n (.bl b)
 | int {n : Nat} {i : Int} : Dp n (.int i)
 | str {n : Nat} {x : Str} : Dp n (.str x)
 | tup {n : Nat} {ts : List Tr} : (∀ t ∈ ts, Dp n t) -> Dp (n + 1) (.tup ts)
 | lst {n : Nat} {ts : List Tr} : (∀ t ∈ ts, Dp n t) -> Dp (n + 1) (.lst ts)
 | dct {n : Nat} : Dp n (.dct [])
variable {n : Nat}
theorem eU : ∀ t ∈ ([] : List Tr), Dp n t := λ _ h => absurd h mV
theorem aG {t : Tr} {r : List Tr} (h : Dp n t) (g : ∀ t ∈ r, Dp n t) : ∀ u ∈ t :: r, Dp n u := rm.mpr ⟨h, g⟩
theorem sC {K : Fg} {F G H : Hp} {t : Tr} (d : Dp n t) : ∀ {v w : V}, ah F H -> ah G H -> Is K F v t -> Is K G w t -> fi K H n v w := by
 induction d with
 | non => intro v w i j a b; cases a; cases b; exact .non
 | bl => intro v w i j a b; cases a; cases b; exact .bl
 | int => intro v w i j a b; cases a; cases b; exact .int
 | str => intro v w i j a b; cases a; cases b; exact .str
 | dct =>
  intro v w i j a b
  cases a with
  | @dct p kvs _ h1 k1 _ =>
   cases b with
   | @dct q kvs' _ h2 k2 _ =>
    cases kvs with
    | cons _ _ => cases k1
    | nil =>
     cases kvs' with
     | cons _ _ => cases k2
     | nil => exact .dct (i _ _ h1) (j _ _ h2)
 | tup _ ih =>
  intro v w i j a b
  cases a with
  | tup s1 l1 =>
   cases b with
   | tup s2 l2 =>
    refine .tup (i.tup s1) (j.tup s2) (by rw [l1.length, l2.length]) λ k x y hx hy => ?_
    obtain ⟨t1, e1, h1⟩ := l1.get2 hx
    obtain ⟨t2, e2, h2⟩ := l2.get2 hy
    rw [e1] at e2
    cases e2
    exact ih t1 (j4 e1) i j h1 h2
 | lst _ ih =>
  intro v w i j a b
  cases a with
  | lst s1 l1 =>
   cases b with
   | lst s2 l2 =>
    refine .lst (i.seq s1) (j.seq s2) (by rw [l1.length, l2.length]) λ k x y hx hy => ?_
    obtain ⟨t1, e1, h1⟩ := l1.get2 hx
    obtain ⟨t2, e2, h2⟩ := l2.get2 hy
    rw [e1] at e2
    cases e2
    exact ih t1 (j4 e1) i j h1 h2
section
variable {B : Bk} {τ τ' : TSt} {Φ : TK} {x y : Kd} {ts us : List Tr} {K : Fg} {b : Bool}
theorem rc {z : Str} : ∀ {ws : List Str}, Jh (.str z) (ws.map V.str) = decide (z ∈ ws)
 | [] => rfl
 | x :: r => by
  have ih := rc (z := z) (ws := r)
  unfold Jh at ih ⊢
  rw [kw, List.any_cons, ih]
  show ((x == z) || decide (z ∈ r)) = _
  by_cases h : x = z
  ·subst h; simp
  ·have h1 : (x == z) = false := by simpa using h
   rw [h1, Bool.false_or]
   by_cases k : z ∈ r
   ·rw [j6 k, j6 (n8 _ k)]
   ·rw [i8 k, i8 (λ q => (j8.mp q).elim (λ e => h e.symm) k)]
theorem gD : ∀ {ws : List Str}, (ws.map V.str).all dv = true
 | [] => rfl
 | _ :: _ => by rw [kw, List.all_cons, gD]; rfl
theorem Cu (hK : K = B.K) {ws : List Str} {z : Str} (r2 : Rk τ y (.lst (ws.map Tr.str))) (q : Φ (.fz (.bl (!decide (z ∈ ws)))) τ) : RO B (LM K true) (.fz (.str z)) y τ Φ := λ Z F H v w Q r a b c => by
 subst hK
 cases fF a
 obtain ⟨p, vs, rfl, s, l⟩ := r2.list r b
 rw [l.strs] at s
 refine ⟨p, _, rfl, .inl s, rfl, gD, ?_⟩
 rw [rc]; exact c.pl r .bl q
def vB (ws : List Str) (z : Str) : Option Nat := ws.findIdx? λ x => decide (x = z)
variable {z : Str}
theorem lq {ws : List Str} {j : Nat} (h : vB ws z = some j) : ws[j]? = some z /\ ∀ i u, i < j -> ws[i]? = some u -> u ≠ z := by
 unfold vB at h
 rw [List.findIdx?_eq_some_iff_getElem] at h
 obtain ⟨hl, e, hb⟩ := h
 have e : ws[j] = z := by simpa using e
 refine ⟨by rw [dM hl, e], λ i x hi hx => ?_⟩
 have := hb i hi
 obtain ⟨_, ex⟩ := j3.mp hx
 rw [ex] at this
 simpa using this
theorem xa {ws : List Str} (h : z ∈ ws) : ∃ j, vB ws z = some j := by
 have a : (vB ws z).isSome = true := by
  unfold vB
  rw [List.findIdx?_isSome]
  exact List.any_eq_true.mpr ⟨z, h, j6 rfl⟩
 exact Option.isSome_iff_exists.mp a
theorem AI (hK : K = B.K) {ws : List Str} {z : Str} {j : Nat} (rk : Rk τ x (.lst (ws.map Tr.str))) (h : vB ws z = some j) (q : Φ (.fz (.int (j : Nat))) τ) : RM B (qR K) x [.str z] τ Φ := λ Z F H v vs Q r a l c => by
 subst hK
 obtain ⟨p, ws', rfl, s, l2⟩ := rk.list r a
 rw [l2.strs] at s
 cases l with
 | cons h1 l =>
  cases l
  cases h1
  obtain ⟨e1, e2⟩ := lq h
  refine ⟨p, _, .str z, .str z, j, rfl, rfl, s, rfl, gD, by rw [jb, e1]; rfl, show (z == z) = true by simp, λ i u hi hu => ?_, c.pl r .int q⟩
  rw [jb] at hu
  cases ew : ws[i]? with
  | none => rw [ew] at hu; cases hu
  | some y =>
   rw [ew] at hu
   cases hu
   have := e2 i y hi ew
   show (y == z) = false
   simpa using this
theorem IC (hK : K = B.K) {f : Bool -> Bool} (r1 : Rk τ x (.lst ts)) (r2 : Rk τ y (.lst [])) (q : Φ (.fz (.bl (f ts.isEmpty))) τ) : RO B (Ko K f) x y τ Φ := λ Z F H v w Q r a b c => by
 subst hK
 obtain ⟨p, vs, rfl, s, l⟩ := r1.list r a
 obtain ⟨p2, ws, rfl, s2, l2⟩ := r2.list r b
 cases l2
 refine ⟨p, p2, vs, rfl, rfl, s, s2, ?_⟩
 have e : vs.isEmpty = ts.isEmpty := by cases l <;> rfl
 rw [e]; exact c.pl r .bl q
theorem wU {n : Int} (h0 : 0 <= n) (h1 : n <= 1000) (hz : z.length <= 1000) (q : Φ (.fz (.str (iX z n))) τ) : RO B rRepS (.fz (.str z)) (.fz (.int n)) τ Φ := λ Z F H v w Q r a b c => by
 cases fF a
 cases bO b
 exact ⟨z, n, rfl, rfl, h0, h1, hz, c.pl r .str q⟩
theorem Cj {tA : TA} {n : Int} (h0 : 0 <= n) (h1 : n <= 1000) (h : Dy B tA τ λ ts τ1 => ts.length <= 1000 /\ Φ (.nw (.lst (List.replicate n.toNat ts).flatten)) τ1) : EV B (xT rRep (CU tA) (tC (.int n))) τ Φ := λ Z F H Q r c => by
 refine h Z F H _ r λ vs F1 H1 ts τ1 f1 r1 l1 ⟨hl, h2⟩ => ⟨by rw [l1.length]; exact n9 hl (by decide), λ p hp => ?_⟩
 have u := r1.new (o := .lst vs) hp
 refine ⟨p, n, vs, rfl, rfl, ar, by lia, by lia, n9 (Nat.mul_le_mul (show vs.length <= 1000 by rw [l1.length]; exact hl) (show n.toNat <= 1000 by lia)) (by decide), λ p' hp' => ?_⟩
 refine (c.on (f1.trans (Fr.up u))).nl (r1.go u) ?_ hp' h2
 generalize n.toNat = m
 induction m with
 | zero => exact .nil
 | succ m ih => rw [vF, vF, List.flatten_cons, List.flatten_cons]; exact l1.app ih
theorem xE (hK : K = B.K) {te : TE} (h : EV B te τ λ x τ1 => um x τ1 λ x τ1 => ∃ t g b, x = .fz t /\ CB t = some g /\ (g.isTup || g.isLst) = b /\ Φ (.fz (.bl b)) τ1) : EV B (Ic (Bj K) (bW te (bW (AN (bW (tC (.ty "tuple")) (bW (tC (.ty "list")) tNil))) tNil))) τ Φ := λ Z F H Q rp c => by
 subst hK
 refine h Z F H _ rp λ v F1 H1 k τ1 f1 r1 ok1 n1 h1 => ?_
 obtain ⟨F2, k', f2, r2, ok2, ⟨t, g, b, e1, e2, e3, φ⟩, _⟩ := dh f1 r1 ok1 n1 h1
 subst e1
 subst e3
 refine ⟨by decide, λ p hp => ?_⟩
 have u := r2.tup (vs := [.ty "tuple", .ty "list"]) hp
 refine ⟨v, g, p, rfl, bq.of ar, Fl (r2.go u).inc (Is.same u.f ok2) e2, ?_⟩
 exact (c.on (f2.trans (Fr.up u))).pl (r2.go u) .bl φ
theorem Hz {t : Tr} {g : Tg} {S : Bool -> Prop} (e : CB t = some g) (h : (g.isTup || g.isLst) = true) (q : S true) : ∃ t' g' b, Kd.fz t = .fz t' /\ CB t' = some g' /\ (g'.isTup || g'.isLst) = b /\ S b := ⟨t, g, true, rfl, e, h, q⟩
theorem HA {t : Tr} {g : Tg} {S : Bool -> Prop} (e : CB t = some g) (h : (g.isTup || g.isLst) = false) (q : S false) : ∃ t' g' b, Kd.fz t = .fz t' /\ CB t' = some g' /\ (g'.isTup || g'.isLst) = b /\ S b := ⟨t, g, false, rfl, e, h, q⟩
end
variable {F : Hp} {vs : List V} {t : Tr}
theorem JZ {K : Fg} {u : Tr} (h : IsL K F vs [t, u]) : ∃ v w, vs = [v, w] /\ Is K F v t /\ Is K F w u := by
 cases h with
 | cons a b =>
  cases b with
  | cons b c => cases c; exact ⟨_, _, rfl, a, b⟩
variable {B : Bk}
theorem MZ (h : ge B F vs [.fz t]) : ∃ v, vs = [v] /\ Is B.K F v t := by
 cases h with
 | cons a b => cases b; exact ⟨_, rfl, a⟩
theorem Hg {u : Tr} (h : ge B F vs [.fz t, .fz u]) : ∃ v w, vs = [v, w] /\ Is B.K F v t /\ Is B.K F w u := by
 cases h with
 | cons a b =>
  cases b with
  | cons b c => cases c; exact ⟨_, _, rfl, a, b⟩
noncomputable def addT (F H : Hp) : Hp := λ p => match F p with
 | some o => some o
 | none => match H p with
  | some (.tup xs) => some (.tup xs)
  | some (.frz o (.tup xs)) => some (.frz o (.tup xs))
  | _ => none
variable {H : Hp}
theorem kc {p : Addr} {o : HO} (h : addT F H p = some o) : F p = some o ∨ (F p = none /\ H p = some o /\ ¬ Mb o) := by
 unfold addT at h
 cases e : F p with
 | some o' => rw [e] at h; exact .inl h
 | none =>
  rw [e] at h
  refine .inr ⟨rfl, ?_⟩
  cases e2 : H p with
  | none => rw [e2] at h; cases h
  | some o2 =>
   rw [e2] at h
   cases o2 with
   | tup xs => cases h; exact ⟨rfl, λ z => z⟩
   | frz o3 u =>
    cases u with
    | tup xs => cases h; exact ⟨rfl, λ z => z⟩
    | _ => cases h
   | _ => cases h
theorem upT {H' : Hp} (k : qc B) (hF : B.F0 = F) (hH : B.H0 = H) (s : ah H H') : Up B F H (addT F H') H' where
 f := λ b o e => by unfold addT; rw [e]
 h := λ p o _ e => s p o e
 i := λ p o e => by
  rcases kc e with e | ⟨_, e, _⟩
  ·exact s p o (by rw [<- hH]; exact k.i p o (by rw [hF]; exact e))
  ·exact e
 m := λ p o hp mb n => by
  cases e : addT F H' p with
  | none => rfl
  | some o2 =>
   rcases kc e with e | ⟨_, e, nm⟩
   ·rw [n] at e; cases e
   ·have := s p o hp
    rw [this] at e
    cases e
    exact (nm mb).elim
 w := λ p e => s.free e
 x := λ p hw n => by
  cases e : addT F H' p with
  | none => rfl
  | some o2 =>
   rcases kc e with e | ⟨_, e, nm⟩
   ·rw [n] at e; cases e
   ·obtain ⟨o, ho, mb⟩ := B.jm H' p (B.jl H H' (λ p hw => by
     cases e : H p with
     | none => exact absurd (by rw [hH]; exact e) (k.wa p hw)
     | some o => rw [s p o e]) (λ p φ z => s p _ z) (by rw [<- hH]; exact k.wj)) hw
    rw [ho] at e
    cases e
    exact (nm mb).elim
 j := λ h => B.jl _ _ (λ p hw => by
  cases e : H p with
  | none => exact absurd (by rw [hH]; exact e) (k.wa p hw)
  | some o => rw [s p o e]) (λ p φ z => s p _ z) h
theorem bq.addT {K : Fg} {p : Addr} {xs : List V} (i : ah F H) (h : bq K H p xs) : bq K (addT F H) p xs := by
 rcases h with (h | ⟨o, h⟩) | h
 ·refine .inl (.inl ?_)
  unfold L2.addT
  cases e : F p with
  | some o => exact (i p o e).symm.trans h
  | none => show (match H p with | some (.tup xs) => some (HO.tup xs) | some (.frz o (.tup xs)) => some (HO.frz o (.tup xs)) | _ => none) = _; rw [h]
 ·refine .inl (.inr ⟨o, ?_⟩)
  unfold L2.addT
  cases e : F p with
  | some o2 => exact (i p o2 e).symm.trans h
  | none => show (match H p with | some (.tup xs) => some (HO.tup xs) | some (.frz o (.tup xs)) => some (HO.frz o (.tup xs)) | _ => none) = _; rw [h]
 ·exact .inr h
structure wW (B : Bk) (F H : Hp) (p a b : Addr) (ts us : List Tr) : Prop where
 sp : bq B.K F p [.ref a, .ref b]
 oa : Ow B.K F H a (.lst ts)
 ob : Ow B.K F H b (.lst us)
 fa : F a = none
 fb : F b = none
 na : B.H0 a = none
 nb : B.H0 b = none
 ne : a ≠ b
noncomputable abbrev SpR := Bk -> List Ar -> (List Tr -> List Tr -> Prop) -> Prop
def rP (K : Fg) (S : SpR) : Sp := λ vs H Q _ => ∃ B as Φ, B.K = K /\ B.H0 = H /\ qc B /\ ge B B.F0 vs as /\ S B as Φ /\ ∀ p a b F' H' ts us, Up B B.F0 H F' H' -> wW B F' H' p a b ts us -> Φ ts us -> Q (.ref p) H'
theorem yE {K : Fg} {S : SpR} {n : Nat} (hn : ∀ B as Φ, S B as Φ -> as.length = n) : ∀ vs H Q E, rP K S vs H Q E -> vs.length = n := λ vs H Q E h => by
 obtain ⟨B, as, Φ, _, _, _, l, s, _⟩ := h
 rw [l.length]; exact hn B as Φ s
def Hu (B : Bk) (D : eQ) (t : TS) (τ : TSt) : Prop := ∀ Z F H, Rp B F H Z τ -> t D Z H
def Lc (B : Bk) (D : eQ) (Φ : List Tr -> List Tr -> Prop) : Prop := ∀ p a b F' H' ts us, Up B B.F0 B.H0 F' H' -> wW B F' H' p a b ts us -> Φ ts us -> D.rt (.ref p) H'
theorem vY {K : Fg} {S : SpR} {vs : List V} {H : Hp} {Q : VK} {E : XK} (h : rP K S vs H Q E) : ∃ B as Φ, B.K = K /\ S B as Φ /\ ∀ (N : List Str) (t : TS), (∀ D, Lc B D Φ -> Hu B D t (dS N.length as)) -> t { nx := λ _ H' => Q .non H', rt := Q } (cV N vs) H := by
 obtain ⟨B, as, Φ, hK, rfl, k, l, s, q⟩ := h
 exact ⟨B, as, Φ, hK, s, λ N t sv => sv _ (λ p a b F' H' ts us u r φ => q p a b F' H' ts us u r φ) _ _ _ (mH k l)⟩
section
variable {B : Bk} {τ : TSt} {s1 s2 : TS} {D : eQ} {i j : Nat} {ts us : List Tr}
theorem jg (h : SV B s1 τ ⟨λ τ' => Hu B D s2 τ', λ _ => False, λ _ => False, λ _ => False⟩) : Hu B D (ke s1 s2) τ := λ Z F H r =>
 h Z F H _ r ⟨λ σ' F' H' τ' _ r' h' => h' σ' F' H' r', λ _ _ _ _ _ _ z => z.elim, λ _ _ _ _ _ _ z => z.elim, λ _ _ _ _ _ _ z => z.elim⟩
theorem Gh {Φ : List Tr -> List Tr -> Prop} (hD : Lc B D Φ) (g : Gt τ i (.own (.lst ts))) (g2 : Gt τ j (.own (.lst us))) (hij : i ≠ j) (φ : Φ ts us) : Hu B D (AM (AN (bW (gN i) (bW (gN j) tNil)))) τ := λ Z F H r => by
 obtain ⟨a, ea, oa, fa, na⟩ := r.ow i _ g.eq
 obtain ⟨b, eb, ob, fb, nb⟩ := r.ow j _ g2.eq
 have ne : a ≠ b := λ e => r.ap i j _ _ a g.eq g2.eq hij ea (by rw [e]; exact eb)
 refine ⟨.ref a, ea, .ref b, eb, show 2 <= sizeLine by decide, λ p hp => ?_⟩
 have u := r.tup (vs := [.ref a, .ref b]) hp
 obtain ⟨o1, h1, m1⟩ := oa.mb
 obtain ⟨o2, h2, m2⟩ := ob.mb
 exact hD p a b _ _ ts us (r.up.trans u) ⟨bq.of ar, oa.to u.f (λ o => u.h a o λ hw => r.wa a hw na), ob.to u.f (λ o => u.h b o λ hw => r.wa b hw nb), u.m a o1 h1 m1 fa, u.m b o2 h2 m2 fb, na, nb, ne⟩ φ
end
def Kh (K : Fg) (F H : Hp) (p : Addr) (l : List (Addr × List V)) : Bk where
 K := K
 F0 := F
 H0 := H
 W := λ q => ∃ vs, (q, vs) ∈ l
 J := λ H' => ∀ x ∈ l, H' x.1 = some (.lst x.2)
 rt := p
 jl := λ H H' e _ h x hx => by rw [<- e x.1 ⟨x.2, hx⟩]; exact h x hx
 jm := λ H q h hw => by
  obtain ⟨vs, hx⟩ := hw
  exact ⟨_, h _ hx, trivial⟩
section
variable {B : Bk} {τ : TSt} {Z : St} {F H F' H' : Hp} {p : Addr} {l : List (Addr × List V)} {k : Nat} {D : eQ} {s2 : TS} {B' : Bk} {a b : Addr} {ws : List V} {ts us ms : List Tr}
theorem BA {K : Fg} {H : Hp} {a : Addr} {ns : List Int} {Q : VK} (hS : aZ K H a (ns.map V.int)) (q : ∀ H', Q (.bl true) H') (N : List Str) (t : TS) (h : ∀ D : eQ, (∀ H', D.rt (.bl true) H') -> Hu (Kh K H H a []) D t (dS N.length [.fz (.lst (ns.map Tr.int))])) : t { nx := λ _ H' => Q .non H', rt := Q } (cV N [.ref a]) H :=
 h _ q _ H H (mH (B := Kh K H H a []) ⟨ah.refl _, λ q hw => (by obtain ⟨_, hx⟩ := hw; exact absurd hx mV), λ q hw => (by obtain ⟨_, hx⟩ := hw; exact absurd hx mV), λ x hx => absurd hx mV⟩ (.cons (a := .fz _) (.lst hS (IsL.ofInts ns)) .nil))
end
theorem xS (l b : Addr) (xs ys : Array Value) (k m : Nat) (d1 d2 : Option Addr) (s1 s2 : Array (Option Value)) (he : xs.isEmpty = true) :
  Meets (Builtin.«tuple.__add__» ⟨[.ref l, .ref b], []⟩) (λ _ R s => s.heap.get? l = some { cls := .type "tuple", dict := d1, data := .seq xs k, slots := s1 }
   /\ s.heap.get? b = some { cls := .type "tuple", dict := d2, data := .seq ys m, slots := s2 } /\ R (.ok (.ret (Value.ref b))) { s with heap := s.heap, toks := s.toks }) :=
 .of_wp λ prog w A R s h => by
  obtain ⟨hp, g, d, tk, os⟩ := s
  obtain ⟨hl, hb, h⟩ := h
  have q1 := AutoSeq1.idx_int
  have q2 := AutoSeq1.sub_tuple_tuple
  have q3 := AutoSeq1.sub_list_list
  have q4 := AutoSeq1.sub_tuple_list
  have q5 := AutoSeq1.sub_list_tuple
  wp_walk using wpAny_loadPart' hl, wpAny_loadPart' hb
  exact ⟨_, rfl, h⟩
def KI (K : Fg) : R2 := λ x y H Q => ∃ a b xs ys, x = .ref a /\ y = .ref b /\ bq K H a xs /\ bq K H b ys /\ xs.length + ys.length <= sizeLine /\
 (xs = [] -> Q (.ref b) H) /\ (xs ≠ [] -> ys = [] -> Q (.ref a) H) /\ (xs ≠ [] -> ys ≠ [] -> ∀ p, H p = none -> Q (.ref p) (upd H p (.tup (xs ++ ys))))
theorem Ed {X : Cx} : gd X (binaryOp .Add) (KI X.K) := by
 intro pins s Z H x y v u Q I rx ry h
 obtain ⟨a, b, xs, ys, e1, e2, ha, hb, hz, q0, q1, q2⟩ := h
 by_cases hx : xs = []
 ·subst e1 e2
  cases rx
  cases ry
  obtain ⟨us, r1, p1, _⟩ := I.tuple ha
  obtain ⟨ws, r2, p2, _⟩ := I.tuple hb
  obtain ⟨⟨c1, d1, b1, s1⟩, o1, hc1, n1, hd1⟩ := id p1
  obtain ⟨⟨c2, d2, b2, s2⟩, o2, hc2, n2, hd2⟩ := id p2
  simp only at hc1 hd1 hc2 hd2
  subst hc1 hd1 hc2 hd2
  have hu : us = [] := r1.nil_iff.mpr hx
  exact concat_meets ⟨_, o1, rfl⟩ ⟨_, o2, rfl⟩ noFill_tuple_add seq_tuple_add PySem.F.slot_tuple_add PySem.F.entry_tuple_add (PySem.F.args_tuple_add_2 _ _)
   (xS a b us.toArray ws.toArray n1 n2 d1 d2 s1 s2 (by simp [hu])) ⟨o1, o2, .ref b, H, I, rfl, q0 hx⟩
 ·exact wO pins s Z H x y v u Q I rx ry ⟨a, b, xs, ys, e1, e2, ha, hb, hx, hz, q1 hx, q2 hx⟩
end L2
namespace L2
open PySem PySem.Spec PyProof.Rows PySem.W
structure uK (X : Cx) (H : Hp) (it : Addr) : Prop where
 n : H it = none
 l : it ≠ X.env.locals
 f : it ∉ X.fs
 a : X.s₀.heap.objs.size <= it
 c : ∀ x c, X.env.cells.lookup x = some c -> c ≠ it
 p : ∀ p ∈ X.pn, p.1 ≠ it
section
variable {X : Cx} {pins : Pn} {Z : St} {H : Hp} {s : Shared}
theorem Inv.mine (I : Inv X pins Z H s) {it : Addr} (h : s.heap.objs.size <= it) : uK X H it where
 n := I.hok.fresh h
 l := Nat.ne_of_gt (mv I.lt h)
 f := I.nofs h
 a := n9 I.sz h
 c := λ x c e z => by
  obtain ⟨v, o, ho, _⟩ := I.cell x c e
  exact absurd (z ▸ j5 ho) (Nat.not_lt_of_le h)
 p := λ p hp z => absurd (z ▸ j5 (I.pin p (List.mem_append_left _ hp)).1) (Nat.not_lt_of_le h)
theorem Inv.old (I : Inv X pins Z H s) {it : Addr} (h : s.heap.objs.size <= it) : ∀ p ∈ pins, p.1 ≠ it := λ p hp z => absurd (z ▸ j5 (I.pin p (j9 _ hp)).1) (Nat.not_lt_of_le h)
theorem Inv.repin {pins' : Pn} {it : Addr} {o' : Obj} {h' : Heap} {t' : Nat} (I : Inv X pins Z H s) (m : uK X H it) (k : ∀ b o, b ≠ it -> s.heap.get? b = some o -> h'.get? b = some o)
  (e : h'.get? it = some o') (d : ∀ v, o'.data ≠ .cell v) (hq : ∀ p ∈ pins', p = (it, o') ∨ (p ∈ pins /\ p.1 ≠ it)) : Inv X pins' Z H { s with heap := h', toks := t' } := by
 have I1 := ((I.pins_of (pins' := []) (λ _ z => nomatch z)).turned (h' := h') (t' := t') k m.n m.l (.inr m.a) m.c (λ p z => m.p p (by simpa using z)))
 refine I1.pins_of λ p z => ?_
 rcases hq p z with rfl | ⟨q, ne⟩
 ·exact ⟨e, m.n, m.l, m.f, d⟩
 ·obtain ⟨a1, a2, a3, a4, a5⟩ := I.pin p (j9 _ q)
  exact ⟨k _ _ ne a1, a2, a3, a4, a5⟩
theorem Inv.pushed {o' : Obj} {t' : Nat} (I : Inv X pins Z H s) (hf : o'.isFreed = false) (d : ∀ v, o'.data ≠ .cell v) : Inv X ((s.heap.objs.size, o') :: pins) Z H { s with heap := s.heap.push o', toks := t' } := by
 have m := I.mine (jo _)
 have I1 : Inv X pins Z H { s with heap := s.heap.push o', toks := t' } := I.kept (t' := t') (h' := s.heap.push o') λ b u e => e9 _ e
 refine I1.pins_of λ p z => ?_
 rcases j8.mp z with rfl | z
 ·exact ⟨m8 _ hf, m.n, m.l, m.f, d⟩
 ·exact I1.pin p (j9 _ z)
theorem Inv.trackL {a : Addr} {o : HO} (I : Inv X pins Z H s) (m : uK X H a) (hp : ∀ p ∈ pins, p.1 ≠ a) (new : cA X.prog X.w (upd H a o) s.heap a o) : Inv X pins Z (upd H a o) s := by
 have ne : ∀ {b : Addr} {u : HO}, H b = some u -> b ≠ a := λ e => cH e m.n
 refine I.step (h' := s.heap) (g' := s.gens) (d' := s.drawn) (t' := s.toks) (ch := [a]) (λ b hb => ?_) (λ _ _ _ _ _ e _ => e) (λ b o _ _ _ e _ => ⟨o.slots, e⟩) (λ b _ hc _ n => by rw [am (λ z => hc (by simp [z]))]; exact n)
  (λ b o _ e => ⟨o, e⟩) (λ b _ e => by rw [am (ne e)]; exact e) (λ b _ _ e => by rw [am (ne e)]; exact e) (λ b ps e => ⟨#[], by rw [am (ne e), e]; simp⟩) (λ _ z => z) (λ b u e => ?_) I.bare
 ·obtain rfl : b = a := by simpa using hb
  exact ⟨.inr m.a, m.l, m.c, λ p z => (uD.mp z).elim (m.p p) (hp p)⟩
 ·by_cases z : b = a
  ·subst z; rw [ar] at e; cases e; exact new
  ·rw [am z] at e
   exact (I.hok b u e).stay (λ _ _ _ q => q) (λ c q => by rw [am (ne q)]; exact q) λ c xs q => by rw [am (ne q)]; exact q
end
theorem wq {α β : Type} {F : α -> β -> Prop} : ∀ {l₁ : List α} {l₂ : List β} {i : Nat} {b : β}, Paired F l₁ l₂ -> l₂[i]? = some b -> ∃ a, l₁[i]? = some a /\ F a b
 | _, _, _, _, .nil, e => by simp at e
 | _, _, 0, _, .cons h _, e => by simp at e; subst e; exact ⟨_, rfl, h⟩
 | _, _, i + 1, b, .cons _ r, e => by
  obtain ⟨a, h1, h2⟩ := wq (i := i) (b := b) r (by simpa using e)
  exact ⟨a, by simpa using h1, h2⟩
theorem qJ {α β : Type} {F : α -> β -> Prop} {l m : List β} (p : l.Perm m) : ∀ {m' : List α}, Paired F m' m -> ∃ l' : List α, l'.Perm m' /\ Paired F l' l := by
 induction p with
 | nil => intro m' h; cases h; exact ⟨[], .nil, .nil⟩
 | cons x _ ih =>
  intro m' h
  cases h with
  | cons h1 h2 =>
   obtain ⟨l', a, b⟩ := ih h2
   exact ⟨_ :: l', a.cons _, .cons h1 b⟩
 | swap x y l =>
  intro m' h
  cases h with
  | cons h1 h2 =>
   cases h2 with
   | cons h3 h4 => exact ⟨_, .swap _ _ _, .cons h3 (.cons h1 h4)⟩
 | trans _ _ ih1 ih2 =>
  intro m' h
  obtain ⟨l2, a2, b2⟩ := ih2 h
  obtain ⟨l1, a1, b1⟩ := ih1 b2
  exact ⟨l1, a1.trans a2, b1⟩
section
variable {X : Cx} {pins : Pn} {Z : St} {H : Hp} {s : Shared} {A : Around} {f : Value} {b : Bool} {vs : List Value} {kz : List Int} {kS a : Addr} {e1 : Nat} {R : PySem.Fin -> Shared -> Prop} {E : Value -> Shared -> Prop}
theorem qC {xs : Array Value} {n : Nat} : ∀ v, (seqObj "list" xs n).data ≠ .cell v := λ _ z => by cases z
end
end L2
namespace L2
open PySem PySem.Spec PyProof.Rows PySem.W PySem.Calls
theorem gW : bootBuiltins "sorted" = some (.builtin "sorted") := by decide +kernel
def FF (K : Fg) : List V -> Hp -> VK -> Prop := λ xs H Q => ∃ (p : Addr) (ns : List Int), xs = [.ref p] /\ aZ K H p (ns.map V.int) /\ ns.length < 64 /\ ∀ (l : Addr) (ms : List Int), H l = none -> ms.Perm ns -> ms.Pairwise (· <= ·) -> Q (.ref l) (upd H l (.lst (ms.map V.int)))
theorem tY : ∀ {ns : List Int} {us : List Value}, aM (ns.map V.int) us -> IntsAre us ns
 | [], _, .nil => .nil
 | _ :: _, _, .cons h t => by
  obtain ⟨tk, rfl⟩ := h
  exact .cons _ tk (tY t)
section
variable {X : Cx}
theorem xU : cz X (.builtin "sorted") (FF X.K) := by
 intro pins s Z H xs us Q I r h
 obtain ⟨p, ns, rfl, hq, h64, q⟩ := h
 obtain ⟨u, rfl, ru⟩ := r.one
 cases ru
 obtain ⟨its, v, pl, _⟩ := I.list hq
 have el : its.length = ns.length := by rw [<- v.length, cI]
 refine sorted_ints (PlainL.isList pl) (tY v) (by lia) λ out ms a1 a2 a3 => ?_
 obtain ⟨e, he⟩ := sortedAll_at s.heap its out
 have hf : H (s.heap.objs.size + 1) = none := I.hok.fresh (Nat.le_succ _)
 refine ⟨.ref (s.heap.objs.size + 1), _, I.laid (t' := s.toks) (o := .lst (ms.map V.int)) (λ _ _ => sortedAll_old) (Nat.le_succ _) ⟨?_, out.toList, e, kb a1, ?_⟩, rfl, q _ ms hf a2 a3⟩
 ·rw [cI, a2.length_eq, sizeLine_eq]; lia
 ·rw [Array.toArray_toList]; exact he
end
end L2
namespace L2
open PySem PySem.Spec PyProof.Rows
section
variable {B : Bk} {K : Fg} {τ : TSt} {Φ : TK} {x : Kd} {ns : List Int}
theorem CN (hK : K = B.K) (rk : Rk τ x (.lst (ns.map Tr.int))) (h64 : ns.length < 64) (q : ∀ ms : List Int, ms.Perm ns -> ms.Pairwise (· <= ·) -> Φ (.nw (.lst (ms.map Tr.int))) τ) : RU B (λ v H Q => FF K [v] H Q) x τ Φ := λ Z F H v Q r a c => by
 subst hK
 obtain ⟨p, vs, rfl, s, l⟩ := rk.list r a
 cases l.ints
 exact ⟨p, ns, rfl, s, h64, λ l ms hl h1 h2 => c.nl r (IsL.ofInts ms) hl (q ms h1 h2)⟩
end
noncomputable instance trDec : DecidableEq Tr := Classical.typeDecidableEq Tr
def iD (h : Heap) : Nat -> Tr -> Value -> Prop
 | 0, t, v => match t with
  | .int i => ∃ k, v = .int i k
  | .str x => ∃ k, v = .str x k
  | _ => False
 | n + 1, t, v => match t with
  | .int i => ∃ k, v = .int i k
  | .str x => ∃ k, v = .str x k
  | .tup ts => ∃ a its, v = .ref a /\ h.IsTuple a its /\ Paired (iD h n) ts its.toList
  | .lst ts => ∃ a its, v = .ref a /\ h.IsList a its /\ Paired (iD h n) ts its.toList
  | _ => False
noncomputable def NH (w : World) : Nat -> Tr -> Int
 | 0, t => match t with
  | .int i => hashInt i
  | .str x => hashStr w x
  | _ => 0
 | n + 1, t => match t with
  | .int i => hashInt i
  | .str x => hashStr w x
  | .tup ts => reduceHash (Builtin.Tuple.tupleHashOf (ts.map (NH w n)))
  | _ => 0
noncomputable def ND : Nat -> Tr -> Nat
 | 0, _ => 1
 | n + 1, t => match t with
  | .tup ts => (ts.map (ND n)).sum + 1
  | _ => 1
noncomputable def dW : Nat -> Tr -> Bool
 | 0, t => match t with
  | .int _ => true
  | .str _ => true
  | _ => false
 | n + 1, t => match t with
  | .int _ => true
  | .str _ => true
  | .tup ts => ts.all (dW n)
  | _ => false
theorem fH {α β : Type} {F : α -> β -> Prop} (f : ∀ x y v, F x v -> F y v -> x = y) : ∀ {xs ys : List α} {vs : List β}, Paired F xs vs -> Paired F ys vs -> xs = ys := by
 intro xs ys vs h g
 induction h generalizing ys with
 | nil => cases g; rfl
 | cons a r ih => cases g with | cons b s => rw [f _ _ _ a b, ih s]
variable {h : Heap}
theorem aP {n : Nat} {t : Tr} {v : Value} (q : iD h n t v) : (∃ i k, t = .int i /\ v = .int i k) ∨ (∃ x k, t = .str x /\ v = .str x k) ∨ (∃ m ts a its, n = m + 1 /\ t = .tup ts /\ v = .ref a /\ h.IsTuple a its /\ Paired (iD h m) ts its.toList) ∨ ∃ m ts a its, n = m + 1 /\ t = .lst ts /\ v = .ref a /\ h.IsList a its /\ Paired (iD h m) ts its.toList := by
 cases n with
 | zero =>
  cases t with
  | int i => obtain ⟨k, e⟩ := q; exact .inl ⟨i, k, rfl, e⟩
  | str x => obtain ⟨k, e⟩ := q; exact .inr (.inl ⟨x, k, rfl, e⟩)
  | _ => exact False.elim q
 | succ m =>
  cases t with
  | int i => obtain ⟨k, e⟩ := q; exact .inl ⟨i, k, rfl, e⟩
  | str x => obtain ⟨k, e⟩ := q; exact .inr (.inl ⟨x, k, rfl, e⟩)
  | tup ts => obtain ⟨a, its, e, p, r⟩ := q; exact .inr (.inr (.inl ⟨m, ts, a, its, rfl, rfl, e, p, r⟩))
  | lst ts => obtain ⟨a, its, e, p, r⟩ := q; exact .inr (.inr (.inr ⟨m, ts, a, its, rfl, rfl, e, p, r⟩))
  | _ => exact False.elim q
variable {a : Addr} {x : Array Value} {y : Array Value}
theorem lJ (hx : h.IsTuple a x) (hy : h.IsTuple a y) : x = y := by
 obtain ⟨o, e, _, n, d⟩ := hx
 obtain ⟨o', e', _, n', d'⟩ := hy
 rw [e] at e'; cases e'
 rw [d] at d'; injection d'
theorem mK (hx : h.IsList a x) (hy : h.IsList a y) : x = y := by
 obtain ⟨o, e, _, n, d⟩ := hx
 obtain ⟨o', e', _, n', d'⟩ := hy
 rw [e] at e'; cases e'
 rw [d] at d'; injection d'
theorem rL (hx : h.IsTuple a x) (hy : h.IsList a y) : False := by
 obtain ⟨o, e, c, _⟩ := hx
 obtain ⟨o', e', c', _⟩ := hy
 rw [e] at e'; cases e'
 rw [c] at c'; injection c' with z; exact absurd z (by decide)
theorem mn : ∀ {n : Nat} {x y : Tr} {v : Value}, iD h n x v -> iD h n y v -> x = y := by
 intro n
 induction n with
 | zero =>
  intro x y v hx hy
  rcases aP hx with ⟨i, k, rfl, rfl⟩ | ⟨i, k, rfl, rfl⟩ | ⟨m, _, _, _, e, _⟩ | ⟨m, _, _, _, e, _⟩
  ·rcases aP hy with ⟨j, l, rfl, e⟩ | ⟨j, l, rfl, e⟩ | ⟨m, _, _, _, e, _⟩ | ⟨m, _, _, _, e, _⟩ <;> cases e
   rfl
  ·rcases aP hy with ⟨j, l, rfl, e⟩ | ⟨j, l, rfl, e⟩ | ⟨m, _, _, _, e, _⟩ | ⟨m, _, _, _, e, _⟩ <;> cases e
   rfl
  ·cases e
  ·cases e
 | succ n ih =>
  intro x y v hx hy
  rcases aP hx with ⟨i, k, rfl, rfl⟩ | ⟨i, k, rfl, rfl⟩ | ⟨m, ts, a, its, e0, rfl, rfl, p, r⟩ | ⟨m, ts, a, its, e0, rfl, rfl, p, r⟩
  ·rcases aP hy with ⟨j, l, rfl, e⟩ | ⟨j, l, rfl, e⟩ | ⟨m, _, _, _, _, _, e, _⟩ | ⟨m, _, _, _, _, _, e, _⟩ <;> cases e
   rfl
  ·rcases aP hy with ⟨j, l, rfl, e⟩ | ⟨j, l, rfl, e⟩ | ⟨m, _, _, _, _, _, e, _⟩ | ⟨m, _, _, _, _, _, e, _⟩ <;> cases e
   rfl
  ·rcases aP hy with ⟨j, l, rfl, e⟩ | ⟨j, l, rfl, e⟩ | ⟨m', us, b, jts, e1, rfl, e, p', r'⟩ | ⟨m', us, b, jts, e1, rfl, e, p', r'⟩
   ·cases e
   ·cases e
   ·cases e; cases e0; cases e1
    rw [lJ p' p] at r'
    rw [fH (F := iD h n) (λ _ _ _ p q => ih p q) r r']
   ·cases e; exact (rL p p').elim
  ·rcases aP hy with ⟨j, l, rfl, e⟩ | ⟨j, l, rfl, e⟩ | ⟨m', us, b, jts, e1, rfl, e, p', r'⟩ | ⟨m', us, b, jts, e1, rfl, e, p', r'⟩
   ·cases e
   ·cases e
   ·cases e; exact (rL p' p).elim
   ·cases e; cases e0; cases e1
    rw [mK p' p] at r'
    rw [fH (F := iD h n) (λ _ _ _ p q => ih p q) r r']
theorem uT {α β : Type} {F G : α -> β -> Prop} {c : α -> Bool} (f : ∀ x v, c x = true -> F x v -> G x v) : ∀ {xs : List α} {vs : List β}, xs.all c = true -> Paired F xs vs -> Paired G xs vs := by
 intro xs vs k h
 induction h with
 | nil => exact .nil
 | cons a r ih =>
  rw [List.all_cons, uR] at k
  exact .cons (f _ _ k.1 a) (ih k.2)
theorem Cg {h' : Heap} (k : ∀ b its, h.IsTuple b its -> h'.IsTuple b its) : ∀ {n : Nat} {t : Tr} {v : Value}, dW n t = true -> iD h n t v -> iD h' n t v := by
 intro n
 induction n with
 | zero => intro t v _ q; cases t <;> exact q
 | succ n ih =>
  intro t v kt q
  cases t with
  | tup ts =>
   obtain ⟨a, its, e, p, r⟩ := q
   refine ⟨a, its, e, k _ _ p, ?_⟩
   have kt : ts.all (dW n) = true := kt
   clear p
   generalize its.toList = us at r ⊢
   exact uT (λ x v => ih) kt r
  | lst ts => cases kt
  | _ => exact q
section
variable {prog : Program} {w : World}
theorem AE : ∀ {n : Nat} {A : Around} {E : Value -> Shared -> Prop} {s : Shared} {t : Tr} {v : Value} {Q : Int -> Shared -> Prop}, A.units + n < cLine -> dW n t = true -> iD s.heap n t v -> Q (NH w n t) { s with toks := s.toks + ND n t } -> wpAny (model prog w) A (pyHash v) Q E s := by
 intro n
 induction n with
 | zero =>
  intro A E s t v Q hu kt hk h
  rcases aP hk with ⟨i, k, rfl, rfl⟩ | ⟨x, k, rfl, rfl⟩ | ⟨m, _, _, _, e, _⟩ | ⟨m, _, _, _, e, _⟩
  ·exact wpAny_pyHash_int h
  ·exact wpAny_pyHash_str h
  ·cases e
  ·cases e
 | succ n ih =>
  intro A E s t v Q hu kt hk h
  rcases aP hk with ⟨i, k, rfl, rfl⟩ | ⟨x, k, rfl, rfl⟩ | ⟨m, ts, a, its, e, rfl, rfl, p, r⟩ | ⟨m, ts, a, its, e, rfl, rfl, p, r⟩
  ·exact wpAny_pyHash_int h
  ·exact wpAny_pyHash_str h
  rotate_left
  ·cases kt
  ·cases e
   obtain ⟨o, ho, hc, m, hd⟩ := p
   have kt : ts.all (dW n) = true := kt
   have hT : s.TypeIs (.ref a) "tuple" := ⟨o, ho, hc⟩
   unfold pyHash
   first | unfold pyHashByItsType | skip
   first | refine cx (wpAny_cRoomFor_or (.inr (by lia)) ?_) | skip
   refine cx (wpAny_specialOf hT PySem.F.slot_tuple_hash.lookup ?_)
   show wpAny _ _ (if (some (Value.builtin "tuple.__hash__") == some Value.none) = true then _ else _) Q E s
   rw [gS (by rw [beq_builtin_none]; exact gV)]
   refine cx (wpAny_specialOf hT PySem.F.slot_tuple_hash.lookup ?_)
   show wpAny _ _ (callSpecialIfBoundUnlessNone? (.ref a) "__hash__" _ >>= _) Q E s
   refine cx (wpAny_callSpecialIfBoundUnlessNone?_slot hT PySem.F.slot_tuple_hash (wpAny_call_entry PySem.F.slot_tuple_hash hT PySem.F.entry_tuple_hash ?_ (PySem.F.args_tuple_hash_1 _)))
   show wpAny _ _ (Builtin.Tuple.tupleItemsOf (.ref a) >>= _) _ _ s
   refine cx (wpAny_tupleItemsOf ho hd ?_)
   refine cx ?_
   rw [<- Array.forIn_toList]
   refine wpAny_forIn_list _
    (λ dm (b : Array Int) s' => ∃ done left, ts = done ++ left /\ left.all (dW n) = true /\ Paired (iD s.heap n) left dm /\ b.toList = done.map (NH w n) /\ s' = { s with toks := s.toks + (done.map (ND n)).sum })
    _ ?_ ?_ _ _ ⟨[], ts, rfl, kt, r, rfl, rfl⟩
   ·rintro x dm b s' ⟨done, left, rfl, kl, hl, hb, rfl⟩
    cases hl with
    | @cons k _ ks' _ h1 hl' =>
     rw [List.all_cons, uR] at kl
     refine cx (ih ?_ kl.1 h1 ?_)
     ·show A.units + 1 + n < cLine; lia
     ·first
       | exact fh ⟨done ++ [k], ks', by simp, kl.2, hl', by simp [hb], by simp [Nat.add_assoc]⟩
       | exact cx (fh (fh ⟨done ++ [k], ks', by simp, kl.2, hl', by simp [hb], by simp [Nat.add_assoc]⟩))
   ·rintro b s' ⟨done, left, rfl, kl, hl, hb, rfl⟩
    cases hl
    rw [vM] at h
    show wpAny _ _ (retInt (Builtin.Tuple.tupleHashOf b.toList)) _ _ _
    rw [hb]
    refine wpAny_ret_mkInt ?_
    show wpAny _ _ (if (decide (-(2 : Int) ^ 63 <= Builtin.Tuple.tupleHashOf (done.map (NH w n))) && decide (Builtin.Tuple.tupleHashOf (done.map (NH w n)) < 2 ^ 63)) = true then _ else _) Q E _
    have h : Q (reduceHash (Builtin.Tuple.tupleHashOf (done.map (NH w n)))) { s with toks := s.toks + ((done.map (ND n)).sum + 1) } := h
    unfold reduceHash at h
    by_cases hr : (decide (-(2 : Int) ^ 63 <= Builtin.Tuple.tupleHashOf (done.map (NH w n))) && decide (Builtin.Tuple.tupleHashOf (done.map (NH w n)) < 2 ^ 63)) = true
    ·rw [i9 hr]
     rw [i9 hr] at h
     exact fh (by simpa [Nat.add_assoc] using h)
    ·rw [gS hr]
     rw [gS hr] at h
     exact cx (wpAny_rule (fh (by simpa [Nat.add_assoc] using h)))
end
theorem Bu {a b : Int} : decide (Tr.int a = Tr.int b) = (a == b) := by
 by_cases e : a = b
 ·subst e; simp
 ·rw [i8 (λ z => e (by injection z))]; exact (beq_eq_false_iff_ne.mpr e).symm
theorem Ch {a b : Str} : decide (Tr.str a = Tr.str b) = (a == b) := by
 by_cases e : a = b
 ·subst e; simp
 ·rw [i8 (λ z => e (by injection z))]; exact (beq_eq_false_iff_ne.mpr e).symm
theorem dO {α β : Type} {F : α -> β -> Prop} : ∀ {xs : List α} {vs : List β} {i : Nat} {v : β}, Paired F xs vs -> vs[i]? = some v -> ∃ x, xs[i]? = some x /\ F x v
 | _, _, _, _, .nil, e => by simp at e
 | _, _, 0, _, .cons h _, e => by simp at e; subst e; exact ⟨_, rfl, h⟩
 | _, _, i + 1, v, .cons _ g, e => by
  obtain ⟨u, h1, h2⟩ := dO (i := i) (v := v) g (by simpa using e)
  exact ⟨u, by simpa using h1, h2⟩
theorem vH {ts us : List Tr} : ((List.range (min ts.length us.length)).all (λ j => decide (ts[j]? = us[j]?)) && ts.length == us.length) = decide (Tr.tup ts = Tr.tup us) := by
 by_cases e : ts = us
 ·subst e
  rw [j6 rfl, uR]
  exact ⟨vt.mpr λ j _ => j6 rfl, by simp⟩
 ·rw [i8 (λ z => e (by injection z)), Bool.eq_false_iff]
  intro h
  rw [uR] at h
  have hl : ts.length = us.length := by simpa using h.2
  refine e (List.ext_getElem? λ j => ?_)
  by_cases hj : j < ts.length
  ·exact of_decide_eq_true (vt.mp h.1 j (List.mem_range.mpr (by lia)))
  ·rw [vG (by lia), vG (by lia)]
theorem wg : ∀ {n : Nat} {A : Around} {s : Shared} {x y : Tr} {u v : Value}, A.units + n < cLine -> iD s.heap n x u -> iD s.heap n y v -> SeqAt.EqAt A s u v (decide (x = y)) := by
 intro n
 induction n with
 | zero =>
  intro A s x y u v hu hx hy
  rcases aP hx with ⟨i, k, rfl, rfl⟩ | ⟨i, k, rfl, rfl⟩ | ⟨m, _, _, _, e, _⟩ | ⟨m, _, _, _, e, _⟩
  ·rcases aP hy with ⟨j, l, rfl, rfl⟩ | ⟨j, l, rfl, rfl⟩ | ⟨m, _, _, _, e, _⟩ | ⟨m, _, _, _, e, _⟩
   ·rw [Bu]; exact .int_int _ _ _ _
   ·rw [i8 nofun]; exact .int_str _ _ _ _
   ·cases e
   ·cases e
  ·rcases aP hy with ⟨j, l, rfl, rfl⟩ | ⟨j, l, rfl, rfl⟩ | ⟨m, _, _, _, e, _⟩ | ⟨m, _, _, _, e, _⟩
   ·rw [i8 nofun]; exact .str_int _ _ _ _
   ·rw [Ch]; exact .str_str _ _ _ _
   ·cases e
   ·cases e
  ·cases e
  ·cases e
 | succ n ih =>
  intro A s x y u v hu hx hy
  have hu0 : A.units < cLine := by lia
  have step : ∀ {ts us : List Tr} {its jts : Array Value}, Paired (iD s.heap n) ts its.toList -> Paired (iD s.heap n) us jts.toList -> ts.length = its.size /\ us.length = jts.size /\ ∀ j (h1 : j < its.size) (h2 : j < jts.size), SeqAt.EqAt A.in1 s its[j] jts[j] (decide (ts[j]? = us[j]?)) := λ {ts us its jts} r r' => by
   refine ⟨by have := Paired.length r; simpa using this, by have := Paired.length r'; simpa using this, λ j h1 h2 => ?_⟩
   obtain ⟨x, ex, nx⟩ := dO r (i := j) (v := its[j]) (by simp [h1])
   obtain ⟨y, ey, ny⟩ := dO r' (i := j) (v := jts[j]) (by simp [h2])
   have := ih (A := A.in1) (show A.units + 1 + n < cLine by lia) nx ny
   rw [ex, ey]
   have e : decide (some x = some y) = decide (x = y) := by
    by_cases z : x = y
    ·subst z; simp
    ·simp [z]
   rw [e]
   exact this
  rcases aP hx with ⟨i, k, rfl, rfl⟩ | ⟨i, k, rfl, rfl⟩ | ⟨m, ts, a, its, e0, rfl, rfl, p, r⟩ | ⟨m, ts, a, its, e0, rfl, rfl, p, r⟩
  ·rcases aP hy with ⟨j, l, rfl, rfl⟩ | ⟨j, l, rfl, rfl⟩ | ⟨m, _, _, _, _, rfl, rfl, p', _⟩ | ⟨m, _, _, _, _, rfl, rfl, p', _⟩
   ·rw [Bu]; exact .int_int _ _ _ _
   ·rw [i8 nofun]; exact .int_str _ _ _ _
   ·rw [i8 nofun]; exact .int_tuple _ _ p' hu0
   ·rw [i8 nofun]; exact .int_list _ _ p' hu0
  ·rcases aP hy with ⟨j, l, rfl, rfl⟩ | ⟨j, l, rfl, rfl⟩ | ⟨m, _, _, _, _, rfl, rfl, p', _⟩ | ⟨m, _, _, _, _, rfl, rfl, p', _⟩
   ·rw [i8 nofun]; exact .str_int _ _ _ _
   ·rw [Ch]; exact .str_str _ _ _ _
   ·rw [i8 nofun]; exact .str_tuple _ _ p' hu0
   ·rw [i8 nofun]; exact .str_list _ _ p' hu0
  ·rcases aP hy with ⟨j, l, rfl, rfl⟩ | ⟨j, l, rfl, rfl⟩ | ⟨m', us, b, jts, e1, rfl, rfl, p', r'⟩ | ⟨m', us, b, jts, e1, rfl, rfl, p', r'⟩
   ·rw [i8 nofun]; exact .tuple_int _ _ p hu0
   ·rw [i8 nofun]; exact .tuple_str _ _ p hu0
   ·cases e0; cases e1
    by_cases hab : a = b
    ·subst hab
     rw [lJ p' p] at r'
     rw [fH (F := iD s.heap n) (λ _ _ _ p q => mn p q) r r', j6 rfl]
     exact .same _
    ·obtain ⟨l1, l2, st⟩ := step r r'
     rw [<- vH, l1, l2]
     exact .of_refs hab (.tuples p p' hu0 st)
   ·rw [i8 nofun]; exact .tuple_list p p' hu0
  ·rcases aP hy with ⟨j, l, rfl, rfl⟩ | ⟨j, l, rfl, rfl⟩ | ⟨m', us, b, jts, e1, rfl, rfl, p', r'⟩ | ⟨m', us, b, jts, e1, rfl, rfl, p', r'⟩
   ·rw [i8 nofun]; exact .list_int _ _ p hu0
   ·rw [i8 nofun]; exact .list_str _ _ p hu0
   ·rw [i8 nofun]; exact .list_tuple p p' hu0
   ·cases e0; cases e1
    by_cases hab : a = b
    ·subst hab
     rw [mK p' p] at r'
     rw [fH (F := iD s.heap n) (λ _ _ _ p q => mn p q) r r', j6 rfl]
     exact .same _
    ·obtain ⟨l1, l2, st⟩ := step r r'
     have el : decide (Tr.lst ts = Tr.lst us) = decide (Tr.tup ts = Tr.tup us) := by
      by_cases z : ts = us
      ·subst z; simp
      ·rw [i8 (λ q => z (by injection q)), i8 (λ q => z (by injection q))]
     rw [el, <- vH, l1, l2]
     by_cases hz : its.size = jts.size
     ·rw [hz, Nat.min_self, beq_self_eq_true, Bool.and_true, <- hz]
      exact .of_refs hab (.lists p p' hz hu0 st)
     ·rw [beq_eq_false_iff_ne.mpr hz, Bool.and_false]
      exact .of_refs hab (.lists_lengths p p' (by simpa using hz) hu0)
section
variable {prog : Program} {w : World}
theorem zd : ∀ {n m : Nat} {A : Around} {E : Value -> Shared -> Prop} {s : Shared} {t : Tr} {v : Value} {Q : Bool -> Shared -> Prop}, n <= m -> dW n t = true -> iD s.heap n t v -> Q true s -> wpAny (model prog w) A (eqIsQuiet m v) Q E s := by
 intro n
 induction n with
 | zero =>
  intro m A E s t v Q hm kt hk h
  rcases aP hk with ⟨i, k, rfl, rfl⟩ | ⟨x, k, rfl, rfl⟩ | ⟨m, _, _, _, e, _⟩ | ⟨m, _, _, _, e, _⟩
  ·rw [eqIsQuiet_byValue _ rfl]; exact fh h
  ·rw [eqIsQuiet_byValue _ rfl]; exact fh h
  ·cases e
  ·cases e
 | succ n ih =>
  intro m A E s t v Q hm kt hk h
  rcases aP hk with ⟨i, k, rfl, rfl⟩ | ⟨x, k, rfl, rfl⟩ | ⟨n', ts, a, its, e, rfl, rfl, p, r⟩ | ⟨n', ts, a, its, e, rfl, rfl, p, r⟩
  ·rw [eqIsQuiet_byValue _ rfl]; exact fh h
  ·rw [eqIsQuiet_byValue _ rfl]; exact fh h
  rotate_left
  ·cases kt
  ·cases e
   have kt : ts.all (dW n) = true := kt
   obtain ⟨m, rfl⟩ : ∃ k, m = k + 1 := ⟨m - 1, by lia⟩
   obtain ⟨o, ho, hc, _, hd⟩ := p
   have hT : s.TypeIs (.ref a) "tuple" := ⟨o, ho, hc⟩
   unfold eqIsQuiet
   refine cx (wpAny_specialOf hT PySem.F.slot_tuple_eq.lookup ?_)
   show wpAny _ _ (isInstance (.ref a) (.type "tuple") >>= _) _ _ s
   refine cx (wpAny_isInstance hT isSubtype_tuple_tuple ?_)
   simp only [Bool.not_true, Bool.false_eq_true, if_false]
   refine cx (wpAny_seqItems ho hd ?_)
   refine cx ?_
   show wpAny _ _ (forIn its _ _) _ _ s
   rw [<- Array.forIn_toList]
   refine wpAny_forIn_list _ (λ dm r s' => r.1 = none /\ s' = s /\ ∃ left, left.all (dW n) = true /\ Paired (iD s.heap n) left dm) _ ?_ ?_ _ _ ⟨rfl, rfl, ts, kt, r⟩
   ·rintro v dm r s' ⟨hr, rfl, left, kl, hall⟩
    cases hall with
    | cons h1 h2 =>
     rw [List.all_cons, uR] at kl
     refine cx (ih (by lia) kl.1 h1 ?_)
     simp only [Bool.not_true, Bool.false_eq_true, if_false]
     exact fh ⟨rfl, rfl, _, kl.2, h2⟩
   ·rintro ⟨r1, r2⟩ s' ⟨hr, rfl, _⟩
    simp only at hr
    subst hr
    exact fh h
end
def gw (prog : Program) (w : World) : HeapKind prog w Tr where
 is := λ h t a => iD h 6 t (.ref a) /\ dW 6 t = true
 hash := NH w 6
 draws := ND 6
 room := λ A => A.units + 6 < cLine
 inj := λ x y => mn x.1 y.1
 keeps := λ {h h' k a d o es ep} x ho hd hs => ⟨Cg (λ b its p => by
  obtain ⟨ob, e, c, n, e2⟩ := p
  refine ⟨ob, (hs.2 b ?_).trans e, c, n, e2⟩
  rintro rfl
  rw [ho] at e; cases e
  rw [hd] at e2; cases e2) x.2 x.1, x.2⟩
 pyHash := λ hu hk h => AE hu hk.2 hk.1 h
 eqBool := λ {A E s x y a b Q} hu hx hy h => wg hu hx.1 hy.1 _ _ _ _ h
 quiet := λ hk h => zd (by decide) hk.2 hk.1 h
structure mG (h : Heap) (d : Addr) (es : Array DictEntry) (ep : Nat) : Prop where
 ex : ∃ o, h.get? d = some o /\ o.ExactDict /\ o.data = .dict es ep
theorem mG.ty {s : Shared} {d : Addr} {es : Array DictEntry} {ep : Nat} (x : mG s.heap d es ep) : s.TypeIs (.ref d) "dict" := let ⟨o, e, c, _⟩ := x.ex; ⟨o, e, c.1⟩
theorem mG.to {h h' : Heap} {d : Addr} {es : Array DictEntry} {ep : Nat} (x : mG h d es ep) (k : ∀ o, h.get? d = some o -> h'.get? d = some o) : mG h' d es ep := let ⟨o, e, r⟩ := x.ex; ⟨o, k o e, r⟩
section
variable {prog : Program} {w : World} {A : Around} {E : Value -> Shared -> Prop} {s : Shared} {d it : Addr} {es : Array DictEntry} {ep i : Nat}
theorem DS {e : DictEntry} {Q : Option Value -> Shared -> Prop} (hit : s.heap.IsKeyIter it d i es.size ep) (hm : mG s.heap d es ep) (hx : es[i]? = some e)
  (q : ∀ h', h'.IsKeyIter it d (i + 1) es.size ep -> Heap.SameBut it s.heap h' -> Q (some e.key) { s with heap := h' }) : wpAny (model prog w) A (pyNext (.ref it)) Q E s := by
 obtain ⟨o, ho, hc, hd⟩ := id hit
 obtain ⟨od, hod, hcd, hdd⟩ := hm.ex
 have hown : Builtin.Dict_items.ownsTuple "dict_keyiterator" = false := by decide
 obtain ⟨hlt, rfl⟩ := Array.getElem?_eq_some_iff.mp hx
 unfold pyNext
 refine cx (wpAny_attempt (wpAny_callSpecial?_slot (name := Str.ofString "__next__") hit.typeIs PySem.F.slot_dict_keyiterator_next
  (wpAny_call_entry PySem.F.slot_dict_keyiterator_next hit.typeIs PySem.F.entry_dict_keyiterator_next (cx (fh (cx (cx ?_)))) (PySem.F.args_dict_keyiterator_next_1 _))))
 first | refine cx (wpAny_typeNameOfWhole_keyiter hit.typeIs (fh ?_)) | refine cx (wpAny_typeNameOf_keyiter hit.typeIs (fh ?_))
 refine cx (wpAny_fieldsOf ho hd ?_)
 simp only [hown, Bool.false_eq_true, if_false]
 show wpAny _ _ (if (Value.ref d == Value.none) = true then _ else _) _ _ s
 rw [gS (show ¬ ((Value.ref d == Value.none) = true) from gV)]
 refine cx (fh (cx (wpAny_dictEntries hod hdd ?_)))
 rw [gS (by simp)]
 refine cx (fh (cx (wpAny_dictEpoch hod hdd ?_)))
 rw [gS (by simp)]
 refine fh ?_
 simp only [show ¬ ((i : Int) < 0) from by lia, if_false, Int.toNat_natCast, Array.getElem?_eq_getElem hlt]
 refine cx ?_
 first | refine cx (wpAny_typeNameOfWhole_keyiter hit.typeIs (fh ?_)) | refine cx (wpAny_typeNameOf_keyiter hit.typeIs (fh ?_))
 refine cx (wpAny_isOneOf_keyiter hit.typeIs (show wpAny _ _ (setField (.ref it) 1 (rawInt ((i : Int) + 1)) >>= _) _ _ s from cx (wpAny_setField ho hd (by simp) ?_)))
 have hit' : (s.heap.update it (Obj.mapFields (·.setIfInBounds 1 (rawInt ((i : Int) + 1))))).IsKeyIter it d (i + 1) es.size ep :=
  ⟨_, Heap.get?_update_self _ ho (Obj.isFreed_of_fields (Obj.data_mapFields hd _)), (Obj.cls_mapFields ..).trans hc, by rw [Obj.data_mapFields hd]; simp [rawInt]⟩
 refine cx (wpAny_holding (cx (wpAny_isOneOf_keyiter (s := { s with heap := s.heap.update it (Obj.mapFields (·.setIfInBounds 1 (rawInt ((i : Int) + 1)))) }) hit'.typeIs ?_)))
 show wpAny _ _ (pure es[i].key) _ _ _
 exact fh (fh ⟨_, rfl, fh (q _ hit' (Heap.SameBut.update ..))⟩)
theorem HU {Q : Option Value -> Shared -> Prop} (hh : A.handled = none) (hit : s.heap.IsKeyIter it d i es.size ep) (hm : mG s.heap d es ep) (hx : es.size <= i)
  (q : ∀ h', Heap.ExtBut it s.heap h' -> Q none { s with heap := h' }) : wpAny (model prog w) A (pyNext (.ref it)) Q E s := by
 obtain ⟨o, ho, hc, hd⟩ := id hit
 obtain ⟨od, hod, hcd, hdd⟩ := hm.ex
 have hown : Builtin.Dict_items.ownsTuple "dict_keyiterator" = false := by decide
 unfold pyNext
 refine cx (wpAny_attempt (wpAny_callSpecial?_slot (name := Str.ofString "__next__") hit.typeIs PySem.F.slot_dict_keyiterator_next
  (wpAny_call_entry PySem.F.slot_dict_keyiterator_next hit.typeIs PySem.F.entry_dict_keyiterator_next (cx (fh (cx (cx ?_)))) (PySem.F.args_dict_keyiterator_next_1 _))))
 first | refine cx (wpAny_typeNameOfWhole_keyiter hit.typeIs (fh ?_)) | refine cx (wpAny_typeNameOf_keyiter hit.typeIs (fh ?_))
 refine cx (wpAny_fieldsOf ho hd ?_)
 simp only [hown, Bool.false_eq_true, if_false]
 show wpAny _ _ (if (Value.ref d == Value.none) = true then _ else _) _ _ s
 rw [gS (show ¬ ((Value.ref d == Value.none) = true) from gV)]
 refine cx (fh (cx (wpAny_dictEntries hod hdd ?_)))
 rw [gS (by simp)]
 refine cx (fh (cx (wpAny_dictEpoch hod hdd ?_)))
 rw [gS (by simp)]
 refine fh ?_
 simp only [show ¬ ((i : Int) < 0) from by lia, if_false, Int.toNat_natCast, Array.getElem?_eq_none hx]
 refine cx ?_
 first | refine cx (wpAny_typeNameOfWhole_keyiter hit.typeIs (fh ?_)) | refine cx (wpAny_typeNameOf_keyiter hit.typeIs (fh ?_))
 refine cx (m := setField (.ref it) 0 .none) (wpAny_setField ho hd (by simp) (cx ?_))
 simp only [newExc, newTuple]
 refine cx (uY ?_ (by size_fits))
 refine cx (m := firstArgMember _ _) (wpAny_of_eq (a := Value.none) (by first | rfl | (simp only [firstArgMember]; rfl)) ?_)
 refine uY ?_ (by size_fits)
 simp only [raiseNew]
 refine cx (wpAny_handled ?_)
 rw [show A.in1.handled = none from hh]
 refine cx (fh (wpAny_throw ?_))
 refine cx (wpAny_isInstance (T := "StopIteration") (b := true) ⟨_, m8 _ rfl, rfl⟩ isSubtype_stop ?_)
 exact fh (q _ (((Heap.SameBut.update ..).extBut.push _).push _))
end
noncomputable abbrev KN := Tr × Addr × Addr
def jF (xs : List KN) : List (Tr × Addr × Value) := xs.map λ x => (x.1, x.2.1, .ref x.2.2)
def uz (xs : List KN) (t : Tr) : Option (Addr × Addr) := (xs.find? λ x => decide (x.1 = t)).map (·.2)
theorem rB {xs : List KN} {t : Tr} : atKey (jF xs) t = (uz xs t).map λ p => (p.1, Value.ref p.2) := by
 unfold atKey uz jF
 induction xs with
 | nil => rfl
 | cons x r ih =>
  rw [kw, List.find?_cons, List.find?_cons]
  by_cases h : x.1 = t
  ·simp [h]
  ·simp only [h, decide_false]; exact ih
structure Jz (P : Program) (w : World) (a : Addr) (xs : List KN) (es : Array DictEntry) (ep : Nat) (h : Heap) : Prop where
 z : xs.length <= sizeLine
 d : (a == sysModules) = false
 r : mG h a es ep
 e : es.toList = (jF xs).map (entryOfKey (gw P w))
 n : ((jF xs).map (·.1)).Nodup
def DN (P : Program) (w : World) (a : Addr) (xs : List KN) (es : Array DictEntry) (ep : Nat) : HO := .ext (Jz P w a xs es ep)
noncomputable def sK : Nat -> Tr -> Bool
 | 0, t => match t with
  | .int _ => true
  | .str _ => true
  | _ => false
 | n + 1, t => match t with
  | .int _ => true
  | .str _ => true
  | .tup ts => ts.all (sK n)
  | .lst ts => ts.all (sK n)
  | _ => false
theorem mm : ∀ {n : Nat} {t : Tr}, dW n t = true -> sK n t = true
 | 0, t, h => by cases t <;> first | rfl | cases h
 | n + 1, t, h => by
  cases t with
  | tup ts =>
   have h : ts.all (dW n) = true := h
   show ts.all (sK n) = true
   rw [vt] at h ⊢
   exact λ x hx => mm (h x hx)
  | int => rfl
  | str => rfl
  | _ => cases h
theorem mO {h : Heap} {n : Nat} {K : Fg} {H : Hp} (ih : ∀ {t : Tr} {v : V} {u : Value}, sK n t = true -> Is K H v t -> bh v u -> iD h n t u) : ∀ {vs : List V} {ts : List Tr} {its : List Value}, IsL K H vs ts -> aM vs its -> ts.all (sK n) = true -> Paired (iD h n) ts its := by
 intro vs ts its h r k
 induction ts generalizing vs its with
 | nil => cases h; cases r; exact .nil
 | cons t ts ht => cases h with | cons a b => cases r with | cons ra rb =>
  rw [List.all_cons, uR] at k
  exact .cons (ih k.1 a ra) (ht b rb k.2)
def nq (K : Fg) (H : Hp) (xs : List KN) : Prop := ∀ x ∈ xs, Is K H (.ref x.2.1) x.1 /\ dW 6 x.1 = true
theorem nq.same {K : Fg} {H H' : Hp} {xs : List KN} (s : ah H H') (k : nq K H xs) : nq K H' xs := λ x hx => ⟨(k x hx).1.same s, (k x hx).2⟩
section
variable {X : Cx} {pins : Pn} {Z : St} {H : Hp} {s : Shared} {a : Addr}
theorem iS (I : Inv X pins Z H s) : ∀ {n : Nat} {t : Tr} {v : V} {u : Value}, sK n t = true -> Is X.K H v t -> bh v u -> iD s.heap n t u := by
 intro n
 induction n with
 | zero =>
  intro t v u k i r
  cases i with
  | int => obtain ⟨y, e⟩ := r; exact ⟨y, e⟩
  | str => obtain ⟨y, e⟩ := r; exact ⟨y, e⟩
  | _ => cases k
 | succ n ih =>
  intro t v u k i r
  cases i with
  | int => obtain ⟨y, e⟩ := r; exact ⟨y, e⟩
  | str => obtain ⟨y, e⟩ := r; exact ⟨y, e⟩
  | @tup p vs ts hp hl =>
   obtain rfl : u = Value.ref p := r
   obtain ⟨its, rv, pl, _⟩ := I.tuple hp
   have k : ts.all (sK n) = true := k
   refine ⟨p, its.toArray, rfl, pl, ?_⟩
   rw [List.toList_toArray]
   exact mO ih hl rv k
  | @lst p vs ts hp hl =>
   obtain rfl : u = Value.ref p := r
   obtain ⟨its, rv, pl, _⟩ := I.list hp
   have k : ts.all (sK n) = true := k
   refine ⟨p, its.toArray, rfl, pl.isList, ?_⟩
   rw [List.toList_toArray]
   exact mO ih hl rv k
  | _ => cases k
variable {xs : List KN}
theorem qz {es : Array DictEntry} {ep : Nat} (I : Inv X pins Z H s) (h : H a = some (DN X.prog X.w a xs es ep)) : Jz X.prog X.w a xs es ep s.heap :=
 (show cA X.prog X.w H s.heap a (DN X.prog X.w a xs es ep) from I.hok a _ h).1
theorem FK {es : Array DictEntry} {ep : Nat} (I : Inv X pins Z H s) (h : H a = some (DN X.prog X.w a xs es ep)) (k : nq X.K H xs) : s.heap.DictOfH (gw X.prog X.w) a (jF xs) := by
 obtain ⟨z, hd, ⟨o, e1, e2, e3⟩, e4, e5⟩ := qz I h
 refine ⟨o, es, ep, e1, e2, e3, e4, λ x hx => ?_, e5⟩
 obtain ⟨y, hy, rfl⟩ := m7.mp hx
 exact ⟨iS I (mm (k y hy).2) (k y hy).1 rfl, (k y hy).2⟩
variable {w : World}
theorem EY {P : Program} {h : Heap} (hz : xs.length <= sizeLine) (hd : (a == sysModules) = false) (q : h.DictOfH (gw P w) a (jF xs)) : ∃ es ep, ∀ H : Hp, cA P w H h a (DN P w a xs es ep) := by
 obtain ⟨o, es, ep, e1, e2, e3, e4, _, e5⟩ := q
 exact ⟨es, ep, λ _ => ⟨⟨hz, hd, ⟨o, e1, e2, e3⟩, e4, e5⟩, ⟨o, e1⟩, λ h1 h2 ⟨z, hd, r, e, n⟩ k => ⟨z, hd, r.to k, e, n⟩⟩⟩
theorem ux {prog : Program} {K : Type} [DecidableEq K] {knd : HeapKind prog w K} {A : Around} {E : Value -> Shared -> Prop} {s : Shared} {d a : Addr} {xs : List (K × Addr × Value)} {k : K} {v : Value} {Q : Value -> Shared -> Prop} (hu : knd.room A) (hkey : knd.is s.heap k a) (hm : s.heap.DictOfH knd d xs)
  (h1 : ∀ p, atKey xs k = some p -> Q p.2 { s with toks := s.toks + knd.draws k }) (h2 : atKey xs k = none -> ∀ h', h'.DictOfH knd d (xs ++ [(k, a, v)]) -> Heap.SameBut d s.heap h' -> Q v { s with heap := h', toks := s.toks + knd.draws k })
  (hsz : xs.length <= sizeLine) : wpAny (model prog w) A (dictSetDefault d (.ref a) v) Q E s := by
 obtain ⟨o, es, ep, ho, hc, hd, he, his, hn⟩ := hm
 unfold dictSetDefault
 try with_reducible refine wpAny_holding ?_
 refine cx (knd.pyHash hu hkey (cx (wpAny_dictFind_heap (s := { s with toks := s.toks + knd.draws k }) hu hkey ho hd he his hn (λ hno => ?_) λ j p hj => ?_)))
 ·have hnot : k ∉ xs.map (·.1) := not_mem_keys_of_get hno
  refine cx (wpAny_rule (cx (wpAny_updateDictKeys (hz := by have e := size_of_entries he; lia) (s := { s with toks := s.toks + knd.draws k }) ho hd (fh (h2 (atKey_none_of_get hno) _ ⟨_, _, ep + 1, Heap.get?_update_self _ ho (Obj.isFreed_of_dict (Obj.data_mapDictKeys hd _)), hc.mapDictKeys _, Obj.data_mapDictKeys hd _, ?_, λ x hx => ?_, ?_⟩ (Heap.SameBut.update ..))))))
  ·simp [he, entryOfKey]
  ·rcases uD.mp hx with hx | hx
   ·exact knd.keeps (his x hx) ho hd (Heap.SameBut.update ..)
   ·obtain rfl := j7.mp hx
    exact knd.keeps hkey ho hd (Heap.SameBut.update ..)
  ·rw [oM, List.nodup_append]
   refine ⟨hn, by simp, λ x hx y hy => ?_⟩
   obtain rfl : y = k := by simpa using hy
   exact λ e => hnot (e ▸ hx)
 ·refine cx (wpAny_dictEntries (s := { s with toks := s.toks + knd.draws k }) ho hd ?_)
  rw [entry_at he j, hj]
  exact cx (wpAny_rule (fh (h1 p (atKey_of_get hn hj))))
theorem qA {prog : Program} {K : Type} [DecidableEq K] (knd : HeapKind prog w K) (d a : Addr) (v : Value) (hd : (d == sysModules) = false) :
  MeetsIn prog w (Builtin.«dict.setdefault» ⟨[.ref d, .ref a, v], []⟩) (λ A R s => knd.room A.in1 /\ ∃ k xs, knd.is s.heap k a /\ s.heap.DictOfH knd d xs /\ xs.length <= sizeLine /\
   (∀ p, atKey xs k = some p -> R (.ok (.ret p.2)) { s with toks := s.toks + knd.draws k }) /\ (atKey xs k = none -> ∀ h', h'.DictOfH knd d (xs ++ [(k, a, v)]) -> Heap.SameBut d s.heap h' -> R (.ok (.ret v)) { s with heap := h', toks := s.toks + knd.draws k })) :=
 .of_wp λ A R s y => by
  obtain ⟨hu, k, xs, hkey, hm, hz, h1, h2⟩ := y
  unfold Builtin.«dict.setdefault»
  refine cx ?_
  unfold Builtin.Dict.keyAndDefault
  refine cx (wpAny_notOrdered_dict hm.typeIs (show wpAny _ _ (pure (d, Value.ref a, some v)) _ _ s from fh ?_))
  show wpAny _ _ (if (d == sysModules) = true then _ else (dictSetDefault d (.ref a) v >>= _)) _ _ s
  rw [hd, gS gV]
  exact cx (ux hu hkey hm (λ p hp => fh ⟨p.2, rfl, h1 p hp⟩) (λ hn h' hm' hs' => fh ⟨v, rfl, h2 hn h' hm' hs'⟩) hz)
end
def KA (K : Fg) : R2 := λ x y H Q => ∃ ts us, Is K H x (.tup ts) /\ Is K H y (.tup us) /\ ts.all (sK 6) = true /\ us.all (sK 6) = true /\ Q (.bl (decide (Tr.tup ts = Tr.tup us))) H
theorem HS {X : Cx} (hu : X.A.units + 20 < cLine) : gd X (compareOp .Eq) (KA X.K) := by
 intro pins s Z H x y v u Q I rx ry h
 obtain ⟨ts, us, ix, iy, kx, ky, q⟩ := h
 obtain ⟨a, its, ev, pa, ra⟩ : iD s.heap 7 (.tup ts) v := iS I (n := 7) kx ix rx
 obtain ⟨b, jts, eu, pb, rb⟩ : iD s.heap 7 (.tup us) u := iS I (n := 7) ky iy ry
 subst ev eu
 have l1 : ts.length = its.size := by have := Paired.length ra; simpa using this
 have l2 : us.length = jts.size := by have := Paired.length rb; simpa using this
 refine (SeqAt.RcAt.tuples (A := X.A) (s := s) (e := λ j => decide (ts[j]? = us[j]?)) pa pb (by lia) λ j h1 h2 => ?_) _ _ _ _ ⟨.bl _, H, I, ?_, q⟩
 ·obtain ⟨x, ex, nx⟩ := dO ra (i := j) (v := its[j]) (by simp [h1])
  obtain ⟨y, ey, ny⟩ := dO rb (i := j) (v := jts[j]) (by simp [h2])
  rw [ex, ey]
  have e : decide (some x = some y) = decide (x = y) := by
   by_cases z : x = y
   ·subst z; simp
   ·simp [z]
  rw [e]
  exact wg (A := X.A.in1) (show X.A.units + 1 + 6 < cLine by lia) nx ny
 ·have := vH (ts := ts) (us := us)
  rw [l1, l2] at this
  rw [this]
  rfl
def Aw (P : Program) (w : World) : TE := λ _ H Q => ∀ p es ep, H p = none -> Q (.ref p) (upd H p (DN P w p [] es ep))
def FJ (P : Program) (w : World) (K : Fg) (td ty tx : TE) : TE := λ Z H Q => td Z H λ x H1 => ∃ a, x = .ref a /\ (∃ xs es ep, H1 a = some (DN P w a xs es ep)) /\ ty Z H1 λ y H2 => tx Z H2 λ z H3 => ∃ xs es ep t b l, H3 a = some (DN P w a xs es ep) /\ nq K H3 xs /\ xs.length < sizeLine /\ y = .ref b /\ Is K H3 y t /\ dW 6 t = true /\ z = .ref l /\
 (∀ p, uz xs t = some p -> Q (.ref p.2) H3) /\ (uz xs t = none -> ∀ es ep, Q z (upd H3 a (DN P w a (xs ++ [(t, b, l)]) es ep)))
def BS (P : Program) (w : World) (K : Fg) (td ty : TE) : TE := λ Z H Q => td Z H λ x H1 => ty Z H1 λ y H2 => ∃ a xs es ep t b p, x = .ref a /\ H2 a = some (DN P w a xs es ep) /\ nq K H2 xs /\ y = .ref b /\ Is K H2 y t /\ dW 6 t = true /\ uz xs t = some p /\ Q (.ref p.2) H2
section
variable {X : Cx} {pos apos cpos : Pos} {o e f i tg : Expr} {td ty tx : TE}
theorem zj : PE X (.Dict [] [] pos) (Aw X.prog X.w) := λ pins s Z H Q I h => by
 obtain ⟨es, ep, ok⟩ := EY (P := X.prog) (w := X.w) (h := s.heap.push { cls := .type "dict", data := .dict #[] }) (a := s.heap.objs.size) (xs := []) (Nat.zero_le _) (beq_eq_false_iff_ne.mpr (Ne.symm (uS I.big))) (.new s.heap)
 exact wpAny_Dict_empty ⟨.ref s.heap.objs.size, _, I.laid (a := s.heap.objs.size) (o := DN X.prog X.w s.heap.objs.size [] es ep) (t' := s.toks) (λ _ _ q => e9 _ q) (jo _) (ok _), rfl, h _ es ep (I.hok.fresh (jo _))⟩
theorem BH (hu : X.A.units + 20 < cLine) (ho : PE X o td) (he : PE X e ty) (hf : PE X f tx) (m : M2 X o "setdefault" apos e f cpos) : PE X (.Call (.Attribute o "setdefault" apos) [e, f] [] cpos) (FJ X.prog X.w X.K td ty tx) := by
 intro pins s Z H Q I h
 refine wpAny_Call_method m.base m.few m.line PySem.F.plainAttrs_dict PySem.F.slot_dict_setdefault PySem.F.type_dict_setdefault (cj (ho pins s Z H _ I h) λ u s1 y => ?_)
 obtain ⟨x, H1, I1, rx, a, ex, ⟨ys, es, ep, hys⟩, q1⟩ := y
 subst ex
 obtain rfl : u = Value.ref a := rx
 have r := (qz I1 hys).r
 refine ⟨r.ty, λ b z => ?_, ?_⟩
 ·cases z
  obtain ⟨ob, e1, e2, _⟩ := r.ex
  exact ⟨ob, e1, e2.2.1⟩
 rw [m.trees]
 refine Calls.callWith_builtin rfl (Calls.evalArgs_plain (Calls.spliced_cons (cj (he pins s1 Z H1 _ I1 q1) λ iv s2 y => ?_)))
 obtain ⟨y, H2, I2, ry, q2⟩ := y
 refine Calls.spliced_cons (cj (hf pins s2 Z H2 _ I2 q2) λ fv s3 z => Calls.spliced_nil ?_)
 obtain ⟨z, H3, I3, rz, xs, es, ep, t, b, l, hx, hk, hl, ey, iy, ky, ez, g1, g2⟩ := z
 subst ey ez
 obtain rfl : iv = Value.ref b := ry
 obtain rfl : fv = Value.ref l := rz
 have dd := FK I3 hx hk
 have hd := (qz I3 hx).d
 have hzr : (jF xs).length <= sizeLine := by unfold jF; rw [cI]; exact Nat.le_of_lt hl
 refine call_meetsIn PySem.F.slot_dict_setdefault dd.typeIs PySem.F.entry_dict_setdefault (PySem.F.args_dict_setdefault_3 _ _ _) (qA (gw X.prog X.w) a b (.ref l) hd) ⟨show X.A.units + 1 + 6 < cLine by lia, t, jF xs, ⟨iS I3 (mm ky) iy rfl, ky⟩, dd, hzr, λ p hp => ?_, λ hn h' dd' hs => ?_⟩
 ·rw [rB] at hp
  obtain ⟨p', hp', rfl⟩ := Option.map_eq_some_iff.mp hp
  exact ⟨.ref p'.2, H3, I3.tok _, rfl, g1 p' hp'⟩
 ·rw [rB, Option.map_eq_none_iff] at hn
  have e : jF xs ++ [(t, b, Value.ref l)] = jF (xs ++ [(t, b, l)]) := by unfold jF; rw [oM]; rfl
  rw [e] at dd'
  have ho : ∃ q, h'.get? a = some q := let ⟨q, _, _, hq, _⟩ := dd'; ⟨q, hq⟩
  obtain ⟨es', ep', ok⟩ := EY (xs := xs ++ [(t, b, l)]) (by rw [nh, List.length_singleton]; lia) hd dd'
  exact ⟨.ref l, _, I3.write (x := a) (e := a) (by rw [hx]; exact True.intro) (.inl rfl) (λ c q hc z => (hs.2 c hc).trans z) ho (ok _), rfl, g2 hn es' ep'⟩
theorem AQ {P : Program} {w : World} {K : Fg} (hP : X.prog = P) (hw : X.w = w) (hK : X.K = K) (hu : X.A.units + 20 < cLine) (ho : PE X o td) (hi : PE X i ty) (hs : Kx i) : PE X (.Subscript o i pos) (BS P w K td ty) := by
 subst hP hw hK
 intro pins s Z H Q I h
 refine ED PySem.F.slot_dict_getitem.lookup hs (cj (ho pins s Z H _ I h) λ u s1 y => ?_)
 obtain ⟨x, H1, I1, rx, q1⟩ := y
 refine cj (hi pins s1 Z H1 _ I1 q1) λ iv s2 y => ?_
 obtain ⟨y, H2, I2, ry, a, xs, es, ep, t, b, p, ex, hx, hk, ey, iy, ky, hp, q2⟩ := y
 subst ex ey
 obtain rfl : u = Value.ref a := rx
 obtain rfl : iv = Value.ref b := ry
 have dd := FK I2 hx hk
 exact ⟨dd.typeIs, wpAny_getItem_heap (knd := gw X.prog X.w) (show X.A.units + 1 + 6 < cLine by lia) ⟨iS I2 (mm ky) iy rfl, ky⟩ dd (p := (p.1, .ref p.2)) (by rw [rB, hp]; rfl) ⟨.ref p.2, H2, I2.tok _, rfl, q2⟩⟩
end
end L2
namespace L2
open PySem PySem.W PyProof.Rows
structure rS (n : Nat) (lt : Nat -> Nat -> Bool) : Prop where
 tr : ∀ i j k, i < n -> j < n -> k < n -> lt i j = true -> lt j k = true -> lt i k = true
 tot : ∀ i j, i < n -> j < n -> i ≠ j -> lt i j = false -> lt j i = true
 asy : ∀ i j, i < n -> j < n -> lt i j = true -> lt j i = false
noncomputable abbrev px (p : Array Nat) (i : Nat) : Nat := p.getD i 0
theorem om {p : Array Nat} {i : Nat} : px p i = (p[i]?).getD 0 := by simp [px]
theorem Ll {p q : Array Nat} {i j : Nat} (h : p[i]? = q[j]?) : px p i = px q j := by rw [om, om, h]
def jX (n : Nat) (p : Array Nat) : Prop := p.toList.Perm (List.range n)
section
variable {n : Nat} {lt : Nat -> Nat -> Bool} {p q : Array Nat} {i j : Nat} {s : Shared} {cmp : Nat -> Nat -> (Bool -> Shared -> Prop) -> Shared -> Prop}
theorem jX.size (h : jX n p) : p.size = n := by
 have := h.length_eq
 simpa using this
theorem jX.of (h : jX n p) (g : q.Perm p) : jX n q := (Array.perm_iff_toList_perm.mp g).trans h
theorem jX.at (h : jX n p) (hi : i < n) : ∃ hp : i < p.toList.length, px p i = p.toList[i] := by
 have hp : i < p.size := by rw [h.size]; exact hi
 exact ⟨by simpa using hp, by rw [om]; simp [hp]⟩
theorem jX.low (h : jX n p) (hi : i < n) : px p i < n := by
 obtain ⟨hp, e⟩ := h.at hi
 rw [e]
 exact List.mem_range.mp (h.mem_iff.mp (List.getElem_mem hp))
theorem jX.ne (h : jX n p) (hi : i < n) (hj : j < n) (hn : i ≠ j) : px p i ≠ px p j := by
 have nd : p.toList.Nodup := h.nodup_iff.mpr List.nodup_range
 obtain ⟨a, e1⟩ := h.at hi
 obtain ⟨b, e2⟩ := h.at hj
 rw [e1, e2]
 have pw := List.pairwise_iff_getElem.mp nd
 rcases Nat.lt_or_gt_of_ne hn with z | z
 ·exact pw i j a b z
 ·exact (pw j i b a z).symm
def iN (lt : Nat -> Nat -> Bool) (p : Array Nat) (b : Nat) : Prop := ∀ i j, i < j -> j < b -> lt (px p i) (px p j) = true
def yW (lt : Nat -> Nat -> Bool) (p : Array Nat) (b : Nat) : Prop := ∀ i j, i < j -> j < b -> lt (px p j) (px p i) = true
def HB (n : Nat) (lt : Nat -> Nat -> Bool) (cmp : Nat -> Nat -> (Bool -> Shared -> Prop) -> Shared -> Prop) (s : Shared) : Prop := ∀ i j C, i < n -> j < n -> i ≠ j -> C (lt i j) s -> cmp i j C s
theorem EK : iN lt p 1 := λ i j h g => by lia
theorem Cw (O : rS n lt) (P : jX n p) {x : Nat} (hx : 1 <= x) (hn : x < n) (h : iN lt p x) (c : lt (px p (x - 1)) (px p x) = true) : iN lt p (x + 1) := λ i j hij hj => by
 by_cases e : j < x
 ·exact h i j hij e
 obtain rfl : j = x := by lia
 by_cases e2 : i = j - 1
 ·rw [e2]; exact c
 ·exact O.tr _ _ _ (P.low (by lia)) (P.low (by lia)) (P.low hn) (h i (j - 1) (by lia) (by lia)) c
theorem sO (O : rS n lt) (P : jX n p) {x : Nat} (hx : 1 <= x) (hn : x < n) (h : yW lt p x) (c : lt (px p x) (px p (x - 1)) = true) : yW lt p (x + 1) := λ i j hij hj => by
 by_cases e : j < x
 ·exact h i j hij e
 obtain rfl : j = x := by lia
 by_cases e2 : i = j - 1
 ·rw [e2]; exact c
 ·exact O.tr _ _ _ (P.low hn) (P.low (by lia)) (P.low (by lia)) c (h i (j - 1) (by lia) (by lia))
theorem uO (O : rS n lt) (P : jX n p) (K : HB n lt cmp s) {Q : Nat -> Shared -> Prop} : ∀ (f x : Nat), 1 <= x -> x + f = n -> iN lt p x -> (∀ x', x <= x' -> x' <= n -> iN lt p x' -> (x' < n -> lt (px p x') (px p (x' - 1)) = true) -> Q x' s) -> KasT.kasWp cmp (kas_asc p f x) Q s
 | 0, x, h1, h2, ha, q => by
  rw [kas_asc.eq_1, KasT.kasWp.eq_1]
  exact q x (jo _) (by lia) ha λ z => by lia
 | f + 1, x, h1, h2, ha, q => by
  rw [show f + 1 = f.succ from rfl, kas_asc.eq_2, KasT.kasWp.eq_2]
  refine K _ _ _ (P.low (by lia)) (P.low (by lia)) (P.ne (by lia) (by lia) (by lia)) ?_
  cases c : lt (px p x) (px p (x - 1)) with
  | true =>
   rw [i9 rfl, KasT.kasWp.eq_1]
   exact q x (jo _) (by lia) ha λ _ => c
  | false =>
   rw [gS gV]
   exact uO O P K f (x + 1) (by lia) (by lia) (Cw O P h1 (by lia) ha (O.tot _ _ (P.low (by lia)) (P.low (by lia)) (P.ne (by lia) (by lia) (by lia)) c)) λ x' a b c d => q x' (by lia) b c d
theorem zY (O : rS n lt) (P : jX n p) (K : HB n lt cmp s) {Q : Array Nat × Nat × Nat -> Shared -> Prop} : ∀ (f x : Nat), 1 <= x -> x + f = n -> yW lt p x -> (∀ x', x <= x' -> x' <= n -> yW lt p x' -> Q (p, x', 0) s) -> KasT.kasWp cmp (kas_desc f p x 0) Q s
 | 0, x, h1, h2, ha, q => by
  rw [kas_desc.eq_1, KasT.kasWp.eq_1]
  exact q x (jo _) (by lia) ha
 | f + 1, x, h1, h2, ha, q => by
  rw [show f + 1 = f.succ from rfl, kas_desc.eq_2, KasT.kasWp.eq_2]
  refine K _ _ _ (P.low (by lia)) (P.low (by lia)) (P.ne (by lia) (by lia) (by lia)) ?_
  cases c : lt (px p x) (px p (x - 1)) with
  | true =>
   rw [i9 rfl, gS (by lia)]
   exact zY O P K f (x + 1) (by lia) (by lia) (sO O P h1 (by lia) ha c) λ x' a b c => q x' (by lia) b c
  | false =>
   rw [gS gV, KasT.kasWp.eq_2]
   refine K _ _ _ (P.low (by lia)) (P.low (by lia)) (P.ne (by lia) (by lia) (by lia)) ?_
   have d : lt (px p (x - 1)) (px p x) = true := O.tot _ _ (P.low (by lia)) (P.low (by lia)) (P.ne (by lia) (by lia) (by lia)) c
   show KasT.kasWp cmp (if lt (px p (x - 1)) (px p x) = true then _ else _) Q s
   rw [i9 d, KasT.kasWp.eq_1]
   exact q x (jo _) (by lia) ha
theorem EL (P : jX n p) {x : Nat} (hx : x <= n) (h : yW lt p x) : iN lt (kas_rev p 0 x) x /\ jX n (kas_rev p 0 x) := by
 refine ⟨λ i j hij hj => ?_, P.of (mirror_perm _ _ _ _)⟩
 have e : ∀ k, k < x -> px (kas_rev p 0 x) k = px p (x - 1 - k) := λ k hk => by
  refine Ll ?_
  unfold kas_rev
  rw [getElem?_mirror_all (by rw [P.size]; exact hx), i9 (by lia), Nat.zero_add]
 rw [e i (by lia), e j hj]
 exact h _ _ (by lia) (by lia)
theorem mC (P : jX n p) (O : rS n lt) (K : HB n lt cmp s) {Q : Nat -> Shared -> Prop} {k : Nat} (hk : k < n) : ∀ (f lo hi : Nat), lo <= hi -> hi <= k -> hi - lo <= f -> (∀ i, i < lo -> lt (px p i) (px p k) = true) -> (∀ i, hi <= i -> i < k -> lt (px p k) (px p i) = true) -> iN lt p k ->
  (∀ l, l <= k -> (∀ i, i < l -> lt (px p i) (px p k) = true) -> (∀ i, l <= i -> i < k -> lt (px p k) (px p i) = true) -> Q l s) -> KasT.kasWp cmp (kas_place p k f lo hi) Q s
 | 0, lo, hi, h1, h2, h3, ha, hb, _, q => by
  rw [kas_place.eq_1, KasT.kasWp.eq_1]
  exact q lo (by lia) ha λ i hi' => hb i (by lia)
 | f + 1, lo, hi, h1, h2, h3, ha, hb, hs, q => by
  rw [show f + 1 = f.succ from rfl, kas_place.eq_2]
  by_cases e : lo >= hi
  ·rw [i9 e, KasT.kasWp.eq_1]
   exact q lo (by lia) ha λ i hi' => hb i (by lia)
  rw [gS e, KasT.kasWp.eq_2]
  refine K _ _ _ (P.low hk) (P.low (by lia)) (P.ne hk (by lia) (by lia)) ?_
  cases c : lt (px p k) (px p ((lo + hi) / 2)) with
  | true =>
   rw [i9 rfl]
   refine mC P O K hk f lo ((lo + hi) / 2) (by lia) (by lia) (by lia) ha (λ i hi1 hi2 => ?_) hs q
   by_cases z : i = (lo + hi) / 2
   ·rw [z]; exact c
   ·exact O.tr _ _ _ (P.low hk) (P.low (by lia)) (P.low (by lia)) c (hs _ _ (by lia) hi2)
  | false =>
   rw [gS gV]
   have d : lt (px p ((lo + hi) / 2)) (px p k) = true := O.tot _ _ (P.low hk) (P.low (by lia)) (P.ne hk (by lia) (by lia)) c
   refine mC P O K hk f ((lo + hi) / 2 + 1) hi (by lia) h2 (by lia) (λ i hi1 => ?_) hb hs q
   by_cases z : i = (lo + hi) / 2
   ·rw [z]; exact d
   ·exact O.tr _ _ _ (P.low (by lia)) (P.low (by lia)) (P.low hk) (hs _ _ (by lia) (by lia)) d
theorem Eh (P : jX n p) {k l : Nat} (hk : k < n) (hl : l <= k) (hs : iN lt p k) (ha : ∀ i, i < l -> lt (px p i) (px p k) = true) (hb : ∀ i, l <= i -> i < k -> lt (px p k) (px p i) = true) : iN lt (bubble p k (k - l)) (k + 1) /\ jX n (bubble p k (k - l)) := by
 refine ⟨λ i j hij hj => ?_, P.of (bubble_perm _ _ _)⟩
 have e : ∀ m, px (bubble p k (k - l)) m = if m = l then px p k else if l < m /\ m <= k then px p (m - 1) else px p m := λ m => by
  rw [om, getElem?_bubble (by rw [P.size]; exact hk) _ (by lia), show k - (k - l) = l by lia]
  split
  ·rw [om]
  split <;> rw [om]
 rw [e i, e j]
 by_cases z1 : i = l
 ·rw [i9 z1, gS (by lia), i9 (by lia)]
  exact hb _ (by lia) (by lia)
 rw [gS z1]
 by_cases z2 : l < i /\ i <= k
 ·rw [i9 z2, gS (by lia), i9 (by lia)]
  exact hs _ _ (by lia) (by lia)
 rw [gS z2]
 by_cases z3 : j = l
 ·rw [i9 z3]
  exact ha i (by lia)
 rw [gS z3]
 by_cases z4 : l < j /\ j <= k
 ·rw [i9 z4]
  exact hs _ _ (by lia) (by lia)
 ·rw [gS z4]
  exact hs _ _ hij (by lia)
theorem BM (O : rS n lt) (K : HB n lt cmp s) {Q : Array Nat -> Shared -> Prop} : ∀ (f : Nat) (p : Array Nat) (k : Nat), jX n p -> k + f = n -> iN lt p k -> (∀ p', jX n p' -> iN lt p' n -> Q p' s) -> KasT.kasWp cmp (kas_bin f p k) Q s
 | 0, p, k, P, h, ha, q => by
  rw [kas_bin.eq_1, KasT.kasWp.eq_1]
  exact q p P (by rw [show n = k by lia]; exact ha)
 | f + 1, p, k, P, h, ha, q => by
  rw [show f + 1 = f.succ from rfl, kas_bin.eq_2, KasT.kasWp_bind]
  refine mC P O K (by lia) k 0 k (by lia) (by lia) (by lia) (λ i hi => by lia) (λ i h1 h2 => by lia) ha λ l hl h1 h2 => ?_
  obtain ⟨a, b⟩ := Eh P (by lia) hl ha h1 h2
  exact BM O K f _ (k + 1) b (by lia) a q
theorem DT (O : rS n lt) (K : HB n lt cmp s) (hn : 2 <= n) {Q : Array Nat -> Shared -> Prop} (q : ∀ p', jX n p' -> iN lt p' n -> Q p' s) : KasT.kasWp cmp (kas_sort n) Q s := by
 have P0 : jX n (List.range n).toArray := by unfold jX; exact List.Perm.refl _
 unfold kas_sort
 rw [KasT.kasWp_bind]
 have fin : ∀ (m : Nat) (p : Array Nat), 1 <= m -> m <= n -> jX n p -> iN lt p m -> KasT.kasWp cmp (if (m, p).fst < n then kas_bin (n - max (m, p).fst 1) (m, p).snd (max (m, p).fst 1) else KasT.ret (m, p).snd) Q s := λ m p h1 h2 P ha => by
  dsimp only
  rw [show max m 1 = m by lia]
  by_cases e : m < n
  ·rw [i9 e]
   exact BM O K _ _ _ P (by lia) ha q
  ·rw [gS e, KasT.kasWp.eq_1]
   exact q p P (by rw [show n = m by lia]; exact ha)
 unfold kas_count
 rw [KasT.kasWp_bind]
 refine uO O P0 K (n - 1) 1 (by lia) (by lia) EK λ m m1 m2 ha hs => ?_
 by_cases e : m = n
 ·rw [i9 (by rw [e]; exact beq_self_eq_true n), KasT.kasWp.eq_1]
  exact fin m _ m1 m2 P0 ha
 rw [gS (λ z => e (beq_iff_eq.mp z))]
 by_cases e2 : m > 1
 ·rw [i9 e2, KasT.kasWp.eq_2]
  refine K _ _ _ (P0.low (by lia)) (P0.low (by lia)) (P0.ne (by lia) (by lia) (by lia)) ?_
  have c := ha 0 (m - 1) (by lia) (by lia)
  show KasT.kasWp cmp (if lt (px _ 0) (px _ (m - 1)) = true then _ else _) _ s
  rw [i9 c, KasT.kasWp.eq_1]
  exact fin m _ m1 m2 P0 ha
 rw [gS e2]
 obtain rfl : m = 1 := by lia
 have c := hs (by lia)
 rw [kas_descPart.eq_1, KasT.kasWp_bind]
 have d2 : yW lt (List.range n).toArray (1 + 1) := sO O P0 (by lia) (by lia) (λ i j a b => by lia) c
 refine zY O P0 K (n - (1 + 1)) (1 + 1) (by lia) (by lia) d2 λ x x1 x2 hd => ?_
 dsimp only
 rw [gS (by lia)]
 unfold kas_tail3
 rw [KasT.kasWp_bind]
 obtain ⟨a, b⟩ := EL P0 x2 hd
 refine uO O b K (n - x) x (by lia) (by lia) a λ m' h1 h2 h3 _ => ?_
 rw [KasT.kasWp.eq_1]
 exact fin m' _ (by lia) h2 b h3
end
end L2
namespace L2
open PySem PySem.Spec PyProof.Rows PySem.W
def dJ {κ α : Type} (r : κ -> κ -> Bool) (kz : List κ) (xs ys : List α) : Prop := ∃ ps : List (κ × α), ps.Perm (kz.zip xs) /\ ys = ps.map Prod.snd /\ (ps.map Prod.fst).Pairwise (λ p q => r p q = true)
structure eL {κ : Type} (r : κ -> κ -> Bool) : Prop where
 tr : ∀ a b c, r a b = true -> r b c = true -> r a c = true
 tot : ∀ a b, a ≠ b -> r a b = false -> r b a = true
 asy : ∀ a b, r a b = true -> r b a = false
def lt2 (p q : Int × Int) : Bool := if p.1 = q.1 then decide (p.2 < q.2) else decide (p.1 < q.1)
theorem dY : eL lt2 where
 tr := λ a b c h g => by
  unfold lt2 at *
  split at h <;> split at g <;> simp only [sa] at h g <;> split <;> simp only [sa] <;> lia
 tot := λ a b h g => by
  unfold lt2 at *
  have : ¬ (a.1 = b.1 /\ a.2 = b.2) := λ z => h (Prod.ext z.1 z.2)
  split at g <;> simp only [decide_eq_false_iff_not] at g <;> split <;> simp only [sa] <;> lia
 asy := λ a b h => by
  unfold lt2 at *
  split at h <;> simp only [sa] at h <;> split <;> simp only [decide_eq_false_iff_not] <;> lia
theorem Ek {κ : Type} {r : κ -> κ -> Bool} (S : eL r) {kz : List κ} {d : κ} (nd : kz.Nodup) : rS kz.length (λ i j => r (kz.getD i d) (kz.getD j d)) where
 tr := λ i j k _ _ _ => S.tr _ _ _
 tot := λ i j hi hj hn => S.tot _ _ λ z => hn (by
  rw [nO, nO, dM hi, dM hj] at z
  have z : kz[i] = kz[j] := z
  have pw := List.pairwise_iff_getElem.mp nd
  rcases Nat.lt_trichotomy i j with y | y | y
  ·exact absurd z (pw i j hi hj y)
  ·exact y
  ·exact absurd z.symm (pw j i hj hi y))
 asy := λ i j _ _ => S.asy _ _
theorem Du {κ α : Type} {r : κ -> κ -> Bool} {kz : List κ} {vs : List α} {d : κ} {e : α} {p : Array Nat} (hl : kz.length = vs.length) (P : jX kz.length p) (h : iN (λ i j => r (kz.getD i d) (kz.getD j d)) p kz.length) : dJ r kz vs (p.toList.map λ i => vs.getD i e) := by
 refine ⟨p.toList.map λ i => (kz.getD i d, vs.getD i e), ?_, by rw [q9]; rfl, ?_⟩
 ·have z : (List.range kz.length).map (λ i => (kz.getD i d, vs.getD i e)) = kz.zip vs := by
   refine List.ext_getElem (by rw [cI, List.length_range, List.length_zip, hl, Nat.min_self]) λ i h1 h2 => ?_
   have hi : i < kz.length := by simpa using h1
   have hj : i < vs.length := by lia
   simp [hi, hj]
  rw [<- z]
  exact P.map _
 ·rw [q9, List.pairwise_map]
  refine List.pairwise_iff_getElem.mpr λ i j hi hj hij => ?_
  have hi : i < p.size := by simpa using hi
  have hj : j < p.size := by simpa using hj
  have := h i j hij (by rw [<- P.size]; exact hj)
  simp only [om] at this
  simpa [hi, hj] using this
section
variable {X : Cx} {pins : Pn} {Z : St} {H : Hp} {s : Shared} {A : Around} {f : Value} {vs : List Value} {kz : List (Int × Int)} {kS a : Addr} {e1 : Nat} {R : PySem.Fin -> Shared -> Prop} {E : Value -> Shared -> Prop}
theorem uK.now {H' : Hp} {it : Addr} (m : uK X H it) (h : H' it = none) : uK X H' it := ⟨h, m.l, m.f, m.a, m.c, m.p⟩
theorem yw {M : Model} {h : Heap} {z : Int} {t : Tok} : Looks M h (typeOf (.int z t)) (.type "int") := λ A Q E s _ q => by
 first | exact q | exact fh q | (unfold typeOf; exact fh q)
theorem pf {κ : Type} {r : κ -> κ -> Bool} {kz : List κ} {xs : List V} {vs out : List Value} (r' : aM xs vs) (h : dJ r kz vs out) : ∃ ys, aM ys out /\ dJ r kz xs ys := by
 obtain ⟨qs, hp, rfl, hs⟩ := h
 have z : Paired (λ (p : κ × V) (q : κ × Value) => p.1 = q.1 /\ bh p.2 q.2) (kz.zip xs) (kz.zip vs) := by
  clear hp hs
  induction r' generalizing kz with
  | nil => cases kz <;> exact .nil
  | cons h _ ih =>
   cases kz with
   | nil => exact .nil
   | cons k kz => exact .cons ⟨rfl, h⟩ ih
 obtain ⟨ps, a, c⟩ := qJ hp z
 have sn : ∀ {ps : List (κ × V)} {qs : List (κ × Value)}, Paired (λ (p : κ × V) (q : κ × Value) => p.1 = q.1 /\ bh p.2 q.2) ps qs -> aM (ps.map Prod.snd) (qs.map Prod.snd) /\ ps.map Prod.fst = qs.map Prod.fst := λ {ps qs} c => by
  induction c with
  | nil => exact ⟨.nil, rfl⟩
  | cons h _ ih => exact ⟨.cons h.2 ih.1, by rw [kw, kw, h.1, ih.2]⟩
 obtain ⟨d, e⟩ := sn c
 exact ⟨_, d, ps, a, rfl, by rw [e]; exact hs⟩
end
end L2
namespace L2
open PySem PySem.Spec PyProof.Rows
variable {κ : Type} {K : Fg} {F : Hp}
theorem Fz : ∀ {vs : List V} {ts : List Tr} (kz : List κ), IsL K F vs ts -> Paired (λ (p : κ × Tr) (q : κ × V) => p.1 = q.1 /\ Is K F q.2 p.2) (kz.zip ts) (kz.zip vs)
 | _, _, [], _ => .nil
 | _, _, _ :: _, .nil => .nil
 | _, _, _ :: kz, .cons h g => .cons ⟨rfl, h⟩ (Fz kz g)
theorem KJ : ∀ {ps : List (κ × Tr)} {qs : List (κ × V)}, Paired (λ (p : κ × Tr) (q : κ × V) => p.1 = q.1 /\ Is K F q.2 p.2) ps qs -> IsL K F (qs.map Prod.snd) (ps.map Prod.snd) /\ ps.map Prod.fst = qs.map Prod.fst := by
 intro ps qs c
 induction c with
 | nil => exact ⟨.nil, rfl⟩
 | cons h _ ih => exact ⟨.cons h.2 ih.1, by rw [kw, kw, h.1, ih.2]⟩
theorem zQ {r : κ -> κ -> Bool} {kz : List κ} {xs ys : List V} {ts : List Tr} (l : IsL K F xs ts) (h : dJ r kz xs ys) : ∃ us, IsL K F ys us /\ dJ r kz ts us := by
 obtain ⟨qs, hp, rfl, hs⟩ := h
 obtain ⟨ps, a, c⟩ := qJ hp (Fz kz l)
 obtain ⟨d, e⟩ := KJ c
 exact ⟨_, d, ps, a, rfl, by rw [e]; exact hs⟩
end L2
namespace L2
open PySem PySem.Spec PyProof.Rows PySem.W PySem.Calls
def xr (K : Fg) (H : Hp) (kz : List (Int × Int)) (xs : List V) : Prop := kz.length = xs.length /\ ∀ (i : Nat) (k : Int × Int), kz[i]? = some k -> ∃ q ys, xs[i]? = some (.ref q) /\ bq K H q (.int k.1 :: .int k.2 :: ys)
def Fh (K : Fg) : List V -> Hp -> VK -> Prop := λ xs H Q => ∃ (p : Addr) (rs : List V) (kz : List (Int × Int)), xs = [.ref p] /\ aZ K H p rs /\ xr K H kz rs /\ kz.Nodup /\ rs.length < 64 /\ ∀ (l : Addr) (ys : List V), H l = none -> dJ lt2 kz rs ys -> Q (.ref l) (upd H l (.lst ys))
section
variable {X : Cx} {pins : Pn} {Z : St} {H : Hp} {s : Shared} {A : Around} {vs : List Value} {kz : List (Int × Int)} {a : Addr} {R : PySem.Fin -> Shared -> Prop} {E : Value -> Shared -> Prop} {prog : Program} {w : World}
theorem zT (hk : kz.length = vs.length) (nd : kz.Nodup) (h : ∀ (i : Nat) (k : Int × Int), kz[i]? = some k -> ∃ q o t u r c, vs[i]? = some (.ref q) /\ s.heap.get? q = some o /\ o.data = .seq (.int k.1 t :: .int k.2 u :: r).toArray c) :
  HB kz.length (λ i j => lt2 (kz.getD i (0, 0)) (kz.getD j (0, 0))) (kas_ask prog w A (tuples' true) vs) s := λ i j C hi hj hij q => by
 obtain ⟨ki, ei⟩ : ∃ k, kz[i]? = some k := ⟨_, dM hi⟩
 obtain ⟨kj, ej⟩ : ∃ k, kz[j]? = some k := ⟨_, dM hj⟩
 obtain ⟨q1, o1, t1, w1, u1, c1, a1, b1, d1⟩ := h i ki ei
 obtain ⟨q2, o2, t2, w2, u2, c2, a2, b2, d2⟩ := h j kj ej
 have z1 : kz.getD i (0, 0) = ki := by rw [nO, ei]; rfl
 have z2 : kz.getD j (0, 0) = kj := by rw [nO, ej]; rfl
 have q : C (lt2 ki kj) s := by rw [<- z1, <- z2]; exact q
 have ne : ki ≠ kj := λ z => by
  have pw := List.pairwise_iff_getElem.mp nd
  have e1 : kz[i] = ki := by rw [dM hi] at ei; exact nS ei
  have e2 : kz[j] = kj := by rw [dM hj] at ej; exact nS ej
  rcases Nat.lt_or_gt_of_ne hij with y | y
  ·exact pw i j hi hj y (by rw [e1, e2, z])
  ·exact pw j i hj hi y (by rw [e1, e2, z])
 show wpAny _ _ (keyLt' (tuples' true) (vs.getD i .none) (vs.getD j .none)) C _ s
 rw [show vs.getD i Value.none = .ref q1 by rw [nO, a1]; rfl, show vs.getD j Value.none = .ref q2 by rw [nO, a2]; rfl]
 refine kat_lt b1 d1 b2 d2 ?_
 rw [List.toList_toArray, List.toList_toArray, List.zip_cons_cons, List.zip_cons_cons]
 refine kat_cons (wpAny_eqBool_int ?_)
 unfold lt2 at q
 by_cases e : ki.1 = kj.1
 ·rw [i9 e] at q
  rw [show (ki.1 == kj.1) = true from beq_iff_eq.mpr e]
  refine kat_yes (kat_cons (wpAny_eqBool_int ?_))
  have e2 : ki.2 ≠ kj.2 := λ z => ne (Prod.ext e z)
  rw [show (ki.2 == kj.2) = false from beq_eq_false_iff_ne.mpr e2]
  exact kat_no (kat_one _ _ (wpAny_lt_int q))
 ·rw [gS e] at q
  rw [show (ki.1 == kj.1) = false from beq_eq_false_iff_ne.mpr e]
  exact kat_no (oneLt_int q)
theorem yc {Q : SortKind -> Shared -> Prop} : (hk : kz.length = vs.length) -> (h2 : 2 <= vs.length) -> (h : ∀ (i : Nat) (k : Int × Int), kz[i]? = some k -> ∃ q o t u r c, vs[i]? = some (.ref q) /\ s.heap.get? q = some o /\ o.cls = .type "tuple" /\ o.data = .seq (.int k.1 t :: .int k.2 u :: r).toArray c) -> Q (tuples' true) s ->
  wpAny (model prog w) A (keyKind' vs.toArray) Q E s := λ hk h2 h q => by
 have tups : ∀ (ks : List Value) (kz : List (Int × Int)), kz.length = ks.length -> (∀ (i : Nat) (k : Int × Int), kz[i]? = some k -> ∃ q o t u r c, ks[i]? = some (.ref q) /\ s.heap.get? q = some o /\ o.cls = .type "tuple" /\ o.data = .seq (.int k.1 t :: .int k.2 u :: r).toArray c) -> ∃ fs, KatTups s.heap ks fs /\ fs.length = ks.length /\ ∀ v ∈ fs, ∃ z t, v = Value.int z t := by
  intro ks
  induction ks with
  | nil => intro kz hk h; exact ⟨[], by rw [KatTups.eq_1]; trivial, rfl, λ _ z => nomatch z⟩
  | cons v r ih =>
   intro kz hk h
   cases kz with
   | nil => cases hk
   | cons k kz =>
    obtain ⟨q, o, t, _, u, c, e, g, cl, d⟩ := h 0 k rfl
    obtain rfl : v = .ref q := by simpa using e
    obtain ⟨fs, a1, a2, a3⟩ := ih kz (by simpa using hk) λ i k' hi => by
     obtain ⟨q, o, t, w, u, c, e, g⟩ := h (i + 1) k' (by simpa using hi)
     exact ⟨q, o, t, w, u, c, by simpa using e, g⟩
    exact ⟨.int k.1 t :: fs, KatTups.cons g cl d rfl a1, by simp [a2], λ v hv => by
     rcases j8.mp hv with rfl | hv
     ·exact ⟨_, _, rfl⟩
     ·exact a3 v hv⟩
 obtain ⟨fs, a1, a2, a3⟩ := tups vs kz hk h
 refine kat_kind (T := .type "int") a1 (by lia) (λ v hv => ?_) (by decide) ?_
 ·obtain ⟨z, t, rfl⟩ := a3 v hv
  exact yw
 ·rw [show ((Value.type "int" != Value.type "tuple") : Bool) = true by decide]
  exact q
theorem zG (I : Inv X pins Z H s) {xs : List V} (r : xr X.K H kz xs) (v : aM xs vs) (i : Nat) (k : Int × Int) (h : kz[i]? = some k) : ∃ q o t u r c, vs[i]? = some (.ref q) /\ s.heap.get? q = some o /\ o.cls = .type "tuple" /\ o.data = .seq (.int k.1 t :: .int k.2 u :: r).toArray c := by
  obtain ⟨q, ys, e, hq⟩ := r.2 i k h
  obtain ⟨its, v2, ⟨o, ho, cl, c, d⟩, _⟩ := I.tuple hq
  cases v2 with
  | @cons _ u _ its r1 v3 =>
   cases v3 with
   | @cons _ u2 _ its r2 _ =>
    obtain ⟨t, rfl⟩ := r1
    obtain ⟨t2, rfl⟩ := r2
    refine ⟨q, o, t, t2, its, c, ?_, ho, cl, d⟩
    have hi : i < vs.length := by
      have := v.length
      have := (j3.mp e).1
      lia
    obtain ⟨x, hx, rx⟩ := wq v (dM hi)
    rw [e] at hx
    cases hx
    have rx : vs[i] = .ref q := rx
    rw [dM hi, rx]
noncomputable def nK (a : Addr) (e1 : Nat) (st : SortSt) : Sem PySem.Fin := have sorted := Array.map (λ x => x.snd) (arrOf st); do
 let __do_lift <- seqEpoch a
 have touched : Bool := __do_lift != e1
 Builtin.List.listUpdate (Value.ref a) λ x => sorted
 have __do_jp : Unit -> Sem PySem.Fin := λ __r =>
  have __do_jp := λ __r => ret Value.none
  if touched = true then do
   rule "list.sort.modified"
   let __r <- raiseErrorWords "ValueError" "list modified during sort"
   __do_jp __r
  else __do_jp ()
 match failedOf st with
  | some e => do
   rule "list.sort.comparison-raised"
   let __r <- throw e
   __do_jp __r
  | x => __do_jp ()
theorem tP {n : Nat} {xs : List V} (I : Inv X ((a, seqObj "list" vs.toArray n) :: pins) Z H s) (ma : uK X H a) (hn : ∀ p ∈ pins, p.1 ≠ a) (v : aM xs vs) (r : xr X.K H kz xs) (h64 : vs.length < 64) (nd : kz.Nodup)
  (fin : ∀ s' out c, Inv X ((a, seqObj "list" out c) :: pins) Z H s' -> dJ lt2 kz vs out.toList -> R (.done (.ret .none)) s') :
  wpAny (model X.prog X.w) A (Builtin.«list.sort» ⟨[.ref a], []⟩) R E s := by
 have hlen : kz.length = vs.length := r.1.trans v.length
 have pa := I.pin (a, seqObj "list" vs.toArray n) (j9 _ (.head _))
 have s1 := Heap.SameBut.update s.heap a (Obj.mapSeq λ _ => (#[] : Array Value))
 obtain ⟨e1, ho1⟩ : ∃ e1, (s.heap.update a (Obj.mapSeq λ _ => (#[] : Array Value))).get? a = some (seqObj "list" #[] e1) := ⟨_, get?_update_seq pa.1 λ _ => #[]⟩
 have I1 : Inv X ((a, seqObj "list" #[] e1) :: pins) Z H { s with heap := s.heap.update a (Obj.mapSeq λ _ => (#[] : Array Value)) } := I.repin (t' := s.toks) ma (λ b o n g => (s1.2 b n).trans g) ho1 qC λ p hp => by
  rcases j8.mp hp with rfl | hp
  ·exact .inl rfl
  ·exact .inr ⟨.tail _ hp, hn p hp⟩
 have sz : vs.length <= sizeLine := by rw [sizeLine_eq]; lia
 rw [list_sort_plain]
 refine cx (listItems_at pa.1 rfl ?_)
 refine cx (listUpdate_at pa.1 rfl ?_ (by rw [ja]; exact sz) (Nat.zero_le _))
 refine cx (seqEpoch_at ho1 rfl (cx (wpAny_newTuple ?_ (by simpa using sz))))
 have I2 : Inv X ((a, seqObj "list" #[] e1) :: pins) Z H { s with heap := (s.heap.update a (Obj.mapSeq λ _ => (#[] : Array Value))).push (seqObj "tuple" vs.toArray 0) } := I1.kept (t' := s.toks) λ b u e => e9 _ e
 refine cx (wpAny_newList (wpAny_holding ?_) (Nat.zero_le _))
 have I3 : Inv X ((a, seqObj "list" #[] e1) :: pins) Z H { s with heap := ((s.heap.update a (Obj.mapSeq λ _ => (#[] : Array Value))).push (seqObj "tuple" vs.toArray 0)).push (seqObj "list" #[] 0) } := I2.kept (t' := s.toks) λ b u e => e9 _ e
 generalize hs3 : ({ s with heap := ((s.heap.update a (Obj.mapSeq λ _ => (#[] : Array Value))).push (seqObj "tuple" vs.toArray 0)).push (seqObj "list" #[] 0) } : Shared) = s3 at I3 ⊢
 have fin2 : ∀ out : List Value, dJ lt2 kz vs out -> ∀ st : SortSt, (arrOf st).map (λ x => x.snd) = out.toArray -> failedOf st = none -> wpAny (model X.prog X.w) A (nK a e1 st) R E s3 := λ out ho st e1' e2 => by
  have pa3 := I3.pin (a, seqObj "list" #[] e1) (j9 _ (.head _))
  have ol : out.length = vs.length := by
   obtain ⟨ps, p1, rfl, _⟩ := ho
   rw [cI, p1.length_eq, List.length_zip]; lia
  unfold nK
  dsimp only
  rw [e1', e2]
  refine cx (seqEpoch_at pa3.1 rfl (cx (listUpdate_at pa3.1 rfl ?_ (Nat.zero_le _) (by rw [ja, ol]; exact Nat.le_succ_of_le sz))))
  rw [show (e1 != e1) = false from bne_self_eq_false ..]
  dsimp only
  rw [gS gV]
  have s4 := Heap.SameBut.update s3.heap a (Obj.mapSeq λ _ => out.toArray)
  obtain ⟨c2, hc2⟩ : ∃ c2, (s3.heap.update a (Obj.mapSeq λ _ => out.toArray)).get? a = some (seqObj "list" out.toArray c2) := ⟨_, get?_update_seq pa3.1 λ _ => out.toArray⟩
  refine fh (fin _ out.toArray c2 (I3.repin (t' := s3.toks) ma (λ b o n g => (s4.2 b n).trans g) hc2 qC λ p hp => ?_) (by simpa using ho))
  rcases j8.mp hp with rfl | hp
  ·exact .inl rfl
  ·exact .inr ⟨.tail _ hp, hn p hp⟩
 have ez : ∀ p : Array Nat, (Array.map (kas_item (vs.toArray.zip vs.toArray)) p).map (λ x => x.snd) = (p.toList.map λ i => vs.getD i Value.none).toArray := λ p => by
  have : kas_item (vs.toArray.zip vs.toArray) = λ i => (vs.getD i Value.none, vs.getD i Value.none) := funext λ i => kat_item rfl i
  rw [this]
  apply Array.toList_inj.mp
  simp
 dsimp only
 by_cases h2 : vs.toArray.size < 2
 ·rw [i9 h2]
  refine cx (fh ?_)
  rw [i9 h2]
  refine cx (fh ?_)
  have hv2 : vs.length < 2 := by simpa using h2
  have ex : (vs.toArray.zip vs.toArray).map (λ x => x.snd) = vs.toArray := by
   apply Array.toList_inj.mp
   rw [Array.toList_map, Array.toList_zip, List.map_snd_zip (by simp)]
  refine fin2 vs ⟨kz.zip vs, List.Perm.refl _, (List.map_snd_zip (by lia)).symm, ?_⟩ _ ex rfl
  rw [List.map_fst_zip (by lia)]
  match kz, hlen with
  | [], _ => exact .nil
  | [k], _ => exact List.pairwise_singleton _ _
  | _ :: _ :: _, hl => simp at hl; lia
 ·rw [gS h2]
  have hv2 : 2 <= vs.length := by simpa using Nat.le_of_not_lt h2
  have at3 := zG I3 r v
  refine cx (yc hlen hv2 at3 ?_)
  rw [gS h2]
  have nd3 : HB kz.length (λ i j => lt2 (kz.getD i (0, 0)) (kz.getD j (0, 0))) (kas_ask X.prog X.w A (tuples' true) vs) s3 := zT hlen nd λ i k hi => by
   obtain ⟨q, o, t, w, r, c, e, g, _, d⟩ := at3 i k hi
   exact ⟨q, o, t, w, r, c, e, g, d⟩
  refine cx (kat_run (ks := vs) (vs := vs) (G := λ p s' => s' = s3 /\ jX kz.length p /\ iN (λ i j => lt2 (kz.getD i (0, 0)) (kz.getD j (0, 0))) p kz.length) (Q := λ st s' => wpAny (model X.prog X.w) A (nK a e1 st) R E s') rfl hv2 h64 (λ p st' s' hp ha hf hg => ?_) ?_)
  ·obtain ⟨rfl, P, hs⟩ := hg
   exact fin2 _ (Du (d := (0, 0)) hlen P hs) st' (by rw [ha]; exact ez p) hf
  ·rw [<- hlen]
   exact DT (Ek dY nd) nd3 (by lia) λ p' P h => ⟨rfl, P, h⟩
theorem js (l : Addr) : argsOk "sorted" ⟨[.ref l], []⟩ := by
 first | trivial | rfl | decide | (unfold argsOk; trivial) | simp [argsOk]
theorem lD (l : Addr) : argsOk "list.sort" ⟨[.ref l], []⟩ := by
 first | trivial | rfl | decide | (unfold argsOk; trivial) | simp [argsOk]
theorem pT : cz X (.builtin "sorted") (Fh X.K) := by
 intro pins s Z H xs us Q I r h
 obtain ⟨p, rs, kz, rfl, hq, hr, nd, h64, q⟩ := h
 obtain ⟨u, rfl, ru⟩ := r.one
 cases ru
 obtain ⟨its, v, pl, _⟩ := I.list hq
 have elen : its.length = rs.length := v.length.symm
 have sz : its.length <= sizeLine := by rw [sizeLine_eq]; lia
 refine call_function_entry_kw kind_sorted plain_sorted entry_sorted (js p) ?_
 unfold Builtin.«sorted»
 refine cx (m := checkCount "sorted" 1 1 _) (fh ?_)
 refine cx (collect_list (PlainL.isList pl) ?_ sz)
 refine cx (wpAny_newList ?_ (by simpa using sz))
 have I1 : Inv X pins Z H { s with heap := (s.heap.push (seqObj "list" #[] 0)).update s.heap.objs.size (Obj.mapSeq (· ++ its.toArray)) } := I.kept (t' := s.toks) λ b u e => by
  have hlt : b ≠ s.heap.objs.size := uS (j5 e)
  rw [Heap.get?_update_ne _ _ _ _ hlt]
  exact e9 _ e
 have I2 := I1.pushed (o' := seqObj "list" its.toArray 0) (t' := s.toks) rfl qC
 have m2 := I1.mine (jo _)
 have ho := (I2.pin (_, seqObj "list" its.toArray 0) (j9 _ (.head _))).1
 refine cx (wpAny_holding (wpAny_call_entry_kw slot_list_sort ⟨_, ho, rfl⟩ entry_list_sort ?body (lD _)))
 case body =>
  refine tP (xs := rs) (vs := its) (kz := kz) I2 m2 (I1.old (jo _)) v hr (by lia) nd λ s' out c I' k' => ⟨_, rfl, fh ⟨_, rfl, ?_⟩⟩
  obtain ⟨ys, ry, hy⟩ := pf v k'
  have hlo : ys.length <= sizeLine := by
   obtain ⟨ps, p1, rfl, _⟩ := hy
   rw [cI, p1.length_eq, List.length_zip, sizeLine_eq]
   lia
  have pa := I'.pin _ (j9 _ (.head _))
  have I3 : Inv X pins Z H s' := I'.pins_of λ p hp => I'.pin p (j9 _ (.tail _ hp))
  exact ⟨.ref _, _, I3.trackL (o := .lst ys) (m2.now pa.2.1) (I1.old (jo _)) ⟨hlo, out.toList, c, ry, by rw [Array.toArray_toList]; exact pa.1⟩, rfl, q _ _ pa.2.1 hy⟩
def xA (K : Fg) (H : Hp) (kz : List (Int × Int)) (xs : List KN) : Prop := kz.length = xs.length /\ ∀ (i : Nat) (k : Int × Int), kz[i]? = some k -> ∃ x, xs[i]? = some x /\ bq K H x.2.1 [.int k.1, .int k.2]
theorem xA.rows {K : Fg} {xs : List KN} (h : xA K H kz xs) : xr K H kz (xs.map λ x => V.ref x.2.1) := ⟨by rw [cI]; exact h.1, λ i k hk => by
 obtain ⟨x, hx, hs⟩ := h.2 i k hk
 exact ⟨x.2.1, [], by rw [jb, hx]; rfl, hs⟩⟩
variable {d : Addr} {es : Array DictEntry} {ep : Nat}
theorem xP {A : Around} {I : Addr} (hh : A.handled = none) (nI : I ≠ d) : Walks prog w A I [I, d] [I] es.size (λ i v => ∃ e, es[i]? = some e /\ v = e.key) (λ i h => h.IsKeyIter I d i es.size ep /\ mG h d es ep) where
 sub := λ b hb => by rw [j7] at hb; rw [hb]; exact kv
 frame := λ i h h' st k => by
  obtain ⟨⟨o, e, c, dd⟩, r⟩ := st
  exact ⟨⟨o, k I kv o e, c, dd⟩, r.to (k d (n8 _ kv))⟩
 item := λ i s Q E hi st q => by
  refine DS st.1 st.2 (Array.getElem?_eq_getElem hi) λ h' st' sb => ?_
  refine q es[i].key h' s.toks ⟨_, Array.getElem?_eq_getElem hi, rfl⟩ ⟨st', st.2.to λ o e => (sb.2 d (Ne.symm nI)).trans e⟩ λ b o hb e => (sb.2 b λ z => hb (by rw [z]; exact j7.mpr rfl)).trans e
 done := λ s Q E st q => by
  refine HU hh st.1 st.2 (jo _) λ h' eb => ?_
  exact q h' s.toks λ b o hb e => eb b o (λ z => hb (by rw [z]; exact j7.mpr rfl)) e
 self := λ i s Q E st q => wpAny_pyIter_keyiter st.1 q
theorem yD {prog : Program} {w : World} {Q : Value -> Shared -> Prop} (hd : (d == sysModules) = false) (hm : mG s.heap d es ep)
  (q : Q (.ref s.heap.objs.size) { s with heap := s.heap.push { cls := .type "dict_keyiterator", data := .fields #[.ref d, .int 0 0, .int es.size 0, .int ep 0] } }) : wpAny (model prog w) A (pyIter (.ref d)) Q E s := by
 have hT := hm.ty
 obtain ⟨o, ho, hc, hdat⟩ := hm.ex
 refine wpAny_pyIter_slot hT PySem.F.slot_dict_iter (wpAny_call_entry PySem.F.slot_dict_iter hT PySem.F.entry_dict_iter ?_ (PySem.F.args_dict_iter_1 _))
 unfold Builtin.«dict.__iter__»
 refine cx ?_
 unfold Builtin.Dict.dictSlotNone
 refine cx (wpAny_notOrdered_dict hT (show wpAny _ _ (pure (Value.ref d)) _ _ s from fh ?_))
 show wpAny _ _ (Builtin.Dict.showsAll d >>= _) _ _ s
 unfold Builtin.Dict.showsAll
 rw [hd, gS gV]
 refine cx (fh (cx (wpAny_dictEntries ho hdat (cx (wpAny_dictEpoch ho hdat ?_)))))
 refine cx (uY (fh ⟨_, rfl, "dict_keyiterator", _, ⟨_, m8 _ rfl, rfl⟩, PySem.F.slot_dict_keyiterator_next.lookup, ?_⟩))
 exact q
theorem DE (lo : (d == sysModules) = false) : KdlSrc prog w "dict" d d es.size (λ i v => ∃ e, es[i]? = some e /\ v = e.key) (λ h => mG h d es ep) where
 type := λ _ hm => hm.ty
 there := λ _ hm => let ⟨_, e, _⟩ := hm.ex; ⟨j5 e, j5 e⟩
 keep := λ _ _ hm hk => hm.to (hk d (.inl rfl))
 notList := by decide
 notTuple := by decide
 hint := λ _ _ _ _ hm hq => kdl_hint_dict hm.ty hq
 iter := λ A s hh hm => ⟨_, _, (λ _ _ hq => yD lo hm hq), xP hh (λ z => by obtain ⟨_, e, _⟩ := hm.ex; have := j5 e; rw [<- z] at this; exact Nat.lt_irrefl _ this), ⟨⟨_, m8 _ rfl, rfl, rfl⟩, hm.to λ _ e => e9 _ e⟩⟩
def Le (P : Program) (w : World) (K : Fg) : List V -> Hp -> VK -> Prop := λ xs H Q => ∃ (a : Addr) (ks : List KN) (es : Array DictEntry) (ep : Nat) (kz : List (Int × Int)), xs = [.ref a] /\ H a = some (DN P w a ks es ep) /\ xA K H kz ks /\ kz.Nodup /\ ks.length < 64 /\ ∀ (l : Addr) (ys : List V), H l = none -> dJ lt2 kz (ks.map λ x => V.ref x.2.1) ys -> Q (.ref l) (upd H l (.lst ys))
theorem xW (hc : X.calm = true) : cz X (.builtin "sorted") (Le X.prog X.w X.K) := by
 intro pins s Z H xs us Q I r h
 obtain ⟨p, ks, es, ep, kz, rfl, hq, hr, nd, h64, q⟩ := h
 obtain ⟨u, rfl, ru⟩ := r.one
 cases ru
 have ok := qz I hq
 have ez : es.size = ks.length := by
  have := congrArg List.length ok.e
  unfold jF at this
  simpa using this
 refine call_function_entry_kw kind_sorted plain_sorted entry_sorted (js p) ?_
 unfold Builtin.«sorted»
 refine cx (m := checkCount "sorted" 1 1 _) (fh ?_)
 refine cx (kdu_collect (DE ok.d) (I.ok.hd hc) ok.r (by rw [ez, sizeLine_eq]; lia) λ h' tk acc kp ia => ?_)
 have I0 : Inv X pins Z H { s with heap := h', toks := tk } := I.kept (t' := tk) λ b u e => kp b u e
 have al : acc.toList = ks.map λ x => Value.ref x.2.1 := by
  apply List.ext_getElem?
  intro i
  rw [Array.getElem?_toList, jb]
  cases e : acc[i]? with
  | none =>
   have h1 : acc.size <= i := Array.getElem?_eq_none_iff.mp e
   rw [vG (by have := ia.1; lia)]; rfl
  | some v =>
   obtain ⟨en, he, rfl⟩ := ia.2 i v e
   rw [<- Array.getElem?_toList, ok.e] at he
   unfold jF at he
   rw [q9, jb] at he
   cases ek : ks[i]? with
   | none => rw [ek] at he; cases he
   | some k => rw [ek] at he; cases he; rfl
 rw [al]
 have vl : aM (ks.map λ x => V.ref x.2.1) (ks.map λ x => Value.ref x.2.1) := by
  clear al hr hq ok q h64 ez
  induction ks with
  | nil => exact .nil
  | cons x r ih => exact .cons rfl ih
 have sz : (ks.map λ x => Value.ref x.2.1).length <= sizeLine := by rw [cI, sizeLine_eq]; lia
 refine cx (wpAny_newList ?_ (by simpa using sz))
 have I2 := I0.pushed (o' := seqObj "list" (ks.map λ x => Value.ref x.2.1).toArray 0) (t' := tk) rfl qC
 have m2 := I0.mine (jo _)
 have ho := (I2.pin (_, seqObj "list" (ks.map λ x => Value.ref x.2.1).toArray 0) (j9 _ (.head _))).1
 refine cx (wpAny_holding (wpAny_call_entry_kw slot_list_sort ⟨_, ho, rfl⟩ entry_list_sort ?body (lD _)))
 case body =>
  refine tP (xs := ks.map λ x => V.ref x.2.1) (vs := ks.map λ x => Value.ref x.2.1) (kz := kz) I2 m2 (I0.old (jo _)) vl hr.rows (by rw [cI]; exact h64) nd λ s' out c I' k' => ⟨_, rfl, fh ⟨_, rfl, ?_⟩⟩
  obtain ⟨ys, ry, hy⟩ := pf vl k'
  have hlo : ys.length <= sizeLine := by
   obtain ⟨ps, p1, rfl, _⟩ := hy
   rw [cI, p1.length_eq, List.length_zip, cI, sizeLine_eq]
   lia
  have pa := I'.pin _ (j9 _ (.head _))
  have I3 : Inv X pins Z H s' := I'.pins_of λ p hp => I'.pin p (j9 _ (.tail _ hp))
  exact ⟨.ref _, _, I3.trackL (o := .lst ys) (m2.now pa.2.1) (I0.old (jo _)) ⟨hlo, out.toList, c, ry, by rw [Array.toArray_toList]; exact pa.1⟩, rfl, q _ _ pa.2.1 hy⟩
end
end L2
namespace L2
open PySem PySem.Spec PyProof.Rows
theorem lN {X : Cx} {t1 t2 t3 : Str} {sc : Scope} {fr : List (Str × Nat)} {osc : Scope} {N : List Str} (ho : X.env.scope = osc) (hN : X.N = N) (h1 : fE osc N t1 sc fr = true) (h2 : fE osc N t2 sc fr = true) (h3 : fE osc N t3 sc fr = true) (hne : t1 ≠ t2) (hn3 : t1 ≠ t3) (hn4 : t2 ≠ t3) : dI X [t1, t2, t3] sc fr /\ sc.names.lookup t1 = some .local /\ sc.names.lookup t2 = some .local /\ sc.names.lookup t3 = some .local := by
 have o1 := bM ho hN h1
 have o2 := bM ho hN h2
 have o3 := bM ho hN h3
 refine ⟨⟨o1.kind, o1.nocell, o1.locs, o1.fre, ?_, o1.vis⟩, o1.tgl, o2.tgl, o3.tgl⟩
 obtain ⟨a1, a2⟩ := sG.mp o1.nd
 obtain ⟨b1, b2⟩ := sG.mp o2.nd
 exact sG.mpr ⟨λ m => (j8.mp m).elim hne λ m => (j8.mp m).elim hn3 a1, sG.mpr ⟨λ m => (j8.mp m).elim hn4 b1, o3.nd⟩⟩
section
variable {B : Bk} {τ τi : TSt} {Φ : TK} {fr : List (Str × Nat)} {wi : TI} {te : TE} {tc : TT} {g : TG} {k : Nat}
theorem FD {K : Fg} (hK : K = B.K) (h : IV B wi τ λ ts τ1 => ∃ τi, oR τ1 fr τi /\ ts.length <= 100000 /\ ∃ P : Nat -> Option Tr -> Prop, (∀ i t, ts[i]? = some t -> ∃ a b c, t = .tup [a, b, c] /\ TV B tc (.fz a :: .fz b :: .fz c :: τi) λ b τ2 => if b = true then EV B te τ2 λ k τ3 => tU k τ3 λ o _ => P i (some o) else P i none) /\ ∀ os : List (Option Tr), os.length = ts.length -> (∀ i o, os[i]? = some o -> P i o) -> Φ (.nw (.lst (os.filterMap id))) τ1) : EV B (oU 3 fr wi (tQ K 3 (dG (bH 0) (dG (bH 1) (dG (bH 2) gNil)))) tc te) τ Φ := by
 subst hK
 refine Ft (λ t as => ∃ a b c, t = .tup [a, b, c] /\ as = [a, b, c]) (λ t as e => by obtain ⟨a, b, c, _, rfl⟩ := e; rfl) (λ t as e F H v σb S i hi hk q => ?_) ?_
 ·obtain ⟨a, b, c, rfl, rfl⟩ := e
  cases hi with
  | tup s l =>
   cases l with
   | cons h1 l =>
    cases l with
    | cons h2 l =>
     cases l with
     | cons h3 l =>
      cases l
      refine ⟨_, _, rfl, i.tup s, rfl, _, _, rfl, _, _, rfl, _, _, rfl, rfl, ?_⟩
      have := q _ (.cons h1 (.cons h2 (.cons h3 .nil)))
      match σb, hk with
      | x :: y :: z :: r, _ => exact this
 ·intro Z F H R r c
  refine h Z F H R r λ J F' H' ts τ' f r' it ⟨τi, a, b, P, st, fin⟩ => c J F' H' ts τ' f r' it ⟨τi, a, b, P, λ i t e => ?_, fin⟩
  obtain ⟨a, b, c, e, tv⟩ := st i t e
  exact ⟨[a, b, c], ⟨a, b, c, e, rfl⟩, tv⟩
end
theorem IH {X : Cx} {elt iter : Expr} {t1 t2 t3 : Str} {x1 : _} {p1 p2 p3 p4 pos : Pos} {sc : Scope} {fr : List (Str × Nat)} {wi : TI} {te : TE} (hc : X.calm = true) (ok : dI X [t1, t2, t3] sc fr /\ sc.names.lookup t1 = some .local /\ sc.names.lookup t2 = some .local /\ sc.names.lookup t3 = some .local)
  (hi : PI X (.Tuple [.Name t1 p1, .Name t2 p2, .Name t3 p3] x1 p4) iter wi) (he : ∀ cl C s3 H3 fp, PE (X.blk ([t1, t2, t3] ++ fr.map (·.1)) sc cl C s3 H3 fp) elt te) (hs : ∀ x, foldedSetIterable iter X.env x = pure x := by intro _; rfl) :
  PE X (.ListComp elt [⟨.Tuple [.Name t1 p1, .Name t2 p2, .Name t3 p3] x1 p4, iter, [], 0⟩] sc pos) (oU 3 fr wi (tQ X.K 3 (dG (bH 0) (dG (bH 1) (dG (bH 2) gNil)))) tYes te) :=
 wk (tgs := [t1, t2, t3]) hc ok.1 hi (λ _ _ _ _ _ => eV hc (aF (az ok.1.nd rfl (.inl (m9 ok.2.1)) (.inr (m9 ok.2.1))) (aF (az ok.1.nd rfl (.inl (m9 ok.2.2.1)) (.inr (m9 ok.2.2.1))) (aF (az ok.1.nd rfl (.inl (m9 ok.2.2.2)) (.inr (m9 ok.2.2.2))) dk)))) (λ _ _ _ _ _ => jx) he hs
end L2
namespace L2
open PySem PySem.Spec PyProof.Rows PySem.SeqAt
def Jp (K : Fg) : R2 := λ x y H Q => ∃ (t : Tr) (q : Addr) (ps : List V) (ts : List Tr), Is K H x t /\ sK 6 t = true /\ y = .ref q /\ aZ K H q ps /\ IsL K H ps ts /\ ts.all (sK 6) = true /\ Q (.bl (!decide (t ∈ ts))) H
section
variable {X : Cx}
open Classical in
theorem yv (hu : X.A.units + 20 < cLine) : gd X (compareOp .NotIn) (Jp X.K) := by
 intro pins s Z H x y v u Q I rx ry h
 obtain ⟨t, q, ps, ts, ix, kx, rfl, hq, il, kl, k⟩ := h
 cases ry
 obtain ⟨its, r, pl, hz⟩ := I.list hq
 have nx : iD s.heap 6 t v := iS I kx ix rx
 have np : Paired (iD s.heap 6) ts its := mO (λ h g f => iS I h g f) il r kl
 let e : Value -> Bool := λ w => decide (iD s.heap 6 t w)
 have ev : ∀ (w : Value) (c : Tr), iD s.heap 6 c w -> e w = decide (c = t) := λ w c hc => by
  show decide _ = decide _
  by_cases z : c = t
  ·subst z
   rw [j6 rfl]
   exact j6 hc
  ·rw [i8 z]
   exact i8 λ g => z (mn hc g)
 refine SeqAt.notIn_listAt e pl.isList (λ w hw => ?_) ⟨.bl _, H, I, rfl, ?_⟩
 ·have hw : w ∈ its := by simpa using hw
  obtain ⟨j, hj⟩ := List.getElem?_of_mem hw
  obtain ⟨c, _, hc⟩ := dO np hj
  rw [ev w c hc]
  exact wg (by show X.A.units + 1 + 6 < cLine; lia) hc nx
 ·have ea : its.toArray.any e = decide (t ∈ ts) := by
   rw [show its.toArray.any e = its.any e by simp]
   clear hq pl hz k kl il r
   induction np with
   | nil => simp
   | cons a b ih =>
    rw [List.any_cons, ih, ev _ _ a]
    rw [Bool.eq_iff_iff]
    simp only [Bool.or_eq_true, sa, j8]
    exact ⟨λ g => g.imp Eq.symm id, λ g => g.imp Eq.symm id⟩
  rw [ea]
  exact k
theorem ya {elt iter : Expr} {t1 t2 t3 : Str} {x1 : _} {p1 p2 p3 p4 pos : Pos} {sc : Scope} {fr : List (Str × Nat)} {wi : TI} {te : TE} {y : Str} {py spos : Pos} {iy : Nat} (hN : X.N.Nodup) (hi' : X.N[iy]? = some y) (hy : Fi X.env.scope y) (hc : X.calm = true) (ok : dI X [t1, t2, t3] sc fr /\ sc.names.lookup t1 = some .local /\ sc.names.lookup t2 = some .local /\ sc.names.lookup t3 = some .local)
  (hi : PI X (.Tuple [.Name t1 p1, .Name t2 p2, .Name t3 p3] x1 p4) iter wi) (he : ∀ cl C s3 H3 fp, PE (X.blk ([t1, t2, t3] ++ fr.map (·.1)) sc cl C s3 H3 fp) elt te) (hs : ∀ x, foldedSetIterable iter X.env x = pure x := by intro _; rfl)
  (hsw : swapsWith (.ListComp elt [⟨.Tuple [.Name t1 p1, .Name t2 p2, .Name t3 p3] x1 p4, iter, [], 0⟩] sc pos) (some (.Name y py)) spos.line X.env = pure true := by rfl) (hfn : X.fn y = true ∨ X.env.scope.names.lookup y = some .local := by first | exact .inl rfl | exact .inr rfl | assumption) :
  PS X (.Assign [.Name y py] (.ListComp elt [⟨.Tuple [.Name t1 p1, .Name t2 p2, .Name t3 p3] x1 p4, iter, [], 0⟩] sc pos) spos) (qg (oU 3 fr wi (tQ X.K 3 (dG (bH 0) (dG (bH 1) (dG (bH 2) gNil)))) tYes te) (bH iy)) :=
 pA (tgs := [t1, t2, t3]) hN hi' hy hc ok.1 hi (λ _ _ _ _ _ => eV hc (aF (az ok.1.nd rfl (.inl (m9 ok.2.1)) (.inr (m9 ok.2.1))) (aF (az ok.1.nd rfl (.inl (m9 ok.2.2.1)) (.inr (m9 ok.2.2.1))) (aF (az ok.1.nd rfl (.inl (m9 ok.2.2.2)) (.inr (m9 ok.2.2.2))) dk)))) (λ _ _ _ _ _ => jx) he hs hsw hfn
end
section
variable {B : Bk} {K : Fg} {τ : TSt} {Φ : TK} {x y : Kd} {ts us : List Tr}
theorem yi (hK : K = B.K) {t : Tr} (k1 : sK 6 t = true) (k2 : ts.all (sK 6) = true) (r2 : Rk τ y (.lst ts)) (q : Φ (.fz (.bl (!decide (t ∈ ts)))) τ) : RO B (Jp K) (.fz t) y τ Φ := λ Z F H v w Q r a b c => by
 subst hK
 obtain ⟨p, vs, rfl, s, l⟩ := r2.list r b
 have a : Is B.K F v t := a
 exact ⟨t, p, vs, ts, a.same r.up.i, k1, rfl, s, l.same r.up.i, k2, c.pl r .bl q⟩
theorem GW (hK : K = B.K) (k1 : ts.all (sK 6) = true) (k2 : us.all (sK 6) = true) (q : Φ (.fz (.bl (decide (Tr.tup ts = Tr.tup us)))) τ) : RO B (KA K) (.fz (.tup ts)) (.fz (.tup us)) τ Φ := λ Z F H v w Q r a b c => by
 subst hK
 have a : Is B.K F v (.tup ts) := a
 have b : Is B.K F w (.tup us) := b
 exact ⟨ts, us, a.same r.up.i, b.same r.up.i, k1, k2, c.pl r .bl q⟩
theorem wH {kz : List (Int × Int)} (hK : K = B.K) (rk : Rk τ x (.lst ts)) (hl : kz.length = ts.length) (hr : ∀ (i : Nat) (k : Int × Int), kz[i]? = some k -> ∃ us, ts[i]? = some (.tup (.int k.1 :: .int k.2 :: us))) (nd : kz.Nodup) (h64 : ts.length < 64) (q : ∀ us, dJ lt2 kz ts us -> Φ (.nw (.lst us)) τ) : RU B (λ v H Q => Fh K [v] H Q) x τ Φ := λ Z F H v Q r a c => by
 subst hK
 obtain ⟨p, vs, rfl, s, l⟩ := rk.list r a
 refine ⟨p, vs, kz, rfl, s, ⟨by rw [hl, l.length], λ i k hi => ?_⟩, nd, by rw [l.length]; exact h64, λ l' ys hl' hy => ?_⟩
 ·obtain ⟨us, e⟩ := hr i k hi
  obtain ⟨w, ew, iw⟩ := l.get e
  cases iw with
  | tup sq il =>
   cases il with
   | cons h1 h2 =>
    cases h1
    cases h2 with
    | cons h3 h4 =>
     cases h3
     exact ⟨_, _, ew, r.inc.tup sq⟩
 ·obtain ⟨us, iu, hu⟩ := zQ l hy
  exact c.nl r iu hl' (q us hu)
end
end L2
set_option Elab.async false
set_option linter.all false
set_option maxRecDepth 100000
set_option maxHeartbeats 4000000
namespace MyLaw
def mkPc (c : Char) : Lean.MacroM (Lean.TSyntax `tactic) := match c with
 | '0' => `(tactic| (focus rfl))
 | '1' => `(tactic| (focus ((kt_join); done)))
 | '2' => `(tactic| (focus (kpf_lEnd)))
 | '3' => `(tactic| (focus (kpf_nlEnd)))
 | '4' => `(tactic| (focus (dl_open)))
 | '5' => `(tactic| (focus ((acc_open); done)))
 | '6' => `(tactic| (focus (row_close2_l)))
 | '7' => `(tactic| (focus (first | decide | lia | assumption)))
 | '8' => `(tactic| (kt_field))
 | _ => `(tactic| fail)
def mkAlt (s : String) : Lean.MacroM (Lean.TSyntax `tactic) := do
 let i := Lean.mkIdent (s.drop 1).toString.toName
 match s.front with
 | 'r' => `(tactic| with_reducible refine $i ?_)
 | 'e' => `(tactic| exact $i)
 | c => do
  let t := match c with | 'b' => "0" | 'c' => "1" | 'd' => "2" | 'f' => "3" | 'g' => "04" | 'h' => "15" | 'i' => "6" | 'j' => "5" | 'k' => "00" | 'l' => "20" | 'm' => "78" | 'n' => "040" | 'o' => "000" | _ => "!"
  let mut a ← `(tactic| with_reducible apply $i)
  for c in t.toList do
   let b ← mkPc c
   a ← `(tactic| ($a:tactic; $b:tactic))
  return a
def mkAlts (s : String) : Lean.MacroM (Lean.TSyntax `tactic) := do
  let a ← (s.splitOn " ").toArray.mapM λ x => do
    let y ← mkAlt x
    `(Lean.Parser.Tactic.tacticSeq| $y:tactic)
  `(tactic| first $[| $a:tacticSeq]*)
end MyLaw
namespace MyLaw
open PySem L2
local macro_rules | `(tactic| kby_int) => `(tactic| exact ⟨rfl, rfl, rfl, by decide +kernel, rfl, by decide +kernel, by decide +kernel⟩)
abbrev Kp (K : Fg) (f : Addr) : Prop := PySem.W.keepIn K (.ref f) = true
abbrev Mm (m : Str -> Option Value) (n : Str) (f : Addr) : Prop := m n = some (.ref f)
noncomputable def cW (i : Nat) : Stmt := PySem.Challenge.pw_markscale_k38_lines.main.body.getD i (.Pass ⟨0, 0, 0, 0⟩)
noncomputable abbrev iJ : Stmt := cW 4
theorem tN : ao ["thing"] ["thing"] (ae iJ) := by kby_int
noncomputable abbrev fC : Stmt := cW 5
theorem cf : ao ["one", "other", "high", "low", "rest"] ["one", "other"] (ae fC) := by kby_int
noncomputable abbrev cE : Stmt := cW 6
theorem kG : ao ["top", "bottom", "divisor"] ["top", "bottom"] (ae cE) := by kby_int
noncomputable abbrev uV : Stmt := cW 7
theorem Eo : ao ["one", "other"] ["one", "other"] (ae uV) := by kby_int
noncomputable abbrev rG : Stmt := cW 8
theorem AF : ao ["one", "other"] ["one", "other"] (ae rG) := by kby_int
noncomputable abbrev qW : Stmt := cW 9
theorem zK : ao ["one", "other"] ["one", "other"] (ae qW) := by kby_int
noncomputable abbrev vC : Stmt := cW 10
theorem Dz : ao ["one", "other"] ["one", "other"] (ae vC) := by kby_int
noncomputable abbrev rf : Stmt := cW 11
theorem AU : ao ["one", "other"] ["one", "other"] (ae rf) := by kby_int
noncomputable abbrev kh : Stmt := cW 12
theorem vL : ao ["one"] ["one"] (ae kh) := by kby_int
noncomputable abbrev dB : Stmt := cW 13
theorem cp : ao ["numbers", "bottom", "one"] ["numbers"] (ae dB) := by kby_int
noncomputable abbrev cZ : Stmt := cW 15
theorem ef : ao ["one", "lo", "hi", "begin", "end", "part"] ["one", "lo", "hi", "begin", "end"] (ae cZ) := by kby_int
noncomputable abbrev gF : Stmt := cW 16
theorem qx : ao ["one", "lo", "hi"] ["one", "lo", "hi"] (ae gF) := by kby_int
noncomputable abbrev ij : Stmt := cW 17
theorem eF : ao ["base", "exponent", "product", "turn"] ["base", "exponent"] (ae ij) := by kby_int
noncomputable abbrev eO : Stmt := cW 18
theorem bo : ao ["base", "one", "top", "bottom", "exponent"] ["base", "one"] (ae eO) := by kby_int
noncomputable abbrev cu : Stmt := cW 19
theorem gH : ao ["scale", "cell"] ["scale", "cell"] (ae cu) := by kby_int
noncomputable abbrev cX : Stmt := cW 20
theorem bv : ao ["scale", "cell", "base", "exponent", "turns", "power", "part"] ["scale", "cell"] (ae cX) := by kby_int
noncomputable abbrev cQ : Stmt := cW 21
theorem cL : ao ["scale", "cell", "pieces", "piece"] ["scale", "cell"] (ae cQ) := by kby_int
noncomputable abbrev dy : Stmt := cW 22
theorem kL : ao ["scale", "cell"] ["scale", "cell"] (ae dy) := by kby_int
noncomputable abbrev di : Stmt := cW 23
theorem jB : ao ["scale", "cell"] ["scale", "cell"] (ae di) := by kby_int
noncomputable abbrev iz : Stmt := cW 24
theorem rY : ao ["scale", "cell"] ["scale", "cell"] (ae iz) := by kby_int
noncomputable abbrev qQ : Stmt := cW 26
theorem Bx : ao ["field", "place"] ["field", "place"] (ae qQ) := by kby_int
noncomputable abbrev qw : Stmt := cW 27
theorem zN : ao ["field", "place"] ["field", "place"] (ae qw) := by kby_int
noncomputable abbrev iR : Stmt := cW 28
theorem tK : ao ["field", "item", "channel"] ["field", "item", "channel"] (ae iR) := by kby_int
noncomputable abbrev vP : Stmt := cW 29
theorem Di : ao ["field", "item"] ["field", "item"] (ae vP) := by kby_int
noncomputable abbrev kK : Stmt := cW 30
theorem iO : ao ["field", "item", "channels", "channel", "place"] ["field", "item", "channels"] (ae kK) := by kby_int
noncomputable abbrev oF : Stmt := cW 31
theorem fj : ao ["field", "items", "channels", "standing", "lost", "item", "loss"] ["field", "items", "channels"] (ae oF) := by kby_int
noncomputable abbrev hG : Stmt := cW 32
theorem iP : ao ["items", "groups", "item"] ["items"] (ae hG) := by kby_int
noncomputable abbrev cY : Stmt := cW 34
theorem fU : ao ["field", "items", "places", "bottom", "tops"] ["field", "items"] (ae cY) := by kby_int
noncomputable abbrev fA : Stmt := cW 35
theorem tf : ao ["field", "item", "channels"] ["field", "item", "channels"] (ae fA) := by kby_int
noncomputable abbrev gE : Stmt := cW 36
theorem eZ : ao ["field", "side", "items", "word", "channels", "both", "marks", "group", "points"] ["field", "side", "items", "word", "channels"] (ae gE) := by kby_int
noncomputable abbrev qZ : Stmt := cW 37
theorem Ag : ao ["field", "side", "items"] ["field", "side", "items"] (ae qZ) := by kby_int
noncomputable abbrev kO : Stmt := cW 39
theorem cJ : ao ["_law_cell_here", "_law_tops", "_law_found", "_law_left", "_law_mixed", "_law_k"] ["_law_cell_here", "_law_tops"] (ae kO) := by kby_int
noncomputable abbrev ko : Stmt := cW 40
theorem uP : ao ["_law_found"] ["_law_found"] (ae ko) := by kby_int
noncomputable abbrev gp : Stmt := cW 41
theorem jR : ao ["_law_one", "_law_other"] ["_law_one", "_law_other"] (ae gp) := by kby_int
noncomputable abbrev iB : Stmt := cW 42
theorem eA : ao ["_law_d", "_law_top", "_law_bottom", "_law_share"] ["_law_d"] (ae iB) := by kby_int
noncomputable abbrev qS : Stmt := cW 43
theorem ud : ao ["_law_top", "_law_bottom", "_law_share"] ["_law_top", "_law_bottom"] (ae qS) := by kby_int
noncomputable abbrev nG : Stmt := cW 44
theorem yl : ao ["_law_one", "_law_other"] ["_law_one", "_law_other"] (ae nG) := by kby_int
noncomputable abbrev nv : Stmt := cW 45
theorem pD : ao ["_law_lo", "_law_hi", "_law_f", "_law_g", "_law_span"] ["_law_lo", "_law_hi", "_law_f", "_law_g"] (ae nv) := by kby_int
noncomputable abbrev kg : Stmt := cW 46
theorem cK : ao ["_law_many", "_law_d", "_law_some", "_law_names", "_law_k", "_law_at", "_law_pair"] ["_law_many", "_law_d"] (ae kg) := by kby_int
noncomputable abbrev iL : Stmt := cW 47
theorem bT : ao ["_law_d", "_law_pieces", "_law_lo", "_law_at", "_law_k", "_law_e", "_law_hi"] ["_law_d"] (ae iL) := by kby_int
noncomputable abbrev lu : Stmt := cW 48
theorem cG : ao ["_law_kind", "_law_d", "_law_length", "_law_lo", "_law_span", "_law_low_here"] ["_law_kind", "_law_d"] (ae lu) := by kby_int
noncomputable abbrev lf : Stmt := cW 49
theorem fI : ao ["_law_base", "_law_many", "_law_found", "_law_k"] ["_law_base", "_law_many"] (ae lf) := by kby_int
noncomputable abbrev bJ : Stmt := cW 50
theorem bp : ao ["_law_scale_here", "_law_e", "_law_f", "_law_g", "_law_base", "_law_at", "_law_cap", "_law_top"] ["_law_scale_here", "_law_e", "_law_f", "_law_g"] (ae bJ) := by kby_int
noncomputable abbrev ni : Stmt := cW 51
theorem de : ao ["_law_scale_here", "_law_e", "_law_g", "_law_f", "_law_pieces", "_law_at"] ["_law_scale_here", "_law_e"] (ae ni) := by kby_int
noncomputable abbrev gK : Stmt := cW 52
theorem fX : ao ["_law_lo", "_law_hi", "_law_cell_here", "_law_start", "_law_stop", "_law_m", "_law_up"] ["_law_lo", "_law_hi", "_law_cell_here", "_law_start", "_law_stop"] (ae gK) := by kby_int
noncomputable abbrev iW : Stmt := cW 53
theorem tG : ao ["_law_lo", "_law_hi", "_law_cell_here"] ["_law_lo", "_law_hi", "_law_cell_here"] (ae iW) := by kby_int
noncomputable abbrev mT : Stmt := cW 54
theorem bN : ao ["_law_scale_here", "_law_cell_here", "_law_p", "_law_q", "_law_k", "_law_name", "_law_base", "_law_low_here", "_law_many", "_law_length", "_law_top", "_law_bottom"] ["_law_scale_here", "_law_cell_here"] (ae mT) := by kby_int
noncomputable abbrev kN : Stmt := cW 55
theorem cM : ao ["_law_scale_here", "_law_cell_here", "_law_pieces", "_law_lo", "_law_hi", "_law_start", "_law_stop"] ["_law_scale_here", "_law_cell_here"] (ae kN) := by kby_int
noncomputable abbrev gj : Stmt := cW 56
theorem pZ : ao ["_law_place_here"] ["_law_place_here"] (ae gj) := by kby_int
noncomputable abbrev kX : Stmt := cW 57
theorem dR : ao ["_law_cell_here", "_law_one", "_law_d", "_law_x", "_law_y"] ["_law_cell_here"] (ae kX) := by kby_int
noncomputable abbrev kI : Stmt := cW 58
theorem bi : ao ["_law_cells", "_law_field_here", "_law_items_here", "_law_own", "_law_cell_here", "_law_d", "_law_rank", "_law_colour", "_law_x", "_law_y", "_law_other"] ["_law_cells", "_law_field_here"] (ae kI) := by kby_int
noncomputable abbrev jE : Stmt := cW 59
theorem yQ : ao ["_law_found", "_law_due_here"] ["_law_found", "_law_due_here"] (ae jE) := by kby_int
noncomputable abbrev kM : Stmt := cW 60
theorem bj : ao ["_law_field_here", "_law_items_here", "_law_rows", "_law_lost", "_law_own", "_law_x", "_law_y", "_law_other", "_law_rank", "_law_colour", "_law_size", "_law_along", "_law_up", "_law_point"] ["_law_field_here", "_law_items_here"] (ae kM) := by kby_int
noncomputable abbrev gu : Stmt := cW 61
theorem cq : ao ["_law_side", "_law_rows", "_law_group", "_law_kept", "_law_points", "_law_mine", "_law_along", "_law_own", "_law_point", "_law_at"] ["_law_side", "_law_rows", "_law_group"] (ae gu) := by kby_int
noncomputable abbrev mB : Stmt := cW 62
theorem gg : ao ["_law_field_here", "_law_side", "_law_items_here", "_law_groups", "_law_row", "_law_rows", "_law_lost"] ["_law_field_here", "_law_side", "_law_items_here"] (ae mB) := by kby_int
noncomputable abbrev mD : Stmt := cW 63
theorem eS : ao ["_law_script", "_law_first", "_law_field_here", "_law_items_here", "_law_side", "_law_due_here", "_law_handed", "_law_found", "_law_shape", "_law_numbers"] ["_law_script"] (ae mD) := by kby_int
variable {α : Type} {n : Nat}
theorem dD {us : List α} (h : us.length = n + 1) : ∃ a r, us = a :: r /\ r.length = n := by
 cases us with
 | nil => cases h
 | cons a r => exact ⟨a, r, rfl, Nat.succ.inj h⟩
variable {us : List Value}
theorem Gz (h : us.length = 1) : ∃ a0, us = [a0] := by
 obtain ⟨a0, u0, rfl, h0⟩ := dD h
 cases List.length_eq_zero_iff.mp h0
 exact ⟨a0, rfl⟩
theorem Kg (h : us.length = 2) : ∃ a0 a1, us = [a0, a1] := by
 obtain ⟨a0, u0, rfl, h0⟩ := dD h
 obtain ⟨a1, u1, rfl, h1⟩ := dD h0
 cases List.length_eq_zero_iff.mp h1
 exact ⟨a0, a1, rfl⟩
theorem MD (h : us.length = 3) : ∃ a0 a1 a2, us = [a0, a1, a2] := by
 obtain ⟨a0, u0, rfl, h0⟩ := dD h
 obtain ⟨a1, u1, rfl, h1⟩ := dD h0
 obtain ⟨a2, u2, rfl, h2⟩ := dD h1
 cases List.length_eq_zero_iff.mp h2
 exact ⟨a0, a1, a2, rfl⟩
theorem MG (h : us.length = 4) : ∃ a0 a1 a2 a3, us = [a0, a1, a2, a3] := by
 obtain ⟨a0, u0, rfl, h0⟩ := dD h
 obtain ⟨a1, u1, rfl, h1⟩ := dD h0
 obtain ⟨a2, u2, rfl, h2⟩ := dD h1
 obtain ⟨a3, u3, rfl, h3⟩ := dD h2
 cases List.length_eq_zero_iff.mp h3
 exact ⟨a0, a1, a2, a3, rfl⟩
theorem Nf (h : us.length = 5) : ∃ a0 a1 a2 a3 a4, us = [a0, a1, a2, a3, a4] := by
 obtain ⟨a0, u0, rfl, h0⟩ := dD h
 obtain ⟨a1, u1, rfl, h1⟩ := dD h0
 obtain ⟨a2, u2, rfl, h2⟩ := dD h1
 obtain ⟨a3, u3, rfl, h3⟩ := dD h2
 obtain ⟨a4, u4, rfl, h4⟩ := dD h3
 cases List.length_eq_zero_iff.mp h4
 exact ⟨a0, a1, a2, a3, a4, rfl⟩
structure GX (K : Fg) (f : Addr) (oc : Value) (od : Option Addr) (n : Str) (st : Stmt) (df kV dc pm : Value) (an : Option Addr) (cd ct : Value) (sl : Array (Option Value)) : Prop where
 a : PySem.W.nsIn K mainGlobals n = some (some (.ref f))
 l : K.lookup f = some ⟨oc, od, .func (PySem.W.fnOf n n (cF st) (bF st) (ae st) df kV dc pm an cd ct), sl⟩
 c : PySem.W.codeIn K cd n = true
 k : PySem.W.keepIn K (.ref f) = true
structure Dn (K : Fg) (mg : Str -> Option Value) (n : Str) (st : Stmt) (ps : List Str) (f : Addr) (d : FuncData) : Prop where
 F : GF K n n st f d
 m : mg n = some (.ref f)
 k : PySem.W.keepIn K (.ref f) = true
 b : gM K d ps []
noncomputable abbrev fO (n : Str) (st : Stmt) (kV dc pm : Value) (an : Option Addr) (cd ct : Value) : FuncData := PySem.W.fnOf n n (cF st) (bF st) (ae st) .none kV dc pm an cd ct
section
variable {K : Fg} {mg : Str -> Option Value} {h : Heap} (X : K.In h) (G : h.Ns mainGlobals mg) {n p0 p1 p2 p3 p4 : Str} {st : Stmt} {f : Addr} {oc kV dc pm cd ct : Value} {od an : Option Addr} {sl : Array (Option Value)} (x : GX K f oc od n st .none kV dc pm an cd ct sl)
include X G x
theorem dn1 (hb : ∀ a0, bindArgs (fO n st kV dc pm an cd ct) ⟨[a0], []⟩ = pure [(p0, a0)] := by intros; rfl) : Dn K mg n st [p0] f (fO n st kV dc pm an cd ct) := ⟨kU x.l x.c x.k, PySem.W.mg_of X G x.a, x.k, .all λ us hl => by obtain ⟨_, rfl⟩ := Gz hl; exact hb _⟩
theorem dn2 (hb : ∀ a0 a1, bindArgs (fO n st kV dc pm an cd ct) ⟨[a0, a1], []⟩ = pure [(p0, a0), (p1, a1)] := by intros; rfl) : Dn K mg n st [p0, p1] f (fO n st kV dc pm an cd ct) := ⟨kU x.l x.c x.k, PySem.W.mg_of X G x.a, x.k, .all λ us hl => by obtain ⟨_, _, rfl⟩ := Kg hl; exact hb _ _⟩
theorem dn3 (hb : ∀ a0 a1 a2, bindArgs (fO n st kV dc pm an cd ct) ⟨[a0, a1, a2], []⟩ = pure [(p0, a0), (p1, a1), (p2, a2)] := by intros; rfl) : Dn K mg n st [p0, p1, p2] f (fO n st kV dc pm an cd ct) := ⟨kU x.l x.c x.k, PySem.W.mg_of X G x.a, x.k, .all λ us hl => by obtain ⟨_, _, _, rfl⟩ := MD hl; exact hb _ _ _⟩
theorem dn4 (hb : ∀ a0 a1 a2 a3, bindArgs (fO n st kV dc pm an cd ct) ⟨[a0, a1, a2, a3], []⟩ = pure [(p0, a0), (p1, a1), (p2, a2), (p3, a3)] := by intros; rfl) : Dn K mg n st [p0, p1, p2, p3] f (fO n st kV dc pm an cd ct) := ⟨kU x.l x.c x.k, PySem.W.mg_of X G x.a, x.k, .all λ us hl => by obtain ⟨_, _, _, _, rfl⟩ := MG hl; exact hb _ _ _ _⟩
theorem dn5 (hb : ∀ a0 a1 a2 a3 a4, bindArgs (fO n st kV dc pm an cd ct) ⟨[a0, a1, a2, a3, a4], []⟩ = pure [(p0, a0), (p1, a1), (p2, a2), (p3, a3), (p4, a4)] := by intros; rfl) : Dn K mg n st [p0, p1, p2, p3, p4] f (fO n st kV dc pm an cd ct) := ⟨kU x.l x.c x.k, PySem.W.mg_of X G x.a, x.k, .all λ us hl => by obtain ⟨_, _, _, _, _, rfl⟩ := Nf hl; exact hb _ _ _ _ _⟩
end
abbrev FO (P : Program) (w : World) (base : Heap) {K : Fg} {mg : Str -> Option Value} {n : Str} {st : Stmt} {ps : List Str} {f : Addr} {d : FuncData} (_ : Dn K mg n st ps f d) (k : Nat) (sp : Sp) : Prop := dL P w K mg base wQ k f d ps sp
theorem bI {X : Cx} {k j : Nat} {n : Str} {st : Stmt} {ps : List Str} {f : Addr} {d : FuncData} {sp : Sp} {e : Expr} {es : List Expr} {t : TA} {p pos : Pos} (F : dL X.prog X.w X.K X.mg X.base wQ k f d ps sp) (hr : dr j X.A) (D : Dn X.K X.mg n st ps f d) (ha : PA X (e :: es) t) (hj : k <= j := by decide) (hg : Gl X n := by exact rfl) (hdb : (n == ("__debug__" : Str)) = false := by decide) (he : starEach (e :: es) X.env = (false, eval e X.env) :: starEach es X.env := by rfl) (hpl : (backTo pos (starEach es X.env)).any (·.1) = false := by rfl) : PE X (.Call (.Name n p) (e :: es) [] pos) (eD sp [] E0 t) := bX F (hr.mono hj) hg D.m D.k D.b .nil Be ha hdb he hpl
set_option genInjectivity false in
structure Nb where
 (f_zap : Addr) (d_zap : FuncData)
 (f_zae : Addr) (d_zae : FuncData)
 (f_zaa : Addr) (d_zaa : FuncData)
 (f_zaq : Addr) (d_zaq : FuncData)
 (f_zai : Addr) (d_zai : FuncData)
 (f_zaj : Addr) (d_zaj : FuncData)
 (f_zar : Addr) (d_zar : FuncData)
 (f_zas : Addr) (d_zas : FuncData)
 (f_zat : Addr) (d_zat : FuncData)
 (f_za4 : Addr) (d_za4 : FuncData)
 (f_zau : Addr) (d_zau : FuncData)
 (f_zak : Addr) (d_zak : FuncData)
 (f_za5 : Addr) (d_za5 : FuncData)
 (f_za6 : Addr) (d_za6 : FuncData)
 (f_za7 : Addr) (d_za7 : FuncData)
 (f_za8 : Addr) (d_za8 : FuncData)
 (f_za9 : Addr) (d_za9 : FuncData)
 (f_zba : Addr) (d_zba : FuncData)
 (f_zbb : Addr) (d_zbb : FuncData)
 (f_zal : Addr) (d_zal : FuncData)
 (f_zbc : Addr) (d_zbc : FuncData)
 (f_zbd : Addr) (d_zbd : FuncData)
 (f_zaf : Addr) (d_zaf : FuncData)
 (f_zbe : Addr) (d_zbe : FuncData)
 (f_zbf : Addr) (d_zbf : FuncData)
 (f_zbg : Addr) (d_zbg : FuncData)
 (f_zbh : Addr) (d_zbh : FuncData)
 (f_zbi : Addr) (d_zbi : FuncData)
 (f_zbj : Addr) (d_zbj : FuncData)
 (f_zbk : Addr) (d_zbk : FuncData)
 (f_zav : Addr) (d_zav : FuncData)
 (f_zaw : Addr) (d_zaw : FuncData)
 (f_zam : Addr) (d_zam : FuncData)
 (f_zag : Addr) (d_zag : FuncData)
 (f_zax : Addr) (d_zax : FuncData)
 (f_zac : Addr) (d_zac : FuncData)
 (f_zad : Addr) (d_zad : FuncData)
 (f_zan : Addr) (d_zan : FuncData)
 (f_zbl : Addr) (d_zbl : FuncData)
 (f_zbm : Addr) (d_zbm : FuncData)
 (f_zay : Addr) (d_zay : FuncData)
 (f_zah : Addr) (d_zah : FuncData)
 (f_zbn : Addr) (d_zbn : FuncData)
 (f_zaz : Addr) (d_zaz : FuncData)
 (f_za0 : Addr) (d_za0 : FuncData)
 (f_zao : Addr) (d_zao : FuncData)
 (f_zbo : Addr) (d_zbo : FuncData)
 (f_za1 : Addr) (d_za1 : FuncData)
 (f_za2 : Addr) (d_za2 : FuncData)
 (f_za3 : Addr) (d_za3 : FuncData)
 (f_zbp : Addr) (d_zbp : FuncData)
 (f_zab : Addr) (d_zab : FuncData)
 (f_zbq : Addr) (d_zbq : FuncData)
 (f_zbr : Addr) (d_zbr : FuncData)
 (f_zbs : Addr) (d_zbs : FuncData)
 (f_law : Addr) (d_law : FuncData)
 (c_NoNumber : Addr)
structure cO (K : Fg) (mg : Str -> Option Value) (t : Nb) : Prop where
 q_zap : Dn K mg "is_whole" iJ ["thing"] t.f_zap t.d_zap
 q_zae : Dn K mg "divisor_of" fC ["one", "other"] t.f_zae t.d_zae
 F_zaa : EC K "number" "number" cE t.f_zaa t.d_zaa
 m_zaa : Mm mg "number" t.f_zaa
 k_number : Kp K t.f_zaa
 b_number : gM K t.d_zaa ["top", "bottom"] []
 b_number1 : ∃ ds, aM [V.int 1] ds /\ gM K t.d_zaa ["top", "bottom"] ds
 q_zaq : Dn K mg "plus" uV ["one", "other"] t.f_zaq t.d_zaq
 q_zai : Dn K mg "minus" rG ["one", "other"] t.f_zai t.d_zai
 q_zaj : Dn K mg "times" qW ["one", "other"] t.f_zaj t.d_zaj
 q_zar : Dn K mg "over" vC ["one", "other"] t.f_zar t.d_zar
 q_zas : Dn K mg "under" rf ["one", "other"] t.f_zas t.d_zas
 q_zat : Dn K mg "rounded" kh ["one"] t.f_zat t.d_zat
 q_za4 : Dn K mg "common_bottom" dB ["numbers"] t.f_za4 t.d_za4
 q_zau : Dn K mg "straight_place" cZ ["one", "lo", "hi", "begin", "end"] t.f_zau t.d_zau
 q_zak : Dn K mg "is_within" gF ["one", "lo", "hi"] t.f_zak t.d_zak
 q_za5 : Dn K mg "power_of" ij ["base", "exponent"] t.f_za5 t.d_za5
 q_za6 : Dn K mg "power_below" eO ["base", "one"] t.f_za6 t.d_za6
 q_za7 : Dn K mg "place_on_straight" cu ["scale", "cell"] t.f_za7 t.d_za7
 q_za8 : Dn K mg "place_on_turns" cX ["scale", "cell"] t.f_za8 t.d_za8
 q_za9 : Dn K mg "place_on_broken" cQ ["scale", "cell"] t.f_za9 t.d_za9
 q_zba : Dn K mg "place_on_days" dy ["scale", "cell"] t.f_zba t.d_zba
 q_zbb : Dn K mg "place_on_order" di ["scale", "cell"] t.f_zbb t.d_zbb
 q_zal : Dn K mg "place_on" iz ["scale", "cell"] t.f_zal t.d_zal
 q_zbc : Dn K mg "put_x" qQ ["field", "place"] t.f_zbc t.d_zbc
 q_zbd : Dn K mg "put_y" qw ["field", "place"] t.f_zbd t.d_zbd
 q_zaf : Dn K mg "place_of" iR ["field", "item", "channel"] t.f_zaf t.d_zaf
 q_zbe : Dn K mg "x_of" vP ["field", "item"] t.f_zbe t.d_zbe
 q_zbf : Dn K mg "loss_of" kK ["field", "item", "channels"] t.f_zbf t.d_zbf
 q_zbg : Dn K mg "parted" oF ["field", "items", "channels"] t.f_zbg t.d_zbg
 q_zbh : Dn K mg "by_rank" hG ["items"] t.f_zbh t.d_zbh
 q_zbi : Dn K mg "along_x" cY ["field", "items"] t.f_zbi t.d_zbi
 q_zbj : Dn K mg "point_of" fA ["field", "item", "channels"] t.f_zbj t.d_zbj
 q_zbk : Dn K mg "strung" gE ["field", "side", "items", "word", "channels"] t.f_zbk t.d_zbk
 q_zav : Dn K mg "lines" qZ ["field", "side", "items"] t.f_zav t.d_zav
 q_zaw : Dn K mg "_law_draws" kO ["_law_cell_here", "_law_tops"] t.f_zaw t.d_zaw
 q_zam : Dn K mg "_law_whole" ko ["_law_found"] t.f_zam t.d_zam
 q_zag : Dn K mg "_law_divisor" gp ["_law_one", "_law_other"] t.f_zag t.d_zag
 q_zax : Dn K mg "_law_number" iB ["_law_d"] t.f_zax t.d_zax
 q_zac : Dn K mg "_law_low" qS ["_law_top", "_law_bottom"] t.f_zac t.d_zac
 q_zad : Dn K mg "_law_plus" nG ["_law_one", "_law_other"] t.f_zad t.d_zad
 q_zan : Dn K mg "_law_part" nv ["_law_lo", "_law_hi", "_law_f", "_law_g"] t.f_zan t.d_zan
 q_zbl : Dn K mg "_law_words" kg ["_law_many", "_law_d"] t.f_zbl t.d_zbl
 q_zbm : Dn K mg "_law_broken" iL ["_law_d"] t.f_zbm t.d_zbm
 q_zay : Dn K mg "_law_scale" lu ["_law_kind", "_law_d"] t.f_zay t.d_zay
 q_zah : Dn K mg "_law_power" lf ["_law_base", "_law_many"] t.f_zah t.d_zah
 q_zbn : Dn K mg "_law_turn_cell" bJ ["_law_scale_here", "_law_e", "_law_f", "_law_g"] t.f_zbn t.d_zbn
 q_zaz : Dn K mg "_law_cell" ni ["_law_scale_here", "_law_e"] t.f_zaz t.d_zaz
 q_za0 : Dn K mg "_law_between" gK ["_law_lo", "_law_hi", "_law_cell_here", "_law_start", "_law_stop"] t.f_za0 t.d_za0
 q_zao : Dn K mg "_law_within" iW ["_law_lo", "_law_hi", "_law_cell_here"] t.f_zao t.d_zao
 q_zbo : Dn K mg "_law_turn" mT ["_law_scale_here", "_law_cell_here"] t.f_zbo t.d_zbo
 q_za1 : Dn K mg "_law_place" kN ["_law_scale_here", "_law_cell_here"] t.f_za1 t.d_za1
 q_za2 : Dn K mg "_law_rounded" gj ["_law_place_here"] t.f_za2 t.d_za2
 q_za3 : Dn K mg "_law_field" kX ["_law_cell_here"] t.f_za3 t.d_za3
 q_zbp : Dn K mg "_law_items" kI ["_law_cells", "_law_field_here"] t.f_zbp t.d_zbp
 q_zab : Dn K mg "_law_same" jE ["_law_found", "_law_due_here"] t.f_zab t.d_zab
 q_zbq : Dn K mg "_law_spots" kM ["_law_field_here", "_law_items_here"] t.f_zbq t.d_zbq
 q_zbr : Dn K mg "_law_path" gu ["_law_side", "_law_rows", "_law_group"] t.f_zbr t.d_zbr
 q_zbs : Dn K mg "_law_due" mB ["_law_field_here", "_law_side", "_law_items_here"] t.f_zbs t.d_zbs
 F_law : GF K "law" "law" mD t.f_law t.d_law
 m_law : Mm mg "law" t.f_law
 k_law : Kp K t.f_law
 b_law : gM K t.d_law ["_law_script"] []
 m_NoNumber : mg "NoNumber" = some (.ref t.c_NoNumber)
 n_NoNumber : PySem.W.nsIn K mainGlobals "NoNumber" = some (some (.ref t.c_NoNumber))
 x_NoNumber : PySem.W.excIn K t.c_NoNumber Gy "ValueError.__new__" = true
 e_NoNumber : PySem.W.exmOne K (.ref t.c_NoNumber) (.ref t.c_NoNumber) = some true
 z_isinstance : mg "isinstance" = none
 z_int : mg "int" = none
 z_bool : mg "bool" = none
 z_tuple : mg "tuple" = none
 z_str : mg "str" = none
 z_list : mg "list" = none
 z_abs : mg "abs" = none
 z_len : mg "len" = none
 z_range : mg "range" = none
 z_max : mg "max" = none
 z_min : mg "min" = none
 z_zip : mg "zip" = none
 z_sorted : mg "sorted" = none
 z_all : mg "all" = none
theorem all_mk {h : Heap} {mg : Str -> Option Value} {fa f0 f1 f2 f3 f4 f5 f6 f7 f8 f9 f10 f11 f12 f13 f14 f15 f16 f17 f18 f19 f20 f21 f22 f23 f24 f25 f26 f27 f28 f29 f30 f31 f32 f33 f34 f35 f36 f37 f38 f39 f40 f41 f42 f43 f44 f45 f46 f47 f48 f49 f50 f51 f52 f53 f54 f55 C_NoNumber dT2 : Addr} (X : K.In h) (G : h.Ns mainGlobals mg) (hfa : mg "law" = some (.ref fa))
  {od2 an2 od55 an55 : Option Addr} {sl2 sl55 : Array (Option Value)} {oc2 kV2 dc2 pm2 cd2 ct2 oc55 kV55 dc55 pm55 cd55 ct55 : Value}
  {d0 d1 d3 d4 d5 d6 d7 d8 d9 d10 d11 d12 d13 d14 d15 d16 d17 d18 d19 d20 d21 d22 d23 d24 d25 d26 d27 d28 d29 d30 d31 d32 d33 d34 d35 d36 d37 d38 d39 d40 d41 d42 d43 d44 d45 d46 d47 d48 d49 d50 d51 d52 d53 d54 : FuncData}
  {tc2 : Value} {td2 : Option Addr} {tn2 : Nat} {ts2 : Array (Option Value)} {tk2 : Tok}
  (x0 : Dn K mg "is_whole" iJ ["thing"] f0 d0)
  (x1 : Dn K mg "divisor_of" fC ["one", "other"] f1 d1)
  (x2 : GX K f2 oc2 od2 "number" cE (.ref dT2) kV2 dc2 pm2 an2 cd2 ct2 sl2)
  (dl2 : K.lookup dT2 = some ⟨tc2, td2, .seq #[.int 1 tk2] tn2, ts2⟩)
  (x3 : Dn K mg "plus" uV ["one", "other"] f3 d3)
  (x4 : Dn K mg "minus" rG ["one", "other"] f4 d4)
  (x5 : Dn K mg "times" qW ["one", "other"] f5 d5)
  (x6 : Dn K mg "over" vC ["one", "other"] f6 d6)
  (x7 : Dn K mg "under" rf ["one", "other"] f7 d7)
  (x8 : Dn K mg "rounded" kh ["one"] f8 d8)
  (x9 : Dn K mg "common_bottom" dB ["numbers"] f9 d9)
  (x10 : Dn K mg "straight_place" cZ ["one", "lo", "hi", "begin", "end"] f10 d10)
  (x11 : Dn K mg "is_within" gF ["one", "lo", "hi"] f11 d11)
  (x12 : Dn K mg "power_of" ij ["base", "exponent"] f12 d12)
  (x13 : Dn K mg "power_below" eO ["base", "one"] f13 d13)
  (x14 : Dn K mg "place_on_straight" cu ["scale", "cell"] f14 d14)
  (x15 : Dn K mg "place_on_turns" cX ["scale", "cell"] f15 d15)
  (x16 : Dn K mg "place_on_broken" cQ ["scale", "cell"] f16 d16)
  (x17 : Dn K mg "place_on_days" dy ["scale", "cell"] f17 d17)
  (x18 : Dn K mg "place_on_order" di ["scale", "cell"] f18 d18)
  (x19 : Dn K mg "place_on" iz ["scale", "cell"] f19 d19)
  (x20 : Dn K mg "put_x" qQ ["field", "place"] f20 d20)
  (x21 : Dn K mg "put_y" qw ["field", "place"] f21 d21)
  (x22 : Dn K mg "place_of" iR ["field", "item", "channel"] f22 d22)
  (x23 : Dn K mg "x_of" vP ["field", "item"] f23 d23)
  (x24 : Dn K mg "loss_of" kK ["field", "item", "channels"] f24 d24)
  (x25 : Dn K mg "parted" oF ["field", "items", "channels"] f25 d25)
  (x26 : Dn K mg "by_rank" hG ["items"] f26 d26)
  (x27 : Dn K mg "along_x" cY ["field", "items"] f27 d27)
  (x28 : Dn K mg "point_of" fA ["field", "item", "channels"] f28 d28)
  (x29 : Dn K mg "strung" gE ["field", "side", "items", "word", "channels"] f29 d29)
  (x30 : Dn K mg "lines" qZ ["field", "side", "items"] f30 d30)
  (x31 : Dn K mg "_law_draws" kO ["_law_cell_here", "_law_tops"] f31 d31)
  (x32 : Dn K mg "_law_whole" ko ["_law_found"] f32 d32)
  (x33 : Dn K mg "_law_divisor" gp ["_law_one", "_law_other"] f33 d33)
  (x34 : Dn K mg "_law_number" iB ["_law_d"] f34 d34)
  (x35 : Dn K mg "_law_low" qS ["_law_top", "_law_bottom"] f35 d35)
  (x36 : Dn K mg "_law_plus" nG ["_law_one", "_law_other"] f36 d36)
  (x37 : Dn K mg "_law_part" nv ["_law_lo", "_law_hi", "_law_f", "_law_g"] f37 d37)
  (x38 : Dn K mg "_law_words" kg ["_law_many", "_law_d"] f38 d38)
  (x39 : Dn K mg "_law_broken" iL ["_law_d"] f39 d39)
  (x40 : Dn K mg "_law_scale" lu ["_law_kind", "_law_d"] f40 d40)
  (x41 : Dn K mg "_law_power" lf ["_law_base", "_law_many"] f41 d41)
  (x42 : Dn K mg "_law_turn_cell" bJ ["_law_scale_here", "_law_e", "_law_f", "_law_g"] f42 d42)
  (x43 : Dn K mg "_law_cell" ni ["_law_scale_here", "_law_e"] f43 d43)
  (x44 : Dn K mg "_law_between" gK ["_law_lo", "_law_hi", "_law_cell_here", "_law_start", "_law_stop"] f44 d44)
  (x45 : Dn K mg "_law_within" iW ["_law_lo", "_law_hi", "_law_cell_here"] f45 d45)
  (x46 : Dn K mg "_law_turn" mT ["_law_scale_here", "_law_cell_here"] f46 d46)
  (x47 : Dn K mg "_law_place" kN ["_law_scale_here", "_law_cell_here"] f47 d47)
  (x48 : Dn K mg "_law_rounded" gj ["_law_place_here"] f48 d48)
  (x49 : Dn K mg "_law_field" kX ["_law_cell_here"] f49 d49)
  (x50 : Dn K mg "_law_items" kI ["_law_cells", "_law_field_here"] f50 d50)
  (x51 : Dn K mg "_law_same" jE ["_law_found", "_law_due_here"] f51 d51)
  (x52 : Dn K mg "_law_spots" kM ["_law_field_here", "_law_items_here"] f52 d52)
  (x53 : Dn K mg "_law_path" gu ["_law_side", "_law_rows", "_law_group"] f53 d53)
  (x54 : Dn K mg "_law_due" mB ["_law_field_here", "_law_side", "_law_items_here"] f54 d54)
  (x55 : GX K f55 oc55 od55 "law" mD .none kV55 dc55 pm55 an55 cd55 ct55 sl55)
  (n_NoNumber : PySem.W.nsIn K mainGlobals "NoNumber" = some (some (.ref C_NoNumber))) (x_NoNumber : PySem.W.excIn K C_NoNumber Gy "ValueError.__new__" = true) (e_NoNumber : PySem.W.exmOne K (.ref C_NoNumber) (.ref C_NoNumber) = some true)
  (z_isinstance : PySem.W.nsIn K mainGlobals "isinstance" = some none)
  (z_int : PySem.W.nsIn K mainGlobals "int" = some none)
  (z_bool : PySem.W.nsIn K mainGlobals "bool" = some none)
  (z_tuple : PySem.W.nsIn K mainGlobals "tuple" = some none)
  (z_str : PySem.W.nsIn K mainGlobals "str" = some none)
  (z_list : PySem.W.nsIn K mainGlobals "list" = some none)
  (z_abs : PySem.W.nsIn K mainGlobals "abs" = some none)
  (z_len : PySem.W.nsIn K mainGlobals "len" = some none)
  (z_range : PySem.W.nsIn K mainGlobals "range" = some none)
  (z_max : PySem.W.nsIn K mainGlobals "max" = some none)
  (z_min : PySem.W.nsIn K mainGlobals "min" = some none)
  (z_zip : PySem.W.nsIn K mainGlobals "zip" = some none)
  (z_sorted : PySem.W.nsIn K mainGlobals "sorted" = some none)
  (z_all : PySem.W.nsIn K mainGlobals "all" = some none)
  : ∃ t : Nb, cO K mg t /\ t.f_law = fa /\ ∀ (s : Shared) (v : Value), BindsTo s t.d_law ⟨[v], []⟩ [("_law_script", v)] := by
 have e := hfa.symm.trans (PySem.W.mg_of X G x55.a)
 cases e
 have F2 := Dq (st := cE) x2.l x2.c x2.k
 have b2 : gM K (PySem.W.fnOf "number" "number" (cF cE) (bF cE) (ae cE) (.ref dT2) kV2 dc2 pm2 an2 cd2 ct2) ["top", "bottom"] [] := λ s us X hl => by obtain ⟨_, _, rfl⟩ := Kg (us := us) (by simpa using hl); exact BindsTo.of_defaults rfl (X _ _ dl2) rfl rfl rfl
 have bd2 : ∃ ds, aM [V.int 1] ds /\ gM K (PySem.W.fnOf "number" "number" (cF cE) (bF cE) (ae cE) (.ref dT2) kV2 dc2 pm2 an2 cd2 ct2) ["top", "bottom"] ds := ⟨[.int 1 tk2], .cons ⟨_, rfl⟩ .nil, λ s us X hl => by obtain ⟨_, rfl⟩ := Gz (us := us) (by simpa using hl); exact BindsTo.of_defaults rfl (X _ _ dl2) rfl rfl rfl⟩
 have F55 := kU (st := mD) x55.l x55.c x55.k
 have b55 := F55.binds (ps := ["_law_script"]) λ _ _ _ _ _ _ us hl => by obtain ⟨_, rfl⟩ := Gz hl; rfl
 have T : cO K mg ⟨_, _, _, _, _, _, _, _, _, _, _, _, _, _, _, _, _, _, _, _, _, _, _, _, _, _, _, _, _, _, _, _, _, _, _, _, _, _, _, _, _, _, _, _, _, _, _, _, _, _, _, _, _, _, _, _, _, _, _, _, _, _, _, _, _, _, _, _, _, _, _, _, _, _, _, _, _, _, _, _, _, _, _, _, _, _, _, _, _, _, _, _, _, _, _, _, _, _, _, _, _, _, _, _, _, _, _, _, _, _, _, _, C_NoNumber⟩ := ⟨x0, x1, F2, PySem.W.mg_of X G x2.a, x2.k, b2, bd2, x3, x4, x5, x6, x7, x8, x9, x10, x11, x12, x13, x14, x15, x16, x17, x18, x19, x20, x21, x22, x23, x24, x25, x26, x27, x28, x29, x30, x31, x32, x33, x34, x35, x36, x37, x38, x39, x40, x41, x42, x43, x44, x45, x46, x47, x48, x49, x50, x51, x52, x53, x54, F55, PySem.W.mg_of X G x55.a, x55.k, b55, PySem.W.mg_of X G n_NoNumber, n_NoNumber, x_NoNumber, e_NoNumber, sf X G z_isinstance, sf X G z_int, sf X G z_bool, sf X G z_tuple, sf X G z_str, sf X G z_list, sf X G z_abs, sf X G z_len, sf X G z_range, sf X G z_max, sf X G z_min, sf X G z_zip, sf X G z_sorted, sf X G z_all⟩
 exact ⟨_, T, rfl, λ s v => .of_eq rfl⟩
open PyProof.Rows in
set_option maxRecDepth 100000 in
set_option maxHeartbeats 0 in
theorem hdY (w : World) (mg : Str -> Option Value) (fa : Addr) (h : Heap) (KX : (hdKs.heap_1 w.params).In h) (G : h.Ns mainGlobals mg) (hmg : mg "law" = some (.ref fa)) : ∃ t : Nb, cO (hdKs.heap_1 w.params) mg t /\ t.f_law = fa /\ ∀ (s : Shared) (v : Value), BindsTo s t.d_law ⟨[v], []⟩ [("_law_script", v)] := by
 refine' all_mk KX G hmg (dn1 KX G ⟨?a0, ?l0, ?c0, ?k0⟩) (dn2 KX G ⟨?a1, ?l1, ?c1, ?k1⟩) ⟨?a2, ?l2, ?c2, ?k2⟩ ?dl2 (dn2 KX G ⟨?a3, ?l3, ?c3, ?k3⟩) (dn2 KX G ⟨?a4, ?l4, ?c4, ?k4⟩) (dn2 KX G ⟨?a5, ?l5, ?c5, ?k5⟩) (dn2 KX G ⟨?a6, ?l6, ?c6, ?k6⟩) (dn2 KX G ⟨?a7, ?l7, ?c7, ?k7⟩) (dn1 KX G ⟨?a8, ?l8, ?c8, ?k8⟩) (dn1 KX G ⟨?a9, ?l9, ?c9, ?k9⟩) (dn5 KX G ⟨?a10, ?l10, ?c10, ?k10⟩) (dn3 KX G ⟨?a11, ?l11, ?c11, ?k11⟩) (dn2 KX G ⟨?a12, ?l12, ?c12, ?k12⟩) (dn2 KX G ⟨?a13, ?l13, ?c13, ?k13⟩) (dn2 KX G ⟨?a14, ?l14, ?c14, ?k14⟩) (dn2 KX G ⟨?a15, ?l15, ?c15, ?k15⟩) (dn2 KX G ⟨?a16, ?l16, ?c16, ?k16⟩) (dn2 KX G ⟨?a17, ?l17, ?c17, ?k17⟩) (dn2 KX G ⟨?a18, ?l18, ?c18, ?k18⟩) (dn2 KX G ⟨?a19, ?l19, ?c19, ?k19⟩) (dn2 KX G ⟨?a20, ?l20, ?c20, ?k20⟩) (dn2 KX G ⟨?a21, ?l21, ?c21, ?k21⟩) (dn3 KX G ⟨?a22, ?l22, ?c22, ?k22⟩) (dn2 KX G ⟨?a23, ?l23, ?c23, ?k23⟩) (dn3 KX G ⟨?a24, ?l24, ?c24, ?k24⟩) (dn3 KX G ⟨?a25, ?l25, ?c25, ?k25⟩) (dn1 KX G ⟨?a26, ?l26, ?c26, ?k26⟩) (dn2 KX G ⟨?a27, ?l27, ?c27, ?k27⟩) (dn3 KX G ⟨?a28, ?l28, ?c28, ?k28⟩) (dn5 KX G ⟨?a29, ?l29, ?c29, ?k29⟩) (dn3 KX G ⟨?a30, ?l30, ?c30, ?k30⟩) (dn2 KX G ⟨?a31, ?l31, ?c31, ?k31⟩) (dn1 KX G ⟨?a32, ?l32, ?c32, ?k32⟩) (dn2 KX G ⟨?a33, ?l33, ?c33, ?k33⟩) (dn1 KX G ⟨?a34, ?l34, ?c34, ?k34⟩) (dn2 KX G ⟨?a35, ?l35, ?c35, ?k35⟩) (dn2 KX G ⟨?a36, ?l36, ?c36, ?k36⟩) (dn4 KX G ⟨?a37, ?l37, ?c37, ?k37⟩) (dn2 KX G ⟨?a38, ?l38, ?c38, ?k38⟩) (dn1 KX G ⟨?a39, ?l39, ?c39, ?k39⟩) (dn2 KX G ⟨?a40, ?l40, ?c40, ?k40⟩) (dn2 KX G ⟨?a41, ?l41, ?c41, ?k41⟩) (dn4 KX G ⟨?a42, ?l42, ?c42, ?k42⟩) (dn2 KX G ⟨?a43, ?l43, ?c43, ?k43⟩) (dn5 KX G ⟨?a44, ?l44, ?c44, ?k44⟩) (dn3 KX G ⟨?a45, ?l45, ?c45, ?k45⟩) (dn2 KX G ⟨?a46, ?l46, ?c46, ?k46⟩) (dn2 KX G ⟨?a47, ?l47, ?c47, ?k47⟩) (dn1 KX G ⟨?a48, ?l48, ?c48, ?k48⟩) (dn1 KX G ⟨?a49, ?l49, ?c49, ?k49⟩) (dn2 KX G ⟨?a50, ?l50, ?c50, ?k50⟩) (dn2 KX G ⟨?a51, ?l51, ?c51, ?k51⟩) (dn2 KX G ⟨?a52, ?l52, ?c52, ?k52⟩) (dn3 KX G ⟨?a53, ?l53, ?c53, ?k53⟩) (dn3 KX G ⟨?a54, ?l54, ?c54, ?k54⟩) ⟨?a55, ?l55, ?c55, ?k55⟩ ?n_NoNumber ?x_NoNumber ?e_NoNumber ?z_isinstance ?z_int ?z_bool ?z_tuple ?z_str ?z_list ?z_abs ?z_len ?z_range ?z_max ?z_min ?z_zip ?z_sorted ?z_all
 all_goals try k_is
 (case x_NoNumber => k_exc)
 (case e_NoNumber => kts_exm)
theorem yk (x y : α) : eP [x, y] 0 = some x := rfl
theorem vO (x y : α) : eP [x, y] 1 = some y := rfl
variable {A : Prop} {B : Prop}
theorem Ks {b : Bool} (hb : b = true) (h : A) : if b = true then A else B := by
 rw [i9 hb]; exact h
variable {c : Prop}
theorem jD [Decidable c] (hc : ¬ c) (h : B) : if decide c = true then A else B := by
 rw [i8 hc]; exact fB h
theorem lA [Decidable c] (hc : c) (h : A) : if decide c = true then A else B := by
 rw [j6 hc]; exact jH h
theorem KK [Decidable c] (hc : ¬ c) (h : A) : if (!decide c) = true then A else B := by
 rw [i8 hc]; exact jH h
theorem nu {n : Int} (h1 : 0 <= n) (h2 : n < 1152921504606846976) : cr n := (show My.Bd 60 n by unfold My.Bd; lia).mono (by decide)
def AB (K : Fg) : Sp := λ vs H Q _ => ∃ x g, vs = [x] /\ Db K H x g /\ Q (.bl (match g with | .int => true | _ => false)) H
def sp_div : Sp := λ vs H Q _ => ∃ a b : Int, vs = [.int a, .int b] /\ 0 <= b /\ Q (.int ((Int.gcd a b : Nat) : Int)) H
def qE (K : Fg) : Sp := λ vs H Q _ => ∃ (a : Addr) (ns : List Int), vs = [.ref a] /\ aZ K H a (ns.map V.int) /\ ns.length <= 63 /\ ∀ H', Q (.bl true) H'
def sp_gcd : Sp := λ vs H Q _ => ∃ a b : Int, vs = [.int a, .int b] /\ Q (.int ((Int.gcd a b : Nat) : Int)) H
structure Pr (K : Fg) (H : Hp) (p : Addr) (a b : Int) (n : Nat) : Prop where
 s : bq K H p [.int a, .int b]
 pos : 0 < b
 ba : My.Bd n a
 bb : My.Bd n b
variable {K : Fg} {H : Hp} {p : Addr} {a : Int} {b : Int}
theorem Pr.ne (h : Pr K H p a b n) : b ≠ 0 := sY h.pos
theorem Pr.keep {H' : Hp} (h : Pr K H p a b n) (e : ah H H') : Pr K H' p a b n := ⟨e.tup h.s, h.pos, h.ba, h.bb⟩
theorem Pr.up {m : Nat} (h : Pr K H p a b n) (e : n <= m) : Pr K H p a b m := ⟨h.s, h.pos, h.ba.mono e, h.bb.mono e⟩
def lY (K : Fg) (H : Hp) (Q : VK) (n : Nat) (v : Rat) : Prop := ∀ (p : Addr) (H' : Hp) (x y : Int), ah H H' -> Pr K H' p x y n -> Int.gcd x y = 1 -> My.qv x y = v -> Q (.ref p) H'
def ku (K : Fg) : Sp := λ vs H Q _ => ∃ (t m : Int) (n : Nat), vs = [.int t, .int m] /\ My.Bd n t /\ My.Bd n m /\ n <= 3900 /\ m ≠ 0 /\ lY K H Q n (My.qv t m)
def nJ (K : Fg) (f : Rat -> Rat -> Rat) (ok : Int -> Prop) : Sp := λ vs H Q _ => ∃ (p r : Addr) (a b c d : Int) (n1 n2 : Nat), vs = [.ref p, .ref r] /\ Pr K H p a b n1 /\ Pr K H r c d n2 /\ n1 + n2 + 1 <= 3900 /\ ok c /\ lY K H Q (n1 + n2 + 1) (f (My.qv a b) (My.qv c d))
def BV (K : Fg) (f : Int -> Int -> Int -> Int -> V) : Sp := λ vs H Q _ => ∃ (p r : Addr) (a b c d : Int) (n1 n2 : Nat), vs = [.ref p, .ref r] /\ Pr K H p a b n1 /\ Pr K H r c d n2 /\ n1 + n2 <= 3900 /\ Q (f a b c d) H
section
variable {P : Program} {w : World} {K : Fg} {mg : Str -> Option Value} {base : Heap} {t : Nb}
theorem lR (T : cO K mg t) : FO P w base T.q_zap 1 (AB K) := by
 refine T.q_zap.F.ok tN (λ vs H Q E h => ?_) (λ cdv A outer s H vs Q E hr h => ?_)
 ·obtain ⟨x, g, rfl, _⟩ := h
  rfl
 obtain ⟨x, g, rfl, hg, q⟩ := h
 refine ⟨_, (aR (ai (jZ (dj xb rfl rfl T.z_isinstance T.z_int qT (pv 0)) (kq (rg (dj sS rfl rfl T.z_isinstance T.z_bool xg (pv 0))))))), ?_⟩
 refine ⟨_, rfl, _, g, rfl, hg, _, rfl, ?_⟩
 cases g with
 | int => exact jH ⟨_, rfl, _, .int, rfl, hg, _, rfl, q⟩
 | bl => exact jH ⟨_, rfl, _, .bl, rfl, hg, _, rfl, q⟩
 | non => exact fB q
 | str => exact fB q
 | tup => exact fB q
 | lst => exact fB q
 | dic => exact fB q
theorem rl (T : cO K mg t) : dL P w K mg base wQ 1 t.f_zag t.d_zag ["_law_one", "_law_other"] sp_div := by
 refine T.q_zag.F.ok jR (λ vs H Q E h => ?_) (λ cdv A outer s H vs Q E hr h => ?_)
 ·obtain ⟨a, b, rfl, _⟩ := h
  rfl
 obtain ⟨a, b, rfl, hb, q⟩ := h
 refine ⟨_, (aJ (fm o4 (aj ui (pv 1) aD (aw _)) (aR (Hl (i := 0) (j := 1) rfl jR.nd rfl rfl (by decide) rfl rfl (af (pv 1) (af (ac aQ (pv 0) (pv 1)) aA)) rfl)))
 (aR (ai (aN fg rfl T.z_abs lh (af (pv 0) aA))))), ?_⟩
 refine jU (λ Z H' => ∃ x y : Int, Z = [some (.int x), some (.int y)] /\ H' = H /\ 0 <= y /\ Int.gcd x y = Int.gcd a b)
  (λ Z _ => match Z with | [_, some (.int y)] => y.toNat | _ => 0) ⟨a, b, rfl, rfl, hb, rfl⟩ ?_ ?_
 ·rintro Z H' ⟨x, y, rfl, rfl, hy, hg⟩
  refine ⟨_, rfl, rfl, _, rfl, ?_⟩
  by_cases h0 : y = 0
  ·subst h0
   refine Fa rfl ?_
   have e : (if x < 0 then -x else x) = ((Int.gcd a b : Nat) : Int) := by
    rw [<- hg, Int.gcd_zero_right]
    split <;> lia
   refine ⟨_, rfl, _, rfl, ?_⟩
   rw [e]
   exact q
  ·rw [i8 (λ z => h0 (V.int.inj z))]
   refine jH ?_
   have hp : 0 < y := by lia
   have h1 := nW x h0
   have h2 := lb x hp
   refine ⟨_, rfl, _, rfl, _, rfl, _, _, rfl, rfl, hp, _, _, rfl, ⟨y, x % y, rfl, rfl, h1, ?_⟩, ?_⟩
   ·rw [My.gcd_step, hg]
   ·show (x % y).toNat < y.toNat
    lia
 ·rintro Z H' Q1 Q2 hi ⟨v, e, hs, k, ek, q'⟩
  exact ⟨v, e, hs, k, ek, hi _ _ q'⟩
theorem Dc (a b : Int) : Int.gcd (if a < 0 then -a else a) (if b < 0 then -b else b) = Int.gcd a b := by
 rw [My.natAbs_abs, My.natAbs_abs]
 rfl
theorem ii (T : cO K mg t) : dL P w K mg base wQ 1 t.f_zae t.d_zae ["one", "other"] sp_gcd := by
 refine T.q_zae.F.ok cf (λ vs H Q E h => ?_) (λ cdv A outer s H vs Q E hr h => ?_)
 ·obtain ⟨a, b, rfl, _⟩ := h
  rfl
 obtain ⟨a, b, rfl, q⟩ := h
 refine ⟨_, (aJ (ag (i := 2) cf.nd rfl (Or.inl rfl) (aN fg rfl T.z_abs lh (af (pv 0) aA)))
 (aJ (ag (i := 3) cf.nd rfl (Or.inl rfl) (aN fg rfl T.z_abs lh (af (pv 1) aA)))
 (aJ (fm o4 (Ao (pv 3) (λ _ => rfl)) (aJ (ag (i := 4) cf.nd rfl (Or.inl rfl) (ac aQ (pv 2) (pv 3)))
 (aJ (ag (i := 2) cf.nd rfl (Or.inl rfl) (pv 3))
 (aR (ag (i := 3) cf.nd rfl (Or.inl rfl) (pv 4))))))
 (aR (ai (pv 2)))))), ?_⟩
 refine ⟨_, rfl, _, rfl, ?_⟩
 refine ⟨_, rfl, _, rfl, ?_⟩
 dsimp only [bH, ke]
 refine jU (λ Z H' => ∃ (x y : Int) (r : Option V), Z = [some (.int a), some (.int b), some (.int x), some (.int y), r] /\ H' = H /\ 0 <= x /\ 0 <= y /\ Int.gcd x y = Int.gcd a b)
  (λ Z _ => match Z with | [_, _, _, some (.int y), _] => y.toNat | _ => 0) ⟨_, _, none, rfl, rfl, by split <;> lia, by split <;> lia, Dc a b⟩ ?_ ?_
 ·rintro Z H' ⟨x, y, r, rfl, rfl, hx, hy, hg⟩
  refine ⟨_, rfl, _, rfl, ?_⟩
  by_cases h0 : y = 0
  ·subst h0
   refine fB ?_
   have e : x = ((Int.gcd a b : Nat) : Int) := by
    rw [<- hg, Int.gcd_zero_right]
    lia
   refine ⟨_, rfl, ?_⟩
   rw [e]
   exact q
  ·have hb : (y != 0) = true := by simpa using h0
   refine Ks hb ?_
   have hp : 0 < y := by lia
   have h1 := nW x h0
   have h2 := lb x hp
   refine ⟨_, rfl, _, rfl, _, _, rfl, rfl, hp, _, rfl, _, rfl, ⟨y, x % y, _, rfl, rfl, hy, h1, ?_⟩, ?_⟩
   ·rw [My.gcd_step, hg]
   ·show (x % y).toNat < y.toNat
    lia
 ·rintro Z H' Q1 Q2 hi ⟨v, e, k, tr, q'⟩
  exact ⟨v, e, k, tr, hi _ _ q'⟩
theorem bK (T : cO K mg t) : dL P w K mg base (tR P w) 2 t.f_zaa t.d_zaa ["top", "bottom"] (ku K) := by
 refine T.F_zaa.okE kG (λ vs H Q E h => ?_) (λ cdv A outer s H vs Q E hr h => ?_)
 ·obtain ⟨a, b, n, rfl, _⟩ := h
  rfl
 obtain ⟨tp, m, n, rfl, bt, bm, hn, h0, hQ⟩ := h
 refine ⟨_, (aJ (aK (PW.pt (pO (kf (cU (bI (lR T) hr T.q_zap (af (pv 0) aA)))) (nE (kf (cU (bI (lR T) hr T.q_zap (af (pv 1) aA))))))) (aR (tV rfl T.x_NoNumber T.n_NoNumber T.m_NoNumber rfl wB (af aI aA))) au)
 (aJ (aK (aj bB (pv 1) aD (aw _)) (aR (tV rfl T.x_NoNumber T.n_NoNumber T.m_NoNumber rfl wB (af aI aA))) au)
 (aJ (ag (i := 2) kG.nd rfl (Or.inl rfl) (bI (ii T) hr T.q_zae (af (pv 0) (af (pv 1) aA))))
 (aJ (aK (aj lO (pv 1) aD (aw _)) (aR (ag (i := 2) kG.nd rfl (Or.inl rfl) (dH cv (pv 2)))) au)
 (aR (ai (aL (af (ac pQ (pv 0) (pv 2)) (af (ac pQ (pv 1) (pv 2)) aA))))))))), ?_⟩
 refine ⟨_, rfl, _, .int, rfl, True.intro, _, rfl, ?_⟩
 refine fB ?_
 refine ⟨_, rfl, _, .int, rfl, True.intro, _, rfl, ?_⟩
 refine fB ?_
 refine ⟨_, rfl, rfl, _, rfl, ?_⟩
 refine jD (λ z => h0 (V.int.inj z)) ?_
 have M := My.made_of (t := tp) h0
 refine ⟨_, rfl, _, rfl, _, _, rfl, ?_⟩
 refine ⟨_, rfl, _, _, rfl, rfl, _, rfl, ?_⟩
 have hg : 0 < Int.gcd tp m := Int.gcd_pos_of_ne_zero_right tp h0
 have hm : cr ((Int.gcd tp m : Nat) : Int) := (My.Bd.of_natAbs (x := ((Int.gcd tp m : Nat) : Int)) (y := m) (by
  rw [Int.natAbs_natCast]
  exact Nat.le_of_dvd (by lia) (Nat.gcd_dvd_right tp.natAbs m.natAbs)) bm).mono (by lia)
 by_cases hneg : m < 0
 ·refine lA hneg ?_
  have e : My.sg tp m = -((Int.gcd tp m : Nat) : Int) := i9 hneg
  refine ⟨_, rfl, _, rfl, ?_⟩
  refine ⟨_, rfl, _, rfl, _, _, rfl, rfl, ⟨by lia, hm.neg⟩, _, rfl, _, rfl, _, _, rfl, rfl, ⟨by lia, hm.neg⟩, (by show 2 <= sizeLine; decide), λ p hp => ?_⟩
  exact hQ p _ _ _ (ah.new hp _) ⟨bq.of (by rw [e]; exact ar), M.pos, My.Bd.of_natAbs M.ba bt, My.Bd.of_natAbs M.bb bm⟩ M.low (My.qv_eq (sY M.pos) h0 M.same)
 ·refine jD hneg ?_
  have e : My.sg tp m = ((Int.gcd tp m : Nat) : Int) := gS hneg
  refine ⟨_, rfl, _, rfl, _, _, rfl, rfl, ⟨by lia, hm⟩, _, rfl, _, rfl, _, _, rfl, rfl, ⟨by lia, hm⟩, (by show 2 <= sizeLine; decide), λ p hp => ?_⟩
  exact hQ p _ _ _ (ah.new hp _) ⟨bq.of (by rw [e]; exact ar), M.pos, My.Bd.of_natAbs M.ba bt, My.Bd.of_natAbs M.bb bm⟩ M.low (My.qv_eq (sY M.pos) h0 M.same)
theorem rA {b d : Int} (hb : 0 < b) (hd : 0 < d) : b * d ≠ 0 := sY (r8 hb hd)
theorem wp (T : cO K mg t) : FO P w base T.q_zaq 3 (nJ K (λ x y => x + y) (λ _ => True)) := by
 refine T.q_zaq.F.ok Eo (λ vs H Q E h => ?_) (λ cdv A outer s H vs Q E hr h => ?_)
 ·obtain ⟨p, r, a, b, c, d, n1, n2, rfl, _⟩ := h
  rfl
 obtain ⟨p, r, a, b, c, d, n1, n2, rfl, h1, h2, hn, hok, q⟩ := h
 have m1 : cr a := h1.ba.mono (by lia)
 have m2 : cr b := h1.bb.mono (by lia)
 have m3 : cr c := h2.ba.mono (by lia)
 have m4 : cr d := h2.bb.mono (by lia)
 refine ⟨_, (aR (ai (bX (bK T) (hr.mono (by decide)) rfl T.m_zaa T.k_number T.b_number .nil db (af (ac aC (ac aq (aa (pv 0)) (aa (pv 1))) (ac aq (aa (pv 1)) (aa (pv 0)))) (af (ac aq (aa (pv 0)) (aa (pv 1))) aA))))), ?_⟩
 exact ⟨_, rfl, _, _, _, _, rfl, rfl, h1.s, yk _ _, _, rfl, _, _, _, _, rfl, rfl, h2.s, vO _ _, _, _, rfl, rfl, ⟨m1, m4⟩, _, rfl, _, _, _, _, rfl, rfl, h2.s, yk _ _, _, rfl, _, _, _, _, rfl, rfl, h1.s, vO _ _, _, _, rfl, rfl, ⟨m3, m2⟩, _, _, rfl, rfl, _, rfl, _, _, _, _, rfl, rfl, h1.s, vO _ _, _, rfl, _, _, _, _, rfl, rfl, h2.s, vO _ _, _, _, rfl, rfl, ⟨m2, m4⟩, _, _, n1 + n2 + 1, rfl, ((h1.ba.mul h2.bb).add ((h2.ba.mul h1.bb).mono (by lia))).mono (by lia), (h1.bb.mul h2.bb).mono (by lia), hn, rA h1.pos h2.pos, λ p' H' x y s' P g e => q p' H' x y s' P g (e.trans (My.qv_plus h1.ne h2.ne))⟩
theorem mX (T : cO K mg t) : FO P w base T.q_zai 3 (nJ K (λ x y => x - y) (λ _ => True)) := by
 refine T.q_zai.F.ok AF (λ vs H Q E h => ?_) (λ cdv A outer s H vs Q E hr h => ?_)
 ·obtain ⟨p, r, a, b, c, d, n1, n2, rfl, _⟩ := h
  rfl
 obtain ⟨p, r, a, b, c, d, n1, n2, rfl, h1, h2, hn, hok, q⟩ := h
 have m1 : cr a := h1.ba.mono (by lia)
 have m2 : cr b := h1.bb.mono (by lia)
 have m3 : cr c := h2.ba.mono (by lia)
 have m4 : cr d := h2.bb.mono (by lia)
 refine ⟨_, (aR (ai (bX (bK T) (hr.mono (by decide)) rfl T.m_zaa T.k_number T.b_number .nil db (af (ac bw (ac aq (aa (pv 0)) (aa (pv 1))) (ac aq (aa (pv 1)) (aa (pv 0)))) (af (ac aq (aa (pv 0)) (aa (pv 1))) aA))))), ?_⟩
 exact ⟨_, rfl, _, _, _, _, rfl, rfl, h1.s, yk _ _, _, rfl, _, _, _, _, rfl, rfl, h2.s, vO _ _, _, _, rfl, rfl, ⟨m1, m4⟩, _, rfl, _, _, _, _, rfl, rfl, h2.s, yk _ _, _, rfl, _, _, _, _, rfl, rfl, h1.s, vO _ _, _, _, rfl, rfl, ⟨m3, m2⟩, _, _, rfl, rfl, _, rfl, _, _, _, _, rfl, rfl, h1.s, vO _ _, _, rfl, _, _, _, _, rfl, rfl, h2.s, vO _ _, _, _, rfl, rfl, ⟨m2, m4⟩, _, _, n1 + n2 + 1, rfl, ((h1.ba.mul h2.bb).sub ((h2.ba.mul h1.bb).mono (by lia))).mono (by lia), (h1.bb.mul h2.bb).mono (by lia), hn, rA h1.pos h2.pos, λ p' H' x y s' P g e => q p' H' x y s' P g (e.trans (My.qv_minus h1.ne h2.ne))⟩
theorem nX (T : cO K mg t) : FO P w base T.q_zaj 3 (nJ K (λ x y => x * y) (λ _ => True)) := by
 refine T.q_zaj.F.ok zK (λ vs H Q E h => ?_) (λ cdv A outer s H vs Q E hr h => ?_)
 ·obtain ⟨p, r, a, b, c, d, n1, n2, rfl, _⟩ := h
  rfl
 obtain ⟨p, r, a, b, c, d, n1, n2, rfl, h1, h2, hn, hok, q⟩ := h
 have m1 : cr a := h1.ba.mono (by lia)
 have m2 : cr b := h1.bb.mono (by lia)
 have m3 : cr c := h2.ba.mono (by lia)
 have m4 : cr d := h2.bb.mono (by lia)
 refine ⟨_, (aR (ai (bX (bK T) (hr.mono (by decide)) rfl T.m_zaa T.k_number T.b_number .nil db (af (ac aq (aa (pv 0)) (aa (pv 1))) (af (ac aq (aa (pv 0)) (aa (pv 1))) aA))))), ?_⟩
 exact ⟨_, rfl, _, _, _, _, rfl, rfl, h1.s, yk _ _, _, rfl, _, _, _, _, rfl, rfl, h2.s, yk _ _, _, _, rfl, rfl, ⟨m1, m3⟩, _, rfl, _, _, _, _, rfl, rfl, h1.s, vO _ _, _, rfl, _, _, _, _, rfl, rfl, h2.s, vO _ _, _, _, rfl, rfl, ⟨m2, m4⟩, _, _, n1 + n2 + 1, rfl, (h1.ba.mul h2.ba).mono (by lia), (h1.bb.mul h2.bb).mono (by lia), hn, rA h1.pos h2.pos, λ p' H' x y s' P g e => q p' H' x y s' P g (e.trans (My.qv_times h1.ne h2.ne))⟩
theorem wx (T : cO K mg t) : FO P w base T.q_zar 3 (nJ K (λ x y => x / y) (λ c => c ≠ 0)) := by
 refine T.q_zar.F.ok Dz (λ vs H Q E h => ?_) (λ cdv A outer s H vs Q E hr h => ?_)
 ·obtain ⟨p, r, a, b, c, d, n1, n2, rfl, _⟩ := h
  rfl
 obtain ⟨p, r, a, b, c, d, n1, n2, rfl, h1, h2, hn, hok, q⟩ := h
 have m1 : cr a := h1.ba.mono (by lia)
 have m2 : cr b := h1.bb.mono (by lia)
 have m3 : cr c := h2.ba.mono (by lia)
 have m4 : cr d := h2.bb.mono (by lia)
 refine ⟨_, (aR (ai (bX (bK T) (hr.mono (by decide)) rfl T.m_zaa T.k_number T.b_number .nil db (af (ac aq (aa (pv 0)) (aa (pv 1))) (af (ac aq (aa (pv 0)) (aa (pv 1))) aA))))), ?_⟩
 exact ⟨_, rfl, _, _, _, _, rfl, rfl, h1.s, yk _ _, _, rfl, _, _, _, _, rfl, rfl, h2.s, vO _ _, _, _, rfl, rfl, ⟨m1, m4⟩, _, rfl, _, _, _, _, rfl, rfl, h1.s, vO _ _, _, rfl, _, _, _, _, rfl, rfl, h2.s, yk _ _, _, _, rfl, rfl, ⟨m2, m3⟩, _, _, n1 + n2 + 1, rfl, (h1.ba.mul h2.bb).mono (by lia), (h1.bb.mul h2.ba).mono (by lia), hn, Int.mul_ne_zero h1.ne hok, λ p' H' x y s' P g e => q p' H' x y s' P g (e.trans (My.qv_over h1.ne h2.ne hok))⟩
theorem tq (T : cO K mg t) : FO P w base T.q_zas 1 (BV K λ a b c d => .bl (decide (a * d < c * b))) := by
 refine T.q_zas.F.ok AU (λ vs H Q E h => ?_) (λ cdv A outer s H vs Q E hr h => ?_)
 ·obtain ⟨p, r, a, b, c, d, n1, n2, rfl, _⟩ := h
  rfl
 obtain ⟨p, r, a, b, c, d, n1, n2, rfl, h1, h2, hn, q⟩ := h
 have m1 : cr a := h1.ba.mono (by lia)
 have m2 : cr b := h1.bb.mono (by lia)
 have m3 : cr c := h2.ba.mono (by lia)
 have m4 : cr d := h2.bb.mono (by lia)
 refine ⟨_, (aR (ai (fN lO (ac aq (aa (pv 0)) (aa (pv 1))) (ac aq (aa (pv 1)) (aa (pv 0))) (aw _)))), ?_⟩
 exact ⟨_, rfl, _, _, _, _, rfl, rfl, h1.s, yk _ _, _, rfl, _, _, _, _, rfl, rfl, h2.s, vO _ _, _, _, rfl, rfl, ⟨m1, m4⟩, _, rfl, _, _, _, _, rfl, rfl, h2.s, yk _ _, _, rfl, _, _, _, _, rfl, rfl, h1.s, vO _ _, _, _, rfl, rfl, ⟨m3, m2⟩, _, _, rfl, rfl, q⟩
end
theorem Pr.kp {H' : Hp} (e : ah H H') (h : Pr K H p a b n) : Pr K H' p a b n := h.keep e
section
variable {K : Fg} {H : Hp} {Q : VK} {E : XK} {p r : Addr} {a b c d t m : Int} {n1 n2 : Nat} {f : Rat -> Rat -> Rat} {ok : Int -> Prop} {F : Int -> Int -> Int -> Int -> V}
theorem sM (h1 : My.Bd n1 t) (h2 : My.Bd n2 m) (h3 : max n1 n2 <= 3900) (h4 : m ≠ 0) (q : ∀ p H' x y, ah H H' -> Pr K H' p x y (max n1 n2) -> Int.gcd x y = 1 -> My.qv x y = My.qv t m -> Q (.ref p) H') : ku K [.int t, .int m] H Q E :=
 ⟨t, m, max n1 n2, rfl, h1.mono (by lia), h2.mono (by lia), h3, h4, q⟩
theorem yh (h1 : My.Bd n1 t) (h2 : My.Bd n2 m) (h3 : max n1 n2 <= 3900) (h4 : m ≠ 0) (q : ∀ p H' x y, ah H H' -> Pr K H' p x y (max n1 n2) -> Int.gcd x y = 1 -> My.qv x y = My.qv t m -> Q (.ref p) H') : ku K ([.int t] ++ [.int m]) H Q E := sM h1 h2 h3 h4 q
theorem JU (h1 : Pr K H p a b n1) (h2 : Pr K H r c d n2) (h3 : n1 + n2 + 1 <= 3900) (h4 : ok c) (q : ∀ p' H' x y, ah H H' -> Pr K H' p' x y (n1 + n2 + 1) -> Int.gcd x y = 1 -> My.qv x y = f (My.qv a b) (My.qv c d) -> Q (.ref p') H') : nJ K f ok [.ref p, .ref r] H Q E :=
 ⟨p, r, a, b, c, d, n1, n2, rfl, h1, h2, h3, h4, q⟩
theorem KZ (h1 : Pr K H p a b n1) (h2 : Pr K H r c d n2) (h3 : n1 + n2 <= 3900) (q : Q (F a b c d) H) : BV K F [.ref p, .ref r] H Q E := ⟨p, r, a, b, c, d, n1, n2, rfl, h1, h2, h3, q⟩
end
local macro_rules | `(tactic| accm_open) => `(tactic| repeat (first | exact jr.here | apply jr.next))
local macro_rules | `(tactic| accj_open) => `(tactic| repeat (first | exact gi.here | apply gi.next))
local macro_rules | `(tactic| kpf_lEnd) => `(tactic| first | assumption | exact bq.of (by assumption) | ((apply ah.tup); (focus assumption); (kpf_lEnd)) | ((apply wo.tup); (focus assumption); (focus assumption); (kpf_lEnd)))
local macro_rules | `(tactic| kpf_nlEnd) => `(tactic| first | assumption | exact aZ.of (by assumption) | ((apply ah.seq); (focus assumption); (kpf_nlEnd)) | ((apply wo.seq); (focus assumption); (focus assumption); (kpf_nlEnd)))
local macro_rules | `(tactic| dictfold_keysKept) => `(tactic| first | assumption | exact (show ah _ _ by assumption) _ _ (by dictfold_keysKept) | exact (show wo _ _ _ by assumption) _ _ (by assumption) (by dictfold_keysKept))
local macro_rules | `(tactic| kpc_if) => `(tactic| first | assumption | exact ah.refl _ | ((apply sm2); (focus assumption); (kpc_if)))
local macro_rules | `(tactic| kj_step) => do
  let a0 ← MyLaw.mkAlts "ryn ryu ryV ryU rvK rvF rvV rvv ryJ rxI rxX rxY rur rtM ruj rsG ruY rvW ruD rvS dxM fxV duS fvG dyb fxJ dut fuh dvX fvM"
  `(tactic| ((with_reducible refine II ?_); first | $a0:tactic))
local macro_rules | `(tactic| regwhilegen_openM) => do
  let a0 ← MyLaw.mkAlts "rGc rHd rFT rIW rIF rHo rGg rGb"
  `(tactic| first | $a0:tactic)
local macro_rules | `(tactic| regwhilegen_open) => do
  let a0 ← MyLaw.mkAlts "rz_c rMc rLX rJJ rLk rFI rFE rFf rFo rHV rNh rJo rJN rLv rGE rKl rDj rEe rMV rz_U rJW rNo rKD rGO rKc rIw rMC rEp rIj rHt rJS rMu rMB rNg rJw rjH rfB rxo rHQ rEc rGi rMj rKn rGd rKa rMW rJn rMa rMT rKj rLx rKq rKv rLu rKP"
  `(tactic| first | ((with_reducible apply Kt); (focus (accm_open))) | $a0:tactic | ((with_reducible apply Ia); (focus (accj_open))) | ((with_reducible apply Hq); (focus (accj_open)); (focus (accj_open))) | ((with_reducible apply Jv); (focus (exact Nat.le_of_ble_eq_true rfl)); (intro p H' n s e)))
local macro_rules | `(tactic| regwhilegenl_has) => do
  let a0 ← MyLaw.mkAlts "iz_I lmF"
  let a1 ← MyLaw.mkAlts "lBX fLm dJM"
  `(tactic| first | $a0:tactic | kj_step | regwhilegen_openM | ((with_reducible apply z_len); (focus (first | exact .inl (by kpf_nlEnd) | exact .inr (by kpf_lEnd)))) | $a1:tactic | ((with_reducible apply Lq); (focus (first | decide | lia)); (focus (first | decide | lia))) | ((with_reducible apply Jy); (focus (first | decide | lia)); (focus (first | decide | lia)); (focus (first | decide | lia)); (focus (first | decide | lia))))
local macro_rules | `(tactic| kt_field) => do
  let a0 ← MyLaw.mkAlts "mMy.Bd.mod mMy.Bd.div"
  `(tactic| first | assumption | (exact Pr.ba (by assumption)) | (exact Pr.bb (by assumption)) | (exact (show My.Bd 64 _ by unfold My.Bd; decide)) | ((with_reducible apply Gm) <;> (kt_field)) | ((with_reducible apply Hx) <;> (kt_field)) | ((with_reducible apply Ik) <;> (kt_field)) | ((with_reducible apply My.Bd.neg); (kt_field)) | $a0:tactic | (exact dF (by lia) (by lia)) | (exact (show My.Bd 256 _ by unfold My.Bd; decide)))
local macro_rules | `(tactic| row_close2_lm) => `(tactic| first | assumption | ((apply My.Bd.mono); (focus (kt_field)); (first | decide | lia)))
local macro_rules | `(tactic| row_close2_l) => `(tactic| first | assumption | exact True.intro | decide | lia | exact ⟨by first | decide | lia, by first | decide | lia⟩ | exact ⟨by decide, by decide, by decide⟩ | exact .inl ⟨by first | decide | lia, by first | decide | lia⟩ | exact .inr ⟨by first | decide | lia, by first | decide | lia⟩ | exact ⟨by row_close2_lm, by row_close2_lm⟩ | exact ⟨by first | decide | lia | assumption, by row_close2_lm⟩)
local macro_rules | `(tactic| kpc_check) => `(tactic| first | assumption | ((apply Pr.kp); (focus assumption); (kpc_check)))
local macro_rules | `(tactic| k_made) => `(tactic| ((with_reducible apply sM); (focus (kt_field)); (focus (kt_field)); (focus (first | decide | lia)); (focus (first | decide | lia)); (intro p H' x y s R g e)))
local macro_rules | `(tactic| k_made) => `(tactic| ((with_reducible apply yh); (focus (kt_field)); (focus (kt_field)); (focus (first | decide | lia)); (focus (first | decide | lia)); (intro p H' x y s R g e)))
local macro_rules | `(tactic| k_made) => `(tactic| ((with_reducible apply JU); (focus (kpc_check)); (focus (kpc_check)); (focus (first | decide | lia)); (focus (first | exact True.intro | assumption)); (intro p H' x y s R g e)))
local macro_rules | `(tactic| k_made) => `(tactic| ((with_reducible apply KZ); (focus (kpc_check)); (focus (kpc_check)); (focus (first | decide | lia))))
local macro_rules | `(tactic| dictfold_empty) => `(tactic| ((with_reducible apply DB); (focus ((intro S q); (f_look); (exact q))); (focus ((intro hb S q); (f_look); (exact q))); (focus (accm_open)); (focus (accj_open))))
local macro_rules | `(tactic| f_look) => `(tactic| repeat (first | dictfold_empty | regwhilegen_open | regwhilegenl_has | k_made))
local macro_rules | `(tactic| kmb_kw) => `(tactic| first | assumption | exact dF (by lia) (by lia))
local macro_rules | `(tactic| k_made) => `(tactic| ((with_reducible apply Iz); (focus (kpf_nlEnd)); (focus (first | decide | lia))))
local macro_rules | `(tactic| kln_le) => `(tactic| try dsimp only [ee, Cx.nox, assignEach, o5, List.length_nil, Nat.reduceAdd])
section
variable {P : Program} {w : World} {K : Fg} {mg : Str -> Option Value} {base : Heap} {t : Nb} {x : Int} {y : Int}
theorem BE (h : My.qv x y ≠ 0) : x ≠ 0 := λ z => h (by unfold My.qv; rw [z]; grind)
theorem Bs : My.Bd 60 1 := by unfold My.Bd; decide
theorem iV {n : Int} (h1 : -1152921504606846976 < n) (h2 : n < 1152921504606846976) : My.Bd 60 n := by unfold My.Bd; lia
def pS (K : Fg) : Sp := λ vs H Q _ => ∃ (po pl ph : Addr) (e f a b c d bg en : Int) (n1 n : Nat), vs = [.ref po, .ref pl, .ref ph, .int bg, .int en] /\ Pr K H po e f n1 /\ Pr K H pl a b n /\ Pr K H ph c d n /\ n1 + 3 * n + 140 <= 3900 /\ My.Bd 60 bg /\ My.Bd 60 (en - bg) /\ My.qv c d - My.qv a b ≠ 0 /\
 lY K H Q (n1 + 3 * n + 140) ((bg : Rat) + (My.qv e f - My.qv a b) / (My.qv c d - My.qv a b) * ((en - bg : Int) : Rat))
theorem eB (T : cO K mg t) : FO P w base T.q_zau 4 (pS K) := by
 obtain ⟨ds1, DV_number, BD_number⟩ := T.b_number1
 refine T.q_zau.F.ok ef (λ vs H Q E h => ?_) (λ cdv A outer s H vs Q E hr h => ?_)
 ·obtain ⟨po, pl, ph, e, f, a, b, c, d, bg, en, n1, n, rfl, _⟩ := h
  rfl
 obtain ⟨po, pl, ph, e, f, a, b, c, d, bg, en, n1, n, rfl, P1, P2, P3, hn1, hb, hd, nz, q⟩ := h
 refine ⟨_, (aJ (ag (i := 5) ef.nd rfl (Or.inl rfl) (bI (wx T) hr T.q_zar (af (bI (mX T) hr T.q_zai (af (pv 0) (af (pv 1) aA))) (af (bI (mX T) hr T.q_zai (af (pv 2) (af (pv 1) aA))) aA))))
 (aR (ai (bI (wp T) hr T.q_zaq (af (bX (bK T) (hr.mono (by decide)) rfl T.m_zaa T.k_number BD_number DV_number db (af (pv 3) aA)) (af (bI (nX T) hr T.q_zaj (af (pv 5) (af (bX (bK T) (hr.mono (by decide)) rfl T.m_zaa T.k_number BD_number DV_number db (af (ac bw (pv 4) (pv 3)) aA)) aA))) aA)))))), ir (Z := [some _, some _, some _, some _, some _, none]) rfl ?_⟩
 kln_le
 f_look
 rename_i p1 H1 x1 y1 s1 R1 g1 v1 p2 H2 x2 y2 s2 R2 g2 v2
 have nx : x2 ≠ 0 := BE (by rw [v2]; exact nz)
 f_look
 rename_i p3 H3 x3 y3 s3 R3 g3 v3 p4 H4 x4 y4 s4 R4 g4 v4 p5 H5 x5 y5 s5 R5 g5 v5 p6 H6 x6 y6 s6 R6 g6 v6 p7 H7 x7 y7 s7 R7 g7 v7
 refine q p7 H7 x7 y7 (by kpc_if) (R7.up (by lia)) g7 ?_
 rw [v7, v4, v6, v5, v3, v1, v2, My.qv_int, My.qv_int]
noncomputable def oJ (e f a b c d : Int) : Bool := !decide (e * b < a * f) && !decide (c * f < e * d)
def pE (K : Fg) : Sp := λ vs H Q _ => ∃ (po pl ph : Addr) (e f a b c d : Int) (n1 n2 n3 : Nat), vs = [.ref po, .ref pl, .ref ph] /\ Pr K H po e f n1 /\ Pr K H pl a b n2 /\ Pr K H ph c d n3 /\ n1 + n2 <= 3900 /\ n3 + n1 <= 3900 /\ Q (.bl (oJ e f a b c d)) H
variable {H : Hp} {Q : VK} {e : Int} {f : Int} {a : Int} {b : Int} {c : Int} {d : Int}
theorem Aq {K : Fg} {E : XK} {po pl ph : Addr} {n1 n2 n3 : Nat} (h1 : Pr K H po e f n1) (h2 : Pr K H pl a b n2) (h3 : Pr K H ph c d n3) (h4 : n1 + n2 <= 3900) (h5 : n3 + n1 <= 3900) (q : Q (.bl (oJ e f a b c d)) H) : pE K [.ref po, .ref pl, .ref ph] H Q E := ⟨po, pl, ph, e, f, a, b, c, d, n1, n2, n3, rfl, h1, h2, h3, h4, h5, q⟩
variable {n : Nat}
theorem Ac {K : Fg} {E : XK} {po pl ph : Addr} {bg en : Int} {n1 : Nat} (h1 : Pr K H po e f n1) (h2 : Pr K H pl a b n) (h3 : Pr K H ph c d n) (h4 : n1 + 3 * n + 140 <= 3900) (h6 : My.Bd 60 bg) (h7 : My.Bd 60 (en - bg)) (h8 : My.qv c d - My.qv a b ≠ 0)
  (q : ∀ (p : Addr) (H' : Hp) (x y : Int), ah H H' -> Pr K H' p x y (n1 + 3 * n + 140) -> Int.gcd x y = 1 -> My.qv x y = ((bg : Rat) + (My.qv e f - My.qv a b) / (My.qv c d - My.qv a b) * ((en - bg : Int) : Rat)) -> Q (.ref p) H') : pS K [.ref po, .ref pl, .ref ph, .int bg, .int en] H Q E := ⟨po, pl, ph, e, f, a, b, c, d, bg, en, n1, n, rfl, h1, h2, h3, h4, h6, h7, h8, q⟩
theorem fS (T : cO K mg t) : FO P w base T.q_zak 2 (pE K) := by
 refine T.q_zak.F.ok qx (λ vs H Q E h => ?_) (λ cdv A outer s H vs Q E hr h => ?_)
 ·obtain ⟨po, pl, ph, e, f, a, b, c, d, n1, n2, n3, rfl, _⟩ := h
  rfl
 obtain ⟨po, pl, ph, e, f, a, b, c, d, n1, n2, n3, rfl, P1, P2, P3, hn, hn2, q⟩ := h
 refine ⟨_, (aR (ai (jZ (rg (bI (tq T) hr T.q_zas (af (pv 0) (af (pv 1) aA)))) (kq (rg (bI (tq T) hr T.q_zas (af (pv 2) (af (pv 0) aA)))))))), ir (Z := [some _, some _, some _]) rfl ?_⟩
 kln_le
 unfold oJ at q
 f_look
 refine aY (λ h1 => ?_) (λ h1 => ?_)
 ·rw [j6 h1] at q
  exact q
 ·rw [i8 h1] at q
  f_look
  exact q
local macro_rules | `(tactic| k_made) => `(tactic| ((with_reducible apply Aq); (focus (kpc_check)); (focus (kpc_check)); (focus (kpc_check)); (focus (first | decide | lia)); (focus (first | decide | lia))))
local macro_rules | `(tactic| k_made) => `(tactic| ((with_reducible apply Ac); (focus (kpc_check)); (focus (kpc_check)); (focus (kpc_check)); (focus (first | decide | lia)); (focus (kmb_kw)); (focus (kmb_kw)); (focus (assumption)); (intro p H' x y s R g e)))
local macro_rules | `(tactic| k_made) => `(tactic| ((with_reducible apply Da); (focus (kpc_check)); (focus (kpc_check)); (focus (kpc_check)); (focus (first | decide | lia)); (focus (kmb_kw)); (focus (kmb_kw)); (focus (lia)); (intro p H' x y s R g e)))
theorem mR (b : Int) (n : Nat) : (b : Rat) ^ (n : Int) = ((b ^ n : Int) : Rat) := by
 induction n with
 | zero => simp
 | succ n ih =>
  by_cases hb : b = 0
  ·subst hb
   rw [t6, Int.mul_zero]
   have e : ((0 : Int) : Rat) = 0 := rfl
   rw [e, Rat.zpow_natCast, Rat.pow_succ, Rat.mul_zero]
  ·rw [show ((n + 1 : Nat) : Int) = (n : Int) + 1 by lia, Rat.zpow_add_one (My.cast_ne hb), ih, t6, lS]
theorem cT (h0 : 2 <= b) (h1 : b <= 10) : ∀ n : Nat, 0 < b ^ n /\ My.Bd (4 * n + 1) (b ^ n)
 | 0 => ⟨by simp, by unfold My.Bd; simp⟩
 | n + 1 => by
  obtain ⟨p, q⟩ := cT h0 h1 n
  rw [t6]
  refine ⟨r8 p (by lia), ?_⟩
  have hb : My.Bd 4 b := by unfold My.Bd; lia
  exact (q.mul hb).mono (by lia)
def Co (K : Fg) : Sp := λ vs H Q _ => ∃ b e : Int, vs = [.int b, .int e] /\ 2 <= b /\ b <= 10 /\ -900 <= e /\ e <= 900 /\ lY K H Q (4 * e.natAbs + 1) ((b : Rat) ^ e)
theorem tT (T : cO K mg t) : FO P w base T.q_za5 3 (Co K) := by
 obtain ⟨ds1, DV_number, BD_number⟩ := T.b_number1
 refine T.q_za5.F.ok eF (λ vs H Q E h => ?_) (λ cdv A outer s H vs Q E hr h => ?_)
 ·obtain ⟨b, e, rfl, _⟩ := h
  rfl
 obtain ⟨b, e, rfl, b2, b10, e0, e1, q⟩ := h
 have mb : cr b := nu (by lia) (by lia)
 refine ⟨_, (aJ (ag (i := 2) eF.nd rfl (Or.inl rfl) aD)
 (aJ (cm o4 rfl (fo rfl T.z_range (af (aN fg rfl T.z_abs lh (af (pv 1) aA)) aA)) (az (i := 3) eF.nd rfl (Or.inl rfl)) (aR (ag (i := 2) eF.nd rfl (Or.inl rfl) (ac aq (pv 2) (pv 0)))))
 (aR (ai (nD (aj AO (pv 1) aD (aw _)) (bX (bK T) (hr.mono (by decide)) rfl T.m_zaa T.k_number BD_number DV_number db (af (pv 2) aA)) (bX (bK T) (hr.mono (by decide)) rfl T.m_zaa T.k_number T.b_number .nil db (af aD (af (pv 2) aA)))))))), ?_⟩
 refine ⟨_, rfl, _, rfl, _, rfl, by split <;> lia, by split <;> lia, ?_⟩
 have en : (if e < 0 then -e else e).toNat = e.natAbs := by split <;> lia
 rw [en]
 refine xR (λ i Z H2 => (∃ u, Z = [some (.int b), some (.int e), some (.int (b ^ i)), u]) /\ H2 = H) ⟨⟨none, by rw [o9]; rfl⟩, rfl⟩ ?_ ?_
 ·rintro i Z H2 hi ⟨⟨u, rfl⟩, rfl⟩
  have mp : cr (b ^ i) := (cT b2 b10 i).2.mono (by lia)
  refine ⟨_, rfl, _, rfl, _, _, rfl, rfl, ⟨mp, mb⟩, ?_⟩
  exact ⟨⟨_, by rw [t6]; rfl⟩, rfl⟩
 ·rintro Z H2 ⟨⟨u, rfl⟩, rfl⟩
  obtain ⟨pp, pq⟩ := cT b2 b10 e.natAbs
  refine ⟨_, rfl, _, _, rfl, rfl, _, rfl, ?_⟩
  by_cases hs : e >= 0
  ·refine lA hs ?_
   refine ⟨_, rfl, _, _, 4 * e.natAbs + 1, rfl, pq, (show My.Bd 1 1 by unfold My.Bd; decide).mono (by lia), by lia, by decide, λ p H' x y s' R g v => q p H' x y s' R g (v.trans ?_)⟩
   rw [My.qv_int, <- mR, show ((e.natAbs : Nat) : Int) = e by lia]
  ·refine jD hs ?_
   refine ⟨_, rfl, _, _, 4 * e.natAbs + 1, rfl, (show My.Bd 1 1 by unfold My.Bd; decide).mono (by lia), pq, by lia, sY pp, λ p H' x y s' R g v => q p H' x y s' R g (v.trans ?_)⟩
   unfold My.qv
   rw [<- mR, show ((e.natAbs : Nat) : Int) = -e by lia, Rat.zpow_neg]
   grind
def ic (p a b E : Int) : Prop := (0 <= E -> b * p ^ E.toNat <= a /\ a < b * p ^ (E.toNat + 1)) /\ (E < 0 -> b <= a * p ^ (-E).toNat /\ a * p ^ (-E - 1).toNat < b)
def BK (K : Fg) : Sp := λ vs H Q _ => ∃ (pr : Addr) (p a b : Int) (n : Nat), vs = [.int p, .ref pr] /\ 2 <= p /\ p <= 10 /\ Pr K H pr a b n /\ 0 < a /\ n <= 800 /\ ∀ E : Int, ic p a b E -> -(n : Int) - 1 <= E -> E <= n -> Q (.int E) H
variable {p : Int}
theorem mM (h : 2 <= p) : ∀ n : Nat, (2 : Int) ^ n <= p ^ n
 | 0 => by simp
 | n + 1 => by
  have ih := mM h n
  rw [t6, t6]
  have z : (0 : Int) <= 2 ^ n := Int.pow_nonneg (by decide)
  exact Int.mul_le_mul ih h (by decide) (Int.le_trans z ih)
theorem pX {k : Nat} (h2 : 2 <= p) (hb : 0 < b) (ha : My.Bd n a) (h : b * p ^ k <= a) : k <= n := by
 have e1 := mM h2 k
 have e0 : (0 : Int) <= p ^ k := Int.pow_nonneg (by lia)
 have e2 : p ^ k <= b * p ^ k := by
  have := tM (show (1 : Int) <= b by lia) e0
  rw [Int.one_mul] at this
  exact this
 have e3 : (2 : Int) ^ k <= a := by lia
 unfold My.Bd at ha
 rcases Nat.lt_or_ge n k with z | z
 ·have m : (2 : Nat) ^ n <= 2 ^ k := Nat.pow_le_pow_right (by decide) (by lia)
  have c : ((2 ^ k : Nat) : Int) = (2 : Int) ^ k := by simp
  lia
 ·exact z
variable {j : Nat}
theorem yg {k : Nat} (p2 : 2 <= p) (b0 : 0 < b) (a0 : 0 < a) (Ra : My.Bd n a) (Rb : My.Bd n b) (hle : ¬ b * p ^ k * p <= a) (hk : k = 0 ∨ b * p ^ k <= a) (hj : j = 0 ∨ (k = 0 /\ a * p ^ (j - 1) < b)) (hlt : ¬ a * p ^ j < b * p ^ k) :
  ic p a b ((k : Int) - (j : Int)) /\ -(n : Int) - 1 <= (k : Int) - (j : Int) /\ (k : Int) - (j : Int) <= n := by
 by_cases j0 : j = 0
 ·subst j0
  rw [o9, rn] at hlt
  have e : (k : Int) - ((0 : Nat) : Int) = (k : Int) := by lia
  rw [e]
  have l := pX (k := k) p2 b0 Ra (by lia)
  refine ⟨⟨λ _ => ?_, λ z => absurd z (by lia)⟩, by lia, by lia⟩
  rw [Int.toNat_natCast, t6, <- uh]
  exact ⟨by lia, by lia⟩
 ·rcases hj with z | ⟨k0, z⟩
  ·exact absurd z j0
  ·subst k0
   rw [o9, rn] at hlt
   have l := pX (k := j - 1) p2 a0 Rb (ut z)
   refine ⟨⟨λ z => absurd z (by lia), λ _ => ?_⟩, by lia, by lia⟩
   have e1 : (-(((0 : Nat) : Int) - (j : Int))).toNat = j := by lia
   have e2 : (-(((0 : Nat) : Int) - (j : Int)) - 1).toNat = j - 1 := by lia
   rw [e1, e2]
   exact ⟨by lia, z⟩
theorem oI (T : cO K mg t) : FO P w base T.q_za6 1 (BK K) := by
 refine T.q_za6.F.ok bo (λ vs H Q E h => ?_) (λ cdv A outer s H vs Q E hr h => ?_)
 ·obtain ⟨pr, p, a, b, n, rfl, _⟩ := h
  rfl
 obtain ⟨pr, p, a, b, n, rfl, p2, p10, R, a0, hn, q⟩ := h
 have b0 := R.pos
 have mp : cr p := nu (by lia) (by lia)
 have bp4 : My.Bd 4 p := by unfold My.Bd; lia
 have ma : cr a := R.ba.mono (by lia)
 refine ⟨_, (aJ (ag (i := 2) bo.nd rfl (Or.inl rfl) (aa (pv 1)))
 (aJ (ag (i := 3) bo.nd rfl (Or.inl rfl) (aa (pv 1)))
 (aJ (ag (i := 4) bo.nd rfl (Or.inl rfl) aD)
 (aJ (fm o4 (aj lz (ac aq (pv 3) (pv 0)) (pv 2) (aw _)) (aJ (ag (i := 3) bo.nd rfl (Or.inl rfl) (ac aq (pv 3) (pv 0)))
 (aR (Cy (i := 4) bo.nd rfl (Or.inl rfl) aD IA))))
 (aJ (fm o4 (aj lO (pv 2) (pv 3) (aw _)) (aJ (ag (i := 2) bo.nd rfl (Or.inl rfl) (ac aq (pv 2) (pv 0)))
 (aR (Cy (i := 4) bo.nd rfl (Or.inl rfl) aD Gj))))
 (aR (ai (pv 4)))))))), ?_⟩
 refine ⟨_, rfl, _, _, _, _, rfl, rfl, R.s, yk _ _, ?_⟩
 refine ⟨_, rfl, _, _, _, _, rfl, rfl, R.s, vO _ _, ?_⟩
 dsimp only [bH, ke]
 refine jU (λ Z H' => ∃ k : Nat, Z = [some (.int p), some (.ref pr), some (.int a), some (.int (b * p ^ k)), some (.int (k : Int))] /\ H' = H /\ (k = 0 ∨ b * p ^ k <= a))
  (λ Z _ => match Z with | [_, _, _, some (.int y), _] => (a + b - y).toNat | _ => 0) ⟨0, by rw [o9, rn]; rfl, rfl, .inl rfl⟩ ?_ ?_
 ·rintro Z H' ⟨k, rfl, rfl, hk⟩
  have pk := (cT p2 p10 k).1
  have bk0 : 0 < b * p ^ k := r8 b0 pk
  have bdk : My.Bd 3000 (b * p ^ k) := by
   rcases hk with z | z
   ·subst z
    simp only [o9, rn]
    exact R.bb.mono (by lia)
   ·exact (My.Bd.of_le R.ba (ut bk0) z).mono (by lia)
  refine ⟨_, rfl, _, rfl, _, _, rfl, rfl, ⟨bdk.mono (by decide), mp⟩, _, rfl, _, _, rfl, rfl, _, rfl, ?_⟩
  have es : b * p ^ (k + 1) = b * p ^ k * p := by rw [t6, uh]
  by_cases hle : b * p ^ k * p <= a
  ·refine lA hle ?_
   refine ⟨_, rfl, _, rfl, _, _, rfl, rfl, ⟨bdk.mono (by decide), mp⟩, ?_⟩
   refine ⟨_, rfl, _, _, rfl, rfl, ⟨k + 1, ?_, rfl, .inr (by rw [es]; exact hle)⟩, ?_⟩
   ·rw [es]
    rfl
   ·show (a + b - b * p ^ k * p).toNat < (a + b - b * p ^ k).toNat
    have z : b * p ^ k * 2 <= b * p ^ k * p := Int.mul_le_mul_of_nonneg_left p2 (ut bk0)
    lia
  ·refine jD hle ?_
   dsimp only [bH, ke]
   refine jU (λ Z H'' => ∃ j : Nat, Z = [some (.int p), some (.ref pr), some (.int (a * p ^ j)), some (.int (b * p ^ k)), some (.int ((k : Int) - (j : Int)))] /\ H'' = H' /\ (j = 0 ∨ (k = 0 /\ a * p ^ (j - 1) < b)))
    (λ Z _ => match Z with | [_, _, some (.int x), some (.int y), _] => (y - x).toNat | _ => 0) ⟨0, by rw [o9, rn]; simp, rfl, .inl rfl⟩ ?_ ?_
   ·rintro Z H'' ⟨j, rfl, rfl, hj⟩
    have pj := (cT p2 p10 j).1
    have aj0 : 0 < a * p ^ j := r8 a0 pj
    have bdj : My.Bd 3000 (a * p ^ j) := by
     rcases hj with z | ⟨_, z⟩
     ·subst z
      simp only [o9, rn]
      exact R.ba.mono (by lia)
     ·cases j with
      | zero =>
       simp only [o9, rn]
       exact R.ba.mono (by lia)
      | succ i =>
       have z : a * p ^ i < b := z
       have pi := (cT p2 p10 i).1
       have w : My.Bd n (a * p ^ i) := My.Bd.of_le R.bb (ut (r8 a0 pi)) (ut z)
       rw [t6, <- uh]
       exact (w.mul bp4).mono (by lia)
    refine ⟨_, rfl, _, rfl, _, _, rfl, rfl, _, rfl, ?_⟩
    by_cases hlt : a * p ^ j < b * p ^ k
    ·refine lA hlt ?_
     have k0 : k = 0 := by
      rcases hk with z | z
      ·exact z
      ·rcases hj with z2 | z2
       ·subst z2
        rw [o9, rn] at hlt
        lia
       ·exact z2.1
     refine ⟨_, rfl, _, rfl, _, _, rfl, rfl, ⟨bdj.mono (by decide), mp⟩, ?_⟩
     refine ⟨_, rfl, _, _, rfl, rfl, ⟨j + 1, ?_, rfl, .inr ⟨k0, ?_⟩⟩, ?_⟩
     ·rw [show a * p ^ (j + 1) = a * p ^ j * p by rw [t6, uh], show ((j + 1 : Nat) : Int) = (j : Int) + 1 by lia, show (k : Int) - ((j : Int) + 1) = (k : Int) - (j : Int) - 1 by lia]
      rfl
     ·subst k0
      rw [o9, rn] at hlt
      exact hlt
     ·show (b * p ^ k - a * p ^ j * p).toNat < (b * p ^ k - a * p ^ j).toNat
      have z : a * p ^ j * 2 <= a * p ^ j * p := Int.mul_le_mul_of_nonneg_left p2 (ut aj0)
      lia
    ·refine jD hlt ?_
     obtain ⟨w1, w2, w3⟩ := yg p2 b0 a0 R.ba R.bb hle hk hj hlt
     exact ⟨_, rfl, q _ w1 w2 w3⟩
   ·rintro Z H'' Q1 Q2 hi ⟨v1, e1, v2, e2, i1, j1, e3, e4, kk, ek, q'⟩
    exact ⟨v1, e1, v2, e2, i1, j1, e3, e4, kk, ek, hi _ _ q'⟩
 ·rintro Z H' Q1 Q2 hi ⟨v1, e1, v2, e2, i1, j1, e3, e4, hm, v3, e5, i2, j2, e6, e7, kk, ek, q'⟩
  exact ⟨v1, e1, v2, e2, i1, j1, e3, e4, hm, v3, e5, i2, j2, e6, e7, kk, ek, hi _ _ q'⟩
structure DF (K : Fg) (H : Hp) (sc : Addr) (p low many len : Int) : Prop where
 s : bq K H sc [.str "turns", .int p, .int low, .int many, .int len]
 p2 : 2 <= p
 p10 : p <= 10
 w1 : -200 <= low
 w2 : low <= 200
 m1 : 1 <= many
 m2 : many <= 400
 l1 : 1 <= len
 l2 : len <= 4000
theorem JX (h : 2 <= p) (E : Int) : (p : Rat) ^ E ≠ 0 := by
 have hn : ∀ n : Nat, (p : Rat) ^ (n : Int) ≠ 0 := λ n => by
  rw [mR]
  exact My.cast_ne (sY (Int.pow_pos (by lia)))
 rcases Int.le_total 0 E with z | z
 ·rw [show E = ((E.toNat : Nat) : Int) by lia]
  exact hn _
 ·rw [show E = -(((-E).toNat : Nat) : Int) by lia, Rat.zpow_neg]
  have := hn (-E).toNat
  grind
theorem wy (h : x = 0) : My.qv x y = 0 := by unfold My.qv; rw [h]; grind
def dz (p E : Int) (v : Rat) : Rat := (v - (p : Rat) ^ E) / ((p : Rat) ^ E * ((p - 1 : Int) : Rat))
def pI (K : Fg) : Sp := λ vs H Q _ => ∃ (sc pc : Addr) (p low many len e f : Int) (n : Nat), vs = [.ref sc, .ref pc] /\ DF K H sc p low many len /\ Pr K H pc e f n /\ n <= 300 /\ (e <= 0 -> Q (.str "nought") H) /\
 (0 < e -> ∀ E : Int, ic p e f E -> -(n : Int) - 1 <= E -> E <= n ->
  ((E < low ∨ low + many < E) -> Q (.str "outside") H) /\
  (low <= E -> E = low + many -> dz p E (My.qv e f) ≠ 0 -> ∀ H', ah H H' -> Q (.str "outside") H') /\
  (low <= E -> E <= low + many -> (E = low + many -> dz p E (My.qv e f) = 0) -> lY K H Q (9 * n + 195) ((((E - low : Int) : Rat) + dz p E (My.qv e f)) * My.qv len many)))
theorem jn (T : cO K mg t) : FO P w base T.q_za8 4 (pI K) := by
 obtain ⟨ds1, DV_number, BD_number⟩ := T.b_number1
 refine T.q_za8.F.ok bv (λ vs H Q E h => ?_) (λ cdv A outer s H vs Q E hr h => ?_)
 ·obtain ⟨sc, pc, p, low, many, len, e, f, n, rfl, _⟩ := h
  rfl
 obtain ⟨sc, pc, p, low, many, len, e, f, n, rfl, S, R, hn, q0, q1⟩ := h
 have p2 := S.p2
 have p10 := S.p10
 have a1 := S.w1
 have a2 := S.w2
 have m1 := S.m1
 have m2 := S.m2
 have l1 := S.l1
 have l2 := S.l2
 refine ⟨_, (aJ (ag (i := 2) bv.nd rfl (Or.inl rfl) (aa (pv 0)))
 (aJ (aK (aj lz (aa (pv 1)) aD (aw _)) (aR (ai aI)) au)
 (aJ (ag (i := 3) bv.nd rfl (Or.inl rfl) (bI (oI T) hr T.q_za6 (af (pv 2) (af (pv 1) aA))))
 (aJ (ag (i := 4) bv.nd rfl (Or.inl rfl) (ac bw (pv 3) (aa (pv 0))))
 (aJ (aK (PW.pt (pO (aj lO (pv 4) aD (aw _)) (nE (aj sQ (pv 4) (aa (pv 0)) (aw _))))) (aR (ai aI)) au)
 (aJ (ag (i := 5) bv.nd rfl (Or.inl rfl) (bI (tT T) hr T.q_za5 (af (pv 2) (af (pv 3) aA))))
 (aJ (ag (i := 6) bv.nd rfl (Or.inl rfl) (bI (wx T) hr T.q_zar (af (bI (mX T) hr T.q_zai (af (pv 1) (af (pv 5) aA))) (af (bI (nX T) hr T.q_zaj (af (pv 5) (af (bX (bK T) (hr.mono (by decide)) rfl T.m_zaa T.k_number BD_number DV_number db (af (ac bw (pv 2) aD) aA)) aA))) aA))))
 (aJ (aK (PW.pt (kC (aj bB (pv 4) (aa (pv 0)) (aw _)) (gY (aj ui (aa (pv 6)) aD (aw _))))) (aR (ai aI)) au)
 (aR (ai (bI (nX T) hr T.q_zaj (af (bI (wp T) hr T.q_zaq (af (bX (bK T) (hr.mono (by decide)) rfl T.m_zaa T.k_number BD_number DV_number db (af (pv 4) aA)) (af (pv 6) aA))) (af (bX (bK T) (hr.mono (by decide)) rfl T.m_zaa T.k_number T.b_number .nil db (af (aa (pv 0)) (af (aa (pv 0)) aA))) aA))))))))))))), ?_⟩
 refine ⟨_, rfl, _, _, _, _, rfl, rfl, S.s, rfl, ?_⟩
 refine ⟨_, rfl, _, _, _, _, rfl, rfl, R.s, yk _ _, _, _, rfl, rfl, _, rfl, ?_⟩
 by_cases he : e <= 0
 ·exact lA he (q0 he)
 refine jD he ?_
 refine ⟨_, rfl, _, rfl, pc, p, e, f, n, rfl, p2, p10, R, by lia, by lia, λ E hB hE1 hE2 => ?_⟩
 obtain ⟨qo, qp, qi⟩ := q1 (by lia) E hB hE1 hE2
 refine ⟨_, rfl, _, rfl, _, _, _, _, rfl, rfl, S.s, rfl, _, _, rfl, rfl, ?_⟩
 refine ⟨_, rfl, _, _, rfl, rfl, _, rfl, ?_⟩
 by_cases t0 : E - low < 0
 ·exact lA t0 (qo (.inl (by lia)))
 refine jD t0 ?_
 refine ⟨_, rfl, _, rfl, _, _, _, _, rfl, rfl, S.s, rfl, _, _, rfl, rfl, _, rfl, ?_⟩
 by_cases t1 : E - low > many
 ·exact lA t1 (qo (.inr (by lia)))
 refine jD t1 ?_
 refine ⟨_, rfl, _, rfl, p, E, rfl, p2, p10, by lia, by lia, λ p1 H1 x1 y1 s1 R1 g1 v1 => ?_⟩
 refine ⟨_, rfl, _, rfl, _, _, _, _, _, _, _, _, rfl, R.keep s1, R1, by lia, True.intro, λ p2' H2 x2 y2 s2 R2 g2 v2 => ?_⟩
 refine ⟨_, rfl, _, rfl, _, _, rfl, rfl, _, _, 60, rfl, iV (by lia) (by lia), Bs, by decide, by decide, λ p3 H3 x3 y3 s3 R3 g3 v3 => ?_⟩
 refine ⟨_, _, _, _, _, _, _, _, rfl, R1.keep (s2.trans s3), R3, by lia, True.intro, λ p4 H4 x4 y4 s4 R4 g4 v4 => ?_⟩
 have nz : x4 ≠ 0 := BE (by
  rw [v4, v1, v3, My.qv_int]
  exact λ z => by
   rcases Rat.mul_eq_zero.mp z with z | z
   ·exact JX p2 E z
   ·exact My.cast_ne (show p - 1 ≠ 0 by lia) z)
 refine ⟨_, _, _, _, _, _, _, _, rfl, R2.keep (s3.trans s4), R4, by lia, nz, λ p5 H5 x5 y5 s5 R5 g5 v5 => ?_⟩
 have hpart : My.qv x5 y5 = dz p E (My.qv e f) := by rw [v5, v2, v4, v1, v3, My.qv_int]; rfl
 have sA := s1.trans (s2.trans (s3.trans (s4.trans s5)))
 have fin : (E = low + many -> dz p E (My.qv e f) = 0) -> lY K H Q (9 * n + 195) ((((E - low : Int) : Rat) + dz p E (My.qv e f)) * My.qv len many) := λ z => qi (by lia) (by lia) z
 refine ⟨_, rfl, _, rfl, _, _, _, _, rfl, rfl, sA.tup S.s, rfl, rfl, _, rfl, ?_⟩
 by_cases te : E - low = many
 ·refine lA (congrArg V.int te) ?_
  refine ⟨_, rfl, _, _, _, _, rfl, rfl, R5.s, yk _ _, rfl, _, rfl, ?_⟩
  by_cases x0 : x5 = 0
  ·refine Fa (congrArg V.int x0) ?_
   have q := fin (λ _ => by rw [<- hpart]; exact wy x0)
   refine ⟨_, rfl, _, _, 60, rfl, iV (by lia) (by lia), Bs, by decide, by decide, λ p6 H6 x6 y6 s6 R6 g6 v6 => ?_⟩
   refine ⟨_, rfl, _, _, _, _, _, _, _, _, rfl, R6, R5.keep s6, by lia, True.intro, λ p7 H7 x7 y7 s7 R7 g7 v7 => ?_⟩
   have sB := sA.trans (s6.trans s7)
   refine ⟨_, rfl, _, _, _, _, rfl, rfl, sB.tup S.s, rfl, _, rfl, _, _, _, _, rfl, rfl, sB.tup S.s, rfl, _, _, 60, rfl, iV (by lia) (by lia), iV (by lia) (by lia), by decide, by lia, λ p8 H8 x8 y8 s8 R8 g8 v8 => ?_⟩
   refine ⟨_, _, _, _, _, _, _, _, rfl, R7.keep s8, R8, by lia, True.intro, λ p9 H9 x9 y9 s9 R9 g9 v9 => ?_⟩
   exact q p9 H9 x9 y9 (sB.trans (s8.trans s9)) (R9.up (by lia)) g9 (by rw [v9, v7, v6, v8, hpart, My.qv_int])
  ·refine KK (λ z => x0 (V.int.inj z)) ?_
   refine qp (by lia) (by lia) (λ z => x0 ?_) H5 sA
   have z2 : My.qv x5 y5 = 0 := hpart.trans z
   have z3 := My.eq_of_qv R5.ne (show (1 : Int) ≠ 0 by decide) (z2.trans (show (0 : Rat) = My.qv 0 1 from (wy rfl).symm))
   lia
 ·refine jD (λ z => te (V.int.inj z)) ?_
  refine fB ?_
  have q := fin (λ z => absurd (show E - low = many by lia) te)
  refine ⟨_, rfl, _, _, 60, rfl, iV (by lia) (by lia), Bs, by decide, by decide, λ p6 H6 x6 y6 s6 R6 g6 v6 => ?_⟩
  refine ⟨_, rfl, _, _, _, _, _, _, _, _, rfl, R6, R5.keep s6, by lia, True.intro, λ p7 H7 x7 y7 s7 R7 g7 v7 => ?_⟩
  have sB := sA.trans (s6.trans s7)
  refine ⟨_, rfl, _, _, _, _, rfl, rfl, sB.tup S.s, rfl, _, rfl, _, _, _, _, rfl, rfl, sB.tup S.s, rfl, _, _, 60, rfl, iV (by lia) (by lia), iV (by lia) (by lia), by decide, by lia, λ p8 H8 x8 y8 s8 R8 g8 v8 => ?_⟩
  refine ⟨_, _, _, _, _, _, _, _, rfl, R7.keep s8, R8, by lia, True.intro, λ p9 H9 x9 y9 s9 R9 g9 v9 => ?_⟩
  exact q p9 H9 x9 y9 (sB.trans (s8.trans s9)) (R9.up (by lia)) g9 (by rw [v9, v7, v6, v8, hpart, My.qv_int])
structure Pc where
 (ad pl ph : Addr)
 (a b c d f t : Int)
structure vd (K : Fg) (H : Hp) (n : Nat) (x : Pc) : Prop where
 s : bq K H x.ad [.ref x.pl, .ref x.ph, .int x.f, .int x.t]
 lo : Pr K H x.pl x.a x.b n
 hi : Pr K H x.ph x.c x.d n
 lt : x.a * x.d < x.c * x.b
 f0 : 0 <= x.f
 ft : x.f < x.t
 t9 : x.t <= 4000
theorem wC (hb : b ≠ 0) (hd : d ≠ 0) (h : a * d < c * b) : My.qv c d - My.qv a b ≠ 0 := λ z => by
 have z2 : My.qv c d = My.qv a b := by grind
 have z3 := My.eq_of_qv hd hb z2
 lia
theorem vd.span {K : Fg} {x : Pc} (h : vd K H n x) : My.qv x.c x.d - My.qv x.a x.b ≠ 0 := wC h.lo.ne h.hi.ne h.lt
structure DX (K : Fg) (H : Hp) (sc ps : Addr) (pcs : List Pc) (len : Int) (n : Nat) : Prop where
 s : bq K H sc [.str "broken", .ref ps, .int len]
 l : aZ K H ps (pcs.map λ x => V.ref x.ad)
 ok : ∀ x ∈ pcs, vd K H n x
 ne : pcs ≠ []
 hn : n <= 300
def LB (e f : Int) (x : Pc) : Bool := oJ e f x.a x.b x.c x.d
noncomputable def Bl (e f : Int) (pcs : List Pc) : Bool := match pcs.head?, pcs.getLast? with
 | some x, some y => oJ e f x.a x.b y.c y.d
 | _, _ => false
variable {α : Type}
theorem vE {xs : List α} (h : xs ≠ []) : ∃ x, xs.head? = some x /\ xs[0]? = some x /\ x ∈ xs := by
 cases xs with
 | nil => exact absurd rfl h
 | cons x r => exact ⟨x, rfl, rfl, kv⟩
theorem kW {xs : List α} (h : xs ≠ []) : ∃ x, xs.getLast? = some x /\ xs[xs.length - 1]? = some x /\ x ∈ xs := by
 refine ⟨xs.getLast h, List.getLast?_eq_some_getLast h, ?_, List.getLast_mem h⟩
 rw [<- List.getLast?_eq_getElem?, List.getLast?_eq_some_getLast h]
theorem xK {xs : List α} {x : α} (h : xs[0]? = some x) : eP xs 0 = some x := ce (j := 0) h
theorem atI_last {xs : List α} {x : α} (h : xs[xs.length - 1]? = some x) : eP xs (-1) = some x := by
 have hl : 0 < xs.length := by
  rcases Nat.eq_zero_or_pos xs.length with z | z
  ·rw [vG (by lia)] at h; cases h
  ·exact z
 unfold eP CA
 rw [gS (by decide), i9 (by lia)]
 show xs[(-1 + (xs.length : Int)).toNat]? = some x
 rw [show (-1 + (xs.length : Int)).toNat = xs.length - 1 by lia]
 exact h
variable {β : Type}
theorem we {g : α -> β} {xs : List α} {x : α} (h : xs[j]? = some x) : (xs.map g)[j]? = some (g x) := by rw [jb, h]; rfl
theorem aU {g : α -> β} {xs : List α} {v : β} (h : (xs.map g)[j]? = some v) : ∃ x, xs[j]? = some x /\ v = g x := by
 rw [jb] at h
 cases q : xs[j]? with
 | none => rw [q] at h; cases h
 | some x => rw [q] at h; exact ⟨x, rfl, (nS h).symm⟩
theorem yI {p : α -> Bool} {xs : List α} {x : α} {i : Nat} (h : ∀ j y, j < i -> xs[j]? = some y -> p y = false) (hx : xs[i]? = some x) (hp : p x = true) : xs.find? p = some x := by
 induction xs generalizing i with
 | nil => simp at hx
 | cons y r ih =>
  cases i with
  | zero =>
   rw [List.getElem?_cons_zero] at hx
   cases hx
   rw [List.find?_cons, hp]
  | succ i =>
   rw [List.find?_cons, h 0 y (by lia) rfl]
   exact ih (i := i) (λ j z hj hz => h (j + 1) z (by lia) (by rw [List.getElem?_cons_succ]; exact hz)) (by rw [List.getElem?_cons_succ] at hx; exact hx)
theorem yd {p : α -> Bool} {xs : List α} (h : ∀ j y, j < xs.length -> xs[j]? = some y -> p y = false) : xs.find? p = none := by
 rw [List.find?_eq_none]
 intro y hy
 obtain ⟨j, hj, e⟩ := List.getElem_of_mem hy
 rw [h j y hj (by rw [dM hj, e])]
 exact gV
def nR (K : Fg) : Sp := λ vs H Q _ => ∃ (sc ps pc : Addr) (pcs : List Pc) (len e f : Int) (n1 n : Nat), vs = [.ref sc, .ref pc] /\ DX K H sc ps pcs len n /\ Pr K H pc e f n1 /\ n1 + 3 * n + 140 <= 3900 /\
 (∀ x, pcs.find? (LB e f) = some x -> lY K H Q (n1 + 3 * n + 140) ((x.f : Rat) + (My.qv e f - My.qv x.a x.b) / (My.qv x.c x.d - My.qv x.a x.b) * ((x.t - x.f : Int) : Rat))) /\
 (pcs.find? (LB e f) = none -> Q (.str (if Bl e f pcs = true then "gap" else "outside")) H)
theorem iA (T : cO K mg t) : FO P w base T.q_za9 5 (nR K) := by
 refine T.q_za9.F.ok cL (λ vs H Q E h => ?_) (λ cdv A outer s H vs Q E hr h => ?_)
 ·obtain ⟨sc, ps, pc, pcs, len, e, f, n1, n, rfl, _⟩ := h
  rfl
 obtain ⟨sc, ps, pc, pcs, len, e, f, n1, n, rfl, S, R, hn1, qi, qo⟩ := h
 have hS := S.s
 have hL := S.l
 have hn := S.hn
 refine ⟨_, (aJ (ag (i := 2) cL.nd rfl (Or.inl rfl) (aa (pv 0)))
 (aJ (cm o4 rfl (br (pv 2)) (az (i := 3) cL.nd rfl (Or.inl rfl)) (aR (aK (cU (bI (fS T) hr T.q_zak (af (pv 1) (af (aa (pv 3)) (af (aa (pv 3)) aA))))) (aR (ai (bI (eB T) hr T.q_zau (af (pv 1) (af (aa (pv 3)) (af (aa (pv 3)) (af (aa (pv 3)) (af (aa (pv 3)) aA)))))))) au)))
 (aR (ai (nD (cU (bI (fS T) hr T.q_zak (af (pv 1) (af (aa (ak (pv 2))) (af (aa (aV jY (pv 2) (dH cv aD) (λ _ _ => rfl))) aA))))) aI aI))))), ir (Z := [some _, some _, none, none]) rfl ?_⟩
 kln_le
 f_look
 refine rE (K := K) (xs := pcs.map λ x => V.ref x.ad) (λ i Z H2 => (∃ u, Z = [some (.ref sc), some (.ref pc), some (.ref ps), u]) /\ H2 = H /\ ∀ j y, j < i -> pcs[j]? = some y -> LB e f y = false) ⟨⟨none, rfl⟩, rfl, λ j y hj => absurd hj (Nat.not_lt_zero _)⟩ (λ i Z H2 _ ⟨_, e2, _⟩ => by subst e2; exact hL) ?_ ?_
 ·rintro i v Z H2 hi ⟨⟨u, rfl⟩, rfl, hw⟩
  obtain ⟨y, hy, rfl⟩ := aU hi
  have OK := S.ok y (j4 hy)
  have k1 := OK.s
  have k2 := OK.lo
  have k3 := OK.hi
  have k4 := OK.f0
  have k5 := OK.ft
  have k6 := OK.t9
  have k7 := OK.span
  f_look
  refine iK (λ hb => ?_) (λ hb => ?_)
  ·have q := qi y (yI hw hy hb)
   f_look
   rename_i p1 H1 x1 y1 s1 R1 g1 v1
   exact q p1 H1 x1 y1 s1 R1 g1 v1
  ·f_look
   refine ⟨⟨_, rfl⟩, rfl, λ j z hj hz => ?_⟩
   rcases Nat.lt_succ_iff_lt_or_eq.mp hj with h1 | h1
   ·exact hw j z h1 hz
   ·subst h1
    rw [hy] at hz
    cases hz
    exact hb
 ·rintro Z H2 ⟨⟨u, rfl⟩, rfl, hw⟩
  have q := qo (yd λ j y hj hy => hw j y (by rw [cI]; exact hj) hy)
  obtain ⟨x, x1, x2, x3⟩ := vE S.ne
  obtain ⟨z, z1, z2, z3⟩ := kW S.ne
  have eo : Bl e f pcs = oJ e f x.a x.b z.c z.d := by unfold Bl; rw [x1, z1]
  rw [eo] at q
  have ox := S.ok x x3
  have oz := S.ok z z3
  have k1 := ox.s
  have k2 := ox.lo
  have k3 := oz.s
  have k4 := oz.hi
  have a0 : eP (pcs.map λ x => V.ref x.ad) 0 = some (.ref x.ad) := xK (we x2)
  have a1 : eP (pcs.map λ x => V.ref x.ad) (-1) = some (.ref z.ad) := atI_last (by rw [cI]; exact we z2)
  f_look
  refine AA hL a0 ?_
  f_look
  refine AA hL a1 ?_
  f_look
  refine iK (λ hb => ?_) (λ hb => ?_)
  ·rw [hb] at q
   exact q
  ·rw [hb] at q
   exact q
structure Ex (K : Fg) (H : Hp) (sc pl ph : Addr) (a b c d len : Int) (n : Nat) : Prop where
 s : bq K H sc [.str "straight", .ref pl, .ref ph, .int len]
 lo : Pr K H pl a b n
 hi : Pr K H ph c d n
 hn : n <= 300
 l1 : 1 <= len
 l2 : len <= 4000
 lt : a * d < c * b
structure CG (K : Fg) (H : Hp) (sc : Addr) (f l len : Int) : Prop where
 s : bq K H sc [.str "days", .int f, .int l, .int len]
 f0 : 0 <= f
 lt : f < l
 l9 : l <= 4000000
 l1 : 1 <= len
 l2 : len <= 4000
def ji (K : Fg) : Sp := λ vs H Q _ => ∃ (sc pl ph pc : Addr) (a b c d e f len : Int) (n1 n : Nat), vs = [.ref sc, .ref pc] /\ Ex K H sc pl ph a b c d len n /\ Pr K H pc e f n1 /\ n1 + 3 * n + 140 <= 3900 /\ (oJ e f a b c d = false -> Q (.str "outside") H) /\
 (oJ e f a b c d = true -> lY K H Q (n1 + 3 * n + 140) ((My.qv e f - My.qv a b) / (My.qv c d - My.qv a b) * (len : Rat)))
def uv (K : Fg) : Sp := λ vs H Q _ => ∃ (sc : Addr) (f l len c : Int), vs = [.ref sc, .int c] /\ CG K H sc f l len /\ 0 <= c /\ c <= 4000000 /\ (¬ (f <= c /\ c <= l) -> Q (.str "outside") H) /\ (f <= c -> c <= l -> lY K H Q 130 (My.qv ((c - f) * len) (l - f)))
theorem gm (T : cO K mg t) : FO P w base T.q_za7 5 (ji K) := by
 refine T.q_za7.F.ok gH (λ vs H Q E h => ?_) (λ cdv A outer s H vs Q E hr h => ?_)
 ·obtain ⟨sc, pl, ph, pc, a, b, c, d, e, f, len, n1, n, rfl, _⟩ := h
  rfl
 obtain ⟨sc, pl, ph, pc, a, b, c, d, e, f, len, n1, n, rfl, S, P1, hn1, qo, qi⟩ := h
 have l1 := S.l1
 have l2 := S.l2
 have k1 := S.s
 have k2 := S.lo
 have k3 := S.hi
 have hn := S.hn
 have k4 := wC S.lo.ne S.hi.ne S.lt
 refine ⟨_, (aJ (aK (kf (cU (bI (fS T) hr T.q_zak (af (pv 1) (af (aa (pv 0)) (af (aa (pv 0)) aA)))))) (aR (ai aI)) au)
 (aR (ai (bI (eB T) hr T.q_zau (af (pv 1) (af (aa (pv 0)) (af (aa (pv 0)) (af aD (af (aa (pv 0)) aA))))))))), ir (Z := [some _, some _]) rfl ?_⟩
 kln_le
 f_look
 refine iK (λ hb => ?_) (λ hb => ?_)
 ·have q := qi hb
  f_look
  rename_i p1 H1 x1 y1 s1 R1 g1 v1
  refine q p1 H1 x1 y1 s1 R1 g1 (v1.trans ?_)
  rw [Int.sub_zero]
  grind
 ·have q := qo hb
  f_look
  exact q
theorem kB (T : cO K mg t) : FO P w base T.q_zba 3 (uv K) := by
 refine T.q_zba.F.ok kL (λ vs H Q E h => ?_) (λ cdv A outer s H vs Q E hr h => ?_)
 ·obtain ⟨sc, f, l, len, c, rfl, _⟩ := h
  rfl
 obtain ⟨sc, f, l, len, c, rfl, S, c0, c9, qo, qi⟩ := h
 have l1 := S.l1
 have l2 := S.l2
 have f0 := S.f0
 have lt := S.lt
 have l9 := S.l9
 have k1 := S.s
 refine ⟨_, (aJ (aK (kf (Bv lz lz (aa (pv 0)) (pv 1) (aa (pv 0)))) (aR (ai aI)) au)
 (aR (ai (bX (bK T) (hr.mono (by decide)) rfl T.m_zaa T.k_number T.b_number .nil db (af (ac aq (ac bw (pv 1) (aa (pv 0))) (aa (pv 0))) (af (ac bw (aa (pv 0)) (aa (pv 0))) aA)))))), ir (Z := [some _, some _]) rfl ?_⟩
 kln_le
 f_look
 refine aY (λ h1 => ?_) (λ h1 => ?_)
 ·f_look
  refine aY (λ h2 => ?_) (λ h2 => ?_)
  rotate_left
  ·f_look
   exact qo λ z => h2 z.2
  ·have q := qi h1 h2
   f_look
   rename_i p1 H1 x1 y1 s1 R1 g1 v1
   exact q p1 H1 x1 y1 s1 (R1.up (by decide)) g1 v1
 ·f_look
  exact qo λ z => h1 z.1
structure Nx (K : Fg) (H : Hp) (sc ps : Addr) (ws : List Str) (len : Int) : Prop where
 s : bq K H sc [.str "order", .ref ps, .int len]
 l : aZ K H ps (ws.map V.str)
 n1 : 1 <= ws.length
 n2 : ws.length <= 60
 l1 : 1 <= len
 l2 : len <= 4000
def wu (K : Fg) : Sp := λ vs H Q _ => ∃ (sc ps : Addr) (ws : List Str) (len : Int) (z : Str), vs = [.ref sc, .str z] /\ Nx K H sc ps ws len /\ (z ∉ ws -> Q (.str "unknown") H) /\ (∀ j : Nat, vB ws z = some j -> lY K H Q 400 (My.qv ((2 * (j : Int) + 1) * len) (2 * (ws.length : Int))))
variable {ws : List Str} {z : Str}
theorem GZ {K : Fg} {p : Addr} (h : aZ K H p (ws.map V.str)) (hj : vB ws z = some j) (k : Q (.int (j : Nat)) H) : qR K (.ref p) [.str z] H Q := by
 obtain ⟨e1, e2⟩ := lq hj
 refine CL (z := .str z) h rfl gD (by rw [jb, e1]; rfl) (show (z == z) = true from beq_self_eq_true z) (λ i u hi hu => ?_) k
 rw [jb] at hu
 cases e : ws[i]? with
 | none => rw [e] at hu; cases hu
 | some x =>
  rw [e] at hu
  cases hu
  have := e2 i x hi e
  show (x == z) = false
  simpa using this
theorem Ai {K : Fg} {p : Addr} (h : aZ K H p (ws.map V.str)) (k : Q (.bl (!decide (z ∈ ws))) H) : LM K true (.str z) (.ref p) H Q := MH h rfl gD (by rw [rc]; exact k)
theorem jp (T : cO K mg t) : FO P w base T.q_zbb 3 (wu K) := by
 refine T.q_zbb.F.ok jB (λ vs H Q E h => ?_) (λ cdv A outer s H vs Q E hr h => ?_)
 ·obtain ⟨sc, ps, ws, len, z, rfl, _⟩ := h
  rfl
 obtain ⟨sc, ps, ws, len, z, rfl, S, qo, qi⟩ := h
 have k1 := S.s
 have k2 : aZ K H ps (ws.map V.str) := S.l
 have l1 := S.l1
 have l2 := S.l2
 have n1 := S.n1
 have n2 := S.n2
 refine ⟨_, (aJ (aK (aj jd (pv 1) (aa (pv 0)) rfl) (aR (ai aI)) au)
 (aR (ai (bX (bK T) (hr.mono (by decide)) rfl T.m_zaa T.k_number T.b_number .nil db (af (ac aq (ac aC (ac aq aD (dw ld PySem.F.slot_list_index PySem.F.type_list_index tJ (aa (pv 0)) (af (pv 1) aA))) aD) (aa (pv 0))) (af (ac aq aD (aN bD rfl T.z_len PySem.boot_len (af (aa (pv 0)) aA))) aA)))))), ir (Z := [some _, some _]) rfl ?_⟩
 kln_le
 f_look
 refine Ai k2 ?_
 f_look
 refine aY (λ h1 => ?_) (λ h1 => ?_)
 rotate_left
 ·f_look
  exact qo h1
 ·obtain ⟨j, hj⟩ := xa h1
  have hl : j < ws.length := (j3.mp (lq hj).1).1
  have hm : (ws.map V.str).length = ws.length := cI ..
  f_look
  refine rN k2 ?_
  f_look
  refine GZ k2 hj ?_
  f_look
  rename_i p1 H1 x1 y1 s1 R1 g1 v1
  exact qi j hj p1 H1 x1 y1 s1 (R1.up (by decide)) g1 (by rw [v1, hm])
def vj (K : Fg) : Sp := λ vs H Q E => (∃ sc : Addr, vs = [.ref sc, .non] /\ Q (.str "nothing") H) ∨ ji K vs H Q E ∨ pI K vs H Q E ∨ nR K vs H Q E ∨ uv K vs H Q E ∨ wu K vs H Q E
theorem tH (T : cO K mg t) : FO P w base T.q_zal 6 (vj K) := by
 refine T.q_zal.F.ok rY (λ vs H Q E h => ?_) (λ cdv A outer s H vs Q E hr h => ?_)
 ·rcases h with ⟨sc, rfl, _⟩ | ⟨sc, pl, ph, pc, a, b, c, d, e, f, len, n1, n, rfl, _⟩ | ⟨sc, pc, p, low, many, len, e, f, n, rfl, _⟩ | ⟨sc, ps, pc, pcs, len, e, f, n1, n, rfl, _⟩ | ⟨sc, f, l, len, c, rfl, _⟩ | ⟨sc, ps, ws, len, z, rfl, _⟩ <;> rfl
 refine ⟨_, (aJ (aK (aj qj (pv 1) kP (aw _)) (aR (ai aI)) au)
 (aJ (aK (aj bB (aa (pv 0)) aI (aw _)) (aR (ai (bI (gm T) hr T.q_za7 (af (pv 0) (af (pv 1) aA))))) au)
 (aJ (aK (aj bB (aa (pv 0)) aI (aw _)) (aR (ai (bI (jn T) hr T.q_za8 (af (pv 0) (af (pv 1) aA))))) au)
 (aJ (aK (aj bB (aa (pv 0)) aI (aw _)) (aR (ai (bI (iA T) hr T.q_za9 (af (pv 0) (af (pv 1) aA))))) au)
 (aJ (aK (aj bB (aa (pv 0)) aI (aw _)) (aR (ai (bI (kB T) hr T.q_zba (af (pv 0) (af (pv 1) aA))))) au)
 (aR (ai (bI (jp T) hr T.q_zbb (af (pv 0) (af (pv 1) aA)))))))))), ?_⟩
 rcases h with ⟨sc, rfl, q⟩ | h | h | h | h | h
 ·refine ir rfl ?_
  f_look
  exact q
 ·obtain ⟨sc, pl, ph, pc, a, b, c, d, e, f, len, n1, n, rfl, S, dm⟩ := h
  have k1 := S.s
  refine ir rfl ?_
  f_look
  refine bR ?_
  f_look
  exact ⟨sc, pl, ph, pc, a, b, c, d, e, f, len, n1, n, rfl, S, dm⟩
 ·obtain ⟨sc, pc, p, low, many, len, e, f, n, rfl, S, dm⟩ := h
  have k1 := S.s
  refine ir rfl ?_
  f_look
  refine aO (by decide) ?_
  f_look
  refine bR ?_
  f_look
  exact ⟨sc, pc, p, low, many, len, e, f, n, rfl, S, dm⟩
 ·obtain ⟨sc, ps, pc, pcs, len, e, f, n1, n, rfl, S, dm⟩ := h
  have k1 := S.s
  refine ir rfl ?_
  f_look
  refine aO (by decide) ?_
  f_look
  refine aO (by decide) ?_
  f_look
  refine bR ?_
  f_look
  exact ⟨sc, ps, pc, pcs, len, e, f, n1, n, rfl, S, dm⟩
 ·obtain ⟨sc, f, l, len, c, rfl, S, dm⟩ := h
  have k1 := S.s
  refine ir rfl ?_
  f_look
  refine aO (by decide) ?_
  f_look
  refine aO (by decide) ?_
  f_look
  refine aO (by decide) ?_
  f_look
  refine bR ?_
  f_look
  exact ⟨sc, f, l, len, c, rfl, S, dm⟩
 ·obtain ⟨sc, ps, ws, len, z, rfl, S, dm⟩ := h
  have k1 := S.s
  refine ir rfl ?_
  f_look
  refine aO (by decide) ?_
  f_look
  refine aO (by decide) ?_
  f_look
  refine aO (by decide) ?_
  f_look
  refine aO (by decide) ?_
  f_look
  exact ⟨sc, ps, ws, len, z, rfl, S, dm⟩
local macro_rules | `(tactic| kt_join) => `(tactic| repeat (first | exact Gt.here | apply Gt.next))
local macro_rules | `(tactic| acc_open) => `(tactic| repeat (first | exact jJ.here | apply jJ.next))
local macro_rules | `(tactic| dl_open) => do
  let a0 ← MyLaw.mkAlts "eRk.fz cRk.own cRk.sfz cRk.vw"
  `(tactic| first | $a0:tactic)
local macro_rules | `(tactic| regbin_open) => do
  let a0 ← MyLaw.mkAlts "cKk cGa cGx cGp"
  `(tactic| first | $a0:tactic)
local macro_rules | `(tactic| kpc_close) => do
  let a0 ← MyLaw.mkAlts "rMU rMO rNk rJL rJE rJP rJr rLr rLW rMK rMp rNv rLY rLo rKY rMe rIy rJq rHc rMv rEa rBh rt_B rJk rKr rMd rKm rIM rKE rKW rKO rGI rHb rKy rGN rKi rJV rMJ rMg rGq rnc rqd rIl rJB rEX rLn rKL rDI rKB rFR rIY rjH rfB rxo rHf rEs rJO hCk cAG hGG cHe jLg jMF"
  let a1 ← MyLaw.mkAlts "jMw"
  let a2 ← MyLaw.mkAlts "biU bFB bIm bMn bLf kJT bxE"
  `(tactic| first | regbin_open | $a0:tactic | ((with_reducible apply Nj); (focus ((kt_join); done)); (focus ((acc_open); done)); (focus ((acc_open); done))) | $a1:tactic | ((with_reducible apply Mx); (focus ((acc_open); done)); (focus ((acc_open); done))) | ((with_reducible apply JK); (focus (exact Nat.le_of_ble_eq_true rfl))) | $a2:tactic)
local macro_rules | `(tactic| acc_openK) => `(tactic| first | kpc_close | (with_reducible refine Fc ?_))
local macro_rules | `(tactic| obj_index2) => do
  let a0 ← MyLaw.mkAlts "rMt iKH iJH rKe rHk rMs rIG rGw rIL rIQ rGr rIr rFV rDG rIP rGM rJa rDd rDV rEj bDU bDY bCp bBU naW nuU gHI gEb oDC oDA kHz kHA gDK gzU gHH gNl"
  let a1 ← MyLaw.mkAlts "rFY"
  let a2 ← MyLaw.mkAlts "hBc hvo bGv bAW"
  `(tactic| first | ((with_reducible apply Cj); (focus decide); (focus decide)) | $a0:tactic | ((with_reducible apply Dl); (focus (dl_open))) | $a1:tactic | ((with_reducible apply yX); (focus ((kt_join); done)); (focus (o_src)); (focus ((acc_open); done))) | $a2:tactic)
local macro_rules | `(tactic| o_src) => `(tactic| first | (exact Nat.le_of_ble_eq_true rfl) | lia | (simp; lia))
local macro_rules | `(tactic| kd_mark) => `(tactic| repeat (first | acc_openK | obj_index2 | kxi_slice))
local macro_rules | `(tactic| sl_open) => `(tactic| (kd_mark; assumption))
local macro_rules | `(tactic| kxi_slice) => `(tactic| fail)
local macro_rules | `(tactic| kby_none) => `(tactic| repeat (first | kpc_close | obj_index2 | kxi_slice))
def N2 (a b : Int) : Tr := .tup [.int a, .int b]
def Ae : SpT := λ _ as Φ _ => ∃ t g, as = [.fz t] /\ CB t = some g /\ Φ (.fz (.bl (match g with | .int => true | _ => false)))
set_option hygiene false in
local macro_rules | `(tactic| open_k with $t) => `(tactic| (refine $t (aH (by intro B as Φ Ψ h; repeat (first | (obtain ⟨rfl, _⟩ := h; rfl) | obtain ⟨_, h⟩ := h))) (λ cdv A outer s H vs Q E hr h => ?_); obtain ⟨B, as, Φ, Ψ, rfl, hS, hx, go⟩ := aB h))
theorem vZ (T : cO K mg t) : FO P w base T.q_zam 1 (bE K Ae) := by
 open_k with T.q_zam.F.ok uP
 obtain ⟨t, g, rfl, hg, q⟩ := hS
 refine ⟨_, (aR (ai (jZ (dj xb rfl rfl T.z_isinstance T.z_int qT (pv 0)) (kq (rg (dj sS rfl rfl T.z_isinstance T.z_bool xg (pv 0))))))), go _ _ (cB (τ := [.fz _]) rfl ?_)⟩
 kln_le
 kd_mark
 refine mW rfl hg ?_
 kd_mark
 cases g with
 | int => refine jH ?_; kd_mark; refine mW rfl hg ?_; kd_mark; exact q
 | bl => refine jH ?_; kd_mark; refine mW rfl hg ?_; kd_mark; exact q
 | _ => refine fB ?_; kd_mark; exact q
def Ge (p e f k : Int) : Prop := f * p ^ k.toNat <= e * p ^ (-k).toNat
variable {k : Int}
theorem DJ (p2 : 2 <= p) (hf : 0 < f) (he : 0 < e) (h : Ge p e f (k + 1)) : Ge p e f k /\ f * p ^ k.toNat < e * p ^ (-k).toNat := by
 unfold Ge at *
 rcases (show 0 <= k ∨ k < 0 by lia) with z | z
 ·have a1 : (k + 1).toNat = k.toNat + 1 := by lia
  have a2 : (-(k + 1)).toNat = 0 := by lia
  have a3 : (-k).toNat = 0 := by lia
  rw [a1, a2, o9, rn, t6, <- uh] at h
  rw [a3, o9, rn]
  have w : 0 < f * p ^ k.toNat := r8 hf (Int.pow_pos (by lia))
  have w2 : f * p ^ k.toNat * 2 <= f * p ^ k.toNat * p := Int.mul_le_mul_of_nonneg_left p2 (ut w)
  constructor <;> lia
 ·have a1 : (k + 1).toNat = 0 := by lia
  have a2 : k.toNat = 0 := by lia
  have a3 : (-k).toNat = (-(k + 1)).toNat + 1 := by lia
  rw [a1, o9, rn] at h
  rw [a2, a3, o9, rn, t6, <- uh]
  have w : 0 < e * p ^ (-(k + 1)).toNat := r8 he (Int.pow_pos (by lia))
  have w2 : e * p ^ (-(k + 1)).toNat * 2 <= e * p ^ (-(k + 1)).toNat * p := Int.mul_le_mul_of_nonneg_left p2 (ut w)
  constructor <;> lia
theorem jI (p2 : 2 <= p) (hf : 0 < f) (he : 0 < e) : ∀ (n : Nat) (k : Int), Ge p e f (k + n) -> Ge p e f k
 | 0, k, h => by simpa using h
 | n + 1, k, h => jI p2 hf he n k (DJ p2 hf he (by rw [show k + (n : Int) + 1 = k + ((n + 1 : Nat) : Int) by lia]; exact h)).1
variable {E : Int}
theorem nQ (h : ic p e f E) : Ge p e f E /\ ¬ Ge p e f (E + 1) := by
 obtain ⟨h1, h2⟩ := h
 unfold Ge
 rcases (show 0 <= E ∨ E < 0 by lia) with z | z
 ·obtain ⟨a1, a2⟩ := h1 z
  have b1 : (-E).toNat = 0 := by lia
  have b2 : (-(E + 1)).toNat = 0 := by lia
  have b3 : (E + 1).toNat = E.toNat + 1 := by lia
  rw [b1, b2, b3, o9, rn]
  exact ⟨a1, by lia⟩
 ·obtain ⟨a1, a2⟩ := h2 z
  have b1 : E.toNat = 0 := by lia
  have b2 : (E + 1).toNat = 0 := by lia
  have b3 : (-(E + 1)).toNat = (-E - 1).toNat := by lia
  rw [b1, b2, b3, o9, rn]
  exact ⟨a1, by lia⟩
theorem yN {E' : Int} (p2 : 2 <= p) (hf : 0 < f) (he : 0 < e) (h : ic p e f E) (h' : ic p e f E') : E = E' := by
 obtain ⟨g1, g2⟩ := nQ h
 obtain ⟨g3, g4⟩ := nQ h'
 rcases Int.lt_trichotomy E E' with w | w | w
 ·exact absurd (jI p2 hf he (E' - (E + 1)).toNat (E + 1) (by rw [show E + 1 + ((E' - (E + 1)).toNat : Int) = E' by lia]; exact g3)) g2
 ·exact w
 ·exact absurd (jI p2 hf he (E - (E' + 1)).toNat (E' + 1) (by rw [show E' + 1 + ((E - (E' + 1)).toNat : Int) = E by lia]; exact g1)) g4
noncomputable abbrev Pi6 := Int × Int × Int × Int × Int × Int
inductive Sc where
 | str (a b c d len : Int) | tur (p low many len : Int) | brk (ps : List Pi6) (len : Int) | day (f l len : Int) | ord (ws : List Str) (len : Int)
inductive Ce where
 | no | num (e f : Int) | day (c : Int) | wd (z : Str)
noncomputable def iZ (x : Pi6) : Tr := .tup [N2 x.1 x.2.1, N2 x.2.2.1 x.2.2.2.1, .int x.2.2.2.2.1, .int x.2.2.2.2.2]
noncomputable def Sc.tr : Sc -> Tr
 | .str a b c d len => .tup [.str "straight", N2 a b, N2 c d, .int len]
 | .tur p low many len => .tup [.str "turns", .int p, .int low, .int many, .int len]
 | .brk ps len => .tup [.str "broken", .lst (ps.map iZ), .int len]
 | .day f l len => .tup [.str "days", .int f, .int l, .int len]
 | .ord ws len => .tup [.str "order", .lst (ws.map Tr.str), .int len]
noncomputable def Ce.tr : Ce -> Tr
 | .no => .non
 | .num e f => N2 e f
 | .day c => .int c
 | .wd z => .str z
structure cR (a b : Int) : Prop where
 pos : 0 < b
 ba : My.Bd 260 a
 bb : My.Bd 260 b
def jL : Sc -> Prop
 | .str a b c d len => cR a b /\ cR c d /\ a * d < c * b /\ 1 <= len /\ len <= 4000
 | .tur p low many len => 2 <= p /\ p <= 10 /\ -200 <= low /\ low <= 200 /\ 1 <= many /\ many <= 400 /\ 1 <= len /\ len <= 4000
 | .brk ps len => ps ≠ [] /\ ps.length <= 100 /\ (∀ x ∈ ps, cR x.1 x.2.1 /\ cR x.2.2.1 x.2.2.2.1 /\ x.1 * x.2.2.2.1 < x.2.2.1 * x.2.1 /\ 0 <= x.2.2.2.2.1 /\ x.2.2.2.2.1 < x.2.2.2.2.2 /\ x.2.2.2.2.2 <= 4000) /\ 1 <= len /\ len <= 4000
 | .day f l len => 0 <= f /\ f < l /\ l <= 4000000 /\ 1 <= len /\ len <= 4000
 | .ord ws len => 1 <= ws.length /\ ws.length <= 60 /\ 1 <= len /\ len <= 4000
def uy : Sc -> Ce -> Prop
 | _, .no => True
 | .str _ _ _ _ _, .num e f => cR e f
 | .tur _ _ _ _, .num e f => cR e f
 | .brk _ _, .num e f => cR e f
 | .day _ _ _, .day c => 0 <= c /\ c <= 4000000
 | .ord _ _, .wd _ => True
 | _, _ => False
inductive Pl where
 | tx (z : Str) | at (q : Rat)
def hR (e f : Int) (x : Pi6) : Bool := oJ e f x.1 x.2.1 x.2.2.1 x.2.2.2.1
noncomputable def lW (e f : Int) (ps : List Pi6) : Bool := match ps.head?, ps.getLast? with
 | some x, some y => oJ e f x.1 x.2.1 y.2.2.1 y.2.2.2.1
 | _, _ => false
noncomputable def tj (e f : Int) (x : Pi6) : Rat := (x.2.2.2.2.1 : Rat) + (My.qv e f - My.qv x.1 x.2.1) / (My.qv x.2.2.1 x.2.2.2.1 - My.qv x.1 x.2.1) * ((x.2.2.2.2.2 - x.2.2.2.2.1 : Int) : Rat)
noncomputable def FG (p low many len e f E : Int) : Pl :=
 if E < low ∨ low + many < E then .tx "outside" else if E = low + many /\ dz p E (My.qv e f) ≠ 0 then .tx "outside" else .at ((((E - low : Int) : Rat) + dz p E (My.qv e f)) * My.qv len many)
def pd : Sc -> Ce -> Pl -> Prop
 | _, .no, r => r = .tx "nothing"
 | .str a b c d len, .num e f, r => r = if oJ e f a b c d = true then .at ((My.qv e f - My.qv a b) / (My.qv c d - My.qv a b) * (len : Rat)) else .tx "outside"
 | .tur p low many len, .num e f, r => (e <= 0 -> r = .tx "nought") /\ (0 < e -> ∃ E, ic p e f E /\ r = FG p low many len e f E)
 | .brk ps _, .num e f, r => r = match ps.find? (hR e f) with
  | some x => .at (tj e f x)
  | none => .tx (if lW e f ps = true then "gap" else "outside")
 | .day f l len, .day c, r => r = if f <= c /\ c <= l then .at (My.qv ((c - f) * len) (l - f)) else .tx "outside"
 | .ord ws len, .wd z, r => r = match vB ws z with
  | some j => .at (My.qv ((2 * (j : Int) + 1) * len) (2 * (ws.length : Int)))
  | none => .tx "unknown"
 | _, _, _ => False
variable {s : Sc} {r : Pl}
theorem pd.one {c : Ce} {r' : Pl} (hs : jL s) (hc : uy s c) (h : pd s c r) (h' : pd s c r') : r = r' := by
 cases c with
 | no => cases s <;> exact h.trans h'.symm
 | num e f =>
  cases s with
  | str a b c d len => exact h.trans h'.symm
  | brk ps len => exact h.trans h'.symm
  | tur p low many len =>
   rcases (show e <= 0 ∨ 0 < e by lia) with z | z
   ·rw [h.1 z, h'.1 z]
   ·obtain ⟨E, b1, e1⟩ := h.2 z
    obtain ⟨E', b2, e2⟩ := h'.2 z
    have := yN hs.1 hc.pos z b1 b2
    rw [e1, e2, this]
  | day f l len => exact hc.elim
  | ord ws len => exact hc.elim
 | day c =>
  cases s with
  | day f l len => exact h.trans h'.symm
  | _ => exact hc.elim
 | wd z =>
  cases s with
  | ord ws len => exact h.trans h'.symm
  | _ => exact hc.elim
def hW (q : Rat) : Tr := N2 q.num q.den
noncomputable def LS : Pl -> Tr
 | .tx z => .str z
 | .at q => hW q
structure QB (q : Rat) : Prop where
 n : My.Bd 3000 q.num
 d : My.Bd 3000 (q.den : Int)
def PB : Pl -> Prop
 | .tx _ => True
 | .at q => QB q
variable {q : Rat}
theorem Hn (hy : 0 < y) (g : Int.gcd x y = 1) (e : My.qv x y = q) : x = q.num /\ y = (q.den : Int) := by
 have hd : (0 : Int) < (q.den : Int) := Int.natCast_pos.mpr q.den_pos
 have e2 : My.qv q.num q.den = q := by
  show (q.num : Rat) / ((q.den : Int) : Rat) = q
  rw [<- Rat.divInt_eq_div]
  exact Rat.num_divInt_den q
 refine My.low_unique hy hd g ?_ (My.eq_of_qv (by lia) (by lia) (e.trans e2.symm))
 have := q.reduced
 show Nat.gcd q.num.natAbs (q.den : Int).natAbs = 1
 exact this
def sw : SpT := λ _ as Φ _ => ∃ s c, as = [.fz s.tr, .fz c.tr] /\ jL s /\ uy s c /\ ∀ r, pd s c r -> PB r -> Φ (.fz (LS r))
variable {F : Hp}
theorem Am {K : Fg} {v : V} (h : Is K F v (N2 a b)) : ∃ p, v = .ref p /\ bq K F p [.int a, .int b] := by
 cases h with
 | tup s l =>
  obtain ⟨v1, v2, rfl, h1, h2⟩ := JZ l
  cases h1
  cases h2
  exact ⟨_, rfl, s⟩
variable {vs : List V} {u : Tr}
theorem HY {K : Fg} {t x : Tr} (h : IsL K F vs [t, u, x]) : ∃ a b c, vs = [a, b, c] /\ Is K F a t /\ Is K F b u /\ Is K F c x := by
 cases h with
 | cons a b => obtain ⟨_, _, rfl, h1, h2⟩ := JZ b; exact ⟨_, _, _, rfl, a, h1, h2⟩
theorem Df {K : Fg} {t x y : Tr} (h : IsL K F vs [t, u, x, y]) : ∃ a b c d, vs = [a, b, c, d] /\ Is K F a t /\ Is K F b u /\ Is K F c x /\ Is K F d y := by
 cases h with
 | cons a b => obtain ⟨_, _, _, rfl, h1, h2, h3⟩ := HY b; exact ⟨_, _, _, _, rfl, a, h1, h2, h3⟩
theorem LV {K : Fg} {t x y z : Tr} (h : IsL K F vs [t, u, x, y, z]) : ∃ a b c d e, vs = [a, b, c, d, e] /\ Is K F a t /\ Is K F b u /\ Is K F c x /\ Is K F d y /\ Is K F e z := by
 cases h with
 | cons a b => obtain ⟨_, _, _, _, rfl, h1, h2, h3, h4⟩ := Df b; exact ⟨_, _, _, _, _, rfl, a, h1, h2, h3, h4⟩
theorem cR.pr {K : Fg} {p : Addr} (h : cR a b) (s : bq K H p [.int a, .int b]) : Pr K H p a b 260 := ⟨s, h.pos, h.ba, h.bb⟩
theorem Cl {K : Fg} (i : ah F H) : ∀ {ps : List Pi6} {vs : List V}, IsL K F vs (ps.map iZ) -> (∀ x ∈ ps, cR x.1 x.2.1 /\ cR x.2.2.1 x.2.2.2.1 /\ x.1 * x.2.2.2.1 < x.2.2.1 * x.2.1 /\ 0 <= x.2.2.2.2.1 /\ x.2.2.2.2.1 < x.2.2.2.2.2 /\ x.2.2.2.2.2 <= 4000) ->
  ∃ pcs : List Pc, vs = pcs.map (λ x => V.ref x.ad) /\ (∀ x ∈ pcs, vd K H 260 x) /\ pcs.map (λ x => ((x.a, x.b, x.c, x.d, x.f, x.t) : Pi6)) = ps
 | [], _, .nil, _ => ⟨[], rfl, λ _ h => absurd h mV, rfl⟩
 | (a, b, c, d, f, t) :: r, _, .cons h g, ok => by
  obtain ⟨pcs, e1, e2, e3⟩ := Cl i g (λ x hx => ok x (n8 _ hx))
  obtain ⟨k1, k2, k3, k4, k5, k6⟩ := ok _ kv
  cases h with
  | tup s l =>
   obtain ⟨v1, v2, v3, v4, rfl, h1, h2, h3, h4⟩ := Df l
   obtain ⟨p1, rfl, s1⟩ := Am h1
   obtain ⟨p2, rfl, s2⟩ := Am h2
   cases h3
   cases h4
   refine ⟨⟨_, p1, p2, a, b, c, d, f, t⟩ :: pcs, by rw [e1]; rfl, rm.mpr ⟨⟨i.tup s, k1.pr (i.tup s1), k2.pr (i.tup s2), k3, k4, k5, k6⟩, e2⟩, by rw [kw, e3]⟩
theorem ul (g : α -> β) (q : β -> Bool) : ∀ xs : List α, (xs.map g).find? q = (xs.find? λ x => q (g x)).map g
 | [] => rfl
 | x :: r => by
  rw [kw, List.find?_cons, List.find?_cons, ul g q r]
  cases q (g x) <;> rfl
theorem jS (T : cO K mg t) : FO P w base T.q_zal 6 (bE K sw) := by
 refine (tH (P := P) (w := w) (base := base) T).imp λ vs H Q E h => ?_
 obtain ⟨B, as, Φ, Ψ, rfl, rfl, bk, la, ⟨s, c, rfl, hs, hc, φ⟩, q, _⟩ := h
 obtain ⟨v, w', rfl, iv, iw⟩ := Hg la
 have i := bk.i
 have tx : ∀ z H', ah B.H0 H' -> pd s c (.tx z) -> Q (.str z) H' := λ z H' sH hz => q (.str z) _ H' (.fz (.str z)) (upT bk rfl rfl sH) .str (φ _ hz trivial)
 have nm : ∀ n v, n <= 3000 -> pd s c (.at v) -> lY B.K B.H0 Q n v := λ n v hn hz p H' x y sH r g e => by
  obtain ⟨e1, e2⟩ := Hn r.pos g e
  have u := upT bk rfl rfl sH
  refine q (.ref p) _ H' (.fz (hW v)) u ?_ (φ _ hz ⟨by rw [<- e1]; exact r.ba.mono hn, by rw [<- e2]; exact r.bb.mono hn⟩)
  show Is B.K _ (.ref p) (N2 v.num v.den)
  rw [<- e1, <- e2]
  exact .tup (bq.addT (i.trans sH) r.s) (.cons .int (.cons .int .nil))
 cases c with
 | no =>
  cases iw
  have : ∃ sc, v = .ref sc := by cases s <;> (cases iv; exact ⟨_, rfl⟩)
  obtain ⟨sc, rfl⟩ := this
  exact .inl ⟨sc, rfl, tx _ _ (ah.refl _) (by cases s <;> rfl)⟩
 | num e f =>
  obtain ⟨pc, rfl, sp⟩ := Am iw
  cases s with
  | str a b c d len =>
   obtain ⟨k1, k2, k3, k4, k5⟩ := hs
   cases iv with
   | tup s0 l =>
    obtain ⟨v1, v2, v3, v4, rfl, h1, h2, h3, h4⟩ := Df l
    cases h1
    obtain ⟨p1, rfl, s1⟩ := Am h2
    obtain ⟨p2, rfl, s2⟩ := Am h3
    cases h4
    refine .inr (.inl ⟨_, p1, p2, pc, a, b, c, d, e, f, len, 260, 260, rfl, ⟨i.tup s0, k1.pr (i.tup s1), k2.pr (i.tup s2), by decide, k4, k5, k3⟩, hc.pr (i.tup sp), by decide, λ hb => tx _ _ (ah.refl _) ?_, λ hb => nm _ _ (by decide) ?_⟩)
    ·show _ = _; rw [hb]; rfl
    ·show _ = _; rw [hb]; rfl
  | tur p low many len =>
   obtain ⟨k1, k2, k3, k4, k5, k6, k7, k8⟩ := hs
   cases iv with
   | tup s0 l =>
    obtain ⟨v1, v2, v3, v4, v5, rfl, h1, h2, h3, h4, h5⟩ := LV l
    cases h1; cases h2; cases h3; cases h4; cases h5
    refine .inr (.inr (.inl ⟨_, pc, p, low, many, len, e, f, 260, rfl, ⟨i.tup s0, k1, k2, k3, k4, k5, k6, k7, k8⟩, hc.pr (i.tup sp), by decide, λ he => tx _ _ (ah.refl _) ⟨λ _ => rfl, λ z => by lia⟩, λ he E hE _ _ => ⟨λ z => tx _ _ (ah.refl _) ⟨λ z => by lia, λ _ => ⟨E, hE, ?_⟩⟩, λ z1 z2 z3 H' sH => tx _ _ sH ⟨λ z => by lia, λ _ => ⟨E, hE, ?_⟩⟩, λ z1 z2 z3 => nm _ _ (by decide) ⟨λ z => by lia, λ _ => ⟨E, hE, ?_⟩⟩⟩⟩))
    ·unfold FG; rw [i9 z]
    ·unfold FG; rw [gS (by lia), i9 ⟨z2, z3⟩]
    ·unfold FG; rw [gS (by lia), gS λ y => y.2 (z3 y.1)]
  | brk ps len =>
   obtain ⟨k0, _, k1, k2, k3⟩ := hs
   cases iv with
   | tup s0 l =>
    obtain ⟨v1, v2, v3, rfl, h1, h2, h3⟩ := HY l
    cases h1; cases h3
    cases h2 with
    | lst s1 l1 =>
     obtain ⟨pcs, rfl, e2, e3⟩ := Cl i l1 k1
     have fe : ps.find? (hR e f) = (pcs.find? (LB e f)).map (λ x => ((x.a, x.b, x.c, x.d, x.f, x.t) : Pi6)) := by rw [<- e3, ul]; rfl
     refine .inr (.inr (.inr (.inl ⟨_, _, pc, pcs, len, e, f, 260, 260, rfl, ⟨i.tup s0, i.seq s1, e2, λ z => k0 (by rw [<- e3, z]; rfl), by decide⟩, hc.pr (i.tup sp), by decide, λ x hx => nm _ _ (by decide) ?_, λ hx => tx _ _ (ah.refl _) ?_⟩)))
     ·show _ = _
      rw [fe, hx]; rfl
     ·show _ = _
      rw [fe, hx]
      show Pl.tx _ = .tx _
      have : lW e f ps = Bl e f pcs := by
       unfold lW Bl
       rw [<- e3, List.head?_map, List.getLast?_map]
       cases pcs.head? <;> cases pcs.getLast? <;> rfl
      rw [this]
  | day f l len => exact hc.elim
  | ord ws len => exact hc.elim
 | day c =>
  cases s with
  | day f l len =>
   obtain ⟨k1, k2, k3, k4, k5⟩ := hs
   cases iw
   cases iv with
   | tup s0 l0 =>
    obtain ⟨v1, v2, v3, v4, rfl, h1, h2, h3, h4⟩ := Df l0
    cases h1; cases h2; cases h3; cases h4
    refine .inr (.inr (.inr (.inr (.inl ⟨_, f, l, len, c, rfl, ⟨i.tup s0, k1, k2, k3, k4, k5⟩, hc.1, hc.2, λ z => tx _ _ (ah.refl _) ?_, λ z1 z2 => nm _ _ (by decide) ?_⟩))))
    ·show _ = _; rw [gS z]
    ·show _ = _; rw [i9 ⟨z1, z2⟩]
  | _ => exact hc.elim
 | wd z =>
  cases s with
  | ord ws len =>
   obtain ⟨k1, k2, k4, k5⟩ := hs
   cases iw
   cases iv with
   | tup s0 l0 =>
    obtain ⟨v1, v2, v3, rfl, h1, h2, h3⟩ := HY l0
    cases h1; cases h3
    cases h2 with
    | lst s1 l1 =>
     rw [l1.strs] at s1
     refine .inr (.inr (.inr (.inr (.inr ⟨_, _, ws, len, z, rfl, ⟨i.tup s0, i.seq s1, k1, k2, k4, k5⟩, λ hz => tx _ _ (ah.refl _) ?_, λ j hj => nm _ _ (by decide) ?_⟩))))
     ·show _ = _
      have : vB ws z = none := by
       cases e : vB ws z with
       | none => rfl
       | some j => exact absurd (j4 (lq e).1) hz
      rw [this]
     ·show _ = _; rw [hj]
  | _ => exact hc.elim
def ML : Pl := .tx ""
def rJ (s : Sc) (c : Ce) : Pl := @Classical.epsilon Pl ⟨ML⟩ (pd s c)
theorem Hm {c : Ce} (hs : jL s) (hc : uy s c) (h : pd s c r) : rJ s c = r := pd.one hs hc (@Classical.epsilon_spec_aux Pl ⟨ML⟩ (pd s c) ⟨r, h⟩) h
theorem IR {c : Ce} (h : pd s c r) : pd s c (rJ s c) := @Classical.epsilon_spec_aux Pl ⟨ML⟩ (pd s c) ⟨r, h⟩
variable {B : Bk} {Φ : Kd -> Prop} {Ψ : Addr -> Prop}
theorem xt {c : Ce} (hs : jL s) (hc : uy s c) (q : PB (rJ s c) -> Φ (.fz (LS (rJ s c)))) : sw B [.fz s.tr, .fz c.tr] Φ Ψ :=
 ⟨s, c, rfl, hs, hc, λ r hr hb => by rw [<- Hm hs hc hr] at hb ⊢; exact q hb⟩
def yp (q : Rat) : Int := (2 * q.num + (q.den : Int)) / (2 * (q.den : Int))
def ue : SpT := λ _ as Φ _ => ∃ q : Rat, as = [.fz (hW q)] /\ QB q /\ Φ (.fz (.int (yp q)))
theorem lC (T : cO K mg t) : FO P w base T.q_zat 1 (bE K ue) := by
 open_k with T.q_zat.F.ok vL
 obtain ⟨q, rfl, hq, φ⟩ := hS
 have hd : (0 : Int) < (q.den : Int) := Int.natCast_pos.mpr q.den_pos
 have b1 := hq.n
 have b2 := hq.d
 unfold hW N2 at *
 refine ⟨_, (aR (ai (ac cn (ac aC (ac aq aD (aa (pv 0))) (aa (pv 0))) (ac aq aD (aa (pv 0)))))), go _ _ (cB (τ := [.fz _]) rfl ?_)⟩
 kln_le
 sl_open
theorem wA (h : QB q) (k : Φ (.fz (.int (yp q)))) : ue B [.fz (hW q)] Φ Ψ := ⟨q, rfl, h, k⟩
structure Fd where
 (sx sy : Sc)
 (x0 y0 w h : Int)
noncomputable def Fd.tr (f : Fd) : Tr := .tup [f.sx.tr, f.sy.tr, .int f.x0, .int f.y0, .int f.w, .int f.h]
structure Itm where
 own : Int
 (x y o : Ce)
 (rank col siz : Int)
noncomputable def Itm.tr (i : Itm) : Tr := .tup [.int i.own, i.x.tr, i.y.tr, i.o.tr, .int i.rank, .int i.col, .int i.siz]
structure jM (f : Fd) : Prop where
 x : jL f.sx
 y : jL f.sy
structure fY (f : Fd) (i : Itm) : Prop where
 x : uy f.sx i.x
 y : uy f.sy i.y
def CO : SpT := λ _ as Φ _ => ∃ (f : Fd) (q : Rat), as = [.fz f.tr, .fz (hW q)] /\ QB q /\ Φ (.fz (.int (f.x0 + yp q)))
theorem yC (T : cO K mg t) : FO P w base T.q_zbc 2 (bE K CO) := by
 open_k with T.q_zbc.F.ok Bx
 obtain ⟨f, q, rfl, hq, φ⟩ := hS
 unfold Fd.tr at *
 refine ⟨_, (aR (ai (ac aC (aa (pv 0)) (bI (lC T) hr T.q_zat (af (pv 1) aA))))), go _ _ (cB (τ := [.fz _, .fz _]) rfl ?_)⟩
 kln_le
 kd_mark
 intro _ _
 refine wA hq ?_
 sl_open
def CK : SpT := λ _ as Φ _ => ∃ (f : Fd) (q : Rat), as = [.fz f.tr, .fz (hW q)] /\ QB q /\ Φ (.fz (.int (f.y0 + f.h - yp q)))
theorem yA (T : cO K mg t) : FO P w base T.q_zbd 2 (bE K CK) := by
 open_k with T.q_zbd.F.ok zN
 obtain ⟨f, q, rfl, hq, φ⟩ := hS
 unfold Fd.tr at *
 refine ⟨_, (aR (ai (ac bw (ac aC (aa (pv 0)) (aa (pv 0))) (bI (lC T) hr T.q_zat (af (pv 1) aA))))), go _ _ (cB (τ := [.fz _, .fz _]) rfl ?_)⟩
 kln_le
 kd_mark
 intro _ _
 refine wA hq ?_
 sl_open
def jW (f : Fd) (i : Itm) (ch : Str) : Pl := if ch = "x" then rJ f.sx i.x else rJ f.sy i.y
def oE : SpT := λ _ as Φ _ => ∃ (f : Fd) (i : Itm) (ch : Str), as = [.fz f.tr, .fz i.tr, .fz (.str ch)] /\ jM f /\ fY f i /\ (ch = "x" ∨ ch = "y") /\ (PB (jW f i ch) -> Φ (.fz (LS (jW f i ch))))
theorem dN (T : cO K mg t) : FO P w base T.q_zaf 7 (bE K oE) := by
 open_k with T.q_zaf.F.ok tK
 obtain ⟨f, i, ch, rfl, hf, hi, hch, φ⟩ := hS
 unfold Fd.tr Itm.tr at *
 refine ⟨_, (aJ (aK (aj bB (pv 2) aI (aw _)) (aR (ai (bI (jS T) hr T.q_zal (af (aa (pv 0)) (af (aa (pv 1)) aA))))) au)
 (aR (ai (bI (jS T) hr T.q_zal (af (aa (pv 0)) (af (nD (aj bB (pv 2) aI (aw _)) (aa (pv 1)) (aa (pv 1))) aA)))))), go _ _ (cB (τ := [.fz _, .fz _, .fz _]) rfl ?_)⟩
 kln_le
 unfold jW at φ
 kd_mark
 refine aY (λ h => ?_) (λ h => ?_)
 ·rw [i9 h] at φ
  kd_mark
  intro _ _
  exact xt hf.x hi.x φ
 ·rw [gS h] at φ
  have hy : ch = "y" := hch.elim (λ z => absurd z h) id
  kd_mark
  refine aY (λ h2 => ?_) (λ h2 => absurd hy h2)
  kd_mark
  intro _ _
  exact xt hf.y hi.y φ
variable {i : Itm}
theorem hC {f : Fd} {ch : Str} (hf : jM f) (hi : fY f i) (hc : ch = "x" ∨ ch = "y") (q : PB (jW f i ch) -> Φ (.fz (LS (jW f i ch)))) : oE B [.fz f.tr, .fz i.tr, .fz (.str ch)] Φ Ψ := ⟨f, i, ch, rfl, hf, hi, hc, q⟩
def HC : SpT := λ _ as Φ _ => ∃ (f : Fd) (i : Itm) (q : Rat), as = [.fz f.tr, .fz i.tr] /\ jM f /\ fY f i /\ rJ f.sx i.x = .at q /\ Φ (.fz (.int (f.x0 + yp q)))
theorem AD (T : cO K mg t) : FO P w base T.q_zbe 8 (bE K HC) := by
 open_k with T.q_zbe.F.ok Di
 obtain ⟨f, i, q, rfl, hf, hi, hq, φ⟩ := hS
 refine ⟨_, (aR (ai (bI (yC T) hr T.q_zbc (af (pv 0) (af (bI (dN T) hr T.q_zaf (af (pv 0) (af (pv 1) (af aI aA)))) aA))))), go _ _ (cB (τ := [.fz _, .fz _]) rfl ?_)⟩
 kln_le
 kd_mark
 intro _ _
 refine hC hf hi (.inl rfl) ?_
 have e : jW f i "x" = .at q := by unfold jW; rw [i9 rfl, hq]
 rw [e]
 intro hb
 show Fs (.fz (hW q)) _ _
 kd_mark
 intro _ _
 refine ⟨f, q, rfl, hb, ?_⟩
 sl_open
def aS (f : Fd) (i : Itm) : List Str -> Option Tr
 | [] => none
 | ch :: r => match jW f i ch with
  | .tx z => some (.tup [.int i.own, .str ch, .str z])
  | .at _ => aS f i r
def HF : Option Tr -> Tr
 | none => .non
 | some t => t
def Dr : SpT := λ _ as Φ _ => ∃ (f : Fd) (i : Itm) (chs : List Str), as = [.fz f.tr, .fz i.tr, .fz (.tup (chs.map Tr.str))] /\ jM f /\ fY f i /\ (∀ ch ∈ chs, ch = "x" ∨ ch = "y") /\ Φ (.fz (HF (aS f i chs)))
theorem iM {f : Fd} {i : Itm} : ∀ {chs : List Str} {j : Nat}, (∀ k ch, k < j -> chs[k]? = some ch -> ∃ q, jW f i ch = .at q) -> aS f i chs = aS f i (chs.drop j)
 | chs, 0, _ => rfl
 | [], j + 1, _ => rfl
 | ch :: r, j + 1, h => by
  obtain ⟨q, e⟩ := h 0 ch (by lia) rfl
  have e1 : aS f i (ch :: r) = aS f i r := by simp only [aS, e]
  rw [e1]
  exact iM (chs := r) (j := j) λ k c hk hc => h (k + 1) c (by lia) hc
theorem sk (T : cO K mg t) : FO P w base T.q_zbf 8 (bE K Dr) := by
 open_k with T.q_zbf.F.ok iO
 obtain ⟨f, i, chs, rfl, hf, hi, hch, φ⟩ := hS
 refine ⟨_, (aJ (cm o4 rfl (Av (pv 2)) (az (i := 3) iO.nd rfl (Or.inl rfl)) (aJ (ag (i := 4) iO.nd rfl (Or.inl rfl) (bI (dN T) hr T.q_zaf (af (pv 0) (af (pv 1) (af (pv 3) aA)))))
 (aR (aK (cU (dj jT rfl rfl T.z_isinstance T.z_str nF (pv 4))) (aR (ai (aL (af (aa (pv 1)) (af (pv 3) (af (pv 4) aA)))))) au))))
 (aR (ai kP))), go _ _ (cB (τ := [.fz _, .fz _, .fz _, .no, .no]) rfl ?_)⟩
 kln_le
 kd_mark
 refine ⟨λ j τ => (∃ u v : Sl, τ = [.fz f.tr, .fz i.tr, .fz (.tup (chs.map Tr.str)), u, v]) /\ ∀ k ch, k < j -> chs[k]? = some ch -> ∃ q, jW f i ch = .at q, ⟨⟨_, _, rfl⟩, λ k ch hk => by lia⟩, ?_, ?_⟩
 ·rintro j tt τ hj ⟨⟨u, v, rfl⟩, hk⟩
  obtain ⟨ch, ech, rfl⟩ : ∃ ch, chs[j]? = some ch /\ tt = .str ch := by
   rw [jb] at hj
   cases e : chs[j]? with
   | none => rw [e] at hj; cases hj
   | some c => rw [e] at hj; cases hj; exact ⟨c, rfl, rfl⟩
  kd_mark
  intro _ _
  refine hC hf hi (hch ch (j4 ech)) ?_
  intro hb
  cases e : jW f i ch with
  | tx z =>
   show GA B _ (.fz (.str z)) _ _
   kd_mark
   have : aS f i chs = some (.tup [.int i.own, .str ch, .str z]) := by
    rw [iM hk]
    have hd : chs.drop j = ch :: chs.drop (j + 1) := by
     obtain ⟨hl, e⟩ := j3.mp ech
     rw [List.drop_eq_getElem_cons hl, e]
    rw [hd]
    simp only [aS, e]
   rw [this] at φ
   exact φ
  | «at» q =>
   show GA B _ (.fz (.tup [.int q.num, .int q.den])) _ _
   kd_mark
   refine ⟨⟨_, _, rfl⟩, λ k c hkk hc => ?_⟩
   rcases (show k < j ∨ k = j by lia) with z | z
   ·exact hk k c z hc
   ·subst z
    rw [ech] at hc
    cases hc
    exact ⟨q, e⟩
 ·rintro τ ⟨⟨u, v, rfl⟩, hk⟩
  kd_mark
  have : aS f i chs = none := by
   rw [iM hk, cI, List.drop_length]; rfl
  rw [this] at φ
  exact φ
noncomputable def oP (big : Bool) : Int -> Int -> Nat -> List Int -> List Int
 | _, _, _, [] => []
 | left, mixed, k, t :: r => if big = true then left % t :: oP big (left / t) mixed (k + 1) r
  else ((mixed * mixed + 69621 * mixed + 7919 * (k : Int) + 11) % 2147483647 * 16807 % 2147483629 % t) :: oP big left ((mixed * mixed + 69621 * mixed + 7919 * (k : Int) + 11) % 2147483647) (k + 1) r
def JR (c : Int) : Int := if c < 0 then -c else c
def wI (c : Int) : Bool := decide ((10 : Int) ^ (18 : Int).toNat <= JR c)
def bz (c : Int) (tops : List Int) : List Int := oP (wI c) (JR c) (c * 48271 % 2147483647) 0 tops
theorem uk (big : Bool) : ∀ (tops : List Int) (l m : Int) (k : Nat), (oP big l m k tops).length = tops.length
 | [], _, _, _ => rfl
 | t :: r, l, m, k => by
  unfold oP
  split <;> rw [o5, o5, uk big r]
theorem qK (big : Bool) : ∀ (tops : List Int) (l m : Int) (k i : Nat) (d t : Int), (oP big l m k tops)[i]? = some d -> tops[i]? = some t -> 0 < t -> 0 <= d /\ d < t
 | [], _, _, _, _, _, _, h, _, _ => by simp [oP] at h
 | t0 :: r, l, m, k, i, d, t, h, ht, hp => by
  unfold oP at h
  cases i with
  | zero =>
   cases ht
   split at h
   ·cases h; exact ⟨nW _ (by lia), lb _ hp⟩
   ·cases h; exact ⟨nW _ (by lia), lb _ hp⟩
  | succ i =>
   split at h
   ·exact qK big r _ _ _ i d t h ht hp
   ·exact qK big r _ _ _ i d t h ht hp
def oB : SpT := λ _ as Φ _ => ∃ (c : Int) (tops : List Int), as = [.fz (.int c), .fz (.lst (tops.map Tr.int))] /\ tops.length <= 100 /\ (∀ t ∈ tops, 0 < t /\ t <= 1000000000) /\ Φ (.nw (.lst ((bz c tops).map Tr.int)))
theorem KG {g : α -> β} {xs : List α} {i : Nat} {x : α} (h : xs[i]? = some x) : (xs.map g)[i]? = some (g x) := by rw [jb, h]; rfl
theorem Hs {xs : List α} {i : Nat} {x : α} (h : xs[i]? = some x) : xs.drop i = x :: xs.drop (i + 1) := by
 obtain ⟨hl, e⟩ := j3.mp h
 rw [List.drop_eq_getElem_cons hl, e]
theorem zZ {xs : List α} {i : Nat} {x : α} (h : xs[i]? = some x) : eP xs (0 + (i : Int)) = some x := by rw [Int.zero_add]; exact ce h
theorem lI (T : cO K mg t) : FO P w base T.q_zaw 1 (bE K oB) := by
 open_k with T.q_zaw.F.ok cJ
 obtain ⟨c, tops, rfl, hl, ht, φ⟩ := hS
 refine ⟨_, (aJ (ag (i := 2) cJ.nd rfl (Or.inl rfl) (aT aA))
 (aJ (ag (i := 3) cJ.nd rfl (Or.inl rfl) (aN fg rfl T.z_abs lh (af (pv 0) aA)))
 (aJ (ag (i := 4) cJ.nd rfl (Or.inl rfl) (ac aQ (ac dQ (pv 0) aD) aD))
 (aJ (cm o4 rfl (fo rfl T.z_range (af (aN bD rfl T.z_len PySem.boot_len (af (pv 1) aA)) aA)) (az (i := 5) cJ.nd rfl (Or.inl rfl)) (aR (aK (aj AO (aN fg rfl T.z_abs lh (af (pv 0) aA)) (ac dE aD aD) (aw _)) (aJ (bU (dw ld o7 o8 bn (pv 2) (af (ac aQ (pv 3) (aV jY (pv 1) (pv 5) (λ _ _ => rfl))) aA)))
 (aR (ag (i := 3) cJ.nd rfl (Or.inl rfl) (ac cn (pv 3) (aV jY (pv 1) (pv 5) (λ _ _ => rfl)))))) (aJ (ag (i := 4) cJ.nd rfl (Or.inl rfl) (ac aQ (ac aC (ac aC (ac aC (ac dQ (pv 4) (pv 4)) (ac dQ aD (pv 4))) (ac dQ aD (pv 5))) aD) aD))
 (aR (bU (dw ld o7 o8 bn (pv 2) (af (ac aQ (ac aQ (ac dQ (pv 4) aD) aD) (aV jY (pv 1) (pv 5) (λ _ _ => rfl))) aA))))))))
 (aR (ai (pv 2))))))), go _ _ (cB (τ := [.fz _, .fz _, .no, .no, .no, .no]) rfl ?_)⟩
 kln_le
 kd_mark
 have m0 : 0 <= c * 48271 % 2147483647 := nW _ (by decide)
 have m1 : c * 48271 % 2147483647 < 2147483647 := lb _ (by decide)
 refine ⟨⟨by rw [cI]; lia, by rw [cI]; lia⟩, ?_⟩
 refine ⟨λ i τ => ∃ (left mixed : Int) (fs : List Int) (u : Sl), τ = [.fz (.int c), .fz (.lst (tops.map Tr.int)), .own (.lst (fs.map Tr.int)), .fz (.int left), .fz (.int mixed), u] /\ fs.length = i /\ 0 <= mixed /\ mixed < 2147483647 /\ bz c tops = fs ++ oP (wI c) left mixed i (tops.drop i), ⟨_, _, [], _, rfl, rfl, m0, m1, rfl⟩, ?_, ?_⟩
 ·rintro i tt τ hi ⟨left, mixed, fs, u, rfl, hf, b0, b1, e⟩
  obtain ⟨hin, rfl⟩ := ff hi
  rw [cI] at hin
  have hin : i < tops.length := by lia
  have hti : tops[i]? = some tops[i] := dM hin
  obtain ⟨t0, t1⟩ := ht _ (List.getElem_mem hin)
  generalize tops[i] = tp at *
  have hat : eP (tops.map Tr.int) (0 + (i : Int)) = some (.int tp) := zZ (KG hti)
  rw [Hs hti] at e
  have fl : (fs.map Tr.int).length <= 10000 := by rw [cI]; lia
  kd_mark
  refine aY (λ hb => ?_) (λ hb => ?_)
  ·have hbig : wI c = true := j6 hb
   kd_mark
   refine aW rfl Rk.fz hat ?_
   kd_mark
   refine aW rfl Rk.fz hat ?_
   kd_mark
   refine ⟨_, _, fs ++ [left % tp], _, by rw [oM]; rfl, by rw [nh, hf]; rfl, b0, b1, ?_⟩
   rw [e, List.append_assoc, hbig]
   rfl
  ·have hbig : wI c = false := i8 hb
   kd_mark
   generalize hm : (mixed * mixed + 69621 * mixed + 7919 * (0 + (i : Int)) + 11) % 2147483647 = m2
   have b20 : 0 <= m2 := by rw [<- hm]; exact nW _ (by decide)
   have b21 : m2 < 2147483647 := by rw [<- hm]; exact lb _ (by decide)
   kd_mark
   refine aW rfl Rk.fz hat ?_
   kd_mark
   refine ⟨_, _, fs ++ [m2 * 16807 % 2147483629 % tp], _, by rw [oM]; rfl, by rw [nh, hf]; rfl, b20, b21, ?_⟩
   rw [e, List.append_assoc, hbig, <- hm, Int.zero_add]
   rfl
 ·rintro τ ⟨left, mixed, fs, u, rfl, hf, b0, b1, e⟩
  kd_mark
  have : bz c tops = fs := by
   rw [e, dU, cI]
   rw [show ((tops.length : Nat) : Int).toNat = tops.length by lia, List.drop_length]
   simp [oP]
  rw [this] at φ
  exact AX (by kt_join) φ
def dg (ds : List Int) (k : Int) : Int := ds.getD k.toNat 0
variable {ds : List Int}
theorem atD (h0 : 0 <= k) (h1 : k < (ds.length : Int)) : eP (ds.map Tr.int) k = some (.int (dg ds k)) := by
 have hk : k.toNat < ds.length := by lia
 have e : k = ((k.toNat : Nat) : Int) := by lia
 have h : (ds.map Tr.int)[k.toNat]? = some (.int (dg ds k)) := by
  rw [jb, dM hk]
  unfold dg
  rw [nO, dM hk]
  rfl
 have := ce h
 rw [<- e] at this
 exact this
structure cw (ds tops : List Int) : Prop where
 l : ds.length = tops.length
 b : ∀ (i : Nat) (d t : Int), ds[i]? = some d -> tops[i]? = some t -> 0 <= d /\ d < t
variable {tops : List Int}
theorem cw.at (h : cw ds tops) {k t : Int} (h0 : 0 <= k) (e : tops[k.toNat]? = some t) : 0 <= dg ds k /\ dg ds k < t := by
 have hl : k.toNat < ds.length := by rw [h.l]; exact (j3.mp e).1
 have := h.b k.toNat ds[k.toNat] t (dM hl) e
 unfold dg
 rw [nO, dM hl]
 exact this
theorem cw.drop (h : cw ds tops) (n : Nat) : cw (ds.drop n) (tops.drop n) := ⟨by rw [List.length_drop, List.length_drop, h.l], λ i d t h1 h2 => h.b (n + i) d t (by rw [List.getElem?_drop] at h1; exact h1) (by rw [List.getElem?_drop] at h2; exact h2)⟩
theorem cw.take (h : cw ds tops) (n : Nat) : cw (ds.take n) (tops.take n) := ⟨by rw [sV, sV, h.l], λ i d t h1 h2 => by
 rw [List.getElem?_take] at h1 h2
 split at h1
 ·rw [i9 (by assumption)] at h2; exact h.b i d t h1 h2
 ·cases h1⟩
theorem lM (h : ∀ t ∈ tops, 0 < t /\ t <= 1000000000) : cw (bz c tops) tops := ⟨uk _ _ _ _ _, λ i d t h1 h2 => qK _ tops _ _ _ i d t h1 h2 (h t (j4 h2)).1⟩
theorem eJ (ds : List Int) (a b : Nat) : jj (ds.map Tr.int) (some (a : Int)) (some (b : Int)) = ((ds.drop a).take (b - a)).map Tr.int := by
 unfold jj
 rw [HT.sIx_nat, HT.sIx_nat, cI, List.map_take, List.map_drop]
 by_cases h : a <= ds.length
 ·rw [Nat.min_eq_left h]
  by_cases g : b <= ds.length
  ·rw [Nat.min_eq_left g]
  ·rw [Nat.min_eq_right (by lia), List.take_of_length_le (by rw [List.length_drop, cI]; lia), List.take_of_length_le (by rw [List.length_drop, cI]; lia)]
 ·rw [List.drop_of_length_le (by rw [cI]; lia), List.drop_of_length_le (by rw [cI]; lia), List.take_nil, List.take_nil]
noncomputable def xO {α : Type} (k : Int) (a b : α) : α := if k = 0 then a else b
noncomputable def tW {α : Type} (k : Int) (a b c : α) : α := if k = 0 then a else if k = 1 then b else c
noncomputable def uA {α : Type} (k : Int) (a b c d : α) : α := if k = 0 then a else if k = 1 then b else if k = 2 then c else d
theorem JC {a b : α} (h0 : 0 <= k) (h1 : k < 2) : eP [a, b] k = some (xO k a b) := by
 rcases (show k = 0 ∨ k = 1 by lia) with z | z <;> subst z <;> rfl
theorem Ib {a b c : α} (h0 : 0 <= k) (h1 : k < 3) : eP [a, b, c] k = some (tW k a b c) := by
 rcases (show k = 0 ∨ k = 1 ∨ k = 2 by lia) with z | z | z <;> subst z <;> rfl
theorem yH {a b c d : α} (h0 : 0 <= k) (h1 : k < 4) : eP [a, b, c, d] k = some (uA k a b c d) := by
 rcases (show k = 0 ∨ k = 1 ∨ k = 2 ∨ k = 3 by lia) with z | z | z | z <;> subst z <;> rfl
theorem Dh : xO k (Tr.int a) (.int b) = .int (xO k a b) := by unfold xO; split <;> rfl
theorem qt : tW k (Tr.int a) (.int b) (.int c) = .int (tW k a b c) := by unfold tW; split; rfl; split <;> rfl
theorem hI : uA k (Tr.int a) (.int b) (.int c) (.int d) = .int (uA k a b c d) := by unfold uA; split; rfl; split; rfl; split <;> rfl
theorem Jm {b : Bool} {x y : α} : eP [x, y] (if b = true then (1 : Int) else 0) = some (if b = true then y else x) := by cases b <;> rfl
theorem ifI {b : Bool} : (if b = true then Tr.int x else Tr.int y) = .int (if b = true then x else y) := by cases b <;> rfl
def GD : SpT := λ _ as Φ _ => ∃ a b : Int, as = [.fz (.int a), .fz (.int b)] /\ 0 <= b /\ Φ (.fz (.int ((Int.gcd a b : Nat) : Int)))
theorem hX (T : cO K mg t) : FO P w base T.q_zag 1 (bE K GD) := by
 refine (rl (P := P) (w := w) (base := base) T).imp λ vs H Q E h => ?_
 obtain ⟨B, as, Φ, Ψ, rfl, rfl, bk, la, ⟨a, b, rfl, hb, φ⟩, q, _⟩ := h
 obtain ⟨v, w', rfl, iv, iw⟩ := Hg la
 cases iv
 cases iw
 exact ⟨a, b, rfl, hb, q _ _ _ (.fz (.int _)) (Up.refl bk.i) .int φ⟩
def li (t b : Int) : Int := t / ((Int.gcd t b : Nat) : Int)
def jt (t b : Int) : Int := b / ((Int.gcd t b : Nat) : Int)
theorem cC {t : Int} (hb : 0 < b) : (0 : Int) < ((Int.gcd t b : Nat) : Int) := Int.natCast_pos.mpr (Int.gcd_pos_of_ne_zero_right _ (by lia))
theorem qV {t : Int} (hb : 0 < b) : ((Int.gcd t b : Nat) : Int) <= b := Int.le_of_dvd hb (Int.gcd_dvd_right ..)
theorem qG (t b : Int) : li t b * ((Int.gcd t b : Nat) : Int) = t := Int.ediv_mul_cancel (Int.gcd_dvd_left ..)
theorem oA (t b : Int) : jt t b * ((Int.gcd t b : Nat) : Int) = b := Int.ediv_mul_cancel (Int.gcd_dvd_right ..)
theorem eY {t : Int} (hb : 0 < b) : 0 < jt t b := by
 have h1 := cC (t := t) hb
 have h2 := oA t b
 rcases Int.lt_trichotomy (jt t b) 0 with z | z | z
 ·have := Int.mul_neg_of_neg_of_pos z h1; lia
 ·rw [z, Int.zero_mul] at h2; lia
 ·exact z
theorem IJ {t : Int} (hb : 0 < b) : My.qv (li t b) (jt t b) = My.qv t b := by
 have h1 := cC (t := t) hb
 refine My.qv_eq (by have := eY (t := t) hb; lia) (by lia) ?_
 have e1 := qG t b
 have e2 := oA t b
 generalize ((Int.gcd t b : Nat) : Int) = g at *
 calc li t b * b = li t b * (jt t b * g) := by rw [e2]
  _ = li t b * g * jt t b := by rw [Int.mul_comm (jt t b) g, uh]
  _ = t * jt t b := by rw [e1]
theorem nM (h : My.Bd n y) (hx : x.natAbs <= y.natAbs) : My.Bd n x := My.Bd.of_natAbs hx h
theorem vU {t : Int} (hb : 0 < b) (h : My.Bd n t) : My.Bd n (li t b) := nM h (by
 have e := qG t b
 have h1 := cC (t := t) hb
 have : t.natAbs = (li t b).natAbs * (Int.gcd t b) := by rw [<- e, Int.natAbs_mul]; rw [e]; rfl
 rw [this]
 exact Nat.le_mul_of_pos_right _ (by lia))
theorem jq {t : Int} (hb : 0 < b) (h : My.Bd n b) : My.Bd n (jt t b) := nM h (by
 have e := oA t b
 have h1 := cC (t := t) hb
 have : b.natAbs = (jt t b).natAbs * (Int.gcd t b) := by rw [<- e, Int.natAbs_mul]; rw [e]; rfl
 rw [this]
 exact Nat.le_mul_of_pos_right _ (by lia))
def zi : SpT := λ _ as Φ _ => ∃ t b : Int, as = [.fz (.int t), .fz (.int b)] /\ 0 < b /\ cr b /\ Φ (.fz (N2 (li t b) (jt t b)))
theorem da (T : cO K mg t) : FO P w base T.q_zac 2 (bE K zi) := by
 open_k with T.q_zac.F.ok ud
 obtain ⟨tp, b, rfl, hb, mb, φ⟩ := hS
 have h1 := cC (t := tp) hb
 have h2 : cr ((Int.gcd tp b : Nat) : Int) := nM mb (by have := qV (t := tp) hb; lia)
 refine ⟨_, (aJ (ag (i := 2) ud.nd rfl (Or.inl rfl) (bI (hX T) hr T.q_zag (af (pv 0) (af (pv 1) aA))))
 (aR (ai (aL (af (ac cn (pv 0) (pv 2)) (af (ac cn (pv 1) (pv 2)) aA)))))), go _ _ (cB (τ := [.fz _, .fz _, .no]) rfl ?_)⟩
 kln_le
 kd_mark
 intro _ _
 refine ⟨tp, b, rfl, by lia, ?_⟩
 sl_open
theorem mZ {t : Int} (hb : 0 < b) (mb : cr b) (q : Φ (.fz (N2 (li t b) (jt t b)))) : zi B [.fz (.int t), .fz (.int b)] Φ Ψ := ⟨t, b, rfl, hb, mb, q⟩
noncomputable def iE (ds : List Int) : Int := uA (dg ds 1) (dg ds 2 % 10) (dg ds 2 % 1000) (dg ds 2) (dg ds 2 * 1000000000 + dg ds 3)
def fL (ds : List Int) : Int := if decide (60 <= dg ds 4) = true then 1 else dg ds 4 + 1
noncomputable def Ct (ds : List Int) : Int := (1 - 2 * dg ds 0) * iE ds / ((Int.gcd (iE ds) (fL ds) : Nat) : Int)
def yK (ds : List Int) : Int := fL ds / ((Int.gcd (iE ds) (fL ds) : Nat) : Int)
def tops5 : List Int := [2, 4, 1000000000, 1000000000, 90]
def HL : SpT := λ _ as Φ _ => ∃ ds : List Int, as = [.fz (.lst (ds.map Tr.int))] /\ cw ds tops5 /\ Φ (.fz (N2 (Ct ds) (yK ds)))
theorem p9 : (10 : Int) ^ (9 : Int).toNat = 1000000000 := by decide
local macro_rules | `(tactic| obj_index2) => `(tactic| ((with_reducible apply aW); (focus rfl); (focus (dl_open)); (focus (exact atD (by first | decide | lia) (by first | decide | lia)))))
theorem jN (T : cO K mg t) : FO P w base T.q_zax 2 (bE K HL) := by
 open_k with T.q_zax.F.ok eA
 obtain ⟨ds, rfl, tp, φ⟩ := hS
 have hl : ds.length = 5 := tp.l
 have b0 := tp.at (k := 0) (by decide) rfl
 have b1 := tp.at (k := 1) (by decide) rfl
 have b2 := tp.at (k := 2) (by decide) rfl
 have b3 := tp.at (k := 3) (by decide) rfl
 have b4 := tp.at (k := 4) (by decide) rfl
 refine ⟨_, (aJ (ag (i := 1) eA.nd rfl (Or.inl rfl) (aV jY (aT (af (ac aQ (ak (pv 0)) aD) (af (ac aQ (ak (pv 0)) aD) (af (ak (pv 0)) (af (ac aC (ac dQ (ak (pv 0)) (ac dE aD aD)) (ak (pv 0))) aA))))) (ak (pv 0)) (λ _ _ => rfl)))
 (aJ (ag (i := 2) eA.nd rfl (Or.inl rfl) (aV jY (aT (af (ac aC (ak (pv 0)) aD) (af aD aA))) (gZ pN rfl T.z_int qT (af (fN AO (ak (pv 0)) aD (aw _)) aA)) (λ _ _ => rfl)))
 (aJ (ag (i := 3) eA.nd rfl (Or.inl rfl) (bI (hX T) hr T.q_zag (af (pv 1) (af (pv 2) aA))))
 (aR (ai (aL (af (ac cn (ac dQ (ac bw aD (ac dQ aD (ak (pv 0)))) (pv 1)) (pv 3)) (af (ac cn (pv 2) (pv 3)) aA)))))))), go _ _ (cB (τ := [.fz _, .no, .no, .no]) rfl ?_)⟩
 kln_le
 kd_mark
 rw [p9]
 refine aW rfl Rk.fz (yH b1.1 b1.2) ?_
 rw [hI]
 kd_mark
 refine aW rfl Rk.fz Jm ?_
 rw [ifI]
 have hb : 0 < fL ds := by unfold fL; split <;> lia
 have mb : cr (fL ds) := by
  have : fL ds <= 100 := by unfold fL; split <;> lia
  exact (dF (by lia) (by lia)).mono (by decide)
 have h1 := cC (t := iE ds) hb
 have h2 : cr ((Int.gcd (iE ds) (fL ds) : Nat) : Int) := nM mb (by have := qV (t := iE ds) hb; lia)
 change GA B _ (.fz (.int (fL ds))) [_, .fz (.int (iE ds)), _, _] _
 have ht : -1152921504606846976 < iE ds /\ iE ds < 1152921504606846976 := by
  unfold iE uA
  split
  ·lia
  split
  ·lia
  split <;> lia
 have hm : 0 < yK ds /\ True := ⟨eY hb, trivial⟩
 unfold Ct yK at *
 generalize fL ds = bt at *
 generalize iE ds = tpv at *
 kd_mark
 intro _ _
 refine ⟨_, _, rfl, by lia, ?_⟩
 sl_open
theorem Hr (tp : cw ds tops5) : 0 < yK ds /\ My.Bd 60 (Ct ds) /\ My.Bd 60 (yK ds) := by
 have b0 := tp.at (k := 0) (by decide) rfl
 have b1 := tp.at (k := 1) (by decide) rfl
 have b2 := tp.at (k := 2) (by decide) rfl
 have b3 := tp.at (k := 3) (by decide) rfl
 have b4 := tp.at (k := 4) (by decide) rfl
 have hb : 0 < fL ds := by unfold fL; split <;> lia
 have hb2 : fL ds <= 100 := by unfold fL; split <;> lia
 have ht : -1152921504606846976 < iE ds /\ iE ds < 1152921504606846976 := by
  unfold iE uA
  split
  ·lia
  split
  ·lia
  split <;> lia
 refine ⟨eY hb, ?_, jq hb (dF (by lia) (by lia))⟩
 unfold Ct
 refine My.Bd.div (cC hb) ?_
 rcases (show dg ds 0 = 0 ∨ dg ds 0 = 1 by lia) with z | z <;> rw [z]
 ·exact dF (by lia) (by lia)
 ·exact dF (by lia) (by lia)
noncomputable abbrev NP := Int × Int
def nT (x : NP) : Tr := N2 x.1 x.2
structure NB (n : Nat) (x : NP) : Prop where
 pos : 0 < x.2
 ba : My.Bd n x.1
 bb : My.Bd n x.2
noncomputable def cD (x y : NP) : NP := (li (x.1 * y.2 + y.1 * x.2) (x.2 * y.2), jt (x.1 * y.2 + y.1 * x.2) (x.2 * y.2))
def hV (t b : Int) : NP := (li t b, jt t b)
def qp (x : NP) : Rat := My.qv x.1 x.2
variable {m : Nat}
theorem gh {x y : NP} (h : NB n x) (g : NB m y) : NB (n + m + 1) (cD x y) := by
 have hp : 0 < x.2 * y.2 := r8 h.pos g.pos
 refine ⟨eY hp, vU hp ?_, jq hp ?_⟩
 ·exact ((h.ba.mul g.bb).add ((g.ba.mul h.bb).mono (by lia))).mono (by lia)
 ·exact (h.bb.mul g.bb).mono (by lia)
theorem At {x y : NP} (h : NB n x) (g : NB m y) : qp (cD x y) = qp x + qp y := by
 have hp : 0 < x.2 * y.2 := r8 h.pos g.pos
 unfold qp cD
 rw [IJ hp, My.qv_plus (by have := h.pos; lia) (by have := g.pos; lia)]
theorem jh {t : Int} (hb : 0 < b) (h1 : My.Bd n t) (h2 : My.Bd n b) : NB n (hV t b) := ⟨eY hb, vU hb h1, jq hb h2⟩
def wN : SpT := λ _ as Φ _ => ∃ (x y : NP) (n m : Nat), as = [.fz (nT x), .fz (nT y)] /\ NB n x /\ NB m y /\ n + m + 1 <= 3900 /\ Φ (.fz (nT (cD x y)))
theorem dZ (T : cO K mg t) : FO P w base T.q_zad 3 (bE K wN) := by
 open_k with T.q_zad.F.ok yl
 obtain ⟨⟨a, b⟩, ⟨c, d⟩, n, m, rfl, h1, h2, hn, φ⟩ := hS
 have p1 : 0 < b := h1.pos
 have p2 : 0 < d := h2.pos
 have ba : My.Bd n a := h1.ba
 have bb : My.Bd n b := h1.bb
 have bc : My.Bd m c := h2.ba
 have bd : My.Bd m d := h2.bb
 have ma : cr a := ba.mono (by lia)
 have mb : cr b := bb.mono (by lia)
 have mc : cr c := bc.mono (by lia)
 have md : cr d := bd.mono (by lia)
 unfold nT N2 at *
 refine ⟨_, (aR (ai (bI (da T) hr T.q_zac (af (ac aC (ac aq (aa (pv 0)) (aa (pv 1))) (ac aq (aa (pv 1)) (aa (pv 0)))) (af (ac aq (aa (pv 0)) (aa (pv 1))) aA))))), go _ _ (cB (τ := [.fz _, .fz _]) rfl ?_)⟩
 kln_le
 kd_mark
 intro _ _
 refine mZ (r8 p1 p2) ((bb.mul bd).mono (by lia)) ?_
 sl_open
theorem oD {x y : NP} (h1 : NB n x) (h2 : NB m y) (hn : n + m + 1 <= 3900) (q : Φ (.fz (nT (cD x y)))) : wN B [.fz (nT x), .fz (nT y)] Φ Ψ := ⟨x, y, n, m, rfl, h1, h2, hn, q⟩
def nB (x : NP) : NP := (-x.1, x.2)
theorem xf {x : NP} (h : NB n x) : NB n (nB x) := ⟨h.pos, h.ba.neg, h.bb⟩
def jQ (lo hi : NP) (f g : Int) : NP := cD lo (hV ((cD hi (nB lo)).1 * f) ((cD hi (nB lo)).2 * g))
def xn : SpT := λ _ as Φ _ => ∃ (lo hi : NP) (f g : Int) (n k : Nat), as = [.fz (nT lo), .fz (nT hi), .fz (.int f), .fz (.int g)] /\ NB n lo /\ NB n hi /\ 0 < g /\ My.Bd k f /\ My.Bd k g /\ 3 * n + k + 2 <= 3900 /\ Φ (.fz (nT (jQ lo hi f g)))
theorem iH (T : cO K mg t) : FO P w base T.q_zan 4 (bE K xn) := by
 open_k with T.q_zan.F.ok pD
 obtain ⟨lo, hi, f, g, n, k, rfl, h1, h2, hg, hf, hgb, hn, φ⟩ := hS
 have s := gh h2 (xf h1)
 have m1 : cr (cD hi (nB lo)).1 := s.ba.mono (by lia)
 have m2 : cr (cD hi (nB lo)).2 := s.bb.mono (by lia)
 have mf : cr f := hf.mono (by lia)
 have mg2 : cr g := hgb.mono (by lia)
 have l : NB (n + n + 1 + k) (hV ((cD hi (nB lo)).1 * f) ((cD hi (nB lo)).2 * g)) := jh (r8 s.pos hg) (s.ba.mul hf) (s.bb.mul hgb)
 refine ⟨_, (aJ (ag (i := 4) pD.nd rfl (Or.inl rfl) (bI (dZ T) hr T.q_zad (af (pv 1) (af (aL (af (dH cv (aa (pv 0))) (af (aa (pv 0)) aA))) aA))))
 (aR (ai (bI (dZ T) hr T.q_zad (af (pv 0) (af (bI (da T) hr T.q_zac (af (ac aq (aa (pv 4)) (pv 2)) (af (ac aq (aa (pv 4)) (pv 3)) aA))) aA)))))), go _ _ (cB (τ := [.fz _, .fz _, .fz _, .fz _, .no]) rfl ?_)⟩
 kln_le
 kd_mark
 intro _ _
 refine oD (y := nB lo) h2 (xf h1) (by lia) ?_
 kd_mark
 intro _ _
 refine mZ (r8 s.pos hg) ((s.bb.mul hgb).mono (by lia)) ?_
 kd_mark
 intro _ _
 refine oD (y := hV _ _) h1 l (by lia) ?_
 sl_open
def zc : Str := "abcdefghijklmnopqrstuvwxyz"
def yo (i : Int) : Str := ⟨#[zc.cps.toList.getD i.toNat 0]⟩
theorem Lj {i : Int} (h0 : 0 <= i) (h1 : i < 26) : eP ("abcdefghijklmnopqrstuvwxyz" : Str).cps.toList i = some (zc.cps.toList.getD i.toNat 0) := by
 have hl : zc.cps.toList.length = 26 := by decide
 have e : i = ((i.toNat : Nat) : Int) := by lia
 have hk : i.toNat < zc.cps.toList.length := by lia
 have h : zc.cps.toList[i.toNat]? = some (zc.cps.toList.getD i.toNat 0) := by
  rw [nO, dM hk]; rfl
 have := ce h
 rw [<- e] at this
 exact this
theorem eC (i : Int) : (yo i).length = 1 := rfl
variable {τ : TSt}
theorem og {Φ : TK} {i : Int} (h0 : 0 <= i) (h1 : i < 26) (q : Φ (.fz (.str (yo i))) τ) : RO B rIxS (.fz (.str "abcdefghijklmnopqrstuvwxyz")) (.fz (.int i)) τ Φ := Ha (by decide) (Lj h0 h1) q
theorem qU {Φ : TK} {u : Str} (h : z.length <= n) (g : u.length <= m) (hl : n + m <= 10000) (q : Φ (.fz (.str (z ++ u))) τ) : RO B rAddS (.fz (.str z)) (.fz (.str u)) τ Φ := EG (n9 (show z.length + u.length <= 10000 by lia) (by decide)) q
theorem wF {a b : Str} (h : a.length <= n) (g : b.length <= m) : (a ++ b).length <= n + m := by rw [Str.length_append]; lia
noncomputable def uc (ds : List Int) (k : Int) : Str := yo ((7 * k + dg ds 3) % 676 / 26) ++ yo ((7 * k + dg ds 3) % 676 % 26)
noncomputable def rV (ds : List Int) (k : Int) : Str := if decide (0 < (k + dg ds 7) % 3) = true then iX (yo (dg ds 8 % 26)) (dg ds 2) ++ uc ds k ++ iX (yo (dg ds 9 % 26)) (dg ds 6) else uc ds k
def fw (n : Nat) (ds : List Int) : List Str := (List.range n).map λ (i : Nat) => rV ds (0 + (i : Int))
noncomputable def tops26 : List Int := [4000, 2, 4, 1000000000, 1000000000, 90, 3, 1000000000, 60, 60, 900, 50, 1000, 1000, 900, 50, 1000, 1000, 900, 50, 1000, 1000, 900, 50, 1000, 1000]
def Bw : SpT := λ _ as Φ _ => ∃ (n : Int) (ds : List Int), as = [.fz (.int n), .fz (.lst (ds.map Tr.int))] /\ 0 <= n /\ n <= 100 /\ cw ds tops26 /\ Φ (.nw (.lst ((fw n.toNat ds).map Tr.str)))
theorem sJ (T : cO K mg t) : FO P w base T.q_zbl 1 (bE K Bw) := by
 open_k with T.q_zbl.F.ok cK
 obtain ⟨n, ds, rfl, n0, n1, tp, φ⟩ := hS
 have hl : ds.length = 26 := tp.l
 have b2 := tp.at (k := 2) (by decide) rfl
 have b6 := tp.at (k := 6) (by decide) rfl
 refine ⟨_, (aJ (ag (i := 2) cK.nd rfl (Or.inl rfl) aI)
 (aJ (ag (i := 3) cK.nd rfl (Or.inl rfl) (aT aA))
 (aJ (cm o4 rfl (fo rfl T.z_range (af (pv 0) aA)) (az (i := 4) cK.nd rfl (Or.inl rfl)) (aJ (ag (i := 5) cK.nd rfl (Or.inl rfl) (ac aQ (ac aC (ac aq aD (pv 4)) (ak (pv 1))) aD))
 (aJ (ag (i := 6) cK.nd rfl (Or.inl rfl) (ac qk (aV nH (pv 2) (ac cn (pv 5) aD) (λ _ _ => rfl)) (aV nH (pv 2) (ac aQ (pv 5) aD) (λ _ _ => rfl))))
 (aJ (aK (aj sQ (ac aQ (ac aC (pv 4) (ak (pv 1))) aD) aD (aw _)) (aR (ag (i := 6) cK.nd rfl (Or.inl rfl) (ac qk (ac qk (ac xu (aV nH (pv 2) (ac aQ (ak (pv 1)) aD) (λ _ _ => rfl)) (ak (pv 1))) (pv 6)) (ac xu (aV nH (pv 2) (ac aQ (ak (pv 1)) aD) (λ _ _ => rfl)) (ak (pv 1)))))) au)
 (aR (bU (dw ld o7 o8 bn (pv 3) (af (pv 6) aA))))))))
 (aR (ai (pv 3)))))), go _ _ (cB (τ := [.fz _, .fz _, .no, .no, .no, .no, .no]) rfl ?_)⟩
 kln_le
 kd_mark
 refine ⟨⟨by lia, by lia⟩, ?_⟩
 refine ⟨λ i τ => ∃ (u v x : Sl), τ = [.fz (.int n), .fz (.lst (ds.map Tr.int)), .fz (.str "abcdefghijklmnopqrstuvwxyz"), .own (.lst ((fw i ds).map Tr.str)), u, v, x], ⟨_, _, _, rfl⟩, ?_, ?_⟩
 ·rintro i tt τ hi ⟨u, v, x, rfl⟩
  obtain ⟨hin, rfl⟩ := ff hi
  kd_mark
  generalize hat : (7 * (0 + (i : Int)) + dg ds 3) % 676 = av
  have a0 : 0 <= av := by rw [<- hat]; exact nW _ (by decide)
  have a1 : av < 676 := by rw [<- hat]; exact lb _ (by decide)
  refine og (by lia) (by lia) ?_
  kd_mark
  refine og (by lia) (by lia) ?_
  kd_mark
  refine qU (Nat.le_of_eq (eC _)) (Nat.le_of_eq (eC _)) (by decide) ?_
  have pe : yo (av / 26) ++ yo (av % 26) = uc ds (0 + (i : Int)) := by unfold uc; rw [hat]
  rw [pe]
  have pl : (uc ds (0 + (i : Int))).length <= 2 := wF (Nat.le_of_eq (eC _)) (Nat.le_of_eq (eC _))
  kby_none
  refine gQ (λ τ' => ∃ u : Sl, τ' = [.fz (.int n), .fz (.lst (ds.map Tr.int)), .fz (.str "abcdefghijklmnopqrstuvwxyz"), .own (.lst ((fw i ds).map Tr.str)), .fz (.int (0 + (i : Int))), u, .fz (.str (rV ds (0 + (i : Int))))]) ?_ ?_
  ·kd_mark
   refine aY (λ hc => ?_) (λ hc => ?_)
   ·kd_mark
    refine og (nW _ (by decide)) (lb _ (by decide)) ?_
    kd_mark
    refine wU (by lia) (by lia) (by rw [eC]; decide) ?_
    kd_mark
    have r1 : (iX (yo (dg ds 8 % 26)) (dg ds 2)).length <= 10 := by rw [jz, eC]; lia
    have r2 : (iX (yo (dg ds 9 % 26)) (dg ds 6)).length <= 10 := by rw [jz, eC]; lia
    refine qU r1 pl (by decide) ?_
    kd_mark
    refine og (nW _ (by decide)) (lb _ (by decide)) ?_
    kd_mark
    refine wU (by lia) (by lia) (by rw [eC]; decide) ?_
    kd_mark
    refine qU (wF r1 pl) r2 (by decide) ?_
    kd_mark
    refine ⟨.fz (.int av), ?_⟩
    unfold rV
    rw [j6 hc, i9 rfl]
   ·kd_mark
    refine ⟨.fz (.int av), ?_⟩
    unfold rV
    rw [i8 hc, gS gV]
  ·rintro τ' ⟨u', rfl⟩
   have wl : ((fw i ds).map Tr.str).length <= 10000 := by unfold fw; rw [cI, cI, List.length_range]; lia
   kd_mark
   refine ⟨.fz (.int (0 + (i : Int))), u', .fz (.str (rV ds (0 + (i : Int)))), ?_⟩
   unfold fw
   rw [List.range_succ, oM, oM]
   rfl
 ·rintro τ ⟨u, v, x, rfl⟩
  kd_mark
  rw [dU]
  exact AX (by kt_join) φ
def e4 (ds : List Int) (k : Nat) : List Int := (ds.drop (10 + 4 * k)).take 4
noncomputable def zg (ds : List Int) (k : Nat) (lo : NP) : NP := cD lo (hV (1 + dg (e4 ds k) 2) (1 + dg ds 8))
noncomputable def LG (ds : List Int) (k : Nat) (lo : NP) : NP := cD (zg ds k lo) (hV (1 + dg (e4 ds k) 3) (1 + dg ds 9))
noncomputable def gI (ds : List Int) : Nat -> NP -> Int -> Nat -> List Pi6
 | _, _, _, 0 => []
 | k, lo, p, n + 1 => (lo.1, lo.2, (zg ds k lo).1, (zg ds k lo).2, p, p + 1 + dg (e4 ds k) 0) :: gI ds (k + 1) (LG ds k lo) (p + 2 + dg (e4 ds k) 0 + dg (e4 ds k) 1) n
def LZ (ds : List Int) : NP := (Ct ds, yK ds)
def Cz (ds : List Int) : NP := LZ ((ds.drop 1).take 5)
def nN (ds : List Int) : List Pi6 := gI ds 0 (Cz ds) 0 (2 + dg ds 6).toNat
theorem mj (tp : cw ds tops26) {k : Nat} (hk : k < 4) : cw (e4 ds k) [900, 50, 1000, 1000] := by
 have := (tp.drop (10 + 4 * k)).take 4
 rcases (show k = 0 ∨ k = 1 ∨ k = 2 ∨ k = 3 by lia) with z | z | z | z <;> subst z <;> exact this
theorem qb (tp : cw ds tops26) : cw ((ds.drop 1).take 5) tops5 /\ NB 60 (Cz ds) := by
 have h : cw ((ds.drop 1).take 5) tops5 := (tp.drop 1).take 5
 obtain ⟨a, b, c⟩ := Hr h
 exact ⟨h, a, b, c⟩
theorem uw (ha : 0 <= a) (ha' : a <= 1000000000) (hb : 0 < b) (hb' : b <= 1000000) : NB 31 (hV a b) := jh hb (by unfold My.Bd; lia) (by unfold My.Bd; lia)
theorem fK (ha : 0 <= a) (ha' : a <= 1000) (hb : 0 < b) (hb' : b <= 1000) : NB 11 (hV a b) := jh hb (by unfold My.Bd; lia) (by unfold My.Bd; lia)
theorem wV {x y : NP} (h : NB n x) (g : NB m y) (hy : 0 < y.1) : x.1 * (cD x y).2 < (cD x y).1 * x.2 := by
 have e := At h g
 have p := gh h g
 refine (My.lt_qv h.pos p.pos).mp ?_
 show qp x < qp (cD x y)
 rw [e]
 have : 0 < qp y := by
  have h0 : qp (0, 1) < qp y := (My.lt_qv (by decide) g.pos).mpr (by show (0 : Int) * y.2 < y.1 * 1; lia)
  have z : qp (0, 1) = 0 := by show My.qv 0 1 = 0; rw [My.qv_int]; rfl
  rw [z] at h0
  exact h0
 grind
theorem rX (ha : 0 < a) (hb : 0 < b) : 0 < (hV a b).1 := by
 show 0 < li a b
 have h1 := cC (t := a) hb
 have h2 := qG a b
 rcases Int.lt_trichotomy (li a b) 0 with z | z | z
 ·have := Int.mul_neg_of_neg_of_pos z h1; lia
 ·rw [z, Int.zero_mul] at h2; lia
 ·exact z
def mS (x : Pi6) : Prop := cR x.1 x.2.1 /\ cR x.2.2.1 x.2.2.2.1 /\ x.1 * x.2.2.2.1 < x.2.2.1 * x.2.1 /\ 0 <= x.2.2.2.2.1 /\ x.2.2.2.2.1 < x.2.2.2.2.2 /\ x.2.2.2.2.2 <= 4000
theorem zE (tp : cw ds tops26) {k n : Nat} (hk : k < 4) {lo : NP} (h : NB n lo) : NB (n + 12) (zg ds k lo) /\ lo.1 * (zg ds k lo).2 < (zg ds k lo).1 * lo.2 /\ NB (n + 24) (LG ds k lo) := by
 have t4 := mj tp hk
 have c2 := t4.at (k := 2) (by decide) rfl
 have c3 := t4.at (k := 3) (by decide) rfl
 have b8 := tp.at (k := 8) (by decide) rfl
 have b9 := tp.at (k := 9) (by decide) rfl
 have s1 := fK (a := 1 + dg (e4 ds k) 2) (b := 1 + dg ds 8) (by lia) (by lia) (by lia) (by lia)
 have s2 := fK (a := 1 + dg (e4 ds k) 3) (b := 1 + dg ds 9) (by lia) (by lia) (by lia) (by lia)
 have h1 : NB (n + 12) (zg ds k lo) := gh h s1
 have h2 := gh h1 s2
 exact ⟨h1, wV h s1 (rX (by lia) (by lia)), h2.pos, h2.ba.mono (by lia), h2.bb.mono (by lia)⟩
theorem An (tp : cw ds tops26) : ∀ (n k : Nat) (lo : NP) (p : Int), k + n <= 4 -> NB (60 + 24 * k) lo -> 0 <= p -> p <= 951 * k -> ∀ x ∈ gI ds k lo p n, mS x
 | 0, _, _, _, _, _, _, _, x, h => absurd h mV
 | n + 1, k, lo, p, hk, h, p0, p1, x, hx => by
  have t4 := mj tp (show k < 4 by lia)
  have c0 := t4.at (k := 0) (by decide) rfl
  have c1 := t4.at (k := 1) (by decide) rfl
  obtain ⟨h1, h2, h3⟩ := zE tp (show k < 4 by lia) h
  rcases j8.mp hx with e | e
  ·subst e
   exact ⟨⟨h.pos, h.ba.mono (by lia), h.bb.mono (by lia)⟩, ⟨h1.pos, h1.ba.mono (by lia), h1.bb.mono (by lia)⟩, h2, p0, by show p < p + 1 + dg (e4 ds k) 0; lia, by show p + 1 + dg (e4 ds k) 0 <= 4000; lia⟩
  ·exact An tp n (k + 1) _ _ (by lia) (by have := h3; exact ⟨this.pos, this.ba.mono (by lia), this.bb.mono (by lia)⟩) (by lia) (by lia) x e
theorem xD (ds : List Int) : ∀ (n k : Nat) (lo : NP) (p : Int), (gI ds k lo p n).length = n
 | 0, _, _, _ => rfl
 | n + 1, k, lo, p => by unfold gI; rw [o5, xD ds n]
noncomputable def ug (ps : List Pi6) : Int := match ps.getLast? with
 | some x => x.2.2.2.2.2
 | none => 0
def ID (ds : List Int) : Sc := .brk (nN ds) (ug (nN ds))
def yF : SpT := λ _ as Φ _ => ∃ ds : List Int, as = [.fz (.lst (ds.map Tr.int))] /\ cw ds tops26 /\ Φ (.fz (ID ds).tr)
theorem rh (T : cO K mg t) : FO P w base T.q_zbm 4 (bE K yF) := by
 open_k with T.q_zbm.F.ok bT
 obtain ⟨ds, rfl, tp, φ⟩ := hS
 have hl : ds.length = 26 := tp.l
 have b6 := tp.at (k := 6) (by decide) rfl
 have b8 := tp.at (k := 8) (by decide) rfl
 have b9 := tp.at (k := 9) (by decide) rfl
 obtain ⟨l1, l2⟩ := qb tp
 refine ⟨_, (aJ (ag (i := 1) bT.nd rfl (Or.inl rfl) (aT aA))
 (aJ (ag (i := 2) bT.nd rfl (Or.inl rfl) (bI (jN T) hr T.q_zax (af (cS et (pv 0) (bS aD) (bS aD)) aA)))
 (aJ (ag (i := 3) bT.nd rfl (Or.inl rfl) aD)
 (aJ (cm o4 rfl (fo rfl T.z_range (af (ac aC aD (ak (pv 0))) aA)) (az (i := 4) bT.nd rfl (Or.inl rfl)) (aJ (ag (i := 5) bT.nd rfl (Or.inl rfl) (cS et (pv 0) (bS (ac aC aD (ac aq aD (pv 4)))) (bS (ac aC aD (ac aq aD (pv 4))))))
 (aJ (ag (i := 6) bT.nd rfl (Or.inl rfl) (bI (dZ T) hr T.q_zad (af (pv 2) (af (bI (da T) hr T.q_zac (af (ac aC aD (ak (pv 5))) (af (ac aC aD (ak (pv 0))) aA))) aA))))
 (aJ (bU (dw ld o7 o8 bn (pv 1) (af (aL (af (pv 2) (af (pv 6) (af (pv 3) (af (ac aC (ac aC (pv 3) aD) (ak (pv 5))) aA))))) aA)))
 (aJ (ag (i := 2) bT.nd rfl (Or.inl rfl) (bI (dZ T) hr T.q_zad (af (pv 6) (af (bI (da T) hr T.q_zac (af (ac aC aD (ak (pv 5))) (af (ac aC aD (ak (pv 0))) aA))) aA))))
 (aR (ag (i := 3) bT.nd rfl (Or.inl rfl) (ac aC (ac aC (ac aC (pv 3) aD) (ak (pv 5))) (ak (pv 5))))))))))
 (aR (ai (aL (af aI (af (pv 1) (af (aa (aV jY (pv 1) (dH cv aD) (λ _ _ => rfl))) aA)))))))))), go _ _ (cB (τ := [.fz _, .no, .no, .no, .no, .no, .no]) rfl ?_)⟩
 kln_le
 kd_mark
 intro _ _
 rw [show jj (ds.map Tr.int) (some 1) (some 6) = ((ds.drop 1).take 5).map Tr.int from eJ ds 1 6]
 refine ⟨_, rfl, l1, ?_⟩
 kd_mark
 refine ⟨⟨by lia, by lia⟩, ?_⟩
 refine ⟨λ i τ => ∃ (lo : NP) (p : Int) (ps : List Pi6) (u v x : Sl), τ = [.fz (.lst (ds.map Tr.int)), .own (.lst (ps.map iZ)), .fz (nT lo), .fz (.int p), u, v, x] /\ i <= (2 + dg ds 6).toNat /\ NB (60 + 24 * i) lo /\ 0 <= p /\ p <= 951 * i /\ ps.length = i /\ nN ds = ps ++ gI ds i lo p ((2 + dg ds 6).toNat - i), ⟨Cz ds, 0, [], _, _, _, rfl, by lia, l2, by lia, by lia, rfl, rfl⟩, ?_, ?_⟩
 ·rintro i tt τ hi ⟨lo, p, ps, u, v, x, rfl, hil, nb, p0, p1, pl, e⟩
  obtain ⟨hin, rfl⟩ := ff hi
  have hk : i < 4 := by lia
  have t4 := mj tp hk
  have e4l : (e4 ds i).length = 4 := t4.l
  have c0 := t4.at (k := 0) (by decide) rfl
  have c1 := t4.at (k := 1) (by decide) rfl
  have c2 := t4.at (k := 2) (by decide) rfl
  have c3 := t4.at (k := 3) (by decide) rfl
  obtain ⟨h1, h2, h3⟩ := zE tp hk nb
  have s1 := fK (a := 1 + dg (e4 ds i) 2) (b := 1 + dg ds 8) (by lia) (by lia) (by lia) (by lia)
  have s2 := fK (a := 1 + dg (e4 ds i) 3) (b := 1 + dg ds 9) (by lia) (by lia) (by lia) (by lia)
  have mb8 : cr (1 + dg ds 8) := nu (by lia) (by lia)
  have mb9 : cr (1 + dg ds 9) := nu (by lia) (by lia)
  have cutE : jj (ds.map Tr.int) (some (10 + 4 * (0 + (i : Int)))) (some (14 + 4 * (0 + (i : Int)))) = (e4 ds i).map Tr.int := by
   have := eJ ds (10 + 4 * i) (14 + 4 * i)
   rw [show ((10 + 4 * i : Nat) : Int) = 10 + 4 * (0 + (i : Int)) by lia, show ((14 + 4 * i : Nat) : Int) = 14 + 4 * (0 + (i : Int)) by lia, show 14 + 4 * i - (10 + 4 * i) = 4 by lia] at this
   exact this
  have fl : (ps.map iZ).length <= 10000 := by rw [cI]; lia
  kd_mark
  rw [cutE]
  kd_mark
  intro _ _
  refine mZ (by lia) mb8 ?_
  kd_mark
  intro _ _
  refine oD (y := hV _ _) nb s1 (by lia) ?_
  kd_mark
  intro _ _
  refine mZ (by lia) mb9 ?_
  kd_mark
  intro _ _
  refine oD (x := zg ds i lo) (y := hV _ _) h1 s2 (by lia) ?_
  kd_mark
  refine ⟨LG ds i lo, p + 2 + dg (e4 ds i) 0 + dg (e4 ds i) 1, ps ++ [(lo.1, lo.2, (zg ds i lo).1, (zg ds i lo).2, p, p + 1 + dg (e4 ds i) 0)], .fz (.int (0 + (i : Int))), .own (.lst ((e4 ds i).map Tr.int)), .fz (nT (zg ds i lo)), ?_, by lia, ⟨h3.pos, h3.ba.mono (by lia), h3.bb.mono (by lia)⟩, ?_, ?_, by rw [nh, pl]; rfl, ?_⟩
  ·rw [oM]; rfl
  ·lia
  ·lia
  ·rw [e, show (2 + dg ds 6).toNat - i = ((2 + dg ds 6).toNat - (i + 1)) + 1 by lia, List.append_assoc]
   rfl
 ·rintro τ ⟨lo, p, ps, u, v, x, rfl, hil, nb, p0, p1, pl, e⟩
  rw [dU] at pl e
  rw [Nat.sub_self] at e
  have e : nN ds = ps := by rw [e]; simp [gI]
  subst e
  have ne : nN ds ≠ [] := λ z => by
   have := congrArg List.length z
   rw [pl] at this
   simp at this
   lia
  obtain ⟨y, y1, y2, y3⟩ := kW ne
  have hat : eP ((nN ds).map iZ) (-1) = some (iZ y) := atI_last (by rw [cI, jb, y2]; rfl)
  kd_mark
  refine aW rfl (by dl_open) hat ?_
  kd_mark
  have e5 : ug (nN ds) = y.2.2.2.2.2 := by unfold ug; rw [y1]
  unfold ID at φ
  rw [e5] at φ
  exact φ
noncomputable def du (ds : List Int) : Int := 1 + dg ds 7 % tW (dg ds 6) 10 1000 1000000000
def Fk (ds : List Int) : NP := cD (Cz ds) (hV (du ds) (1 + dg ds 8))
noncomputable def iC (ds : List Int) : Int := if decide (dg ds 2 = 3) = true then dg ds 3 % 401 - 200 else dg ds 3 % 81 - 40
noncomputable def qN (ds : List Int) : Int := 1 + dg ds 7 % tW (dg ds 6) 6 40 400
def lK (ds : List Int) : Int := 364877 + dg ds 3 % 2921939
noncomputable def En (ds : List Int) : Int := 1 + dg ds 7 % tW (dg ds 6) 4 12 60
noncomputable def dA (k : Int) (ds : List Int) : Sc :=
 if k = 0 then .str (Cz ds).1 (Cz ds).2 (Fk ds).1 (Fk ds).2 (1 + dg ds 0)
 else if k = 1 then .tur (xO (dg ds 1) 2 10) (iC ds) (qN ds) (1 + dg ds 0)
 else if k = 2 then ID ds
 else if k = 3 then .day (lK ds) (lK ds + 1 + dg ds 4 % (3286816 - lK ds)) (1 + dg ds 0)
 else .ord (fw (En ds).toNat ds) (1 + dg ds 0)
def zH : SpT := λ _ as Φ _ => ∃ (k : Int) (ds : List Int), as = [.fz (.int k), .fz (.lst (ds.map Tr.int))] /\ 0 <= k /\ k < 5 /\ cw ds tops26 /\ Φ (.fz (dA k ds).tr)
theorem mY {m : Int} (ha : 0 < a /\ a <= m) (hb : 0 < b /\ b <= m) (hc : 0 < c /\ c <= m) : 0 < tW k a b c /\ tW k a b c <= m := by unfold tW; split; exact ha; split; exact hb; exact hc
theorem lB (T : cO K mg t) : FO P w base T.q_zay 5 (bE K zH) := by
 open_k with T.q_zay.F.ok cG
 obtain ⟨k, ds, rfl, k0, k1, tp, φ⟩ := hS
 have hl : ds.length = 26 := tp.l
 have b0 := tp.at (k := 0) (by decide) rfl
 have b1 := tp.at (k := 1) (by decide) rfl
 have b2 := tp.at (k := 2) (by decide) rfl
 have b3 := tp.at (k := 3) (by decide) rfl
 have b4 := tp.at (k := 4) (by decide) rfl
 have b6 := tp.at (k := 6) (by decide) rfl
 have b7 := tp.at (k := 7) (by decide) rfl
 have b8 := tp.at (k := 8) (by decide) rfl
 obtain ⟨l1, l2⟩ := qb tp
 refine ⟨_, (aJ (ag (i := 2) cG.nd rfl (Or.inl rfl) (ac aC aD (ak (pv 1))))
 (aJ (aK (aj bB (pv 0) aD (aw _)) (aJ (ag (i := 3) cG.nd rfl (Or.inl rfl) (bI (jN T) hr T.q_zax (af (cS et (pv 1) (bS aD) (bS aD)) aA)))
 (aJ (ag (i := 4) cG.nd rfl (Or.inl rfl) (ac aC aD (ac aQ (ak (pv 1)) (aV jY (aT (af aD (af aD (af (ac dE aD aD) aA)))) (ak (pv 1)) (λ _ _ => rfl)))))
 (aR (ai (aL (af aI (af (pv 3) (af (bI (dZ T) hr T.q_zad (af (pv 3) (af (bI (da T) hr T.q_zac (af (pv 4) (af (ac aC aD (ak (pv 1))) aA))) aA))) (af (pv 2) aA))))))))) au)
 (aJ (aK (aj bB (pv 0) aD (aw _)) (aJ (ag (i := 5) cG.nd rfl (Or.inl rfl) (ac bw (ac aQ (ak (pv 1)) aD) aD))
 (aJ (aK (aj bB (ak (pv 1)) aD (aw _)) (aR (ag (i := 5) cG.nd rfl (Or.inl rfl) (ac bw (ac aQ (ak (pv 1)) aD) aD))) au)
 (aR (ai (aL (af aI (af (aV jY (aT (af aD (af aD aA))) (ak (pv 1)) (λ _ _ => rfl)) (af (pv 5) (af (ac aC aD (ac aQ (ak (pv 1)) (aV jY (aT (af aD (af aD (af aD aA)))) (ak (pv 1)) (λ _ _ => rfl)))) (af (pv 2) aA)))))))))) au)
 (aJ (aK (aj bB (pv 0) aD (aw _)) (aR (ai (bI (rh T) hr T.q_zbm (af (pv 1) aA)))) au)
 (aJ (aK (aj bB (pv 0) aD (aw _)) (aJ (ag (i := 3) cG.nd rfl (Or.inl rfl) (ac aC aD (ac aQ (ak (pv 1)) aD)))
 (aR (ai (aL (af aI (af (pv 3) (af (ac aC (ac aC (pv 3) aD) (ac aQ (ak (pv 1)) (ac bw aD (pv 3)))) (af (pv 2) aA)))))))) au)
 (aR (ai (aL (af aI (af (bI (sJ T) hr T.q_zbl (af (ac aC aD (ac aQ (ak (pv 1)) (aV jY (aT (af aD (af aD (af aD aA)))) (ak (pv 1)) (λ _ _ => rfl)))) (af (pv 1) aA))) (af (pv 2) aA))))))))))), go _ _ (cB (τ := [.fz _, .fz _, .no, .no, .no, .no]) rfl ?_)⟩
 kln_le
 unfold dA at φ
 kd_mark
 refine aY (λ z => ?_) (λ z => ?_)
 ·rw [i9 z] at φ
  kd_mark
  intro _ _
  rw [show jj (ds.map Tr.int) (some 1) (some 6) = ((ds.drop 1).take 5).map Tr.int from eJ ds 1 6]
  refine ⟨_, rfl, l1, ?_⟩
  kd_mark
  rw [p9]
  refine aW rfl Rk.fz (Ib b6.1 b6.2) ?_
  rw [qt]
  have pb := mY (k := dg ds 6) (a := 10) (b := 1000) (c := 1000000000) (m := 1000000000) (by decide) (by decide) (by decide)
  have sp0 : 0 < du ds := by have := nW (dg ds 7) (show tW (dg ds 6) 10 1000 1000000000 ≠ 0 by lia); unfold du; lia
  have sp1 : du ds <= 1000000000 := by have := lb (dg ds 7) pb.1; unfold du; lia
  have nb := uw (a := du ds) (b := 1 + dg ds 8) (by lia) (by lia) (by lia) (by lia)
  kd_mark
  intro _ _
  refine mZ (by lia) (nu (by lia) (by lia)) ?_
  kd_mark
  intro _ _
  refine oD (x := Cz ds) (y := hV (du ds) (1 + dg ds 8)) l2 nb (by decide) ?_
  sl_open
 rw [gS z] at φ
 kd_mark
 refine aY (λ z1 => ?_) (λ z1 => ?_)
 ·rw [i9 z1] at φ
  kby_none
  refine gQ (λ τ' => ∃ u v : Sl, τ' = [.fz (.int k), .fz (.lst (ds.map Tr.int)), .fz (.int (1 + dg ds 0)), u, v, .fz (.int (iC ds))]) ?_ ?_
  ·kd_mark
   refine aY (λ hc => ?_) (λ hc => ?_)
   ·kd_mark
    refine ⟨.no, .no, ?_⟩
    unfold iC
    rw [j6 hc, i9 rfl]
   ·kd_mark
    refine ⟨.no, .no, ?_⟩
    unfold iC
    rw [i8 hc, gS gV]
  ·rintro τ' ⟨u, v, rfl⟩
   kd_mark
   refine aW rfl Rk.fz (JC b1.1 b1.2) ?_
   rw [Dh]
   kd_mark
   refine aW rfl Rk.fz (Ib b6.1 b6.2) ?_
   rw [qt]
   have pb := mY (k := dg ds 6) (a := 6) (b := 40) (c := 400) (m := 400) (by decide) (by decide) (by decide)
   sl_open
 rw [gS z1] at φ
 kd_mark
 refine aY (λ z2 => ?_) (λ z2 => ?_)
 ·rw [i9 z2] at φ
  kd_mark
  intro _ _
  refine ⟨ds, rfl, tp, ?_⟩
  sl_open
 rw [gS z2] at φ
 kd_mark
 refine aY (λ z3 => ?_) (λ z3 => ?_)
 ·rw [i9 z3] at φ
  have d0 : 0 <= dg ds 3 % 2921939 := nW _ (by decide)
  have d1 : dg ds 3 % 2921939 < 2921939 := lb _ (by decide)
  sl_open
 rw [gS z3] at φ
 kd_mark
 refine aW rfl Rk.fz (Ib b6.1 b6.2) ?_
 rw [qt]
 have pb := mY (k := dg ds 6) (a := 4) (b := 12) (c := 60) (m := 60) (by decide) (by decide) (by decide)
 have o0 := nW (dg ds 7) (show tW (dg ds 6) 4 12 60 ≠ 0 by lia)
 have o1 := lb (dg ds 7) pb.1
 kd_mark
 intro _ _
 refine ⟨_, ds, rfl, by lia, by lia, tp, ?_⟩
 sl_open
theorem sI (h0 : 0 <= k) (h1 : k < 5) (tp : cw ds tops26) : jL (dA k ds) := by
 have b0 := tp.at (k := 0) (by decide) rfl
 have b1 := tp.at (k := 1) (by decide) rfl
 have b2 := tp.at (k := 2) (by decide) rfl
 have b3 := tp.at (k := 3) (by decide) rfl
 have b4 := tp.at (k := 4) (by decide) rfl
 have b6 := tp.at (k := 6) (by decide) rfl
 have b7 := tp.at (k := 7) (by decide) rfl
 have b8 := tp.at (k := 8) (by decide) rfl
 obtain ⟨l1, l2⟩ := qb tp
 unfold dA
 split
 ·have pb := mY (k := dg ds 6) (a := 10) (b := 1000) (c := 1000000000) (m := 1000000000) (by decide) (by decide) (by decide)
  have sp0 : 0 < du ds := by have := nW (dg ds 7) (show tW (dg ds 6) 10 1000 1000000000 ≠ 0 by lia); unfold du; lia
  have sp1 : du ds <= 1000000000 := by have := lb (dg ds 7) pb.1; unfold du; lia
  have nb := uw (a := du ds) (b := 1 + dg ds 8) (by lia) (by lia) (by lia) (by lia)
  have hh := gh l2 nb
  exact ⟨⟨l2.pos, l2.ba.mono (by decide), l2.bb.mono (by decide)⟩, ⟨hh.pos, hh.ba.mono (by decide), hh.bb.mono (by decide)⟩, wV l2 nb (rX sp0 (by lia)), by lia, by lia⟩
 split
 ·have pb := mY (k := dg ds 6) (a := 6) (b := 40) (c := 400) (m := 400) (by decide) (by decide) (by decide)
  have o0 := nW (dg ds 7) (show tW (dg ds 6) 6 40 400 ≠ 0 by lia)
  have o1 := lb (dg ds 7) pb.1
  have hp : xO (dg ds 1) (2 : Int) 10 = 2 ∨ xO (dg ds 1) (2 : Int) 10 = 10 := by unfold xO; split; exact .inl rfl; exact .inr rfl
  have hlw : -200 <= iC ds /\ iC ds <= 200 := by unfold iC; split <;> lia
  refine ⟨by lia, by lia, hlw.1, hlw.2, ?_, ?_, by lia, by lia⟩
  ·unfold qN; lia
  ·unfold qN; lia
 split
 ·have hlen := xD ds (2 + dg ds 6).toNat 0 (Cz ds) 0
  have hok := An tp (2 + dg ds 6).toNat 0 (Cz ds) 0 (by lia) l2 (by lia) (by lia)
  have ne : nN ds ≠ [] := λ z => by
   have := congrArg List.length z
   unfold nN at this
   rw [hlen] at this
   simp at this
   lia
  obtain ⟨y, y1, y2, y3⟩ := kW ne
  have hy := hok y y3
  refine ⟨ne, by show (nN ds).length <= 100; unfold nN; rw [hlen]; lia, hok, ?_, ?_⟩
  ·have := hy.2.2.2; unfold ug; rw [y1]; show 1 <= y.2.2.2.2.2; lia
  ·have := hy.2.2.2; unfold ug; rw [y1]; show y.2.2.2.2.2 <= 4000; lia
 split
 ·have d0 : 0 <= dg ds 3 % 2921939 := nW _ (by decide)
  have d1 : dg ds 3 % 2921939 < 2921939 := lb _ (by decide)
  have d2 := nW (dg ds 4) (show 3286816 - lK ds ≠ 0 by unfold lK; lia)
  have d3 := lb (dg ds 4) (show 0 < 3286816 - lK ds by unfold lK; lia)
  have d4 : lK ds = 364877 + dg ds 3 % 2921939 := rfl
  exact ⟨by lia, by lia, by lia, by lia, by lia⟩
 ·have pb := mY (k := dg ds 6) (a := 4) (b := 12) (c := 60) (m := 60) (by decide) (by decide) (by decide)
  have o0 := nW (dg ds 7) (show tW (dg ds 6) 4 12 60 ≠ 0 by lia)
  have o1 := lb (dg ds 7) pb.1
  have hw : (fw (En ds).toNat ds).length = (En ds).toNat := by unfold fw; rw [cI, List.length_range]
  have ho : En ds = 1 + dg ds 7 % tW (dg ds 6) 4 12 60 := rfl
  refine ⟨by rw [hw]; lia, by rw [hw]; lia, by lia, by lia⟩
def bC : List Int := [5, 5, 1999999, 1999999] ++ tops26 ++ tops26
noncomputable def scL : Sc -> List Tr
 | .str a b c d len => [.str "straight", N2 a b, N2 c d, .int len]
 | .tur p low many len => [.str "turns", .int p, .int low, .int many, .int len]
 | .brk ps len => [.str "broken", .lst (ps.map iZ), .int len]
 | .day f l len => [.str "days", .int f, .int l, .int len]
 | .ord ws len => [.str "order", .lst (ws.map Tr.str), .int len]
def Sc.len : Sc -> Int
 | .str _ _ _ _ len => len
 | .tur _ _ _ len => len
 | .brk _ len => len
 | .day _ _ len => len
 | .ord _ len => len
theorem qu (s : Sc) : s.tr = .tup (scL s) := by cases s <;> rfl
theorem uu (s : Sc) : eP (scL s) (-1) = some (.int s.len) := by cases s <;> rfl
noncomputable def lc (c : Int) : Fd :=
 ⟨dA (dg (bz c bC) 0) (((bz c bC).drop 4).take 26), dA (dg (bz c bC) 1) (((bz c bC).drop 30).take 26), dg (bz c bC) 2 - 999999, dg (bz c bC) 3 - 999999,
  (dA (dg (bz c bC) 0) (((bz c bC).drop 4).take 26)).len, (dA (dg (bz c bC) 1) (((bz c bC).drop 30).take 26)).len⟩
theorem sU : ∀ t ∈ bC, 0 < t /\ t <= 1000000000 := by decide
theorem io (c : Int) : cw (bz c bC) bC /\ cw (((bz c bC).drop 4).take 26) tops26 /\ cw (((bz c bC).drop 30).take 26) tops26 := by
 have h := lM (c := c) sU
 exact ⟨h, (h.drop 4).take 26, (h.drop 30).take 26⟩
theorem Cr (c : Int) : jM (lc c) := by
 obtain ⟨h, h1, h2⟩ := io c
 have b0 := h.at (k := 0) (by decide) rfl
 have b1 := h.at (k := 1) (by decide) rfl
 exact ⟨sI b0.1 b0.2 h1, sI b1.1 b1.2 h2⟩
def BI : SpT := λ _ as Φ _ => ∃ c : Int, as = [.fz (.int c)] /\ Φ (.fz (lc c).tr)
theorem lF (T : cO K mg t) : FO P w base T.q_za3 6 (bE K BI) := by
 open_k with T.q_za3.F.ok dR
 obtain ⟨c, rfl, φ⟩ := hS
 obtain ⟨h, h1, h2⟩ := io c
 have hl : (bz c bC).length = 56 := h.l
 have b0 := h.at (k := 0) (by decide) rfl
 have b1 := h.at (k := 1) (by decide) rfl
 refine ⟨_, (aJ (ag (i := 1) dR.nd rfl (Or.inl rfl) (ac gT (aT (af aD (af aD (af aD (af (ac dE aD aD) (af (ac dE aD aD) (af aD (af aD (af (ac dE aD aD) (af aD (af aD aA))))))))))) (ac zX (aT (qL [900, 50, 1000, 1000] rfl)) aD)))
 (aJ (ag (i := 2) dR.nd rfl (Or.inl rfl) (bI (lI T) hr T.q_zaw (af (pv 0) (af (ac gT (ac gT (aT (qL [5, 5, 1999999, 1999999] rfl)) (pv 1)) (pv 1)) aA))))
 (aJ (ag (i := 3) dR.nd rfl (Or.inl rfl) (bI (lB T) hr T.q_zay (af (ak (pv 2)) (af (cS et (pv 2) (bS aD) (bS aD)) aA))))
 (aJ (ag (i := 4) dR.nd rfl (Or.inl rfl) (bI (lB T) hr T.q_zay (af (ak (pv 2)) (af (cS et (pv 2) (bS aD) (bS aD)) aA))))
 (aR (ai (aL (af (pv 3) (af (pv 4) (af (ac bw (ak (pv 2)) aD) (af (ac bw (ak (pv 2)) aD) (af (aV CD (pv 3) (dH cv aD) (λ _ _ => rfl)) (af (aV CD (pv 4) (dH cv aD) (λ _ _ => rfl)) aA))))))))))))), go _ _ (cB (τ := [.fz _, .no, .no, .no, .no]) rfl ?_)⟩
 kln_le
 kd_mark
 refine gU rfl Rk.fz Rk.fz (by decide) ?_
 change GA B _ (.nw (.lst (tops26.map Tr.int))) _ _
 kd_mark
 refine gU rfl Rk.fz (by dl_open) (by decide) ?_
 kd_mark
 refine gU rfl Rk.fz (by dl_open) (by decide) ?_
 kd_mark
 intro _ _
 change oB _ [.fz (.int c), .fz (.lst (bC.map Tr.int))] _ _
 refine ⟨c, bC, rfl, by decide, sU, ?_⟩
 kd_mark
 intro _ _
 rw [show jj ((bz c bC).map Tr.int) (some 4) (some 30) = (((bz c bC).drop 4).take 26).map Tr.int from eJ _ 4 30]
 refine ⟨_, _, rfl, b0.1, b0.2, h1, ?_⟩
 kd_mark
 intro _ _
 rw [show jj ((bz c bC).map Tr.int) (some 30) (some 56) = (((bz c bC).drop 30).take 26).map Tr.int from eJ _ 30 56]
 refine ⟨_, _, rfl, b1.1, b1.2, h2, ?_⟩
 kd_mark
 rw [qu (dA (dg (bz c bC) 0) _)]
 refine uU rfl (by dl_open) (uu _) ?_
 kd_mark
 rw [qu (dA (dg (bz c bC) 1) _)]
 refine uU rfl (by dl_open) (uu _) ?_
 kd_mark
 unfold lc Fd.tr at φ
 rw [qu, qu] at φ
 exact φ
theorem Ew {τ' : TSt} {c : TT} {te : TE} {k : Nat} {nx bk ct : TSt -> Prop} {rt : Kd -> Prop} {b : Bool} {i1 i2 : Int} (hc : TV B c τ λ b' τ1 => b' = b /\ τ1 = τ) (h1 : b = true -> EV B te τ λ x τ1 => x = .fz (.int i1) /\ τ1 = τ) (hg : Gt τ k (.fz (.int i2))) (st : jJ τ k (.fz (.int (if b = true then i1 else i2))) τ') (q : nx τ') :
  SV B (Cm c (qg te (bH k)) tNext) τ ⟨nx, rt, bk, ct⟩ := by
 refine Fc λ Z F H Q r c2 => hc Z F H Q r λ b' F' H' τ1 f r' h => c2 b' F' H' τ1 f r' ?_
 obtain ⟨rfl, rfl⟩ := h
 cases b' with
 | true =>
  rw [i9 rfl] at st ⊢
  refine EX λ Z F H Q r c2 => h1 rfl Z F H Q r λ v F' H' kd τ2 f r' ok n h => c2 v F' H' kd τ2 f r' ok n ?_
  obtain ⟨rfl, rfl⟩ := h
  exact Lg st q
 | false =>
  rw [gS gV] at st ⊢
  refine qd ?_
  have e1 := st.eq
  have e2 : τ1.set k (.fz (.int i2)) = τ1 := by
   apply List.ext_getElem?
   intro j
   rw [List.getElem?_set]
   by_cases e : k = j
   ·subst e
    rw [i9 rfl, i9 (j3.mp hg.eq).1]; exact hg.eq.symm
   ·rw [gS e]
  rw [<- e1, e2] at q
  exact q
local macro_rules | `(tactic| items_lens) => `(tactic| ((apply Ew); (focus ((kd_mark); (exact ⟨rfl, rfl⟩))); (focus ((intro hb); (kd_mark); (exact ⟨rfl, rfl⟩))); (focus (kt_join)); (focus (acc_open))))
def wD : SpT := λ _ as Φ _ => ∃ p k : Int, as = [.fz (.int p), .fz (.int k)] /\ 2 <= p /\ p <= 10 /\ -900 <= k /\ k <= 900 /\ Φ (.fz (.int (p ^ k.toNat)))
theorem eH (T : cO K mg t) : FO P w base T.q_zah 1 (bE K wD) := by
 open_k with T.q_zah.F.ok fI
 obtain ⟨p, k, rfl, p2, p10, k0, k1, φ⟩ := hS
 have mp : cr p := nu (by lia) (by lia)
 refine ⟨_, (aJ (ag (i := 2) fI.nd rfl (Or.inl rfl) aD)
 (aJ (cm o4 rfl (fo rfl T.z_range (af (pv 1) aA)) (az (i := 3) fI.nd rfl (Or.inl rfl)) (aR (ag (i := 2) fI.nd rfl (Or.inl rfl) (ac aq (pv 2) (pv 0)))))
 (aR (ai (pv 2))))), go _ _ (cB (τ := [.fz _, .fz _, .no, .no]) rfl ?_)⟩
 kln_le
 kd_mark
 refine ⟨⟨by lia, by lia⟩, ?_⟩
 refine ⟨λ i τ => ∃ u : Sl, τ = [.fz (.int p), .fz (.int k), .fz (.int (p ^ i)), u], ⟨.no, by rw [o9]⟩, ?_, ?_⟩
 ·rintro i tt τ hi ⟨u, rfl⟩
  obtain ⟨hin, rfl⟩ := ff hi
  have mq : cr (p ^ i) := (cT p2 p10 i).2.mono (by lia)
  kd_mark
  exact ⟨_, by rw [t6]⟩
 ·rintro τ ⟨u, rfl⟩
  rw [dU]
  sl_open
theorem qh (p2 : 2 <= p) (p10 : p <= 10) (k0 : -900 <= k) (k1 : k <= 900) (q : Φ (.fz (.int (p ^ k.toNat)))) : wD B [.fz (.int p), .fz (.int k)] Φ Ψ := ⟨p, k, rfl, p2, p10, k0, k1, q⟩
def kR : List Int := [14, 1000000000, 4, 1000000000, 60]
def eW (p : Int) : Int := if p = 2 then 130 else 40
noncomputable def lX (p low many : Int) (e : List Int) : Int := if dg e 0 = 2 then low - 1 else if dg e 0 = 1 then low + many else low + dg e 3 % many
def iQ (a c : Int) : Int := if -c > (if c < a then c else a) then -c else (if c < a then c else a)
noncomputable def kF (p low many : Int) (e : List Int) (f g : Int) : NP :=
 if dg e 0 = 3 then hV (-f) g else hV ((g + (p - 1) * f) * p ^ (iQ (lX p low many e) (eW p)).toNat) (g * p ^ (-(iQ (lX p low many e) (eW p))).toNat)
def AK : SpT := λ _ as Φ _ => ∃ (p low many len : Int) (e : List Int) (f g : Int), as = [.fz (Sc.tur p low many len).tr, .fz (.lst (e.map Tr.int)), .fz (.int f), .fz (.int g)] /\ (p = 2 ∨ p = 10) /\ -200 <= low /\ low <= 200 /\ 1 <= many /\ many <= 400 /\ cw e kR /\ 0 <= f /\ f <= g /\ 0 < g /\ g <= 100000 /\ Φ (.fz (nT (kF p low many e f g)))
theorem wY (h : 0 <= c) : -c <= iQ a c /\ iQ a c <= c := by unfold iQ; split <;> split <;> constructor <;> lia
noncomputable def vk : List Stmt -> List Expr
 | [_, _, _, _, _, .Assign _ (.Subscript (.List es _) _ _) _, _, _, _] => es
 | _ => []
noncomputable def JI (es : List Expr) : List Stmt -> List Stmt
 | [a, b, c, d, e, .Assign x (.Subscript (.List _ p) i q) r, f, g, h] => [a, b, c, d, e, .Assign x (.Subscript (.List es p) i q) r, f, g, h]
 | b => b
theorem lT (T : cO K mg t) : FO P w base T.q_zbn 3 (bE K AK) := by
 open_k with T.q_zbn.F.ok bp
 obtain ⟨p, low, many, len, e, f, g, rfl, hp, w1, w2, m1, m2, tp, f0, f1, g0, g1, φ⟩ := hS
 have el : e.length = 5 := tp.l
 have b0 := tp.at (k := 0) (by decide) rfl
 have p2 : 2 <= p := by lia
 have p10 : p <= 10 := by lia
 unfold Sc.tr at *
 have hes : nC (vk (bF bJ)) = some [0, 0, 130, 0, 0, 0, 0, 0, 0, 0, 40] := rfl
 have eb : bF bJ = JI (vk (bF bJ)) (bF bJ) := rfl
 rw [eb]
 generalize vk (bF bJ) = es at hes ⊢
 refine ⟨_, (aJ (ag (i := 4) bp.nd rfl (Or.inl rfl) (aa (pv 0)))
 (aJ (ag (i := 5) bp.nd rfl (Or.inl rfl) (ac aC (aa (pv 0)) (ac aQ (ak (pv 1)) (aa (pv 0)))))
 (aJ (aK (aj bB (ak (pv 1)) aD (aw _)) (aR (ag (i := 5) bp.nd rfl (Or.inl rfl) (ac aC (aa (pv 0)) (aa (pv 0))))) au)
 (aJ (aK (aj bB (ak (pv 1)) aD (aw _)) (aR (ag (i := 5) bp.nd rfl (Or.inl rfl) (ac bw (aa (pv 0)) aD))) au)
 (aJ (aK (aj bB (ak (pv 1)) aD (aw _)) (aR (ai (bI (da T) hr T.q_zac (af (dH cv (pv 2)) (af (pv 3) aA))))) au)
 (aJ (ag (i := 6) bp.nd rfl (Or.inl rfl) (aV jY (aT (qL [0, 0, 130, 0, 0, 0, 0, 0, 0, 0, 40] hes)) (pv 4) (λ _ _ => rfl)))
 (aJ (ag (i := 5) bp.nd rfl (Or.inl rfl) (aN (pL rfl) rfl T.z_max Ax (af (aN (oY rfl) rfl T.z_min zh (af (pv 5) (af (pv 6) aA))) (af (dH cv (pv 6)) aA))))
 (aJ (ag (i := 7) bp.nd rfl (Or.inl rfl) (ac aq (ac aC (pv 3) (ac aq (ac bw (pv 4) aD) (pv 2))) (bI (eH T) hr T.q_zah (af (pv 4) (af (pv 5) aA)))))
 (aR (ai (bI (da T) hr T.q_zac (af (pv 7) (af (ac aq (pv 3) (bI (eH T) hr T.q_zah (af (pv 4) (af (dH cv (pv 5)) aA)))) aA))))))))))))), go _ _ (cB (τ := [.fz _, .fz _, .fz _, .fz _, .no, .no, .no, .no]) rfl ?_)⟩
 kln_le
 kby_none
 items_lens
 kby_none
 items_lens
 have ha : (if decide (dg e 0 = 2) = true then low - 1 else if decide (dg e 0 = 1) = true then low + many else low + dg e 3 % many) = lX p low many e := by
  unfold lX
  by_cases z2 : dg e 0 = 2
  ·rw [j6 z2, i9 rfl, i9 z2]
  ·rw [i8 z2, gS gV, gS z2]
   by_cases z1 : dg e 0 = 1
   ·rw [j6 z1, i9 rfl, i9 z1]
   ·rw [i8 z1, gS gV, gS z1]
 rw [ha]
 unfold kF at φ
 have mg1 : cr g := nu (by lia) (by lia)
 kd_mark
 refine aY (λ z3 => ?_) (λ z3 => ?_)
 ·rw [i9 z3] at φ
  kd_mark
  intro _ _
  refine mZ g0 mg1 ?_
  sl_open
 ·rw [gS z3] at φ
  have hcap : eP (([0, 0, 130, 0, 0, 0, 0, 0, 0, 0, 40] : List Int).map Tr.int) p = some (.int (eW p)) := by rcases hp with rfl | rfl <;> rfl
  have cb := wY (a := lX p low many e) (c := eW p) (by unfold eW; split <;> lia)
  have cc : eW p <= 130 := by unfold eW; split <;> lia
  kd_mark
  refine aW rfl Rk.fz hcap ?_
  kd_mark
  generalize hcl : iQ (lX p low many e) (eW p) = cl at *
  have ecl : (if -eW p > (if eW p < lX p low many e then eW p else lX p low many e) then -eW p else (if eW p < lX p low many e then eW p else lX p low many e)) = cl := hcl
  rw [ecl]
  have q1 := cT p2 p10 cl.toNat
  have q2 := cT p2 p10 (-cl).toNat
  have mq1 : cr (p ^ cl.toNat) := q1.2.mono (by lia)
  have mq2 : cr (p ^ (-cl).toNat) := q2.2.mono (by lia)
  have mtop : cr (g + (p - 1) * f) := by
   have h1 : (p - 1) * f <= 9 * 100000 := Int.le_trans (tM (show p - 1 <= 9 by lia) f0) (by lia)
   have h2 : 0 <= (p - 1) * f := Int.mul_nonneg (by lia) f0
   exact nu (by lia) (by lia)
  intro _ _
  refine qh (k := cl) p2 p10 (by lia) (by lia) ?_
  kd_mark
  intro _ _
  refine qh (k := -cl) p2 p10 (by lia) (by lia) ?_
  kd_mark
  intro _ _
  refine mZ (r8 g0 q2.1) (((dF (by lia) (by lia)).mul q2.2).mono (by lia)) ?_
  sl_open
variable {many : Int}
theorem BQ {low : Int} {e : List Int} {g : Int} (hp : p = 2 ∨ p = 10) (f0 : 0 <= f) (f1 : f <= g) (g0 : 0 < g) (g1 : g <= 100000) : cR (kF p low many e f g).1 (kF p low many e f g).2 := by
 have p2 : 2 <= p := by lia
 have p10 : p <= 10 := by lia
 unfold kF
 split
 ·have := jh (t := -f) (b := g) (n := 60) g0 (dF (by lia) (by lia)) (dF (by lia) (by lia))
  exact ⟨this.pos, this.ba.mono (by decide), this.bb.mono (by decide)⟩
 ·have cb := wY (a := lX p low many e) (c := eW p) (by unfold eW; split <;> lia)
  generalize iQ (lX p low many e) (eW p) = cl at *
  have hb : (p = 2 /\ -130 <= cl /\ cl <= 130) ∨ (p = 10 /\ -40 <= cl /\ cl <= 40) := by
   rcases hp with z | z
   ·have : eW p = 130 := by unfold eW; rw [i9 z]
    exact .inl ⟨z, by lia, by lia⟩
   ·have : eW p = 40 := by unfold eW; rw [gS (by lia)]
    exact .inr ⟨z, by lia, by lia⟩
  have pw : ∀ n : Nat, (p = 2 /\ n <= 130) ∨ (p = 10 /\ n <= 40) -> My.Bd 165 (p ^ n) := λ n hn => by
   rcases hn with ⟨rfl, hn⟩ | ⟨rfl, hn⟩
   ·unfold My.Bd
    rw [Int.natAbs_pow]
    exact mv (Nat.pow_lt_pow_right (by decide) (show n < 165 by lia)) (jo _)
   ·exact (cT (b := 10) (by decide) (by decide) n).2.mono (by lia)
  have g2 := cT p2 p10 (-cl).toNat
  have t : My.Bd 30 (g + (p - 1) * f) := by
   have h1 : (p - 1) * f <= 9 * 100000 := Int.le_trans (tM (show p - 1 <= 9 by lia) f0) (by lia)
   have h2 : 0 <= (p - 1) * f := Int.mul_nonneg (by lia) f0
   unfold My.Bd
   lia
  have gb : My.Bd 30 g := by unfold My.Bd; lia
  have := jh (t := (g + (p - 1) * f) * p ^ cl.toNat) (b := g * p ^ (-cl).toNat) (n := 195) (r8 g0 g2.1) ((t.mul (pw _ (by lia))).mono (by decide)) ((gb.mul (pw _ (by lia))).mono (by decide))
  exact ⟨this.pos, this.ba.mono (by decide), this.bb.mono (by decide)⟩
noncomputable def eh (s : Sc) (e : List Int) : Int × Int :=
 let g := uA (dg e 2) (1 + dg e 3 % 12) (2 * s.len) (1 + dg e 3 % 1000) 2
 (dg e 1 % (g + 1), g)
noncomputable def eX (s : Sc) (e : List Int) : Int := if decide (dg e 0 = 2) = true then -1 - (if decide (dg e 0 = 1) = true then (eh s e).2 + 1 + (eh s e).1 else (eh s e).1) else if decide (dg e 0 = 1) = true then (eh s e).2 + 1 + (eh s e).1 else (eh s e).1
noncomputable def ca (ps : List Pi6) (k : Int) : Pi6 := ps.getD k.toNat (0, 1, 0, 1, 0, 0)
def pJ (x : NP) : Ce := .num x.1 x.2
noncomputable def fZ (s : Sc) (e : List Int) : Ce :=
 if dg e 0 = 0 then .no else match s with
 | .ord ws _ => if dg e 0 = 1 then .wd (yo (dg e 1 % 26)) else .wd (ws.getD (dg e 1 % (ws.length : Int)).toNat "")
 | .tur p low many _ => pJ (kF p low many e (eh s e).1 (eh s e).2)
 | .day f l _ => .day (clampD (f + (l - f) * eX s e / (eh s e).2))
 | .str a b c d _ => pJ (jQ (a, b) (c, d) (eX s e) (eh s e).2)
 | .brk ps _ =>
  let at_ := dg e 4 % (ps.length : Int)
  if dg e 0 = 3 /\ 0 < at_ then pJ (jQ ((ca ps (at_ - 1)).2.2.1, (ca ps (at_ - 1)).2.2.2.1) ((ca ps at_).1, (ca ps at_).2.1) (eX s e) (eh s e).2)
  else pJ (jQ ((ca ps at_).1, (ca ps at_).2.1) ((ca ps at_).2.2.1, (ca ps at_).2.2.2.1) (eX s e) (eh s e).2)
where clampD (d : Int) : Int := if (if d < 3286816 then d else 3286816) > 364877 then (if d < 3286816 then d else 3286816) else 364877
theorem atS (h0 : 0 <= k) (h1 : k < (ws.length : Int)) : eP (ws.map Tr.str) k = some (.str (ws.getD k.toNat "")) := by
 have hk : k.toNat < ws.length := by lia
 have e : k = ((k.toNat : Nat) : Int) := by lia
 have h : (ws.map Tr.str)[k.toNat]? = some (.str (ws.getD k.toNat "")) := by
  rw [jb, dM hk, nO, dM hk]
  rfl
 have := ce h
 rw [<- e] at this
 exact this
theorem Ds {ps : List Pi6} (h0 : 0 <= k) (h1 : k < (ps.length : Int)) : eP (ps.map iZ) k = some (iZ (ca ps k)) /\ ca ps k ∈ ps := by
 have hk : k.toNat < ps.length := by lia
 have e : k = ((k.toNat : Nat) : Int) := by lia
 have hd : ca ps k = ps[k.toNat] := by unfold ca; rw [nO, dM hk]; rfl
 have h : (ps.map iZ)[k.toNat]? = some (iZ (ca ps k)) := by
  rw [jb, dM hk, hd]; rfl
 have := ce h
 rw [<- e] at this
 exact ⟨this, by rw [hd]; exact List.getElem_mem hk⟩
def Dx : SpT := λ _ as Φ _ => ∃ (s : Sc) (e : List Int), as = [.fz s.tr, .fz (.lst (e.map Tr.int))] /\ jL s /\ (∀ p low many len, s = .tur p low many len -> p = 2 ∨ p = 10) /\ cw e kR /\ Φ (.fz (fZ s e).tr)
theorem oj (T : cO K mg t) : FO P w base T.q_zaz 5 (bE K Dx) := by
 open_k with T.q_zaz.F.ok de
 obtain ⟨sc, e, rfl, hs, ht, tp, φ⟩ := hS
 have el : e.length = 5 := tp.l
 have b0 := tp.at (k := 0) (by decide) rfl
 have b1 := tp.at (k := 1) (by decide) rfl
 have b2 := tp.at (k := 2) (by decide) rfl
 have b3 := tp.at (k := 3) (by decide) rfl
 have b4 := tp.at (k := 4) (by decide) rfl
 have len4 : 1 <= sc.len /\ sc.len <= 4000 := by
  cases sc with
  | str a b c d len => exact ⟨hs.2.2.2.1, hs.2.2.2.2⟩
  | tur p low many len => exact ⟨hs.2.2.2.2.2.2.1, hs.2.2.2.2.2.2.2⟩
  | brk ps len => exact ⟨hs.2.2.2.1, hs.2.2.2.2⟩
  | day f l len => exact ⟨hs.2.2.2.1, hs.2.2.2.2⟩
  | ord ws len => exact ⟨hs.2.2.1, hs.2.2.2⟩
 have g0 : 0 < (eh sc e).2 /\ (eh sc e).2 <= 8000 := by
  show 0 < uA (dg e 2) (1 + dg e 3 % 12) (2 * sc.len) (1 + dg e 3 % 1000) 2 /\ uA (dg e 2) (1 + dg e 3 % 12) (2 * sc.len) (1 + dg e 3 % 1000) 2 <= 8000
  unfold uA
  split
  ·lia
  split
  ·lia
  split <;> lia
 have f0 : 0 <= (eh sc e).1 /\ (eh sc e).1 <= (eh sc e).2 := by
  have h1 := nW (dg e 1) (show (eh sc e).2 + 1 ≠ 0 by lia)
  have h2 := lb (dg e 1) (show 0 < (eh sc e).2 + 1 by lia)
  show 0 <= dg e 1 % ((eh sc e).2 + 1) /\ dg e 1 % ((eh sc e).2 + 1) <= (eh sc e).2
  lia
 have f2 : -20000 <= eX sc e /\ eX sc e <= 20000 := by unfold eX; split <;> split <;> lia
 refine ⟨_, (aJ (aK (aj bB (ak (pv 1)) aD (aw _)) (aR (ai kP)) au)
 (aJ (aK (aj bB (aa (pv 0)) aI (aw _)) (aJ (aK (aj bB (ak (pv 1)) aD (aw _)) (aR (ai (aV nH aI (ac aQ (ak (pv 1)) aD) (λ _ _ => rfl)))) au)
 (aR (ai (aV jY (aa (pv 0)) (ac aQ (ak (pv 1)) (aN bD rfl T.z_len PySem.boot_len (af (aa (pv 0)) aA))) (λ _ _ => rfl))))) au)
 (aJ (ag (i := 2) de.nd rfl (Or.inl rfl) (aV jY (aT (af (ac aC aD (ac aQ (ak (pv 1)) aD)) (af (ac aq aD (aV CD (pv 0) (dH cv aD) (λ _ _ => rfl))) (af (ac aC aD (ac aQ (ak (pv 1)) aD)) (af aD aA))))) (ak (pv 1)) (λ _ _ => rfl)))
 (aJ (ag (i := 3) de.nd rfl (Or.inl rfl) (ac aQ (ak (pv 1)) (ac aC (pv 2) aD)))
 (aJ (aK (aj bB (aa (pv 0)) aI (aw _)) (aR (ai (bI (lT T) hr T.q_zbn (af (pv 0) (af (pv 1) (af (pv 3) (af (pv 2) aA))))))) au)
 (aJ (aK (aj bB (ak (pv 1)) aD (aw _)) (aR (ag (i := 3) de.nd rfl (Or.inl rfl) (ac aC (ac aC (pv 2) aD) (pv 3)))) au)
 (aJ (aK (aj bB (ak (pv 1)) aD (aw _)) (aR (ag (i := 3) de.nd rfl (Or.inl rfl) (ac bw (dH cv aD) (pv 3)))) au)
 (aJ (aK (aj bB (aa (pv 0)) aI (aw _)) (aR (ai (aN (pL rfl) rfl T.z_max Ax (af aD (af (aN (oY rfl) rfl T.z_min zh (af aD (af (ac aC (aa (pv 0)) (ac cn (ac aq (ac bw (aa (pv 0)) (aa (pv 0))) (pv 3)) (pv 2))) aA))) aA))))) au)
 (aJ (aK (aj bB (aa (pv 0)) aI (aw _)) (aR (ai (bI (iH T) hr T.q_zan (af (aa (pv 0)) (af (aa (pv 0)) (af (pv 3) (af (pv 2) aA))))))) au)
 (aJ (ag (i := 4) de.nd rfl (Or.inl rfl) (aa (pv 0)))
 (aJ (ag (i := 5) de.nd rfl (Or.inl rfl) (ac aQ (ak (pv 1)) (aN bD rfl T.z_len PySem.boot_len (af (pv 4) aA))))
 (aJ (aK (PW.pt (kC (aj bB (ak (pv 1)) aD (aw _)) (gY (aj sQ (pv 5) aD (aw _))))) (aR (ai (bI (iH T) hr T.q_zan (af (aa (aV jY (pv 4) (ac bw (pv 5) aD) (λ _ _ => rfl))) (af (aa (aV jY (pv 4) (pv 5) (λ _ _ => rfl))) (af (pv 3) (af (pv 2) aA))))))) au)
 (aR (ai (bI (iH T) hr T.q_zan (af (aa (aV jY (pv 4) (pv 5) (λ _ _ => rfl))) (af (aa (aV jY (pv 4) (pv 5) (λ _ _ => rfl))) (af (pv 3) (af (pv 2) aA))))))))))))))))))), go _ _ (cB (τ := [.fz _, .fz _, .no, .no, .no, .no]) rfl ?_)⟩
 kln_le
 unfold fZ at φ
 kd_mark
 refine aY (λ z => ?_) (λ z => ?_)
 ·rw [i9 z] at φ
  sl_open
 rw [gS z] at φ
 cases sc with
 | ord ws len =>
  obtain ⟨k1, k2, k4, k5⟩ := hs
  kd_mark
  refine bR ?_
  kd_mark
  refine aY (λ z1 => ?_) (λ z1 => ?_)
  ·have φ : Φ (.fz (Ce.tr (if dg e 0 = 1 then .wd (yo (dg e 1 % 26)) else .wd (ws.getD (dg e 1 % (ws.length : Int)).toNat "")))) := φ
   rw [i9 z1] at φ
   kd_mark
   refine og (nW _ (by decide)) (lb _ (by decide)) ?_
   sl_open
  ·have φ : Φ (.fz (Ce.tr (if dg e 0 = 1 then .wd (yo (dg e 1 % 26)) else .wd (ws.getD (dg e 1 % (ws.length : Int)).toNat "")))) := φ
   rw [gS z1] at φ
   have hm : ((ws.map Tr.str).length : Int) = (ws.length : Int) := by rw [cI]
   have e0 := nW (dg e 1) (show (ws.length : Int) ≠ 0 by lia)
   have e1 := lb (dg e 1) (show 0 < (ws.length : Int) by lia)
   kd_mark
   rw [hm]
   kd_mark
   refine aW rfl Rk.fz (atS e0 e1) ?_
   sl_open
 | tur p low many len =>
  have hp := ht _ _ _ _ rfl
  obtain ⟨_, _, k3, k4, k5, k6, _⟩ := hs
  kd_mark
  refine aO (by decide) ?_
  kd_mark
  refine aW rfl Rk.fz (yH b2.1 b2.2) ?_
  rw [hI]
  change GA B _ (.fz (.int (eh (Sc.tur p low many len) e).2)) _ _
  kd_mark
  refine bR ?_
  kd_mark
  intro _ _
  refine ⟨p, low, many, len, e, _, _, rfl, hp, k3, k4, k5, k6, tp, f0.1, f0.2, g0.1, by lia, ?_⟩
  sl_open
 | day f l len =>
  obtain ⟨k1, k2, k3, k4, k5⟩ := hs
  have φ : Φ (.fz (.int (fZ.clampD (f + (l - f) * eX (Sc.day f l len) e / (eh (Sc.day f l len) e).2)))) := φ
  kd_mark
  refine aO (by decide) ?_
  kd_mark
  refine aW rfl Rk.fz (yH b2.1 b2.2) ?_
  rw [hI]
  change GA B _ (.fz (.int (eh (Sc.day f l len) e).2)) _ _
  kd_mark
  refine aO (by decide) ?_
  kby_none
  items_lens
  kby_none
  items_lens
  change SV B _ [_, _, _, .fz (.int (eX (Sc.day f l len) e)), _, _] _
  kd_mark
  refine bR ?_
  have m1 : cr (l - f) := nu (by lia) (by lia)
  have m2 : cr (eX (Sc.day f l len) e) := (dF (by lia) (by lia)).mono (by decide)
  have m3 : cr (eh (Sc.day f l len) e).2 := nu (by lia) (by lia)
  sl_open
 | str a b c d len =>
  obtain ⟨k1, k2, k3, k4, k5⟩ := hs
  have n1 : NB 260 (a, b) := ⟨k1.pos, k1.ba, k1.bb⟩
  have n2 : NB 260 (c, d) := ⟨k2.pos, k2.ba, k2.bb⟩
  have φ : Φ (.fz (nT (jQ (a, b) (c, d) (eX (Sc.str a b c d len) e) (eh (Sc.str a b c d len) e).2))) := φ
  kd_mark
  refine aO (by decide) ?_
  kd_mark
  refine aW rfl Rk.fz (yH b2.1 b2.2) ?_
  rw [hI]
  change GA B _ (.fz (.int (eh (Sc.str a b c d len) e).2)) _ _
  kd_mark
  refine aO (by decide) ?_
  kby_none
  items_lens
  kby_none
  items_lens
  change SV B _ [_, _, _, .fz (.int (eX (Sc.str a b c d len) e)), _, _] _
  kd_mark
  refine aO (by decide) ?_
  kd_mark
  refine bR ?_
  kd_mark
  intro _ _
  refine ⟨(a, b), (c, d), _, _, 260, 60, rfl, n1, n2, g0.1, dF (by lia) (by lia), dF (by lia) (by lia), by decide, ?_⟩
  sl_open
 | brk ps len =>
  obtain ⟨k0, kl, k1, k2, k3⟩ := hs
  have hpl : 0 < ps.length := List.length_pos_iff.mpr k0
  have a0 := nW (dg e 4) (show (ps.length : Int) ≠ 0 by lia)
  have a1 := lb (dg e 4) (show 0 < (ps.length : Int) by lia)
  have hm : ((ps.map iZ).length : Int) = (ps.length : Int) := by rw [cI]
  kd_mark
  refine aO (by decide) ?_
  kd_mark
  refine aW rfl Rk.fz (yH b2.1 b2.2) ?_
  rw [hI]
  change GA B _ (.fz (.int (eh (Sc.brk ps len) e).2)) _ _
  kd_mark
  refine aO (by decide) ?_
  kby_none
  items_lens
  kby_none
  items_lens
  change SV B _ [_, _, _, .fz (.int (eX (Sc.brk ps len) e)), _, _] _
  kd_mark
  refine aO (by decide) ?_
  kd_mark
  refine aO (by decide) ?_
  kd_mark
  rw [hm]
  kd_mark
  generalize hav : dg e 4 % (ps.length : Int) = av at *
  have φ : Φ (.fz (Ce.tr (if dg e 0 = 3 /\ 0 < av then pJ (jQ ((ca ps (av - 1)).2.2.1, (ca ps (av - 1)).2.2.2.1) ((ca ps av).1, (ca ps av).2.1) (eX (Sc.brk ps len) e) (eh (Sc.brk ps len) e).2) else pJ (jQ ((ca ps av).1, (ca ps av).2.1) ((ca ps av).2.2.1, (ca ps av).2.2.2.1) (eX (Sc.brk ps len) e) (eh (Sc.brk ps len) e).2)))) := by rw [<- hav]; exact φ
  obtain ⟨x1, x2⟩ := Ds a0 a1
  obtain ⟨g1, g2, _⟩ := k1 _ x2
  have n1 : NB 260 ((ca ps av).1, (ca ps av).2.1) := ⟨g1.pos, g1.ba, g1.bb⟩
  have n2 : NB 260 ((ca ps av).2.2.1, (ca ps av).2.2.2.1) := ⟨g2.pos, g2.ba, g2.bb⟩
  have last : ∀ φ : Φ (.fz (nT (jQ ((ca ps av).1, (ca ps av).2.1) ((ca ps av).2.2.1, (ca ps av).2.2.2.1) (eX (Sc.brk ps len) e) (eh (Sc.brk ps len) e).2))), SV B (AM (eD (bE B.K xn) [] E0 (bW (xT (mJ B.K) (xT (yG B.K) (gN 4) (gN 5)) (tC (V.int 0))) (bW (xT (mJ B.K) (xT (yG B.K) (gN 4) (gN 5)) (tC (V.int 1))) (bW (gN 3) (bW (gN 2) tNil)))))) [Sl.fz (Sc.brk ps len).tr, Sl.fz (Tr.lst (List.map Tr.int e)), Sl.fz (Tr.int (eh (Sc.brk ps len) e).snd), Sl.fz (Tr.int (eX (Sc.brk ps len) e)), Sl.fz (Tr.lst (List.map iZ ps)), Sl.fz (Tr.int av)] ⟨λ _ => Φ (.fz .non), Φ, λ _ => False, λ _ => False⟩ := λ φ => by
   kd_mark
   refine aW rfl Rk.fz x1 ?_
   kd_mark
   refine aW rfl Rk.fz x1 ?_
   kd_mark
   intro _ _
   refine ⟨((ca ps av).1, (ca ps av).2.1), ((ca ps av).2.2.1, (ca ps av).2.2.2.1), _, _, 260, 60, rfl, n1, n2, g0.1, dF (by lia) (by lia), dF (by lia) (by lia), by decide, ?_⟩
   sl_open
  refine aY (λ z3 => ?_) (λ z3 => ?_)
  ·kd_mark
   refine aY (λ z4 => ?_) (λ z4 => ?_)
   ·rw [i9 ⟨z3, z4⟩] at φ
    obtain ⟨y1, y2⟩ := Ds (ps := ps) (k := av - 1) (by lia) (by lia)
    obtain ⟨_, g4, _⟩ := k1 _ y2
    have n3 : NB 260 ((ca ps (av - 1)).2.2.1, (ca ps (av - 1)).2.2.2.1) := ⟨g4.pos, g4.ba, g4.bb⟩
    kd_mark
    refine aW rfl Rk.fz y1 ?_
    kd_mark
    refine aW rfl Rk.fz x1 ?_
    kd_mark
    intro _ _
    refine ⟨((ca ps (av - 1)).2.2.1, (ca ps (av - 1)).2.2.2.1), ((ca ps av).1, (ca ps av).2.1), _, _, 260, 60, rfl, n3, n1, g0.1, dF (by lia) (by lia), dF (by lia) (by lia), by decide, ?_⟩
    sl_open
   ·rw [gS λ y => z4 y.2] at φ
    refine qd ?_
    exact last φ
  ·rw [gS λ y => z3 y.1] at φ
   refine qd ?_
   exact last φ
def wm : SpT := λ _ as Φ _ => ∃ (lo hi c : NP) (s e : Int) (nt nb : Nat), as = [.fz (nT lo), .fz (nT hi), .fz (nT c), .fz (.int s), .fz (.int e)] /\ (My.Bd nt lo.1 /\ My.Bd nb lo.2) /\ (My.Bd nt hi.1 /\ My.Bd nb hi.2) /\ NB 300 c /\ My.Bd 60 s /\ My.Bd 60 e /\ nt + 2 * nb + 420 <= 3900 /\ Φ (.fz (.tup [.int (s * (c.2 * (hi.1 * lo.2 - lo.1 * hi.2)) + (c.1 * lo.2 - lo.1 * c.2) * hi.2 * (e - s)), .int (c.2 * (hi.1 * lo.2 - lo.1 * hi.2))]))
theorem ig (T : cO K mg t) : FO P w base T.q_za0 1 (bE K wm) := by
 open_k with T.q_za0.F.ok fX
 obtain ⟨⟨a, b⟩, ⟨c, d⟩, ⟨x, y⟩, s0, e0, nt, nb, rfl, h1, h2, h3, hs, he, hn, φ⟩ := hS
 have ba : My.Bd nt a := h1.1
 have bb : My.Bd nb b := h1.2
 have bc : My.Bd nt c := h2.1
 have bd : My.Bd nb d := h2.2
 have bx : My.Bd 300 x := h3.ba
 have bY : My.Bd 300 y := h3.bb
 unfold nT N2 at *
 refine ⟨_, (aJ (ag (i := 5) fX.nd rfl (Or.inl rfl) (ac aq (aa (pv 2)) (ac bw (ac aq (aa (pv 1)) (aa (pv 0))) (ac aq (aa (pv 0)) (aa (pv 1))))))
 (aJ (ag (i := 6) fX.nd rfl (Or.inl rfl) (ac aq (ac bw (ac aq (aa (pv 2)) (aa (pv 0))) (ac aq (aa (pv 0)) (aa (pv 2)))) (aa (pv 1))))
 (aR (ai (aL (af (ac aC (ac aq (pv 3) (pv 5)) (ac aq (pv 6) (ac bw (pv 4) (pv 3)))) (af (pv 5) aA))))))), go _ _ (cB (τ := [.fz _, .fz _, .fz _, .fz _, .fz _, .no, .no]) rfl ?_)⟩
 kln_le
 sl_open
def wc : SpT := λ _ as Φ _ => ∃ lo hi c : NP, as = [.fz (nT lo), .fz (nT hi), .fz (nT c)] /\ NB 3000 lo /\ NB 3000 hi /\ NB 300 c /\ Φ (.fz (.bl (oJ c.1 c.2 lo.1 lo.2 hi.1 hi.2)))
theorem fP (T : cO K mg t) : FO P w base T.q_zao 1 (bE K wc) := by
 open_k with T.q_zao.F.ok tG
 obtain ⟨⟨a, b⟩, ⟨c, d⟩, ⟨x, y⟩, rfl, h1, h2, h3, φ⟩ := hS
 have ba : My.Bd 3000 a := h1.ba
 have bb : My.Bd 3000 b := h1.bb
 have bc : My.Bd 3000 c := h2.ba
 have bd : My.Bd 3000 d := h2.bb
 have bx : My.Bd 300 x := h3.ba
 have bY : My.Bd 300 y := h3.bb
 unfold nT N2 at *
 refine ⟨_, (aR (ai (jZ (fN lz (ac aq (aa (pv 0)) (aa (pv 2))) (ac aq (aa (pv 2)) (aa (pv 0))) (aw _)) (kq (fN lz (ac aq (aa (pv 2)) (aa (pv 1))) (ac aq (aa (pv 1)) (aa (pv 2))) (aw _)))))), go _ _ (cB (τ := [.fz _, .fz _, .fz _]) rfl ?_)⟩
 kln_le
 have φ : Φ (.fz (.bl (!decide (x * b < a * y) && !decide (c * y < x * d)))) := φ
 kd_mark
 refine aY (λ h => ?_) (λ h => ?_)
 ·kd_mark
  have h : a * y <= x * b := h
  have e : (!decide (x * b < a * y) && !decide (c * y < x * d)) = decide (x * d <= c * y) := by
   rw [i8 (by lia)]
   by_cases g : c * y < x * d
   ·rw [j6 g, i8 (by lia)]; rfl
   ·rw [i8 g, j6 (by lia)]; rfl
  rw [e] at φ
  exact φ
 ·kd_mark
  have h : ¬ a * y <= x * b := h
  rw [j6 (show x * b < a * y by lia)] at φ
  exact φ
def yq : SpT := λ _ as Φ _ => ∃ x y : Int, as = [.fz (.tup [.int x, .int y])] /\ 0 < y /\ My.Bd 3900 y /\ Φ (.fz (.int ((2 * x + y) / (2 * y))))
theorem hZ (T : cO K mg t) : FO P w base T.q_za2 1 (bE K yq) := by
 open_k with T.q_za2.F.ok pZ
 obtain ⟨x, y, rfl, hy, by_, φ⟩ := hS
 refine ⟨_, (aR (ai (ac cn (ac aC (ac dQ aD (aa (pv 0))) (aa (pv 0))) (ac dQ aD (aa (pv 0)))))), go _ _ (cB (τ := [.fz _]) rfl ?_)⟩
 kln_le
 have m2 : cr (2 * y) := ((show My.Bd 2 2 by unfold My.Bd; decide).mul by_).mono (by decide)
 sl_open
inductive Lp where
 | tx (z : Str) | at (x y : Int)
noncomputable def Lp.tr : Lp -> Tr
 | .tx z => .str z
 | .at x y => .tup [.int x, .int y]
def vn : Lp -> Pl -> Prop
 | .tx z, .tx u => z = u
 | .at x y, .at q => 0 < y /\ My.Bd 3900 y /\ My.qv x y = q /\ My.Bd 20000 x
 | _, _ => False
theorem zr (hy : 0 < y) (e : My.qv x y = q) : (2 * x + y) / (2 * y) = yp q := by
 have hd : (0 : Int) < (q.den : Int) := Int.natCast_pos.mpr q.den_pos
 have e2 : My.qv q.num q.den = q := by
  show (q.num : Rat) / ((q.den : Int) : Rat) = q
  rw [<- Rat.divInt_eq_div]
  exact Rat.num_divInt_den q
 have h := My.eq_of_qv (by lia) (by lia) (e.trans e2.symm)
 unfold yp
 generalize q.num = n at *
 generalize (q.den : Int) = d at *
 have k1 : (2 * x + y) / (2 * y) = ((2 * x + y) * d) / ((2 * y) * d) := (Int.mul_ediv_mul_of_pos_left _ _ hd).symm
 have k2 : (2 * n + d) / (2 * d) = ((2 * n + d) * y) / ((2 * d) * y) := (Int.mul_ediv_mul_of_pos_left _ _ hy).symm
 rw [k1, k2]
 have a1 : (2 * x + y) * d = (2 * n + d) * y := by
  rw [Int.add_mul, Int.add_mul, uh, uh, h, Int.mul_comm y d]
 have a2 : 2 * y * d = 2 * d * y := by rw [uh, uh, Int.mul_comm y d]
 rw [a1, a2]
theorem BW {j P Q : Int} (p2 : 2 <= p) (hQ : 0 < Q) (h : P * p ^ (-j).toNat = p ^ j.toNat * Q) : Ge p e f j ↔ f * P <= e * Q := by
 unfold Ge
 have hY : 0 < p ^ (-j).toNat := Int.pow_pos (by lia)
 generalize p ^ (-j).toNat = Y at *
 generalize p ^ j.toNat = X at *
 have e1 : f * X * Q = f * P * Y := by rw [uh, <- h, uh]
 have e2 : e * Y * Q = e * Q * Y := by rw [uh, Int.mul_comm Y Q, <- uh]
 constructor
 ·intro g
  have := tM g (ut hQ)
  rw [e1, e2] at this
  exact Int.le_of_mul_le_mul_right this hY
 ·intro g
  have := tM g (ut hY)
  rw [<- e1, <- e2] at this
  exact Int.le_of_mul_le_mul_right this hQ
theorem gP {j : Int} (p2 : 2 <= p) (hf : 0 < f) (he : 0 < e) (h : ic p e f E) : (Ge p e f j ↔ j <= E) := by
 obtain ⟨g1, g2⟩ := nQ h
 constructor
 ·intro g
  rcases (show j <= E ∨ E < j by lia) with z | z
  ·exact z
  ·exact absurd (jI p2 hf he (j - (E + 1)).toNat (E + 1) (by rw [show E + 1 + ((j - (E + 1)).toNat : Int) = j by lia]; exact g)) g2
 ·intro g
  exact jI p2 hf he (E - j).toNat j (by rw [show j + ((E - j).toNat : Int) = E by lia]; exact g1)
theorem Fw {j P Q : Int} (p2 : 2 <= p) (hQ : 0 < Q) (h : P * p ^ (-j).toNat = p ^ j.toNat * Q) : (p : Rat) ^ j = My.qv P Q := by
 have hY : 0 < p ^ (-j).toNat := Int.pow_pos (by lia)
 have e : (p : Rat) ^ j = My.qv (p ^ j.toNat) (p ^ (-j).toNat) := by
  rcases (show 0 <= j ∨ j < 0 by lia) with z | z
  ·rw [show (-j).toNat = 0 by lia, o9, My.qv_int, <- mR, show ((j.toNat : Nat) : Int) = j by lia]
  ·rw [show j.toNat = 0 by lia, o9]
   have : (p : Rat) ^ j = ((p : Rat) ^ (((-j).toNat : Nat) : Int))⁻¹ := by rw [<- Rat.zpow_neg, show -(((-j).toNat : Nat) : Int) = j by lia]
   rw [this, mR]
   unfold My.qv
   have h0 := My.cast_ne (sY hY)
   have h1 : ((1 : Int) : Rat) = 1 := rfl
   rw [h1]
   grind
 rw [e]
 exact My.qv_eq (by lia) (by lia) (by rw [h])
theorem qy {v : Rat} : dz p E v = (v - (p : Rat) ^ E) / ((p : Rat) ^ E * ((p : Rat) - 1)) := by
 unfold dz
 rw [Rat.intCast_sub]
 rfl
theorem BB {low len P Q : Int} {k : Nat} (p2 : 2 <= p) (hf : 0 < f) (hQ : 0 < Q) (hP : 0 < P) (hin : oJ e f P Q (P * p) Q = false) (hk : (k : Int) <= many - 1) (hst : k = 0 ∨ P * f < e * Q) (hex : (k : Int) = many - 1 ∨ ¬ P * p * f < e * Q) (gA : f * P <= e * Q ↔ low + (k : Int) <= E) (gB : f * (P * p) <= e * Q ↔ low + (k : Int) + 1 <= E) (zB : (p : Rat) ^ (low + (k : Int) + 1) = My.qv (P * p) Q) : FG p low many len e f E = .tx "outside" := by
 have h : e * Q < P * f ∨ P * p * f < e * Q := by
  unfold oJ at hin
  by_cases z : e * Q < P * f
  ·exact .inl z
  ·by_cases z2 : P * p * f < e * Q
   ·exact .inr z2
   ·rw [i8 z, i8 z2] at hin
    cases hin
 have c1 : f * P = P * f := Int.mul_comm _ _
 have c2 : f * (P * p) = P * p * f := Int.mul_comm _ _
 unfold FG
 rcases h with h | h
 ·have h0 : k = 0 := hst.resolve_right (by lia)
  have : ¬ low + (k : Int) <= E := λ z => by have := gA.mpr z; lia
  rw [i9 (.inl (by lia))]
 ·have h0 : (k : Int) = many - 1 := hex.resolve_right (by lia)
  have := gB.mp (by lia)
  rcases (show low + many < E ∨ E = low + many by lia) with z | z
  ·rw [i9 (.inr z)]
  ·suffices hh : dz p E (My.qv e f) ≠ 0 by rw [gS (by lia), i9 ⟨z, hh⟩]
   rw [qy, show E = low + (k : Int) + 1 by lia, zB]
   intro y
   have hpp : 0 < P * p := r8 hP (by lia)
   have n1 := My.cast_ne (sY hf)
   have n2 := My.cast_ne (sY hQ)
   have n3 := My.cast_ne (sY hpp)
   have n4 := My.cast_ne (show p - 1 ≠ 0 by lia)
   rw [Rat.intCast_sub, show ((1 : Int) : Rat) = 1 from rfl] at n4
   have : My.qv e f = My.qv (P * p) Q := by
    unfold My.qv at *
    generalize ((P * p : Int) : Rat) = A at *
    grind
   have := My.eq_of_qv (by lia) (by lia) this
   lia
theorem rq1 {k f P Q p e m L : Rat} (hf : f ≠ 0) (hQ : Q ≠ 0) (hP : P ≠ 0) (hp : p - 1 ≠ 0) (hm : m ≠ 0) : ((k * (f * (P * p * Q - P * Q)) + (e * Q - P * f) * Q * 1) * L) / (f * (P * p * Q - P * Q) * m) = (k + (e / f - P / Q) / (P / Q * (p - 1))) * (L / m) := by
 have h1 : (e / f - P / Q) / (P / Q * (p - 1)) = (e * Q - P * f) / (f * P * (p - 1)) := by grind
 have h2 : f * (P * p * Q - P * Q) = f * P * (p - 1) * Q := by grind
 rw [h1, h2]
 generalize p - 1 = r at *
 generalize e * Q - P * f = u at *
 have h3 : f * P * r ≠ 0 := by grind
 clear h1 h2
 generalize f * P * r = D at *
 have h5 : D * Q ≠ 0 := by grind
 have h6 : D * Q * m ≠ 0 := by grind
 grind
theorem rq2 {k f P Q p m L : Rat} (hf : f ≠ 0) (hQ : Q ≠ 0) (hP : P ≠ 0) (hp : p - 1 ≠ 0) (hm : m ≠ 0) : ((k * (f * (P * p * Q - P * Q)) + (P * p * f - P * f) * Q * 1) * L) / (f * (P * p * Q - P * Q) * m) = (k + 1 + 0) * (L / m) := by
 have h2 : f * (P * p * Q - P * Q) = f * P * (p - 1) * Q := by grind
 have h4 : P * p * f - P * f = f * P * (p - 1) := by grind
 rw [h2, h4]
 have h3 : f * P * (p - 1) ≠ 0 := by grind
 generalize f * P * (p - 1) = D at *
 grind
theorem DH {low len P Q : Int} {k : Nat} (p2 : 2 <= p) (hf : 0 < f) (hQ : 0 < Q) (hP : 0 < P) (hm : 0 < many) (hin : oJ e f P Q (P * p) Q = true) (hk : (k : Int) <= many - 1) (gA : f * P <= e * Q ↔ low + (k : Int) <= E) (gB : f * (P * p) <= e * Q ↔ low + (k : Int) + 1 <= E) (gC : f * (P * p * p) <= e * Q ↔ low + (k : Int) + 2 <= E) (zA : (p : Rat) ^ (low + (k : Int)) = My.qv P Q) (zB : (p : Rat) ^ (low + (k : Int) + 1) = My.qv (P * p) Q) :
  0 < f * (P * p * Q - P * Q) /\ ∃ q, FG p low many len e f E = .at q /\ My.qv ((k * (f * (P * p * Q - P * Q)) + (e * Q - P * f) * Q * ((k : Int) + 1 - k)) * len) (f * (P * p * Q - P * Q) * many) = q := by
 have hpq : 0 < P * Q := r8 hP hQ
 have hpp : 0 < P * p := r8 hP (by lia)
 have e0 : P * p * Q - P * Q = P * Q * (p - 1) := by rw [Int.mul_sub, rn, uh, Int.mul_comm p Q, <- uh]
 have hb : 0 < f * (P * p * Q - P * Q) := by rw [e0]; exact r8 hf (r8 hpq (by lia))
 refine ⟨hb, ?_⟩
 have h1 : ¬ e * Q < P * f /\ ¬ P * p * f < e * Q := by
  unfold oJ at hin
  constructor
  ·intro z; rw [j6 z] at hin; cases hin
  ·intro z; rw [j6 z, Bool.not_true, Bool.and_false] at hin; cases hin
 have c1 : f * P = P * f := Int.mul_comm _ _
 have c2 : f * (P * p) = P * p * f := Int.mul_comm _ _
 have a1 := gA.mp (by lia)
 have c3 : f * (P * p) < f * (P * p * p) := Int.mul_lt_mul_of_pos_left (by have := Int.mul_le_mul_of_nonneg_left p2 (ut hpp); lia) hf
 have a3 : ¬ low + (k : Int) + 2 <= E := λ z => by have := gC.mpr z; lia
 have n1 := My.cast_ne (sY hf)
 have n2 := My.cast_ne (sY hQ)
 have n3 := My.cast_ne (sY hP)
 have n4 := My.cast_ne (show p - 1 ≠ 0 by lia)
 have n5 := My.cast_ne (sY hm)
 have one : ((1 : Int) : Rat) = 1 := rfl
 rw [Rat.intCast_sub, one] at n4
 unfold FG
 rcases (show E = low + (k : Int) ∨ E = low + (k : Int) + 1 by lia) with z | z
 ·refine ⟨_, by rw [gS (by lia), gS (by lia)], ?_⟩
  rw [qy, z, zA, show low + (k : Int) - low = (k : Int) by lia]
  unfold My.qv
  rw [show (k : Int) + 1 - k = 1 by lia]
  simp only [lS, Rat.intCast_add, Rat.intCast_sub, one]
  exact rq1 n1 n2 n3 n4 n5
 ·have g : e * Q = P * p * f := by have := gB.mpr (by lia); lia
  have hv : My.qv e f = My.qv (P * p) Q := My.qv_eq (by lia) (by lia) g
  have hp0 : dz p E (My.qv e f) = 0 := by
   rw [qy, z, zB, hv]
   grind
  refine ⟨_, by rw [gS (by lia), gS (by intro y; exact y.2 hp0)], ?_⟩
  rw [hp0, show E - low = (k : Int) + 1 by lia, g, show (k : Int) + 1 - k = 1 by lia]
  unfold My.qv
  simp only [lS, Rat.intCast_add, Rat.intCast_sub, one]
  exact rq2 n1 n2 n3 n4 n5
theorem DW (h : -1000000 <= x) (h2 : x <= 1000000) : My.Bd 60 x := by
 have : My.Bd 20 x := by unfold My.Bd; lia
 exact this.mono (by decide)
def EF : SpT := λ _ as Φ _ => ∃ (p low many len e f : Int), as = [.fz (Sc.tur p low many len).tr, .fz (N2 e f)] /\ jL (.tur p low many len) /\ cR e f /\ ∀ lp : Lp, (∀ r, pd (.tur p low many len) (.num e f) r -> vn lp r) -> Φ (.fz lp.tr)
theorem MY (a : Int) (n : Nat) (z : Int) (h : z = a + n) : a.toNat + n + (-z).toNat = z.toNat + (-a).toNat := by subst h; lia
theorem uJ (T : cO K mg t) : FO P w base T.q_zbo 2 (bE K EF) := by
 open_k with T.q_zbo.F.ok bN
 obtain ⟨p, low, many, len, e, f, rfl, ⟨k1, k2, k3, k4, k5, k6, k7, k8⟩, hc, φ⟩ := hS
 have hf := hc.pos
 have be := hc.ba
 have bf := hc.bb
 unfold Sc.tr N2 at *
 refine ⟨_, (aJ (vm (pv 0) (eV rfl (aF (az (i := 5) bN.nd rfl (Or.inl rfl)) (aF (az (i := 6) bN.nd rfl (Or.inl rfl)) (aF (az (i := 7) bN.nd rfl (Or.inl rfl)) (aF (az (i := 8) bN.nd rfl (Or.inl rfl)) (aF (az (i := 9) bN.nd rfl (Or.inl rfl)) dk)))))))
 (aJ (aK (aj lz (aa (pv 1)) aD (aw _)) (aR (ai aI)) au)
 (aJ (ag (i := 2) bN.nd rfl (Or.inl rfl) (bI (eH T) hr T.q_zah (af (pv 6) (af (pv 7) aA))))
 (aJ (ag (i := 3) bN.nd rfl (Or.inl rfl) (bI (eH T) hr T.q_zah (af (pv 6) (af (dH cv (pv 7)) aA))))
 (aJ (ag (i := 4) bN.nd rfl (Or.inl rfl) aD)
 (aJ (fm o4 (PW.pt (kC (aj lO (pv 4) (ac bw (pv 8) aD) (aw _)) (gY (aj lO (ac aq (ac aq (pv 2) (pv 6)) (aa (pv 1))) (ac aq (aa (pv 1)) (pv 3)) (aw _))))) (aJ (ag (i := 2) bN.nd rfl (Or.inl rfl) (ac aq (pv 2) (pv 6)))
 (aR (ag (i := 4) bN.nd rfl (Or.inl rfl) (ac aC (pv 4) aD)))))
 (aJ (aK (kf (cU (bI (fP T) hr T.q_zao (af (aL (af (pv 2) (af (pv 3) aA))) (af (aL (af (ac aq (pv 2) (pv 6)) (af (pv 3) aA))) (af (pv 1) aA)))))) (aR (ai aI)) au)
 (aJ (vm (bI (ig T) hr T.q_za0 (af (aL (af (pv 2) (af (pv 3) aA))) (af (aL (af (ac aq (pv 2) (pv 6)) (af (pv 3) aA))) (af (pv 1) (af (pv 4) (af (ac aC (pv 4) aD) aA)))))) (eV rfl (aF (az (i := 10) bN.nd rfl (Or.inl rfl)) (aF (az (i := 11) bN.nd rfl (Or.inl rfl)) dk))))
 (aR (ai (aL (af (ac aq (pv 10) (pv 9)) (af (ac aq (pv 11) (pv 8)) aA))))))))))))), go _ _ (cB (τ := [.fz _, .fz _, .no, .no, .no, .no, .no, .no, .no, .no, .no, .no]) rfl ?_)⟩
 kln_le
 kd_mark
 refine aY (λ z => ?_) (λ z => ?_)
 ·kd_mark
  refine φ (.tx "nought") λ r hr => ?_
  rw [hr.1 z]
  rfl
 have he : 0 < e := by lia
 have q0 := cT k1 k2 (-low).toNat
 have mq : cr (p ^ (-low).toNat) := q0.2.mono (by lia)
 have m0 : cr e := be.mono (by decide)
 have mf : cr f := bf.mono (by decide)
 have mp : cr p := nu (by lia) (by lia)
 kd_mark
 intro _ _
 refine qh (k := low) k1 k2 (by lia) (by lia) ?_
 kd_mark
 intro _ _
 refine qh (k := -low) k1 k2 (by lia) (by lia) ?_
 kd_mark
 have shp : ∀ k : Nat, ∀ u v : Sl, ∃ x, x = [Sl.fz (.tup [.str "turns", .int p, .int low, .int many, .int len]), .fz (.tup [.int e, .int f]), .fz (.int (p ^ (low.toNat + k))), .fz (.int (p ^ (-low).toNat)), .fz (.int (k : Int)), .fz (.str "turns"), .fz (.int p), .fz (.int low), .fz (.int many), .fz (.int len), u, v] := λ k u v => ⟨_, rfl⟩
 clear shp
 refine gQ (λ τ => ∃ k : Nat, (∃ u v : Sl, τ = [.fz (.tup [.str "turns", .int p, .int low, .int many, .int len]), .fz (.tup [.int e, .int f]), .fz (.int (p ^ (low.toNat + k))), .fz (.int (p ^ (-low).toNat)), .fz (.int (k : Int)), .fz (.str "turns"), .fz (.int p), .fz (.int low), .fz (.int many), .fz (.int len), u, v]) /\ (k : Int) <= many - 1 /\ (k = 0 ∨ p ^ (low.toNat + k) * f < e * p ^ (-low).toNat) /\ ((k : Int) = many - 1 ∨ ¬ p ^ (low.toNat + k) * p * f < e * p ^ (-low).toNat)) ?_ ?_
 ·refine wS (λ m τ => ∃ k : Nat, (∃ u v : Sl, τ = [.fz (.tup [.str "turns", .int p, .int low, .int many, .int len]), .fz (.tup [.int e, .int f]), .fz (.int (p ^ (low.toNat + k))), .fz (.int (p ^ (-low).toNat)), .fz (.int (k : Int)), .fz (.str "turns"), .fz (.int p), .fz (.int low), .fz (.int many), .fz (.int len), u, v]) /\ m = many.toNat - k /\ (k : Int) <= many - 1 /\ (k = 0 ∨ p ^ (low.toNat + k) * f < e * p ^ (-low).toNat)) _ ⟨0, ⟨_, _, rfl⟩, rfl, by lia, .inl rfl⟩ ?_
  rintro m τ ⟨k, ⟨u, v, rfl⟩, rfl, hk, hst⟩
  have pk := cT k1 k2 (low.toNat + k)
  have mP : cr (p ^ (low.toNat + k)) := pk.2.mono (by lia)
  have mPp : cr (p ^ (low.toNat + k) * p) := (pk.2.mul (show My.Bd 4 p by unfold My.Bd; lia)).mono (by lia)
  kd_mark
  refine aY (λ h1 => ?_) (λ h1 => ?_)
  ·kd_mark
   refine aY (λ h2 => ?_) (λ h2 => ?_)
   ·kd_mark
    refine ⟨many.toNat - (k + 1), by lia, k + 1, ⟨u, v, ?_⟩, rfl, by lia, .inr ?_⟩
    rotate_left
    ·rw [show low.toNat + (k + 1) = low.toNat + k + 1 by lia, t6]
     exact h2
    ·rw [show low.toNat + (k + 1) = low.toNat + k + 1 by lia, t6]
     rfl
   ·kd_mark
    exact ⟨k, ⟨_, _, rfl⟩, hk, hst, .inr h2⟩
  ·kd_mark
   exact ⟨k, ⟨_, _, rfl⟩, hk, hst, .inl (by lia)⟩
 rintro τ ⟨k, ⟨u, v, rfl⟩, hk, hst, hex⟩
 have w1 : 4 * (low.toNat + k) + 5 + 2 * (4 * (-low).toNat + 1) + 420 <= 3900 := by clear hst hex; lia
 have w2 : 260 + (4 * (low.toNat + k) + 4 * (-low).toNat + 7) <= 3500 := by clear hst hex; lia
 have w3 : 4 * (low.toNat + k) + 4 * (-low).toNat + 300 + (4 * (-low).toNat + 1) <= 3700 := by clear hst hex; lia
 have pk := cT k1 k2 (low.toNat + k)
 have bP : My.Bd 2400 (p ^ (low.toNat + k)) := pk.2.mono (by lia)
 have hPp : 0 < p ^ (low.toNat + k) * p := r8 pk.1 (by lia)
 have bPp : My.Bd 2404 (p ^ (low.toNat + k) * p) := bP.mul (show My.Bd 4 p by unfold My.Bd; lia)
 have mP : cr (p ^ (low.toNat + k)) := bP.mono (by decide)
 have bQ : My.Bd 810 (p ^ (-low).toNat) := q0.2.mono (by lia)
 have relA : p ^ (low.toNat + k) * p ^ (-(low + (k : Int))).toNat = p ^ (low + (k : Int)).toNat * p ^ (-low).toNat := by
  rw [<- Int.pow_add, <- Int.pow_add]
  congr 1
  exact MY low k _ rfl
 have relB : p ^ (low.toNat + k) * p * p ^ (-(low + (k : Int) + 1)).toNat = p ^ (low + (k : Int) + 1).toNat * p ^ (-low).toNat := by
  rw [<- t6, <- Int.pow_add, <- Int.pow_add]
  congr 1
  exact MY low (k + 1) _ (by lia)
 have relC : p ^ (low.toNat + k) * p * p * p ^ (-(low + (k : Int) + 2)).toNat = p ^ (low + (k : Int) + 2).toNat * p ^ (-low).toNat := by
  rw [<- t6, <- t6, <- Int.pow_add, <- Int.pow_add]
  congr 1
  exact MY low (k + 2) _ (by lia)
 have gA := BW (e := e) (f := f) k1 q0.1 relA
 have gC := BW (e := e) (f := f) k1 q0.1 relC
 have gB := BW (e := e) (f := f) k1 q0.1 relB
 have zA := Fw k1 q0.1 relA
 have zB := Fw k1 q0.1 relB
 generalize hP : p ^ (low.toNat + k) = P at *
 generalize hQ : p ^ (-low).toNat = Q at *
 have hb300 : NB 300 (e, f) := ⟨hf, be.mono (by decide), bf.mono (by decide)⟩
 kd_mark
 intro _ _
 refine ⟨(P, Q), (P * p, Q), (e, f), rfl, ⟨q0.1, bP.mono (by decide), bQ.mono (by decide)⟩, ⟨q0.1, bPp.mono (by decide), bQ.mono (by decide)⟩, hb300, ?_⟩
 kd_mark
 refine iK (λ hin => ?_) (λ hin => ?_)
 rotate_left
 ·kd_mark
  refine φ (.tx "outside") λ r hr => ?_
  obtain ⟨E, hE, rfl⟩ := hr.2 he
  have b1 := gP (j := low + (k : Int)) k1 hf he hE
  have b2 := gP (j := low + (k : Int) + 1) k1 hf he hE
  have := BB (len := len) k1 hf q0.1 pk.1 hin hk hst hex (gA.symm.trans b1) (gB.symm.trans b2) zB
  rw [this]
  rfl
 ·have bdk : My.Bd 60 (k : Int) := DW (by lia) (by lia)
  kd_mark
  intro _ _
  refine ⟨(P, Q), (P * p, Q), (e, f), k, k + 1, 4 * (low.toNat + k) + 5, 4 * (-low).toNat + 1, rfl, ⟨pk.2.mono (by lia), q0.2⟩, ⟨(pk.2.mul (show My.Bd 4 p by unfold My.Bd; lia)).mono (by lia), q0.2⟩, hb300, bdk, DW (by lia) (by lia), w1, ?_⟩
  have t1 : My.Bd (4 * (low.toNat + k) + 4 * (-low).toNat + 7) (P * p * Q - P * Q) := (((pk.2.mul (show My.Bd 4 p by unfold My.Bd; lia)).mul q0.2).sub ((pk.2.mul q0.2).mono (by lia))).mono (by lia)
  have t2 : My.Bd 3500 (f * (P * p * Q - P * Q)) := (bf.mul t1).mono w2
  have t3 : My.Bd (4 * (low.toNat + k) + 4 * (-low).toNat + 300) (e * Q - P * f) := (((be.mul q0.2).mono (show _ <= 4 * (low.toNat + k) + 4 * (-low).toNat + 262 by lia)).sub ((pk.2.mul bf).mono (by lia))).mono (by lia)
  have t4 : My.Bd 3900 ((k : Int) * (f * (P * p * Q - P * Q)) + (e * Q - P * f) * Q * ((k : Int) + 1 - k)) := by
   rw [show (k : Int) + 1 - k = 1 by lia, rn]
   exact (((bdk.mul t2).mono (show _ <= 3700 by lia)).add ((t3.mul q0.2).mono w3)).mono (by decide)
  have fin : ∀ r, pd (.tur p low many len) (.num e f) r -> vn (.at (((k : Int) * (f * (P * p * Q - P * Q)) + (e * Q - P * f) * Q * ((k : Int) + 1 - k)) * len) (f * (P * p * Q - P * Q) * many)) r := by
   intro r hr
   obtain ⟨E, hE, rfl⟩ := hr.2 he
   have b1 := gP (j := low + (k : Int)) k1 hf he hE
   have b2 := gP (j := low + (k : Int) + 1) k1 hf he hE
   have b3 := gP (j := low + (k : Int) + 2) k1 hf he hE
   obtain ⟨g0, q, g1, g2⟩ := DH (len := len) k1 hf q0.1 pk.1 (show 0 < many by lia) hin hk (gA.symm.trans b1) (gB.symm.trans b2) (gC.symm.trans b3) zA zB
   rw [g1]
   exact ⟨r8 g0 (by lia), (t2.mul (show My.Bd 9 many by unfold My.Bd; lia)).mono (by decide), g2, (t4.mul (show My.Bd 13 len by unfold My.Bd; lia)).mono (by decide)⟩
  have m1 : cr (f * (P * p * Q - P * Q)) := t2.mono (by decide)
  have m2 : cr ((k : Int) * (f * (P * p * Q - P * Q)) + (e * Q - P * f) * Q * ((k : Int) + 1 - k)) := t4.mono (by decide)
  have φ := φ _ fin
  generalize (k : Int) * (f * (P * p * Q - P * Q)) + (e * Q - P * f) * Q * ((k : Int) + 1 - k) = X at *
  generalize f * (P * p * Q - P * Q) = Y at *
  have φ : Φ (.fz (.tup [.int (X * len), .int (Y * many)])) := φ
  sl_open
theorem FU {s t : Int} (hb : 0 < b) (hd : 0 < d) (hf : 0 < f) (h : a * d < c * b) : 0 < f * (c * b - a * d) /\ My.qv (s * (f * (c * b - a * d)) + (e * b - a * f) * d * (t - s)) (f * (c * b - a * d)) = (s : Rat) + (My.qv e f - My.qv a b) / (My.qv c d - My.qv a b) * ((t - s : Int) : Rat) := by
 have h0 : 0 < c * b - a * d := by lia
 have n0 := My.cast_ne (sY h0)
 have n1 := My.cast_ne (sY hf)
 have n2 := My.cast_ne (sY hb)
 have n3 := My.cast_ne (sY hd)
 refine ⟨r8 hf h0, ?_⟩
 have e1 : My.qv c d - My.qv a b = ((c * b - a * d : Int) : Rat) / ((d : Rat) * (b : Rat)) := by
  rw [Rat.intCast_sub, lS, lS]
  unfold My.qv
  grind
 have e2 : My.qv e f - My.qv a b = ((e * b - a * f : Int) : Rat) / ((f : Rat) * (b : Rat)) := by
  rw [Rat.intCast_sub, lS, lS]
  unfold My.qv
  grind
 rw [e1, e2]
 unfold My.qv
 rw [Rat.intCast_add, lS, lS, lS, lS]
 generalize ((c * b - a * d : Int) : Rat) = M at *
 generalize ((e * b - a * f : Int) : Rat) = U at *
 generalize ((t - s : Int) : Rat) = W at *
 have n4 : (f : Rat) * M ≠ 0 := by grind
 have n5 : (f : Rat) * (b : Rat) ≠ 0 := by grind
 have n6 : (d : Rat) * (b : Rat) ≠ 0 := by grind
 grind
theorem xi {α : Type} {q : α -> Bool} : ∀ {xs : List α} {j : Nat} {x : α}, (∀ k y, k < j -> xs[k]? = some y -> q y = false) -> xs[j]? = some x -> q x = true -> xs.find? q = some x
 | [], j, x, _, h, _ => by cases j <;> cases h
 | y :: r, 0, x, _, h, hq => by
  have h : some y = some x := h
  cases h
  rw [List.find?_cons, hq]
 | y :: r, j + 1, x, ha, h, hq => by
  rw [List.find?_cons, ha 0 y (by lia) rfl]
  exact xi (xs := r) (j := j) (λ k z hk hz => ha (k + 1) z (by lia) hz) h hq
theorem CI {q : α -> Bool} {xs : List α} (h : ∀ k y, k < xs.length -> xs[k]? = some y -> q y = false) : xs.find? q = none := by
 rw [List.find?_eq_none]
 intro x hx
 obtain ⟨k, hk, e⟩ := List.getElem_of_mem hx
 rw [h k x hk (by rw [dM hk, e])]
 nofun
theorem Bq {ps : List Pi6} (h : ps ≠ []) : ∃ x y, ps.head? = some x /\ ps.getLast? = some y /\ x ∈ ps /\ y ∈ ps /\ eP (ps.map iZ) 0 = some (iZ x) /\ eP (ps.map iZ) (-1) = some (iZ y) := by
 cases ps with
 | nil => exact absurd rfl h
 | cons x r =>
  refine ⟨x, (x :: r).getLast h, rfl, List.getLast?_eq_some_getLast h, kv, List.getLast_mem h, ce (j := 0) rfl, ?_⟩
  refine atI_last ?_
  rw [cI, jb, <- List.getLast?_eq_getElem?, List.getLast?_eq_some_getLast h]
  rfl
noncomputable def yz (e f : Int) (x : Pi6) : Lp := .at (x.2.2.2.2.1 * (f * (x.2.2.1 * x.2.1 - x.1 * x.2.2.2.1)) + (e * x.2.1 - x.1 * f) * x.2.2.2.1 * (x.2.2.2.2.2 - x.2.2.2.2.1)) (f * (x.2.2.1 * x.2.1 - x.1 * x.2.2.2.1))
theorem wM {x : Pi6} (hc : cR e f) (hx : mS x) : vn (yz e f x) (.at (tj e f x)) := by
 obtain ⟨k1, k2, k3, k4, k5, k6⟩ := hx
 have := FU (e := e) (s := x.2.2.2.2.1) (t := x.2.2.2.2.2) k1.pos k2.pos hc.pos k3
 have b5 : My.Bd 13 x.2.2.2.2.1 := by unfold My.Bd; lia
 have b6 : My.Bd 13 (x.2.2.2.2.2 - x.2.2.2.2.1) := by unfold My.Bd; lia
 have m1 := hc.bb.mul (((k2.ba.mul k1.bb).sub (k1.ba.mul k2.bb)))
 have m2 := (((hc.ba.mul k1.bb).sub (k1.ba.mul hc.bb)).mul k2.bb).mul b6
 exact ⟨this.1, m1.mono (by decide), this.2, (((b5.mul m1).mono (n := 2000) (by decide)).add (m2.mono (by decide))).mono (by decide)⟩
def pH : SpT := λ _ as Φ _ => ∃ s c, as = [.fz s.tr, .fz c.tr] /\ jL s /\ uy s c /\ ∀ lp : Lp, (∀ r, pd s c r -> vn lp r) -> Φ (.fz lp.tr)
theorem GV {s : TS} {τ' : TSt} {k : Nat} {t : Tr} {D : ET} (hu : τ = τ' ∨ (Gt τ k (.own t) /\ jJ τ k (.fz t) τ')) (h : SV B s τ' D) : SV B s τ D := by
 rcases hu with rfl | ⟨g, st⟩
 ·exact h
 ·intro Z F H D' r e
  obtain ⟨F2, l, e', sF, r2, _⟩ := r.fixS g.eq
  rw [st.eq] at r2
  exact h Z F2 H D' r2 (e.on sF)
theorem Ip {a b c d e g r : TS} {nx bk ct : TSt -> Prop} {rt : Kd -> Prop} (J : TSt -> Prop) (h1 : SV B a τ ⟨λ τ => SV B b τ ⟨λ τ => SV B c τ ⟨λ τ => SV B d τ ⟨λ τ => SV B e τ ⟨λ τ => SV B g τ ⟨J, rt, bk, ct⟩, rt, bk, ct⟩, rt, bk, ct⟩, rt, bk, ct⟩, rt, bk, ct⟩, rt, bk, ct⟩) (q : ∀ τ, J τ -> SV B r τ ⟨nx, rt, bk, ct⟩) : SV B (ke a (ke b (ke c (ke d (ke e (ke g r)))))) τ ⟨nx, rt, bk, ct⟩ := nc (gQ _ h1 λ _ h2 => nc (gQ _ h2 λ _ h3 => nc (gQ _ h3 λ _ h4 => nc (gQ _ h4 λ _ h5 => nc (gQ _ h5 λ _ h6 => nc (gQ J h6 q))))))
theorem lQ (T : cO K mg t) : FO P w base T.q_za1 3 (bE K pH) := by
 open_k with T.q_za1.F.ok cM
 obtain ⟨sc, c, rfl, hs, hc, φ⟩ := hS
 refine ⟨_, (aJ (aK (aj qj (pv 1) kP (aw _)) (aR (ai aI)) au)
 (aJ (aK (aj bB (aa (pv 0)) aI (aw _)) (aJ (aK (aj jd (pv 1) (aa (pv 0)) rfl) (aR (ai aI)) au)
 (aR (ai (aL (af (ac aq (ac aC (ac aq aD (dw ld PySem.F.slot_list_index PySem.F.type_list_index tJ (aa (pv 0)) (af (pv 1) aA))) aD) (aa (pv 0))) (af (ac aq aD (aN bD rfl T.z_len PySem.boot_len (af (aa (pv 0)) aA))) aA)))))) au)
 (aJ (aK (aj bB (aa (pv 0)) aI (aw _)) (aR (ai (bI (uJ T) hr T.q_zbo (af (pv 0) (af (pv 1) aA))))) au)
 (aJ (aK (aj bB (aa (pv 0)) aI (aw _)) (aJ (aK (PW.pt (pO (aj lO (pv 1) (aa (pv 0)) (aw _)) (nE (aj sQ (pv 1) (aa (pv 0)) (aw _))))) (aR (ai aI)) au)
 (aR (ai (aL (af (ac aq (ac bw (pv 1) (aa (pv 0))) (aa (pv 0))) (af (ac bw (aa (pv 0)) (aa (pv 0))) aA)))))) au)
 (aJ (ag (i := 2) cM.nd rfl (Or.inl rfl) (aT (af (ac wO (cS GL (pv 0) (bS aD) (bS aD)) (aL (af aD (af (aV CD (pv 0) (dH cv aD) (λ _ _ => rfl)) aA)))) aA)))
 (aJ (aK (aj bB (aa (pv 0)) aI (aw _)) (aR (ag (i := 2) cM.nd rfl (Or.inl rfl) (aa (pv 0)))) au)
 (aJ (cm o4 rfl (br (pv 2)) (eV rfl (aF (az (i := 3) cM.nd rfl (Or.inl rfl)) (aF (az (i := 4) cM.nd rfl (Or.inl rfl)) (aF (az (i := 5) cM.nd rfl (Or.inl rfl)) (aF (az (i := 6) cM.nd rfl (Or.inl rfl)) dk))))) (aR (aK (cU (bI (fP T) hr T.q_zao (af (pv 3) (af (pv 4) (af (pv 1) aA))))) (aR (ai (bI (ig T) hr T.q_za0 (af (pv 3) (af (pv 4) (af (pv 1) (af (pv 5) (af (pv 6) aA)))))))) au)))
 (aJ (aK (PW.pt (kC (aj sQ (aN bD rfl T.z_len PySem.boot_len (af (pv 2) aA)) aD (aw _)) (gY (cU (bI (fP T) hr T.q_zao (af (aa (ak (pv 2))) (af (aa (aV jY (pv 2) (dH cv aD) (λ _ _ => rfl))) (af (pv 1) aA)))))))) (aR (ai aI)) au)
 (aR (ai aI)))))))))), go _ _ (cB (τ := [.fz _, .fz _, .no, .no, .no, .no, .no]) rfl ?_)⟩
 kln_le
 cases c with
 | no =>
  kd_mark
  refine φ (.tx "nothing") λ r hr => ?_
  have : r = .tx "nothing" := by cases sc <;> exact hr
  rw [this]
  rfl
 | wd z =>
  cases sc with
  | ord ws len =>
   unfold Sc.tr Ce.tr at *
   obtain ⟨k1, k2, k4, k5⟩ := hs
   kd_mark
   refine bR ?_
   kd_mark
   refine Cu rfl Rk.fz ?_
   kd_mark
   refine iK (λ hz => ?_) (λ hz => ?_)
   ·have hm : z ∈ ws := of_decide_eq_true hz
    obtain ⟨j, ej⟩ := xa hm
    have hj : j < ws.length := (j3.mp (lq ej).1).1
    have φ2 := φ (.at ((2 * (j : Int) + 1) * len) (2 * (ws.length : Int))) λ r hr => by
     have hr : r = match vB ws z with
      | some j => .at (My.qv ((2 * (j : Int) + 1) * len) (2 * (ws.length : Int)))
      | none => .tx "unknown" := hr
     rw [hr, ej]
     exact ⟨by lia, (show My.Bd 40 (2 * (ws.length : Int)) by unfold My.Bd; lia).mono (by decide), rfl, ((show My.Bd 40 (2 * (j : Int) + 1) by unfold My.Bd; lia).mul (show My.Bd 13 len by unfold My.Bd; lia)).mono (by decide)⟩
    have hm2 : ((ws.map Tr.str).length : Int) = (ws.length : Int) := by rw [cI]
    kd_mark
    refine AI rfl Rk.fz ej ?_
    kd_mark
    rw [hm2]
    kd_mark
    exact φ2
   ·kd_mark
    refine φ (.tx "unknown") λ r hr => ?_
    have e0 : vB ws z = none := by
     cases e : vB ws z with
     | none => rfl
     | some j => exact absurd (j4 (lq e).1) (of_decide_eq_false hz)
    have hr : r = match vB ws z with
     | some j => .at (My.qv ((2 * (j : Int) + 1) * len) (2 * (ws.length : Int)))
     | none => .tx "unknown" := hr
    rw [hr, e0]
    rfl
  | _ => exact hc.elim
 | day x =>
  cases sc with
  | day f l len =>
   unfold Sc.tr Ce.tr at *
   obtain ⟨k1, k2, k3, k4, k5⟩ := hs
   obtain ⟨x0, x1⟩ := (show 0 <= x /\ x <= 4000000 from hc)
   have φ1 : (x < f ∨ l < x) -> Φ (.fz (.str "outside")) := λ z => φ (.tx "outside") λ r hr => by
    have hr : r = if f <= x /\ x <= l then .at (My.qv ((x - f) * len) (l - f)) else .tx "outside" := hr
    rw [hr, gS (by lia)]
    rfl
   kd_mark
   refine aO (by decide) ?_
   kd_mark
   refine aO (by decide) ?_
   kd_mark
   refine bR ?_
   kd_mark
   refine aY (λ y1 => ?_) (λ y1 => ?_)
   ·kd_mark
    exact φ1 (.inl y1)
   kd_mark
   refine aY (λ y2 => ?_) (λ y2 => ?_)
   ·kd_mark
    exact φ1 (.inr y2)
   have φ2 := φ (.at ((x - f) * len) (l - f)) λ r hr => by
    have hr : r = if f <= x /\ x <= l then .at (My.qv ((x - f) * len) (l - f)) else .tx "outside" := hr
    rw [hr, i9 (by lia)]
    exact ⟨by lia, (show My.Bd 40 (l - f) by unfold My.Bd; lia).mono (by decide), rfl, ((show My.Bd 40 (x - f) by unfold My.Bd; lia).mul (show My.Bd 13 len by unfold My.Bd; lia)).mono (by decide)⟩
   kd_mark
   exact φ2
  | _ => exact hc.elim
 | num e f =>
  have c3 : cR e f := by cases sc <;> first | exact hc | exact hc.elim
  have hb300 : NB 300 (e, f) := ⟨c3.pos, c3.ba.mono (by decide), c3.bb.mono (by decide)⟩
  by_cases ht : ∃ p low many len, sc = .tur p low many len
  ·obtain ⟨p, low, many, len, rfl⟩ := ht
   unfold Ce.tr at *
   kd_mark
   refine aO (by decide) ?_
   kd_mark
   refine bR ?_
   kd_mark
   intro _ _
   refine ⟨p, low, many, len, e, f, rfl, hs, hc, λ lp hl => ?_⟩
   have := φ lp hl
   kd_mark
   exact this
  obtain ⟨ps, k0, hp, φA, φO, φG, hpre⟩ : ∃ ps : List Pi6, ps ≠ [] /\ (∀ x ∈ ps, mS x) /\ (∀ x, ps.find? (hR e f) = some x -> Φ (.fz (yz e f x).tr)) /\ (ps.find? (hR e f) = none -> lW e f ps = false -> Φ (.fz (.str "outside"))) /\ (ps.find? (hR e f) = none -> lW e f ps = true -> Φ (.fz (.str "gap"))) /\ ((∃ a b c d len, sc = .str a b c d len /\ ps = [(a, b, c, d, 0, len)]) ∨ ∃ len, sc = .brk ps len) := by
   cases sc with
   | str a b c d len =>
    obtain ⟨k1, k2, k3, k4, k5⟩ := hs
    have k0 : ([(a, b, c, d, 0, len)] : List Pi6) ≠ [] := by nofun
    have hp : ∀ x ∈ ([(a, b, c, d, 0, len)] : List Pi6), mS x := λ x hx => by
     cases j7.mp hx
     exact ⟨k1, k2, k3, Int.le_refl 0, by show (0 : Int) < len; lia, k5⟩
    have pl : ∀ r, pd (.str a b c d len) (.num e f) r -> r = if oJ e f a b c d = true then .at (tj e f (a, b, c, d, 0, len)) else .tx "outside" := λ r hr => by
     have hr : r = if oJ e f a b c d = true then .at ((My.qv e f - My.qv a b) / (My.qv c d - My.qv a b) * (len : Rat)) else .tx "outside" := hr
     rw [hr]
     have e1 : tj e f (a, b, c, d, 0, len) = (My.qv e f - My.qv a b) / (My.qv c d - My.qv a b) * (len : Rat) := by
      show ((0 : Int) : Rat) + (My.qv e f - My.qv a b) / (My.qv c d - My.qv a b) * ((len - 0 : Int) : Rat) = _
      rw [Int.sub_zero, show ((0 : Int) : Rat) = 0 from rfl, Rat.zero_add]
     rw [e1]
    have φA : ∀ x, ([(a, b, c, d, 0, len)] : List Pi6).find? (hR e f) = some x -> Φ (.fz (yz e f x).tr) := λ x hx => φ (yz e f x) λ r hr => by
     have mx := List.mem_of_find?_eq_some hx
     have hw := List.find?_some hx
     have gx := hp x mx
     cases j7.mp mx
     have hw : oJ e f a b c d = true := hw
     rw [pl r hr, i9 hw]
     exact wM c3 gx
    have φO : ([(a, b, c, d, 0, len)] : List Pi6).find? (hR e f) = none -> lW e f [(a, b, c, d, 0, len)] = false -> Φ (.fz (.str "outside")) := λ hn _ => φ (.tx "outside") λ r hr => by
     have hw : ¬ oJ e f a b c d = true := List.find?_eq_none.mp hn _ kv
     rw [pl r hr, gS hw]
     rfl
    have φG : ([(a, b, c, d, 0, len)] : List Pi6).find? (hR e f) = none -> lW e f [(a, b, c, d, 0, len)] = true -> Φ (.fz (.str "gap")) := λ hn ho => by
     have hw : ¬ oJ e f a b c d = true := List.find?_eq_none.mp hn _ kv
     exact absurd ho hw
    exact ⟨_, k0, hp, φA, φO, φG, .inl ⟨_, _, _, _, _, rfl, rfl⟩⟩
   | brk ps len =>
    obtain ⟨k0, kl, k1, k2, k3⟩ := hs
    have hp : ∀ x ∈ ps, mS x := k1
    have pl : ∀ r, pd (.brk ps len) (.num e f) r -> r = match ps.find? (hR e f) with
     | some x => .at (tj e f x)
     | none => .tx (if lW e f ps = true then "gap" else "outside") := λ r hr => hr
    have φA : ∀ x, ps.find? (hR e f) = some x -> Φ (.fz (yz e f x).tr) := λ x hx => φ (yz e f x) λ r hr => by
     rw [pl r hr, hx]
     exact wM c3 (hp x (List.mem_of_find?_eq_some hx))
    have φO : ps.find? (hR e f) = none -> lW e f ps = false -> Φ (.fz (.str "outside")) := λ hn ho => φ (.tx "outside") λ r hr => by
     rw [pl r hr, hn, ho]
     rfl
    have φG : ps.find? (hR e f) = none -> lW e f ps = true -> Φ (.fz (.str "gap")) := λ hn ho => φ (.tx "gap") λ r hr => by
     rw [pl r hr, hn, ho]
     rfl
    exact ⟨ps, k0, hp, φA, φO, φG, .inr ⟨_, rfl⟩⟩
   | tur => exact absurd ⟨_, _, _, _, rfl⟩ ht
   | _ => exact hc.elim
  refine Ip (λ τ => ∃ u1 u2 u3 u4 : Sl, τ = [.fz sc.tr, .fz (.tup [.int e, .int f]), .fz (.lst (ps.map iZ)), u1, u2, u3, u4] ∨ (Gt τ 2 (.own (.lst (ps.map iZ))) /\ jJ τ 2 (.fz (.lst (ps.map iZ))) [.fz sc.tr, .fz (.tup [.int e, .int f]), .fz (.lst (ps.map iZ)), u1, u2, u3, u4])) ?_ ?_
  ·rcases hpre with ⟨a, b, c, d, len, rfl, rfl⟩ | ⟨len, rfl⟩
   ·unfold Sc.tr Ce.tr N2
    kd_mark
    refine aO (by decide) ?_
    kd_mark
    refine aO (by decide) ?_
    kd_mark
    refine aO (by decide) ?_
    kd_mark
    refine KR (ts := [.str "straight", .tup [.int a, .int b], .tup [.int c, .int d], .int len]) rfl Rk.fz (show ¬ (HT.sIx 4 0 (some 1) = 0 /\ HT.sIx 4 4 (some 3) = 4) by decide) ?_
    kd_mark
    refine xz (ts := [.tup [.int a, .int b], .tup [.int c, .int d]]) (us := [.int 0, .int len]) rfl Rk.fz Rk.fz (by nofun) (show (4 : Nat) <= 100000 by decide) ?_
    kd_mark
    refine aO (by decide) ?_
    kd_mark
    rw [show [Tr.tup ([Tr.tup [Tr.int a, Tr.int b], Tr.tup [Tr.int c, Tr.int d]] ++ [Tr.int 0, Tr.int len])] = [(a, b, c, d, 0, len)].map iZ from rfl]
    exact ⟨_, _, _, _, .inr ⟨by kt_join, by acc_open⟩⟩
   ·unfold Sc.tr Ce.tr N2
    kd_mark
    refine aO (by decide) ?_
    kd_mark
    refine aO (by decide) ?_
    kd_mark
    refine aO (by decide) ?_
    kd_mark
    refine KR (ts := [.str "broken", .lst (ps.map iZ), .int len]) rfl Rk.fz (show ¬ (HT.sIx 3 0 (some 1) = 0 /\ HT.sIx 3 3 (some 3) = 3) by decide) ?_
    kd_mark
    refine xz (ts := [.lst (ps.map iZ), .int len]) (us := [.int 0, .int len]) rfl Rk.fz Rk.fz (by nofun) (show (4 : Nat) <= 100000 by decide) ?_
    kd_mark
    refine bR ?_
    kd_mark
    exact ⟨_, _, _, _, .inl rfl⟩
  rintro τ ⟨u1, u2, u3, u4, hu⟩
  refine GV hu ?_
  kd_mark
  refine ⟨λ j τ => (∃ u1 u2 u3 u4 : Sl, τ = [.fz sc.tr, .fz (.tup [.int e, .int f]), .fz (.lst (ps.map iZ)), u1, u2, u3, u4]) /\ ∀ k x, k < j -> ps[k]? = some x -> hR e f x = false, ⟨⟨_, _, _, _, rfl⟩, λ k ch hk => by lia⟩, ?_, ?_⟩
  ·rintro j tt τ hj ⟨⟨u1, u2, u3, u4, rfl⟩, hk⟩
   have hj : (ps.map iZ)[j]? = some tt := hj
   obtain ⟨x, ex, rfl⟩ : ∃ x, ps[j]? = some x /\ tt = iZ x := by
    rw [jb] at hj
    cases e : ps[j]? with
    | none => rw [e] at hj; cases hj
    | some c => rw [e] at hj; cases hj; exact ⟨c, rfl, rfl⟩
   have gx := hp x (j4 ex)
   have fx : hR e f x = true -> ps.find? (hR e f) = some x := λ z => xi hk ex z
   obtain ⟨a1, b1, c1, d1, s1, t1⟩ := x
   obtain ⟨x1, x2, x3, x4, x5, x6⟩ := gx
   have x4 : 0 <= s1 := x4
   have x5 : s1 < t1 := x5
   have x6 : t1 <= 4000 := x6
   unfold iZ N2 at *
   kd_mark
   intro _ _
   refine ⟨(a1, b1), (c1, d1), (e, f), rfl, ⟨x1.pos, x1.ba.mono (by decide), x1.bb.mono (by decide)⟩, ⟨x2.pos, x2.ba.mono (by decide), x2.bb.mono (by decide)⟩, hb300, ?_⟩
   kd_mark
   refine iK (λ hin => ?_) (λ hin => ?_)
   ·kd_mark
    intro _ _
    refine ⟨(a1, b1), (c1, d1), (e, f), s1, t1, 260, 260, rfl, ⟨x1.ba, x1.bb⟩, ⟨x2.ba, x2.bb⟩, hb300, DW (by lia) (by lia), DW (by lia) (by lia), by decide, ?_⟩
    have := φA _ (fx hin)
    kd_mark
    exact this
   ·kd_mark
    refine ⟨⟨_, _, _, _, rfl⟩, λ k c hkk hc => ?_⟩
    rcases (show k < j ∨ k = j by lia) with z | z
    ·exact hk k c z hc
    ·subst z
     rw [ex] at hc
     cases hc
     exact hin
  ·rintro τ ⟨⟨u1, u2, u3, u4, rfl⟩, hk⟩
   have hk : ∀ k x, k < ps.length -> ps[k]? = some x -> hR e f x = false := λ k x h1 h2 => hk k x (by first | exact h1 | (rw [cI]; exact h1)) h2
   have hno := CI hk
   obtain ⟨x, y, hx, hy, mx, my, ax, ay⟩ := Bq k0
   have eo : lW e f ps = oJ e f x.1 x.2.1 y.2.2.1 y.2.2.2.1 := by unfold lW; rw [hx, hy]
   have hl2 : ((ps.map iZ).length : Int) = (ps.length : Int) := by rw [cI]
   kd_mark
   rw [hl2]
   refine aY (λ h1 => ?_) (λ h1 => ?_)
   ·kd_mark
    refine aW rfl Rk.fz ax ?_
    obtain ⟨a1, b1, c1, d1, s1, t1⟩ := x
    obtain ⟨a2, b2, c2, d2, s2, t2⟩ := y
    have gx := hp _ mx
    have gy := hp _ my
    unfold iZ N2 at *
    kd_mark
    refine aW rfl Rk.fz ay ?_
    kd_mark
    intro _ _
    refine ⟨(a1, b1), (c2, d2), (e, f), rfl, ⟨gx.1.pos, gx.1.ba.mono (by decide), gx.1.bb.mono (by decide)⟩, ⟨gy.2.1.pos, gy.2.1.ba.mono (by decide), gy.2.1.bb.mono (by decide)⟩, hb300, ?_⟩
    kd_mark
    refine iK (λ hin => ?_) (λ hin => ?_)
    ·kd_mark
     exact φG hno (eo.trans hin)
    ·kd_mark
     exact φO hno (eo.trans hin)
   ·kd_mark
    refine φO hno ?_
    rw [eo]
    have h1 : ps.length = 1 := by have : 0 < ps.length := List.length_pos_iff.mpr k0; lia
    obtain ⟨x', rfl⟩ := List.length_eq_one_iff.mp h1
    cases hx
    cases hy
    exact hk 0 _ Nat.zero_lt_one rfl
structure NA (n m : Nat) (x : NP) : Prop where
 pos : 0 < x.2
 ba : My.Bd n x.1
 bb : My.Bd m x.2
theorem NA.mono {n' m' : Nat} {x : NP} (h : NA n m x) (h1 : n <= n') (h2 : m <= m') : NA n' m' x := ⟨h.pos, h.ba.mono h1, h.bb.mono h2⟩
theorem jf {t : Int} (hb : 0 < b) (h1 : My.Bd n t) (h2 : My.Bd m b) : NA n m (hV t b) := ⟨eY hb, vU hb h1, jq hb h2⟩
theorem gR {n' m' N : Nat} {x y : NP} (h : NA n m x) (g : NA n' m' y) (h1 : n + m' <= N) (h2 : n' + m <= N) : NA (N + 1) (m + m') (cD x y) :=
 jf (r8 h.pos g.pos) (((h.ba.mul g.bb).mono h1).add ((g.ba.mul h.bb).mono h2)) (h.bb.mul g.bb)
theorem Ei {x : NP} (h : NA n m x) : NA n m (nB x) := ⟨h.pos, h.ba.neg, h.bb⟩
theorem nY {lo hi : NP} {g : Int} (h1 : NA 120 60 lo) (h2 : NA 120 60 hi) (hg : 0 < g) (hf : My.Bd 15 f) (hgb : My.Bd 15 g) : NA 260 260 (jQ lo hi f g) := by
 have s := gR (N := 180) h2 (Ei h1) (by decide) (by decide)
 have l := jf (t := (cD hi (nB lo)).1 * f) (b := (cD hi (nB lo)).2 * g) (r8 s.pos hg) (s.ba.mul hf) (s.bb.mul hgb)
 exact (gR (N := 256) h1 l (by decide) (by decide)).mono (by decide) (by decide)
theorem Hw (tp : cw ds tops26) : NA 60 6 (Cz ds) := by
 obtain ⟨h, g⟩ := qb tp
 refine ⟨g.pos, g.ba, ?_⟩
 have b4 := h.at (k := 4) (by decide) rfl
 have hb : 0 < fL ((ds.drop 1).take 5) := by unfold fL; split <;> lia
 have hb2 : fL ((ds.drop 1).take 5) <= 60 := by unfold fL; split <;> rename_i z <;> simp only [sa] at z <;> lia
 exact jq (t := iE ((ds.drop 1).take 5)) hb (by unfold My.Bd; lia)
theorem Hj (tp : cw ds tops26) {k n m : Nat} (hk : k < 4) {lo : NP} (h : NA n m lo) (hn : m + 4 <= n) : NA (n + 7) (m + 6) (zg ds k lo) /\ NA (n + 14) (m + 12) (LG ds k lo) := by
 have t4 := mj tp hk
 have c2 := t4.at (k := 2) (by decide) rfl
 have c3 := t4.at (k := 3) (by decide) rfl
 have b8 := tp.at (k := 8) (by decide) rfl
 have b9 := tp.at (k := 9) (by decide) rfl
 have l1 := jf (n := 10) (m := 6) (t := 1 + dg (e4 ds k) 2) (b := 1 + dg ds 8) (by lia) (by unfold My.Bd; lia) (by unfold My.Bd; lia)
 have l2 := jf (n := 10) (m := 6) (t := 1 + dg (e4 ds k) 3) (b := 1 + dg ds 9) (by lia) (by unfold My.Bd; lia) (by unfold My.Bd; lia)
 have h1 := gR (N := n + 6) h l1 (by lia) (by lia)
 have h2 := gR (N := n + 13) h1 l2 (by lia) (by lia)
 exact ⟨h1, h2⟩
theorem BL (tp : cw ds tops26) : ∀ (n k : Nat) (lo : NP) (p : Int), k + n <= 4 -> NA (60 + 14 * k) (6 + 12 * k) lo -> ∀ x ∈ gI ds k lo p n, NA 120 60 (x.1, x.2.1) /\ NA 120 60 (x.2.2.1, x.2.2.2.1)
 | 0, _, _, _, _, _, x, h => absurd h mV
 | n + 1, k, lo, p, hk, h, x, hx => by
  obtain ⟨h1, h2⟩ := Hj tp (show k < 4 by lia) h (by lia)
  rcases j8.mp hx with e | e
  ·subst e
   exact ⟨h.mono (by lia) (by lia), h1.mono (by lia) (by lia)⟩
  ·exact BL tp n (k + 1) _ _ (by lia) (h2.mono (by lia) (by lia)) x e
def FA : Sc -> Prop
 | .str a b c d _ => NA 120 60 (a, b) /\ NA 120 60 (c, d)
 | .brk ps _ => ∀ x ∈ ps, NA 120 60 (x.1, x.2.1) /\ NA 120 60 (x.2.2.1, x.2.2.2.1)
 | .tur p _ _ _ => p = 2 ∨ p = 10
 | _ => True
theorem uf (tp : cw ds tops26) : FA (dA k ds) := by
 have b6 := tp.at (k := 6) (by decide) rfl
 have b7 := tp.at (k := 7) (by decide) rfl
 have b8 := tp.at (k := 8) (by decide) rfl
 have l := Hw tp
 unfold dA
 split
 ·have pb := mY (k := dg ds 6) (a := 10) (b := 1000) (c := 1000000000) (m := 1000000000) (by decide) (by decide) (by decide)
  have sp0 : 0 < du ds := by have := nW (dg ds 7) (show tW (dg ds 6) 10 1000 1000000000 ≠ 0 by lia); unfold du; lia
  have sp1 : du ds <= 1000000000 := by have := lb (dg ds 7) pb.1; unfold du; lia
  have l1 := jf (n := 31) (m := 6) (t := du ds) (b := 1 + dg ds 8) (by lia) (by unfold My.Bd; lia) (by unfold My.Bd; lia)
  exact ⟨l.mono (by decide) (by decide), (gR (N := 66) l l1 (by decide) (by decide)).mono (by decide) (by decide)⟩
 split
 ·show xO (dg ds 1) (2 : Int) 10 = 2 ∨ xO (dg ds 1) (2 : Int) 10 = 10
  unfold xO; split; exact .inl rfl; exact .inr rfl
 split
 ·exact BL tp _ 0 _ _ (by lia) l
 split <;> exact trivial
theorem tF {e : List Int} (hs : jL s) (hm : FA s) (tp : cw e kR) : uy s (fZ s e) := by
 have b0 := tp.at (k := 0) (by decide) rfl
 have b1 := tp.at (k := 1) (by decide) rfl
 have b2 := tp.at (k := 2) (by decide) rfl
 have b3 := tp.at (k := 3) (by decide) rfl
 have b4 := tp.at (k := 4) (by decide) rfl
 have len4 : 1 <= s.len /\ s.len <= 4000 := by
  cases s with
  | str a b c d len => exact ⟨hs.2.2.2.1, hs.2.2.2.2⟩
  | tur p low many len => exact ⟨hs.2.2.2.2.2.2.1, hs.2.2.2.2.2.2.2⟩
  | brk ps len => exact ⟨hs.2.2.2.1, hs.2.2.2.2⟩
  | day f l len => exact ⟨hs.2.2.2.1, hs.2.2.2.2⟩
  | ord ws len => exact ⟨hs.2.2.1, hs.2.2.2⟩
 have g0 : 0 < (eh s e).2 /\ (eh s e).2 <= 8000 := by
  show 0 < uA (dg e 2) (1 + dg e 3 % 12) (2 * s.len) (1 + dg e 3 % 1000) 2 /\ uA (dg e 2) (1 + dg e 3 % 12) (2 * s.len) (1 + dg e 3 % 1000) 2 <= 8000
  unfold uA
  split
  ·lia
  split
  ·lia
  split <;> lia
 have f0 : 0 <= (eh s e).1 /\ (eh s e).1 <= (eh s e).2 := by
  have h1 := nW (dg e 1) (show (eh s e).2 + 1 ≠ 0 by lia)
  have h2 := lb (dg e 1) (show 0 < (eh s e).2 + 1 by lia)
  show 0 <= dg e 1 % ((eh s e).2 + 1) /\ dg e 1 % ((eh s e).2 + 1) <= (eh s e).2
  lia
 have f2 : -16005 <= eX s e /\ eX s e <= 16005 := by unfold eX; split <;> split <;> lia
 have f3 : My.Bd 15 (eX s e) := by unfold My.Bd; lia
 have g3 : My.Bd 15 (eh s e).2 := by unfold My.Bd; lia
 have up : ∀ x : NP, NA 260 260 x -> cR x.1 x.2 := λ x h => ⟨h.pos, h.ba, h.bb⟩
 unfold fZ
 split
 ·cases s <;> exact trivial
 cases s with
 | ord ws len => show uy (.ord ws len) (if _ then _ else _); split <;> exact trivial
 | tur p low many len => exact BQ hm f0.1 f0.2 g0.1 (by lia)
 | day f l len =>
  show 0 <= fZ.clampD _ /\ fZ.clampD _ <= 4000000
  unfold fZ.clampD
  split <;> split <;> constructor <;> lia
 | str a b c d len => exact up _ (nY hm.1 hm.2 g0.1 f3 g3)
 | brk ps len =>
  have hl : 0 < ps.length := List.length_pos_iff.mpr hs.1
  have m0 := nW (dg e 4) (show (ps.length : Int) ≠ 0 by lia)
  have m1 := lb (dg e 4) (show 0 < (ps.length : Int) by lia)
  show uy (.brk ps len) (if _ then _ else _)
  have h1 := hm _ (Ds m0 m1).2
  split
  ·rename_i z
   have h2 := hm _ (Ds (ps := ps) (k := dg e 4 % (ps.length : Int) - 1) (by lia) (by lia)).2
   exact up _ (nY h2.2 h1.1 g0.1 f3 g3)
  ·exact up _ (nY h1.1 h1.2 g0.1 f3 g3)
noncomputable def tops22 : List Int := [4, 1000000, 6, 3, 3, 1000000000, 1000000000] ++ (kR ++ kR ++ kR)
noncomputable def Jc {α : Type} (k : Int) (a b c d e f : α) : α := if k = 0 then a else if k = 1 then b else if k = 2 then c else if k = 3 then d else if k = 4 then e else f
theorem Ls {a b c d e f : α} (h0 : 0 <= k) (h1 : k < 6) : eP [a, b, c, d, e, f] k = some (Jc k a b c d e f) := by
 rcases (show k = 0 ∨ k = 1 ∨ k = 2 ∨ k = 3 ∨ k = 4 ∨ k = 5 by lia) with z | z | z | z | z | z <;> subst z <;> rfl
theorem wt : Jc k (Tr.int a) (.int b) (.int c) (.int d) (.int e) (.int f) = .int (Jc k a b c d e f) := by unfold Jc; split; rfl; split; rfl; split; rfl; split; rfl; split <;> rfl
def iI (c : Int) : List Int := bz c tops22
noncomputable def qP (c o : Int) : Int := o + uA (dg (iI c) 0) 0 1 (2 + dg (iI c) 1 % 9) (1 + dg (iI c) 1)
noncomputable def BO (c : Int) : Int := Jc (dg (iI c) 2) (dg (iI c) 3) (dg (iI c) 3) (dg (iI c) 3) (dg (iI c) 3) (dg (iI c) 5 % 60) (dg (iI c) 5)
noncomputable def JF (c : Int) : Int := Jc (dg (iI c) 2) (dg (iI c) 4) 0 (BO c % 12) (dg (iI c) 4) (dg (iI c) 6) (dg (iI c) 4 * 7)
noncomputable def MQ (c : Int) : Int := 1 + dg (iI c) 6 % (if decide (dg (iI c) 2 = 4) = true then 1000000000 else 20)
noncomputable def sT (xs : List Itm) (c : Int) (x : Ce) : Ce := if dg (iI c) 18 % 5 = 0 then (match xs.getLast? with | some i => i.x | none => x) else x
noncomputable def Bg (f : Fd) (c o : Int) (xs : List Itm) : Itm := ⟨qP c o, sT xs c (fZ f.sx (((iI c).drop 7).take 5)), fZ f.sy (((iI c).drop 12).take 5), .no, BO c, JF c, MQ c⟩
noncomputable def eI (cs : List Int) : Nat -> Int
 | 0 => 0
 | j + 1 => qP (cs.getD j 0) (eI cs j) + 1
noncomputable def bA (f : Fd) (cs : List Int) : Nat -> List Itm
 | 0 => []
 | j + 1 => bA f cs j ++ [Bg f (cs.getD j 0) (eI cs j) (bA f cs j)]
theorem eM (f : Fd) (cs : List Int) (j : Nat) : bA f cs (j + 1) = bA f cs j ++ [Bg f (cs.getD j 0) (eI cs j) (bA f cs j)] := rfl
theorem Eg {xs : List Itm} (h : xs.getLast? = some i) : eP (xs.map Itm.tr) (-1) = some i.tr := by
 obtain ⟨ys, rfl⟩ := List.getLast?_eq_some_iff.mp h
 rw [oM]
 exact L2.atI_last _ _
theorem iq (f : Fd) (cs : List Int) : ∀ j, (bA f cs j).length = j
 | 0 => rfl
 | j + 1 => by rw [eM, nh, iq f cs j]; rfl
theorem rO : ∀ t ∈ tops22, 0 < t /\ t <= 1000000000 := by decide
theorem je (c : Int) : cw (iI c) tops22 := lM rO
def zk : SpT := λ _ as Φ _ => ∃ (cs : List Int) (f : Fd), as = [.fz (.lst (cs.map Tr.int)), .fz f.tr] /\ cs.length <= 100 /\ jM f /\ FA f.sx /\ FA f.sy /\ Φ (.nw (.lst ((bA f cs cs.length).map Itm.tr)))
theorem rQ (T : cO K mg t) : FO P w base T.q_zbp 6 (bE K zk) := by
 open_k with T.q_zbp.F.ok bi
 obtain ⟨cs, f, rfl, hl, hf, hsx, hsy, φ⟩ := hS
 have tx : ∀ p low many len, f.sx = .tur p low many len -> p = 2 ∨ p = 10 := λ p low many len e => by rw [e] at hsx; exact hsx
 have ty : ∀ p low many len, f.sy = .tur p low many len -> p = 2 ∨ p = 10 := λ p low many len e => by rw [e] at hsy; exact hsy
 unfold Fd.tr at *
 refine ⟨_, (aJ (ag (i := 2) bi.nd rfl (Or.inl rfl) (aT aA))
 (aJ (ag (i := 3) bi.nd rfl (Or.inl rfl) aD)
 (aJ (cm o4 rfl (br (pv 0)) (az (i := 4) bi.nd rfl (Or.inl rfl)) (aJ (ag (i := 5) bi.nd rfl (Or.inl rfl) (bI (lI T) hr T.q_zaw (af (pv 4) (af (ac gT (aT (af aD (af (ac dE aD aD) (af aD (af aD (af aD (af (ac dE aD aD) (af (ac dE aD aD) aA)))))))) (ac zX (aT (af aD (af (ac dE aD aD) (af aD (af (ac dE aD aD) (af aD aA)))))) aD)) aA))))
 (aJ (ag (i := 3) bi.nd rfl (Or.inl rfl) (ac aC (pv 3) (aV jY (aT (af aD (af aD (af (ac aC aD (ac aQ (ak (pv 5)) aD)) (af (ac aC aD (ak (pv 5))) aA))))) (ak (pv 5)) (λ _ _ => rfl))))
 (aJ (ag (i := 6) bi.nd rfl (Or.inl rfl) (aV jY (aT (af (ak (pv 5)) (af (ak (pv 5)) (af (ak (pv 5)) (af (ak (pv 5)) (af (ac aQ (ak (pv 5)) aD) (af (ak (pv 5)) aA))))))) (ak (pv 5)) (λ _ _ => rfl)))
 (aJ (ag (i := 7) bi.nd rfl (Or.inl rfl) (aV jY (aT (af (ak (pv 5)) (af aD (af (ac aQ (pv 6) aD) (af (ak (pv 5)) (af (ak (pv 5)) (af (ac dQ (ak (pv 5)) aD) aA))))))) (ak (pv 5)) (λ _ _ => rfl)))
 (aJ (ag (i := 8) bi.nd rfl (Or.inl rfl) (bI (oj T) hr T.q_zaz (af (aa (pv 1)) (af (cS et (pv 5) (bS aD) (bS aD)) aA))))
 (aJ (ag (i := 9) bi.nd rfl (Or.inl rfl) (bI (oj T) hr T.q_zaz (af (aa (pv 1)) (af (cS et (pv 5) (bS aD) (bS aD)) aA))))
 (aJ (ag (i := 10) bi.nd rfl (Or.inl rfl) kP)
 (aJ (aK (PW.pt (kC (aj bB (ac aQ (ak (pv 5)) aD) aD (aw _)) (gY (aj (Hv hr.units0) (pv 2) (aT aA) (aw _))))) (aR (ag (i := 8) bi.nd rfl (Or.inl rfl) (aa (aV jY (pv 2) (dH cv aD) (λ _ _ => rfl))))) au)
 (aJ (bU (dw ld o7 o8 bn (pv 2) (af (aL (af (pv 3) (af (pv 8) (af (pv 9) (af (pv 10) (af (pv 6) (af (pv 7) (af (ac aC aD (ac aQ (ak (pv 5)) (aV jY (aT (af aD (af (ac dE aD aD) aA))) (gZ pN rfl T.z_int qT (af (fN bB (ak (pv 5)) aD (aw _)) aA)) (λ _ _ => rfl)))) aA)))))))) aA)))
 (aR (ag (i := 3) bi.nd rfl (Or.inl rfl) (ac aC (pv 3) aD)))))))))))))
 (aR (ai (pv 2)))))), go _ _ (cB (τ := [.fz _, .fz _, .no, .no, .no, .no, .no, .no, .no, .no, .no]) rfl ?_)⟩
 kln_le
 kd_mark
 refine ⟨λ j τ => ∃ u1 u2 u3 u4 u5 u6 u7 : Sl, τ = [.fz (.lst (cs.map Tr.int)), .fz (.tup [f.sx.tr, f.sy.tr, .int f.x0, .int f.y0, .int f.w, .int f.h]), .own (.lst ((bA f cs j).map Itm.tr)), .fz (.int (eI cs j)), u1, u2, u3, u4, u5, u6, u7], ⟨_, _, _, _, _, _, _, rfl⟩, ?_, ?_⟩
 ·rintro j tt τ hj ⟨u1, u2, u3, u4, u5, u6, u7, rfl⟩
  obtain ⟨c, ec, rfl⟩ : ∃ c, cs[j]? = some c /\ tt = .int c := by
   rw [jb] at hj
   cases e : cs[j]? with
   | none => rw [e] at hj; cases hj
   | some c => rw [e] at hj; cases hj; exact ⟨c, rfl, rfl⟩
  have ed : cs.getD j 0 = c := by rw [nO, ec]; rfl
  have tp := je c
  have tl : (iI c).length = 22 := tp.l
  have b0 := tp.at (k := 0) (by decide) rfl
  have b1 := tp.at (k := 1) (by decide) rfl
  have b2 := tp.at (k := 2) (by decide) rfl
  have b3 := tp.at (k := 3) (by decide) rfl
  have b4 := tp.at (k := 4) (by decide) rfl
  have b5 := tp.at (k := 5) (by decide) rfl
  have b6 := tp.at (k := 6) (by decide) rfl
  kd_mark
  refine gU rfl Rk.fz Rk.fz (by decide) ?_
  kd_mark
  intro _ _
  change oB _ [.fz (.int c), .fz (.lst (tops22.map Tr.int))] _ _
  refine ⟨c, tops22, rfl, by decide, rO, ?_⟩
  change GA B _ (.nw (.lst ((iI c).map Tr.int))) _ _
  kd_mark
  refine aW rfl Rk.fz (yH b0.1 b0.2) ?_
  rw [hI]
  kd_mark
  refine aW rfl Rk.fz (Ls b2.1 b2.2) ?_
  rw [wt]
  kd_mark
  refine aW rfl Rk.fz (Ls b2.1 b2.2) ?_
  rw [wt]
  kd_mark
  intro _ _
  rw [show jj ((iI c).map Tr.int) (some 7) (some 12) = (((iI c).drop 7).take 5).map Tr.int from eJ _ 7 12]
  refine ⟨_, _, rfl, hf.x, tx, (tp.drop 7).take 5, ?_⟩
  kd_mark
  intro _ _
  rw [show jj ((iI c).map Tr.int) (some 12) (some 17) = (((iI c).drop 12).take 5).map Tr.int from eJ _ 12 17]
  refine ⟨_, _, rfl, hf.y, ty, (tp.drop 12).take 5, ?_⟩
  kby_none
  have il := iq f cs j
  have hjl : j < cs.length := (j3.mp ec).1
  have b18 := tp.at (k := 18) (by decide) rfl
  refine gQ (λ τ' => τ' = [.fz (.lst (cs.map Tr.int)), .fz (.tup [f.sx.tr, f.sy.tr, .int f.x0, .int f.y0, .int f.w, .int f.h]), .own (.lst ((bA f cs j).map Itm.tr)), .fz (.int (qP c (eI cs j))), .fz (.int c), .own (.lst ((iI c).map Tr.int)), .fz (.int (BO c)), .fz (.int (JF c)), .fz (sT (bA f cs j) c (fZ f.sx (((iI c).drop 7).take 5))).tr, .fz (fZ f.sy (((iI c).drop 12).take 5)).tr, .fz .non]) ?_ ?_
  ·unfold sT
   kd_mark
   refine aY (λ h5 => ?_) (λ h5 => ?_)
   ·rw [i9 h5]
    kd_mark
    refine IC rfl (by dl_open) (by dl_open) ?_
    cases hl : (bA f cs j).getLast? with
    | none =>
     have e0 : bA f cs j = [] := List.getLast?_eq_none_iff.mp hl
     rw [e0]
     refine ⟨false, rfl, ?_⟩
     refine fB ?_
     kd_mark
     rfl
    | some il2 =>
     have e0 : bA f cs j ≠ [] := λ z => by rw [z] at hl; cases hl
     have ne : ((bA f cs j).map Itm.tr).isEmpty = false := by
      cases hh : bA f cs j with
      | nil => exact absurd hh e0
      | cons x r => rfl
     rw [ne]
     refine ⟨true, rfl, ?_⟩
     refine jH ?_
     have hat : eP ((bA f cs j).map Itm.tr) (-1) = some il2.tr := Eg hl
     kd_mark
     refine aW rfl (by dl_open) hat ?_
     unfold Itm.tr
     kd_mark
     rfl
   ·rw [gS h5]
    kd_mark
    rfl
  ·rintro τ' rfl
   kd_mark
   refine aW rfl Rk.fz Jm ?_
   rw [ifI]
   refine KH (show 0 < (if decide (dg (iI c) 2 = 4) = true then (10 : Int) ^ (9 : Int).toNat else 20) by split <;> decide) ?_
   have e1 : (bA f cs (j + 1)).map Itm.tr = (bA f cs j).map Itm.tr ++ [(Bg f c (eI cs j) (bA f cs j)).tr] := by rw [eM, ed, oM]; rfl
   have wl : ((bA f cs j).map Itm.tr).length <= 10000 := by rw [cI]; lia
   have e2 : eI cs (j + 1) = qP c (eI cs j) + 1 := by rw [<- ed]; rfl
   kd_mark
   simp only [e1, e2]
   exact ⟨_, _, _, _, _, _, _, rfl⟩
 ·rintro τ ⟨u1, u2, u3, u4, u5, u6, u7, rfl⟩
  rw [cI]
  kd_mark
  exact AX (by kt_join) φ
theorem BR (h1 : Ge p e f E) (h2 : ¬ Ge p e f (E + 1)) : ic p e f E := by
 unfold Ge at *
 constructor
 ·intro z
  have b1 : (-E).toNat = 0 := by lia
  have b2 : (-(E + 1)).toNat = 0 := by lia
  have b3 : (E + 1).toNat = E.toNat + 1 := by lia
  rw [b1, o9, rn] at h1
  rw [b2, b3, o9, rn] at h2
  exact ⟨h1, by lia⟩
 ·intro z
  have b1 : E.toNat = 0 := by lia
  have b2 : (E + 1).toNat = 0 := by lia
  have b3 : (-(E + 1)).toNat = (-E - 1).toNat := by lia
  rw [b1, o9, rn] at h1
  rw [b2, b3, o9, rn] at h2
  exact ⟨h1, by lia⟩
theorem wL : ∀ (n : Nat) (k : Int), Ge p e f k -> ¬ Ge p e f (k + n) -> ∃ E, Ge p e f E /\ ¬ Ge p e f (E + 1)
 | 0, k, h, g => absurd (by simpa using h) g
 | n + 1, k, h, g => by
  by_cases z : Ge p e f (k + 1)
  ·exact wL n (k + 1) z (by rw [show k + 1 + (n : Int) = k + ((n + 1 : Nat) : Int) by lia]; exact g)
  ·exact ⟨k, h, z⟩
theorem pB (p2 : 2 <= p) (h : My.Bd n x) : x < p ^ n := by
 have h1 : (x.natAbs : Int) < (2 : Int) ^ n := by
  have := h
  unfold My.Bd at this
  exact_mod_cast this
 have h2 : (2 : Int) ^ n <= p ^ n := by
  have : ∀ m : Nat, (2 : Int) ^ m <= p ^ m := λ m => by
   induction m with
   | zero => rw [o9, o9]; exact Int.le_refl _
   | succ m ih =>
    rw [t6, t6]
    exact Int.mul_le_mul ih p2 (by decide) (ut (Int.pow_pos (by lia)))
  exact this n
 lia
theorem Cq (p2 : 2 <= p) (h : cR e f) (he : 0 < e) : ∃ E, ic p e f E := by
 have a1 : Ge p e f (-260) := by
  unfold Ge
  have := pB p2 h.bb
  show f * p ^ 0 <= e * p ^ 260
  rw [o9, rn]
  have h2 : 1 * p ^ 260 <= e * p ^ 260 := tM (by lia) (ut (Int.pow_pos (by lia)))
  generalize p ^ 260 = X at *
  lia
 have a2 : ¬ Ge p e f (-260 + ((520 : Nat) : Int)) := by
  unfold Ge
  have := pB p2 h.ba
  show ¬ f * p ^ 260 <= e * p ^ 0
  rw [o9, rn]
  have h2 : 1 * p ^ 260 <= f * p ^ 260 := tM (by have := h.pos; lia) (ut (Int.pow_pos (by lia)))
  generalize p ^ 260 = X at *
  lia
 obtain ⟨E, g1, g2⟩ := wL 520 (-260) a1 a2
 exact ⟨E, BR g1 g2⟩
theorem HK {c : Ce} (hs : jL s) (hc : uy s c) : ∃ r, pd s c r := by
 cases c with
 | no => cases s <;> exact ⟨_, rfl⟩
 | num e f =>
  cases s with
  | str a b c d len => exact ⟨_, rfl⟩
  | brk ps len => exact ⟨_, rfl⟩
  | tur p low many len =>
   rcases (show e <= 0 ∨ 0 < e by lia) with z | z
   ·exact ⟨_, λ _ => rfl, λ y => by lia⟩
   ·obtain ⟨E, hE⟩ := Cq hs.1 hc z
    exact ⟨_, λ y => by lia, λ _ => ⟨E, hE, rfl⟩⟩
  | day f l len => exact hc.elim
  | ord ws len => exact hc.elim
 | day c =>
  cases s with
  | day f l len => exact ⟨_, rfl⟩
  | _ => exact hc.elim
 | wd z =>
  cases s with
  | ord ws len => exact ⟨_, rfl⟩
  | _ => exact hc.elim
theorem CP {c : Ce} (hs : jL s) (hc : uy s c) : pd s c (rJ s c) := by
 obtain ⟨r, h⟩ := HK hs hc
 exact IR h
theorem tz {c : Ce} (hs : jL s) (hc : uy s c) (q : ∀ lp, vn lp (rJ s c) -> Φ (.fz lp.tr)) : pH B [.fz s.tr, .fz c.tr] Φ Ψ :=
 ⟨s, c, rfl, hs, hc, λ lp h => q lp (h _ (CP hs hc))⟩
theorem FC (h : vn (.tx z) r) : r = .tx z := by
 cases r with
 | tx u => exact congrArg Pl.tx (show z = u from h).symm
 | «at» q => exact h.elim
theorem Fn (h : vn (.at x y) r) : ∃ q, r = .at q /\ 0 < y /\ My.Bd 3900 y /\ My.qv x y = q /\ My.Bd 20000 x := by
 cases r with
 | tx u => exact h.elim
 | «at» q => exact ⟨q, rfl, h⟩
variable {κ : Type}
theorem jG {r : κ -> κ -> Bool} {g : α -> κ} {xs ys : List α} : dJ r (xs.map g) xs ys ↔ ys.Perm xs /\ (ys.map g).Pairwise (λ p q => r p q = true) := by
 have z : ∀ xs : List α, (xs.map g).zip xs = xs.map λ x => (g x, x) := λ xs => by
  induction xs with
  | nil => rfl
  | cons x r ih => rw [kw, List.zip_cons_cons, ih]; rfl
 constructor
 ·rintro ⟨ps, hp, rfl, hs⟩
  rw [z] at hp
  have e : ps.map Prod.fst = (ps.map Prod.snd).map g := by
   rw [q9]
   refine List.map_congr_left λ p hm => ?_
   obtain ⟨x, _, rfl⟩ := m7.mp (hp.mem_iff.mp hm)
   rfl
  rw [<- e]
  refine ⟨?_, hs⟩
  have := hp.map Prod.snd
  rwa [q9, show (Prod.snd ∘ λ x => (g x, x)) = id from rfl, List.map_id] at this
 ·rintro ⟨hp, hs⟩
  refine ⟨ys.map λ x => (g x, x), by rw [z]; exact hp.map _, ?_, ?_⟩
  ·rw [q9, show (Prod.snd ∘ λ x => (g x, x)) = id from rfl, List.map_id]
  ·rw [q9]; exact hs
theorem oH {r : κ -> κ -> Bool} {g : α -> β} {kz : List κ} {xs : List α} {us : List β} (h : dJ r kz (xs.map g) us) : ∃ ys, us = ys.map g /\ dJ r kz xs ys := by
 obtain ⟨ps, hp, rfl, hs⟩ := h
 have z : ∀ (xs : List α) (kz : List κ), Paired (λ (p : κ × α) (q : κ × β) => p.1 = q.1 /\ q.2 = g p.2) (kz.zip xs) (kz.zip (xs.map g)) := by
  intro xs
  induction xs with
  | nil => intro kz; cases kz <;> exact .nil
  | cons x r ih =>
   intro kz
   cases kz with
   | nil => exact .nil
   | cons k kz => exact .cons ⟨rfl, rfl⟩ (ih kz)
 obtain ⟨qs, a, c⟩ := qJ hp (z xs kz)
 have sn : ∀ {ps : List (κ × α)} {qs : List (κ × β)}, Paired (λ (p : κ × α) (q : κ × β) => p.1 = q.1 /\ q.2 = g p.2) ps qs -> qs.map Prod.snd = (ps.map Prod.snd).map g /\ ps.map Prod.fst = qs.map Prod.fst := λ {ps qs} c => by
  induction c with
  | nil => exact ⟨rfl, rfl⟩
  | cons h _ ih => exact ⟨by rw [kw, kw, kw, h.2, ih.1], by rw [kw, kw, h.1, ih.2]⟩
 obtain ⟨d, e⟩ := sn c
 exact ⟨_, d, qs, a, rfl, by rw [e]; exact hs⟩
theorem kZ {r : κ -> κ -> Bool} (S : eL r) {kz : List κ} {xs ys zs : List α} (h : dJ r kz xs ys) (g : dJ r kz xs zs) : ys = zs := by
 obtain ⟨ps, p1, rfl, p2⟩ := h
 obtain ⟨qs, q1, rfl, q2⟩ := g
 rw [List.pairwise_map] at p2 q2
 rw [List.Perm.eq_of_pairwise (le := λ a b : κ × α => r a.1 b.1 = true) (λ a b _ _ h1 h2 => by rw [S.asy _ _ h1] at h2; cases h2) p2 q2 (p1.trans q1.symm)]
theorem CY {r : κ -> κ -> Bool} (S : eL r) {kz : List κ} {xs : List α} (hl : kz.length = xs.length) (nd : kz.Nodup) : ∃ ys, dJ r kz xs ys := by
 refine ⟨_, (kz.zip xs).mergeSort (λ a b => !r b.1 a.1), List.mergeSort_perm _ _, rfl, ?_⟩
 have sp := List.pairwise_mergeSort (le := λ a b : κ × α => !r b.1 a.1) (λ a b c h1 h2 => by
  have h1 : r b.1 a.1 = false := by simpa using h1
  have h2 : r c.1 b.1 = false := by simpa using h2
  cases e : r c.1 a.1 with
  | false => rfl
  | true =>
   exfalso
   by_cases z : a.1 = b.1
   ·rw [z, h2] at e; cases e
   ·have hab := S.tot _ _ (Ne.symm z) h1
    rw [S.tr _ _ _ e hab] at h2
    cases h2) (λ a b => by
  cases e : r b.1 a.1 with
  | false => rfl
  | true => rw [S.asy _ _ e]; rfl) (kz.zip xs)
 have kp : (((kz.zip xs).mergeSort (λ a b => !r b.1 a.1)).map Prod.fst).Perm kz := by
  have := (List.mergeSort_perm (kz.zip xs) (λ a b => !r b.1 a.1)).map Prod.fst
  rwa [List.map_fst_zip (by lia)] at this
 have nd2 : (((kz.zip xs).mergeSort (λ a b => !r b.1 a.1)).map Prod.fst).Nodup := kp.nodup_iff.mpr nd
 have sp2 : (((kz.zip xs).mergeSort (λ a b => !r b.1 a.1)).map Prod.fst).Pairwise (λ a b => r b a = false) := by
  rw [List.pairwise_map]
  exact sp.imp λ h => by simpa using h
 exact List.Pairwise.imp₂ (λ a b (h1 : r b a = false) (h2 : a ≠ b) => S.tot _ _ h2.symm h1) sp2 nd2
def mU {κ α : Type} (r : κ -> κ -> Bool) (g : α -> κ) (xs : List α) : List α := @Classical.epsilon (List α) ⟨[]⟩ λ ys => dJ r (xs.map g) xs ys
theorem oZ {r : κ -> κ -> Bool} (S : eL r) {g : α -> κ} {xs ys : List α} (h : dJ r (xs.map g) xs ys) : mU r g xs = ys := kZ S (@Classical.epsilon_spec_aux (List α) ⟨[]⟩ (λ ys => dJ r (xs.map g) xs ys) ⟨ys, h⟩) h
theorem oV {r : κ -> κ -> Bool} (S : eL r) {g : α -> κ} {xs : List α} (nd : (xs.map g).Nodup) : dJ r (xs.map g) xs (mU r g xs) :=
 @Classical.epsilon_spec (List α) (λ ys => dJ r (xs.map g) xs ys) (CY S (cI _) nd)
theorem lH {r : κ -> κ -> Bool} (S : eL r) {g : α -> κ} {xs : List α} (nd : (xs.map g).Nodup) : (mU r g xs).Perm xs := (jG.mp (oV S nd)).1
def rK (p q : Rat × Int) : Bool := if p.1 = q.1 then decide (p.2 < q.2) else decide (p.1 < q.1)
theorem Eu {a b : Rat} (h : a ≠ b) (g : ¬ a < b) : b < a := by
 rcases Rat.le_total (a := a) (b := b) with k | k
 ·exact absurd (Rat.lt_of_le_of_ne k h) g
 ·exact Rat.lt_of_le_of_ne k (Ne.symm h)
theorem By {a b c : Rat} (h : a < b) (g : b < c) : a < c := by grind
theorem Ev {a b : Rat} (h : a < b) : ¬ b < a := λ g => Rat.lt_irrefl (By h g)
theorem fJ : eL rK where
 tr := λ a b c h g => by
  unfold rK at *
  by_cases e : a.1 = b.1
  ·rw [i9 e] at h
   rw [e]
   split at g <;> rename_i f
   ·rw [i9 f]; simp only [sa] at *; lia
   ·rw [gS f]; exact g
  ·rw [gS e, sa] at h
   by_cases f : b.1 = c.1
   ·rw [<- f, gS e]; exact j6 h
   ·rw [gS f, sa] at g
    have k := By h g
    rw [gS (λ z => by rw [z] at k; exact Rat.lt_irrefl k)]
    exact j6 k
 tot := λ a b h g => by
  unfold rK at *
  by_cases e : a.1 = b.1
  ·rw [i9 e, decide_eq_false_iff_not] at g
   rw [i9 e.symm, sa]
   have : a.2 ≠ b.2 := λ z => h (Prod.ext e z)
   lia
  ·rw [gS e, decide_eq_false_iff_not] at g
   rw [gS (Ne.symm e), sa]
   exact Eu e g
 asy := λ a b h => by
  unfold rK at *
  by_cases e : a.1 = b.1
  ·rw [i9 e, sa] at h
   rw [i9 e.symm, decide_eq_false_iff_not]; lia
  ·rw [gS e, sa] at h
   rw [gS (Ne.symm e), decide_eq_false_iff_not]
   exact Ev h
def gc (g : List (Int × Int)) (k : Int × Int) : List (Int × Int) := if k ∈ g then g else g ++ [k]
def bu (ks : List (Int × Int)) : List (Int × Int) := ks.foldl gc []
theorem iY (ks : List (Int × Int)) (k : Int × Int) : bu (ks ++ [k]) = gc (bu ks) k := by unfold bu; rw [List.foldl_append]; rfl
theorem Bz {g : List (Int × Int)} {k x : Int × Int} : x ∈ gc g k ↔ x ∈ g ∨ x = k := by
 unfold gc
 split
 ·rename_i h; exact ⟨.inl, λ q => q.elim id λ e => e ▸ h⟩
 ·rw [uD, j7]
theorem bZ : ∀ ks : List (Int × Int), (bu ks).Nodup /\ (bu ks).length <= ks.length /\ ∀ x, x ∈ bu ks ↔ x ∈ ks := by
 have g : ∀ (ks acc : List (Int × Int)), acc.Nodup -> (ks.foldl gc acc).Nodup /\ (ks.foldl gc acc).length <= acc.length + ks.length /\ ∀ x, x ∈ ks.foldl gc acc ↔ x ∈ acc ∨ x ∈ ks := by
  intro ks
  induction ks with
  | nil => intro acc h; exact ⟨h, jo _, λ x => by simp⟩
  | cons k r ih =>
   intro acc h
   have hn : (gc acc k).Nodup := by
    unfold gc
    split
    ·exact h
    ·rename_i z
     refine List.nodup_append.mpr ⟨h, by simp, λ x hx y hy e => z ?_⟩
     rw [j7] at hy
     rw [<- hy, <- e]; exact hx
   have hl : (gc acc k).length <= acc.length + 1 := by unfold gc; split <;> simp
   obtain ⟨a, b, c⟩ := ih (gc acc k) hn
   rw [List.foldl_cons, o5]
   refine ⟨a, by lia, λ x => ?_⟩
   rw [c, Bz, j8]
   exact or_assoc
 intro ks
 obtain ⟨a, b, c⟩ := g ks [] List.nodup_nil
 exact ⟨a, by rw [List.length_nil, Nat.zero_add] at b; exact b, λ x => by rw [show bu ks = ks.foldl gc [] from rfl, c]; simp⟩
def dn (ks : List (Int × Int)) : List (Int × Int) := mU lt2 id (bu ks)
theorem tm (ks : List (Int × Int)) : dJ lt2 (bu ks) (bu ks) (dn ks) := by
 have := oV dY (g := id) (xs := bu ks) (by rw [List.map_id]; exact (bZ ks).1)
 rwa [List.map_id] at this
theorem dX (ks : List (Int × Int)) : (dn ks).Perm (bu ks) := lH dY (by rw [List.map_id]; exact (bZ ks).1)
noncomputable def qe {α : Type} (q : α -> Rat) (x : α) : List α -> List α
 | [] => [x]
 | y :: r => if q y <= q x then y :: qe q x r else x :: y :: r
theorem kY {q : α -> Rat} {x : α} : ∀ ys : List α, (qe q x ys).Perm (ys ++ [x])
 | [] => .refl _
 | y :: r => by
  unfold qe
  split
  ·exact (kY r).cons y
  ·exact (List.perm_append_comm (l₁ := [x]) (l₂ := y :: r))
theorem pV {q : α -> Rat} {o : α -> Int} {x : α} : ∀ {ys : List α}, (ys.map λ y => (q y, o y)).Pairwise (λ a b => rK a b = true) -> (∀ y ∈ ys, o y < o x) -> ((qe q x ys).map λ y => (q y, o y)).Pairwise (λ a b => rK a b = true)
 | [], _, _ => List.pairwise_singleton _ _
 | y :: r, h, hx => by
  rw [kw, List.pairwise_cons] at h
  unfold qe
  split
  ·rename_i hq
   rw [kw, List.pairwise_cons]
   refine ⟨λ b hb => ?_, pV h.2 λ y hy => hx y (n8 _ hy)⟩
   obtain ⟨z, hz, rfl⟩ := m7.mp hb
   rcases uD.mp ((kY r).mem_iff.mp hz) with m | m
   ·exact h.1 _ (m7.mpr ⟨z, m, rfl⟩)
   ·rw [j7.mp m]
    unfold rK
    by_cases e : q y = q x
    ·rw [i9 e]; exact j6 (hx y kv)
    ·rw [gS e]; exact j6 (Rat.lt_of_le_of_ne hq e)
  ·rename_i hq
   have hl : q x < q y := by
    rcases Rat.le_total (a := q x) (b := q y) with k | k
    ·exact Rat.lt_of_le_of_ne k λ e => hq (by rw [e]; exact Rat.le_refl)
    ·exact absurd k hq
   have step : ∀ b : α, rK (q y, o y) (q b, o b) = true -> rK (q x, o x) (q b, o b) = true := λ b hb => fJ.tr _ _ _ (by
    unfold rK
    rw [gS (λ e => by rw [show q x = q y from e] at hl; exact Rat.lt_irrefl hl)]
    exact j6 hl) hb
   rw [kw, kw, List.pairwise_cons, List.pairwise_cons]
   refine ⟨λ b hb => ?_, h⟩
   rcases j8.mp hb with e | hb
   ·rw [e]
    unfold rK
    rw [gS (λ e => by rw [show q x = q y from e] at hl; exact Rat.lt_irrefl hl)]
    exact j6 hl
   ·obtain ⟨z, hz, rfl⟩ := m7.mp hb
    exact step z (h.1 _ (m7.mpr ⟨z, hz, rfl⟩))
theorem wK {α : Type} {q : α -> Rat} {x : α} : ∀ {ys : List α} {n : Nat}, n <= ys.length -> (∀ j y, j < n -> ys[j]? = some y -> q y <= q x) -> (∀ y, ys[n]? = some y -> ¬ q y <= q x) -> qe q x ys = ys.take n ++ x :: ys.drop n
 | [], n, hn, _, _ => by cases n with | zero => rfl | succ n => simp at hn
 | y :: r, 0, _, _, h => by
  unfold qe
  rw [gS (h y rfl)]
  rfl
 | y :: r, n + 1, hn, h1, h2 => by
  unfold qe
  rw [i9 (h1 0 y (by lia) rfl), wK (n := n) (by simpa using hn) (λ j z hj e => h1 (j + 1) z (by lia) e) (λ z e => h2 z e)]
  rfl
noncomputable instance mbDec : DecidablePred Mb := λ _ => Classical.propDecidable _
def ck (F0 H0 : Hp) (L : List Addr) (H : Hp) : Hp := λ b => if b ∈ L then none else match H0 b with
 | none => H b
 | some o => if Mb o then F0 b else some o
section
variable {F0 H0 H H' : Hp} {L : List Addr}
theorem oG {b : Addr} (h : H0 b = none) (n : b ∉ L) : ck F0 H0 L H b = H b := by unfold ck; rw [gS n, h]
theorem vq {b : Addr} (h : b ∈ L) : ck F0 H0 L H b = none := by unfold ck; rw [i9 h]
theorem rj (i : ah F0 H0) (n : ∀ b ∈ L, H0 b = none) : ah F0 (ck F0 H0 L H) := λ b o e => by
 have h := i _ _ e
 unfold ck
 rw [gS (λ m => by rw [n b m] at h; cases h), h]
 show (if Mb o then F0 b else some o) = some o
 split
 ·exact e
 ·rfl
theorem tZ (i : ah F0 H0) (s : ah H0 H) : ah (ck F0 H0 L H) H := λ b o e => by
 unfold ck at e
 split at e
 ·cases e
 ·cases h : H0 b with
  | none => rw [h] at e; exact e
  | some o' =>
   rw [h] at e
   have e : (if Mb o' then F0 b else some o') = some o := e
   split at e
   ·exact s _ _ (i _ _ e)
   ·rw [<- e]; exact s _ _ h
theorem fQ (k : ∀ b o, b ∉ L -> H b = some o -> H' b = some o) : ah (ck F0 H0 L H) (ck F0 H0 L H') := λ b o e => by
 unfold ck at *
 split at e
 ·cases e
 ·rename_i n
  rw [gS n]
  cases h : H0 b with
  | none => rw [h] at e; exact k b o n e
  | some o' => rw [h] at e; exact e
theorem EA {L' : List Addr} (sub : ∀ b, b ∈ L' -> b ∈ L ∨ (H0 b = none /\ H b = none)) (k : ∀ b o, b ∉ L -> H b = some o -> H' b = some o) : ah (ck F0 H0 L H) (ck F0 H0 L' H') := λ b o e => by
 unfold ck at *
 split at e
 ·cases e
 ·rename_i n
  rw [gS (λ m => by
   rcases sub b m with z | ⟨z1, z2⟩
   ·exact n z
   ·rw [z1] at e
    have e : H b = some o := e
    rw [z2] at e; cases e)]
  cases h : H0 b with
  | none => rw [h] at e; exact k b o n e
  | some o' => rw [h] at e; exact e
end
section
variable {F0 H0 H H' : Hp} {L : List Addr}
theorem GQ {F' : Hp} (s : ah F' (ck F0 H0 [] H)) (n : ∀ b ∈ L, F' b = none) : ah F' (ck F0 H0 L H) := λ b o e => by
 have h := s _ _ e
 unfold ck at *
 rw [gS (λ m => by rw [n b m] at e; cases e)]
 rw [gS mV] at h
 exact h
theorem Lw (k : ∀ p o, (∀ xs, o ≠ .lst xs) -> H p = some o -> H' p = some o) : ∀ p o, (∀ xs, o ≠ .lst xs) -> ck F0 H0 L H p = some o -> ck F0 H0 L H' p = some o := λ p o n e => by
 unfold ck at *
 split at e
 ·cases e
 ·rename_i m
  rw [gS m]
  cases h : H0 p with
  | none => rw [h] at e; exact k p o n e
  | some o' => rw [h] at e; exact e
theorem EH {K : Fg} {A C : Hp} {v : V} {ns : List Int} (k : ∀ p o, (∀ xs, o ≠ .lst xs) -> A p = some o -> C p = some o) (h : Is K A v (.tup (ns.map Tr.int))) : Is K C v (.tup (ns.map Tr.int)) := by
 cases h with
 | tup s l =>
  cases l.ints
  refine .tup ?_ (IsL.ofInts ns)
  rcases s with (z | ⟨o, z⟩) | z
  ·exact .inl (.inl (k _ _ nofun z))
  ·exact .inl (.inr ⟨o, k _ _ nofun z⟩)
  ·exact .inr z
end
def uB (K : Fg) (F H : Hp) (a : Addr) : Bk where
 K := K
 F0 := F
 H0 := H
 W := λ _ => False
 J := λ _ => True
 rt := a
 jl := λ _ _ _ _ _ => trivial
 jm := λ _ _ _ h => h.elim
section
variable {K : Fg} {F0 H0 H : Hp} {L : List Addr} {a : Addr}
theorem oh {F : Hp} (s : ah F H) : qc (uB K F H a) := ⟨s, λ _ h => h.elim, λ _ h => h.elim, trivial⟩
theorem wZ {F' H' : Hp} (i : ah F0 H0) (s : ah H0 H) (ll : ∀ b ∈ L, ∃ xs, H b = some (.lst xs)) (u : Up (uB K (ck F0 H0 L H) H a) (ck F0 H0 L H) H F' H') : ah F' (ck F0 H0 L H') := λ b o e => by
 by_cases m : b ∈ L
 ·obtain ⟨xs, h⟩ := ll b m
  have := u.m b _ h trivial (vq m)
  rw [this] at e; cases e
 ·unfold ck
  rw [gS m]
  cases h : H0 b with
  | none => exact u.i _ _ e
  | some o' =>
   have h1 := s _ _ h
   have h2 : H' b = some o' := u.h b o' (λ w => w) h1
   have h3 := u.i _ _ e
   rw [h2] at h3; cases h3
   show (if Mb o then F0 b else some o) = some o
   by_cases mb : Mb o
   ·rw [i9 mb]
    cases f : F0 b with
    | some o2 => rw [i _ _ f] at h; exact h
    | none =>
     have f2 : ck F0 H0 L H b = none := by
      unfold ck
      rw [gS m, h]
      show (if Mb o then F0 b else some o) = none
      rw [i9 mb, f]
     have := u.m b o h1 mb f2
     rw [this] at e; cases e
   ·rw [gS mb]
theorem Fe {B : Bk} {H' : Hp} (bk : qc B) (s : ah B.H0 H') (n : ∀ b ∈ L, B.H0 b = none) : Up B B.F0 B.H0 (ck B.F0 B.H0 L H') H' where
 f := rj bk.i n
 h := λ p o _ e => s _ _ e
 i := tZ bk.i s
 m := λ p o e mb f => by
  unfold ck
  split
  ·rfl
  ·rw [e]
   show (if Mb o then B.F0 p else some o) = none
   rw [i9 mb]; exact f
 w := λ p e => by
  cases z : B.H0 p with
  | none => rfl
  | some o => rw [s _ _ z] at e; cases e
 x := λ p hw f => by
  obtain ⟨o, ho, mb⟩ := B.jm B.H0 p bk.wj hw
  unfold ck
  split
  ·rfl
  ·rw [ho]
   show (if Mb o then B.F0 p else some o) = none
   rw [i9 mb]; exact f
 j := λ hj => B.jl _ _ (λ p hw => by
  cases z : B.H0 p with
  | none => exact absurd z (bk.wa p hw)
  | some o => rw [s _ _ z]) (λ p φ z => s _ _ z) hj
theorem qB {S : SpT} {vs : List V} {Q : VK} {E : XK} {as : List Ar} {Φ : Kd -> Prop} (i : ah F0 H0) (s : ah H0 H) (ll : ∀ b ∈ L, ∃ xs, H b = some (.lst xs)) (la : ge (uB K (ck F0 H0 L H) H a) (ck F0 H0 L H) vs as) (h : S (uB K (ck F0 H0 L H) H a) as Φ λ _ => False)
  (q : ∀ v F' H' k, ah H H' -> ah F' (ck F0 H0 L H') -> (∀ b, H b = none -> b ∉ L) -> su (uB K (ck F0 H0 L H) H a) F' H' v k -> Φ k -> Q v H') : bE K S vs H Q E :=
 ⟨uB K (ck F0 H0 L H) H a, as, Φ, λ _ => False, rfl, rfl, oh (tZ i s), la, h, λ v F' H' k u r p => q v F' H' k (λ p o e => u.h p o (λ w => w) e) (wZ i s ll u) (λ b e m => by obtain ⟨xs, z⟩ := ll b m; rw [e] at z; cases z) r p, λ _ _ _ _ h => h.elim⟩
theorem zI {S : SpR} {vs : List V} {Q : VK} {E : XK} {as : List Ar} {Φ : List Tr -> List Tr -> Prop} (i : ah F0 H0) (s : ah H0 H) (ll : ∀ b ∈ L, ∃ xs, H b = some (.lst xs)) (la : ge (uB K (ck F0 H0 L H) H a) (ck F0 H0 L H) vs as) (h : S (uB K (ck F0 H0 L H) H a) as Φ)
  (q : ∀ p x y F' H' ts us, ah H H' -> ah F' (ck F0 H0 L H') -> wW (uB K (ck F0 H0 L H) H a) F' H' p x y ts us -> Φ ts us -> Q (.ref p) H') : rP K S vs H Q E :=
 ⟨uB K (ck F0 H0 L H) H a, as, Φ, rfl, rfl, oh (tZ i s), la, h, λ p x y F' H' ts us u r φ => q p x y F' H' ts us (λ p o e => u.h p o (λ w => w) e) (wZ i s ll u) r φ⟩
end
noncomputable abbrev GP := List (Tr × List V)
def uF (g : GP) (k : Tr) (i : V) : GP := if k ∈ g.map (·.1) then g.map (λ p => if p.1 = k then (p.1, p.2 ++ [i]) else p) else g ++ [(k, [i])]
theorem Paired.append' {F : α -> β -> Prop} {x : α} {y : β} : ∀ {xs : List α} {ys : List β}, Paired F xs ys -> F x y -> Paired F (xs ++ [x]) (ys ++ [y])
 | _, _, .nil, h => .cons h .nil
 | _, _, .cons a r, h => .cons a (Paired.append' r h)
def rZ (H : Hp) (xs : List KN) (g : GP) : Prop := Paired (λ (x : KN) (p : Tr × List V) => x.1 = p.1 /\ H x.2.2 = some (.lst p.2)) xs g
structure xQ (P : Program) (w : World) (K : Fg) (H0 H : Hp) (a : Addr) (xs : List KN) (es : Array DictEntry) (ep : Nat) (g : GP) : Prop where
 d : H a = some (DN P w a xs es ep)
 a0 : H0 a = none
 k : nq K H xs
 g : rZ H xs g
 n : (xs.map (·.2.2)).Nodup
 f : ∀ x ∈ xs, H0 x.2.2 = none
 s : ah H0 H
variable {xs : List KN} {g : GP}
theorem rZ.keys (h : rZ H xs g) : xs.map (·.1) = g.map (·.1) := by
 unfold rZ at h
 induction h with
 | nil => rfl
 | cons a _ ih => rw [kw, kw, ih, a.1]
variable {H' : Hp}
theorem rZ.to (h : rZ H xs g) (k : ∀ x ∈ xs, ∀ o, H x.2.2 = some o -> H' x.2.2 = some o) : rZ H' xs g := by
 unfold rZ at h ⊢
 induction h with
 | nil => exact .nil
 | cons a _ ih => exact .cons ⟨a.1, k _ kv _ a.2⟩ (ih λ x hx => k x (n8 _ hx))
theorem BC {t : Tr} {p : Addr × Addr} (h : uz xs t = some p) : (t, p) ∈ xs := by
 unfold uz at h
 obtain ⟨x, hx, rfl⟩ := Option.map_eq_some_iff.mp h
 have h1 := List.mem_of_find?_eq_some hx
 have h3 := List.find?_some hx
 have h2 : x.1 = t := of_decide_eq_true h3
 rw [<- h2]
 exact h1
theorem IT {t : Tr} (h : uz xs t = none) : t ∉ xs.map (·.1) := by
 unfold uz at h
 rw [Option.map_eq_none_iff, List.find?_eq_none] at h
 intro hm
 obtain ⟨x, hx, rfl⟩ := m7.mp hm
 exact h x hx (j6 rfl)
theorem rZ.at (h : rZ H xs g) {t : Tr} {p : Addr × Addr} (hp : (t, p) ∈ xs) : ∃ l, (t, l) ∈ g /\ H p.2 = some (.lst l) := by
 unfold rZ at h
 induction h with
 | nil => exact nomatch hp
 | @cons x q xs g a _ ih =>
  rcases j8.mp hp with e | hp
  ·subst e
   exact ⟨q.2, by rw [show t = q.1 from a.1]; exact kv, a.2⟩
  ·obtain ⟨l, h1, h2⟩ := ih hp
   exact ⟨l, n8 _ h1, h2⟩
theorem rZ.more (h : rZ H xs g) {t : Tr} {p : Addr × Addr} {i : V} (hp : (t, p) ∈ xs) (hk : (xs.map (·.1)).Nodup) (hn : (xs.map (·.2.2)).Nodup) (b : wo p.2 H H') {l : List V} (e0 : H p.2 = some (.lst l)) (e1 : H' p.2 = some (.lst (l ++ [i]))) :
  rZ H' xs (g.map λ q => if q.1 = t then (q.1, q.2 ++ [i]) else q) := by
 unfold rZ at h ⊢
 induction h with
 | nil => exact .nil
 | @cons x q xs g a r ih =>
  rw [kw, sG] at hk hn
  rw [kw]
  by_cases hx : x.1 = t
  ·have e : x = (t, p) := by
    rcases j8.mp hp with e | hp
    ·exact e.symm
    ·exact absurd (m7.mpr ⟨_, hp, hx.symm⟩) hk.1
   subst e
   have hq : q.1 = t := a.1.symm
   refine .cons ?_ ?_
   ·rw [i9 hq]
    refine ⟨a.1, ?_⟩
    have e2 := a.2
    rw [e0] at e2
    have e3 : l = q.2 := by injection e2 with e2; injection e2
    show H' p.2 = some (.lst (q.2 ++ [i]))
    rw [e1, e3]
   ·have r' := rZ.to (H' := H') r λ y hy o ho => b _ _ (λ z => hn.1 (m7.mpr ⟨y, hy, z⟩)) ho
    have eg : (g.map λ q => if q.1 = t then (q.1, q.2 ++ [i]) else q) = g := by
     have nk : t ∉ g.map (·.1) := by rw [<- rZ.keys r, <- hx]; exact hk.1
     have : ∀ q ∈ g, (if q.1 = t then (q.1, q.2 ++ [i]) else q) = q := λ q hq => gS λ z => nk (m7.mpr ⟨q, hq, z⟩)
     rw [List.map_congr_left this, List.map_id']
    rw [eg]
    exact r'
  ·have hq : ¬ q.1 = t := λ z => hx (a.1.trans z)
   have hp' : (t, p) ∈ xs := by
    rcases j8.mp hp with e | hp
    ·exact absurd (by rw [<- e]) hx
    ·exact hp
   refine .cons ?_ (ih hp' hk.2 hn.2)
   rw [gS hq]
   exact ⟨a.1, b _ _ (λ z => hn.1 (m7.mpr ⟨_, hp', z.symm⟩)) a.2⟩
section
variable {P : Program} {w : World} {K : Fg} {H0 H H' : Hp} {a : Addr} {xs : List KN} {es : Array DictEntry} {ep : Nat} {g : GP}
theorem xQ.sm (h : xQ P w K H0 H a xs es ep g) (s : ah H H') : xQ P w K H0 H' a xs es ep g := ⟨s _ _ h.d, h.a0, h.k.same s, h.g.to λ _ _ _ e => s _ _ e, h.n, h.f, h.s.trans s⟩
theorem xQ.keysNd (h : xQ P w K H0 H a xs es ep g) (hg : (g.map (·.1)).Nodup) : (xs.map (·.1)).Nodup := by rw [h.g.keys]; exact hg
end
theorem zz {K : Fg} (ih : ∀ {t : Tr} {v : V}, dW n t = true -> Is K H v t -> Is K H' v t) : ∀ {vs : List V} {ts : List Tr}, IsL K H vs ts -> ts.all (dW n) = true -> IsL K H' vs ts := by
 intro vs ts h k
 induction ts generalizing vs with
 | nil => cases h; exact .nil
 | cons t ts ht => cases h with | cons a b =>
  rw [List.all_cons, uR] at k
  exact .cons (ih k.1 a) (ht b k.2)
theorem wE {K : Fg} (ht : ∀ p xs, bq K H p xs -> bq K H' p xs) : ∀ {n : Nat} {t : Tr} {v : V}, dW n t = true -> Is K H v t -> Is K H' v t := by
 intro n
 induction n with
 | zero =>
  intro t v k i
  cases i with
  | int => exact .int
  | str => exact .str
  | _ => cases k
 | succ n ih =>
  intro t v k i
  cases i with
  | int => exact .int
  | str => exact .str
  | @tup p vs ts hp hl =>
   refine .tup (ht _ _ hp) ?_
   have k : ts.all (dW n) = true := k
   clear hp
   exact zz (λ h g => ih h g) hl k
  | _ => cases k
theorem xh {K : Fg} (ht : ∀ p ys, bq K H p ys -> bq K H' p ys) (k : nq K H xs) : nq K H' xs := λ x hx => ⟨wE ht (k x hx).2 (k x hx).1, (k x hx).2⟩
theorem Ef {K : Fg} {a : Addr} {o u : HO} (ho : H a = some o) (h1 : ∀ xs, o ≠ .tup xs) (h2 : ∀ ob xs, o ≠ .frz ob xs) : ∀ p xs, bq K H p xs -> bq K (upd H a u) p xs := λ p xs h => by
 rcases h with (h | ⟨ob, h⟩) | h
 ·exact .inl (.inl (by rw [am (wv h ho (h1 xs).symm)]; exact h))
 ·exact .inl (.inr ⟨ob, by rw [am (wv h ho (h2 ob _).symm)]; exact h⟩)
 ·exact .inr h
section
variable {P : Program} {w : World} {K : Fg} {H0 H H' : Hp} {a : Addr} {xs : List KN} {es : Array DictEntry} {ep : Nat} {g : GP}
theorem xQ.app (h : xQ P w K H0 H a xs es ep g) (hg : (g.map (·.1)).Nodup) {t : Tr} {p : Addr × Addr} {i : V} {l : List V} (hp : uz xs t = some p) (b : wo p.2 H H') (e0 : H p.2 = some (.lst l)) (e1 : H' p.2 = some (.lst (l ++ [i]))) :
  xQ P w K H0 H' a xs es ep (uF g t i) := by
 have hm := BC hp
 have hin : t ∈ g.map (·.1) := by rw [<- h.g.keys]; exact m7.mpr ⟨_, hm, rfl⟩
 have hpa : p.2 ≠ a := λ z => by rw [z, h.d] at e0; cases e0
 refine ⟨b _ _ hpa.symm h.d, h.a0, xh (λ q ys z => b.tup e0 z) h.k, ?_, h.n, h.f, λ q o z => b _ _ (λ y => ?_) (h.s _ _ z)⟩
 ·unfold uF
  rw [i9 hin]
  exact h.g.more hm (h.keysNd hg) h.n b e0 e1
 ·have := h.f _ hm
  rw [<- y, z] at this; cases this
theorem xQ.new (h : xQ P w K H0 H a xs es ep g) {t : Tr} {b l : Addr} {i : V} {es' : Array DictEntry} {ep' : Nat} {H2 : Hp} (hp : uz xs t = none) (hl : H l = some (.lst [])) (l0 : H0 l = none) (ln : ∀ x ∈ xs, x.2.2 ≠ l) (ik : Is K H (.ref b) t) (kt : dW 6 t = true)
  (bb : wo l (upd H a (DN P w a (xs ++ [(t, b, l)]) es' ep')) H2) (e2 : H2 l = some (.lst [i])) : xQ P w K H0 H2 a (xs ++ [(t, b, l)]) es' ep' (uF g t i) := by
 have la : l ≠ a := λ z => by rw [z, h.d] at hl; cases hl
 have hnot : t ∉ g.map (·.1) := by rw [<- h.g.keys]; exact IT hp
 have hl1 : upd H a (DN P w a (xs ++ [(t, b, l)]) es' ep') l = some (.lst []) := by rw [am la]; exact hl
 have ht : ∀ p ys, bq K H p ys -> bq K H2 p ys := λ p ys z => bb.tup hl1 (Ef h.d (λ _ => nofun) (λ _ _ => nofun) p ys z)
 refine ⟨bb _ _ la.symm ar, h.a0, λ x hx => ?_, ?_, ?_, λ x hx => ?_, λ q o z => ?_⟩
 ·rcases uD.mp hx with hx | hx
  ·exact xh ht h.k x hx
  ·rw [j7.mp hx]
   exact ⟨wE ht kt ik, kt⟩
 ·unfold uF
  rw [gS hnot]
  refine Paired.append' (h.g.to (H' := H2) λ x hx o e => bb _ _ (ln x hx) ?_) ⟨rfl, e2⟩
  rw [am (λ z => ?_)]
  ·exact e
  ·obtain ⟨_, _, e3⟩ := h.g.at (t := x.1) (p := x.2) hx
   rw [z, h.d] at e3; cases e3
 ·rw [oM, List.nodup_append]
  refine ⟨h.n, by simp, λ x hx y hy e => ?_⟩
  obtain ⟨z, hz, rfl⟩ := m7.mp hx
  obtain rfl : y = l := by simpa using hy
  exact ln z hz e
 ·rcases uD.mp hx with hx | hx
  ·exact h.f x hx
  ·rw [j7.mp hx]; exact l0
 ·have h1 := h.s _ _ z
  have qa : q ≠ a := λ y => by rw [y, h.a0] at z; cases z
  have ql : q ≠ l := λ y => by rw [y, l0] at z; cases z
  exact bb _ _ ql (by rw [am qa]; exact h1)
end
section
variable {P : Program} {w : World} {K : Fg} {Z : St} {H : Hp} {Q : VK} {td ty tx : TE}
theorem CV (q : ∀ p H' es ep, H p = none -> ah H H' -> H' p = some (DN P w p [] es ep) -> Q (.ref p) H') : Aw P w Z H Q := λ p es ep hp => q p _ es ep hp (ah.new hp _) ar
theorem Hi (h : td Z H λ x H1 => ∃ a, x = .ref a /\ (∃ xs es ep, H1 a = some (DN P w a xs es ep)) /\ ty Z H1 λ y H2 => tx Z H2 λ z H3 => ∃ xs es ep t b l, H3 a = some (DN P w a xs es ep) /\ nq K H3 xs /\ xs.length < sizeLine /\ y = .ref b /\ Is K H3 y t /\ dW 6 t = true /\ z = .ref l /\
 (∀ p, uz xs t = some p -> Q (.ref p.2) H3) /\ (uz xs t = none -> ∀ es ep, Q z (upd H3 a (DN P w a (xs ++ [(t, b, l)]) es ep)))) : FJ P w K td ty tx Z H Q := h
theorem CM (h : td Z H λ x H1 => ty Z H1 λ y H2 => ∃ a xs es ep t b p, x = .ref a /\ H2 a = some (DN P w a xs es ep) /\ nq K H2 xs /\ y = .ref b /\ Is K H2 y t /\ dW 6 t = true /\ uz xs t = some p /\ Q (.ref p.2) H2) : BS P w K td ty Z H Q := h
end
def kk (i : Itm) : Int × Int := (i.rank, i.col)
noncomputable def kT (k : Int × Int) : Tr := .tup [.int k.1, .int k.2]
theorem lj {a b : Int × Int} (h : kT a = kT b) : a = b := by
 unfold kT at h
 injection h with h
 injection h with h1 h2
 injection h1 with h1
 injection h2 with h2
 injection h2 with h2
 exact Prod.ext h1 h2
theorem Bp (k : Int × Int) : dW 6 (kT k) = true := rfl
def uq (ps : List (Itm × V)) (k : Int × Int) : List V := (ps.filter λ p => decide (kk p.1 = k)).map (·.2)
def jO (ps : List (Itm × V)) : GP := (bu (ps.map λ p => kk p.1)).map λ k => (kT k, uq ps k)
theorem kQ (ps : List (Itm × V)) : (jO ps).map (·.1) = (bu (ps.map λ p => kk p.1)).map kT := by unfold jO; rw [q9]; rfl
theorem wR (ps : List (Itm × V)) : ((jO ps).map (·.1)).Nodup := by
 rw [kQ]
 exact ((bZ _).1).map _ (λ a b h z => h (lj z))
theorem mL (ps : List (Itm × V)) (p : Itm × V) (k : Int × Int) : uq (ps ++ [p]) k = if kk p.1 = k then uq ps k ++ [p.2] else uq ps k := by
 unfold uq
 rw [List.filter_append, List.filter_cons, List.filter_nil]
 split
 ·rename_i h; rw [i9 (of_decide_eq_true h), oM]; rfl
 ·rename_i h; rw [gS (λ z => h (j6 z)), vM]
theorem yT (ps : List (Itm × V)) (p : Itm × V) : jO (ps ++ [p]) = uF (jO ps) (kT (kk p.1)) p.2 := by
 have hk : (ps ++ [p]).map (λ p => kk p.1) = (ps.map λ p => kk p.1) ++ [kk p.1] := by rw [oM]; rfl
 have hm : kT (kk p.1) ∈ (jO ps).map (·.1) ↔ kk p.1 ∈ bu (ps.map λ p => kk p.1) := by
  rw [kQ]
  refine ⟨λ h => ?_, λ h => m7.mpr ⟨_, h, rfl⟩⟩
  obtain ⟨k, h1, h2⟩ := m7.mp h
  rw [<- lj h2]; exact h1
 unfold uF
 by_cases h : kk p.1 ∈ bu (ps.map λ p => kk p.1)
 ·rw [i9 (hm.mpr h)]
  unfold jO
  rw [hk, iY, gc, i9 h, q9]
  refine List.map_congr_left λ k _ => ?_
  show (kT k, uq (ps ++ [p]) k) = if kT k = kT (kk p.1) then (kT k, uq ps k ++ [p.2]) else (kT k, uq ps k)
  rw [mL]
  by_cases e : kk p.1 = k
  ·rw [i9 e, i9 (by rw [e])]
  ·rw [gS e, gS (λ z => e (lj z).symm)]
 ·rw [gS (λ z => h (hm.mp z))]
  unfold jO
  rw [hk, iY, gc, gS h, oM]
  have hn : ∀ q ∈ ps, ¬ kk q.1 = kk p.1 := λ q hq e => h (((bZ _).2.2 _).mpr (m7.mpr ⟨q, hq, e⟩))
  congr 1
  ·refine List.map_congr_left λ k hk => ?_
   rw [mL, gS (λ z => h (by rw [z]; exact hk))]
  ·show [(kT (kk p.1), uq (ps ++ [p]) (kk p.1))] = _
   rw [mL, i9 rfl]
   have : uq ps (kk p.1) = [] := by
    unfold uq
    rw [List.filter_eq_nil_iff.mpr (λ q hq z => hn q hq (of_decide_eq_true z))]; rfl
   rw [this]; rfl
theorem EM (ps : List (Itm × V)) (k : Int × Int) : (uq ps k).length <= ps.length := by unfold uq; rw [cI]; exact List.length_filter_le _ _
theorem GK {K : Fg} {k : Int × Int} : ∀ {is : List Itm} {vs : List V}, IsL K F vs (is.map Itm.tr) -> IsL K F (uq (is.zip vs) k) ((is.filter λ i => decide (kk i = k)).map Itm.tr) := by
 intro is
 induction is with
 | nil => intro vs h; cases h; exact .nil
 | cons i is hi =>
  intro vs h
  cases h with
  | cons a r =>
   have ih := hi r
   unfold uq at *
   rw [List.zip_cons_cons, List.filter_cons, List.filter_cons]
   by_cases e : kk i = k
   ·rw [i9 (j6 e), i9 (j6 e)]; exact .cons a ih
   ·rw [gS (λ z => e (of_decide_eq_true z)), gS (λ z => e (of_decide_eq_true z))]; exact ih
theorem zm : ∀ {xs : List KN} {x : KN}, (xs.map (·.1)).Nodup -> x ∈ xs -> uz xs x.1 = some x.2
 | y :: xs, x, hn, h => by
  rw [kw, sG] at hn
  unfold uz
  rw [List.find?_cons]
  by_cases e : y.1 = x.1
  ·rw [j6 e]
   rcases j8.mp h with h | h
   ·rw [h]; rfl
   ·exact absurd (by rw [e]; exact m7.mpr ⟨x, h, rfl⟩) hn.1
  ·rw [i8 e]
   rcases j8.mp h with h | h
   ·exact absurd (by rw [h]) e
   ·exact zm hn.2 h
def LP (H H' : Hp) : Prop := ∀ p o, (∀ xs, o ≠ .lst xs) -> H p = some o -> H' p = some o
theorem ka {K : Fg} {a : Addr} {xs : List V} {st : St} {te : TE} {H1 : Hp} (R : Nat -> V -> Hp -> Prop) (kp : ∀ i v H H', LP H H' -> R i v H -> R i v H') (hs : aZ K H1 a xs) (hn : xs.length <= sizeLine)
  (step : ∀ i x H2 (S : V -> Hp -> Prop), xs[i]? = some x -> ah H1 H2 -> (∀ v H3, ah H2 H3 -> R i v H3 -> S v H3) -> te (some x :: st) H2 S)
  (fin : ∀ acc vs H2, H1 acc = none -> ah H1 H2 -> H2 acc = some (.lst vs) -> vs.length = xs.length -> (∀ i v, vs[i]? = some v -> R i v H2) -> Q (.ref acc) H2) : MS st (Fb K a) te H1 Q := by
 refine BZ ?_
 intro acc hacc
 refine ⟨λ i m H2 => m = xs.length - i /\ i <= xs.length /\ ah H1 H2 /\ ∃ vs, H2 acc = some (.lst vs) /\ vs.length = i /\ ∀ j v, vs[j]? = some v -> R j v H2, ⟨xs.length, by simp, Nat.zero_le _, ah.new hacc _, [], by rw [ar], rfl, λ j v h => by simp at h⟩, ?_⟩
 rintro i m H2 ⟨rfl, hi, sH, vs, ha, hl, hr⟩
 by_cases hlt : i < xs.length
 ·have hx : xs[i]? = some xs[i] := dM hlt
  refine .inr ⟨⟨xs, _, sH.seq hs, hx⟩, λ x H3 y => ?_⟩
  have e := y.2 xs (sH.seq hs)
  rw [hx] at e
  cases e
  rw [y.1]
  refine step i _ _ _ hx sH λ v H4 s4 r4 => ⟨vs, xs.length - (i + 1), s4 _ _ ha, by lia, by lia, rfl, hlt, λ b o e => ?_, vs ++ [v], by rw [ar], by rw [nh, hl]; rfl, λ j u hu => ?_⟩
  ·rw [am (λ z => by rw [z, hacc] at e; cases e)]
   exact s4 _ _ (sH _ _ e)
  ·have kl : ∀ HX : Hp, ah H2 HX -> LP HX (upd HX acc (.lst (vs ++ [v]))) := λ HX sX q o n z => by
    rw [am (λ y => by rw [y, sX _ _ ha] at z; cases z; exact n _ rfl)]
    exact z
   rcases Nat.lt_or_ge j vs.length with h | h
   ·rw [vo h] at hu
    exact kp _ _ _ _ (kl H4 s4) (kp _ _ _ _ (λ q o _ z => s4 q o z) (hr j u hu))
   ·rw [uL h] at hu
    have : j - vs.length = 0 := by
     rcases Nat.eq_zero_or_pos (j - vs.length) with z | z
     ·exact z
     ·rw [vG (show [v].length <= j - vs.length from z)] at hu; cases hu
    rw [this] at hu
    cases hu
    rw [show j = i by lia]
    exact kp _ _ _ _ (kl H4 s4) r4
 ·have e : i = xs.length := by lia
  subst e
  exact .inl ⟨⟨xs, sH.seq hs, jo _⟩, fin acc vs H2 hacc sH ha hl hr⟩
theorem xF {kz : List (Int × Int)} {ys : List V} (h : dJ lt2 kz (xs.map λ x => V.ref x.2.1) ys) : ∃ qs : List ((Int × Int) × KN), qs.Perm (kz.zip xs) /\ ys = qs.map (λ p => V.ref p.2.2.1) /\ (qs.map Prod.fst).Pairwise (λ p q => lt2 p q = true) := by
 obtain ⟨zs, rfl, qs, hp, rfl, hs⟩ := oH h
 exact ⟨qs, hp, by rw [q9]; rfl, hs⟩
def tE (F H : Hp) (L : List Addr) : Hp := λ b => if b ∈ L then H b else F b
theorem EB {L : List Addr} (bk : qc B) (s : ah B.H0 H') (h : ∀ b ∈ L, B.H0 b = none /\ ∃ o, H' b = some o) : Up B B.F0 B.H0 (tE B.F0 H' L) H' where
 f := λ p o e => by
  unfold tE
  rw [gS (λ m => by have := bk.i _ _ e; rw [(h p m).1] at this; cases this)]
  exact e
 h := λ p o _ e => s _ _ e
 i := λ p o e => by
  unfold tE at e
  split at e
  ·exact e
  ·exact s _ _ (bk.i _ _ e)
 m := λ p o e _ n => by
  unfold tE
  rw [gS (λ m => by rw [(h p m).1] at e; cases e)]
  exact n
 w := λ p e => by
  cases z : B.H0 p with
  | none => rfl
  | some o => rw [s _ _ z] at e; cases e
 x := λ p hw n => by
  unfold tE
  rw [gS (λ m => bk.wa p hw (h p m).1)]
  exact n
 j := λ hj => B.jl _ _ (λ p hw => by
  cases z : B.H0 p with
  | none => exact absurd z (bk.wa p hw)
  | some o => rw [s _ _ z]) (λ p φ z => s _ _ z) hj
theorem qF {K : Fg} : ∀ {vs : List V} {ts : List Tr}, vs.length = ts.length -> (∀ (i : Nat) (v : V), vs[i]? = some v -> ∃ t, ts[i]? = some t /\ Is K F v t) -> IsL K F vs ts
 | [], [], _, _ => .nil
 | v :: vs, t :: ts, hl, h => by
  obtain ⟨u, e, i⟩ := h 0 v rfl
  cases e
  exact .cons i (qF (by simpa using hl) λ j w hw => h (j + 1) w hw)
def Je (is : List Itm) (k : Int × Int) : Tr := .lst ((is.filter λ i => decide (kk i = k)).map Itm.tr)
def yy : SpT := λ _ as Φ _ => ∃ is : List Itm, as = [.fz (.lst (is.map Itm.tr))] /\ is.length <= 60 /\ Φ (.nw (.lst ((dn (is.map kk)).map (Je is))))
theorem tX (T : cO K mg t) : FO P w base T.q_zbh 1 (bE K yy) := by
 refine T.q_zbh.F.ok iP (aH (λ B as Φ Ψ h => by obtain ⟨_, rfl, _⟩ := h; rfl)) (λ cdv A outer s H vs Q E hr h => ?_)
 obtain ⟨B, as, Φ, Ψ, eK, rfl, bk, la, ⟨is, rfl, hl, φ⟩, q, _⟩ := h
 obtain ⟨v, rfl, iv⟩ := MZ la
 rw [eK] at iv
 refine ⟨_, (aJ (ag (i := 1) iP.nd rfl (Or.inr rfl) zj)
 (aJ (cm o4 rfl (br (pv 0)) (az (i := 2) iP.nd rfl (Or.inl rfl)) (aR (bU (dw ld o7 o8 bn (BH (by have := hr.un150; exact rd (Nat.add_le_add_left (by decide) _) this) (pv 1) (aL (af (aa (pv 2)) (af (aa (pv 2)) aA))) (aT aA) ⟨rfl, rfl, rfl, rfl⟩) (af (pv 2) aA)))))
 (aR (ai (sP rfl (bM (fr := [("groups", 1)]) (osc := ae hG) (N := ["items", "groups", "item"]) rfl rfl (by decide +kernel)) (br (aN (xW rfl) rfl T.z_sorted gW (af (pv 1) aA))) (λ _ _ _ _ _ => (AQ (P := P) (w := w) (K := K) rfl rfl rfl (by have := hr.un150; exact rd (Nat.add_le_add_left (by decide) _) this) (pv 1) (pv 0) (λ _ _ => rfl)))))))), ir (Z := [some _, none, none]) rfl ?_⟩
 kln_le
 cases iv with
 | @lst ps vss _ hps hls =>
 have lv : vss.length = is.length := by rw [hls.length, cI]
 f_look
 refine CV (λ a H2 es0 ep0 a0 s2 ha => ?_)
 have J0 : xQ P w K B.H0 H2 a [] es0 ep0 [] := ⟨ha, a0, λ _ h => (nomatch h), .nil, List.nodup_nil, λ _ h => (nomatch h), s2⟩
 have zl : (is.zip vss).length = is.length := by rw [List.length_zip]; lia
 have gl : ∀ n, (jO ((is.zip vss).take n)).length <= 60 := λ n => by
  unfold jO
  rw [cI]
  have := (bZ (((is.zip vss).take n).map λ p => kk p.1)).2.1
  rw [cI, sV] at this
  lia
 f_look
 have sF := bk.i
 refine ⟨ps, rfl, ⟨vss, J0.s.seq (sF.seq hps)⟩, ?_⟩
 refine rE (K := K) (xs := vss) (λ n Z HD => ∃ xs es ep u, Z = [some (.ref ps), some (.ref a), u] /\ xQ P w K B.H0 HD a xs es ep (jO ((is.zip vss).take n))) ⟨[], es0, ep0, none, rfl, J0⟩ (λ i Z HD _ ⟨_, _, _, _, _, J⟩ => J.s.seq (sF.seq hps)) ?_ ?_
 ·rintro n x Z HD hx ⟨xs, es, ep, u, rfl, J⟩
  obtain ⟨tt, ht, ix⟩ := hls.get2 hx
  obtain ⟨it, ei, rfl⟩ := aU ht
  have zn : (is.zip vss)[n]? = some (it, x) := by rw [List.getElem?_zip_eq_some]; exact ⟨ei, hx⟩
  have tk : jO ((is.zip vss).take (n + 1)) = uF (jO ((is.zip vss).take n)) (kT (kk it)) x := by
   rw [List.take_succ, zn]
   exact yT _ _
  have ng := wR ((is.zip vss).take n)
  have xl : xs.length = (jO ((is.zip vss).take n)).length := Paired.length J.g
  have gn := gl n
  unfold Itm.tr at ix
  have ix := ix.same (sF.trans J.s)
  cases ix with
  | @tup px pvs _ hp il =>
  have l7 : pvs.length = 7 := il.length
  obtain ⟨v4, e4, i4⟩ := il.get (show ([Tr.int it.own, it.x.tr, it.y.tr, it.o.tr, .int it.rank, .int it.col, .int it.siz] : List Tr)[4]? = some (.int it.rank) from rfl)
  obtain ⟨v5, e5, i5⟩ := il.get (show ([Tr.int it.own, it.x.tr, it.y.tr, it.o.tr, .int it.rank, .int it.col, .int it.siz] : List Tr)[5]? = some (.int it.col) from rfl)
  cases i4
  cases i5
  f_look
  refine Hi ?_
  f_look
  refine ⟨a, rfl, ⟨xs, es, ep, J.d⟩, ?_⟩
  f_look
  refine mF hp (ce (j := 4) e4) ?_
  f_look
  refine mF hp (ce (j := 5) e5) ?_
  f_look
  rename_i b H6 hb s6 hbt
  refine Fq (xs := []) (Nat.le_of_ble_eq_true rfl) (λ l H7 hl s7 hll => ?_)
  have J7 := (J.sm s6).sm s7
  have ik : Is K H7 (.ref b) (kT (kk it)) := .tup (bq.of (s7 _ _ hbt)) (.cons .int (.cons .int .nil))
  refine ⟨xs, es, ep, kT (kk it), b, l, J7.d, J7.k, rd (show xs.length <= 60 by lia) (by decide), rfl, ik, Bp _, rfl, λ p hp => ?_, λ hno es' ep' => ?_⟩
  ·obtain ⟨ys, hys, ey⟩ := J7.g.at (BC hp)
   have ly : ys.length <= 60 := by
    obtain ⟨k, _, e⟩ := m7.mp hys
    have e2 : uq ((is.zip vss).take n) k = ys := congrArg Prod.snd e
    have := EM ((is.zip vss).take n) k
    rw [e2, sV] at this
    lia
   refine rN (aZ.of ey) ?_
   f_look
   refine jP ey (rd ly (by decide)) (λ H8 b8 e8 => ?_)
   f_look
   exact ⟨xs, es, ep, _, rfl, by rw [tk]; exact J7.app ng hp b8 ey e8⟩
  ·have la : l ≠ a := λ z => by rw [z, J7.d] at hll; cases hll
   have hl1 : upd H7 a (DN P w a (xs ++ [(kT (kk it), b, l)]) es' ep') l = some (.lst []) := by rw [am la]; exact hll
   have lx : ∀ x ∈ xs, x.2.2 ≠ l := λ x hx z => by
    obtain ⟨_, _, e⟩ := J.g.at (t := x.1) (p := x.2) hx
    have := s6 _ _ e
    rw [z, hl] at this; cases this
   refine rN (aZ.of hl1) ?_
   f_look
   refine jP hl1 (by decide) (λ H8 b8 e8 => ?_)
   f_look
   have l0 : B.H0 l = none := J.s.free (s6.free hl)
   exact ⟨xs ++ [(kT (kk it), b, l)], es', ep', _, rfl, by rw [tk]; exact J7.new hno hll l0 lx ik (Bp _) b8 e8⟩
 ·rintro Z HD ⟨xs, es, ep, u, rfl, J⟩
  rw [lv, List.take_of_length_le (by lia)] at J
  have kn : (xs.map (·.1)).Nodup := J.keysNd (wR _)
  have hz : (is.zip vss).map (λ p => kk p.1) = is.map kk := by
   rw [show (λ p : Itm × V => kk p.1) = kk ∘ Prod.fst from rfl, <- q9, List.map_fst_zip (by lia)]
  have xk : xs.map (·.1) = (bu (is.map kk)).map kT := by rw [J.g.keys, kQ, hz]
  have xl : xs.length = (bu (is.map kk)).length := by have := congrArg List.length xk; rwa [cI, cI] at this
  have kl := (bZ (is.map kk)).2.1
  rw [cI] at kl
  f_look
  refine Ah ?_
  f_look
  have pk : xA K HD (bu (is.map kk)) xs := ⟨xl.symm, λ i k hk => by
   obtain ⟨x, hx⟩ : ∃ x, xs[i]? = some x := ⟨_, dM (by rw [xl]; exact (j3.mp hk).1)⟩
   have e1 : (xs.map (·.1))[i]? = some (kT k) := by rw [xk, jb, hk]; rfl
   rw [jb, hx] at e1
   have e1 : x.1 = kT k := nS e1
   have ik := (J.k x (j4 hx)).1
   rw [e1] at ik
   cases ik with
   | tup s il =>
    cases il with
    | cons h1 h2 =>
     cases h1
     cases h2 with
     | cons h3 h4 =>
      cases h3
      cases h4
      exact ⟨x, hx, s⟩⟩
  refine ⟨a, xs, es, ep, bu (is.map kk), rfl, J.d, pk, (bZ _).1, by lia, λ ls ys hls0 hby => ?_⟩
  obtain ⟨qs, hq, rfl, hsrt⟩ := xF hby
  have s3 : ah HD (upd HD ls (.lst (qs.map λ p => V.ref p.2.2.1))) := ah.new hls0 _
  have e3 : (upd HD ls (.lst (qs.map λ p => V.ref p.2.2.1))) ls = some (.lst (qs.map λ p => V.ref p.2.2.1)) := ar
  generalize upd HD ls (.lst (qs.map λ p => V.ref p.2.2.1)) = H3 at *
  have ql : qs.length = (bu (is.map kk)).length := by rw [hq.length_eq, List.length_zip]; lia
  have qm : ∀ x ∈ qs, x.2 ∈ xs /\ x.2.1 = kT x.1 := λ x hx => by
   obtain ⟨j, hj⟩ := List.mem_iff_getElem?.mp (hq.mem_iff.mp hx)
   rw [List.getElem?_zip_eq_some] at hj
   have e1 : (xs.map (·.1))[j]? = some (kT x.1) := by rw [xk, jb, hj.1]; rfl
   rw [jb, hj.2] at e1
   exact ⟨j4 hj.2, nS e1⟩
  refine ⟨ls, rfl, ⟨_, aZ.of e3⟩, ?_⟩
  refine ka (λ i v _ => ∃ x, qs[i]? = some x /\ v = .ref x.2.2.2) (λ _ _ _ _ _ h => h) (aZ.of e3) (Nat.le_of_lt (rd (show (qs.map λ p => V.ref p.2.2.1).length <= 60 by rw [cI]; lia) (by decide))) (λ i x H4 S hx s4 k => ?_) (λ acc vs H4 hacc s4 hat hlen hr => ?_)
  ·obtain ⟨y, hy, rfl⟩ := aU hx
   have J4 := (J.sm s3).sm s4
   have ym := (qm y (j4 hy)).1
   have ky := J4.k _ ym
   refine CM ?_
   f_look
   exact ⟨a, xs, es, ep, _, _, _, rfl, J4.d, J4.k, rfl, ky.1, ky.2, zm kn ym, k _ H4 (ah.refl _) ⟨y, hy, rfl⟩⟩
  ·have J4 := (J.sm s3).sm s4
   have fk : qs.map Prod.fst = dn (is.map kk) := by
    refine kZ dY ⟨qs.map λ p => (p.1, p.1), ?_, by rw [q9]; rfl, by rw [q9]; exact hsrt⟩ (tm _)
    have := hq.map λ p => (p.1, p.1)
    have ez : ((bu (is.map kk)).zip xs).map (λ p => (p.1, p.1)) = (bu (is.map kk)).zip (bu (is.map kk)) := by
     apply List.ext_getElem?
     intro j
     rw [jb]
     cases e : (bu (is.map kk))[j]? with
     | none =>
      have h1 := List.getElem?_eq_none_iff.mp e
      rw [vG (by rw [List.length_zip]; lia), vG (by rw [List.length_zip]; lia)]; rfl
     | some k =>
      have h1 := (j3.mp e).1
      have hj : j < xs.length := by lia
      have za : ((bu (is.map kk)).zip xs)[j]? = some (k, xs[j]) := List.getElem?_zip_eq_some.mpr ⟨e, dM hj⟩
      have zb : ((bu (is.map kk)).zip (bu (is.map kk)))[j]? = some (k, k) := List.getElem?_zip_eq_some.mpr ⟨e, e⟩
      rw [za, zb]; rfl
    rwa [ez] at this
   have fr : ∀ b ∈ xs.map (·.2.2), B.H0 b = none /\ ∃ o, H4 b = some o := λ b hb => by
    obtain ⟨x, hx, rfl⟩ := m7.mp hb
    obtain ⟨_, _, e⟩ := J4.g.at (t := x.1) (p := x.2) hx
    exact ⟨J4.f x hx, _, e⟩
   have u := EB bk J4.s fr
   have acc0 : HD acc = none := s3.free hacc
   have na : acc ∉ xs.map (·.2.2) := λ hb => by
    obtain ⟨x, hx, e0⟩ := m7.mp hb
    obtain ⟨_, _, e⟩ := J.g.at (t := x.1) (p := x.2) hx
    rw [e0, acc0] at e; cases e
   have a00 : B.H0 acc = none := J.s.free acc0
   refine q (.ref acc) (tE B.F0 H4 (xs.map (·.2.2))) H4 (.nw _) u ⟨acc, rfl, .lst hat ?_, ?_, a00⟩ φ
   ·rw [eK]
    refine qF (by rw [hlen, cI, cI, <- fk, cI]) λ i v hv => ?_
    obtain ⟨x, hx, rfl⟩ := hr i v hv
    obtain ⟨xm, xe⟩ := qm x (j4 hx)
    refine ⟨Je is x.1, by rw [<- fk, q9, jb, hx]; rfl, ?_⟩
    obtain ⟨l, hg, he⟩ := J4.g.at (t := x.2.1) (p := x.2.2) xm
    obtain ⟨k', _, e⟩ := m7.mp hg
    have e1 : kT k' = x.2.1 := congrArg Prod.fst e
    have e2 : uq (is.zip vss) k' = l := congrArg Prod.snd e
    rw [xe] at e1
    rw [lj e1] at e2
    rw [<- e2] at he
    refine .lst (aZ.of ?_) ((GK hls).same u.f)
    unfold tE
    rw [i9 (m7.mpr ⟨x.2, xm, rfl⟩)]
    exact he
   ·unfold tE
    rw [gS na]
    cases e : B.F0 acc with
    | none => rfl
    | some o => rw [bk.i _ _ e] at a00; cases a00
def Io : SpT := λ _ as Φ _ => ∃ a b : Int, as = [.fz (.int a), .fz (.int b)] /\ Φ (.fz (.int ((Int.gcd a b : Nat) : Int)))
theorem nU (T : cO K mg t) : FO P w base T.q_zae 1 (bE K Io) := by
 refine (ii (P := P) (w := w) (base := base) T).imp λ vs H Q E h => ?_
 obtain ⟨B, as, Φ, Ψ, rfl, rfl, bk, la, ⟨a, b, rfl, φ⟩, q, _⟩ := h
 obtain ⟨v, w', rfl, iv, iw⟩ := Hg la
 cases iv
 cases iw
 exact ⟨a, b, rfl, q (.int _) _ _ (.fz (.int _)) (Up.refl bk.i) .int φ⟩
theorem IU (ha : 0 < a) (hb : 0 < b) : 0 < a * b / ((Int.gcd a b : Nat) : Int) /\ a ∣ a * b / ((Int.gcd a b : Nat) : Int) /\ b ∣ a * b / ((Int.gcd a b : Nat) : Int) /\ a * b / ((Int.gcd a b : Nat) : Int) <= a * b := by
 have pg := cC (t := a) hb
 have e : a * b / ((Int.gcd a b : Nat) : Int) = ((Int.lcm a b : Nat) : Int) := by
  refine Int.ediv_eq_of_eq_mul_left (sY pg) ?_
  have := Int.gcd_mul_lcm a b
  have h : ((Int.gcd a b * Int.lcm a b : Nat) : Int) = ((a.natAbs * b.natAbs : Nat) : Int) := by rw [this]
  rw [Int.natCast_mul, Int.natCast_mul] at h
  rw [show ((a.natAbs : Nat) : Int) = a by lia, show ((b.natAbs : Nat) : Int) = b by lia] at h
  rw [<- h, Int.mul_comm]
 have hl := Int.lcm_pos (m := a) (n := b) (by lia) (by lia)
 have hm : 0 <= a * b := ut (r8 ha hb)
 refine ⟨by rw [e]; lia, by rw [e]; exact Int.dvd_lcm_left a b, by rw [e]; exact Int.dvd_lcm_right a b, Int.ediv_le_self _ hm⟩
theorem den_pos (q : Rat) : (0 : Int) < (q.den : Int) := Int.natCast_pos.mpr q.den_pos
def xZ : SpT := λ _ as Φ _ => ∃ xs : List Rat, as = [.fz (.lst (xs.map hW))] /\ (∀ q ∈ xs, QB q) /\ xs.length <= 100 /\ ∀ b : Int, 0 < b -> My.Bd 400000 b -> (∀ q ∈ xs, (q.den : Int) ∣ b) -> Φ (.fz (.int b))
theorem jK (T : cO K mg t) : FO P w base T.q_za4 2 (bE K xZ) := by
 open_k with T.q_za4.F.ok cp
 obtain ⟨xs, rfl, hg, hl, φ⟩ := hS
 refine ⟨_, (aJ (ag (i := 1) cp.nd rfl (Or.inl rfl) aD)
 (aJ (cm o4 rfl (br (pv 0)) (az (i := 2) cp.nd rfl (Or.inl rfl)) (aR (ag (i := 1) cp.nd rfl (Or.inl rfl) (ac cn (ac mr (pv 1) (aa (pv 2))) (bI (nU T) hr T.q_zae (af (pv 1) (af (aa (pv 2)) aA)))))))
 (aR (ai (pv 1))))), go _ _ (cB (τ := [.fz _, .no, .no]) rfl ?_)⟩
 kln_le
 kd_mark
 refine ⟨λ i τ => ∃ (b : Int) (u : Sl), τ = [.fz (.lst (xs.map hW)), .fz (.int b), u] /\ 0 < b /\ My.Bd (1 + 3000 * i) b /\ ∀ j x, j < i -> xs[j]? = some x -> (x.den : Int) ∣ b, ⟨1, _, rfl, by decide, by unfold My.Bd; decide, λ j x h => absurd h (Nat.not_lt_zero _)⟩, ?_, ?_⟩
 ·rintro i tt τ hi ⟨b, u, rfl, b0, bb, hd⟩
  obtain ⟨x, ex, rfl⟩ := aU hi
  have gx := hg x (j4 ex)
  have x0 := den_pos x
  have hi2 : i < xs.length := (j3.mp ex).1
  obtain ⟨p1, d1, d2, dl⟩ := IU b0 x0
  have m2 : cr (x.den : Int) := gx.d.mono (by decide)
  have pg := cC (t := b) x0
  have m3 : cr ((Int.gcd b x.den : Nat) : Int) := nM m2 (by have := qV (t := b) x0; lia)
  have m4 : My.Bd 50000000 b := bb.mono (by lia)
  have m5 : My.Bd 50000000 (x.den : Int) := gx.d.mono (by decide)
  unfold hW N2
  kd_mark
  intro _ _
  refine ⟨_, _, rfl, ?_⟩
  kd_mark
  have bm := bb.mul gx.d
  refine ⟨_, _, rfl, p1, (nM bm (by lia)).mono (by lia), λ j y hj ey => ?_⟩
  rcases Nat.lt_succ_iff_lt_or_eq.mp hj with h | rfl
  ·exact Int.dvd_trans (hd j y h ey) d1
  ·rw [ex] at ey; cases ey; exact d2
 ·rintro τ ⟨b, u, rfl, b0, bb, hd⟩
  rw [cI] at *
  kd_mark
  refine φ b b0 (bb.mono (by lia)) λ x hx => ?_
  obtain ⟨j, hj⟩ := List.mem_iff_getElem?.mp hx
  exact hd j x (j3.mp hj).1 hj
def xq (f : Fd) (i : Itm) : Rat := match rJ f.sx i.x with
 | .at q => q
 | .tx _ => 0
theorem tL {f : Fd} (h : rJ f.sx i.x = .at q) : xq f i = q := by unfold xq; rw [h]
theorem El (q : Rat) : My.qv q.num q.den = q := by
 show (q.num : Rat) / ((q.den : Int) : Rat) = q
 rw [<- Rat.divInt_eq_div]
 exact Rat.num_divInt_den q
def hU (b : Int) (q : Rat) : Int := q.num * (b / (q.den : Int))
theorem xw (h : (q.den : Int) ∣ b) : (hU b q : Rat) = q * (b : Rat) := by
 obtain ⟨k, rfl⟩ := h
 have d0 := den_pos q
 unfold hU
 rw [Int.mul_ediv_cancel_left _ (by lia), lS, lS]
 have e : q * ((q.den : Int) : Rat) = (q.num : Rat) := by
  have hq := El q
  have hd : ((q.den : Int) : Rat) ≠ 0 := λ z => by
   have := Rat.intCast_lt_intCast.mpr d0
   rw [z] at this
   exact Rat.lt_irrefl this
  unfold My.qv at hq
  grind
 rw [<- e]
 grind
theorem wz {p : Rat} (b0 : 0 < b) (hp : (p.den : Int) ∣ b) (hq : (q.den : Int) ∣ b) : hU b p < hU b q ↔ p < q := by
 have hb : (0 : Rat) < (b : Rat) := by
  have := Rat.intCast_lt_intCast.mpr b0
  simpa using this
 rw [<- Rat.intCast_lt_intCast, xw hp, xw hq]
 exact Rat.mul_lt_mul_right hb
theorem BY {p : Rat} {m n : Int} (b0 : 0 < b) (hp : (p.den : Int) ∣ b) (hq : (q.den : Int) ∣ b) : lt2 (hU b p, m) (hU b q, n) = rK (p, m) (q, n) := by
 have h1 := wz b0 hp hq
 have h2 := wz b0 hq hp
 unfold lt2 rK
 by_cases e : p = q
 ·subst e; rw [i9 rfl, i9 rfl]
 ·rw [gS e, gS (λ z : hU b p = hU b q => ?_)]
  ·rw [Bool.eq_iff_iff, sa, sa]; exact h1
  ·rcases Rat.le_total (a := p) (b := q) with k | k
   ·have := h1.mpr (Rat.lt_of_le_of_ne k e); lia
   ·have := h2.mpr (Rat.lt_of_le_of_ne k (Ne.symm e)); lia
def FN (f : Fd) (i : Itm) : Rat × Int := (xq f i, i.own)
def fu (f : Fd) (is : List Itm) : List Itm := mU rK (FN f) is
theorem CS {f : Fd} {is : List Itm} (h : (is.map (·.own)).Nodup) : (is.map (FN f)).Nodup := by
 rw [show is.map (·.own) = (is.map (FN f)).map Prod.snd by rw [q9]; rfl] at h
 exact List.Pairwise.of_map Prod.snd (λ a b h z => h (congrArg _ z)) h
theorem fW {f : Fd} {is : List Itm} (h : (is.map (·.own)).Nodup) : (fu f is).Perm is := lH fJ (CS h)
theorem gL {α β : Type} {f : α -> β} : ∀ {xs : List α} {os : List β}, os.length = xs.length -> (∀ (i : Nat) (o : β), os[i]? = some o -> ∃ x, xs[i]? = some x /\ o = f x) -> os = xs.map f
 | [], [], _, _ => rfl
 | x :: xs, o :: os, hl, h => by
  obtain ⟨y, e, rfl⟩ := h 0 o rfl
  cases e
  rw [kw, gL (xs := xs) (os := os) (by simpa using hl) λ i o' ho => h (i + 1) o' ho]
theorem qr {f : α -> Option β} {xs : List α} {os : List (Option β)} (hl : os.length = xs.length) (h : ∀ (i : Nat) (o : Option β), os[i]? = some o -> ∃ x, xs[i]? = some x /\ o = f x) : os.filterMap id = xs.filterMap f := by
 rw [gL hl h, List.filterMap_map]; rfl
theorem ou {g : α -> β} (xs : List α) : (xs.filterMap λ x => some (g x)) = xs.map g := by
 induction xs with
 | nil => rfl
 | cons x r ih => rw [vv, kw, ih]
def HN (b : Int) (q : Rat) (i : Itm) : Tr := .tup [.int (hU b q), .int i.own, i.tr]
structure AC (f : Fd) (i : Itm) : Prop where
 k : fY f i
 x : ∃ q, rJ f.sx i.x = .at q
def zp : SpT := λ _ as Φ _ => ∃ (f : Fd) (is : List Itm), as = [.fz f.tr, .fz (.lst (is.map Itm.tr))] /\ jM f /\ (∀ i ∈ is, AC f i) /\ is.length <= 60 /\ (is.map (·.own)).Nodup /\ Φ (.nw (.lst ((fu f is).map Itm.tr)))
theorem tS (T : cO K mg t) : FO P w base T.q_zbi 8 (bE K zp) := by
 open_k with T.q_zbi.F.ok fU
 obtain ⟨f, is, rfl, hf, hi, hl, ho, φ⟩ := hS
 refine ⟨_, (aJ (oo (iy := 2) fU.nd rfl (Or.inl rfl) rfl (bM (fr := [("field", 0)]) (osc := ae cY) (N := ["field", "items", "places", "bottom", "tops"]) rfl rfl (by decide +kernel)) (br (pv 1)) (λ _ _ _ _ _ => (bI (dN T) hr T.q_zaf (af (pv 1) (af (pv 0) (af aI aA))))))
 (aJ (ag (i := 3) fU.nd rfl (Or.inr rfl) (bI (jK T) hr T.q_za4 (af (pv 2) aA)))
 (aJ (oo (iy := 4) fU.nd rfl (Or.inl rfl) rfl (bM (fr := [("bottom", 3)]) (osc := ae cY) (N := ["field", "items", "places", "bottom", "tops"]) rfl rfl (by decide +kernel)) (br (pv 2)) (λ _ _ _ _ _ => (ac mr (aV (r := mJ B.K) CD (pv 0) aD (λ _ _ => rfl)) (ac cn (pv 1) (aV (r := mJ B.K) CD (pv 0) aD (λ _ _ => rfl))))))
 (aR (ai (sP rfl (bM (fr := []) (osc := ae cY) (N := ["field", "items", "places", "bottom", "tops"]) rfl rfl (by decide +kernel)) (br (aN pT rfl T.z_sorted gW (af (Ad (fr := []) rfl (lP (osc := ae cY) (N := ["field", "items", "places", "bottom", "tops"]) rfl rfl (by decide +kernel) (by decide +kernel) (by decide)) (Cd rfl T.z_zip (af (pv 4) (af (pv 1) aA))) (λ _ _ _ _ _ => (aL (af (pv 0) (af (aV (r := mJ B.K) CD (pv 1) aD (λ _ _ => rfl)) (af (pv 1) aA)))))) aA))) (λ _ _ _ _ _ => (aV (r := mJ B.K) CD (pv 0) aD (λ _ _ => rfl))))))))), go _ _ (cB (τ := [.fz _, .fz _, .no, .no, .no]) rfl ?_)⟩
 kln_le
 kd_mark
 refine Bb (iU rfl ?_)
 kd_mark
 refine ⟨[.fz f.tr], by repeat (first | exact .nil | refine .fz (by kt_join) ?_), by rw [cI]; lia, λ j o => ∃ i, is[j]? = some i /\ o = hW (xq f i) /\ QB (xq f i), λ j tt ht => ?_, λ os hl2 ho2 => ?_⟩
 ·obtain ⟨i, ei, rfl⟩ := aU ht
  have si := hi i (j4 ei)
  obtain ⟨q, hq⟩ := si.x
  kd_mark
  intro _ _
  refine hC hf si.k (.inl rfl) ?_
  have e : jW f i "x" = .at q := by unfold jW; rw [i9 rfl, hq]
  rw [e]
  intro hb
  show tU (.fz (hW q)) _ _
  kd_mark
  exact ⟨i, ei, by rw [tL hq], by rw [tL hq]; exact hb⟩
 have hqb : ∀ i ∈ is, QB (xq f i) := λ i hm => by
  obtain ⟨j, hj⟩ := List.mem_iff_getElem?.mp hm
  have hjl : j < os.length := by rw [hl2, cI]; exact (j3.mp hj).1
  obtain ⟨i', e1, _, h3⟩ := ho2 j os[j] (dM hjl)
  rw [hj] at e1; cases e1; exact h3
 rw [gL (xs := is) (os := os) (f := λ i => hW (xq f i)) (by rw [hl2, cI]) λ j o ho' => by obtain ⟨i, a, b, _⟩ := ho2 j o ho'; exact ⟨i, a, b⟩]
 kd_mark
 intro _ _
 refine ⟨is.map (xq f), by rw [q9]; rfl, λ q hq => ?_, by rw [cI]; lia, λ b b0 bb hdv => ?_⟩
 ·obtain ⟨i, hm, rfl⟩ := m7.mp hq
  exact hqb i hm
 have hdv : ∀ i ∈ is, ((xq f i).den : Int) ∣ b := λ i hm => hdv _ (m7.mpr ⟨i, hm, rfl⟩)
 clear hl2 ho2
 kd_mark
 refine Bb (iU rfl ?_)
 kd_mark
 refine ⟨[.fz (.int b)], by repeat (first | exact .nil | refine .fz (by kt_join) ?_), by rw [cI]; lia, λ j o => ∃ i, is[j]? = some i /\ o = .int (hU b (xq f i)), λ j tt ht => ?_, λ os2 hl2 ho2 => ?_⟩
 ·obtain ⟨i, ei, rfl⟩ := aU ht
  have mi := j4 ei
  have gq := hqb i mi
  have d0 := den_pos (xq f i)
  have m1 : cr ((xq f i).den : Int) := gq.d.mono (by decide)
  have m2 : My.Bd 50000000 (xq f i).num := gq.n.mono (by decide)
  have m3 : My.Bd 50000000 (b / ((xq f i).den : Int)) := (nM bb (by
   have h1 := Int.ediv_nonneg (ut b0) (ut d0)
   have h2 := Int.ediv_le_self ((xq f i).den : Int) (ut b0)
   lia)).mono (by decide)
  unfold hW N2
  kd_mark
  exact ⟨i, ei, rfl⟩
 rw [gL (xs := is) (os := os2) (f := λ i => .int (hU b (xq f i))) (by rw [hl2, cI]) ho2]
 kd_mark
 refine Bb (iU rfl ?_)
 kd_mark
 refine Cc rfl (zu rfl ?_)
 kd_mark
 have cnv : ∀ ys, dJ lt2 (is.map λ i => (hU b (xq f i), i.own)) is ys -> ys = fu f is := λ ys hy => by
  obtain ⟨hp, hs⟩ := jG.mp hy
  refine (oZ fJ (jG.mpr ⟨hp, ?_⟩)).symm
  rw [List.pairwise_map] at hs ⊢
  refine List.Pairwise.imp_of_mem (λ {x y} mx my h => ?_) hs
  show rK (xq f x, x.own) (xq f y, y.own) = true
  rw [<- BY b0 (hdv x (hp.mem_iff.mp mx)) (hdv y (hp.mem_iff.mp my))]
  exact h
 have hnd : (is.map λ i => (hU b (xq f i), i.own)).Nodup := by
  rw [show is.map (·.own) = (is.map λ i => (hU b (xq f i), i.own)).map Prod.snd by rw [q9]; rfl] at ho
  exact List.Pairwise.of_map Prod.snd (λ a b h z => h (congrArg _ z)) ho
 have zl : (fc (is.map λ i => Tr.int (hU b (xq f i))) (is.map Itm.tr)).length = is.length := by rw [gX, cI, cI, Nat.min_self]
 refine ⟨_, _, _, _, rfl, rfl, [], .nil, by rw [zl]; lia, λ j o => ∃ i, is[j]? = some i /\ o = some (HN b (xq f i) i), λ j tt ht => ?_, λ os3 hl3 ho3 => ?_⟩
 ·obtain ⟨x, y, h1, h2, rfl⟩ := gz _ _ _ _ ht
  obtain ⟨i, ei, rfl⟩ := aU h1
  obtain ⟨i2, ei2, rfl⟩ := aU h2
  rw [ei] at ei2
  cases ei2
  refine ⟨_, _, rfl, ?_⟩
  unfold Itm.tr
  kd_mark
  exact ⟨i, ei, rfl⟩
 rw [qr (xs := is) (f := λ i => some (HN b (xq f i) i)) (by rw [hl3, zl]) ho3, ou]
 clear hl3 ho3 zl
 kd_mark
 refine wH (kz := is.map λ i => (hU b (xq f i), i.own)) rfl (by dl_open) (by rw [cI, cI]) (λ n k hk => ?_) hnd (by rw [cI]; lia) λ us hu => ?_
 ·rw [jb] at hk
  cases e : is[n]? with
  | none => rw [e] at hk; cases hk
  | some i =>
   rw [e] at hk
   cases hk
   exact ⟨[i.tr], by rw [jb, e]; rfl⟩
 obtain ⟨ys, rfl, hy⟩ := oH hu
 have ey := cnv ys hy
 subst ey
 have ly : (fu f is).length <= 60 := by rw [(fW ho).length_eq]; exact hl
 kd_mark
 refine ⟨[], .nil, by rw [cI]; lia, λ j o => ∃ i, (fu f is)[j]? = some i /\ o = i.tr, λ j tt ht => ?_, λ os4 hl4 ho4 => ?_⟩
 ·obtain ⟨i, ei, rfl⟩ := aU ht
  unfold HN
  kd_mark
  exact ⟨i, ei, rfl⟩
 rw [gL (xs := fu f is) (os := os4) (f := Itm.tr) (by rw [hl4, cI]) ho4]
 exact Jx φ
def Jb (f : Fd) (i : Itm) (ch : Str) : Rat := match jW f i ch with
 | .at q => q
 | .tx _ => 0
theorem AY {f : Fd} {ch : Str} (h : jW f i ch = .at q) : Jb f i ch = q := by unfold Jb; rw [h]
def LC (f : Fd) (chs : List Str) (i : Itm) : List Int := (f.x0 + yp (xq f i)) :: chs.map λ ch => f.y0 + f.h - yp (Jb f i ch)
def oK (f : Fd) (chs : List Str) (i : Itm) : Tr := .tup ((LC f chs i).map Tr.int)
structure mw (f : Fd) (chs : List Str) (i : Itm) : Prop where
 s : AC f i
 c : ∀ ch ∈ chs, ∃ q, jW f i ch = .at q
def JG (chs : List Str) : Prop := chs.length <= 5 /\ ∀ ch ∈ chs, ch = "x" ∨ ch = "y"
def Aj : SpT := λ _ as Φ _ => ∃ (f : Fd) (i : Itm) (chs : List Str), as = [.fz f.tr, .fz i.tr, .fz (.tup (chs.map Tr.str))] /\ jM f /\ mw f chs i /\ JG chs /\ Φ (.fz (oK f chs i))
theorem rD (T : cO K mg t) : FO P w base T.q_zbj 9 (bE K Aj) := by
 open_k with T.q_zbj.F.ok tf
 obtain ⟨f, i, chs, rfl, hf, hi, hc, φ⟩ := hS
 obtain ⟨q, hq⟩ := hi.s.x
 refine ⟨_, (aR (ai (gZ oS rfl T.z_tuple jv (af (ac gT (aT (af (bI (AD T) hr T.q_zbe (af (pv 0) (af (pv 1) aA))) aA)) (sP rfl (bM (fr := [("field", 0), ("item", 1)]) (osc := ae fA) (N := ["field", "item", "channels"]) rfl rfl (by decide +kernel)) (Av (pv 2)) (λ _ _ _ _ _ => (bI (yA T) hr T.q_zbd (af (pv 1) (af (bI (dN T) hr T.q_zaf (af (pv 1) (af (pv 2) (af (pv 0) aA)))) aA)))))) aA)))), go _ _ (cB (τ := [.fz _, .fz _, .fz _]) rfl ?_)⟩
 kln_le
 kd_mark
 intro _ _
 refine ⟨f, i, q, rfl, hf, hi.s.k, hq, ?_⟩
 kd_mark
 refine Bb (FB rfl ?_)
 kd_mark
 refine ⟨[.fz f.tr, .fz i.tr], by repeat (first | exact .nil | refine .fz (by kt_join) ?_), by rw [cI]; have := hc.1; lia, λ j o => ∃ ch, chs[j]? = some ch /\ o = .int (f.y0 + f.h - yp (Jb f i ch)), λ j tt ht => ?_, λ os hl2 ho => ?_⟩
 ·obtain ⟨ch, hch, rfl⟩ := aU ht
  have mc := j4 hch
  obtain ⟨r, hr⟩ := hi.c ch mc
  kd_mark
  intro _ _
  refine hC hf hi.s.k (hc.2 ch mc) ?_
  rw [hr]
  intro hb
  show Fs (.fz (hW r)) _ _
  kd_mark
  intro _ _
  refine ⟨f, r, rfl, hb, ?_⟩
  kd_mark
  exact ⟨ch, hch, by rw [AY hr]⟩
 rw [gL (xs := chs) (os := os) (f := λ ch => .int (f.y0 + f.h - yp (Jb f i ch))) (by rw [hl2, cI]) ho]
 kd_mark
 refine gU rfl Rk.fz Rk.fz (by rw [cI]; have := hc.1; show 1 + chs.length <= _; lia) ?_
 kd_mark
 have e : oK f chs i = .tup ([Tr.int (f.x0 + yp q)] ++ chs.map λ ch => Tr.int (f.y0 + f.h - yp (Jb f i ch))) := by
  unfold oK LC
  rw [tL hq, kw, q9]
  rfl
 rw [<- e]
 exact φ
def yr : SpR := λ _ as Φ => ∃ (f : Fd) (is : List Itm) (chs : List Str), as = [.fz f.tr, .fz (.lst (is.map Itm.tr)), .fz (.tup (chs.map Tr.str))] /\ is.length <= 100 /\ jM f /\ (∀ i ∈ is, fY f i) /\ (∀ ch ∈ chs, ch = "x" ∨ ch = "y") /\ Φ ((is.filter λ i => (aS f i chs).isNone).map Itm.tr) (is.filterMap λ i => aS f i chs)
theorem Lb {D : eQ} {t : TS} {ts : List Ar} (h : dS n ts = τ) (q : Hu B D t τ) : Hu B D t (dS n ts) := by rw [h]; exact q
theorem sr {f : Fd} : ∀ {chs : List Str} {t : Tr}, aS f i chs = some t -> ∃ a b c, t = .tup [a, b, c]
 | [], _, h => by cases h
 | ch :: r, t, h => by
  unfold aS at h
  split at h
  ·cases h; exact ⟨_, _, _, rfl⟩
  ·exact sr h
theorem uC (T : cO K mg t) : FO P w base T.q_zbg 9 (rP K yr) := by
 refine T.q_zbg.F.ok fj (yE (λ B as Φ h => by obtain ⟨_, _, _, rfl, _⟩ := h; rfl)) (λ cdv A outer s H vs Q E hr h => ?_)
 obtain ⟨B, as, Φ, rfl, hS, go⟩ := vY h
 obtain ⟨f, is, chs, rfl, hl, hf, hi, hch, φ⟩ := hS
 refine ⟨_, (aJ (ag (i := 3) fj.nd rfl (Or.inl rfl) (aT aA))
 (aJ (ag (i := 4) fj.nd rfl (Or.inl rfl) (aT aA))
 (aJ (cm o4 rfl (br (pv 1)) (az (i := 5) fj.nd rfl (Or.inl rfl)) (aJ (ag (i := 6) fj.nd rfl (Or.inl rfl) (bI (sk T) hr T.q_zbf (af (pv 0) (af (pv 5) (af (pv 2) aA)))))
 (aR (aK (aj qj (pv 6) kP (aw _)) (aR (bU (dw ld o7 o8 bn (pv 3) (af (pv 5) aA)))) (aR (bU (dw ld o7 o8 bn (pv 4) (af (pv 6) aA))))))))
 (aR (ai (aL (af (pv 3) (af (pv 4) aA)))))))), go _ _ λ D hD => ?_⟩
 kln_le
 refine Lb (τ := [.fz _, .fz _, .fz _, .no, .no, .no, .no]) rfl (jg ?_)
 kd_mark
 refine jg ?_
 kd_mark
 refine jg ?_
 kd_mark
 refine ⟨λ j τ => ∃ u1 u2 : Sl, τ = [.fz f.tr, .fz (.lst (is.map Itm.tr)), .fz (.tup (chs.map Tr.str)), .own (.lst (((is.take j).filter λ i => (aS f i chs).isNone).map Itm.tr)), .own (.lst ((is.take j).filterMap λ i => aS f i chs)), u1, u2], ⟨_, _, rfl⟩, ?_, ?_⟩
 ·rintro j tt τ hj ⟨u1, u2, rfl⟩
  obtain ⟨it, ei, rfl⟩ : ∃ it, is[j]? = some it /\ tt = it.tr := by
   rw [jb] at hj
   cases e : is[j]? with
   | none => rw [e] at hj; cases hj
   | some c => rw [e] at hj; cases hj; exact ⟨c, rfl, rfl⟩
  have hit := hi it (j4 ei)
  have tk : is.take (j + 1) = is.take j ++ [it] := by rw [List.take_succ, ei]; rfl
  have wl1 : (((is.take j).filter λ i => (aS f i chs).isNone).map Itm.tr).length <= 10000 := by
   rw [cI]
   exact n9 (List.length_filter_le _ _) (by rw [sV]; lia)
  have wl2 : ((is.take j).filterMap λ i => aS f i chs).length <= 10000 := n9 (List.length_filterMap_le _ _) (by rw [sV]; lia)
  kd_mark
  intro _ _
  refine ⟨f, it, chs, rfl, hf, hit, hch, ?_⟩
  cases e : aS f it chs with
  | none =>
   dsimp only [HF]
   kd_mark
   simp only [tk, List.filter_append, oM, List.filterMap_append, List.filter_cons, List.filter_nil, vv, List.filterMap_nil, e, Option.isNone_none, if_true, kw, List.map_nil, vM]
   exact ⟨_, _, rfl⟩
  | some t0 =>
   obtain ⟨a, b, c, rfl⟩ := sr e
   dsimp only [HF]
   kd_mark
   simp only [tk, List.filter_append, oM, List.filterMap_append, List.filter_cons, List.filter_nil, vv, List.filterMap_nil, e, Option.isNone_some, Bool.false_eq_true, if_false, List.map_nil, vM]
   exact ⟨_, _, rfl⟩
 ·rintro τ ⟨u1, u2, rfl⟩
  rw [cI, List.take_length]
  exact Gh hD (by kt_join) (by kt_join) (by decide) φ
theorem Mf {t1 t2 t3 t4 t5 : Tr} (h : ge B F vs [.fz t1, .fz t2, .fz t3, .fz t4, .fz t5]) : ∃ v1 v2 v3 v4 v5, vs = [v1, v2, v3, v4, v5] /\ Is B.K F v1 t1 /\ Is B.K F v2 t2 /\ Is B.K F v3 t3 /\ Is B.K F v4 t4 /\ Is B.K F v5 t5 := by
 cases h with
 | cons a h =>
  cases h with
  | cons b h =>
   cases h with
   | cons c h =>
    cases h with
    | cons d h =>
     cases h with
     | cons e h => cases h; exact ⟨_, _, _, _, _, rfl, a, b, c, d, e⟩
def sN (H0 F : Hp) (x : V) : Prop := ∃ (q qs pn pp : Addr) (w s c : V) (ys zs : List V), x = .ref q /\ F q = some (.tup [.ref qs, .ref pn]) /\ F qs = some (.tup [w, s, .ref pp, c]) /\ (F pp = some (.lst ys) /\ ys.length <= 60 /\ H0 pp = none) /\ F pn = some (.lst zs) /\ zs.length <= 60 /\ H0 pn = none
theorem sN.same {H0 F' : Hp} {x : V} (s : ah F F') (h : sN H0 F x) : sN H0 F' x := by
 obtain ⟨q, qs, pn, pp, w, v, c, ys, zs, e, h1, h2, ⟨h3, h4, h5⟩, h6, h7⟩ := h
 exact ⟨q, qs, pn, pp, w, v, c, ys, zs, e, s _ _ h1, s _ _ h2, ⟨s _ _ h3, h4, h5⟩, s _ _ h6, h7⟩
def Bo (K : Fg) (S : SpR) : Sp := λ vs H Q _ => ∃ B as Φ, B.K = K /\ B.H0 = H /\ qc B /\ ge B B.F0 vs as /\ S B as Φ /\ ∀ p a b F' H' ts us, Up B B.F0 H F' H' -> wW B F' H' p a b ts us -> (∃ xs, H' a = some (.lst xs) /\ ∀ x ∈ xs, sN H F' x) -> Φ ts us -> Q (.ref p) H'
theorem oW {K : Fg} {S : SpR} (hn : ∀ B as Φ, S B as Φ -> as.length = n) : ∀ vs H Q E, Bo K S vs H Q E -> vs.length = n := λ vs H Q E h => by
 obtain ⟨B, as, Φ, _, _, _, l, s, _⟩ := h
 rw [l.length]; exact hn B as Φ s
def ci (f : Fd) (chs : List Str) (is : List Itm) : List Itm := is.filter λ i => (aS f i (("x" : Str) :: chs)).isNone
def HW (f : Fd) (chs : List Str) (g : List Itm) : Tr := .lst ((fu f g).map (oK f chs))
def ie (f : Fd) (side word : Str) (chs : List Str) (is : List Itm) (k : Int × Int) : Tr :=
 .tup [.tup [.str word, .str side, HW f chs (is.filter λ i => decide (kk i = k)), .int k.2], .lst ((is.filter λ i => decide (kk i = k)).map λ i => .int i.own)]
def dC (f : Fd) (side word : Str) (chs : List Str) (is : List Itm) : List Tr := (dn (is.map kk)).map (ie f side word chs is)
theorem pF {f : Fd} : ∀ {chs : List Str}, aS f i chs = none -> ∀ ch ∈ chs, ∃ q, jW f i ch = .at q
 | ch :: r, h, c, hc => by
  unfold aS at h
  cases e : jW f i ch with
  | tx z => rw [e] at h; cases h
  | «at» q =>
   rw [e] at h
   rcases j8.mp hc with rfl | hc
   ·exact ⟨q, e⟩
   ·exact pF h c hc
variable {chs : List Str}
theorem IE {f : Fd} {is : List Itm} (hi : ∀ i ∈ is, fY f i) : ∀ i ∈ ci f chs is, mw f chs i := λ i hm => by
 obtain ⟨m, h⟩ := List.mem_filter.mp hm
 have h := pF (Option.isNone_iff_eq_none.mp h)
 obtain ⟨q, hq⟩ := h "x" kv
 have e : jW f i "x" = rJ f.sx i.x := by unfold jW; rw [i9 rfl]
 rw [e] at hq
 exact ⟨⟨hi i m, q, hq⟩, λ ch hc => h ch (n8 _ hc)⟩
def yZ : SpR := λ _ as Φ => ∃ (f : Fd) (side word : Str) (chs : List Str) (is : List Itm), as = [.fz f.tr, .fz (.str side), .fz (.lst (is.map Itm.tr)), .fz (.str word), .fz (.tup (chs.map Tr.str))] /\ chs ≠ [] /\ is.length <= 60 /\ jM f /\ (∀ i ∈ is, fY f i) /\ JG chs /\ (is.map (·.own)).Nodup /\ Φ (dC f side word chs (ci f chs is)) (is.filterMap λ i => aS f i (("x" : Str) :: chs))
theorem yL (T : cO K mg t) : FO P w base T.q_zbk 10 (Bo K yZ) := by
 refine T.q_zbk.F.ok eZ (oW (λ B as Φ h => by obtain ⟨_, _, _, _, _, rfl, _⟩ := h; rfl)) (λ cdv A outer s H vs Q E hr h => ?_)
 obtain ⟨B, as, Φ, eK, rfl, bk, la, ⟨f, side, word, chs, is, rfl, hne, hl, hf, hi, hc, ho, φ⟩, q⟩ := h
 obtain ⟨vf, v1, vi, v2, vc, rfl, if0, i1, ii0, i2, ic0⟩ := Mf la
 rw [eK] at if0 i1 ii0 i2 ic0
 cases i1
 cases i2
 refine ⟨_, (aJ (ag (i := 5) eZ.nd rfl (Or.inl rfl) (bI (uC T) hr T.q_zbg (af (pv 0) (af (pv 2) (af (ac Ed (aL (af aI aA)) (pv 4)) aA)))))
 (aJ (ag (i := 6) eZ.nd rfl (Or.inl rfl) (aT aA))
 (aJ (cm o4 rfl (br (bI (tX T) hr T.q_zbh (af (aa (pv 5)) aA))) (az (i := 7) eZ.nd rfl (Or.inl rfl)) (aJ (oo (iy := 8) eZ.nd rfl (Or.inl rfl) rfl (bM (fr := [("field", 0), ("channels", 4)]) (osc := ae gE) (N := ["field", "side", "items", "word", "channels", "both", "marks", "group", "points"]) rfl rfl (by decide +kernel)) (br (bI (tS T) hr T.q_zbi (af (pv 0) (af (pv 7) aA)))) (λ _ _ _ _ _ => (bI (rD T) hr T.q_zbj (af (pv 1) (af (pv 0) (af (pv 2) aA))))))
 (aR (bU (dw ld o7 o8 bn (pv 6) (af (aL (af (aL (af (pv 3) (af (pv 1) (af (pv 8) (af (aa (ak (pv 7))) aA))))) (af (sP rfl (bM (fr := []) (osc := ae gE) (N := ["field", "side", "items", "word", "channels", "both", "marks", "group", "points"]) rfl rfl (by decide +kernel)) (br (pv 7)) (λ _ _ _ _ _ => (aV (r := mJ K) CD (pv 0) aD (λ _ _ => rfl)))) aA))) aA))))))
 (aR (ai (aL (af (pv 6) (af (aa (pv 5)) aA)))))))), ir (Z := [some _, some _, some _, some _, some _, none, none, none, none]) rfl ?_⟩
 kln_le
 have i0 := bk.i
 cases ic0 with
 | @tup pc vcs _ hpc hcs =>
 have ec : vcs = chs.map V.str := hcs.strs (ns := chs)
 subst ec
 have cne : chs.map V.str ≠ [] := λ z => hne (List.map_eq_nil_iff.mp z)
 f_look
 rename_i p1 H1 hp1 s1 e1
 refine ⟨p1, pc, [.str "x"], chs.map V.str, rfl, rfl, bq.of e1, (s1.tup (i0.tup hpc)), by rw [cI]; exact Nat.le_of_lt (rd (show 1 + chs.length <= 10 by have := hc.1; lia) (by decide)), λ z => (nomatch z), λ _ z => absurd z cne, λ _ _ p2 hp2 => ?_⟩
 have s2 : ah H1 (upd H1 p2 (.tup ([V.str "x"] ++ chs.map V.str))) := ah.new hp2 _
 have e2 : (upd H1 p2 (.tup ([V.str "x"] ++ chs.map V.str))) p2 = some (.tup ((("x" : Str) :: chs).map V.str)) := ar
 generalize upd H1 p2 (.tup ([V.str "x"] ++ chs.map V.str)) = H2 at *
 have s02 : ah B.H0 H2 := s1.trans s2
 have n2 : B.H0 p2 = none := s1.free hp2
 f_look
 have b2 : ah B.F0 (ck B.F0 B.H0 [] H2) := rj i0 (λ _ m => absurd m mV)
 refine zI (a := (0 : Nat)) (F0 := B.F0) (H0 := B.H0) (L := []) (as := [.fz f.tr, .fz (.lst (is.map Itm.tr)), .fz (.tup ((("x" : Str) :: chs).map Tr.str))]) (Φ := λ ts us => ts = (ci f chs is).map Itm.tr /\ us = is.filterMap λ i => aS f i (("x" : Str) :: chs)) i0 s02 (λ _ m => absurd m mV) (.cons (if0.same b2) (.cons (ii0.same b2) (.cons (.tup (bq.of (by rw [oG n2 mV]; exact e2)) (IsL.ofStrs _)) .nil))) ⟨f, is, ("x" : Str) :: chs, rfl, by lia, hf, hi, rm.mpr ⟨.inl rfl, hc.2⟩, rfl, rfl⟩ (λ p x y F3 H3 ts us s3 sF row hts => ?_)
 obtain ⟨rfl, rfl⟩ := hts
 have s03 := s02.trans s3
 have sp3 : bq K H3 p [.ref x, .ref y] := (sF.trans (tZ i0 s03)).tup row.sp
 have nx : B.H0 x = none := s02.free row.na
 have ny : B.H0 y = none := s02.free row.nb
 have xy := row.ne
 cases row.oa with
 | @lst vx _ hx lx =>
 cases row.ob with
 | @lst vy _ hy ly =>
 have lx : IsL K F3 vx ((ci f chs is).map Itm.tr) := lx
 have ly : IsL K F3 vy (is.filterMap λ i => aS f i (("x" : Str) :: chs)) := ly
 have fx3 : ah F3 (ck B.F0 B.H0 [y] H3) := GQ sF λ b m => by rw [j7.mp m]; exact row.fb
 have lx3 := lx.same fx3
 have ly3 := ly.same fx3
 f_look
 refine Fq (xs := []) (Nat.le_of_ble_eq_true rfl) (λ m H4 hm s4 hml => ?_)
 have s04 := s03.trans s4
 have nm : B.H0 m = none := s03.free hm
 have my : m ≠ y := λ z => by rw [z, hy] at hm; cases hm
 have mx : m ≠ x := λ z => by rw [z, hx] at hm; cases hm
 have fx4 : ah (ck B.F0 B.H0 [y] H3) (ck B.F0 B.H0 [m, y] H4) := EA (λ b h => by
  rcases j8.mp h with e | e
  ·rw [e]; exact .inr ⟨nm, hm⟩
  ·exact .inl e) (λ b o _ e => s4 _ _ e)
 have hy4 := s4 _ _ hy
 have ll4 : ∀ b ∈ [m, y], ∃ xs, H4 b = some (.lst xs) := λ b h => by
  rcases j8.mp h with e | e
  ·rw [e]; exact ⟨_, hml⟩
  ·rw [j7.mp e]; exact ⟨_, hy4⟩
 have nL : ∀ b ∈ [m, y], B.H0 b = none := λ b h => by
  rcases j8.mp h with e | e
  ·rw [e]; exact nm
  ·rw [j7.mp e]; exact ny
 f_look
 refine mF (s4.tup sp3) (ce (j := 0) rfl) ?_
 f_look
 have nxL : x ∉ [m, y] := λ h => by
  rcases j8.mp h with e | e
  ·exact mx e.symm
  ·exact xy (j7.mp e)
 have sl := List.length_filter_le (λ i => (aS f i (("x" : Str) :: chs)).isNone) is
 refine qB (a := (0 : Nat)) (F0 := B.F0) (H0 := B.H0) (L := [m, y]) (as := [.fz (.lst ((ci f chs is).map Itm.tr))]) (Φ := λ k => k = .nw (.lst ((dn ((ci f chs is).map kk)).map (Je (ci f chs is))))) i0 s04 ll4 (.cons (.lst (aZ.of (by rw [oG nx nxL]; exact s4 _ _ hx)) (lx3.same fx4)) .nil) ⟨ci f chs is, rfl, n9 sl hl, rfl⟩ (λ v F5 H5 k s5 sF5 _ ret hk => ?_)
 subst hk
 obtain ⟨l, rfl, ow, _, hl0⟩ := ret
 cases ow with
 | @lst gs _ hgl igs =>
 have igs : IsL K F5 gs ((dn ((ci f chs is).map kk)).map (Je (ci f chs is))) := igs
 have s05 := s04.trans s5
 have g5 := igs.same sF5
 refine ⟨l, rfl, ⟨_, aZ.of hgl⟩, ?_⟩
 have hl0 : H4 l = none := hl0
 have lm : l ≠ m := λ z => by rw [z, hml] at hl0; cases hl0
 have hm5 : H5 m = some (.lst []) := s5 _ _ hml
 have hy5 := s5 _ _ hy4
 have sfix : ∀ {v : V} {t : Tr} {HD : Hp}, Is K B.F0 v t -> Is K (ck B.F0 B.H0 [m, y] HD) v t := λ h => h.same (rj i0 nL)
 generalize hstd : ci f chs is = std at *
 have hstand : ∀ i ∈ std, mw f chs i := by rw [<- hstd]; exact IE hi
 have lstd : std.length <= 60 := by rw [<- hstd]; exact n9 sl hl
 have ostd : (std.map (·.own)).Nodup := by rw [<- hstd]; exact (List.filter_sublist.map _).nodup ho
 have lk : (dn (std.map kk)).length <= 60 := by
  rw [(dX _).length_eq]
  have := (bZ (std.map kk)).2.1
  rw [cI] at this
  lia
 have lg : gs.length = (dn (std.map kk)).length := by rw [igs.length, cI]
 refine rE (K := K) (xs := gs) (λ n Z HD => ∃ (xs : List V) (u1 u2 : Option V), Z = [some vf, some (.str side), some vi, some (.str word), some (.ref pc), some (.ref p), some (.ref m), u1, u2] /\ ah B.H0 HD /\ (∀ b o, b ≠ m -> H5 b = some o -> HD b = some o) /\ HD m = some (.lst xs) /\ xs.length = n /\ IsL K (ck B.F0 B.H0 [m, y] HD) xs (((dn (std.map kk)).take n).map (ie f side word chs std)) /\ ∀ x ∈ xs, sN B.H0 (ck B.F0 B.H0 [m, y] HD) x) ⟨[], none, none, rfl, s05, λ b o _ e => e, hm5, rfl, .nil, λ _ h => absurd h mV⟩ (λ n Z HD _ ⟨_, _, _, _, _, k, _⟩ => aZ.of (k l _ lm hgl)) ?_ ?_
 ·rintro n x Z HD hx ⟨xs, u1, u2, rfl, s0D, kD, hmD, hln, hxs, hgood⟩
  have hn : n < (dn (std.map kk)).length := by rw [<- lg]; exact (j3.mp hx).1
  obtain ⟨tt, ht, ix⟩ := g5.get2 hx
  obtain ⟨k, ek, rfl⟩ := aU ht
  have tk : (dn (std.map kk)).take (n + 1) = (dn (std.map kk)).take n ++ [k] := by rw [List.take_succ, ek]; rfl
  have fxD : ah (ck B.F0 B.H0 [m, y] H5) (ck B.F0 B.H0 [m, y] HD) := fQ λ b o h e => kD b o (λ z => h (by rw [z]; exact kv)) e
  have ix := ix.same fxD
  have hyD := kD y _ (Ne.symm my) hy5
  have llD : ∀ b ∈ [m, y], ∃ xs, HD b = some (.lst xs) := λ b h => by
   rcases j8.mp h with e | e
   ·rw [e]; exact ⟨_, hmD⟩
   ·rw [j7.mp e]; exact ⟨_, hyD⟩
  generalize hgr : std.filter (λ i => decide (kk i = k)) = gr at *
  have gsub : gr.Sublist std := by rw [<- hgr]; exact List.filter_sublist
  have gst : ∀ i ∈ gr, mw f chs i := λ i hi => hstand i (gsub.mem hi)
  have gown : (gr.map (·.own)).Nodup := (gsub.map _).nodup ostd
  have gl60 : gr.length <= 60 := n9 gsub.length_le lstd
  have gkk : ∀ i ∈ gr, kk i = k := λ i hi => by rw [<- hgr] at hi; exact of_decide_eq_true (List.mem_filter.mp hi).2
  have gt : Je std k = .lst (gr.map Itm.tr) := by unfold Je; rw [hgr]
  rw [gt] at ix
  cases ix with
  | @lst pg vg _ hg lgv =>
  f_look
  unfold uN
  refine Ah ?_
  f_look
  refine qB (a := (0 : Nat)) (F0 := B.F0) (H0 := B.H0) (L := [m, y]) (as := [.fz f.tr, .fz (.lst (gr.map Itm.tr))]) (Φ := λ k => k = .nw (.lst ((fu f gr).map Itm.tr))) i0 s0D llD (.cons (sfix if0) (.cons (.lst hg lgv) .nil)) ⟨f, gr, rfl, hf, λ i hi => (gst i hi).s, gl60, gown, rfl⟩ (λ v F6 H6 kd s6 sF6 _ ret hk => ?_)
  subst hk
  obtain ⟨lp, rfl, ow, _, hlp0⟩ := ret
  cases ow with
  | @lst vp _ hlp ivp =>
  have ivp : IsL K F6 vp ((fu f gr).map Itm.tr) := ivp
  have ivp6 := ivp.same sF6
  have sl6 : (fu f gr).length = gr.length := (fW gown).length_eq
  have vl6 : vp.length = gr.length := by rw [ivp.length, cI, sl6]
  have s06 := s0D.trans s6
  refine ⟨lp, rfl, ⟨_, aZ.of hlp⟩, ?_⟩
  have hlp0 : HD lp = none := hlp0
  have hm6 := s6 _ _ hmD
  have hy6 := s6 _ _ hyD
  have ll : ∀ {HX : Hp}, ah H6 HX -> ∀ b ∈ [m, y], ∃ xs, HX b = some (.lst xs) := λ sX b h => by
   rcases j8.mp h with e | e
   ·rw [e]; exact ⟨_, sX _ _ hm6⟩
   ·rw [j7.mp e]; exact ⟨_, sX _ _ hy6⟩
  refine ka (λ i v H => ∃ it, (fu f gr)[i]? = some it /\ Is K (ck B.F0 B.H0 [m, y] H) v (oK f chs it)) (λ i v H H' kp ⟨it, e, h⟩ => ⟨it, e, EH (Lw kp) h⟩) (aZ.of hlp) (Nat.le_of_lt (rd (show vp.length <= 60 by lia) (by decide))) (λ i x7 H7 S hx7 s7 k7 => ?_) (λ pp vs H9 hpp s9 hat hlen hpts => ?_)
  ·obtain ⟨t7, ht7, i7⟩ := ivp6.get2 hx7
   obtain ⟨it, eit, rfl⟩ := aU ht7
   have fx7 : ah (ck B.F0 B.H0 [m, y] H6) (ck B.F0 B.H0 [m, y] H7) := fQ λ b o _ e => s7 _ _ e
   have mit := (fW gown).mem_iff.mp (j4 eit)
   f_look
   refine qB (a := (0 : Nat)) (F0 := B.F0) (H0 := B.H0) (L := [m, y]) (as := [.fz f.tr, .fz it.tr, .fz (.tup (chs.map Tr.str))]) (Φ := λ k => k = .fz (oK f chs it)) i0 (s06.trans s7) (ll s7) (.cons (sfix if0) (.cons (i7.same fx7) (.cons (sfix (.tup hpc hcs)) .nil))) ⟨f, it, chs, rfl, hf, gst it mit, hc, rfl⟩ (λ v F8 H8 kd s8 sF8 _ ret hk => ?_)
   subst hk
   have ret : Is K F8 v (oK f chs it) := ret
   exact k7 v H8 s8 ⟨it, eit, ret.same sF8⟩
  have s09 := s06.trans s9
  have hm9 := s9 _ _ hm6
  f_look
  refine rN (aZ.of hm9) ?_
  f_look
  have hkm : k ∈ std.map kk := ((bZ _).2.2 k).mp ((dX _).mem_iff.mp (j4 ek))
  obtain ⟨j0, r0, e0⟩ : ∃ j0 r0, gr = j0 :: r0 := by
   obtain ⟨j, hj, e⟩ := m7.mp hkm
   have : j ∈ gr := by rw [<- hgr]; exact List.mem_filter.mpr ⟨hj, j6 e⟩
   cases gr with
   | nil => cases this
   | cons a b => exact ⟨a, b, rfl⟩
  have hcol : j0.col = k.2 := by have := gkk j0 (by rw [e0]; exact kv); rw [<- this]; rfl
  have sD9 : ah HD H9 := s6.trans s9
  have fD : ah (ck B.F0 B.H0 [m, y] HD) HD := tZ i0 s0D
  have lg9 : IsL K H9 vg (gr.map Itm.tr) := lgv.same (fD.trans sD9)
  have hg9 : aZ K H9 pg vg := (fD.trans sD9).seq hg
  obtain ⟨v0, ev0, iv0⟩ := lg9.get (show (gr.map Itm.tr)[0]? = some j0.tr by rw [e0]; rfl)
  unfold Itm.tr at iv0
  cases iv0 with
  | @tup q0 pvs _ hp0 il0 =>
  obtain ⟨v5, e5, i5⟩ := il0.get (show ([Tr.int j0.own, j0.x.tr, j0.y.tr, j0.o.tr, .int j0.rank, .int j0.col, .int j0.siz] : List Tr)[5]? = some (.int j0.col) from rfl)
  cases i5
  refine AA hg9 (ce (j := 0) ev0) ?_
  f_look
  refine mF hp0 (ce (j := 5) e5) ?_
  f_look
  rename_i qs H10 hqs s10 eqs
  have lg10 := lg9.same s10
  refine Ah ?_
  f_look
  refine ka (λ i v _ => ∃ it, gr[i]? = some it /\ v = V.int it.own) (λ _ _ _ _ _ h => h) (s10.seq hg9) (Nat.le_of_lt (rd (show vg.length <= 60 by rw [lgv.length, cI]; exact gl60) (by decide))) (λ i x7 H11 S hx7 s11 k11 => ?_) (λ pn zs H11 hpn s11 hzs hzl hnum => ?_)
  ·obtain ⟨t7, ht7, i7⟩ := lg10.get2 hx7
   obtain ⟨it, eit, rfl⟩ := aU ht7
   have i7 := i7.same s11
   unfold Itm.tr at i7
   cases i7 with
   | @tup q7 pv7 _ hp7 il7 =>
   obtain ⟨w0, f0, g0⟩ := il7.get (show ([Tr.int it.own, it.x.tr, it.y.tr, it.o.tr, .int it.rank, .int it.col, .int it.siz] : List Tr)[0]? = some (.int it.own) from rfl)
   cases g0
   f_look
   refine mF hp7 (ce (j := 0) f0) ?_
   f_look
   exact k11 _ H11 (ah.refl _) ⟨it, eit, rfl⟩
  have ez : zs = gr.map λ i => V.int i.own := gL (by rw [hzl, lgv.length, cI]) λ i v hv => hnum i v hv
  f_look
  rename_i q12 H12 hq12 s12 eq12
  have s9' : ah H9 H12 := s10.trans (s11.trans s12)
  refine jP (s9' _ _ hm9) (rd (show xs.length <= 60 by lia) (by decide)) (λ H13 b13 e13 => ?_)
  f_look
  have k13 : ∀ b o, b ≠ m -> H12 b = some o -> H13 b = some o := λ b o n e => b13 b o n e
  have kH : ∀ b o, b ≠ m -> HD b = some o -> H13 b = some o := λ b o n e => k13 b o n (s9' _ _ (sD9 _ _ e))
  have s013 : ah B.H0 H13 := λ b o e => kH b o (λ z => by rw [z, nm] at e; cases e) (s0D _ _ e)
  have fx9 : ah (ck B.F0 B.H0 [m, y] H9) (ck B.F0 B.H0 [m, y] H13) := fQ λ b o h e => k13 b o (λ z => h (by rw [z]; exact kv)) (s9' _ _ e)
  have fxE : ah (ck B.F0 B.H0 [m, y] HD) (ck B.F0 B.H0 [m, y] H13) := fQ λ b o h e => kH b o (λ z => h (by rw [z]; exact kv)) e
  have nf : ∀ {b : Addr} {HX : Hp} {o : HO}, B.H0 b = none -> HD b = none -> HX b = some o -> (∀ o, HX b = some o -> H12 b = some o) -> ck B.F0 B.H0 [m, y] H13 b = some o := λ {b HX o} h0 hd hx kx => by
   have bm : b ≠ m := λ z => by rw [z, hmD] at hd; cases hd
   have bL : b ∉ [m, y] := λ h => by
    rcases j8.mp h with e | e
    ·exact bm e
    ·rw [j7.mp e, hyD] at hd; cases hd
   rw [oG h0 bL]
   exact k13 b o bm (kx o hx)
  have dpp : HD pp = none := s6.free hpp
  have dqs : HD qs = none := sD9.free hqs
  have dpn : HD pn = none := sD9.free (s10.free hpn)
  have dq : HD q12 = none := sD9.free (s10.free (s11.free hq12))
  have fpp := nf (s0D.free dpp) dpp hat λ o e => s9' _ _ e
  have fqs := nf (s0D.free dqs) dqs eqs λ o e => s12 _ _ (s11 _ _ e)
  have fpn := nf (s0D.free dpn) dpn hzs λ o e => s12 _ _ e
  have fq := nf (s0D.free dq) dq eq12 λ o e => e
  have ip : IsL K (ck B.F0 B.H0 [m, y] H13) vs ((fu f gr).map (oK f chs)) := qF (by rw [hlen, cI, vl6, sl6]) λ i v hv => by
   obtain ⟨it, e, h⟩ := hpts i v hv
   exact ⟨_, by rw [jb, e]; rfl, h.same fx9⟩
  have inum : IsL K (ck B.F0 B.H0 [m, y] H13) zs (gr.map λ i => Tr.int i.own) := by
   rw [ez]
   refine qF (by rw [cI, cI]) λ i v hv => ?_
   rw [jb] at hv
   cases e : gr[i]? with
   | none => rw [e] at hv; cases hv
   | some it =>
    rw [e] at hv
    cases hv
    exact ⟨.int it.own, by rw [jb, e]; rfl, .int⟩
  have im : Is K (ck B.F0 B.H0 [m, y] H13) (.ref q12) (ie f side word chs std k) := by
   have hcol2 : V.int j0.col = V.int k.2 := by rw [hcol]
   rw [hcol2] at fqs
   unfold ie HW
   rw [hgr]
   exact .tup (bq.of fq) (.cons (.tup (bq.of fqs) (.cons .str (.cons .str (.cons (.lst (aZ.of fpp) ip) (.cons .int .nil))))) (.cons (.lst (aZ.of fpn) inum) .nil))
  refine ⟨xs ++ [.ref q12], _, _, rfl, s013, λ b o n e => kH b o n (kD b o n e), e13, by rw [nh, hln]; rfl, ?_, λ v hv => ?_⟩
  ·rw [tk, oM]
   exact IsL.app (hxs.same fxE) (.cons im .nil)
  ·rcases uD.mp hv with h | h
   ·exact (hgood v h).same fxE
   ·rw [j7.mp h]
    exact ⟨q12, qs, pn, pp, _, _, _, vs, zs, rfl, fq, fqs, ⟨fpp, by lia, s0D.free dpp⟩, fpn, by rw [ez, cI]; exact gl60, s0D.free dpn⟩
 ·rintro Z HD ⟨xs, u1, u2, rfl, s0D, kD, hmD, hln, hxs, hgood⟩
  rw [lg, List.take_length] at hxs
  have hyD := kD y _ (Ne.symm my) hy5
  have sp5 : bq K H5 p [.ref x, .ref y] := (s4.trans s5).tup sp3
  have spD : bq K HD p [.ref x, .ref y] := by
   rcases sp5 with (h | ⟨o, h⟩) | h
   ·exact .inl (.inl (kD _ _ (λ z => by rw [z, hm5] at h; cases h) h))
   ·exact .inl (.inr ⟨o, kD _ _ (λ z => by rw [z, hm5] at h; cases h) h⟩)
   ·exact .inr h
  f_look
  rename_i pr HR hpr sR eR
  have s0R := s0D.trans sR
  have fR : ah (ck B.F0 B.H0 [m, y] HD) (ck B.F0 B.H0 [m, y] HR) := fQ λ b o _ e => sR _ _ e
  have f45 : ah (ck B.F0 B.H0 [m, y] H4) (ck B.F0 B.H0 [m, y] H5) := fQ λ b o _ e => s5 _ _ e
  have f5D : ah (ck B.F0 B.H0 [m, y] H5) (ck B.F0 B.H0 [m, y] HD) := fQ λ b o h e => kD b o (λ z => h (by rw [z]; exact kv)) e
  have nprL : pr ∉ [m, y] := λ h => by
   rcases j8.mp h with e | e
   ·rw [e, hmD] at hpr; cases hpr
   ·rw [j7.mp e, hyD] at hpr; cases hpr
  have ly := ly3.same ((fx4.trans f45).trans (f5D.trans fR))
  refine q pr m y (ck B.F0 B.H0 [m, y] HR) HR _ _ (Fe bk s0R nL) ⟨?_, ?_, ?_, vq kv, vq (n8 _ kv), nm, ny, my⟩ ⟨xs, sR _ _ hmD, λ v hv => (hgood v hv).same fR⟩ φ
  ·rw [eK]
   exact bq.of (by rw [oG (s0D.free hpr) nprL]; exact eR)
  ·rw [eK]
   exact .lst (sR _ _ hmD) (hxs.same fR)
  ·rw [eK]
   exact .lst (sR _ _ hyD) ly
theorem Mi {t1 t2 t3 : Tr} (h : ge B F vs [.fz t1, .fz t2, .fz t3]) : ∃ v1 v2 v3, vs = [v1, v2, v3] /\ Is B.K F v1 t1 /\ Is B.K F v2 t2 /\ Is B.K F v3 t3 := by
 cases h with
 | cons a h =>
  cases h with
  | cons b h =>
   cases h with
   | cons c h => cases h; exact ⟨_, _, _, rfl, a, b, c⟩
def Cv : SpR := λ _ as Φ => ∃ (f : Fd) (side : Str) (is : List Itm), as = [.fz f.tr, .fz (.str side), .fz (.lst (is.map Itm.tr))] /\ is.length <= 60 /\ jM f /\ (∀ i ∈ is, fY f i) /\ (is.map (·.own)).Nodup /\ Φ (dC f side "path" ["y"] (ci f ["y"] is)) (is.filterMap λ i => aS f i ["x", "y"])
theorem tO (T : cO K mg t) : FO P w base T.q_zav 11 (Bo K Cv) := by
 refine T.q_zav.F.ok Ag (oW (λ B as Φ h => by obtain ⟨_, _, _, rfl, _⟩ := h; rfl)) (λ cdv A outer s H vs Q E hr h => ?_)
 obtain ⟨B, as, Φ, eK, rfl, bk, la, ⟨f, side, is, rfl, hl, hf, hi, ho, φ⟩, q⟩ := h
 obtain ⟨vf, v1, vi, rfl, if0, i1, ii0⟩ := Mi la
 cases i1
 refine ⟨_, (aR (ai (bI (yL T) hr T.q_zbk (af (pv 0) (af (pv 1) (af (pv 2) (af aI (af (aL (af aI aA)) aA)))))))), ir (Z := [some _, some _, some _]) rfl ?_⟩
 kln_le
 f_look
 rename_i p1 H1 hp1 s1 e1
 have u1 := Fe (L := []) bk s1 (λ _ m => absurd m mV)
 refine ⟨B.now (ck B.F0 B.H0 [] H1) H1, [.fz f.tr, .fz (.str side), .fz (.lst (is.map Itm.tr)), .fz (.str "path"), .fz (.tup ((["y"] : List Str).map Tr.str))], Φ, eK, rfl, ⟨u1.i, λ p hw z => bk.wa p hw (u1.w p z), λ p hw => u1.x p hw (bk.wf p hw), u1.j bk.wj⟩, ?_, ⟨f, side, "path", ["y"], is, rfl, nofun, hl, hf, hi, ⟨by decide, λ ch hc => .inr (j7.mp hc)⟩, ho, φ⟩, λ p a b F' H' ts us u row g φ' => ?_⟩
 ·refine .cons (if0.same u1.f) (.cons .str (.cons (ii0.same u1.f) (.cons .str (.cons (.tup ?_ (.cons .str .nil)) .nil))))
  refine bq.of (xs := [V.str "y"]) ?_
  show ck B.F0 B.H0 [] H1 p1 = _
  rw [oG hp1 mV]
  exact e1
 ·refine q p a b F' H' ts us (u1.trans u.of_now) ⟨row.sp, row.oa, row.ob, row.fa, row.fb, u1.w _ row.na, u1.w _ row.nb, row.ne⟩ ?_ φ'
  obtain ⟨xs, hx, hg⟩ := g
  refine ⟨xs, hx, λ x hm => ?_⟩
  obtain ⟨q, qs, pn, pp, w, v, c, ys, zs, e, h1, h2, ⟨h3, h4, h5⟩, h6, h7, h8⟩ := hg x hm
  exact ⟨q, qs, pn, pp, w, v, c, ys, zs, e, h1, h2, ⟨h3, h4, u1.w _ h5⟩, h6, h7, u1.w _ h8⟩
def SmT (D : Tr -> Prop) : Tr -> Prop
 | .int _ => True
 | .str _ => True
 | .tup ts => ts.length <= 1000 /\ ∀ t ∈ ts, D t
 | .lst ts => ts.length <= 1000 /\ ∀ t ∈ ts, D t
 | _ => False
def gG (D : Tr -> Prop) : SpT := λ _ as Φ _ => ∃ t, as = [.fz t, .fz t] /\ D t /\ Φ (.fz (.bl true))
local macro_rules | `(tactic| kd_mark) => `(tactic| repeat (first | ((with_reducible apply xE); (focus rfl)) | acc_openK | obj_index2 | kxi_slice))
theorem zP {ts us : List Tr} (h : ts.length <= 1000) : (fc ts us).length <= 100000 := by rw [gX]; lia
theorem rq : ∀ {os : List (Option Tr)}, (∀ (i : Nat) (o : Option Tr), os[i]? = some o -> o = some (Tr.bl true)) -> os.filterMap id = (List.replicate os.length true).map Tr.bl
 | [], _ => rfl
 | o :: r, h => by
  have e := h 0 o rfl
  subst e
  have := rq (os := r) λ i x hx => h (i + 1) x hx
  rw [o5, vF, kw, <- this]
  rfl
theorem uI (T : cO K mg t) {m : Nat} {D : Tr -> Prop} (G_zab : dL P w K mg base wQ (m + 1) t.f_zab t.d_zab ["_law_found", "_law_due_here"] (bE K (gG D))) : dL P w K mg base wQ (m + 2) t.f_zab t.d_zab ["_law_found", "_law_due_here"] (bE K (gG (SmT D))) := by
 open_k with T.q_zab.F.ok yQ
 obtain ⟨t0, rfl, hd, φ⟩ := hS
 refine ⟨_, (aJ (aK (cU (aN Go rfl T.z_isinstance ib (af (pv 1) (af (aL (af (qD (v := .ty "tuple") rfl T.z_tuple jv rfl) (af (qD (v := .ty "list") rfl T.z_list ml rfl) aA))) aA)))) (aJ (aK (aj ui (dj pK rfl rfl T.z_isinstance T.z_tuple jv (pv 0)) (dj pK rfl rfl T.z_isinstance T.z_tuple jv (pv 1)) (aw _)) (aR (ai Bm)) au)
 (aJ (aK (PW.pt (pO (aj ui (dj sj rfl rfl T.z_isinstance T.z_list ml (pv 0)) (dj sj rfl rfl T.z_isinstance T.z_list ml (pv 1)) (aw _)) (nE (aj ui (aN bD rfl T.z_len PySem.boot_len (af (pv 0) aA)) (aN bD rfl T.z_len PySem.boot_len (af (pv 1) aA)) (aw _))))) (aR (ai Bm)) au)
 (aR (ai (aN (zx rfl) rfl T.z_all IN (af (Ad (fr := []) rfl (lP (osc := ae jE) (N := ["_law_found", "_law_due_here"]) rfl rfl (by decide +kernel) (by decide +kernel) (by decide)) (Cd rfl T.z_zip (af (pv 0) (af (pv 1) aA))) (λ _ _ _ _ _ => (bX G_zab (hr.mono (by lia)) rfl T.q_zab.m T.q_zab.k T.q_zab.b .nil Be (af (pv 0) (af (pv 1) aA))))) aA)))))) au)
 (aJ (aK (cU (dj jT rfl rfl T.z_isinstance T.z_str nF (pv 1))) (aR (ai (jZ (dj jT rfl rfl T.z_isinstance T.z_str nF (pv 0)) (kq (fN bB (pv 0) (pv 1) (aw _)))))) au)
 (aR (ai (jZ (bX (vZ T) (hr.mono (by lia)) rfl T.q_zam.m T.q_zam.k T.q_zam.b .nil Be (af (pv 0) aA)) (kq (fN bB (pv 0) (pv 1) (aw _)))))))), go _ _ (cB (τ := [.fz _, .fz _]) rfl ?_)⟩
 kln_le
 cases t0 with
 | int i =>
  kd_mark
  intro _ _
  refine ⟨_, .int, rfl, rfl, ?_⟩
  kd_mark
  rw [j6 rfl]
  exact φ
 | str x =>
  kd_mark
  rw [j6 rfl]
  exact φ
 | tup ts =>
  kd_mark
  refine bR ?_
  kd_mark
  refine bR ?_
  kd_mark
  refine bR ?_
  kd_mark
  refine Cc rfl (zu rfl ?_)
  kd_mark
  refine ⟨_, ts, _, ts, rfl, rfl, [], .nil, zP hd.1, λ i o => o = some (.bl true), ?_, ?_⟩
  ·rintro i t0 ht
   obtain ⟨x, y, ex, ey, rfl⟩ := gz ts ts i t0 ht
   rw [ex] at ey
   cases ey
   refine ⟨x, x, rfl, ?_⟩
   kd_mark
   intro _ _
   refine ⟨x, rfl, hd.2 x (j4 ex), ?_⟩
   kd_mark
   rfl
  ·intro os hl ho
   rw [rq ho]
   kd_mark
   refine BJ rfl Rk.fz ?_
   rw [show ((List.replicate os.length true).all λ b => b) = true by rw [vt]; intro x hx; exact (List.eq_of_mem_replicate hx)]
   sl_open
 | lst ts =>
  kd_mark
  refine bR ?_
  kd_mark
  refine bR ?_
  kd_mark
  refine bR ?_
  kd_mark
  refine Cc rfl (zu rfl ?_)
  kd_mark
  refine ⟨_, ts, _, ts, rfl, rfl, [], .nil, zP hd.1, λ i o => o = some (.bl true), ?_, ?_⟩
  ·rintro i t0 ht
   obtain ⟨x, y, ex, ey, rfl⟩ := gz ts ts i t0 ht
   rw [ex] at ey
   cases ey
   refine ⟨x, x, rfl, ?_⟩
   kd_mark
   intro _ _
   refine ⟨x, rfl, hd.2 x (j4 ex), ?_⟩
   kd_mark
   rfl
  ·intro os hl ho
   rw [rq ho]
   kd_mark
   refine BJ rfl Rk.fz ?_
   rw [show ((List.replicate os.length true).all λ b => b) = true by rw [vt]; intro x hx; exact (List.eq_of_mem_replicate hx)]
   sl_open
 | _ => exact hd.elim
def EU : Nat -> Tr -> Prop
 | 0 => λ _ => False
 | n + 1 => SmT (EU n)
def CQ : SpT := gG (EU 8)
theorem nP (T : cO K mg t) : ∀ n : Nat, dL P w K mg base wQ (n + 1) t.f_zab t.d_zab ["_law_found", "_law_due_here"] (bE K (gG (EU n)))
 | 0 => by
  have no : ∀ vs H Q E, ¬ bE K (gG (EU 0)) vs H Q E := λ vs H Q E h => by
   obtain ⟨B, as, Φ, Ψ, rfl, rfl, bk, la, ⟨t, rfl, hd, φ⟩, q, _⟩ := h
   exact hd
  exact ⟨λ vs H Q E h => (no _ _ _ _ h).elim, λ A outer s H args us vs Q E _ _ _ _ h => (no _ _ _ _ h).elim⟩
 | n + 1 => uI T (nP T n)
theorem oq (T : cO K mg t) : FO P w base T.q_zab 9 (bE K CQ) := by
 exact nP T 8
structure Rw where
 i : Itm
 (a b : Int)
def wP (f : Fd) (chs : List Str) (r : Rw) : Tr := .tup [kT (kk r.i), .tup [.int r.a, .int r.b], .int r.i.own, oK f chs r.i]
structure Dw (f : Fd) (r : Rw) : Prop where
 b0 : 0 < r.b
 ba : My.Bd 20000 r.a
 bb : My.Bd 20000 r.b
 q : My.qv r.a r.b = xq f r.i
theorem Er {f : Fd} : aS f i ["x", "y"] = match rJ f.sx i.x with
 | .tx z => some (.tup [.int i.own, .str "x", .str z])
 | .at _ => match rJ f.sy i.y with
  | .tx z => some (.tup [.int i.own, .str "y", .str z])
  | .at _ => none := by
 have c1 : jW f i "x" = rJ f.sx i.x := by unfold jW; rw [i9 rfl]
 have c2 : jW f i "y" = rJ f.sy i.y := by unfold jW; rw [gS (by decide)]
 have h1 : aS f i ["x", "y"] = match jW f i "x" with
  | .tx z => some (.tup [.int i.own, .str "x", .str z])
  | .at _ => aS f i ["y"] := rfl
 have h2 : aS f i ["y"] = match jW f i "y" with
  | .tx z => some (.tup [.int i.own, .str "y", .str z])
  | .at _ => none := rfl
 rw [h1, c1]
 cases rJ f.sx i.x with
 | tx z => rfl
 | «at» q =>
  show aS f i ["y"] = _
  rw [h2, c2]
def AV : SpT := λ _ as Φ _ => ∃ (f : Fd) (is : List Itm), as = [.fz f.tr, .fz (.lst (is.map Itm.tr))] /\ is.length <= 60 /\ jM f /\ (∀ i ∈ is, fY f i) /\ ∀ rs : List Rw, rs.map (·.i) = ci f ["y"] is -> (∀ r ∈ rs, Dw f r) -> Φ (.fz (.tup [.lst (rs.map (wP f ["y"])), .lst (is.filterMap λ i => aS f i ["x", "y"])]))
theorem ua (T : cO K mg t) : FO P w base T.q_zbq 4 (bE K AV) := by
 open_k with T.q_zbq.F.ok bj
 obtain ⟨f, is, rfl, hl, hf, hi, φ⟩ := hS
 have ftr : f.tr = .tup [f.sx.tr, f.sy.tr, .int f.x0, .int f.y0, .int f.w, .int f.h] := rfl
 refine ⟨_, (aJ (ag (i := 2) bj.nd rfl (Or.inl rfl) (aT aA))
 (aJ (ag (i := 3) bj.nd rfl (Or.inl rfl) (aT aA))
 (aJ (cm o4 rfl (br (pv 1)) (eV rfl (aF (az (i := 4) bj.nd rfl (Or.inl rfl)) (aF (az (i := 5) bj.nd rfl (Or.inl rfl)) (aF (az (i := 6) bj.nd rfl (Or.inl rfl)) (aF (az (i := 7) bj.nd rfl (Or.inl rfl)) (aF (az (i := 8) bj.nd rfl (Or.inl rfl)) (aF (az (i := 9) bj.nd rfl (Or.inl rfl)) (aF (az (i := 10) bj.nd rfl (Or.inl rfl)) dk)))))))) (aJ (ag (i := 11) bj.nd rfl (Or.inl rfl) (bI (lQ T) hr T.q_za1 (af (aa (pv 0)) (af (pv 5) aA))))
 (aJ (ag (i := 12) bj.nd rfl (Or.inl rfl) (bI (lQ T) hr T.q_za1 (af (aa (pv 0)) (af (pv 6) aA))))
 (aR (aK (cU (dj jT rfl rfl T.z_isinstance T.z_str nF (pv 11))) (aR (bU (dw ld o7 o8 bn (pv 3) (af (aL (af (pv 4) (af aI (af (pv 11) aA)))) aA)))) (aR (aK (cU (dj jT rfl rfl T.z_isinstance T.z_str nF (pv 12))) (aR (bU (dw ld o7 o8 bn (pv 3) (af (aL (af (pv 4) (af aI (af (pv 12) aA)))) aA)))) (aJ (ag (i := 13) bj.nd rfl (Or.inl rfl) (aL (af (ac aC (aa (pv 0)) (bI (hZ T) hr T.q_za2 (af (pv 11) aA))) (af (ac bw (ac aC (aa (pv 0)) (aa (pv 0))) (bI (hZ T) hr T.q_za2 (af (pv 12) aA))) aA))))
 (aR (bU (dw ld o7 o8 bn (pv 2) (af (aL (af (aL (af (pv 8) (af (pv 9) aA))) (af (pv 11) (af (pv 4) (af (pv 13) aA))))) aA))))))))))))
 (aR (ai (aL (af (pv 2) (af (pv 3) aA)))))))), go _ _ (cB (τ := [.fz _, .fz _, .no, .no, .no, .no, .no, .no, .no, .no, .no, .no, .no, .no]) rfl ?_)⟩
 kln_le
 rw [ftr]
 kd_mark
 refine ⟨λ j τ => ∃ (rs : List Rw) (u1 u2 u3 u4 u5 u6 u7 u8 u9 u10 : Sl), τ = [.fz (.tup [f.sx.tr, f.sy.tr, .int f.x0, .int f.y0, .int f.w, .int f.h]), .fz (.lst (is.map Itm.tr)), .own (.lst (rs.map (wP f ["y"]))), .own (.lst ((is.take j).filterMap λ i => aS f i ["x", "y"])), u1, u2, u3, u4, u5, u6, u7, u8, u9, u10] /\ rs.map (·.i) = ci f ["y"] (is.take j) /\ ∀ r ∈ rs, Dw f r, ⟨[], _, _, _, _, _, _, _, _, _, _, rfl, rfl, λ _ h => absurd h mV⟩, ?_, ?_⟩
 ·rintro j tt τ hj ⟨rs, u1, u2, u3, u4, u5, u6, u7, u8, u9, u10, rfl, hrs, hok⟩
  obtain ⟨it, ei, rfl⟩ := aU hj
  have hit := hi it (j4 ei)
  have tk : is.take (j + 1) = is.take j ++ [it] := by rw [List.take_succ, ei]; rfl
  have e1 : ∀ g : Itm -> Option Tr, (is.take (j + 1)).filterMap g = (is.take j).filterMap g ++ [it].filterMap g := λ g => by rw [tk, List.filterMap_append]
  have e2 : ci f ["y"] (is.take (j + 1)) = ci f ["y"] (is.take j) ++ ci f ["y"] [it] := by unfold ci; rw [tk, List.filter_append]
  have wl1 : (rs.map (wP f ["y"])).length <= 10000 := by
   have := congrArg List.length hrs
   rw [cI] at this ⊢
   have h2 : (ci f ["y"] (is.take j)).length <= (is.take j).length := List.length_filter_le _ _
   rw [sV] at h2
   lia
  have wl2 : ((is.take j).filterMap λ i => aS f i ["x", "y"]).length <= 10000 := n9 (List.length_filterMap_le _ _) (by rw [sV]; lia)
  have lx := Er (f := f) (i := it)
  unfold Itm.tr at *
  kd_mark
  intro _ _
  refine tz hf.x hit.x λ lp1 h1 => ?_
  kd_mark
  intro _ _
  refine tz hf.y hit.y λ lp2 h2 => ?_
  cases lp1 with
  | tx z =>
   rw [FC h1] at lx
   have s0 : ci f ["y"] [it] = [] := by unfold ci; rw [List.filter_cons, lx]; rfl
   dsimp only [Lp.tr]
   kd_mark
   simp only [e1, vv, lx, List.filterMap_nil]
   exact ⟨rs, _, _, _, _, _, _, _, _, _, _, rfl, by rw [e2, s0, vM]; exact hrs, hok⟩
  | «at» x1 y1 =>
   obtain ⟨q1, ez1, y10, b1, g1, c1⟩ := Fn h1
   rw [ez1] at lx
   cases lp2 with
   | tx z =>
    rw [FC h2] at lx
    have s0 : ci f ["y"] [it] = [] := by unfold ci; rw [List.filter_cons, lx]; rfl
    dsimp only [Lp.tr]
    kd_mark
    simp only [e1, vv, lx, List.filterMap_nil]
    exact ⟨rs, _, _, _, _, _, _, _, _, _, _, rfl, by rw [e2, s0, vM]; exact hrs, hok⟩
   | «at» x2 y2 =>
    obtain ⟨q2, ez2, y20, b2, g2, c2⟩ := Fn h2
    rw [ez2] at lx
    have s0 : ci f ["y"] [it] = [it] := by unfold ci; rw [List.filter_cons, lx]; rfl
    have cy : jW f it "y" = .at q2 := by unfold jW; rw [gS (by decide)]; exact ez2
    have pt : oK f ["y"] it = .tup [.int (f.x0 + (2 * x1 + y1) / (2 * y1)), .int (f.y0 + f.h - (2 * x2 + y2) / (2 * y2))] := by
     unfold oK LC
     rw [tL ez1, zr y10 g1, zr y20 g2]
     simp only [kw, List.map_nil, AY cy]
    dsimp only [Lp.tr]
    kd_mark
    intro _ _
    refine ⟨x1, y1, rfl, y10, b1, ?_⟩
    kd_mark
    intro _ _
    refine ⟨x2, y2, rfl, y20, b2, ?_⟩
    kd_mark
    simp only [e1, vv, lx, List.filterMap_nil, vM]
    have em : rs.map (wP f ["y"]) ++ [.tup [.tup [.int it.rank, .int it.col], .tup [.int x1, .int y1], .int it.own, .tup [.int (f.x0 + (2 * x1 + y1) / (2 * y1)), .int (f.y0 + f.h - (2 * x2 + y2) / (2 * y2))]]] = (rs ++ [Rw.mk it x1 y1]).map (wP f ["y"]) := by
     rw [oM, kw, List.map_nil, wP, pt]
     rfl
    rw [em]
    refine ⟨rs ++ [Rw.mk it x1 y1], _, _, _, _, _, _, _, _, _, _, rfl, by rw [oM, e2, s0, hrs]; rfl, λ r hr => ?_⟩
    rcases uD.mp hr with h | h
    ·exact hok r h
    ·rw [j7.mp h]
     exact ⟨y10, c1, b1.mono (by decide), by rw [g1, tL ez1]⟩
 ·rintro τ ⟨rs, u1, u2, u3, u4, u5, u6, u7, u8, u9, u10, rfl, hrs, hok⟩
  rw [cI, List.take_length] at *
  kd_mark
  exact φ rs hrs hok
def CZ (f : Fd) (chs : List Str) (r : Rw) : Tr := .tup [.tup [.int r.a, .int r.b], .int r.i.own, oK f chs r.i]
def uE (f : Fd) (ks : List Rw) (r : Rw) : List Rw := qe (λ r => xq f r.i) r ks
def cN (f : Fd) (rs : List Rw) (k : Int × Int) : List Rw := (rs.filter λ r => decide (kk r.i = k)).foldl (uE f) []
theorem vJ (f : Fd) (rs : List Rw) (r : Rw) (k : Int × Int) : cN f (rs ++ [r]) k = if kk r.i = k then uE f (cN f rs k) r else cN f rs k := by
 unfold cN
 rw [List.filter_append, List.filter_cons, List.filter_nil]
 split
 ·rename_i h; rw [i9 (of_decide_eq_true h), List.foldl_append]; rfl
 ·rename_i h; rw [gS (λ z => h (j6 z)), vM]
theorem EZ {f : Fd} : ∀ (rs ks : List Rw), (ks.map λ r => (xq f r.i, r.i.own)).Pairwise (λ a b => rK a b = true) -> (∀ k ∈ ks, ∀ r ∈ rs, k.i.own < r.i.own) -> (rs.map (·.i.own)).Pairwise (· < ·) -> (rs.foldl (uE f) ks).Perm (ks ++ rs) /\ ((rs.foldl (uE f) ks).map λ r => (xq f r.i, r.i.own)).Pairwise (λ a b => rK a b = true)
 | [], ks, h, _, _ => by rw [vM]; exact ⟨.refl _, h⟩
 | r :: rs, ks, h, hk, ho => by
  rw [kw, List.pairwise_cons] at ho
  have ip := kY (q := λ r : Rw => xq f r.i) (x := r) ks
  obtain ⟨a, b⟩ := EZ rs (uE f ks r) (pV (o := λ r : Rw => r.i.own) h λ y hy => hk y hy r kv) (λ k hm s hs => by
   rcases uD.mp (ip.mem_iff.mp hm) with z | z
   ·exact hk k z s (n8 _ hs)
   ·rw [j7.mp z]; exact ho.1 _ (m7.mpr ⟨s, hs, rfl⟩)) ho.2
  rw [List.foldl_cons]
  refine ⟨a.trans ?_, b⟩
  refine (ip.append_right rs).trans ?_
  rw [List.append_assoc]
  exact .refl _
variable {rs : List Rw}
theorem jA {f : Fd} {k : Int × Int} (ho : (rs.map (·.i.own)).Pairwise (· < ·)) : (cN f rs k).Perm (rs.filter λ r => decide (kk r.i = k)) /\ ((cN f rs k).map λ r => (xq f r.i, r.i.own)).Pairwise (λ a b => rK a b = true) := by
 have := EZ (f := f) (rs.filter λ r => decide (kk r.i = k)) [] .nil (λ _ h => absurd h mV) (ho.sublist (List.filter_sublist.map _))
 rw [List.nil_append] at this
 exact this
theorem nZ {k : Int × Int} : (rs.map (·.i)).filter (λ i => decide (kk i = k)) = (rs.filter λ r => decide (kk r.i = k)).map (·.i) := by
 rw [List.filter_map]; rfl
theorem vN {f : Fd} {k : Int × Int} (ho : (rs.map (·.i.own)).Pairwise (· < ·)) : (cN f rs k).map (·.i) = fu f ((rs.map (·.i)).filter λ i => decide (kk i = k)) := by
 obtain ⟨a, b⟩ := jA (f := f) (k := k) ho
 refine (oZ fJ (jG.mpr ⟨?_, ?_⟩)).symm
 ·rw [nZ]; exact a.map _
 ·rw [q9]; exact b
theorem BF {g : α -> β} {xs : List α} : (((xs.map g).length : Nat) : Int) = (xs.length : Int) := by rw [cI]
theorem yj {xs ys : List Int} (hp : xs.Perm ys) (h1 : xs.Pairwise (· <= ·)) (h2 : ys.Pairwise (· < ·)) : xs = ys :=
 List.Perm.eq_of_pairwise (le := λ a b : Int => a <= b) (λ a b _ _ h g => by lia) h1 (h2.imp λ h => by lia) hp
def Dk : SpT := λ _ as Φ _ => ∃ (f : Fd) (side : Str) (rs : List Rw) (k : Int × Int), as = [.fz (.str side), .fz (.lst (rs.map (wP f ["y"]))), .fz (kT k)] /\ rs.length <= 60 /\ (∀ r ∈ rs, Dw f r) /\ (rs.map (·.i.own)).Pairwise (· < ·) /\ Φ (.fz (ie f side "path" ["y"] (rs.map (·.i)) k))
theorem vz (T : cO K mg t) : FO P w base T.q_zbr 1 (bE K Dk) := by
 open_k with T.q_zbr.F.ok cq
 obtain ⟨f, side, rs, k, rfl, hl, hok, ho, φ⟩ := hS
 have kl : ∀ n, (cN f (rs.take n) k).length <= 60 := λ n => by
  have := (jA (f := f) (k := k) (rs := rs.take n) (ho.sublist ((List.take_sublist n rs).map _))).1.length_eq
  have h2 := List.length_filter_le (λ r : Rw => decide (kk r.i = k)) (rs.take n)
  rw [sV] at h2
  lia
 have km : ∀ n, ∀ r ∈ cN f (rs.take n) k, Dw f r := λ n r hr => by
  have := (jA (f := f) (k := k) (rs := rs.take n) (ho.sublist ((List.take_sublist n rs).map _))).1.mem_iff.mp hr
  exact hok r (List.mem_of_mem_take (List.mem_filter.mp this).1)
 refine ⟨_, (aJ (ag (i := 3) cq.nd rfl (Or.inl rfl) (aT aA))
 (aJ (cm o4 rfl (br (pv 1)) (eV rfl (aF (az (i := 5) cq.nd rfl (Or.inl rfl)) (aF (az (i := 6) cq.nd rfl (Or.inl rfl)) (aF (az (i := 7) cq.nd rfl (Or.inl rfl)) (aF (az (i := 8) cq.nd rfl (Or.inl rfl)) dk))))) (aR (aK (aj (HS (by have := hr.un150; exact rd (Nat.add_le_add_left (by decide) _) this)) (pv 5) (pv 2) (aw _)) (aJ (ag (i := 9) cq.nd rfl (Or.inl rfl) aD)
 (aJ (fm o4 (PW.pt (kC (aj lO (pv 9) (aN bD rfl T.z_len PySem.boot_len (af (pv 3) aA)) (aw _)) (gY (aj lz (ac mr (aa (aa (aV jY (pv 3) (pv 9) (λ _ _ => rfl)))) (aa (pv 6))) (ac mr (aa (pv 6)) (aa (aa (aV jY (pv 3) (pv 9) (λ _ _ => rfl))))) (aw _))))) (aR (ag (i := 9) cq.nd rfl (Or.inl rfl) (ac aC (pv 9) aD))))
 (aR (bU (dw ld PySem.F.slot_list_insert PySem.F.type_list_insert yS (pv 3) (af (pv 9) (af (aL (af (pv 6) (af (pv 7) (af (pv 8) aA)))) aA))))))) au)))
 (aJ (ya (iy := 4) cq.nd rfl (Or.inl rfl) (fr := []) rfl (lN (osc := ae gu) (N := ["_law_side", "_law_rows", "_law_group", "_law_kept", "_law_points", "_law_mine", "_law_along", "_law_own", "_law_point", "_law_at"]) rfl rfl (by decide +kernel) (by decide +kernel) (by decide +kernel) (by decide) (by decide) (by decide)) (br (pv 3)) (λ _ _ _ _ _ => (pv 2)))
 (aR (ai (aL (af (aL (af aI (af (pv 0) (af (pv 4) (af (aa (pv 2)) aA))))) (af (aN xU rfl T.z_sorted gW (af (IH (fr := []) rfl (lN (osc := ae gu) (N := ["_law_side", "_law_rows", "_law_group", "_law_kept", "_law_points", "_law_mine", "_law_along", "_law_own", "_law_point", "_law_at"]) rfl rfl (by decide +kernel) (by decide +kernel) (by decide +kernel) (by decide) (by decide) (by decide)) (br (pv 3)) (λ _ _ _ _ _ => (pv 1))) aA)) aA)))))))), go _ _ (cB (τ := [.fz _, .fz _, .fz _, .no, .no, .no, .no, .no, .no, .no]) rfl ?_)⟩
 kln_le
 kd_mark
 refine ⟨λ n τ => ∃ (u1 u2 u3 u4 u5 u6 : Sl), τ = [.fz (.str side), .fz (.lst (rs.map (wP f ["y"]))), .fz (kT k), .own (.lst ((cN f (rs.take n) k).map (CZ f ["y"]))), u1, u2, u3, u4, u5, u6], ⟨_, _, _, _, _, _, rfl⟩, ?_, ?_⟩
 ·rintro n tt τ hj ⟨u1, u2, u3, u4, u5, u6, rfl⟩
  obtain ⟨r, er, rfl⟩ := aU hj
  have tk : cN f (rs.take (n + 1)) k = if kk r.i = k then uE f (cN f (rs.take n) k) r else cN f (rs.take n) k := by
   rw [List.take_succ, er]
   exact vJ _ _ _ _
  have gr := hok r (j4 er)
  have kn := kl n
  have kmn := km n
  generalize hks : cN f (rs.take n) k = ks at *
  rw [show wP f ["y"] r = .tup [kT (kk r.i), .tup [.int r.a, .int r.b], .int r.i.own, oK f ["y"] r.i] from rfl]
  kd_mark
  refine GW rfl rfl rfl ?_
  by_cases e : kk r.i = k
  ·refine ⟨true, by rw [e, j6 rfl], ?_⟩
   rw [i9 rfl]
   rw [i9 e] at tk
   rw [e]
   kd_mark
   refine gQ (λ τ' => ∃ m : Nat, τ' = [.fz (.str side), .fz (.lst (rs.map (wP f ["y"]))), .fz (kT k), .own (.lst (ks.map (CZ f ["y"]))), u1, .fz (kT k), .fz (.tup [.int r.a, .int r.b]), .fz (.int r.i.own), .fz (oK f ["y"] r.i), .fz (.int (m : Int))] /\ m <= ks.length /\ (∀ (j : Nat) (y : Rw), j < m -> ks[j]? = some y -> xq f y.i <= xq f r.i) /\ ∀ y : Rw, ks[m]? = some y -> ¬ xq f y.i <= xq f r.i) ?_ ?_
   ·refine wS (λ d τ' => ∃ m : Nat, τ' = [.fz (.str side), .fz (.lst (rs.map (wP f ["y"]))), .fz (kT k), .own (.lst (ks.map (CZ f ["y"]))), u1, .fz (kT k), .fz (.tup [.int r.a, .int r.b]), .fz (.int r.i.own), .fz (oK f ["y"] r.i), .fz (.int (m : Int))] /\ d = ks.length - m /\ m <= ks.length /\ ∀ (j : Nat) (y : Rw), j < m -> ks[j]? = some y -> xq f y.i <= xq f r.i) ks.length ⟨0, rfl, rfl, Nat.zero_le _, λ j y h => absurd h (Nat.not_lt_zero _)⟩ ?_
    rintro d τ ⟨m, rfl, rfl, hm, hlt⟩
    kd_mark
    rw [BF]
    refine aY (λ h1 => ?_) (λ h1 => ?_)
    ·have hm2 : m < ks.length := by lia
     have ek : ks[m]? = some ks[m] := dM hm2
     generalize ks[m] = y at ek
     have gy := kmn y (j4 ek)
     have hat : eP (ks.map (CZ f ["y"])) (m : Int) = some (CZ f ["y"] y) := ce (we ek)
     have m1 : My.Bd 50000000 y.a := gy.ba.mono (by decide)
     have m2 : My.Bd 50000000 y.b := gy.bb.mono (by decide)
     have m3 : My.Bd 50000000 r.a := gr.ba.mono (by decide)
     have m4 : My.Bd 50000000 r.b := gr.bb.mono (by decide)
     kd_mark
     have ey : CZ f ["y"] y = .tup [.tup [.int y.a, .int y.b], .int y.i.own, oK f ["y"] y.i] := rfl
     refine aW rfl (by dl_open) hat ?_
     rw [ey]
     kd_mark
     refine aW rfl (by dl_open) hat ?_
     rw [ey]
     kd_mark
     have le : y.a * r.b <= r.a * y.b ↔ xq f y.i <= xq f r.i := by
      rw [<- gy.q, <- gr.q, My.le_qv gy.b0 gr.b0]
      exact Int.not_lt.symm
     refine aY (λ h2 => ?_) (λ h2 => ?_)
     ·kd_mark
      refine ⟨ks.length - (m + 1), by lia, m + 1, rfl, rfl, by lia, λ j z hj ez => ?_⟩
      rcases Nat.lt_succ_iff_lt_or_eq.mp hj with h | rfl
      ·exact hlt j z h ez
      ·rw [ek] at ez; cases ez; exact le.mp h2
     ·kd_mark
      refine ⟨m, rfl, hm, hlt, λ z ez => ?_⟩
      rw [ek] at ez; cases ez
      exact λ q => h2 (le.mpr q)
    ·kd_mark
     refine ⟨m, rfl, hm, hlt, λ y ey => ?_⟩
     have := (j3.mp ey).1
     lia
   ·rintro τ ⟨m, rfl, hm, h1, h2⟩
    kd_mark
    refine yP (by kt_join) (by lia) (by rw [cI]; lia) (by rw [cI]; lia) (by acc_open) ?_
    kd_mark
    have ei : uE f ks r = ks.take m ++ r :: ks.drop m := wK (q := λ r : Rw => xq f r.i) hm h1 h2
    have em : (ks.map (CZ f ["y"])).take (m : Int).toNat ++ Tr.tup [.tup [.int r.a, .int r.b], .int r.i.own, oK f ["y"] r.i] :: (ks.map (CZ f ["y"])).drop (m : Int).toNat = (cN f (rs.take (n + 1)) k).map (CZ f ["y"]) := by
     rw [tk, ei, oM, kw, List.map_take, List.map_drop, Int.toNat_natCast]
     rfl
    rw [em]
    exact ⟨_, _, _, _, _, _, rfl⟩
  ·have ed : decide (Tr.tup [Tr.int (kk r.i).1, Tr.int (kk r.i).2] = Tr.tup [Tr.int k.1, Tr.int k.2]) = false := i8 (λ z => e (lj z))
   refine ⟨false, congrArg (λ b => Kd.fz (Tr.bl b)) ed, ?_⟩
   rw [gS gV]
   rw [gS e] at tk
   kd_mark
   exact ⟨_, _, _, _, _, _, by rw [tk]⟩
 ·rintro τ ⟨u1, u2, u3, u4, u5, u6, rfl⟩
  rw [cI, List.take_length]
  have kl := kl rs.length
  rw [List.take_length] at kl
  kd_mark
  refine FD rfl (iU rfl ?_)
  kd_mark
  refine ⟨[], .nil, by rw [cI]; lia, λ j o => ∃ r, (cN f rs k)[j]? = some r /\ o = some (oK f ["y"] r.i), λ j tt ht => ?_, λ os hl2 ho2 => ?_⟩
  ·obtain ⟨r, er, rfl⟩ := aU ht
   refine ⟨_, _, _, rfl, ?_⟩
   kd_mark
   exact ⟨r, er, rfl⟩
  rw [qr (f := λ r : Rw => some (oK f ["y"] r.i)) (by rw [hl2, cI]) ho2, ou]
  kd_mark
  refine FD rfl (iU rfl ?_)
  kd_mark
  refine ⟨[], .nil, by rw [cI]; lia, λ j o => ∃ r, (cN f rs k)[j]? = some r /\ o = some (Tr.int r.i.own), λ j tt ht => ?_, λ os3 hl3 ho3 => ?_⟩
  ·obtain ⟨r, er, rfl⟩ := aU ht
   refine ⟨_, _, _, rfl, ?_⟩
   kd_mark
   exact ⟨r, er, rfl⟩
  rw [qr (f := λ r : Rw => some (Tr.int r.i.own)) (by rw [hl3, cI]) ho3, ou]
  rw [show (cN f rs k).map (λ r => Tr.int r.i.own) = ((cN f rs k).map λ r => r.i.own).map Tr.int by rw [q9]; rfl]
  kd_mark
  refine CN rfl (by dl_open) (by rw [cI]; lia) λ ms hp hs => ?_
  obtain ⟨k1, _⟩ := jA (f := f) (k := k) ho
  have em : ms = ((rs.map (·.i)).filter λ i => decide (kk i = k)).map (·.own) := by
   refine yj (hp.trans ?_) hs ?_
   ·rw [nZ, q9]; exact k1.map _
   ·rw [nZ, q9]; exact ho.sublist (List.filter_sublist.map _)
  have φ2 : ie f side "path" ["y"] (rs.map (·.i)) k = .tup [.tup [.str "path", .str side, .lst ((cN f rs k).map λ r => oK f ["y"] r.i), .int k.2], .lst (ms.map Tr.int)] := by
   unfold ie HW
   rw [<- vN ho, em, q9, q9]
   rfl
  rw [φ2] at φ
  sl_open
def GS : SpT := λ _ as Φ _ => ∃ (f : Fd) (side : Str) (is : List Itm), as = [.fz f.tr, .fz (.str side), .fz (.lst (is.map Itm.tr))] /\ is.length <= 60 /\ jM f /\ (∀ i ∈ is, fY f i) /\ (is.map (·.own)).Pairwise (· < ·) /\ Φ (.fz (.tup [.lst (dC f side "path" ["y"] (ci f ["y"] is)), .lst (is.filterMap λ i => aS f i ["x", "y"])]))
theorem xG (T : cO K mg t) : FO P w base T.q_zbs 5 (bE K GS) := by
 open_k with T.q_zbs.F.ok gg
 obtain ⟨f, side, is, rfl, hl, hf, hi, ho, φ⟩ := hS
 refine ⟨_, (aJ (vm (bI (ua T) hr T.q_zbq (af (pv 0) (af (pv 2) aA))) (eV rfl (aF (az (i := 5) gg.nd rfl (Or.inr rfl)) (aF (az (i := 6) gg.nd rfl (Or.inl rfl)) dk))))
 (aJ (ag (i := 3) gg.nd rfl (Or.inl rfl) (aT aA))
 (aJ (cm o4 rfl (br (pv 5)) (az (i := 4) gg.nd rfl (Or.inl rfl)) (aR (aK (aj (yv (by have := hr.un150; exact rd (Nat.add_le_add_left (by decide) _) this)) (aa (pv 4)) (pv 3) rfl) (aR (bU (dw ld o7 o8 bn (pv 3) (af (aa (pv 4)) aA)))) au)))
 (aR (ai (aL (af (sP rfl (bM (fr := [("_law_side", 1), ("_law_rows", 5)]) (osc := ae mB) (N := ["_law_field_here", "_law_side", "_law_items_here", "_law_groups", "_law_row", "_law_rows", "_law_lost"]) rfl rfl (by decide +kernel)) (br (aN pT rfl T.z_sorted gW (af (pv 3) aA))) (λ _ _ _ _ _ => (bI (vz T) hr T.q_zbr (af (pv 1) (af (pv 2) (af (pv 0) aA)))))) (af (pv 6) aA)))))))), go _ _ (cB (τ := [.fz _, .fz _, .fz _, .no, .no, .no, .no]) rfl ?_)⟩
 kln_le
 kd_mark
 intro _ _
 refine ⟨f, is, rfl, hl, hf, hi, λ rs hrs hok => ?_⟩
 generalize hstd : ci f ["y"] is = std at *
 have hsub : std.Sublist is := by rw [<- hstd]; exact List.filter_sublist
 have lr : rs.length <= 60 := by
  have := congrArg List.length hrs
  rw [cI] at this
  have := hsub.length_le
  lia
 have hro : (rs.map (·.i.own)).Pairwise (· < ·) := by
  have e : rs.map (·.i.own) = std.map (·.own) := by rw [<- hrs, q9]; rfl
  rw [e]
  exact ho.sublist (hsub.map _)
 have gl : ∀ n, (bu ((rs.take n).map λ r => kk r.i)).length <= 60 := λ n => by
  have := (bZ ((rs.take n).map λ r => kk r.i)).2.1
  rw [cI, sV] at this
  lia
 kd_mark
 refine ⟨λ n τ => ∃ u : Sl, τ = [.fz f.tr, .fz (.str side), .fz (.lst (is.map Itm.tr)), .own (.lst ((bu ((rs.take n).map λ r => kk r.i)).map kT)), u, .fz (.lst (rs.map (wP f ["y"]))), .fz (.lst (is.filterMap λ i => aS f i ["x", "y"]))], ⟨_, rfl⟩, ?_, ?_⟩
 ·rintro n tt τ hj ⟨u, rfl⟩
  obtain ⟨r, er, rfl⟩ := aU hj
  have gn := gl n
  have tk : bu ((rs.take (n + 1)).map λ r => kk r.i) = gc (bu ((rs.take n).map λ r => kk r.i)) (kk r.i) := by
   rw [List.take_succ, er, oM]
   exact iY _ _
  generalize bu ((rs.take n).map λ r => kk r.i) = ks at *
  have wl : (ks.map kT).length <= 10000 := by rw [cI]; lia
  rw [show wP f ["y"] r = .tup [kT (kk r.i), .tup [.int r.a, .int r.b], .int r.i.own, oK f ["y"] r.i] from rfl]
  kd_mark
  refine yi (ts := ks.map kT) rfl (t := kT (kk r.i)) rfl (by rw [List.all_map]; exact vt.mpr λ _ _ => rfl) (by dl_open) ?_
  by_cases e : kk r.i ∈ ks
  ·refine ⟨false, by rw [j6 (m7.mpr ⟨_, e, rfl⟩)]; rfl, ?_⟩
   rw [gS gV]
   rw [gc, i9 e] at tk
   kd_mark
   exact ⟨_, by rw [tk]⟩
  ·have ne : ¬ kT (kk r.i) ∈ ks.map kT := λ h => by
    obtain ⟨k, h1, h2⟩ := m7.mp h
    rw [lj h2] at h1
    exact e h1
   refine ⟨true, by rw [i8 ne]; rfl, ?_⟩
   rw [i9 rfl]
   rw [gc, gS e] at tk
   kd_mark
   exact ⟨_, by rw [tk, oM]; rfl⟩
 ·rintro τ ⟨u, rfl⟩
  rw [cI, List.take_length]
  have gk := gl rs.length
  rw [List.take_length] at gk
  have ek : (rs.map λ r => kk r.i) = std.map kk := by rw [<- hrs, q9]; rfl
  rw [ek] at gk ⊢
  kd_mark
  refine Bb (iU rfl ?_)
  kd_mark
  refine wH (kz := bu (std.map kk)) rfl (by dl_open) (by rw [cI]) (λ n k hk => ⟨[], by rw [jb, hk]; rfl⟩) (bZ _).1 (by rw [cI]; lia) λ us hu => ?_
  obtain ⟨ys, rfl, hy⟩ := oH hu
  have ey : ys = dn (std.map kk) := kZ dY hy (tm _)
  subst ey
  have ly : (dn (std.map kk)).length <= 60 := by rw [(dX _).length_eq]; exact gk
  kd_mark
  refine ⟨[.fz (.str side), .fz (.lst (rs.map (wP f ["y"])))], by repeat (first | exact .nil | refine .fz (by kt_join) ?_), by rw [cI]; lia, λ j o => ∃ k, (dn (std.map kk))[j]? = some k /\ o = ie f side "path" ["y"] std k, λ j tt ht => ?_, λ os hl2 ho2 => ?_⟩
  ·obtain ⟨k, ek2, rfl⟩ := aU ht
   kd_mark
   intro _ _
   refine ⟨f, side, rs, k, rfl, lr, hok, hro, ?_⟩
   rw [hrs]
   kd_mark
   exact ⟨k, ek2, rfl⟩
  rw [gL (xs := dn (std.map kk)) (os := os) (f := ie f side "path" ["y"] std) (by rw [hl2, cI]) ho2]
  sl_open
theorem Fy (s : Sc) : Dp 5 s.tr := by
 have n2 : ∀ a b n, Dp (n + 1) (N2 a b) := λ a b n => .tup (aG .int (aG .int eU))
 cases s with
 | str a b c d len => exact .tup (aG .str (aG (n2 _ _ _) (aG (n2 _ _ _) (aG .int eU))))
 | tur p low many len => exact .tup (aG .str (aG .int (aG .int (aG .int (aG .int eU)))))
 | brk ps len =>
  refine .tup (aG .str (aG (.lst λ t ht => ?_) (aG .int eU)))
  obtain ⟨x, _, rfl⟩ := m7.mp ht
  exact .tup (aG (n2 _ _ _) (aG (n2 _ _ _) (aG .int (aG .int eU))))
 | day f l len => exact .tup (aG .str (aG .int (aG .int (aG .int eU))))
 | ord ws len =>
  refine .tup (aG .str (aG (.lst λ t ht => ?_) (aG .int eU)))
  obtain ⟨x, _, rfl⟩ := m7.mp ht
  exact .str
theorem Ay (c : Ce) : Dp 5 c.tr := by
 cases c with
 | no => exact .non
 | num e f => exact .tup (aG .int (aG .int eU))
 | day c => exact .int
 | wd z => exact .str
theorem GT (i : Itm) : Dp 6 i.tr := .tup (aG .int (aG (Ay _) (aG (Ay _) (aG (Ay _) (aG .int (aG .int (aG .int eU)))))))
theorem ww {f : Fd} : ∀ {chs : List Str} {t : Tr}, aS f i chs = some t -> EU 6 t
 | ch :: r, t, h => by
  unfold aS at h
  split at h
  ·cases h
   exact ⟨(by decide : 3 <= 1000), rm.mpr ⟨trivial, rm.mpr ⟨trivial, rm.mpr ⟨trivial, λ _ h => absurd h mV⟩⟩⟩⟩
  ·exact ww h
theorem Dg {f : Fd} {side word : Str} {is : List Itm} {k : Int × Int} (hl : is.length <= 60) (hc : chs.length <= 5) (ho : (is.map (·.own)).Nodup) : EU 6 (ie f side word chs is k) := by
 have gs : (is.filter λ i => decide (kk i = k)).Sublist is := List.filter_sublist
 have go : ((is.filter λ i => decide (kk i = k)).map (·.own)).Nodup := (gs.map _).nodup ho
 have l1 := gs.length_le
 have l2 := (fW (f := f) go).length_eq
 refine ⟨(by decide : 2 <= 1000), rm.mpr ⟨⟨(by decide : 4 <= 1000), ?_⟩, rm.mpr ⟨⟨?_, λ t ht => ?_⟩, λ _ h => absurd h mV⟩⟩⟩
 ·refine rm.mpr ⟨trivial, rm.mpr ⟨trivial, rm.mpr ⟨⟨?_, λ t ht => ?_⟩, rm.mpr ⟨trivial, λ _ h => absurd h mV⟩⟩⟩⟩
  ·rw [cI]; lia
  ·obtain ⟨i, _, rfl⟩ := m7.mp ht
   refine ⟨?_, λ t ht => ?_⟩
   ·unfold LC
    rw [cI, o5, cI]; lia
   ·obtain ⟨n, _, rfl⟩ := m7.mp ht
    trivial
 ·rw [cI]; lia
 ·obtain ⟨i, _, rfl⟩ := m7.mp ht
  trivial
theorem Gk {f : Fd} {side word : Str} {chs' : List Str} {is std : List Itm} (hl : is.length <= 60) (hs : std.length <= 60) (hc : chs.length <= 5) (ho : (std.map (·.own)).Nodup) : EU 8 (.tup [.lst (dC f side word chs std), .lst (is.filterMap λ i => aS f i chs')]) := by
 refine ⟨(by decide : 2 <= 1000), rm.mpr ⟨⟨?_, λ t ht => ?_⟩, rm.mpr ⟨⟨?_, λ t ht => ?_⟩, λ _ h => absurd h mV⟩⟩⟩
 ·unfold dC
  have := (bZ (std.map kk)).2.1
  rw [cI] at this
  rw [cI, (dX _).length_eq]; lia
 ·obtain ⟨k, _, rfl⟩ := m7.mp ht
  exact Dg hs hc ho
 ·exact n9 (List.length_filterMap_le _ _) (by lia)
 ·obtain ⟨i, _, e⟩ := List.mem_filterMap.mp ht
  exact ww e
theorem Ci (c : Int) : FA (lc c).sx /\ FA (lc c).sy := by
 obtain ⟨h, h1, h2⟩ := io c
 exact ⟨uf h1, uf h2⟩
theorem Br {f : Fd} {xs : List Itm} {x : Ce} (h : ∀ i ∈ xs, uy f.sx i.x) (hx : uy f.sx x) : uy f.sx (sT xs c x) := by
 unfold sT
 split
 ·cases e : xs.getLast? with
  | none => exact hx
  | some i => exact h i (List.mem_of_getLast? e)
 ·exact hx
theorem tu {f : Fd} {cs : List Int} (hf : jM f) (h1 : FA f.sx) (h2 : FA f.sy) : ∀ n, ∀ i ∈ bA f cs n, fY f i
 | 0, i, hi => absurd hi mV
 | n + 1, i, hi => by
  have ih := tu (cs := cs) hf h1 h2 n
  rw [eM] at hi
  rcases uD.mp hi with h | h
  ·exact ih i h
  ·rw [j7.mp h]
   exact ⟨Br (λ i hi => (ih i hi).x) (tF hf.x h1 (((je _).drop 7).take 5)), tF hf.y h2 (((je _).drop 12).take 5)⟩
theorem zM (c o : Int) : o <= qP c o := by
 have tp := je c
 have b1 := tp.at (k := 1) (by decide) rfl
 unfold qP uA
 split
 ·lia
 split
 ·lia
 split <;> lia
theorem oX (f : Fd) (cs : List Int) : ∀ n, ((bA f cs n).map (·.own)).Pairwise (· < ·) /\ ∀ i ∈ bA f cs n, i.own < eI cs n
 | 0 => ⟨.nil, λ _ h => absurd h mV⟩
 | n + 1 => by
  obtain ⟨a, b⟩ := oX f cs n
  have st := zM (cs.getD n 0) (eI cs n)
  have e : eI cs (n + 1) = qP (cs.getD n 0) (eI cs n) + 1 := rfl
  rw [eM, oM]
  refine ⟨List.pairwise_append.mpr ⟨a, List.pairwise_singleton _ _, λ x hx y hy => ?_⟩, λ i hi => ?_⟩
  ·obtain ⟨i, hi, rfl⟩ := m7.mp hx
   have hy : y = qP (cs.getD n 0) (eI cs n) := j7.mp hy
   have := b i hi
   show i.own < y
   lia
  ·rcases uD.mp hi with h | h
   ·have := b i h; lia
   ·rw [j7.mp h]
    show qP (cs.getD n 0) (eI cs n) < _
    lia
theorem pY {K : Fg} {S : SpT} {E : XK} {a : Addr} {as : List Ar} (la : ge (uB K H H a) H vs as) (s : S (uB K H H a) as Φ λ _ => False) (q : ∀ v F' H' k, ah H H' -> ah F' H' -> su (uB K H H a) F' H' v k -> Φ k -> Q v H') : bE K S vs H Q E :=
 ⟨uB K H H a, as, Φ, λ _ => False, rfl, rfl, oh (ah.refl _), la, s, λ v F' H' k u r p => q v F' H' k (λ p o e => u.h p o (λ h => h) e) u.i r p, λ _ _ _ _ h => h.elim⟩
theorem ten {s : List α} (h : s.length = 10) : ∃ a b c d e f g i j k, s = [a, b, c, d, e, f, g, i, j, k] := by
 obtain ⟨a, u0, rfl, h0⟩ := dD h
 obtain ⟨b, u1, rfl, h1⟩ := dD h0
 obtain ⟨c, u2, rfl, h2⟩ := dD h1
 obtain ⟨d, u3, rfl, h3⟩ := dD h2
 obtain ⟨e, u4, rfl, h4⟩ := dD h3
 obtain ⟨f, u5, rfl, h5⟩ := dD h4
 obtain ⟨g, u6, rfl, h6⟩ := dD h5
 obtain ⟨i, u7, rfl, h7⟩ := dD h6
 obtain ⟨j, u8, rfl, h8⟩ := dD h7
 obtain ⟨k, u9, rfl, h9⟩ := dD h8
 cases List.length_eq_zero_iff.mp h9
 exact ⟨a, b, c, d, e, f, g, i, j, k, rfl⟩
local macro_rules | `(tactic| kd_mark) => `(tactic| repeat (first | (refine BP rfl (by assumption) (by kt_join) (by kt_join) ?_) | ((with_reducible apply CW); (focus rfl)) | acc_openK | obj_index2 | kxi_slice))
theorem Gu (T : cO K mg t) : dL P w K mg base wQ 12 t.f_law t.d_law ["_law_script"] (qE K) := by
 refine T.F_law.ok eS (λ vs H Q E h => ?_) (λ cdv A outer s H vs Q E hr h => ?_)
 ·obtain ⟨a, ns, rfl, _⟩ := h
  rfl
 obtain ⟨a, ns, rfl, hS, hn, q⟩ := h
 refine ⟨_, (aJ (ag (i := 1) eS.nd rfl (Or.inl rfl) (ak (ac gT (pv 0) (aT (af aD aA)))))
 (aJ (ag (i := 2) eS.nd rfl (Or.inl rfl) (bI (lF T) hr T.q_za3 (af (pv 1) aA)))
 (aJ (ag (i := 3) eS.nd rfl (Or.inl rfl) (bI (rQ T) hr T.q_zbp (af (cS et (pv 0) (bS aD) (bS aD)) (af (pv 2) aA))))
 (aJ (ag (i := 4) eS.nd rfl (Or.inl rfl) (aV jY (aT (af aI (af aI aA))) (ac aQ (ac aQ (pv 1) aD) aD) (λ _ _ => rfl)))
 (aJ (ag (i := 5) eS.nd rfl (Or.inl rfl) (bI (xG T) hr T.q_zbs (af (pv 2) (af (pv 4) (af (pv 3) aA)))))
 (aJ (ag (i := 6) eS.nd rfl (Or.inl rfl) (gZ rF rfl T.z_list ml (af (pv 3) aA)))
 (aJ (ag (i := 7) eS.nd rfl (Or.inl rfl) (bI (tO T) hr T.q_zav (af (pv 2) (af (pv 4) (af (pv 6) aA)))))
 (aJ (aK (PW.pt (pO (kf (cU (bI (oq T) hr T.q_zab (af (pv 7) (af (pv 5) aA))))) (pO (aj (zO hr.un150) (pv 6) (pv 3) (aw _)) (nE (aj (zO hr.un150) (pv 2) (bI (lF T) hr T.q_za3 (af (pv 1) aA)) (aw _)))))) (aR (ai Bm)) au)
 (aJ (cm o4 rfl (br (aa (pv 7))) (eV rfl (aF (az (i := 8) eS.nd rfl (Or.inl rfl)) (aF (az (i := 9) eS.nd rfl (Or.inl rfl)) dk))) (aJ (bU (Aa ld PySem.F.slot_list_reverse PySem.F.type_list_reverse ve (aa (pv 8))))
 (aR (bU (dw ld o7 o8 bn (pv 9) (af (dH cv aD) aA))))))
 (aJ (bU (Aa ld PySem.F.slot_list_clear PySem.F.type_list_clear zq (aa (pv 7))))
 (aR (ai (bI (oq T) hr T.q_zab (af (bI (tO T) hr T.q_zav (af (pv 2) (af (pv 4) (af (pv 6) aA)))) (af (pv 5) aA))))))))))))))), BA hS q _ _ λ D hD => ?_⟩
 kln_le
 refine Lb (τ := [.fz _, .no, .no, .no, .no, .no, .no, .no, .no, .no]) rfl (jg ?_)
 have e0 : ns.map Tr.int ++ [.int 0] = (ns ++ [0]).map Tr.int := by rw [oM]; rfl
 have l0 : (ns ++ [0]).length = ns.length + 1 := by rw [nh]; rfl
 generalize hc : dg (ns ++ [0]) 0 = c
 have hf := Cr c
 have hsm := Ci c
 generalize hF : lc c = f at *
 generalize hcs : (ns.drop 1).take 60 = cs
 have lcs : cs.length <= 60 := by rw [<- hcs, sV]; lia
 have hit := tu (cs := cs) hf hsm.1 hsm.2 cs.length
 have hown := (oX f cs cs.length).1
 have lis : (bA f cs cs.length).length <= 60 := by rw [iq]; exact lcs
 kd_mark
 refine gU rfl Rk.fz Rk.fz (by rw [cI]; show ns.length + 1 <= _; lia) ?_
 rw [e0]
 kd_mark
 rw [hc]
 refine jg ?_
 kd_mark
 intro _ _
 refine ⟨c, rfl, ?_⟩
 rw [hF]
 kd_mark
 refine jg ?_
 kd_mark
 intro _ _
 rw [show jj (ns.map Tr.int) (some 1) (some 61) = ((ns.drop 1).take 60).map Tr.int from eJ _ 1 61, hcs]
 refine ⟨cs, f, rfl, by lia, hf, hsm.1, hsm.2, ?_⟩
 generalize bA f cs cs.length = is at *
 kd_mark
 refine jg ?_
 have m0 : 0 <= c % 7 % 2 /\ c % 7 % 2 < 2 := by lia
 kd_mark
 refine aW rfl Rk.fz (JC m0.1 m0.2) ?_
 obtain ⟨side, hside⟩ : ∃ z : Str, xO (c % 7 % 2) (Tr.str "left") (.str "right") = .str z := by unfold xO; split <;> exact ⟨_, rfl⟩
 rw [hside]
 kd_mark
 refine jg ?_
 kd_mark
 intro _ _
 refine ⟨f, side, is, rfl, lis, hf, hit, hown, ?_⟩
 kd_mark
 refine jg ?_
 kd_mark
 refine λ Z F HR r => ?_
 obtain ⟨w0, w1, w2, w3, w4, w5, w6, w7, w8, w9, rfl⟩ := ten r.len
 obtain ⟨v1, x1, i1⟩ := r.fz 1 _ rfl
 obtain ⟨v2, x2, i2⟩ := r.fz 2 _ rfl
 obtain ⟨v3, x3, i3⟩ := r.fz 3 _ rfl
 obtain ⟨v4, x4, i4⟩ := r.fz 4 _ rfl
 obtain ⟨v5, x5, i5⟩ := r.fz 5 _ rfl
 obtain ⟨l6, x6, o6, _, _⟩ := r.ow 6 _ rfl
 cases x1
 cases x2
 cases x3
 cases x4
 cases x5
 cases x6
 have iF := r.up.i
 have i2 := i2.same iF
 have i3 := i3.same iF
 have i5 := i5.same iF
 have i6 : Is K HR (.ref l6) (.lst (is.map Itm.tr)) := by
  cases o6 with
  | lst h g => exact .lst (aZ.of h) (IsL.same iF g)
 cases i1
 cases i4
 have hsm2 : EU 8 (.tup [.lst (dC f side "path" ["y"] (ci f ["y"] is)), .lst (is.filterMap λ i => aS f i ["x", "y"])]) := by
  have ss : (ci f ["y"] is).Sublist is := List.filter_sublist
  exact Gk lis (n9 ss.length_le lis) (by decide) (List.Pairwise.imp (λ h => by lia) (hown.sublist (ss.map _)))
 have hnd : (is.map (·.own)).Nodup := hown.imp λ h => by lia
 clear r iF
 f_look
 refine ⟨uB K HR HR (0 : Nat), [.fz f.tr, .fz (.str side), .fz (.lst (is.map Itm.tr))], λ ts us => ts = dC f side "path" ["y"] (ci f ["y"] is) /\ us = is.filterMap λ i => aS f i ["x", "y"], rfl, rfl, oh (ah.refl _), .cons i2 (.cons .str (.cons i6 .nil)), ⟨f, side, is, rfl, lis, hf, hit, hnd, rfl, rfl⟩, λ p a1 b1 F1 H1 ts us u1 row hg hts => ?_⟩
 obtain ⟨rfl, rfl⟩ := hts
 obtain ⟨xs, hxs, hgood⟩ := hg
 have s1 : ah HR H1 := λ p o e => u1.h p o (λ w => w) e
 have f1 := u1.i
 have na1 : HR a1 = none := row.na
 have nb1 : HR b1 = none := row.nb
 have fa1 := row.fa
 have fb1 := row.fb
 have ab1 := row.ne
 have sp1 : bq K H1 p [.ref a1, .ref b1] := f1.tup row.sp
 obtain ⟨ws, hws, lw, lx⟩ : ∃ ws, H1 b1 = some (.lst ws) /\ IsL K F1 ws (is.filterMap λ i => aS f i ["x", "y"]) /\ IsL K F1 xs (dC f side "path" ["y"] (ci f ["y"] is)) := by
  cases row.oa with
  | lst h g =>
   rw [hxs] at h
   cases h
   cases row.ob with
   | lst h2 g2 => exact ⟨_, h2, g2, g⟩
 have ip1 : Is K H1 (.ref p) (.tup [.lst (dC f side "path" ["y"] (ci f ["y"] is)), .lst (is.filterMap λ i => aS f i ["x", "y"])]) := .tup sp1 (.cons (.lst (aZ.of hxs) (lx.same f1)) (.cons (.lst (aZ.of hws) (lw.same f1)) .nil))
 cases i3 with
 | @lst p3 vi3 _ h3 l3 =>
 cases i6 with
 | @lst _ vi6 _ h6 l6s =>
 cases i2 with
 | @tup p2 vf2 _ h2 l2 =>
 f_look
 refine pY (a := (0 : Nat)) (as := [.fz _, .fz _]) (Φ := λ k => k = .fz (.bl true)) (.cons ip1 (.cons (i5.same s1) .nil)) ⟨_, rfl, hsm2, rfl⟩ (λ v F2 H2 k s2 f2 ret hk => ?_)
 subst hk
 cases (show Is K F2 v (.bl true) from ret)
 have s02 := s1.trans s2
 f_look
 refine Fx ⟨6, vi6, vi3, by decide, .inr ⟨s02.seq h6, s02.seq h3⟩, by rw [l6s.length, l3.length], λ j x y hx hy => ?_⟩ ?_
 ·obtain ⟨t1, e1, j1⟩ := l6s.get2 hx
  obtain ⟨t2, e2, j2⟩ := l3.get2 hy
  rw [e1] at e2
  cases e2
  obtain ⟨i, _, rfl⟩ := m7.mp (j4 e1)
  exact sC (GT i) s02 s02 j1 j2
 f_look
 refine pY (a := (0 : Nat)) (as := [.fz (.int c)]) (Φ := λ k => k = .fz f.tr) (.cons .int .nil) ⟨c, rfl, by rw [hF]⟩ (λ v F3 H3 k s3 f3 ret hk => ?_)
 subst hk
 have s03 := s02.trans s3
 have iv := Is.same f3 (show Is K F3 v f.tr from ret)
 cases iv with
 | @tup p4 vf4 _ h4 l4 =>
 f_look
 have fdp : ∀ t ∈ ([f.sx.tr, f.sy.tr, .int f.x0, .int f.y0, .int f.w, .int f.h] : List Tr), Dp 5 t := aG (Fy _) (aG (Fy _) (aG .int (aG .int (aG .int (aG .int eU)))))
 refine Fx ⟨5, vf2, vf4, by decide, .inl ⟨s03.tup h2, h4⟩, by rw [l2.length, l4.length], λ j x y hx hy => ?_⟩ ?_
 ·obtain ⟨t1, e1, j1⟩ := l2.get2 hx
  obtain ⟨t2, e2, j2⟩ := l4.get2 hy
  rw [e1] at e2
  cases e2
  exact sC (fdp _ (j4 e1)) s03 (ah.refl _) j1 j2
 f_look
 have s13 := s2.trans s3
 refine mF (s13.tup sp1) (ce (j := 0) rfl) ?_
 f_look
 have lxs : xs.length <= 60 := by
  rw [lx.length]
  unfold dC
  rw [cI, (dX _).length_eq]
  have h1 := (bZ ((ci f ["y"] is).map kk)).2.1
  have h2 : (ci f ["y"] is).length <= is.length := List.length_filter_le _ _
  rw [cI] at h1
  lia
 have f13 : ah F1 H3 := f1.trans s13
 have ha3 := s13 _ _ hxs
 have hb3 := s13 _ _ hws
 refine rE (K := K) (xs := xs) (λ n Z HD => ∃ (u8 u9 : Option V), Z = [w0, some (.int c), some (.ref p2), some (.ref p3), some (.str side), some v5, some (.ref l6), some (.ref p), u8, u9] /\ ah HR HD /\ LP H3 HD /\ HD a1 = some (.lst xs) /\ HD b1 = some (.lst ws) /\ ∀ b ys, F1 b = some (.lst ys) -> HR b = none -> ys.length <= 60 -> ∃ zs, HD b = some (.lst zs) /\ zs.length <= 60 + n) ⟨_, _, rfl, s03, λ p o _ e => e, ha3, hb3, λ b ys e _ hl => ⟨ys, f13 _ _ e, hl⟩⟩ (λ n Z HD _ ⟨_, _, _, _, _, h, _⟩ => aZ.of h) ?_ ?_
 ·rintro n x Z HD hx ⟨u8, u9, rfl, sD, kD, haD, hbD, hlD⟩
  obtain ⟨q0, qs, pn, pp, wd, sd, cl, ys, zs, rfl, g1, g2, ⟨g3, g4, g5⟩, g6, g7, g8⟩ := hgood x (j4 hx)
  have hn : n < 60 := mv (j3.mp hx).1 lxs
  have t1 : bq K HD q0 [.ref qs, .ref pn] := bq.of (kD _ _ nofun (f13 _ _ g1))
  have t2 : bq K HD qs [wd, sd, .ref pp, cl] := bq.of (kD _ _ nofun (f13 _ _ g2))
  obtain ⟨y1, hy1, ly1⟩ := hlD pp ys g3 g5 g4
  have ppa : pp ≠ a1 := λ z => by rw [z, fa1] at g3; cases g3
  have ppb : pp ≠ b1 := λ z => by rw [z, fb1] at g3; cases g3
  have pna : pn ≠ a1 := λ z => by rw [z, fa1] at g6; cases g6
  have pnb : pn ≠ b1 := λ z => by rw [z, fb1] at g6; cases g6
  refine BX t1 rfl ?_
  f_look
  refine ⟨.ref qs, rfl, qs, [wd, sd, .ref pp, cl], 2, .ref pp, rfl, rfl, t2, rfl, .inl ⟨rfl, y1, aZ.of hy1⟩, pp, y1, rfl, rfl, hy1, ?_⟩
  have eE : (upd HD pp (.lst y1.reverse)) pp = some (.lst y1.reverse) := ar
  have kE : ∀ b, b ≠ pp -> (upd HD pp (.lst y1.reverse)) b = HD b := λ b n => am n
  generalize upd HD pp (.lst y1.reverse) = HE at *
  have lE : ∀ b ys, F1 b = some (.lst ys) -> HR b = none -> ys.length <= 60 -> ∃ zs, HE b = some (.lst zs) /\ zs.length <= 60 + n := λ b ys h1 h2 h3 => by
   by_cases e : b = pp
   ·rw [e]; exact ⟨_, eE, by rw [List.length_reverse]; exact ly1⟩
   ·rw [kE b e]; exact hlD b ys h1 h2 h3
  obtain ⟨z1, hz1, lz1⟩ := lE pn zs g6 g8 g7
  have haE : HE a1 = some (.lst xs) := by rw [kE a1 (Ne.symm ppa)]; exact haD
  have hbE : HE b1 = some (.lst ws) := by rw [kE b1 (Ne.symm ppb)]; exact hbD
  have sE : ah HR HE := λ b o e => by rw [kE b (λ z => by rw [z, g5] at e; cases e)]; exact sD _ _ e
  have kpE : LP H3 HE := λ b o nl e => by rw [kE b (λ z => by rw [z] at e; rw [kD _ _ nl e] at hy1; cases hy1; exact nl _ rfl)]; exact kD _ _ nl e
  f_look
  refine rN (aZ.of hz1) ?_
  f_look
  refine jP hz1 (rd (show z1.length <= 120 by lia) (by decide)) (λ HG bG eG => ?_)
  f_look
  refine ⟨_, _, rfl, λ b o e => bG _ _ (λ z => by rw [z, g8] at e; cases e) (sE _ _ e), λ b o nl e => bG _ _ (λ z => by rw [z] at e; rw [kpE _ _ nl e] at hz1; cases hz1; exact nl _ rfl) (kpE _ _ nl e), bG _ _ (Ne.symm pna) haE, bG _ _ (Ne.symm pnb) hbE, λ b ys h1 h2 h3 => ?_⟩
  by_cases e : b = pn
  ·rw [e]; exact ⟨_, eG, by rw [nh]; show z1.length + 1 <= _; lia⟩
  ·obtain ⟨z2, h4, h5⟩ := lE b ys h1 h2 h3
   exact ⟨z2, bG _ _ e h4, by lia⟩
 ·rintro Z HD ⟨u8, u9, rfl, sD, kD, haD, hbD, hlD⟩
  f_look
  have spD : bq K HD p [.ref a1, .ref b1] := by
   rcases s13.tup sp1 with (h | ⟨o, h⟩) | h
   ·exact .inl (.inl (kD _ _ nofun h))
   ·exact .inl (.inr ⟨o, kD _ _ nofun h⟩)
   ·exact .inr h
  refine ⟨.ref p, rfl, p, [.ref a1, .ref b1], 1, .ref b1, rfl, rfl, spD, rfl, .inl ⟨rfl, ws, aZ.of hbD⟩, b1, ws, rfl, rfl, hbD, ?_⟩
  have sZ : ah HR (upd HD b1 (.lst [])) := λ b o e => by rw [am (λ z => by rw [z, nb1] at e; cases e)]; exact sD _ _ e
  generalize upd HD b1 (.lst []) = HZ at *
  f_look
  refine ⟨uB K HZ HZ (0 : Nat), [.fz f.tr, .fz (.str side), .fz (.lst (is.map Itm.tr))], λ ts us => ts = dC f side "path" ["y"] (ci f ["y"] is) /\ us = is.filterMap λ i => aS f i ["x", "y"], rfl, rfl, oh (ah.refl _), .cons (.tup (sZ.tup h2) (l2.same sZ)) (.cons .str (.cons (.lst (sZ.seq h6) (l6s.same sZ)) .nil)), ⟨f, side, is, rfl, lis, hf, hit, hnd, rfl, rfl⟩, λ p5 a5 b5 F5 H5 ts us u5 row5 _ hts => ?_⟩
  obtain ⟨rfl, rfl⟩ := hts
  have s5 : ah HZ H5 := λ p o e => u5.h p o (λ w => w) e
  have f5 := u5.i
  have ip5 : Is K H5 (.ref p5) (.tup [.lst (dC f side "path" ["y"] (ci f ["y"] is)), .lst (is.filterMap λ i => aS f i ["x", "y"])]) := by
   have hsp := f5.tup row5.sp
   cases row5.oa with
   | lst h g =>
    cases row5.ob with
    | lst h' g' => exact .tup hsp (.cons (.lst (aZ.of h) (IsL.same f5 g)) (.cons (.lst (aZ.of h') (IsL.same f5 g')) .nil))
  f_look
  refine pY (a := (0 : Nat)) (as := [.fz _, .fz _]) (Φ := λ k => k = .fz (.bl true)) (.cons ip5 (.cons (i5.same (sZ.trans s5)) .nil)) ⟨_, rfl, hsm2, rfl⟩ (λ v F6 H6 k s6 f6 ret hk => ?_)
  subst hk
  cases (show Is K F6 v (.bl true) from ret)
  exact hD _
end
theorem walk {l : PySem.W.OpenLaw} {q : Program} {loose : List Str} {XP : (Str -> Option Value) -> Heap -> Prop} {YP : World -> Heap -> Prop} {d : DefRec} {K : Params -> Fg} (hn : l.most = some 63) (hdf : d.params.defaults = [])
  (hY : ∀ (w : World) (h : Heap), YP w h -> (K w.params).In h)
  (F : ∀ (w : World) (mg : Str -> Option Value) (fa : Addr) (h : Heap), (K w.params).In h -> h.Ns mainGlobals mg -> mg d.name = some (.ref fa) ->
   ∃ fd : FuncData, (∀ (s : Shared) (u : Value), BindsTo s fd ⟨[u], []⟩ [("_law_script", u)]) /\ ∀ base : Heap, (K w.params).In base -> base.Ns mainGlobals mg -> dL l.prog w (K w.params) mg base wQ 12 fa fd ["_law_script"] (qE (K w.params))) :
  PySem.W.WalkO q loose XP YP l.row.toRowW d [] (λ f vs => PySem.call f vs) :=
 L2.walk_of (n := 63) (k := 12) (x := "_law_script") (CX := λ _ => wQ) (sp := λ w => qE (K w.params)) hn (by decide) hdf ⟨rfl, by decide, by decide⟩ hY F (λ _ _ a ns hl _ hS => ⟨a, ns, rfl, hS, hl, λ _ => rfl⟩) λ _ _ _ _ _ z => z
end MyLaw
open PySem PySem.W PyProof.Rows
set_option maxRecDepth 100000 in
set_option maxHeartbeats 0 in
theorem PySem.Challenge.cw_markscale_k38_lines_holds : PySem.Challenge.rw_markscale_k38_lines.Holds := by
 refine MyLaw.hdZ.2 ?_
 delta MyLaw.hdZ
 dsimp only
 k_fill
 refine MyLaw.walk (l := PySem.Challenge.rw_markscale_k38_lines) rfl rfl (λ w h Y => PySem.W.kIn_of Y) ?F
 case F =>
  intro w mg fa h KX G hmg
  obtain ⟨t, T, rfl, hb⟩ := MyLaw.hdY w mg fa h KX G hmg
  exact ⟨t.d_law, hb, λ base _ _ => MyLaw.Gu T⟩
