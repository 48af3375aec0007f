import PyProof.Rows.All
import Wide.All
import OpenK.AllK
import Wide.FinOn
import Lean
import PyProof.EqAt
import PyProof.EqKinds
import PyProof.TupleCall
import PyProof.NeKinds
import PyProof.SumWalkG
import PySem.Challenge.RW_markscale_k41_heaps
set_option compiler.extract_closed false
set_option Elab.async false
set_option linter.all false
set_option maxRecDepth 100000
noncomputable section
abbrev bf := @PySem.wpAny_bind
abbrev b9 := @List.length_map
abbrev cp := @PySem.Heap.get?_push_of_some
abbrev cx := @List.mem_append_right
abbrev dI := @List.getElem?_eq_getElem
abbrev eT := @Nat.le_refl
abbrev ff := @Bool.false_ne_true
abbrev fI := @List.length_append
abbrev gS := @PySem.Heap.lt_size
abbrev gV := @if_neg
abbrev h9 := @if_pos
abbrev iL := @List.getElem?_eq_some_iff
abbrev i3 := @List.size_toArray
abbrev i7 := @PySem.wpAny_pure
abbrev i8 := @List.mem_of_getElem?
abbrev i9 := @List.mem_cons_self
abbrev j3 := @List.mem_cons
abbrev j4 := @PySem.F.plainAttrs_list
abbrev j5 := @List.getD_eq_getElem?_getD
abbrev j6 := @Nat.lt_of_lt_of_le
abbrev j7 := @List.mem_cons_of_mem
abbrev j8 := @List.map_cons
abbrev j9 := @Option.some.inj
abbrev kv := @decide_eq_false
abbrev kH := @PySem.Heap.get?_push_size
abbrev kR := @List.forall_mem_cons
abbrev kT := @List.getElem?_map
abbrev kU := @Rat.intCast_mul
abbrev ld := @PySem.lookup_relabel_local
abbrev lC := @Int.mul_pos
abbrev lG := @Int.emod_lt_of_pos
abbrev lH := @List.length_cons
abbrev lS := @Nat.le_trans
abbrev ml := @PySem.F.slot_list_append
abbrev mv := @PySem.F.type_list_append
abbrev mW := @PySem.wpAny_mono
abbrev m7 := @List.append_assoc
abbrev m8 := @List.not_mem_nil
abbrev m9 := @Int.emod_nonneg
abbrev nh := @Nat.ne_of_lt
abbrev nI := @List.mem_filter
abbrev nQ := @List.nodup_cons
abbrev nR := @List.lookup_cons
abbrev nS := @decide_eq_true
abbrev nW := @Nat.zero_le
abbrev n8 := @Int.ne_of_gt
abbrev n9 := @PySem.call_isinstance
abbrev oD := @List.map_append
abbrev oS := @PySem.PassesOwn.never
abbrev o4 := @List.filter_cons
abbrev o5 := @List.mem_singleton
abbrev o6 := @PySem.W.mg_none_of
abbrev o7 := @List.append_nil
abbrev o8 := @List.filterMap_cons
abbrev o9 := @List.replicate_succ
abbrev pg := @Int.mul_one
abbrev qx := @Bool.false_eq_true
abbrev qV := @Int.pow_zero
abbrev q9 := @List.length_replicate
abbrev rd := @List.getElem?_append_right
abbrev rl := @List.mem_append
abbrev rm := @List.foldl_cons
abbrev Fg := PySem.W.Frag
abbrev Pn := List (PySem.Addr × PySem.Obj)
section
set_option maxRecDepth 100000
set_option maxHeartbeats 0
namespace MyLaw
open PySem PySem.W
def hdF (s : String) : Str := ⟨⟨(PySem.W.S.toListS s).map Char.toNat⟩⟩
theorem hdFe : @Str.ofString = hdF := by
 rw [Str.ofString_eq_byList]; funext s
 show (⟨⟨(String.toList s).map Char.toNat⟩⟩ : Str) = _
 rw [PySem.W.S.toListS_eq]; rfl
abbrev hdP : Program := PySem.Challenge.pw_markscale_k41_heaps
abbrev KF : OpenRow := OpenLaw.row PySem.Challenge.rw_markscale_k41_heaps
noncomputable def hdG : PSigma λ G : (String -> Str) -> Program => PySem.Challenge.pw_markscale_k41_heaps = G Str.ofString := by
 refine ⟨?G, (?g : PySem.Challenge.pw_markscale_k41_heaps = (?G : (String -> Str) -> Program) Str.ofString -> _) ?p⟩
 case p =>
  delta PySem.Challenge.pw_markscale_k41_heaps
  generalize Str.ofString = f
  exact rfl
 case g =>
  intro _
  exact rfl
def Ll : List Nat := [1, 2, 4, 5, 7, 8, 9, 10, 11, 12, 14, 15, 16, 17, 18, 19, 20, 21, 22, 23, 24, 26, 27, 28, 29, 30, 31, 32, 33, 35, 36, 37, 39, 40, 41, 42, 43, 44, 45, 46, 47, 48, 49, 50, 51, 52, 53, 54, 55, 56, 57]
def hdV : Program := PySem.W.view hdP Ll
end MyLaw
noncomputable def PySem.W.Fast.tw578262811336109772 : PySem.Program := MyLaw.hdG.1 MyLaw.hdF
theorem PySem.W.Fast.te578262811336109772 : PySem.Challenge.pw_markscale_k41_heaps = PySem.W.Fast.tw578262811336109772 := MyLaw.hdG.2.trans (congrArg MyLaw.hdG.1 MyLaw.hdFe)
namespace MyLaw
open PySem PySem.W
noncomputable abbrev yC : Program := PySem.W.Fast.tw578262811336109772
noncomputable def hdT : Program := PySem.W.view yC Ll
theorem hdE : hdV = hdT := congrArg (λ p => PySem.W.view p Ll) PySem.W.Fast.te578262811336109772
abbrev hdX (q : Program) (s : Shared) : Bool := xlAt q [] s && recOk (OpenRow.toRowW KF).records s
def HdHyp (K : Params -> Frag) (as : List Addr) : Prop := ∀ (K' : Params -> Frag) (as' : List Addr), (∀ P, as' = (K' P).map (·.1)) -> K' = K -> as' = as -> KF.Holds
def EW (K : Params -> Frag) (as : List Addr) (_ : HdHyp K as -> KF.Holds) (e : ∀ P, as = (K P).map (·.1)) : List Addr := let _ := e; as
local macro_rules
 | `(tactic| o_head (kmHook $K $as $e $ts)) => `(tactic| exact (show MyLaw.HdHyp _ _ from by assumption) $K $as $e rfl rfl)
def hdKs : List Addr := by
 apply EW
 case x => intro hyp; k_head
 case e => intro P; kernel_rfl
abbrev Dg : Params -> Frag := MyLaw.hdKs.heap_1
theorem hdKe : ∀ P, hdKs = (MyLaw.hdKs.heap_1 P).map (·.1) := by intro P; kernel_rfl
noncomputable def Cb : PSigma λ G : (String -> Str) -> Params -> Frag => MyLaw.hdKs.heap_1 = G Str.ofString := by
 refine ⟨?G, (?g : MyLaw.hdKs.heap_1 = (?G : (String -> Str) -> Params -> Frag) Str.ofString -> _) ?p⟩
 case p =>
  delta MyLaw.hdKs.heap_1
  generalize Str.ofString = f
  exact rfl
 case g =>
  intro _
  exact rfl
noncomputable def DG (tb : String -> Option Builtin) (p : Program) (w : World) (n₀ : Nat) (ann : Option Value) : Nat -> SharedT -> Thread -> Option SharedT
 | 0, _, _ => none
 | n + 1, s, t => match through t with
  | true => some s
  | false => match PySem.W.Fast.tw6613529449190102663 n₀ ann t with
   | false => none
   | true => match PySem.W.Fast.tw10156331382660048174 (PySem.W.Fast.tw11892475500146522536 tb) p w s t with
    | some (s', t') => DG tb p w n₀ ann n s' t'
    | none => none
theorem vR {tb : String -> Option Builtin} {p : Program} {w : World} {n₀ : Nat} {ann : Option Value} : ∀ {n : Nat} {s r : SharedT} {t : Thread}, DG tb p w n₀ ann n s t = some r -> topRun tb p w n₀ ann n s.abs t = some r.abs
 | 0, _, _, _, h => by cases h
 | n + 1, s, r, t, h => by
  unfold DG at h
  rw [<- PySem.W.Fast.te6613529449190102663, <- PySem.W.Fast.te10156331382660048174, <- PySem.W.Fast.te11892475500146522536] at h
  unfold topRun
  cases he : through t with
  | true => rw [he] at h; cases h; rfl
  | false =>
   rw [he] at h
   cases hk : stepOk n₀ ann t with
   | false => rw [hk] at h; cases h
   | true =>
    rw [hk] at h
    cases hs : stepT (denote tb) p w s t with
    | none => rw [hs] at h; cases h
    | some q => obtain ⟨s₂, t₂⟩ := q; rw [hs] at h; rw [stepT_spec hs]; exact vR h
noncomputable def zL : List Obj -> Nat -> BT -> BT
 | [], _, t => t
 | o :: r, i, t => zL r (i + 1) (t.ins i o)
noncomputable def GH (s : Shared) : SharedT := ⟨zL s.heap.objs.toList 0 .nil, s.heap.objs.size, s.heap.life, s.gens, s.drawn, s.toks, s.os⟩
noncomputable abbrev hdTb := PySem.W.Fast.tw14364793385576792824
noncomputable abbrev Iu (s₀ s₁ : Shared) : Option Shared := match staticsOk (importedModules yC.main.body) s₀.heap s₁.heap && namesBound yC s₁.heap && gensDone s₁ && laidKept s₀.heap s₁.heap with
 | true => some s₁
 | false => none
noncomputable def uu (w : World) (s₀ : Shared) : Option Shared := match s₀.heap.isNs mainGlobals && s₀.gens.size == 0 with
 | true => (DG hdTb yC w s₀.heap.objs.size (s₀.heap.nsMap mainGlobals "__annotations__") 4154 (GH s₀) (topStub yC)).bind λ r => Iu s₀ r.abs
 | false => none
noncomputable def mJ (w : World) : Option Shared := (fencedOpening hdTb yC w 4154).bind (uu w)
theorem hdO : ∀ w : World, (fencedOpening hdTb yC w 4154).map (λ s => (GH s).abs) = fencedOpening hdTb yC w 4154 := by intro w; kernel_rfl
theorem zq {w : World} {s : Shared} (h : mJ w = some s) : openEnds hdTb yC w 4154 = some s := by
 unfold mJ at h
 unfold openEnds
 have o := hdO w
 generalize fencedOpening hdTb yC w 4154 = x at h o ⊢
 cases x with
 | none => cases h
 | some s₀ =>
  have o : (GH s₀).abs = s₀ := j9 o
  have h : uu w s₀ = some s := h
  show topFrom hdTb yC w 4154 s₀ = some s
  unfold uu at h
  unfold topFrom
  cases hb : (s₀.heap.isNs mainGlobals && s₀.gens.size == 0) with
  | false => rw [hb] at h; cases h
  | true =>
   rw [hb] at h
   dsimp only at h ⊢
   obtain ⟨r, h1, h2⟩ := Option.bind_eq_some_iff.mp h
   have h3 := vR h1
   rw [o] at h3
   rw [h3]
   exact h2
noncomputable abbrev iM (s : Shared) := PySem.W.Fast.tw4187177175401517315 hdT [hdF "number"] (PySem.W.Fast.tw5923862056798008813 yC.main.body) (hdX hdT) true s
noncomputable abbrev hdGood := openGood hdT [hdF "number"]
open PyProof PyProof.Rows
theorem hdA : ∀ w : World, Option.map (λ s => (iM s).1) (mJ w) = some (expectedOf hdT) := by intro w; kernel_rfl
theorem hdB : ∀ w : World, Option.map (λ s => ((iM s).2.1, (iM s).2.2.1, (iM s).2.2.2.1)) (mJ w) = some (bltViewBooted, true, true) := by intro w; kernel_rfl
theorem BJ : ∀ w : World, Option.map (λ s => (iM s).2.2.2.2) (mJ w) = some (pinGoodD (drecsOf hdT), plainGoodE hdT (looseW hdT [hdF "number"]), plainGoodD hdT [hdF "number"], wideGood hdT, clsGoodW hdT [hdF "number"]) := by intro w; kernel_rfl
theorem hdD : ∀ w : World, Option.map (λ s => (hdKs.map s.heap.get?, ([365, 236] : List Addr).map s.heap.get?)) (mJ w) = some ((Cb.1 hdF w.params).map λ p => some p.2, ([365, 236] : List Addr).map λ _ => some (tabObj #[])) := by intro w; kernel_rfl
theorem hdL : LeftO KF.prog hdV [Str.ofString "number"] (hdX hdV) (kmHook Dg hdKs hdKe [365, 236]).obs (kmHook Dg hdKs hdKe [365, 236]).val 4154 := by
 intro w
 show Option.map (λ s => (openSeen hdV [Str.ofString "number"] (importedModules (PySem.Challenge.pw_markscale_k41_heaps).main.body) (hdX hdV) true s, hdKs.map s.heap.get?, ([365, 236] : List Addr).map s.heap.get?)) (openEnds treeTable PySem.Challenge.pw_markscale_k41_heaps w 4154) = some (openGood hdV [Str.ofString "number"], (Dg w.params).map λ p => some p.2, ([365, 236] : List Addr).map λ _ => some (tabObj #[]))
 have eK : Dg = Cb.1 hdF := Cb.2.trans (congrArg Cb.1 hdFe)
 rw [hdE, hdFe, PySem.W.Fast.te578262811336109772, PySem.W.Fast.te4187177175401517315, PySem.W.Fast.te5923862056798008813, PySem.W.Fast.te14364793385576792824, eK]
 have a := hdA w
 have b := hdB w
 have c := BJ w
 have d := hdD w
 cases hx : mJ w with
 | none => rw [hx] at a; cases a
 | some s =>
  rw [hx] at a b c d
  rw [show openEnds PySem.W.Fast.tw14364793385576792824 PySem.W.Fast.tw578262811336109772 w 4154 = some s from zq hx]
  have a : (iM s).1 = expectedOf hdT := j9 a
  have b := j9 b
  have c : (iM s).2.2.2.2 = _ := j9 c
  obtain ⟨d, d2⟩ := Prod.mk.inj (j9 d)
  obtain ⟨b1, b2⟩ := Prod.mk.inj b
  obtain ⟨b2, b3⟩ := Prod.mk.inj b2
  show some (iM s, hdKs.map s.heap.get?, ([365, 236] : List Addr).map s.heap.get?) = some (hdGood, _, _)
  rw [d, d2]
  generalize iM s = y at a b1 b2 b3 c ⊢
  obtain ⟨y1, y2, y3, y4, y5⟩ := y
  subst a b1 b2 b3 c
  rfl
open PyProof.Rows in
set_option maxRecDepth 100000 in
set_option maxHeartbeats 0 in
def hdZ : PSigma λ G : Prop => G → PySem.Challenge.rw_markscale_k41_heaps.Holds := by
 apply PSigma.mk
 case snd =>
  intro hc
  w_on; o_law
  refine holds_open (q := MyLaw.hdV) (loose := [Str.ofString "number"]) (Xt := MyLaw.hdX MyLaw.hdV) (XP := XL MyLaw.hdV [])
   (Yf := Hook.obs (kmHook MyLaw.hdKs.heap_1 MyLaw.hdKs MyLaw.hdKe [365, 236])) (Ya := Hook.val (kmHook MyLaw.hdKs.heap_1 MyLaw.hdKs MyLaw.hdKe [365, 236])) (YP := Hook.says (kmHook MyLaw.hdKs.heap_1 MyLaw.hdKs MyLaw.hdKe [365, 236])) (N := 4154)
   MyLaw.hdL (Hook.of _) (Hook.keeps _) (λ s z => xl_of s (Bool.and_eq_true_iff.mp z).1) XL.keeps (by rfl)
   (by rfl) (by rfl) (λ s z => recFacts_of (Bool.and_eq_true_iff.mp z).2) (by rfl)
   (by first | assumption | decide +kernel) (by decide +kernel)
   ⟨rfl, rfl, rfl, rfl, rfl, by decide +kernel⟩ ?hw ?hcc
  (case hw => w_witness2)
  exact hc
end MyLaw
end
namespace L2
open PySem PySem.Spec PyProof.Rows
noncomputable abbrev Key := Sum Int Str
noncomputable def EJ : Key -> Value -> Bool
 | .inl k, v => Value.isInt k v
 | .inr x, v => Value.isStrOf x v
noncomputable def Lc (w : World) : Key -> Int
 | .inl k => hashInt k
 | .inr x => hashStr w x
theorem bA : ∀ {k : Key} {v : Value}, EJ k v = true -> (∃ i t, k = Sum.inl i /\ v = Value.int i t) ∨ (∃ x t, k = Sum.inr x /\ v = Value.str x t)
 | .inl i, v, h => by
  obtain ⟨t, e⟩ := Value.isInt_shape (k := i) (v := v) h
  exact .inl ⟨i, t, rfl, e⟩
 | .inr x, v, h => by
  obtain ⟨t, e⟩ := Value.isStrOf_shape (x := x) (v := v) h
  exact .inr ⟨x, t, rfl, e⟩
theorem GP (a b : Int) : decide ((Sum.inl a : Key) = Sum.inl b) = (a == b) := by
 by_cases e : a = b
 ·subst e; simp
 ·have h : ¬ (Sum.inl a : Key) = Sum.inl b := λ q => e (Sum.inl.inj q)
  rw [kv h]
  exact (beq_eq_false_iff_ne.mpr e).symm
theorem EU (a b : Str) : decide ((Sum.inr a : Key) = Sum.inr b) = decide (a = b) := by
 by_cases e : a = b
 ·subst e; simp
 ·have h : ¬ (Sum.inr a : Key) = Sum.inr b := λ q => e (Sum.inr.inj q)
  rw [kv h, kv e]
theorem Hb (a : Int) (b : Str) : decide ((Sum.inl a : Key) = Sum.inr b) = false := kv (λ q => nomatch q)
theorem Gb (a : Str) (b : Int) : decide ((Sum.inr a : Key) = Sum.inl b) = false := kv (λ q => nomatch q)
noncomputable def jt (prog : Program) (w : World) : PySem.KeyKind prog w Key where
 is := EJ
 hash := Lc w
 inj := λ v a b ha hb => by
  rcases bA ha with ⟨i, t, rfl, rfl⟩ | ⟨x, t, rfl, rfl⟩
  ·rcases bA hb with ⟨j, u, rfl, e⟩ | ⟨y, u, rfl, e⟩
   ·injection e with e1 _; rw [e1]
   ·exact nomatch e
  ·rcases bA hb with ⟨j, u, rfl, e⟩ | ⟨y, u, rfl, e⟩
   ·exact nomatch e
   ·injection e with e1 _; rw [e1]
 byValue := λ k v h => by
  rcases bA h with ⟨i, t, rfl, rfl⟩ | ⟨x, t, rfl, rfl⟩ <;> rfl
 pyHash := λ hv h => by
  rcases bA hv with ⟨i, t, rfl, rfl⟩ | ⟨x, t, rfl, rfl⟩
  ·exact wpAny_pyHash_int h
  ·exact wpAny_pyHash_str h
 eqBool := λ hu hv h => by
  rcases bA hu with ⟨i, t, rfl, rfl⟩ | ⟨x, t, rfl, rfl⟩
  ·rcases bA hv with ⟨j, u, rfl, rfl⟩ | ⟨y, u, rfl, rfl⟩
   ·rw [GP] at h; exact wpAny_eqBool_int h
   ·rw [Hb] at h; exact SeqAt.EqAt.int_str i t y u _ _ _ _ h
  ·rcases bA hv with ⟨j, u, rfl, rfl⟩ | ⟨y, u, rfl, rfl⟩
   ·rw [Gb] at h; exact SeqAt.EqAt.str_int x t j u _ _ _ _ h
   ·rw [EU] at h; exact wpAny_eqBool_str h
 «strs» := λ k x t v h => by
  rcases bA h with ⟨i, u, rfl, e⟩ | ⟨y, u, rfl, e⟩
  ·exact nomatch e
  ·injection e with e1 _
   subst e1
   cases v <;> rfl
inductive V where
 | non | bl (b : Bool) | int (i : Int) | str (x : Str) | byt (b : Array UInt8) | flt (b : UInt64) | ref (a : Addr) | ty (n : String)
 deriving DecidableEq
noncomputable def aU : V -> Value -> Prop
 | .non, u => u = Value.none
 | .bl b, u => u = Value.bool b
 | .int i, u => ∃ t, u = Value.int i t
 | .str x, u => ∃ t, u = Value.str x t
 | .byt b, u => ∃ t, u = Value.bytes b t
 | .flt b, u => ∃ t, u = Value.float b t
 | .ref a, u => u = Value.ref a
 | .ty n, u => u = Value.type n
noncomputable abbrev aL : List V -> List Value -> Prop := Paired aU
theorem aL.length {xs : List V} {us : List Value} (r : aL xs us) : xs.length = us.length := Paired.length r
theorem aL.get : ∀ {xs : List V} {us : List Value} {i : Nat} {x : V}, aL xs us -> xs[i]? = some x -> ∃ u, us[i]? = some u /\ aU x u
 | _, _, _, _, .nil, e => by simp at e
 | _, _, 0, _, .cons r _, e => by simp at e; subst e; exact ⟨_, rfl, r⟩
 | _, _, i + 1, x, .cons _ t, e => by
  obtain ⟨u, h1, h2⟩ := aL.get (i := i) (x := x) t (by simpa using e)
  exact ⟨u, by simpa using h1, h2⟩
theorem aL.append : ∀ {xs ys : List V} {us ws : List Value}, aL xs us -> aL ys ws -> aL (xs ++ ys) (us ++ ws)
 | _, _, _, _, .nil, s => s
 | _, _, _, _, .cons r t, s => .cons r (aL.append t s)
theorem aL.take : ∀ {xs : List V} {us : List Value} (n : Nat), aL xs us -> aL (xs.take n) (us.take n)
 | _, _, 0, _ => .nil
 | _, _, _ + 1, .nil => .nil
 | _, _, n + 1, .cons r t => .cons r (aL.take n t)
theorem aL.drop : ∀ {xs : List V} {us : List Value} (n : Nat), aL xs us -> aL (xs.drop n) (us.drop n)
 | _, _, 0, r => r
 | _, _, _ + 1, .nil => .nil
 | _, _, n + 1, .cons _ t => aL.drop n t
noncomputable def Cf : Option V -> Option Value -> Prop
 | some v, some u => aU v u
 | none, none => True
 | _, _ => False
noncomputable def KV {κ : Type} : List (κ × V) -> List (κ × Value) -> Prop := Paired λ (p : κ × V) (q : κ × Value) => p.1 = q.1 /\ aU p.2 q.2
noncomputable def kV : Key -> V
 | .inl i => .int i
 | .inr x => .str x
inductive HO where
 | lst (xs : List V)
 | tup (xs : List V)
 | dK (kvs : List (Key × V)) | dT (kvs : List (List Key × V))
 | set (S : Int -> Bool) (n : Nat)
 | ins (C dx : Addr) (fs : List (Str × V))
 | own (x : Addr)
 | xd (fs : List (Str × V))
 | met (f x : Addr)
 | rng (lo hi : Int)
 | frz (o : Obj) (u : HO)
 | tbl (ps : Array Value)
 | ext (φ : Heap -> Prop)
noncomputable abbrev Hp := Addr -> Option HO
noncomputable def upd (H : Hp) (a : Addr) (o : HO) : Hp := λ b => if b = a then some o else H b
variable {H : Hp} {a : Addr} {o : HO}
theorem ar : upd H a o a = some o := by unfold upd; rw [h9 rfl]
variable {b : Addr}
theorem ag (h : b ≠ a) : upd H a o b = H b := by unfold upd; rw [gV h]
theorem gX {u : HO} (h : H a = some o) (h' : H b = some u) (d : o ≠ u) : a ≠ b := by
 intro e; subst e; rw [h] at h'; exact d (j9 h')
theorem aH (h : H a = some o) (h' : H b = none) : a ≠ b := by
 intro e; subst e; rw [h] at h'; cases h'
section
variable (P : Program) (w : World)
noncomputable def cj (H : Hp) (h : Heap) (a : Addr) : HO -> Prop
 | .lst xs => xs.length <= sizeLine /\ ∃ (its : List Value) (n : Nat), aL xs its /\ h.get? a = some { cls := .type "list", data := .seq its.toArray n }
 | .tup xs => xs.length <= sizeLine /\ ∃ its : List Value, aL xs its /\ IsTup h a its.toArray
 | .dK kvs => kvs.length <= sizeLine /\ (a == sysModules) = false /\ ∃ vs, KV kvs vs /\ h.DictOf (jt P w) a vs
 | .dT kvs => kvs.length <= sizeLine /\ (a == sysModules) = false /\ ∃ xs : List (List Key × Addr × Value),
   Paired (λ (p : List Key × V) (q : List Key × Addr × Value) => p.1 = q.1 /\ H q.2.1 = some (.tup (p.1.map kV)) /\ aU p.2 q.2.2) kvs xs /\
   ∃ o es ep, h.get? a = some o /\ o.ExactDict /\ o.data = .dict es ep /\ es.toList = xs.map (entryOfKey (tupleKind (jt P w))) /\ (xs.map (·.1)).Nodup
 | .set S n => h.SetOf (intKind P w) a S n
 | .ins C dx fs => H dx = some (.own a) /\ fs.length <= 1000 /\ dx ≠ a /\ h.get? a = some (PySem.W.instObj C dx) /\
   ∃ mA, h.Ns1 dx mA /\ (∀ f, Cf (fs.lookup f) (mA f)) /\ PySem.Within mA (fs.map (·.1))
 | .own _ => ∃ o, h.get? a = some o
 | .xd fs => ∃ mA, h.Ns1 a mA /\ ∀ f, Cf (fs.lookup f) (mA f)
 | .rng lo hi => ∃ t u v, h.get? a = some { cls := .type "range", data := .fields #[.int lo t, .int hi u, .int 1 v] }
 | .frz o u => h.get? a = some o /\ cj H h a u
 | .tbl ps => h.get? a = some { cls := .none, data := .fields ps }
 | .met f x => h.get? a = some (PySem.W.methodObj (.ref f) (.ref x))
 | .ext φ => φ h /\ (∃ o, h.get? a = some o) /\ ∀ h1 h2 : Heap, φ h1 -> (∀ o, h1.get? a = some o -> h2.get? a = some o) -> φ h2
noncomputable def iB (H : Hp) (h : Heap) : Prop := ∀ a o, H a = some o -> cj P w H h a o
end
section
variable {P : Program} {w : World} {H H' : Hp} {h h' : Heap} {a : Addr} {o : HO}
theorem cj.lt (x : cj P w H h a o) : a < h.objs.size := by
 cases o with
 | lst xs => obtain ⟨_, _, _, _, e⟩ := x; exact gS e
 | tup xs => obtain ⟨_, _, _, p⟩ := x; exact p.lt
 | dK kvs => obtain ⟨_, _, _, _, o, _, _, e, _⟩ := x; exact gS e
 | dT kvs => obtain ⟨_, _, _, _, o, _, _, e, _⟩ := x; exact gS e
 | set S n => obtain ⟨o, _, _, _, e, _⟩ := x; exact gS e
 | ins C dx fs => obtain ⟨_, _, _, e, _⟩ := x; exact gS e
 | own y => obtain ⟨_, e⟩ := x; exact gS e
 | xd fs => obtain ⟨_, ⟨_, _, _, e, _⟩, _⟩ := x; exact gS e
 | rng lo hi => obtain ⟨_, _, _, e⟩ := x; exact gS e
 | frz ob u => obtain ⟨e, _⟩ := x; exact gS e
 | tbl ps => exact gS (show h.get? a = some _ from x)
 | met f y => exact gS (show h.get? a = some _ from x)
 | ext φ => obtain ⟨_, ⟨_, e⟩, _⟩ := x; exact gS e
theorem Paired.mapP {α β : Type} {F G : α -> β -> Prop} : ∀ {l₁ : List α} {l₂ : List β}, Paired F l₁ l₂ -> (∀ a b, F a b -> G a b) -> Paired G l₁ l₂
 | _, _, .nil, _ => .nil
 | _, _, .cons r t, f => .cons (f _ _ r) (Paired.mapP t f)
theorem cj.stay (x : cj P w H h a o) (k : ∀ b u, (b = a ∨ H b = some (.own a)) -> h.get? b = some u -> h'.get? b = some u)
  (ho : ∀ b, H b = some (.own a) -> H' b = some (.own a)) (ht : ∀ b xs, H b = some (.tup xs) -> H' b = some (.tup xs)) : cj P w H' h' a o := by
 induction o with
 | lst xs => obtain ⟨z, its, n, r, e⟩ := x; exact ⟨z, its, n, r, k _ _ (.inl rfl) e⟩
 | tup xs => obtain ⟨z, its, r, ob, e, c⟩ := x; exact ⟨z, its, r, ob, k _ _ (.inl rfl) e, c⟩
 | dK kvs => obtain ⟨z, y, vs, r, ob, es, ep, e, c⟩ := x; exact ⟨z, y, vs, r, ob, es, ep, k _ _ (.inl rfl) e, c⟩
 | dT kvs =>
  obtain ⟨z, y, xs, r, ob, es, ep, e, c⟩ := x
  exact ⟨z, y, xs, Paired.mapP r λ p q z => ⟨z.1, ht _ _ z.2.1, z.2.2⟩, ob, es, ep, k _ _ (.inl rfl) e, c⟩
 | set S n => obtain ⟨ob, es, ep, t, e, c⟩ := x; exact ⟨ob, es, ep, t, k _ _ (.inl rfl) e, c⟩
 | ins C dx fs =>
  obtain ⟨d, z, ne, e, mA, ⟨od, es, ep, e2, c⟩, r⟩ := x
  exact ⟨ho _ d, z, ne, k _ _ (.inl rfl) e, mA, ⟨od, es, ep, k _ _ (.inr d) e2, c⟩, r⟩
 | own y => obtain ⟨ob, e⟩ := x; exact ⟨ob, k _ _ (.inl rfl) e⟩
 | xd fs => obtain ⟨mA, ⟨od, es, ep, e, c⟩, r⟩ := x; exact ⟨mA, ⟨od, es, ep, k _ _ (.inl rfl) e, c⟩, r⟩
 | rng lo hi => obtain ⟨t, u, v, e⟩ := x; exact ⟨t, u, v, k _ _ (.inl rfl) e⟩
 | frz ob u ih => obtain ⟨e, q⟩ := x; exact ⟨k _ _ (.inl rfl) e, ih q⟩
 | tbl ps =>
  have e : h.get? a = some { cls := .none, data := .fields ps } := x
  show h'.get? a = some { cls := .none, data := .fields ps }
  exact k a _ (.inl rfl) e
 | met f y =>
  have e : h.get? a = some (PySem.W.methodObj (.ref f) (.ref y)) := x
  show h'.get? a = some (PySem.W.methodObj (.ref f) (.ref y))
  exact k a _ (.inl rfl) e
 | ext φ => obtain ⟨p, ⟨o, e⟩, st⟩ := x; exact ⟨st _ _ p λ o q => k _ _ (.inl rfl) q, ⟨o, k _ _ (.inl rfl) e⟩, st⟩
theorem iB.lt (x : iB P w H h) (e : H a = some o) : a < h.objs.size := (x a o e).lt
theorem iB.fresh (x : iB P w H h) (e : h.objs.size <= a) : H a = none := by
 cases q : H a with
 | none => rfl
 | some u => exact absurd (j6 (x.lt q) e) (Nat.lt_irrefl _)
theorem iB.kept (x : iB P w H h) (k : ∀ b u, h.get? b = some u -> h'.get? b = some u) : iB P w H h' := λ a o e =>
 (x a o e).stay (λ b u _ q => k b u q) (λ _ q => q) λ _ _ q => q
theorem iB.laid (x : iB P w H h) (k : ∀ b u, h.get? b = some u -> h'.get? b = some u) (hp : h.objs.size <= a) (new : cj P w (upd H a o) h' a o) : iB P w (upd H a o) h' := λ b u e => by
 have hn := x.fresh hp
 by_cases hb : b = a
 ·subst hb; rw [ar] at e; cases e; exact new
 ·rw [ag hb] at e
  exact (x b u e).stay (λ c v _ q => k c v q) (λ c q => by rw [ag (aH q hn)]; exact q) λ c xs q => by rw [ag (aH q hn)]; exact q
end
noncomputable def Rd (H : Hp) (a : Addr) (u : HO) : Prop := H a = some u ∨ ∃ o, H a = some (.frz o u)
variable {h : Heap}
theorem Rd.ok {P : Program} {w : World} {u : HO} (r : Rd H a u) (x : iB P w H h) : cj P w H h a u := by
 rcases r with r | ⟨o, r⟩
 ·exact x a u r
 ·obtain ⟨_, q⟩ := x a _ r
  exact q
noncomputable def KH : Option HO -> Prop
 | some (.lst _) => True
 | some (.dK _) => True
 | some (.dT _) => True
 | some (.set _ _) => True
 | some (.ins _ _ _) => True
 | some (.ext _) => True
 | _ => False
section
variable {P : Program} {w : World} {H : Hp} {h h' : Heap} {x e : Addr} {o' : HO}
theorem iB.write (ok : iB P w H h) (mu : KH (H x)) (he : e = x ∨ H e = some (.own x)) (k : ∀ b u, b ≠ e -> h.get? b = some u -> h'.get? b = some u) (heo : ∃ u, h'.get? e = some u)
  (new : cj P w (upd H x o') h' x o') : iB P w (upd H x o') h' := λ b u q => by
 have nown : ∀ c y, H c = some (.own y) -> c ≠ x := λ c y r z => by subst z; rw [r] at mu; exact mu
 have ntup : ∀ c xs, H c = some (.tup xs) -> c ≠ x := λ c xs r z => by subst z; rw [r] at mu; exact mu
 by_cases hb : b = x
 ·subst hb; rw [ar] at q; cases q; exact new
 ·rw [ag hb] at q
  by_cases hbe : b = e
  ·have q' : H b = some (.own x) := by
    rcases he with z | z
    ·exact absurd (hbe.trans z) hb
    ·rw [hbe]; exact z
   rw [q] at q'; cases q'
   obtain ⟨v, hv⟩ := heo
   exact ⟨v, by rw [hbe]; exact hv⟩
  ·refine (ok b u q).stay (λ c v hc r => k c v ?_ r) (λ c r => by rw [ag (nown c b r)]; exact r) λ c xs r => by rw [ag (ntup c xs r)]; exact r
   rcases hc with rfl | hc
   ·exact hbe
   ·rintro rfl
    rcases he with z | z
    ·exact nown c b hc z
    ·rw [hc] at z; cases z; exact hb rfl
end
structure Un (fs ex : List Addr) (H H' : Hp) (h h' : Heap) : Prop where
 keep : ∀ b o, h.get? b = some o -> H b = none -> b ∉ fs -> b ∉ ex -> h'.get? b = some o
 slot : ∀ b o, h.get? b = some o -> H b = none -> b ∈ fs -> b ∉ ex -> ∃ sl, h'.get? b = some { o with slots := sl }
 free : ∀ b o, h.get? b = some o -> H b = none -> b ∉ ex -> H' b = none
 there : ∀ b o, h.get? b = some o -> b ∉ ex -> ∃ o', h'.get? b = some o'
 tups : ∀ b xs, H b = some (.tup xs) -> H' b = some (.tup xs)
 frzs : ∀ b o u, H b = some (.frz o u) -> H' b = some (.frz o u)
 tbls : ∀ b ps, H b = some (.tbl ps) -> ∃ more, H' b = some (.tbl (ps ++ more))
section
variable {fs fs' ex ex' : List Addr} {H H1 H2 : Hp} {h h1 h2 h' : Heap} {a x e : Addr} {o : HO}
theorem Un.any (u : Un fs ex H H1 h h1) {b : Addr} {ob : Obj} (q : h.get? b = some ob) (n : H b = none) (hx : b ∉ ex) : ∃ sl, h1.get? b = some { ob with slots := sl } := by
 by_cases hb : b ∈ fs
 ·exact u.slot b ob q n hb hx
 ·exact ⟨ob.slots, u.keep b ob q n hb hx⟩
theorem Un.kept (k : ∀ b u, h.get? b = some u -> h'.get? b = some u) : Un fs ex H H h h' :=
 ⟨λ b ob q _ _ _ => k b ob q, λ b ob q _ _ _ => ⟨ob.slots, k b ob q⟩, λ _ _ _ n _ => n, λ b ob q _ => ⟨ob, k b ob q⟩, λ _ _ q => q, λ _ _ _ q => q, λ _ ps q => ⟨#[], by rw [q]; simp⟩⟩
theorem Un.refl : Un fs ex H H h h := Un.kept λ _ _ q => q
theorem Un.laid (k : ∀ b u, h.get? b = some u -> h'.get? b = some u) (hp : h.objs.size <= a) (hn : H a = none) : Un fs ex H (upd H a o) h h' where
 keep := λ b u q _ _ _ => k b u q
 slot := λ b u q _ _ _ => ⟨u.slots, k b u q⟩
 free := λ b u q n _ => by rw [ag (nh (j6 (gS q) hp))]; exact n
 there := λ b u q _ => ⟨u, k b u q⟩
 tups := λ b xs q => by rw [ag (aH q hn)]; exact q
 frzs := λ b u xs q => by rw [ag (aH q hn)]; exact q
 tbls := λ b ps q => ⟨#[], by rw [ag (aH q hn), q]; simp⟩
theorem Un.write (mu : KH (H x)) (he : e = x ∨ H e = some (.own x)) (k : ∀ b u, b ≠ e -> h.get? b = some u -> h'.get? b = some u) (heo : ∃ u, h'.get? e = some u) : Un fs ex H (upd H x o) h h' := by
 have hx : ∀ b, H b = none -> b ≠ x := λ b n z => by subst z; rw [n] at mu; exact mu
 have hb : ∀ b, H b = none -> b ≠ e := λ b n z => by
  subst z
  rcases he with r | r
  ·exact hx b n r
  ·rw [n] at r; cases r
 have hm : ∀ b u, H b = some u -> ¬ KH (some u) -> b ≠ x := λ b u q nm z => by subst z; rw [q] at mu; exact nm mu
 refine ⟨λ b u q n _ _ => k b u (hb b n) q, λ b u q n _ _ => ⟨u.slots, k b u (hb b n) q⟩, λ b u q n _ => by rw [ag (hx b n)]; exact n, λ b u q _ => ?_,
  λ b xs q => by rw [ag (hm b _ q λ z => z)]; exact q, λ b u xs q => by rw [ag (hm b _ q λ z => z)]; exact q, λ b ps q => ⟨#[], by rw [ag (hm b _ q λ z => z), q]; simp⟩⟩
 by_cases hbe : b = e
 ·subst hbe; exact heo
 ·exact ⟨u, k b u hbe q⟩
end
noncomputable def KL (h : Heap) (H : Hp) : List Addr := (List.range h.objs.size).filter λ a => (H a).isSome
noncomputable def jo (h : Heap) (H : Hp) : Heap := PySem.W.hideAll h (KL h H)
theorem nv (h : Heap) (H : Hp) : (jo h H).objs.size = h.objs.size := PySem.W.hideAll_size _ _
theorem iN {o : Obj} (e : h.get? b = some o) (n : H b = none) : (jo h H).get? b = some o :=
 PySem.W.hideAll_get _ e λ hm => by
  have q : (H b).isSome = true := (nI.mp hm).2
  rw [n] at q; simp at q
theorem vM {o : Obj} (e : (jo h H).get? b = some o) : h.get? b = some o /\ H b = none := by
 have e' : h.get? b = some o := PySem.W.of_hideAll (KL h H) e
 refine ⟨e', ?_⟩
 cases q : H b with
 | none => rfl
 | some x =>
  have hm : b ∈ KL h H := nI.mpr ⟨List.mem_range.mpr (gS e'), by simp [q]⟩
  have z : (jo h H).get? b = none := PySem.W.hideAll_none (KL h H) hm
  rw [z] at e; cases e
structure Mod (K : Fg) (mg : Str -> Option Value) (base : Heap) : Prop where
 kin : K.In base
 glob : base.Ns mainGlobals mg
 blt : ∃ mb, base.Ns builtinsNs mb /\ ∀ x : Str, x ≠ "__name__" -> mb x = bootBuiltins x
 nolimit : base.NoLimit
structure Cx where
 prog : Program
 w : World
 K : Fg
 mg : Str -> Option Value
 base : Heap
 A : Around
 N : List Str
 s₀ : Shared
 H₀ : Hp
 env : Env
 outer : List Env
 stack : List Env
 ex : List Addr
 fn : Str -> Bool
 calm : Bool
 pn : Pn
 xe : Value -> Shared -> Prop
noncomputable def fS (l : List Env) : List Addr := l.filterMap (·.frame)
noncomputable abbrev Cx.fs (X : Cx) : List Addr := fS X.outer
noncomputable def Er (sc : Scope) (x : Str) : Prop := sc.names.lookup x = some .local ∨ sc.names.lookup x = some .cell ∨ sc.names.lookup x = some .free
noncomputable def CG (sc : Scope) (x : Str) : Prop := sc.names.lookup x = some .local ∨ sc.names.lookup x = some .cell
noncomputable def LF (env : Env) (h : Heap) (m : Str -> Option Value) (x : Str) (u : Value) : Prop :=
 (env.kindOf x = some .local /\ m x = some u) ∨ ((env.kindOf x = some .cell ∨ env.kindOf x = some .free) /\ ∃ c, env.cells.lookup x = some c /\ h.IsCell c (some u))
structure Cx.Ok (X : Cx) : Prop where
 mod : Mod X.K X.mg X.base
 kind : X.env.scope.kind = .function
 glob : X.env.globals = mainGlobals
 blt : X.env.builtins = builtinsNs
 above : X.s₀.heap.objs.size <= X.env.locals
 inj : ∀ x y c, X.env.cells.lookup x = some c -> X.env.cells.lookup y = some c -> x = y
 has : ∀ x, (X.env.kindOf x = some .cell ∨ X.env.kindOf x = some .free) -> ∃ c, X.env.cells.lookup x = some c
 cab : ∀ x c, X.fn x = true -> X.env.cells.lookup x = some c -> X.s₀.heap.objs.size <= c
 hd : X.calm = true -> X.A.handled = none
 frames : X.A.frames = some X.stack
 stk : X.stack = X.outer ∨ (X.stack = X.env :: X.outer /\ X.env.frame = some X.env.locals)
 exf : ∀ b ∈ X.ex, b ≠ X.env.locals /\ ∀ x c, X.env.cells.lookup x = some c -> c ≠ b
 bs : ∀ b o, X.base.get? b = some o -> X.s₀.heap.get? b = some o /\ X.H₀ b = none
 bsz : X.base.objs.size <= X.s₀.heap.objs.size
 noex : ∀ b o, X.base.get? b = some o -> b ∉ X.ex
 exfs : ∀ b ∈ X.ex, b ∉ X.fs
 funs : X.s₀.heap.FunFrames X.base X.outer
 frf : ∀ b ∈ X.fs, X.H₀ b = none
structure ay (X : Cx) (pins : Pn) (Z : List (Option V)) (H : Hp) (s : Shared) : Prop where
 ok : X.Ok
 os : s.os = X.s₀.os
 bare : AllBare s.gens
 base : Un X.fs X.ex X.H₀ H X.s₀.heap s.heap
 loc : ∃ m, s.heap.Ns X.env.locals m /\ ∀ (i : Nat) (x : Str) (v : V), X.N[i]? = some x -> Z[i]? = some (some v) -> Er X.env.scope x -> ∃ u, aU v u /\ LF X.env s.heap m x u
 cell : ∀ x c, X.env.cells.lookup x = some c -> ∃ v, s.heap.IsCell c v
 free : H X.env.locals = none
 freeC : ∀ x c, X.env.cells.lookup x = some c -> H c = none
 pin : ∀ p ∈ X.pn ++ pins, s.heap.get? p.1 = some p.2 /\ H p.1 = none /\ p.1 ≠ X.env.locals /\ p.1 ∉ X.fs /\ ∀ v, p.2.data ≠ .cell v
 hok : iB X.prog X.w H s.heap
 len : Z.length = X.N.length
section
variable {X : Cx} {pins : Pn} {Z : List (Option V)} {H H' : Hp} {s : Shared} {h' : Heap}
theorem Cx.Ok.nofr (ok : X.Ok) {b : Addr} {o : Obj} (e : X.base.get? b = some o) : b ∉ X.fs := λ hb => by
 have := (ok.funs.mem hb).1
 rw [e] at this; cases this
theorem ay.bs (I : ay X pins Z H s) : ∀ b o, X.base.get? b = some o -> s.heap.get? b = some o /\ H b = none := λ b o e =>
 ⟨I.base.keep b o (I.ok.bs b o e).1 (I.ok.bs b o e).2 (I.ok.nofr e) (I.ok.noex b o e), I.base.free b o (I.ok.bs b o e).1 (I.ok.bs b o e).2 (I.ok.noex b o e)⟩
theorem ay.bk (I : ay X pins Z H s) : ∀ b o, X.base.get? b = some o -> s.heap.get? b = some o := λ b o e => (I.bs b o e).1
theorem ay.mod (I : ay X pins Z H s) : Mod X.K X.mg X.base := I.ok.mod
theorem ay.kIn (I : ay X pins Z H s) : X.K.In s.heap := I.ok.mod.kin.keeps I.bk
theorem ay.lt (I : ay X pins Z H s) : X.env.locals < s.heap.objs.size := let ⟨_, hn, _⟩ := I.loc; hn.lt
theorem ay.sz (I : ay X pins Z H s) : X.s₀.heap.objs.size <= s.heap.objs.size := lS I.ok.above (Nat.le_of_lt I.lt)
theorem ay.nofs (I : ay X pins Z H s) {a : Addr} (h : s.heap.objs.size <= a) : a ∉ X.fs := λ hb => by
 obtain ⟨_, o, ho, _⟩ := I.ok.funs.mem hb
 exact absurd (j6 (gS ho) (lS I.sz h)) (Nat.lt_irrefl _)
theorem ay.cne (I : ay X pins Z H s) : ∀ x c, X.env.cells.lookup x = some c -> c ≠ X.env.locals := λ x c e z => by
 obtain ⟨v, o, ho, hd⟩ := I.cell x c e
 obtain ⟨m, ⟨o', es, ep, ho', hd', _⟩, _⟩ := I.loc
 rw [z, ho'] at ho; cases ho; rw [hd'] at hd; cases hd
theorem ay.funs (I : ay X pins Z H s) : s.heap.FunFrames X.base X.outer := by
 have all : ∀ (l : List Env), (∀ b ∈ fS l, b ∈ X.fs) -> X.s₀.heap.FunFrames X.base l -> s.heap.FunFrames X.base l := by
  intro l
  induction l with
  | nil => intro _ _; trivial
  | cons env r ih =>
   intro hs hl
   obtain ⟨hk, ⟨L, o, hf, hn, ho, hd⟩, hr⟩ := hl
   have hL : L ∈ X.fs := hs L (by unfold fS; rw [o8, hf]; exact i9)
   obtain ⟨sl, e⟩ := I.base.slot L o ho (I.ok.frf L hL) hL λ z => I.ok.exfs L z hL
   exact ⟨hk, ⟨L, _, hf, hn, e, hd⟩, ih (λ b hb => hs b (by unfold fS; rw [o8, hf]; exact j7 _ hb)) hr⟩
 exact all X.outer (λ _ hb => hb) I.ok.funs
theorem ay.stack (I : ay X pins Z H s) : s.heap.FunFrames X.base X.stack := by
 rcases I.ok.stk with e | ⟨e, hf⟩
 ·rw [e]; exact I.funs
 ·rw [e]
  obtain ⟨m, hn, _⟩ := I.loc
  refine .cons (by rw [I.ok.kind]; decide) hf hn ?_ I.funs
  exact Heap.get?_none_of_le (lS I.ok.bsz I.ok.above)
theorem ay.stkSub (I : ay X pins Z H s) : ∀ b ∈ fS X.stack, b ∈ X.env.locals :: X.fs := λ b hb => by
 rcases I.ok.stk with e | ⟨e, hf⟩
 ·rw [e] at hb; exact j7 _ hb
 ·rw [e] at hb
  unfold fS at hb
  rw [o8, hf] at hb
  exact hb
theorem ay.stkFree (I : ay X pins Z H s) : ∀ b ∈ fS X.stack, H b = none := λ b hb => by
 rcases j3.mp (I.stkSub b hb) with e | hb
 ·rw [e]; exact I.free
 ·obtain ⟨_, o, ho, _⟩ := I.ok.funs.mem hb
  exact I.base.free b o ho (I.ok.frf b hb) λ z => I.ok.exfs b z hb
theorem ay.step {g' : Array GenState} {t' : Nat} {d' : Drawn} {ch : List Addr} (I : ay X pins Z H s)
  (hch : ∀ b ∈ ch, (b ∈ X.ex ∨ X.s₀.heap.objs.size <= b) /\ b ≠ X.env.locals /\ (∀ x c, X.env.cells.lookup x = some c -> c ≠ b) /\ ∀ p ∈ X.pn ++ pins, p.1 ≠ b)
  (keep : ∀ b o, b ≠ X.env.locals -> b ∉ X.fs -> b ∉ ch -> s.heap.get? b = some o -> H b = none -> h'.get? b = some o)
  (slot : ∀ b o, b ≠ X.env.locals -> b ∈ X.fs -> b ∉ ch -> s.heap.get? b = some o -> H b = none -> ∃ sl, h'.get? b = some { o with slots := sl }) (free : ∀ b o, b ∉ ch -> s.heap.get? b = some o -> H b = none -> H' b = none)
  (there : ∀ b o, b ∉ ch -> s.heap.get? b = some o -> ∃ o', h'.get? b = some o')
  (tups : ∀ b xs, H b = some (.tup xs) -> H' b = some (.tup xs)) (frzs : ∀ b o u, H b = some (.frz o u) -> H' b = some (.frz o u)) (tbls : ∀ b ps, H b = some (.tbl ps) -> ∃ more, H' b = some (.tbl (ps ++ more)))
  (ns : ∀ m, s.heap.Ns X.env.locals m -> h'.Ns X.env.locals m) (hok : iB X.prog X.w H' h') (hg : AllBare g') :
  ay X pins Z H' { s with heap := h', gens := g', drawn := d', toks := t' } := by
 have neL : ∀ b o, X.s₀.heap.get? b = some o -> b ≠ X.env.locals := λ b o e => nh (j6 (gS e) I.ok.above)
 have neC : ∀ b o, X.s₀.heap.get? b = some o -> b ∉ X.ex -> b ∉ ch := λ b o e hx hb => by
  rcases (hch b hb).1 with z | z
  ·exact hx z
  ·exact absurd (j6 (gS e) z) (Nat.lt_irrefl _)
 have cellK : ∀ x c, X.env.cells.lookup x = some c -> ∀ v, s.heap.IsCell c v -> h'.IsCell c v := λ x c e v ⟨o, ho, hd⟩ => by
  have nch : c ∉ ch := λ z => (hch c z).2.2.1 x c e rfl
  by_cases hc : c ∈ X.fs
  ·obtain ⟨sl, q⟩ := slot c o (I.cne x c e) hc nch ho (I.freeC x c e)
   exact ⟨_, q, hd⟩
  ·exact ⟨o, keep c o (I.cne x c e) hc nch ho (I.freeC x c e), hd⟩
 refine ⟨I.ok, I.os, hg, ⟨λ b o e n hb hx => ?_, λ b o e n hb hx => ?_, λ b o e n hx => ?_, λ b o e hx => ?_, λ b xs e => tups b xs (I.base.tups b xs e), λ b o xs e => frzs b o xs (I.base.frzs b o xs e), λ b ps e => ?_⟩, ?_, λ x c e => ?_, ?_, λ x c e => ?_, λ p hp => ?_, hok, I.len⟩
 ·exact keep b o (neL b o e) hb (neC b o e hx) (I.base.keep b o e n hb hx) (I.base.free b o e n hx)
 ·obtain ⟨sl, e1⟩ := I.base.slot b o e n hb hx
  obtain ⟨sl', e2⟩ := slot b _ (neL b o e) hb (neC b o e hx) e1 (I.base.free b o e n hx)
  exact ⟨sl', e2⟩
 ·obtain ⟨o', e1⟩ := I.base.there b o e hx
  exact free b o' (neC b o e hx) e1 (I.base.free b o e n hx)
 ·obtain ⟨o', e1⟩ := I.base.there b o e hx
  exact there b o' (neC b o e hx) e1
 ·obtain ⟨m1, e1⟩ := I.base.tbls b ps e
  obtain ⟨m2, e2⟩ := tbls b _ e1
  exact ⟨m1 ++ m2, by rw [e2, Array.append_assoc]⟩
 ·obtain ⟨m, hn, hl⟩ := I.loc
  refine ⟨m, ns m hn, λ i x v e1 e2 e3 => ?_⟩
  obtain ⟨u, r, l⟩ := hl i x v e1 e2 e3
  refine ⟨u, r, ?_⟩
  rcases l with l | ⟨k, c, e, z⟩
  ·exact .inl l
  ·exact .inr ⟨k, c, e, cellK x c e _ z⟩
 ·obtain ⟨v, z⟩ := I.cell x c e
  exact ⟨v, cellK x c e v z⟩
 ·obtain ⟨m, ⟨o, _, _, ho, _⟩, _⟩ := I.loc
  exact free _ o (λ z => (hch _ z).2.1 rfl) ho I.free
 ·obtain ⟨v, o, ho, hd⟩ := I.cell x c e
  exact free c o (λ z => (hch c z).2.2.1 x c e rfl) ho (I.freeC x c e)
 ·obtain ⟨e, n, ne, nf, d⟩ := I.pin p hp
  have nch : p.1 ∉ ch := λ z => (hch p.1 z).2.2.2 p hp rfl
  exact ⟨keep p.1 p.2 ne nf nch e n, free p.1 p.2 nch e n, ne, nf, d⟩
theorem ay.un {t' : Nat} (I : ay X pins Z H s) (u : Un X.fs [] H H' s.heap h') (hok : iB X.prog X.w H' h') : ay X pins Z H' { s with heap := h', toks := t' } := by
 obtain ⟨m, ⟨o, es, ep, ho, r⟩, _⟩ := id I.loc
 obtain ⟨sl, hL⟩ := u.any ho I.free (by simp)
 exact I.step (g' := s.gens) (d' := s.drawn) (ch := []) (λ _ z => nomatch z) (λ b o _ hb _ e n => u.keep b o e n hb (by simp)) (λ b o _ hb _ e n => u.slot b o e n hb (by simp)) (λ b o _ e n => u.free b o e n (by simp)) (λ b o _ e => u.there b o e (by simp)) u.tups u.frzs u.tbls (λ m' hm => by
  obtain ⟨o', es', ep', ho', r'⟩ := hm
  rw [ho] at ho'; cases ho'
  exact ⟨_, es', ep', hL, r'⟩) hok I.bare
theorem ay.call {g' : Array GenState} {t' : Nat} {d' : Drawn} {ch : List Addr} (I : ay X pins Z H s) (u : Un (fS X.stack) ch H H' s.heap h') (hok : iB X.prog X.w H' h') (hg : AllBare g')
  (hch : ∀ b ∈ ch, (b ∈ X.ex ∨ X.s₀.heap.objs.size <= b) /\ b ≠ X.env.locals /\ (∀ x c, X.env.cells.lookup x = some c -> c ≠ b) /\ ∀ p ∈ X.pn ++ pins, p.1 ≠ b) :
  ay X pins Z H' { s with heap := h', gens := g', drawn := d', toks := t' } := by
 obtain ⟨m, ⟨o, es, ep, ho, r⟩, _⟩ := id I.loc
 obtain ⟨sl, hL⟩ := u.any ho I.free λ z => (hch _ z).2.1 rfl
 exact I.step (ch := ch) hch (λ b o hL hb hc e n => u.keep b o e n (λ z => (j3.mp (I.stkSub b z)).elim hL hb) hc) (λ b o _ _ hc e n => u.any e n hc) (λ b o hc e n => u.free b o e n hc) (λ b o hc e => u.there b o e hc) u.tups u.frzs u.tbls (λ m' hm => by
  obtain ⟨o', es', ep', ho', r'⟩ := hm
  rw [ho] at ho'; cases ho'
  exact ⟨_, es', ep', hL, r'⟩) hok hg
theorem ay.turned {t' : Nat} {it : Addr} (I : ay X pins Z H s) (k : ∀ b o, b ≠ it -> s.heap.get? b = some o -> h'.get? b = some o) (hn : H it = none) (hL : it ≠ X.env.locals)
  (h1 : it ∈ X.ex ∨ X.s₀.heap.objs.size <= it) (h2 : ∀ x c, X.env.cells.lookup x = some c -> c ≠ it) (h3 : ∀ p ∈ X.pn ++ pins, p.1 ≠ it) : ay X pins Z H { s with heap := h', toks := t' } := by
 have nit : ∀ b u, H b = some u -> b ≠ it := λ b u e z => by rw [z, hn] at e; cases e
 refine I.step (g' := s.gens) (d' := s.drawn) (ch := [it]) (λ b hb => ?_) (λ b o _ _ hc e _ => k b o (λ z => hc (by simp [z])) e) (λ b o _ _ hc e _ => ⟨o.slots, k b o (λ z => hc (by simp [z])) e⟩) (λ _ _ _ _ n => n)
  (λ b o hc e => ⟨o, k b o (λ z => hc (by simp [z])) e⟩) (λ _ _ e => e) (λ _ _ _ e => e) (λ b ps e => ⟨#[], by rw [e]; simp⟩) (λ m hm => ?_) (λ b u e => ?_) I.bare
 ·have e : b = it := by simpa using hb
  subst e
  exact ⟨h1, hL, h2, h3⟩
 ·obtain ⟨o, es, ep, ho, r⟩ := hm
  exact ⟨o, es, ep, k _ o (Ne.symm hL) ho, r⟩
 ·refine (I.hok b u e).stay (λ c v hc q => k c v ?_ q) (λ _ q => q) λ _ _ q => q
  rcases hc with z | z
  ·rw [z]; exact nit b u e
  ·exact nit c _ z
theorem ay.tok (I : ay X pins Z H s) (t : Nat) : ay X pins Z H { s with toks := t } := I.un (h' := s.heap) (t' := t) Un.refl I.hok
theorem ay.kept {t' : Nat} (I : ay X pins Z H s) (k : ∀ b u, s.heap.get? b = some u -> h'.get? b = some u) : ay X pins Z H { s with heap := h', toks := t' } := I.un (Un.kept k) (I.hok.kept k)
theorem ay.laid {a : Addr} {o : HO} {t' : Nat} (I : ay X pins Z H s) (k : ∀ b u, s.heap.get? b = some u -> h'.get? b = some u) (hp : s.heap.objs.size <= a) (new : cj X.prog X.w (upd H a o) h' a o) :
  ay X pins Z (upd H a o) { s with heap := h', toks := t' } := I.un (Un.laid k hp (I.hok.fresh hp)) (I.hok.laid k hp new)
theorem ay.write {x e : Addr} {o : HO} {t' : Nat} (I : ay X pins Z H s) (mu : KH (H x)) (he : e = x ∨ H e = some (.own x)) (k : ∀ b u, b ≠ e -> s.heap.get? b = some u -> h'.get? b = some u) (heo : ∃ u, h'.get? e = some u)
  (new : cj X.prog X.w (upd H x o) h' x o) : ay X pins Z (upd H x o) { s with heap := h', toks := t' } := I.un (Un.write mu he k heo) (I.hok.write mu he k heo new)
theorem ay.pins_of {pins' : Pn} (I : ay X pins Z H s) (h : ∀ p ∈ pins', s.heap.get? p.1 = some p.2 /\ H p.1 = none /\ p.1 ≠ X.env.locals /\ p.1 ∉ X.fs /\ ∀ v, p.2.data ≠ .cell v) : ay X pins' Z H s :=
 ⟨I.ok, I.os, I.bare, I.base, I.loc, I.cell, I.free, I.freeC, λ p hp => (rl.mp hp).elim (λ z => I.pin p (List.mem_append_left _ z)) (h p), I.hok, I.len⟩
theorem tM {N : List Str} (hN : N.Nodup) {i j : Nat} {x : Str} (a : N[i]? = some x) (b : N[j]? = some x) : i = j := by
 obtain ⟨h1, e1⟩ := iL.mp a
 obtain ⟨h2, e2⟩ := iL.mp b
 exact (List.getElem_inj hN).mp (e1.trans e2.symm)
theorem xP {M : Model} {A : Around} {E : Value -> Shared -> Prop} {i : Nat} {x : Str} {v : V} {u : Value} {Q : Unit -> Shared -> Prop} (I : ay X pins Z H s) (hN : X.N.Nodup) (hi : X.N[i]? = some x) (hx : CG X.env.scope x) (r : aU v u)
  (h : ∀ s', ay X pins (Z.set i (some v)) H s' -> (∃ a, Heap.SameBut a s.heap s'.heap /\ (a = X.env.locals ∨ X.env.cells.lookup x = some a)) -> Q () s') (hf : X.fn x = true ∨ X.env.scope.names.lookup x = some .local := by first | exact .inl rfl | exact .inr rfl | assumption) : wpAny M A (storeName X.env x u) Q E s := by
 obtain ⟨m, hn, hl⟩ := id I.loc
 have hcls : (X.env.scope.kind == .class || (X.env.scope.kind == .module && X.env.locals != X.env.globals)) = false := by rw [I.ok.kind]; rfl
 have hiσ : i < Z.length := by rw [I.len]; exact (iL.mp hi).1
 have cne := I.cne
 have tracked : ∀ {a : Addr} {h' : Heap}, (∃ o, s.heap.get? a = some o /\ H a = none) -> Heap.SameBut a s.heap h' -> iB X.prog X.w H h' := λ {a h'} ha hs b ob e => by
  obtain ⟨_, _, hfree⟩ := ha
  refine (I.hok b ob e).stay (λ c w' hc q => (hs.2 c ?_).trans q) (λ _ q => q) λ _ _ q => q
  rintro rfl
  rcases hc with rfl | hc
  ·rw [hfree] at e; cases e
  ·rw [hfree] at hc; cases hc
 rcases hx with hk | hk
 ·refine wpAny_storeName_local hk hn (λ h' hn' hs => ?_) hcls
  obtain ⟨oL, _, _, hoL, _⟩ := id hn
  refine h _ ⟨I.ok, I.os, I.bare, ⟨λ b o e n hb hx => ?_, λ b o e n hb hx => ?_, I.base.free, λ b o e hx => ?_, I.base.tups, I.base.frzs, I.base.tbls⟩, ⟨_, hn', λ j y v' e1 e2 e3 => ?_⟩, λ y c e => ?_, I.free, I.freeC, λ p hp => ?_, tracked ⟨oL, hoL, I.free⟩ hs, by simpa using I.len⟩ ⟨_, hs, .inl rfl⟩
  ·exact (hs.2 b (nh (j6 (gS e) I.ok.above))).trans (I.base.keep b o e n hb hx)
  ·obtain ⟨sl, e1⟩ := I.base.slot b o e n hb hx
   exact ⟨sl, (hs.2 b (nh (j6 (gS e) I.ok.above))).trans e1⟩
  ·obtain ⟨o', e1⟩ := I.base.there b o e hx
   exact ⟨o', (hs.2 b (nh (j6 (gS e) I.ok.above))).trans e1⟩
  ·by_cases hj : j = i
   ·subst hj
    rw [hi] at e1; cases e1
    rw [List.getElem?_set_self hiσ] at e2
    cases e2
    exact ⟨u, r, .inl ⟨hk, by simp⟩⟩
   ·rw [List.getElem?_set_ne (Ne.symm hj)] at e2
    obtain ⟨u', r', q⟩ := hl j y v' e1 e2 e3
    refine ⟨u', r', ?_⟩
    rcases q with ⟨k, e⟩ | ⟨k, c, e, z⟩
    ·refine .inl ⟨k, ?_⟩
     have : y ≠ x := λ e => hj (tM hN e1 (e ▸ hi))
     simp [this, e]
    ·exact .inr ⟨k, c, e, z.sameBut hs (cne y c e)⟩
  ·obtain ⟨w', z⟩ := I.cell y c e
   exact ⟨w', z.sameBut hs (cne y c e)⟩
  ·obtain ⟨e, n, ne, nf, d⟩ := I.pin p hp
   exact ⟨(hs.2 p.1 ne).trans e, n, ne, nf, d⟩
 ·have hfn : X.fn x = true := by
   rcases hf with z | z
   ·exact z
   ·rw [z] at hk; cases hk
  obtain ⟨c, hc⟩ := I.ok.has x (.inl hk)
  obtain ⟨w', z⟩ := I.cell x c hc
  refine wpAny_storeName_cell I.ok.kind hk hc z (λ h' hc' hs => ?_)
  obtain ⟨oc, hoc, hocd⟩ := id z
  refine h { s with heap := h' } ⟨I.ok, I.os, I.bare, ⟨λ b o e n hb hx => ?_, λ b o e n hb hx => ?_, I.base.free, λ b o e hx => ?_, I.base.tups, I.base.frzs, I.base.tbls⟩, ⟨m, hn.sameBut hs (Ne.symm (cne x c hc)), λ j y v' e1 e2 e3 => ?_⟩, λ y c' e => ?_, I.free, I.freeC, λ p hp => ?_, tracked ⟨oc, hoc, I.freeC x c hc⟩ hs, by simpa using I.len⟩ ⟨c, hs, .inr hc⟩
  ·exact (hs.2 b (nh (j6 (gS e) (I.ok.cab x c hfn hc)))).trans (I.base.keep b o e n hb hx)
  ·obtain ⟨sl, e1⟩ := I.base.slot b o e n hb hx
   exact ⟨sl, (hs.2 b (nh (j6 (gS e) (I.ok.cab x c hfn hc)))).trans e1⟩
  ·obtain ⟨o', e1⟩ := I.base.there b o e hx
   exact ⟨o', (hs.2 b (nh (j6 (gS e) (I.ok.cab x c hfn hc)))).trans e1⟩
  ·by_cases hj : j = i
   ·subst hj
    rw [hi] at e1; cases e1
    rw [List.getElem?_set_self hiσ] at e2
    cases e2
    exact ⟨u, r, .inr ⟨.inl hk, c, hc, hc'⟩⟩
   ·rw [List.getElem?_set_ne (Ne.symm hj)] at e2
    obtain ⟨u', r', q⟩ := hl j y v' e1 e2 e3
    refine ⟨u', r', ?_⟩
    rcases q with q | ⟨k, c', e, z'⟩
    ·exact .inl q
    ·refine .inr ⟨k, c', e, z'.sameBut hs ?_⟩
     rintro rfl
     exact hj (tM hN e1 (I.ok.inj _ _ _ e hc ▸ hi))
  ·by_cases hcc : c' = c
   ·subst hcc; exact ⟨_, hc'⟩
   ·obtain ⟨w2, z2⟩ := I.cell y c' e
    exact ⟨w2, z2.sameBut hs hcc⟩
  ·obtain ⟨e, n, ne, nf, d⟩ := I.pin p hp
   refine ⟨(hs.2 p.1 ?_).trans e, n, ne, nf, d⟩
   intro q
   rw [q, hoc] at e
   have q' : oc = p.2 := j9 e
   exact d w' (by rw [<- q']; exact hocd)
theorem gt {M : Model} {A : Around} {E : Value -> Shared -> Prop} {i : Nat} {x : Str} {v : V} {u : Value} {Q : Unit -> Shared -> Prop} (I : ay X pins Z H s) (hN : X.N.Nodup) (hi : X.N[i]? = some x) (hx : CG X.env.scope x) (r : aU v u)
  (h : ∀ s', ay X pins (Z.set i (some v)) H s' -> Q () s') (hf : X.fn x = true ∨ X.env.scope.names.lookup x = some .local := by first | exact .inl rfl | exact .inr rfl | assumption) : wpAny M A (storeName X.env x u) Q E s :=
 xP I hN hi hx r (λ s' I' _ => h s' I') hf
end
noncomputable abbrev XK := Value -> Option Addr -> Hp -> Prop
noncomputable abbrev St := List (Option V)
noncomputable abbrev VK := V -> Hp -> Prop
noncomputable abbrev TE := St -> Hp -> VK -> Prop
noncomputable abbrev TT := St -> Hp -> (Bool -> Hp -> Prop) -> Prop
noncomputable abbrev TA := St -> Hp -> (List V -> Hp -> Prop) -> Prop
structure cQ where
 nx : St -> Hp -> Prop
 rt : VK
 bk : St -> Hp -> Prop := λ _ _ => False
 ct : St -> Hp -> Prop := λ _ _ => False
noncomputable abbrev TS := cQ -> St -> Hp -> Prop
noncomputable def EP (X : Cx) (pins : Pn) (Z : St) (Q : VK) (u : Value) (s' : Shared) : Prop := ∃ v H', ay X pins Z H' s' /\ aU v u /\ Q v H'
noncomputable def TP (X : Cx) (pins : Pn) (Z : St) (Q : Bool -> Hp -> Prop) (b : Bool) (s' : Shared) : Prop := ∃ H', ay X pins Z H' s' /\ Q b H'
noncomputable def AP (X : Cx) (pins : Pn) (Z : St) (Q : List V -> Hp -> Prop) (us : List Value) (s' : Shared) : Prop := ∃ vs H', ay X pins Z H' s' /\ aL vs us /\ Q vs H'
noncomputable def SP (X : Cx) (pins : Pn) (D : cQ) (f : Flow) (s' : Shared) : Prop :=
 match f with
 | .next => ∃ σ' H', ay X pins σ' H' s' /\ D.nx σ' H'
 | .brk => ∃ σ' H', ay X pins σ' H' s' /\ D.bk σ' H'
 | .cont => ∃ σ' H', ay X pins σ' H' s' /\ D.ct σ' H'
 | .ret u => ∃ v σ' H', ay X pins σ' H' s' /\ aU v u /\ D.rt v H'
noncomputable def PE (X : Cx) (e : Expr) (t : TE) : Prop :=
 ∀ (pins : Pn) (s : Shared) (Z : St) (H : Hp) (Q : VK), ay X pins Z H s -> t Z H Q -> wpAny (model X.prog X.w) X.A (eval e X.env) (EP X pins Z Q) X.xe s
noncomputable def PT (X : Cx) (e : Expr) (t : TT) : Prop :=
 ∀ (pins : Pn) (s : Shared) (Z : St) (H : Hp) (Q : Bool -> Hp -> Prop), ay X pins Z H s -> t Z H Q -> wpAny (model X.prog X.w) X.A (isTrue e X.env (eval e X.env)) (TP X pins Z Q) X.xe s
noncomputable def PW (X : Cx) (e : Expr) (t : TT) : Prop :=
 ∀ (whole : Sem Value) (pins : Pn) (s : Shared) (Z : St) (H : Hp) (Q : Bool -> Hp -> Prop), ay X pins Z H s -> t Z H Q -> wpAny (model X.prog X.w) X.A (isTrue e X.env whole) (TP X pins Z Q) X.xe s
theorem PW.pt {X : Cx} {e : Expr} {t : TT} (h : PW X e t) : PT X e t := h _
noncomputable def PA (X : Cx) (es : List Expr) (t : TA) : Prop :=
 ∀ (pos : Pos) (pins : Pn) (s : Shared) (Z : St) (H : Hp) (Q : List V -> Hp -> Prop), ay X pins Z H s -> t Z H Q -> wpAny (model X.prog X.w) X.A (spliced (backTo pos (starEach es X.env))) (AP X pins Z Q) X.xe s
noncomputable def PS (X : Cx) (st : Stmt) (t : TS) : Prop :=
 ∀ (pins : Pn) (s : Shared) (Z : St) (H : Hp) (D : cQ), ay X pins Z H s -> t D Z H -> wpAny (model X.prog X.w) X.A (exec st X.env) (SP X pins D) X.xe s
noncomputable def vv (X : Cx) (st : List Stmt) (t : TS) : Prop :=
 ∀ (pins : Pn) (s : Shared) (Z : St) (H : Hp) (D : cQ), ay X pins Z H s -> t D Z H -> wpAny (model X.prog X.w) X.A (execs st X.env) (SP X pins D) X.xe s
theorem bO {α : Type} {t : Sem α} {Q Q' : α -> Shared -> Prop} {M : Model} {A : Around} {E : Value -> Shared -> Prop} {s : Shared} (h : wpAny M A t Q E s) (hQ : ∀ a s, Q a s -> Q' a s) : wpAny M A t Q' E s := mW h hQ λ _ _ x => x
section
variable {X : Cx}
noncomputable def fE (i : Nat) : TE := λ Z H Q => ∃ v, Z[i]? = some (some v) /\ Q v H
noncomputable def tC (v : V) : TE := λ _ H Q => Q v H
variable {x : Str}
theorem Fa {i : Nat} {pos : Pos} (hN : X.N[i]? = some x) (hv : Er X.env.scope x) (hd : (x == ("__debug__" : Str)) = false := by decide) (hcd : (x == ("__classdict__" : Str)) = false := by decide) : PE X (.Name x pos) (fE i) := by
 intro pins s Z H Q I h
 obtain ⟨v, e, h⟩ := h
 obtain ⟨m, hn, hl⟩ := I.loc
 obtain ⟨u, r, l⟩ := hl i x v hN e hv
 have fin : EP X pins Z Q u s := ⟨v, H, I, r, h⟩
 rcases l with ⟨hk, hm⟩ | ⟨hk, c, hc, hcell⟩
 ·exact wpAny_Name (wpAny_loadName_local I.ok.kind hk hn hm fin) hd
 ·rcases hk with hk | hk
  ·exact wpAny_Name (wpAny_loadName_cell I.ok.kind hk hc hcell fin) hd
  ·exact wpAny_Name (wpAny_loadName_free I.ok.kind hk hc hcell fin hcd) hd
theorem ai {i j pos} : PE X (.Constant (.int i) j pos) (tC (.int i)) := λ _ _ _ H _ I h => wpAny_Constant_int ⟨.int i, H, I.tok _, ⟨_, rfl⟩, h⟩
theorem AU {b j pos} : PE X (.Constant (.bool b) j pos) (tC (.bl b)) := λ _ _ _ H _ I h => Constant_bool ⟨.bl b, H, I, rfl, h⟩
theorem bM {j pos} : PE X (.Constant .none j pos) (tC .non) := λ _ _ _ H _ I h => Constant_none ⟨.non, H, I, rfl, h⟩
theorem au {x j pos} : PE X (.Constant (.str x) j pos) (tC (.str x)) := λ _ _ _ H _ I h => Calls.Constant_str ⟨.str x, H, I.tok _, ⟨_, rfl⟩, h⟩
noncomputable def Gl (X : Cx) (x : Str) : Prop := X.env.kindOf x = some .globalImplicit
variable {u : Value}
theorem qA {E : Value -> Shared -> Prop} {pins : Pn} {s : Shared} {Z : St} {H : Hp} {pos : Pos} {Q : Value -> Shared -> Prop} (I : ay X pins Z H s) (hg : Gl X x) (hm : X.mg x = some u) (h : Q u s)
  (hd : (x == ("__debug__" : Str)) = false := by decide) : wpAny (model X.prog X.w) X.A (eval (.Name x pos) X.env) Q E s :=
 Calls.Name_function_global I.ok.kind hg (Calls.loadGlobal_global (by rw [I.ok.glob]; exact I.mod.glob.keeps I.bk) hm h) hd
theorem jY {E : Value -> Shared -> Prop} {pins : Pn} {s : Shared} {Z : St} {H : Hp} {pos : Pos} {Q : Value -> Shared -> Prop} (I : ay X pins Z H s) (hg : Gl X x) (hm : X.mg x = none) (hv : bootBuiltins x = some u) (h : Q u s)
  (hn : x ≠ "__name__" := by decide) (hd : (x == ("__debug__" : Str)) = false := by decide) : wpAny (model X.prog X.w) X.A (eval (.Name x pos) X.env) Q E s := by
 obtain ⟨mb, h1, h2⟩ := I.mod.blt
 exact Calls.Name_function_global I.ok.kind hg (Calls.loadGlobal_builtin (by rw [I.ok.glob]; exact I.mod.glob.keeps I.bk) hm (by rw [I.ok.blt]; exact h1.keeps I.bk) ((h2 x hn).trans hv) h) hd
theorem Eh {v : V} {pos : Pos} (hg : Gl X x) (hm : X.mg x = some u) (r : aU v u) (hd : (x == ("__debug__" : Str)) = false := by decide) : PE X (.Name x pos) (tC v) :=
 λ _ _ _ H _ I h => qA I hg hm ⟨v, H, I, r, h⟩ hd
theorem oV {v : V} {pos : Pos} (hg : Gl X x) (hm : X.mg x = none) (hv : bootBuiltins x = some u) (r : aU v u) (hn : x ≠ "__name__" := by decide) (hd : (x == ("__debug__" : Str)) = false := by decide) : PE X (.Name x pos) (tC v) :=
 λ _ _ _ H _ I h => jY I hg hm hv ⟨v, H, I, r, h⟩ hn hd
variable {a b : Expr} {ta tb : TE} {pos : Pos}
noncomputable def tB (t : TE) : TT := λ Z H Q => t Z H λ x H1 => ∃ c, x = .bl c /\ Q c H1
theorem eE {e : Expr} {t : TE} (h : PE X e t) (he : ∀ whole, isTrue e X.env whole = (do let v <- whole; standAt e.pos; holding [v] (truthy v)) := by intro _; rfl) : PT X e (tB t) := by
 intro pins s Z H Q I hw
 refine isTrue_plain (bO (h pins s Z H _ I hw) λ v s1 ⟨x, H1, I1, r1, q1⟩ => ?_) (he _)
 obtain ⟨d, rfl, q⟩ := q1
 cases r1
 exact wpAny_truthy_bool ⟨H1, I1, q⟩
variable {tA tB' : TT} {eR : List Expr}
noncomputable def HJ (t u : TT) : TT := λ Z H Q => t Z H λ c H1 => if c = true then u Z H1 Q else Q false H1
noncomputable def LN (t u : TT) : TT := λ Z H Q => t Z H λ c H1 => if c = true then Q true H1 else u Z H1 Q
noncomputable def Fe (t : TT) : TT := λ Z H Q => t Z H λ c H1 => Q (!c) H1
theorem CD (ha : PT X a tA) : PW X (.BoolOp .And [a] pos) tA := by
 intro wh pins s Z H Q I h
 refine isTrue_and (bO (ha pins s Z H Q I h) λ c s1 e => ?_)
 cases c with
 | true => exact isTrue_and_nil e
 | false => exact e
theorem lN (ha : PT X a tA) : PW X (.BoolOp .Or [a] pos) tA := by
 intro wh pins s Z H Q I h
 refine isTrue_or (bO (ha pins s Z H Q I h) λ c s1 e => ?_)
 cases c with
 | false => exact isTrue_or_nil e
 | true => exact e
theorem Fy (ha : PT X a tA) (hb : PW X (.BoolOp .And (b :: eR) pos) tB') : PW X (.BoolOp .And (a :: b :: eR) pos) (HJ tA tB') := by
 intro wh pins s Z H Q I h
 refine isTrue_and (bO (ha pins s Z H _ I h) λ c s1 ⟨H1, I1, q1⟩ => ?_)
 cases c with
 | true => exact hb wh pins s1 Z H1 Q I1 q1
 | false => exact ⟨H1, I1, q1⟩
theorem tJ (ha : PT X a tA) (hb : PW X (.BoolOp .Or (b :: eR) pos) tB') : PW X (.BoolOp .Or (a :: b :: eR) pos) (LN tA tB') := by
 intro wh pins s Z H Q I h
 refine isTrue_or (bO (ha pins s Z H _ I h) λ c s1 ⟨H1, I1, q1⟩ => ?_)
 cases c with
 | true => exact ⟨H1, I1, q1⟩
 | false => exact hb wh pins s1 Z H1 Q I1 q1
theorem qH (ha : PT X a tA) : PT X (.UnaryOp .Not a pos) (Fe tA) := by
 intro pins s Z H Q I h
 exact isTrue_not (ha pins s Z H (λ c H1 => Q (!c) H1) I h)
noncomputable def zV (ta tb : TE) : TE := λ Z H Q => ta Z H λ x H1 => ∃ c, x = .bl c /\ if c = true then tb Z H1 Q else Q (.bl false) H1
noncomputable def BH (ta : TE) : TE := λ Z H Q => ta Z H λ x H1 => ∃ c, x = .bl c /\ Q (.bl (!c)) H1
theorem jU {op} {t : TE} (h : PE X a t) : PE X (.BoolOp op [a] pos) t := λ pins s Z H Q I hw => BoolOp_one (h pins s Z H Q I hw)
theorem jF (ha : PE X a ta) (hb : PE X (.BoolOp .And (b :: eR) pos) tb) : PE X (.BoolOp .And (a :: b :: eR) pos) (zV ta tb) := by
 intro pins s Z H Q I h
 refine BoolOp_and (bO (ha pins s Z H _ I h) λ v s1 ⟨x, H1, I1, r1, q1⟩ => ?_)
 obtain ⟨c, rfl, q1⟩ := q1
 cases r1
 refine wpAny_truthy_bool ?_
 cases c with
 | true => exact hb pins s1 Z H1 Q I1 q1
 | false => exact ⟨.bl false, H1, I1, rfl, q1⟩
theorem oF (ha : PE X a ta) : PE X (.UnaryOp .Not a pos) (BH ta) := by
 intro pins s Z H Q I h
 refine UnaryOp_ (bO (ha pins s Z H _ I h) λ v s1 ⟨x, H1, I1, r1, q1⟩ => ?_)
 obtain ⟨c, rfl, q1⟩ := q1
 cases r1
 exact not_of (wpAny_truthy_bool ⟨.bl (!c), H1, I1, rfl, q1⟩)
noncomputable def LV (t : TT) (ta tb : TE) : TE := λ Z H Q => t Z H λ c H1 => if c = true then ta Z H1 Q else tb Z H1 Q
theorem fY {c : Expr} (hc : PT X c tA) (ha : PE X a ta) (hb : PE X b tb) : PE X (.IfExp c a b pos) (LV tA ta tb) := by
 intro pins s Z H Q I h
 refine wpAny_IfExp (bO (hc pins s Z H _ I h) λ d s1 ⟨H1, I1, q1⟩ => ?_)
 cases d with
 | true => exact ha pins s1 Z H1 Q I1 q1
 | false => exact hb pins s1 Z H1 Q I1 q1
end
noncomputable def br (K : Fg) (H : Hp) (a : Addr) (xs : List V) : Prop :=
 Rd H a (.lst xs) ∨
  ∃ (o : Obj) (its : Array Value) (n : Nat), K.lookup a = some o /\ o.cls = .type "list" /\ o.dict = none /\ o.data = .seq its n /\ its.size <= sizeLine /\ aL xs its.toList
noncomputable def bI (K : Fg) (H : Hp) (a : Addr) (xs : List V) : Prop :=
 Rd H a (.tup xs) ∨
  ∃ (o : Obj) (its : Array Value) (n : Nat), K.lookup a = some o /\ o.cls = .type "tuple" /\ o.data = .seq its n /\ its.size <= sizeLine /\ aL xs its.toList
noncomputable def LW : Value -> Option V
 | .none => some .non
 | .bool b => some (.bl b)
 | .int i _ => some (.int i)
 | .str x _ => some (.str x)
 | .bytes b _ => some (.byt b)
 | .float b _ => some (.flt b)
 | .ref a => some (.ref a)
 | .type n => some (.ty n)
 | _ => none
variable {u : Value}
theorem aU.abs {x : V} (r : aU x u) : LW u = some x := by
 cases x with
 | non => cases r; rfl
 | bl _ => cases r; rfl
 | int _ => obtain ⟨t, rfl⟩ := r; rfl
 | str _ => obtain ⟨t, rfl⟩ := r; rfl
 | byt _ => obtain ⟨t, rfl⟩ := r; rfl
 | flt _ => obtain ⟨t, rfl⟩ := r; rfl
 | ref _ => cases r; rfl
 | ty _ => cases r; rfl
theorem aU.inj {x y : V} (r : aU x u) (q : aU y u) : x = y := j9 (r.abs.symm.trans q.abs)
theorem aL.inj : ∀ {xs ys : List V} {us : List Value}, aL xs us -> aL ys us -> xs = ys
 | _, _, _, .nil, .nil => rfl
 | _, _, _, .cons r t, .cons r' t' => by rw [r.inj r', aL.inj t t']
section
variable {X : Cx} {pins : Pn} {Z : St} {H : Hp} {s : Shared} {a : Addr} {xs ys : List V}
theorem br.of {K : Fg} (h : H a = some (.lst xs)) : br K H a xs := .inl (.inl h)
theorem bI.of {K : Fg} (h : H a = some (.tup xs)) : bI K H a xs := .inl (.inl h)
theorem ay.list (I : ay X pins Z H s) (h : br X.K H a xs) : ∃ its : List Value, aL xs its /\ PlainL s.heap a its.toArray /\ xs.length <= sizeLine := by
 rcases h with h | ⟨o, its, n, hk, hc, hd, hs, hz, r⟩
 ·obtain ⟨z, its, n, r, e⟩ := h.ok I.hok
  exact ⟨its, r, ⟨_, n, e, rfl, rfl, rfl⟩, z⟩
 ·refine ⟨its.toList, r, ⟨o, n, I.kIn a o hk, hc, hd, by simpa using hs⟩, ?_⟩
  have e := r.length
  simp only [Array.length_toList] at e
  omega
theorem ay.tuple (I : ay X pins Z H s) (h : bI X.K H a xs) : ∃ its : List Value, aL xs its /\ IsTup s.heap a its.toArray /\ xs.length <= sizeLine := by
 rcases h with h | ⟨o, its, n, hk, hc, hs, hz, r⟩
 ·obtain ⟨z, its, r, p⟩ := h.ok I.hok
  exact ⟨its, r, p, z⟩
 ·refine ⟨its.toList, r, ⟨o, I.kIn a o hk, hc, n, by simpa using hs⟩, ?_⟩
  have e := r.length
  simp only [Array.length_toList] at e
  omega
theorem ay.list_inj (I : ay X pins Z H s) (h : br X.K H a xs) (h' : br X.K H a ys) : xs = ys := by
 obtain ⟨its, r, ⟨o, n, e, _, _, d⟩, _⟩ := I.list h
 obtain ⟨its', r', ⟨o', n', e', _, _, d'⟩, _⟩ := I.list h'
 rw [e] at e'; cases e'
 rw [d] at d'
 injection d' with d1 _
 have : its = its' := by simpa using congrArg Array.toList d1
 subst this
 exact r.inj r'
theorem ay.tuple_inj (I : ay X pins Z H s) (h : bI X.K H a xs) (h' : bI X.K H a ys) : xs = ys := by
 obtain ⟨its, r, ⟨o, e, _, n, d⟩, _⟩ := I.tuple h
 obtain ⟨its', r', ⟨o', e', _, n', d'⟩, _⟩ := I.tuple h'
 rw [e] at e'; cases e'
 rw [d] at d'
 injection d' with d1 _
 have : its = its' := by simpa using congrArg Array.toList d1
 subst this
 exact r.inj r'
end
noncomputable abbrev Cx.wish (X : Cx) (E : Value -> Shared -> Prop) : Cx := { X with xe := E }
noncomputable abbrev Cx.nox (X : Cx) : Cx := X.wish λ _ _ => False
variable {X : Cx}
theorem Cx.Ok.wish (ok : X.Ok) (E : Value -> Shared -> Prop) : (X.wish E).Ok :=
 ⟨ok.mod, ok.kind, ok.glob, ok.blt, ok.above, ok.inj, ok.has, ok.cab, ok.hd, ok.frames, ok.stk, ok.exf, ok.bs, ok.bsz, ok.noex, ok.exfs, ok.funs, ok.frf⟩
theorem Cx.Ok.unwish {E : Value -> Shared -> Prop} (ok : (X.wish E).Ok) : X.Ok :=
 ⟨ok.mod, ok.kind, ok.glob, ok.blt, ok.above, ok.inj, ok.has, ok.cab, ok.hd, ok.frames, ok.stk, ok.exf, ok.bs, ok.bsz, ok.noex, ok.exfs, ok.funs, ok.frf⟩
section
variable {X : Cx} {pins : Pn} {Z : St} {H : Hp} {s : Shared} {E : Value -> Shared -> Prop}
theorem ay.wish (I : ay X pins Z H s) (E : Value -> Shared -> Prop) : ay (X.wish E) pins Z H s := ⟨I.ok.wish E, I.os, I.bare, I.base, I.loc, I.cell, I.free, I.freeC, I.pin, I.hok, I.len⟩
theorem ay.unwish (I : ay (X.wish E) pins Z H s) : ay X pins Z H s := ⟨I.ok.unwish, I.os, I.bare, I.base, I.loc, I.cell, I.free, I.freeC, I.pin, I.hok, I.len⟩
theorem SP.unwish {D : cQ} {f : Flow} {s' : Shared} (h : SP (X.wish E) pins D f s') : SP X pins D f s' := by
 cases f with
 | next => obtain ⟨σ', H', I, q⟩ := h; exact ⟨σ', H', I.unwish, q⟩
 | brk => obtain ⟨σ', H', I, q⟩ := h; exact ⟨σ', H', I.unwish, q⟩
 | cont => obtain ⟨σ', H', I, q⟩ := h; exact ⟨σ', H', I.unwish, q⟩
 | ret u => obtain ⟨v, σ', H', I, r, q⟩ := h; exact ⟨v, σ', H', I.unwish, r, q⟩
theorem vv.nox {st : List Stmt} {t : TS} (h : vv X.nox st t) : vv X st t := λ pins s Z H D I hw =>
 mW (h pins s Z H D (I.wish _) hw) (λ _ _ q => q.unwish) λ _ _ z => False.elim z
end
section
variable {X : Cx} {st : Stmt} {eR : List Stmt} {t u : TS} {e : Expr} {te : TE} {pos : Pos}
noncomputable def tNext : TS := λ D Z H => D.nx Z H
noncomputable def kI (t u : TS) : TS := λ D Z H => t { D with nx := u D } Z H
theorem aq : vv X [] tNext := λ _ _ Z H _ I h => wpAny_execs_nil ⟨Z, H, I, h⟩
theorem aG (h1 : PS X st t) (h2 : vv X eR u) : vv X (st :: eR) (kI t u) := by
 intro pins s Z H D I h
 refine wpAny_execs_cons (bO (h1 pins s Z H { D with nx := u D } I h) λ f s1 q => ?_)
 cases f with
 | next =>
  obtain ⟨σ', H', I', q⟩ := q
  exact h2 pins s1 σ' H' D I' q
 | ret v => exact q
 | brk => exact q
 | cont => exact q
theorem aN (h1 : PS X st t) : vv X [st] t := by
 intro pins s Z H D I h
 refine wpAny_execs_cons (bO (h1 pins s Z H D I h) λ f s1 q => ?_)
 cases f with
 | next => exact wpAny_execs_nil q
 | ret v => exact q
 | brk => exact q
 | cont => exact q
theorem ay.quiet {pins : Pn} {Z : St} {H : Hp} {s : Shared} (I : ay X pins Z H s) : interactive X.env = false := by simp [interactive, I.ok.kind]
noncomputable def nJ (te : TE) : TS := λ D Z H => te Z H λ _ H1 => D.nx Z H1
theorem bp (he : PE X e te) (hs : swapsWith e none pos.line X.env = pure false := by rfl) : PS X (.Expr e pos) (nJ te) := by
 intro pins s Z H D I h
 exact wpAny_Expr_any (bO (he pins s Z H _ I h) λ v s1 ⟨x, H1, I1, r1, q1⟩ => ⟨Z, H1, I1, q1⟩) I.quiet hs
noncomputable def AE (te : TE) : TS := λ D Z H => te Z H D.rt
theorem ah (he : PE X e te) : PS X (.Return (some e) pos) (AE te) := by
 intro pins s Z H D I h
 exact wpAny_Return_some (bO (he pins s Z H _ I h) λ v s1 ⟨x, H1, I1, r1, q1⟩ => ⟨x, Z, H1, I1, r1, q1⟩)
noncomputable def Am (c : TT) (t u : TS) : TS := λ D Z H => c Z H λ b H1 => if b = true then t D Z H1 else u D Z H1
theorem aE {c : Expr} {a b : List Stmt} {tc : TT} (hc : PT X c tc) (ha : vv X a t) (hb : vv X b u) : PS X (.If c a b pos) (Am tc t u) := by
 intro pins s Z H D I h
 refine wpAny_If (bO (hc pins s Z H _ I h) λ d s1 ⟨H1, I1, q1⟩ => ?_)
 cases d with
 | true => exact ha pins s1 Z H1 D I1 q1
 | false => exact hb pins s1 Z H1 D I1 q1
end
noncomputable abbrev TG := V -> St -> Hp -> (St -> Hp -> Prop) -> Prop
noncomputable abbrev TGs := List V -> St -> Hp -> (St -> Hp -> Prop) -> Prop
noncomputable def PG (X : Cx) (target : Expr) (t : TG) : Prop :=
 ∀ (pins : Pn) (s : Shared) (Z : St) (H : Hp) (v : V) (u : Value) (Q : St -> Hp -> Prop), ay X pins Z H s -> aU v u -> t v Z H Q ->
  wpAny (model X.prog X.w) X.A (assign target X.env u) (λ _ s' => ∃ σ' H', ay X pins σ' H' s' /\ Q σ' H') X.xe s
noncomputable def KC (X : Cx) (ts : List Expr) (t : TGs) : Prop :=
 ∀ (pins : Pn) (s : Shared) (Z : St) (H : Hp) (vs : List V) (us : List Value) (Q : St -> Hp -> Prop), ay X pins Z H s -> aL vs us -> t vs Z H Q ->
  wpAny (model X.prog X.w) X.A (assignInOrder ((assignEach ts X.env).map (·.2)) us) (λ _ s' => ∃ σ' H', ay X pins σ' H' s' /\ Q σ' H') X.xe s
noncomputable abbrev TIp := V -> V -> Hp -> VK -> Prop
noncomputable def La (X : Cx) (op : Operator) (t : TIp) : Prop :=
 ∀ (pins : Pn) (s : Shared) (Z : St) (H : Hp) (x y : V) (v u : Value) (Q : VK), ay X pins Z H s -> aU x v -> aU y u -> t x y H Q ->
  wpAny (model X.prog X.w) X.A (inplaceOp op v u) (EP X pins Z Q) X.xe s
section
variable {X : Cx} {pos : Pos}
noncomputable def bu (i : Nat) : TG := λ v Z H Q => Q (Z.set i (some v)) H
variable {i : Nat} {x : Str}
theorem aM (hN : X.N.Nodup) (hi : X.N[i]? = some x) (hx : CG X.env.scope x) (hf : X.fn x = true ∨ X.env.scope.names.lookup x = some .local := by first | exact .inl rfl | exact .inr rfl | assumption) : PG X (.Name x pos) (bu i) := by
 intro pins s Z H v u Q I r h
 exact wpAny_assign_Name (gt I hN hi hx r (λ s' I' => ⟨_, H, I', h⟩) hf)
noncomputable def gNil : TGs := λ vs Z H Q => vs = [] /\ Q Z H
noncomputable def dB (t : TG) (u : TGs) : TGs := λ vs Z H Q => ∃ v r, vs = v :: r /\ t v Z H λ σ' H' => u r σ' H' Q
theorem lc : KC X [] gNil := by
 intro pins s Z H vs us Q I r h
 obtain ⟨e, h⟩ := h
 subst e
 cases r
 exact assignInOrder_nil ⟨Z, H, I, h⟩
variable {e : Expr}
theorem bE {es : List Expr} {t : TG} {u : TGs} (h1 : PG X e t) (h2 : KC X es u)
  (hs : (assignEach (e :: es) X.env).map (·.2) = assign e X.env :: (assignEach es X.env).map (·.2) := by rfl) : KC X (e :: es) (dB t u) := by
 intro pins s Z H vs us Q I r h
 obtain ⟨v, vr, e1, h⟩ := h
 subst e1
 cases r with
 | cons r rr =>
  rw [hs]
  refine assignInOrder_cons (bO (h1 pins s Z H _ _ _ I r h) λ _ s1 ⟨σ1, H1, I1, q1⟩ => ?_)
  exact h2 pins s1 σ1 H1 _ _ Q I1 rr q1
noncomputable def qk (K : Fg) (n : Nat) (t : TGs) : TG := λ v Z H Q => ∃ a xs, v = .ref a /\ bI K H a xs /\ xs.length = n /\ t xs Z H Q
theorem qy {es : List Expr} {k : Nat} {t : TGs} {n : Nat} (hc : X.calm = true) (h : KC X es t)
  (hn : (assignEach es X.env).length = n := by rfl) (hst : (assignEach es X.env).findIdx? (·.1) = none := by rfl) : PG X (.Tuple es k pos) (qk X.K n t) := by
 intro pins s Z H v u Q I r hw
 obtain ⟨a, xs, e1, hq, hl, hw⟩ := hw
 subst e1
 cases r
 obtain ⟨its, rv, ht, hz⟩ := I.tuple hq
 refine assign_Tuple_tuple (I.ok.hd hc) ht (by simp [hn, <- hl, rv.length]) hst λ h' hx => ?_
 have I1 : ay X pins Z H { s with heap := h' } := I.kept (t' := s.toks) λ b o e => hx b o (nh (gS e)) e
 exact h pins _ Z H xs _ Q I1 (by simpa using rv) hw
noncomputable def ro (te : TE) (g : TG) : TS := λ D Z H => te Z H λ x H1 => g x Z H1 D.nx
theorem aj {te : TE} {pos' : Pos} (hN : X.N.Nodup) (hi : X.N[i]? = some x) (hx : CG X.env.scope x) (he : PE X e te) (hs : swapsWith e (some (.Name x pos')) pos.line X.env = pure false := by rfl) (hf : X.fn x = true ∨ X.env.scope.names.lookup x = some .local := by first | exact .inl rfl | exact .inr rfl | assumption) :
  PS X (.Assign [.Name x pos'] e pos) (ro te (bu i)) := by
 intro pins s Z H D I h
 refine wpAny_Assign_Name (bO (he pins s Z H _ I h) λ v s1 ⟨y, H1, I1, r1, q1⟩ => ?_) hs
 exact gt I1 hN hi hx r1 (λ s2 I2 => ⟨_, H1, I2, q1⟩) hf
noncomputable def FS (i j : Nat) (ta : TA) : TS := λ D Z H => ta Z H λ vs H1 => ∃ v w, vs = [v, w] /\ D.nx ((Z.set i (some v)).set j (some w)) H1
theorem FF {j : Nat} {y : Str} {a b : Expr} {ta : TA} {px py pt : Pos} {kt k2 pt2} (hc : X.calm = true) (hN : X.N.Nodup) (hi : X.N[i]? = some x) (hj : X.N[j]? = some y) (hij : i ≠ j)
  (hx : X.env.scope.names.lookup x = some .local) (hy : X.env.scope.names.lookup y = some .local) (ha : PA X [a, b] ta)
  (hw : swappedStores [.Tuple [.Name x px, .Name y py] kt pt] (.Tuple [a, b] k2 pt2) X.env = pure (some [x, y]))
  (hs : swapsWithSole [.Tuple [.Name x px, .Name y py] kt pt] (.Tuple [a, b] k2 pt2) pos.line X.env = pure false := by rfl) :
  PS X (.Assign [.Tuple [.Name x px, .Name y py] kt pt] (.Tuple [a, b] k2 pt2) pos) (FS i j ta) := by
 intro pins s Z H D I h
 rw [exec_Assign_arm]
 refine bf (wpAny_standAt ?_)
 rw [hs]
 refine bf (i7 ?_)
 rw [gV (by decide)]
 refine bf (Tuple_ (bO (ha _ pins s Z H _ I h) λ us s1 ⟨vs, H1, I1, r1, q1⟩ => ?_))
 obtain ⟨v, w, e1, q1⟩ := q1
 subst e1
 obtain ⟨u1, u2, rfl, rv, rw'⟩ : ∃ u1 u2, us = [u1, u2] /\ aU v u1 /\ aU w u2 := by
  cases r1 with
  | cons p q =>
   cases q with
   | cons p' q' =>
    cases q'
    exact ⟨_, _, rfl, p, p'⟩
 refine wpAny_newObj_type ?_ (by show 2 <= sizeLine; decide)
 have I2 : ay X pins Z H1 { s1 with heap := s1.heap.push { cls := .type "tuple", data := .seq [u1, u2].toArray } } := I1.kept (t' := s1.toks) λ b o e => cp _ e
 rw [hw]
 refine bf (i7 ?_)
 show wpAny (model X.prog X.w) X.A (do rule "assign.swapped-stores"; let items <- unpackItems (.ref s1.heap.objs.size) 2 none; assignInOrder [λ v => bindName X.env y v, λ v => bindName X.env x v] items.reverse; pure Flow.next) _ _ _
 refine bf (wpAny_rule (bf (unpackItems_tuple (items := #[u1, u2]) (I.ok.hd hc) (IsTup.new s1.heap _) λ h' hx' => ?_)))
 have I3 := I2.kept (h' := h') (t' := s1.toks) λ b o e => hx' b o (nh (gS e)) e
 show wpAny _ _ (assignInOrder [λ v => bindName X.env y v, λ v => bindName X.env x v] [u2, u1] >>= λ _ => pure Flow.next) _ _ _
 refine bf (assignInOrder_cons (wpAny_bindName (gt I3 hN hj (.inl hy) rw' (λ s2 I4 => ?_) (.inr hy))))
 refine assignInOrder_cons (wpAny_bindName (gt I4 hN hi (.inl hx) rv (λ s3 I5 => assignInOrder_nil (i7 ?_)) (.inr hx)))
 rw [List.set_comm _ _ (Ne.symm hij)] at I5
 exact ⟨_, H1, I5, q1⟩
noncomputable def Ly (i : Nat) (te : TE) (ti : TIp) : TS := λ D Z H => ∃ x, Z[i]? = some (some x) /\ te Z H λ y H1 => ti x y H1 λ z H2 => D.nx (Z.set i (some z)) H2
theorem AW {te : TE} {op : Operator} {ti : TIp} {pos' : Pos} (hN : X.N.Nodup) (hi : X.N[i]? = some x) (hx : CG X.env.scope x) (he : PE X e te) (ho : La X op ti) (hf : X.fn x = true ∨ X.env.scope.names.lookup x = some .local := by first | exact .inl rfl | exact .inr rfl | assumption) :
  PS X (.AugAssign (.Name x pos') op e pos) (Ly i te ti) := by
 intro pins s Z H D I h
 obtain ⟨v, e1, h⟩ := h
 obtain ⟨m, hn, hl⟩ := I.loc
 have vis : Er X.env.scope x := by rcases hx with k | k; exact .inl k; exact .inr (.inl k)
 obtain ⟨u, r, l⟩ := hl i x v hi e1 vis
 refine wpAny_AugAssign_Name ?_
 have go : wpAny (model X.prog X.w) X.A (eval e X.env) (λ w s₂ => wpAny (model X.prog X.w) X.A (inplaceOp op u w) (λ r s₃ => wpAny (model X.prog X.w) X.A (storeName X.env x r) (λ _ => SP X pins D .next) X.xe s₃) X.xe s₂) X.xe s := by
  refine bO (he pins s Z H _ I h) λ w s1 ⟨y, H1, I1, r1, q1⟩ => ?_
  refine bO (ho pins s1 Z H1 v y u w _ I1 r r1 q1) λ z s2 ⟨zv, H2, I2, r2, q2⟩ => ?_
  exact gt I2 hN hi hx r2 (λ s3 I3 => ⟨_, H2, I3, q2⟩) hf
 rcases l with ⟨hk, hm⟩ | ⟨hk, c, hc, hcell⟩
 ·exact wpAny_loadName_local I.ok.kind hk hn hm go
 ·rcases hk with hk | hk
  ·exact wpAny_loadName_cell I.ok.kind hk hc hcell go
  ·rcases hx with k | k
   ·have : X.env.scope.names.lookup x = some .free := hk
    rw [k] at this; cases this
   ·have : X.env.scope.names.lookup x = some .free := hk
    rw [k] at this; cases this
noncomputable def ipI (f : Int -> Int -> Int) : TIp := λ x y H Q => ∃ i j, x = .int i /\ y = .int j /\ Q (.int (f i j)) H
theorem HR : La X .Add (ipI λ i j => i + j) := by
 intro pins s Z H x y v u Q I r1 r2 h
 obtain ⟨i, j, e1, e2, q⟩ := h
 subst e1; subst e2
 obtain ⟨t, rfl⟩ := r1
 obtain ⟨t', rfl⟩ := r2
 exact iadd_int ⟨.int _, H, I.tok _, ⟨_, rfl⟩, q⟩
theorem Fh : La X .Sub (ipI λ i j => i - j) := by
 intro pins s Z H x y v u Q I r1 r2 h
 obtain ⟨i, j, e1, e2, q⟩ := h
 subst e1; subst e2
 obtain ⟨t, rfl⟩ := r1
 obtain ⟨t', rfl⟩ := r2
 exact isub_int ⟨.int _, H, I.tok _, ⟨_, rfl⟩, q⟩
end
section
variable {X : Cx} {pos : Pos}
noncomputable def yR (c : TT) (tb : TS) : TS := λ D Z H => ∃ W : Nat -> St -> Hp -> Prop, (∃ m, W m Z H) /\ ∀ m Z H, W m Z H ->
 c Z H λ b H1 => if b = true then ∃ N : St -> Hp -> Prop, (∀ σ' H', N σ' H' -> ∃ m', m' < m /\ W m' σ' H') /\ tb { D with nx := N, ct := N, bk := D.nx } Z H1 else D.nx Z H1
theorem iP {c : Expr} {body : List Stmt} {tc : TT} {tb : TS} (hp : PassesOwn (model X.prog X.w) X.A X.env X.xe) (hc : PT X c tc) (hb : vv X body tb) : PS X (.While c body [] pos) (yR tc tb) := by
 intro pins s Z H D I h
 obtain ⟨W, ⟨m0, w0⟩, turn⟩ := h
 refine wpAny_While (codeAny_whileLoop (λ n s' => ∃ σ' H', ay X pins σ' H' s' /\ W n σ' H') ?_ m0 ⟨Z, H, I, w0⟩)
 rintro n s1 ⟨σ1, H1, I1, w1⟩
 refine wpAny_passesOwn hp (bO (hc pins s1 σ1 H1 _ I1 (turn n σ1 H1 w1)) λ b s2 ⟨H2, I2, q2⟩ => ?_)
 cases b with
 | true =>
  obtain ⟨N, hN, q2⟩ := q2
  rw [h9 rfl]
  refine wpAny_passesOwn hp (bO (hb pins s2 σ1 H2 _ I2 q2) λ f s3 q3 => ?_)
  cases f with
  | next =>
   obtain ⟨σ3, H3, I3, n3⟩ := q3
   obtain ⟨m', hm, w3⟩ := hN σ3 H3 n3
   exact ⟨m', hm, σ3, H3, I3, w3⟩
  | cont =>
   obtain ⟨σ3, H3, I3, n3⟩ := q3
   obtain ⟨m', hm, w3⟩ := hN σ3 H3 n3
   exact ⟨m', hm, σ3, H3, I3, w3⟩
  | brk => exact q3
  | ret v => exact q3
 | false =>
  rw [gV ff]
  exact wpAny_execs_nil ⟨σ1, H2, I2, q2⟩
end
structure It where
 go : Nat -> Hp -> Prop
 yld : Nat -> Hp -> V -> Hp -> Prop
 stop : Nat -> Hp -> Prop
noncomputable def dS (X : Cx) (pins : Pn) (H : Hp) (b : Addr) : Prop :=
 H b = none /\ b ≠ X.env.locals /\ b ∉ X.fs /\ (b ∈ X.ex ∨ X.s₀.heap.objs.size <= b) /\ (∀ x c, X.env.cells.lookup x = some c -> c ≠ b) /\ ∀ p ∈ X.pn ++ pins, p.1 ≠ b
theorem ay.fpOk {pins : Pn} {Z : St} {H H' : Hp} {s : Shared} {b : Addr} (I : ay X pins Z H s) (hb : s.heap.objs.size <= b) (hn : H' b = none) : dS X pins H' b := by
 refine ⟨hn, Nat.ne_of_gt (j6 I.lt hb), I.nofs hb, .inr (lS I.sz hb), λ x c e z => ?_, λ p hp z => ?_⟩
 ·obtain ⟨v, q⟩ := I.cell x c e
  exact absurd (j6 q.lt (by rw [z]; exact hb)) (Nat.lt_irrefl _)
 ·exact absurd (j6 (gS (I.pin p hp).1) (by rw [z]; exact hb)) (Nat.lt_irrefl _)
structure BA (P : Program) (w : World) (K : Fg) (tg : Expr) (J : It) (fp : List Addr) (it : Addr) (tn : Nat -> Heap -> Prop) : Prop where
 mem : it ∈ fp
 obj : ∀ i h, tn i h -> ∀ b ∈ fp, ∃ o, h.get? b = some o /\ ∀ v, o.data ≠ .cell v
 keep : ∀ i h h', tn i h -> (∀ b ∈ fp, ∀ o, h.get? b = some o -> h'.get? b = some o) -> tn i h'
 item : ∀ (X : Cx), X.prog = P -> X.w = w -> X.K = K -> X.calm = true -> ∀ (i : Nat) (pins : Pn) (s : Shared) (Z : St) (H : Hp) (E : Value -> Shared -> Prop), ay X pins Z H s -> (∀ b ∈ fp, dS X pins H b) -> tn i s.heap -> J.go i H ->
  wpAny (model P w) X.A (pyNext (.ref it)) (λ r s1 => ∃ u, r = some u /\
   wpAny (model P w) X.A (letOwnedTupleGo tg (.ref it) u) (λ _ s2 => ∃ x H', ay X pins Z H' s2 /\ aU x u /\ J.yld i H x H' /\ tn (i + 1) s2.heap /\ ∀ b ∈ fp, H' b = none) E s1) E s
 done : ∀ (X : Cx), X.prog = P -> X.w = w -> X.K = K -> X.calm = true -> ∀ (i : Nat) (pins : Pn) (s : Shared) (Z : St) (H : Hp) (E : Value -> Shared -> Prop), ay X pins Z H s -> (∀ b ∈ fp, dS X pins H b) -> tn i s.heap -> J.stop i H ->
  wpAny (model P w) X.A (pyNext (.ref it)) (λ r s1 => r = none /\ ay X pins Z H s1) E s
 self : ∀ (A : Around) (i : Nat) (s : Shared) (Q : Value -> Shared -> Prop) (E : Value -> Shared -> Prop), tn i s.heap -> Q (.ref it) s -> wpAny (model P w) A (pyIter (.ref it)) Q E s
noncomputable abbrev TI := St -> Hp -> (It -> Hp -> Prop) -> Prop
noncomputable def PIE (X : Cx) (pins : Pn) (Z : St) (tg : Expr) (R : It -> Hp -> Prop) (itv : Value) (s2 : Shared) : Prop :=
 ∃ (it : Addr) (fp : List Addr) (tn : Nat -> Heap -> Prop) (J : It) (H' : Hp), itv = .ref it /\ ay X pins Z H' s2 /\ BA X.prog X.w X.K tg J fp it tn /\ tn 0 s2.heap /\ (∀ b ∈ fp, dS X pins H' b) /\ R J H'
noncomputable def PI (X : Cx) (tg iter : Expr) (wi : TI) : Prop :=
 ∀ (pins : Pn) (s : Shared) (Z : St) (H : Hp) (R : It -> Hp -> Prop), ay X pins Z H s -> wi Z H R ->
  wpAny (model X.prog X.w) X.A (eval iter X.env) (λ v s1 => wpAny (model X.prog X.w) X.A (pyIter v) (PIE X pins Z tg R) X.xe s1) X.xe s
variable {tg : Expr}
theorem AT {M : Model} {A : Around} {E : Value -> Shared -> Prop} {s : Shared} {it : Addr} {o : Obj} {n : String} {vs : Array Value} {Q : Unit -> Shared -> Prop} (ho : s.heap.get? it = some o) (hc : o.cls = .type n) (hd : o.data = .fields vs)
    (hn : ["enumerate", "zip", "dict_itemiterator", "dict_reverseitemiterator", "odict_iterator", "itertools.zip_longest", "itertools.pairwise"].contains n = false) (hQ : Q () s) : wpAny M A (letOwnedTupleGo tg (.ref it) u) Q E s := by
  unfold letOwnedTupleGo
  cases tg <;> first
    | exact i7 hQ
    | (cases u <;> first
        | exact i7 hQ
        | (refine bf (wpAny_load ho ?_)
           rw [hc, hd]
           show wpAny M A (if (["enumerate", "zip", "dict_itemiterator", "dict_reverseitemiterator", "odict_iterator", "itertools.zip_longest", "itertools.pairwise"].contains n && vs[0]? == some (rawInt _)) = true then _ else _) Q E s
           rw [gV (by intro h; rw [hn, Bool.false_and] at h; cases h)]
           exact i7 hQ))
noncomputable def FP (K : Fg) (a : Addr) : It :=
 ⟨λ i H => ∃ xs x, br K H a xs /\ xs[i]? = some x, λ i H x H' => H' = H /\ ∀ xs, br K H a xs -> xs[i]? = some x, λ i H => ∃ xs, br K H a xs /\ xs.length <= i⟩
noncomputable def LY (K : Fg) (a : Addr) : It :=
 ⟨λ i H => ∃ xs x, bI K H a xs /\ xs[i]? = some x, λ i H x H' => H' = H /\ ∀ xs, bI K H a xs -> xs[i]? = some x, λ i H => ∃ xs, bI K H a xs /\ xs.length <= i⟩
noncomputable def BM (lo : Int) (n : Nat) : It := ⟨λ i _ => i < n, λ i H x H' => H' = H /\ x = .int (lo + i), λ i _ => n <= i⟩
variable {P : Program} {w : World} {K : Fg}
theorem yi (a it : Addr) : BA P w K tg (FP K a) [it] it (λ i h => h.IsListIter it a i) where
 mem := by simp
 obj := λ i h st b hb => by
  have e : b = it := by simpa using hb
  subst e
  obtain ⟨o, e, c, d⟩ := st
  exact ⟨o, e, λ v z => by rw [d] at z; cases z⟩
 keep := λ i h h' st k => st.at λ o e => k it (by simp) o e
 item := by
  intro X hP hw hK hc i pins s Z H E I hf st hg
  subst hP hw hK
  obtain ⟨xs, x, hq, hx⟩ := hg
  obtain ⟨its, rv, p, hz⟩ := I.list hq
  obtain ⟨u, hu, ru⟩ := rv.get hx
  obtain ⟨f0, f1, f2, f3, f4, f5⟩ := hf it (by simp)
  refine wpAny_pyNext_list_item st p.isList (x := u) (by simpa using hu) λ h' st' sb => ?_
  have I1 : ay X pins Z H { s with heap := h' } := I.turned (t' := s.toks) (λ b o hb e => (sb.2 b hb).trans e) f0 f1 f3 f4 f5
  obtain ⟨o, e, c, d⟩ := id st'
  exact ⟨u, rfl, AT (s := { s with heap := h' }) e c d (by decide) ⟨x, H, I1, ru, ⟨rfl, λ ys hy => by rw [I.list_inj hy hq]; exact hx⟩, st', λ b hb => (hf b hb).1⟩⟩
 done := by
  intro X hP hw hK hc i pins s Z H E I hf st hg
  subst hP hw hK
  obtain ⟨xs, hq, hx⟩ := hg
  obtain ⟨its, rv, p, hz⟩ := I.list hq
  obtain ⟨f0, f1, f2, f3, f4, f5⟩ := hf it (by simp)
  have hl := rv.length
  exact wpAny_pyNext_list_end (I.ok.hd hc) st p.isList (by simp; omega) λ h' eb => ⟨rfl, I.turned (t' := s.toks) (λ b o hb e => eb b o hb e) f0 f1 f3 f4 f5⟩
 self := λ _ _ _ _ _ st h => wpAny_pyIter_listiter st h
theorem uU (a it : Addr) : BA P w K tg (LY K a) [it] it (λ i h => h.IsTupleIter it a i) where
 mem := by simp
 obj := λ i h st b hb => by
  have e : b = it := by simpa using hb
  subst e
  obtain ⟨o, e, c, d⟩ := st
  exact ⟨o, e, λ v z => by rw [d] at z; cases z⟩
 keep := λ i h h' st k => st.at λ o e => k it (by simp) o e
 item := by
  intro X hP hw hK hc i pins s Z H E I hf st hg
  subst hP hw hK
  obtain ⟨xs, x, hq, hx⟩ := hg
  obtain ⟨its, rv, p, hz⟩ := I.tuple hq
  obtain ⟨u, hu, ru⟩ := rv.get hx
  obtain ⟨f0, f1, f2, f3, f4, f5⟩ := hf it (by simp)
  refine wpAny_pyNext_tuple_item st (show s.heap.IsTuple a its.toArray from p) (x := u) (by simpa using hu) λ h' st' sb => ?_
  have I1 : ay X pins Z H { s with heap := h' } := I.turned (t' := s.toks) (λ b o hb e => (sb.2 b hb).trans e) f0 f1 f3 f4 f5
  obtain ⟨o, e, c, d⟩ := id st'
  exact ⟨u, rfl, AT (s := { s with heap := h' }) e c d (by decide) ⟨x, H, I1, ru, ⟨rfl, λ ys hy => by rw [I.tuple_inj hy hq]; exact hx⟩, st', λ b hb => (hf b hb).1⟩⟩
 done := by
  intro X hP hw hK hc i pins s Z H E I hf st hg
  subst hP hw hK
  obtain ⟨xs, hq, hx⟩ := hg
  obtain ⟨its, rv, p, hz⟩ := I.tuple hq
  obtain ⟨f0, f1, f2, f3, f4, f5⟩ := hf it (by simp)
  have hl := rv.length
  exact wpAny_pyNext_tuple_end (I.ok.hd hc) st (show s.heap.IsTuple a its.toArray from p) (by simp; omega) λ h' eb => ⟨rfl, I.turned (t' := s.toks) (λ b o hb e => eb b o hb e) f0 f1 f3 f4 f5⟩
 self := λ _ _ _ _ _ st h => wpAny_pyIter_tupleiter st h
theorem vI (it : Addr) (lo : Int) (n : Nat) : BA P w K tg (BM lo n) [it] it (λ i h => IsRangeIter h it (lo + (i : Nat) * 1) ((n : Int) - (i : Nat)) 1) where
 mem := by simp
 obj := λ i h st b hb => by
  have e : b = it := by simpa using hb
  subst e
  exact ⟨_, st, λ v z => by
   have z' : Data.fields _ = Data.cell v := z
   cases z'⟩
 keep := λ i h h' st k => k it (by simp) _ st
 item := by
  intro X hP hw hK hc i pins s Z H E I hf st hg
  subst hP hw hK
  obtain ⟨f0, f1, f2, f3, f4, f5⟩ := hf it (by simp)
  have W := Walks.range (prog := X.prog) (w := X.w) (I.ok.hd hc) it lo 1 n
  refine W.item i s _ _ hg st λ v h' tk hv st' kk => ?_
  obtain ⟨t, rfl⟩ := hv
  have I1 : ay X pins Z H { s with heap := h', toks := tk } := I.turned (λ b o hb e => kk b o (by simpa using hb) e) f0 f1 f3 f4 f5
  refine ⟨_, rfl, AT (s := { s with heap := h', toks := tk }) (n := "range_iterator") st' rfl rfl (by decide) ⟨.int (lo + i), H, I1, ⟨t, ?_⟩, ⟨rfl, rfl⟩, st', λ b hb => (hf b hb).1⟩⟩
  rw [pg]
 done := by
  intro X hP hw hK hc i pins s Z H E I hf st hg
  subst hP hw hK
  obtain ⟨f0, f1, f2, f3, f4, f5⟩ := hf it (by simp)
  exact wpAny_pyNext_range_end (I.ok.hd hc) st (by have : n <= i := hg; omega) λ h' eb => ⟨rfl, I.turned (t' := s.toks) (λ b o hb e => eb b o hb e) f0 f1 f3 f4 f5⟩
 self := λ _ _ _ _ _ st h => wpAny_pyIter_rangeiter st h
section
variable {X : Cx} {tg : Expr}
noncomputable def wD (K : Fg) (tl : TE) : TI := λ Z H R => tl Z H λ x H1 => ∃ a, x = .ref a /\ (∃ xs, br K H1 a xs) /\ R (FP K a) H1
noncomputable def FJ (K : Fg) (tl : TE) : TI := λ Z H R => tl Z H λ x H1 => ∃ a, x = .ref a /\ (∃ xs, bI K H1 a xs) /\ R (LY K a) H1
theorem cc {l : Expr} {tl : TE} (hl : PE X l tl) : PI X tg l (wD X.K tl) := by
 intro pins s Z H R I h
 refine bO (hl pins s Z H _ I h) λ v s1 ⟨x, H1, I1, r1, q1⟩ => ?_
 obtain ⟨a, e, ⟨xs, hq⟩, q⟩ := q1
 subst e
 cases r1
 obtain ⟨its, rv, p, hz⟩ := I1.list hq
 refine wpAny_pyIter_list p.isList ?_
 refine ⟨s1.heap.objs.size, [s1.heap.objs.size], _, _, H1, rfl, I1.kept (t' := s1.toks) λ b o e => cp _ e, yi a _, ⟨_, kH _ rfl, rfl, rfl⟩, λ b hb => ?_, q⟩
 have e : b = s1.heap.objs.size := by simpa using hb
 subst e
 exact I1.fpOk (eT _) (I1.hok.fresh (eT _))
theorem FB {l : Expr} {tl : TE} (hl : PE X l tl) : PI X tg l (FJ X.K tl) := by
 intro pins s Z H R I h
 refine bO (hl pins s Z H _ I h) λ v s1 ⟨x, H1, I1, r1, q1⟩ => ?_
 obtain ⟨a, e, ⟨xs, hq⟩, q⟩ := q1
 subst e
 cases r1
 obtain ⟨its, rv, p, hz⟩ := I1.tuple hq
 refine wpAny_pyIter_tuple (show s1.heap.IsTuple a its.toArray from p) ?_
 refine ⟨s1.heap.objs.size, [s1.heap.objs.size], _, _, H1, rfl, I1.kept (t' := s1.toks) λ b o e => cp _ e, uU a _, ⟨_, kH _ rfl, rfl, rfl⟩, λ b hb => ?_, q⟩
 have e : b = s1.heap.objs.size := by simpa using hb
 subst e
 exact I1.fpOk (eT _) (I1.hok.fresh (eT _))
variable {pins : Pn} {Z : St} {H : Hp} {s : Shared}
theorem zR {R : It -> Hp -> Prop} {E : Value -> Shared -> Prop} {lo hi : Int} {t u v : Tok} {tk : Nat} (I : ay X pins Z H s) (h1 : -(2 ^ 62) <= lo) (h2 : lo < 2 ^ 62) (h3 : -(2 ^ 62) <= hi) (h4 : hi < 2 ^ 62)
  (q : R (BM lo (hi - lo).toNat) H) : wpAny (model X.prog X.w) X.A (pyIter (.ref s.heap.objs.size)) (PIE X pins Z tg R) E { s with heap := s.heap.push { cls := .type "range", data := .fields #[.int lo t, .int hi u, .int 1 v] }, toks := tk } := by
 refine wpAny_pyIter_range (IsRange.new ..) (small_one h1 h2 h3 h4) ?_
 have I1 : ay X pins Z H { s with heap := s.heap.push { cls := .type "range", data := .fields #[.int lo t, .int hi u, .int 1 v] }, toks := tk } := I.kept λ b o e => cp _ e
 refine ⟨(s.heap.push { cls := .type "range", data := .fields #[.int lo t, .int hi u, .int 1 v] }).objs.size, [(s.heap.push { cls := .type "range", data := .fields #[.int lo t, .int hi u, .int 1 v] }).objs.size], _, _, H, rfl,
  I1.kept (t' := tk) λ b o e => cp _ e, vI _ lo (hi - lo).toNat, ?_, λ b hb => ?_, q⟩
 ·have e1 : lo + ((0 : Nat) : Int) * 1 = lo := by simp
  have e2 : (((hi - lo).toNat : Nat) : Int) - ((0 : Nat) : Int) = Builtin.Range.rangeSize lo hi 1 := by rw [rangeSize_one]; split <;> omega
  show IsRangeIter _ _ (lo + ((0 : Nat) : Int) * 1) ((((hi - lo).toNat : Nat) : Int) - ((0 : Nat) : Int)) 1
  rw [e1, e2]
  exact kH _ rfl
 ·have e : b = (s.heap.push { cls := .type "range", data := .fields #[.int lo t, .int hi u, .int 1 v] }).objs.size := by simpa using hb
  subst e
  exact I1.fpOk (eT _) (I1.hok.fresh (eT _))
noncomputable def zo (ta : TA) : TI := λ Z H R => ta Z H λ vs H1 => ∃ j : Int, vs = [.int j] /\ -(2 ^ 62) <= j /\ j < 2 ^ 62 /\ R (BM 0 j.toNat) H1
theorem jH {a : Expr} {ta : TA} {p pos : Pos} (hg : Gl X "range") (hm : X.mg "range" = none) (ha : PA X [a] ta) (hs : starEach [a] X.env = [(false, eval a X.env)] := by rfl) : PI X tg (.Call (.Name "range" p) [a] [] pos) (zo ta) := by
 intro pins s Z H R I h
 refine Call_ (jY I hg hm boot_range (PyProof.Rows.callWith_type1 (bO (ha pos pins s Z H _ I h) λ us s1 ⟨vs, H1, I1, r1, q1⟩ => ?_) hs rfl))
 obtain ⟨j, e, q1, q2, q⟩ := q1
 subst e
 cases r1 with
 | cons r rr =>
  cases rr
  obtain ⟨t, rfl⟩ := r
  exact call_range_1 (zR I1 (by omega) (by omega) q1 q2 (by simpa using q))
noncomputable def Dr (wi : TI) (g : TG) (tb : TS) : TS := λ D Z H => wi Z H λ J H1 => ∃ W : Nat -> Nat -> St -> Hp -> Prop, (∃ m, W 0 m Z H1) /\ ∀ i m Z H, W i m Z H ->
 (J.stop i H /\ D.nx Z H) ∨ (J.go i H /\ ∃ N : St -> Hp -> Prop, (∀ σ' H', N σ' H' -> ∃ m', m' < m /\ W (i + 1) m' σ' H') /\ ∀ x H', J.yld i H x H' -> g x Z H' λ σ2 H2 => tb { D with nx := N, ct := N, bk := D.nx } σ2 H2)
noncomputable def qg (fp : List Addr) (h : Heap) : Pn := fp.filterMap λ b => (h.get? b).map λ o => (b, o)
variable {fp : List Addr}
theorem bF {h : Heap} {b : Addr} {o : Obj} (hb : b ∈ fp) (e : h.get? b = some o) : (b, o) ∈ qg fp h := List.mem_filterMap.mpr ⟨b, hb, by rw [e]; rfl⟩
theorem xL {h : Heap} {p : Addr × Obj} (hp : p ∈ qg fp h) : p.1 ∈ fp /\ h.get? p.1 = some p.2 := by
 obtain ⟨b, hb, e⟩ := List.mem_filterMap.mp hp
 cases q : h.get? b with
 | none => rw [q] at e; cases e
 | some o =>
  rw [q] at e
  have e' : (b, o) = p := j9 e
  subst e'
  exact ⟨hb, q⟩
theorem ay.pinned (I : ay X pins Z H s) (hf : ∀ b ∈ fp, dS X pins H b) (ho : ∀ b ∈ fp, ∃ o, s.heap.get? b = some o /\ ∀ v, o.data ≠ .cell v) : ay X (pins ++ qg fp s.heap) Z H s :=
 I.pins_of λ p hp => (rl.mp hp).elim (λ z => I.pin p (cx _ z)) λ z => by
  obtain ⟨hb, e⟩ := xL z
  obtain ⟨f0, f1, f2, _⟩ := hf p.1 hb
  obtain ⟨o, e', d⟩ := ho p.1 hb
  rw [e] at e'; cases e'
  exact ⟨e, f0, f1, f2, d⟩
theorem ay.unpinned {pl : Pn} (I : ay X (pins ++ pl) Z H s) : ay X pins Z H s := I.pins_of λ p hp => I.pin p (cx _ (List.mem_append_left _ hp))
theorem dN {iter : Expr} {body : List Stmt} {wi : TI} {g : TG} {tb : TS} {pos : Pos} (hp : PassesOwn (model X.prog X.w) X.A X.env X.xe) (hc : X.calm = true) (hi : PI X tg iter wi) (hg : PG X tg g) (hb : vv X body tb)
  (hs : ∀ x, foldedSetIterable iter X.env x = pure x := by intro _; rfl) : PS X (.For tg iter body [] pos) (Dr wi g tb) := by
 intro pins s Z H D I h
 refine wpAny_For (bO (hi pins s Z H _ I h) λ v s1 h1 => bO h1 λ itv s2 h2 => ?_) hs
 obtain ⟨it, fp, tn, J, H2, e, I2, T, st2, f2, W, ⟨m0, w0⟩, turn⟩ := h2
 subst e
 have stat : ∀ {H' : Hp}, (∀ b ∈ fp, H' b = none) -> ∀ b ∈ fp, dS X pins H' b := λ hn b hb => ⟨hn b hb, (f2 b hb).2⟩
 refine codeAny_forLoop_any (λ n s' => ∃ i σ' H', ay X pins σ' H' s' /\ tn i s'.heap /\ (∀ b ∈ fp, H' b = none) /\ W i n σ' H') ?_ m0 ⟨0, Z, H2, I2, st2, λ b hb => (f2 b hb).1, w0⟩
 rintro n s3 ⟨i, σ3, H3, I3, st3, fr3, w3⟩
 rcases turn i n σ3 H3 w3 with ⟨stop, qn⟩ | ⟨go, N, hN, step⟩
 ·refine wpAny_passesOwn hp (bO (T.done X rfl rfl rfl hc i pins s3 σ3 H3 X.xe I3 (stat fr3) st3 stop) λ r s4 ⟨hr, I4⟩ => ?_)
  subst hr
  exact wpAny_execs_nil ⟨σ3, H3, I4, qn⟩
 ·refine wpAny_passesOwn hp (bO (T.item X rfl rfl rfl hc i pins s3 σ3 H3 X.xe I3 (stat fr3) st3 go) λ r s4 ⟨u, hr, h4⟩ => ?_)
  subst hr
  refine wpAny_passesOwn hp (bO h4 λ _ s5 ⟨x, H5, I5, r5, y5, st5, fr5⟩ => ?_)
  have I5' := I5.pinned (stat fr5) (T.obj _ _ st5)
  refine wpAny_passesOwn hp (bO (hg _ s5 σ3 H5 x u _ I5' r5 (step x H5 y5)) λ _ s6 ⟨σ6, H6, I6, q6⟩ => ?_)
  refine wpAny_passesOwn hp (bO (hb _ s6 σ6 H6 _ I6 q6) λ f s7 q7 => ?_)
  have again : ∀ {σ7 : St} {H7 : Hp}, ay X (pins ++ qg fp s5.heap) σ7 H7 s7 -> N σ7 H7 -> ∃ m, m < n /\ ∃ i σ' H', ay X pins σ' H' s7 /\ tn i s7.heap /\ (∀ b ∈ fp, H' b = none) /\ W i m σ' H' := λ {σ7 H7} I7 n7 => by
   obtain ⟨m', hm, w7⟩ := hN σ7 H7 n7
   refine ⟨m', hm, i + 1, σ7, H7, I7.unpinned, T.keep _ _ _ st5 λ b hb o e => (I7.pin (b, o) (cx _ (cx _ (bF hb e)))).1, λ b hb => ?_, w7⟩
   obtain ⟨o, e, d⟩ := T.obj _ _ st5 b hb
   exact (I7.pin (b, o) (cx _ (cx _ (bF hb e)))).2.1
  cases f with
  | next => obtain ⟨σ7, H7, I7, n7⟩ := q7; exact again I7 n7
  | cont => obtain ⟨σ7, H7, I7, n7⟩ := q7; exact again I7 n7
  | brk => obtain ⟨σ7, H7, I7, q7⟩ := q7; exact ⟨σ7, H7, I7.unpinned, q7⟩
  | ret v => obtain ⟨x7, σ7, H7, I7, r7, q7⟩ := q7; exact ⟨x7, σ7, H7, I7.unpinned, r7, q7⟩
end
variable {tb : TS} {D : cQ} {Z : St} {H : Hp}
theorem Ay {K : Fg} {a : Addr} {xs : List V} {g : TG} (Pv : Nat -> St -> Hp -> Prop) (h0 : Pv 0 Z H) (hl : ∀ i Z H, i <= xs.length -> Pv i Z H -> br K H a xs)
  (hs : ∀ i x Z H, xs[i]? = some x -> Pv i Z H -> g x Z H λ σ2 H2 => tb { D with nx := Pv (i + 1), ct := Pv (i + 1), bk := D.nx } σ2 H2) (hd : ∀ Z H, Pv xs.length Z H -> D.nx Z H) :
  ∃ W : Nat -> Nat -> St -> Hp -> Prop, (∃ m, W 0 m Z H) /\ ∀ i m Z H, W i m Z H ->
   ((FP K a).stop i H /\ D.nx Z H) ∨ ((FP K a).go i H /\ ∃ N : St -> Hp -> Prop, (∀ σ' H', N σ' H' -> ∃ m', m' < m /\ W (i + 1) m' σ' H') /\ ∀ x H', (FP K a).yld i H x H' -> g x Z H' λ σ2 H2 => tb { D with nx := N, ct := N, bk := D.nx } σ2 H2) := by
 refine ⟨λ i m Z H => m = xs.length - i /\ i <= xs.length /\ Pv i Z H, ⟨xs.length, by simp, nW _, h0⟩, ?_⟩
 rintro i m Z H ⟨rfl, hi, p⟩
 have q := hl i Z H hi p
 by_cases hlt : i < xs.length
 ·refine .inr ⟨⟨xs, xs[i], q, by simp [hlt]⟩, Pv (i + 1), λ σ' H' p' => ⟨xs.length - (i + 1), by omega, rfl, hlt, p'⟩, λ x H' y => ?_⟩
  obtain ⟨e, y⟩ := y
  subst e
  exact hs i x Z _ (y xs q) p
 ·have e : i = xs.length := by omega
  subst e
  exact .inl ⟨⟨xs, q, eT _⟩, hd Z H p⟩
theorem yo {lo : Int} {n : Nat} {g : TG} (Pv : Nat -> St -> Hp -> Prop) (h0 : Pv 0 Z H)
  (hs : ∀ i Z H, i < n -> Pv i Z H -> g (.int (lo + i)) Z H λ σ2 H2 => tb { D with nx := Pv (i + 1), ct := Pv (i + 1), bk := D.nx } σ2 H2) (hd : ∀ Z H, Pv n Z H -> D.nx Z H) :
  ∃ W : Nat -> Nat -> St -> Hp -> Prop, (∃ m, W 0 m Z H) /\ ∀ i m Z H, W i m Z H ->
   ((BM lo n).stop i H /\ D.nx Z H) ∨ ((BM lo n).go i H /\ ∃ N : St -> Hp -> Prop, (∀ σ' H', N σ' H' -> ∃ m', m' < m /\ W (i + 1) m' σ' H') /\ ∀ x H', (BM lo n).yld i H x H' -> g x Z H' λ σ2 H2 => tb { D with nx := N, ct := N, bk := D.nx } σ2 H2) := by
 refine ⟨λ i m Z H => m = n - i /\ i <= n /\ Pv i Z H, ⟨n, by simp, nW _, h0⟩, ?_⟩
 rintro i m Z H ⟨rfl, hi, p⟩
 by_cases hlt : i < n
 ·refine .inr ⟨hlt, Pv (i + 1), λ σ' H' p' => ⟨n - (i + 1), by omega, rfl, hlt, p'⟩, λ x H' y => ?_⟩
  obtain ⟨e, y⟩ := y
  subst e y
  exact hs i Z _ hlt p
 ·have e : i = n := by omega
  subst e
  exact .inl ⟨eT _, hd Z H p⟩
theorem jg {c : TT} (Pv : St -> Hp -> Prop) (μ : St -> Hp -> Nat) (h0 : Pv Z H)
  (hs : ∀ Z H, Pv Z H -> c Z H λ b H1 => if b = true then tb { D with nx := λ σ' H' => Pv σ' H' /\ μ σ' H' < μ Z H, ct := λ σ' H' => Pv σ' H' /\ μ σ' H' < μ Z H, bk := D.nx } Z H1 else D.nx Z H1)
  (mono : ∀ Z H Q Q', (∀ b H1, Q b H1 -> Q' b H1) -> c Z H Q -> c Z H Q') : yR c tb D Z H := by
 refine ⟨λ m Z H => m = μ Z H /\ Pv Z H, ⟨_, rfl, h0⟩, ?_⟩
 rintro m Z H ⟨rfl, p⟩
 refine mono Z H _ _ (λ b H1 q => ?_) (hs Z H p)
 cases b with
 | true => exact ⟨_, λ σ' H' ⟨p', l⟩ => ⟨_, l, rfl, p'⟩, q⟩
 | false => exact q
noncomputable abbrev R2 := V -> V -> Hp -> VK -> Prop
noncomputable def gH (X : Cx) (f : Value -> Value -> Sem Value) (r : R2) : Prop :=
 ∀ (pins : Pn) (s : Shared) (Z : St) (H : Hp) (x y : V) (v u : Value) (Q : VK), ay X pins Z H s -> aU x v -> aU y u -> r x y H Q ->
  wpAny (model X.prog X.w) X.A (f v u) (EP X pins Z Q) X.xe s
noncomputable def KY (X : Cx) (f : Value -> Sem Value) (r : V -> Hp -> VK -> Prop) : Prop :=
 ∀ (pins : Pn) (s : Shared) (Z : St) (H : Hp) (x : V) (v : Value) (Q : VK), ay X pins Z H s -> aU x v -> r x H Q ->
  wpAny (model X.prog X.w) X.A (f v) (EP X pins Z Q) X.xe s
noncomputable def dE (X : Cx) (f : Value) (r : List V -> Hp -> VK -> Prop) : Prop :=
 ∀ (pins : Pn) (s : Shared) (Z : St) (H : Hp) (xs : List V) (us : List Value) (Q : VK), ay X pins Z H s -> aL xs us -> r xs H Q ->
  wpAny (model X.prog X.w) X.A (call f us) (EP X pins Z Q) X.xe s
noncomputable def Lh (X : Cx) (r : V -> Hp -> (Bool -> Hp -> Prop) -> Prop) : Prop :=
 ∀ (pins : Pn) (s : Shared) (Z : St) (H : Hp) (x : V) (v : Value) (Q : Bool -> Hp -> Prop), ay X pins Z H s -> aU x v -> r x H Q ->
  wpAny (model X.prog X.w) X.A (truthy v) (TP X pins Z Q) X.xe s
noncomputable def AA (r : R2) (ta tb : TE) : TE := λ Z H Q => ta Z H λ x H1 => tb Z H1 λ y H2 => r x y H2 Q
noncomputable def Li (r : V -> Hp -> VK -> Prop) (ta : TE) : TE := λ Z H Q => ta Z H λ x H1 => r x H1 Q
noncomputable def rI (C : Int -> Int -> Prop) (g : Int -> Int -> V) : R2 := λ x y H Q => ∃ i j, x = .int i /\ y = .int j /\ C i j /\ Q (g i j) H
noncomputable def yH (g : Int -> Int -> V) : R2 := λ x y H Q => ∃ i j, x = .int i /\ y = .int j /\ Q (g i j) H
noncomputable def rU (g : Int -> V) : V -> Hp -> VK -> Prop := λ x H Q => ∃ i, x = .int i /\ Q (g i) H
section
variable {X : Cx} {a b c : Expr} {ta tb tc : TE} {pos : Pos}
theorem Ga (ha : PE X a ta) (hb : PE X b tb) {pins : Pn} {s : Shared} {Z : St} {H : Hp} {R : V -> V -> Hp -> Prop} (I : ay X pins Z H s)
  (h : ta Z H λ x H1 => tb Z H1 λ y H2 => R x y H2) {Q : Value -> Shared -> Prop} {f : Value -> Value -> Sem Value}
  (hf : ∀ v u s2 x y H2, ay X pins Z H2 s2 -> aU x v -> aU y u -> R x y H2 -> wpAny (model X.prog X.w) X.A (f v u) Q X.xe s2) :
  wpAny (model X.prog X.w) X.A (eval a X.env) (λ v s₁ => wpAny (model X.prog X.w) X.A (eval b X.env) (λ u s₂ => wpAny (model X.prog X.w) X.A (f v u) Q X.xe s₂) X.xe s₁) X.xe s := by
 refine bO (ha pins s Z H _ I h) λ v s1 ⟨x, H1, I1, r1, q1⟩ => ?_
 refine bO (hb pins s1 Z H1 _ I1 q1) λ u s2 ⟨y, H2, I2, r2, q2⟩ => ?_
 exact hf v u s2 x y H2 I2 r1 r2 q2
theorem ac {op : Operator} {r : R2} (ho : gH X (binaryOp op) r) (ha : PE X a ta) (hb : PE X b tb) : PE X (.BinOp a op b pos) (AA r ta tb) := by
 intro pins s Z H Q I h
 exact wpAny_BinOp (Ga ha hb I h λ v u s2 x y H2 I2 rx ry q => ho pins s2 Z H2 x y v u Q I2 rx ry q)
theorem kq {op : UnaryOp} {r : V -> Hp -> VK -> Prop} (ho : KY X (unaryOp op) r) (ha : PE X a ta) : PE X (.UnaryOp op a pos) (Li r ta) := by
 intro pins s Z H Q I h
 exact UnaryOp_ (bO (ha pins s Z H _ I h) λ v s1 ⟨x, H1, I1, r1, q1⟩ => ho pins s1 Z H1 x v Q I1 r1 q1)
theorem Ib {f : Value -> Value -> Sem Value} {C : Int -> Int -> Prop} {g : Int -> Int -> Int}
  (rule : ∀ (i j : Int) (t u : Tok) (s : Shared) (Q : Value -> Shared -> Prop) (E : Value -> Shared -> Prop), C i j -> Q (.int (g i j) s.toks) { s with toks := s.toks + 1 } -> wpAny (model X.prog X.w) X.A (f (.int i t) (.int j u)) Q E s) :
  gH X f (rI C λ i j => .int (g i j)) := by
 intro pins s Z H x y v u Q I rx ry h
 obtain ⟨i, j, rfl, rfl, hc, q⟩ := h
 obtain ⟨t, rfl⟩ := rx
 obtain ⟨t', rfl⟩ := ry
 exact rule i j t t' s _ _ hc ⟨.int (g i j), H, I.tok _, ⟨_, rfl⟩, q⟩
theorem Jh {f : Value -> Value -> Sem Value} {g : Int -> Int -> Int}
  (rule : ∀ (i j : Int) (t u : Tok) (s : Shared) (Q : Value -> Shared -> Prop) (E : Value -> Shared -> Prop), Q (.int (g i j) s.toks) { s with toks := s.toks + 1 } -> wpAny (model X.prog X.w) X.A (f (.int i t) (.int j u)) Q E s) :
  gH X f (yH λ i j => .int (g i j)) := by
 intro pins s Z H x y v u Q I rx ry h
 obtain ⟨i, j, rfl, rfl, q⟩ := h
 obtain ⟨t, rfl⟩ := rx
 obtain ⟨t', rfl⟩ := ry
 exact rule i j t t' s _ _ ⟨.int (g i j), H, I.tok _, ⟨_, rfl⟩, q⟩
variable {f : Value -> Value -> Sem Value}
theorem DL {g : Int -> Int -> Bool}
  (rule : ∀ (i j : Int) (t u : Tok) (s : Shared) (Q : Value -> Shared -> Prop) (E : Value -> Shared -> Prop), Q (.bool (g i j)) s -> wpAny (model X.prog X.w) X.A (f (.int i t) (.int j u)) Q E s) :
  gH X f (yH λ i j => .bl (g i j)) := by
 intro pins s Z H x y v u Q I rx ry h
 obtain ⟨i, j, rfl, rfl, q⟩ := h
 obtain ⟨t, rfl⟩ := rx
 obtain ⟨t', rfl⟩ := ry
 exact rule i j t t' s _ _ ⟨.bl (g i j), H, I, rfl, q⟩
noncomputable def Mh (i j : Int) : Prop := 0 <= j /\ j <= 1000000 /\ i.natAbs < 2 ^ 64
noncomputable def Fw (i j : Int) : Prop := (-(2 ^ 64) < i /\ i < 2 ^ 64) ∨ (-(2 ^ 64) < j /\ j < 2 ^ 64)
theorem Fw.ok {i j : Int} (h : Fw i j) : IntMulOk i j := by
 rcases h with ⟨h1, h2⟩ | ⟨h1, h2⟩
 ·exact .of_left (intBits_le_64 h1 h2)
 ·exact .of_right (intBits_le_64 h1 h2)
theorem aO : gH X (binaryOp .Add) (yH λ i j => .int (i + j)) := Jh λ _ _ _ _ _ _ _ q => add_int q
theorem cN : gH X (binaryOp .Sub) (yH λ i j => .int (i - j)) := Jh λ _ _ _ _ _ _ _ q => sub_int q
theorem dL : gH X (binaryOp .Mult) (rI Fw λ i j => .int (i * j)) := Ib λ _ _ _ _ _ _ _ hc q => mul_int q hc.ok
theorem aX : gH X (binaryOp .Mod) (rI (λ _ j => 0 < j) λ i j => .int (i % j)) := Ib λ i j _ _ _ _ _ hc q => by
 have h1 : (0 : Int) < j := hc
 exact mod_int' (by omega) (by rw [Int.fmod_eq_emod_of_nonneg i (by omega)]; exact q)
theorem dw : gH X (binaryOp .Pow) (rI Mh λ i j => .int (i ^ j.toNat)) := Ib λ _ _ _ _ _ _ _ hc q => pow_int_small hc.1 hc.2.1 hc.2.2 q
theorem unI {f : Value -> Sem Value} {g : Int -> Int}
  (rule : ∀ (i : Int) (t : Tok) (s : Shared) (Q : Value -> Shared -> Prop) (E : Value -> Shared -> Prop), Q (.int (g i) s.toks) { s with toks := s.toks + 1 } -> wpAny (model X.prog X.w) X.A (f (.int i t)) Q E s) :
  KY X f (rU λ i => .int (g i)) := by
 intro pins s Z H x v Q I rx h
 obtain ⟨i, rfl, q⟩ := h
 obtain ⟨t, rfl⟩ := rx
 exact rule i t s _ _ ⟨.int (g i), H, I.tok _, ⟨_, rfl⟩, q⟩
theorem fU : KY X (unaryOp .USub) (rU λ i => .int (-i)) := unI λ _ _ _ _ _ q => neg_int q
end
noncomputable def JR : V -> V -> Bool
 | .non, .non => true | .non, .int _ => true | .int _, .non => true | .non, .bl _ => true | .bl _, .non => true | .non, .str _ => true | .str _, .non => true
 | .int _, .int _ => true | .bl _, .bl _ => true | .str _, .str _ => true | .byt _, .byt _ => true
 | .int _, .str _ => true | .str _, .int _ => true | .bl _, .str _ => true | .str _, .bl _ => true
 | _, _ => false
noncomputable def rEq : R2 := λ x y H Q => JR x y = true /\ Q (.bl (decide (x = y))) H
noncomputable def rNe : R2 := λ x y H Q => JR x y = true /\ Q (.bl (!decide (x = y))) H
theorem vZ {i j : Int} : decide (V.int i = V.int j) = (i == j) := by
 rw [Bool.eq_iff_iff]
 simp
theorem zG {i j : Bool} : decide (V.bl i = V.bl j) = (i == j) := by
 rw [Bool.eq_iff_iff]
 simp
theorem wY {i j : Str} : decide (V.str i = V.str j) = (i == j) := by
 rw [Bool.eq_iff_iff]
 simp
theorem xa {i j : Array UInt8} : decide (V.byt i = V.byt j) = (i.toList == j.toList) := by
 rw [Bool.eq_iff_iff]
 cases i
 cases j
 simp
section
variable {X : Cx} {a b c : Expr} {ta tb tc : TE} {pos : Pos}
theorem aR {pins : Pn} {Z : St} {H : Hp} {s : Shared} {Q : VK} {k k' : Bool} (I : ay X pins Z H s) (q : Q (.bl k) H) (e : k = k') : EP X pins Z Q (.bool k') s := by
 subst e
 exact ⟨.bl k, H, I, rfl, q⟩
theorem aT : gH X (compareOp .Eq) rEq := by
 intro pins s Z H x y v u Q I rx ry h
 obtain ⟨hs, q⟩ := h
 cases x with
 | non =>
  cases rx
  cases y with
  | non => cases ry; exact PySem.EqNone.eq_none_none (aR I q (by simp))
  | bl j => cases ry; exact PySem.EqNone.eq_none_bool (aR I q (by simp))
  | int j => obtain ⟨t', rfl⟩ := ry; exact PySem.EqNone.eq_none_int (aR I q (by simp))
  | str j => obtain ⟨t', rfl⟩ := ry; exact PySem.EqNone.eq_none_str (aR I q (by simp))
  | _ => exact absurd (show false = true from hs) ff
 | bl i =>
  cases rx
  cases y with
  | non => cases ry; exact PySem.EqNone.eq_bool_none (aR I q (by simp))
  | bl j => cases ry; exact eq_bool (aR I q zG)
  | str j => obtain ⟨t', rfl⟩ := ry; exact PySem.EqMixed.eq_bool_str (aR I q (by simp))
  | _ => exact absurd (show false = true from hs) ff
 | int i =>
  obtain ⟨t, rfl⟩ := rx
  cases y with
  | non => cases ry; exact PySem.EqNone.eq_int_none (aR I q (by simp))
  | int j => obtain ⟨t', rfl⟩ := ry; exact eq_int (aR I q vZ)
  | str j => obtain ⟨t', rfl⟩ := ry; exact PySem.EqMixed.eq_int_str (aR I q (by simp))
  | _ => exact absurd (show false = true from hs) ff
 | str i =>
  obtain ⟨t, rfl⟩ := rx
  cases y with
  | non => cases ry; exact PySem.EqNone.eq_str_none (aR I q (by simp))
  | bl j => cases ry; exact PySem.EqMixed.eq_str_bool (aR I q (by simp))
  | int j => obtain ⟨t', rfl⟩ := ry; exact PySem.EqMixed.eq_str_int (aR I q (by simp))
  | str j => obtain ⟨t', rfl⟩ := ry; exact eq_str (aR I q wY)
  | _ => exact absurd (show false = true from hs) ff
 | byt i =>
  obtain ⟨t, rfl⟩ := rx
  cases y with
  | byt j => obtain ⟨t', rfl⟩ := ry; exact PySem.W.eq_bytes (aR I q xa)
  | _ => exact absurd (show false = true from hs) ff
 | _ => cases y <;> exact absurd (show false = true from hs) ff
theorem si : gH X (compareOp .NotEq) rNe := by
 intro pins s Z H x y v u Q I rx ry h
 obtain ⟨hs, q⟩ := h
 cases x with
 | non =>
  cases rx
  cases y with
  | non => cases ry; exact PySem.EqNone.ne_none_none (aR I q (by simp))
  | bl j => cases ry; exact PySem.EqNone.ne_none_bool (aR I q (by simp))
  | int j => obtain ⟨t', rfl⟩ := ry; exact PySem.EqNone.ne_none_int (aR I q (by simp))
  | str j => obtain ⟨t', rfl⟩ := ry; exact PySem.EqNone.ne_none_str (aR I q (by simp))
  | _ => exact absurd (show false = true from hs) ff
 | bl i =>
  cases rx
  cases y with
  | non => cases ry; exact PySem.EqNone.ne_bool_none (aR I q (by simp))
  | bl j => cases ry; exact ne_bool (aR I q (congrArg not zG))
  | str j => obtain ⟨t', rfl⟩ := ry; exact PySem.EqMixed.ne_bool_str (aR I q (by simp))
  | _ => exact absurd (show false = true from hs) ff
 | int i =>
  obtain ⟨t, rfl⟩ := rx
  cases y with
  | non => cases ry; exact PySem.EqNone.ne_int_none (aR I q (by simp))
  | int j => obtain ⟨t', rfl⟩ := ry; exact ne_int (aR I q (congrArg not vZ))
  | str j => obtain ⟨t', rfl⟩ := ry; exact PySem.EqMixed.ne_int_str (aR I q (by simp))
  | _ => exact absurd (show false = true from hs) ff
 | str i =>
  obtain ⟨t, rfl⟩ := rx
  cases y with
  | non => cases ry; exact PySem.EqNone.ne_str_none (aR I q (by simp))
  | bl j => cases ry; exact PySem.EqMixed.ne_str_bool (aR I q (by simp))
  | int j => obtain ⟨t', rfl⟩ := ry; exact PySem.EqMixed.ne_str_int (aR I q (by simp))
  | str j => obtain ⟨t', rfl⟩ := ry; exact ne_str (aR I q (congrArg not wY))
  | _ => exact absurd (show false = true from hs) ff
 | byt i =>
  obtain ⟨t, rfl⟩ := rx
  cases y with
  | byt j => obtain ⟨t', rfl⟩ := ry; exact PySem.W.ne_bytes (aR I q (congrArg not xa))
  | _ => exact absurd (show false = true from hs) ff
 | _ => cases y <;> exact absurd (show false = true from hs) ff
theorem jj : gH X (compareOp .Lt) (yH λ i j => .bl (decide (i < j))) := DL λ _ _ _ _ _ _ _ q => lt_int q
theorem wo : gH X (compareOp .LtE) (yH λ i j => .bl (decide (i <= j))) := DL λ _ _ _ _ _ _ _ q => le_int q
theorem Eu : gH X (compareOp .Gt) (yH λ i j => .bl (decide (j < i))) := DL λ _ _ _ _ _ _ _ q => gt_int q
theorem zJ : gH X (compareOp .GtE) (yH λ i j => .bl (decide (j <= i))) := DL λ _ _ _ _ _ _ _ q => ge_int q
theorem HG : gH X (compareOp .Is) (λ x y H Q => y = .non /\ Q (.bl (decide (x = .non))) H) := by
 intro pins s Z H x y v u Q I rx ry h
 obtain ⟨rfl, q⟩ := h
 cases ry
 refine is_none_gen (aR I q ?_)
 cases x <;> first
  | (cases rx; rfl)
  | (obtain ⟨t, rfl⟩ := rx; rfl)
theorem DX : gH X (compareOp .IsNot) (λ x y H Q => y = .non /\ Q (.bl (!decide (x = .non))) H) := by
 intro pins s Z H x y v u Q I rx ry h
 obtain ⟨rfl, q⟩ := h
 cases ry
 refine isnot_none_gen (aR I q ?_)
 cases x <;> first
  | (cases rx; rfl)
  | (obtain ⟨t, rfl⟩ := rx; rfl)
theorem ao (b : Expr) {op : CmpOp} (h : op ≠ .In := by decide) (h2 : op ≠ .NotIn := by decide) : behindInMarks op b = false := by
 have e1 : (op == CmpOp.In) = false := by cases op <;> first | rfl | exact absurd rfl h
 have e2 : (op == CmpOp.NotIn) = false := by cases op <;> first | rfl | exact absurd rfl h2
 cases b <;> simp [behindInMarks, e1, e2]
variable {op : CmpOp}
theorem iJ {r : R2} (ho : gH X (compareOp op) r) (ha : PE X a ta) (hb : PE X b tb) (hm : behindInMarks op b = false) : PE X (.Compare a [op] [b] pos) (AA r ta tb) := by
 intro pins s Z H Q I h
 exact wpAny_Compare1 (Ga ha hb I h λ v u s2 x y H2 I2 rx ry q => ho pins s2 Z H2 x y v u Q I2 rx ry q) hm
noncomputable def wk (t : TE) : TT := λ Z H Q => t Z H λ x H' => ∃ k, x = .bl k /\ Q k H'
theorem ak {r : R2} (ho : gH X (compareOp op) r) (ha : PE X a ta) (hb : PE X b tb) (hm : behindInMarks op b = false) : PT X (.Compare a [op] [b] pos) (wk (AA r ta tb)) := by
 intro pins s Z H Q I h
 refine wpAny_isTrue_Compare1 (bO (ha pins s Z H _ I h) λ v s1 ⟨x, H1, I1, r1, q1⟩ => bO (hb pins s1 Z H1 _ I1 q1) λ u s2 ⟨y, H2, I2, r2, q2⟩ =>
  bO (ho pins s2 Z H2 x y v u _ I2 r1 r2 q2) λ c s3 ⟨z, H3, I3, r3, k, e, q3⟩ => ?_) hm
 subst e
 cases r3
 exact wpAny_truthy_bool ⟨H3, I3, q3⟩
noncomputable def vj (r r' : R2) (ta tb tc : TE) : TE := λ Z H Q => ta Z H λ x H1 => tb Z H1 λ y H2 => r x y H2 λ z H3 => ∃ k, z = .bl k /\
 (if k = true then tc Z H3 λ w' H4 => r' y w' H4 Q else Q (.bl false) H3)
theorem yG {op' : CmpOp} {r r' : R2} (ho : gH X (compareOp op) r) (ho' : gH X (compareOp op') r') (ha : PE X a ta) (hb : PE X b tb) (hc : PE X c tc)
  (hm : lastMarks [op, op'] [b, c] = false := by with_unfolding_all rfl) : PT X (.Compare a [op, op'] [b, c] pos) (wk (vj r r' ta tb tc)) := by
 intro pins s Z H Q I h
 refine isTrue_chain (bO (ha pins s Z H _ I h) λ v s1 ⟨x, H1, I1, r1, q1⟩ => test_link (bO (hb pins s1 Z H1 _ I1 q1) λ u s2 ⟨y, H2, I2, r2, q2⟩ =>
  bO (ho pins s2 Z H2 x y v u _ I2 r1 r2 q2) λ d s3 ⟨z, H3, I3, r3, k, e, q3⟩ => ?_)) hm
 subst e
 cases r3
 refine wpAny_truthy_bool ?_
 cases k with
 | false =>
  obtain ⟨k', e', q'⟩ := q3
  cases e'
  exact ite_ff ⟨H3, I3, q'⟩
 | true =>
  refine ite_tt (test_last (bO (hc pins s3 Z H3 _ I3 q3) λ w' s4 ⟨z', H4, I4, r4, q4⟩ => bO (ho' pins s4 Z H4 y z' u w' _ I4 r2 r4 q4) λ d' s5 ⟨z2, H5, I5, r5, k2, e2, q5⟩ => ?_))
  subst e2
  cases r5
  exact wpAny_truthy_bool ⟨H5, I5, q5⟩
noncomputable def GB (K : Fg) (x : V) (H : Hp) (k : Bool) : Prop :=
 match x with
 | .non => k = false
 | .bl b => k = b
 | .int i => k = (i != 0)
 | .str y => y.length <= sizeLine /\ k = ((y.length : Int) != 0)
 | .byt y => y.size <= sizeLine /\ k = ((y.size : Int) != 0)
 | .ref p => (∃ xs, br K H p xs /\ k = !xs.isEmpty) ∨ (∃ xs, bI K H p xs /\ k = !xs.isEmpty) ∨ ∃ kvs, H p = some (.dK kvs) /\ k = !kvs.isEmpty
 | _ => False
theorem vc {κ : Type} {kvs : List (κ × V)} {vs : List (κ × Value)} (r : KV kvs vs) : (!vs.isEmpty) = !kvs.isEmpty := by
 cases r <;> rfl
theorem lI {xs : List V} {its : List Value} (r : aL xs its) : (!its.toArray.isEmpty) = !xs.isEmpty := by
 cases r <;> simp
theorem jZ : (sizeLine : Nat) < 2 ^ 63 := by rw [sizeLine_eq]; decide
theorem Fv : Lh X (λ x H Q => ∃ k, GB X.K x H k /\ Q k H) := by
 intro pins s Z H x v Q I rx h
 obtain ⟨k, e, q⟩ := h
 have hl := jZ
 have hs : sizeLine = 16777216 := sizeLine_eq
 cases x with
 | non =>
  cases rx
  have e' : k = false := e
  subst e'
  exact truthy_none ⟨H, I, q⟩
 | bl b =>
  cases rx
  have e' : k = b := e
  subst e'
  exact wpAny_truthy_bool ⟨H, I, q⟩
 | int i =>
  obtain ⟨t, rfl⟩ := rx
  have e' : k = (i != 0) := e
  subst e'
  exact PySem.P.truthy_int ⟨H, I, q⟩
 | str y =>
  obtain ⟨t, rfl⟩ := rx
  obtain ⟨hy, e'⟩ : y.length <= sizeLine /\ k = ((y.length : Int) != 0) := e
  subst e'
  exact PySem.P.truthy_str (by omega) ⟨H, I.tok _, q⟩
 | byt y =>
  obtain ⟨t, rfl⟩ := rx
  obtain ⟨hy, e'⟩ : y.size <= sizeLine /\ k = ((y.size : Int) != 0) := e
  subst e'
  exact PySem.W.truthy_bytes (by omega) ⟨H, I.tok _, q⟩
 | ref p =>
  cases rx
  have e' : (∃ xs, br X.K H p xs /\ k = !xs.isEmpty) ∨ (∃ xs, bI X.K H p xs /\ k = !xs.isEmpty) ∨ ∃ kvs, H p = some (.dK kvs) /\ k = !kvs.isEmpty := e
  rcases e' with ⟨xs, hx, e'⟩ | ⟨xs, hx, e'⟩ | ⟨kvs, hx, e'⟩
  ·subst e'
   obtain ⟨its, r, pl, hz⟩ := I.list hx
   have hlen := r.length
   exact wpAny_truthy_list pl.isList (by simp only [i3]; omega) ⟨H, I.tok _, by rw [lI r]; exact q⟩
  ·subst e'
   obtain ⟨its, r, pl, hz⟩ := I.tuple hx
   have hlen := r.length
   exact truthy_tuple pl (by simp only [i3]; omega) ⟨H, I.tok _, by rw [lI r]; exact q⟩
  ·subst e'
   obtain ⟨hz, hS, vs, r, m⟩ : kvs.length <= sizeLine /\ (p == sysModules) = false /\ ∃ vs, KV kvs vs /\ s.heap.DictOf (jt X.prog X.w) p vs := I.hok p _ hx
   have hlen : kvs.length = vs.length := Paired.length r
   exact wpAny_truthy_dict hS m (by omega) ⟨H, I.tok _, by rw [vc r]; exact q⟩
 | _ => exact (show False from e).elim
theorem rJ (ha : PE X a ta) (he : ∀ whole, isTrue a X.env whole = (do let v <- whole; standAt a.pos; holding [v] (truthy v))) :
  PT X a (λ Z H Q => ta Z H λ x H' => ∃ k, GB X.K x H' k /\ Q k H') := by
 intro pins s Z H Q I h
 exact isTrue_plain (bO (ha pins s Z H _ I h) λ v s1 ⟨x, H1, I1, r1, q1⟩ => Fv pins s1 Z H1 x v Q I1 r1 q1) (he _)
theorem uk : gH X (binaryOp .Add) (λ x y H Q => ∃ i j, x = .str i /\ y = .str j /\ i.length + j.length <= sizeLine /\ Q (.str (i ++ j)) H) := by
 intro pins s Z H x y v u Q I rx ry h
 obtain ⟨i, j, rfl, rfl, hz, q⟩ := h
 obtain ⟨t, rfl⟩ := rx
 obtain ⟨t', rfl⟩ := ry
 exact add_str (λ t' tk => ⟨.str (i ++ j), H, I.tok _, ⟨_, rfl⟩, q⟩) hz
theorem qT {x : V} {us : List Value} (r : aL [x] us) : ∃ u, us = [u] /\ aU x u := by
 cases r with
 | cons r1 r2 => cases r2; exact ⟨_, rfl, r1⟩
theorem EE {x y : V} {us : List Value} (r : aL [x, y] us) : ∃ u w', us = [u, w'] /\ aU x u /\ aU y w' := by
 cases r with
 | cons r1 r2 =>
  cases r2 with
  | cons r3 r4 => cases r4; exact ⟨_, _, rfl, r1, r3⟩
theorem dO : dE X (.builtin "abs") (λ xs H Q => ∃ i, xs = [.int i] /\ Q (.int (if i < 0 then -i else i)) H) := by
 intro pins s Z H xs us Q I r h
 obtain ⟨i, rfl, q⟩ := h
 obtain ⟨u, rfl, t, rfl⟩ := qT r
 exact call_abs_int λ u tk => ⟨.int (if i < 0 then -i else i), H, I.tok _, ⟨_, rfl⟩, q⟩
theorem nE : dE X (.type "int") (λ xs H Q => (∃ i, xs = [.int i] /\ Q (.int i) H) ∨ ∃ k, xs = [.bl k] /\ Q (.int (if k then 1 else 0)) H) := by
 intro pins s Z H xs us Q I r h
 rcases h with ⟨i, rfl, q⟩ | ⟨k, rfl, q⟩
 ·obtain ⟨u, rfl, t, rfl⟩ := qT r
  exact call_int_int ⟨.int i, H, I, ⟨_, rfl⟩, q⟩
 ·obtain ⟨u, rfl, r1⟩ := qT r
  cases r1
  exact call_int_bool ⟨.int (if k then 1 else 0), H, I.tok _, ⟨_, rfl⟩, q⟩
end
structure cP (k : Nat) (A : Around) : Prop where
 hd : A.handled = none
 dp : A.depth + 3 * k + 5 < recursionLimit
 un : A.units + 16 * k + 200 < cLine
variable {k : Nat} {A : Around}
theorem cP.mono {j : Nat} (r : cP k A) (h : j <= k) : cP j A := ⟨r.hd, by have := r.dp; omega, by have := r.un; omega⟩
theorem cP.deeper (r : cP (k + 1) A) (env : Env) : cP k (A.deeper env) :=
 ⟨r.hd, by have := r.dp; show A.depth + 1 + 3 * k + 5 < _; omega, by have := r.un; show A.units + 3 + 16 * k + 200 < _; omega⟩
theorem cP.depth (r : cP k A) : A.depth < recursionLimit := by have := r.dp; omega
noncomputable def tNil : TA := λ _ H Q => Q [] H
noncomputable def bq (ta : TE) (tr : TA) : TA := λ Z H Q => ta Z H λ x H1 => tr Z H1 λ xs H2 => Q (x :: xs) H2
section
variable {X : Cx} {e : Expr} {es : List Expr} {te : TE} {t : TA} {pos : Pos}
theorem aA : PA X [] tNil := λ _ _ _ _ H Q I h => Calls.spliced_nil ⟨[], H, I, .nil, h⟩
theorem ae (ha : PE X e te) (hr : PA X es t) (hs : starEach (e :: es) X.env = (false, eval e X.env) :: starEach es X.env := by rfl) : PA X (e :: es) (bq te t) := by
 intro pos pins s Z H Q I h
 rw [hs]
 show wpAny _ _ (spliced ((false, eval e X.env) :: backTo pos (starEach es X.env))) _ _ s
 refine Calls.spliced_cons (bO (ha pins s Z H _ I h) λ u s1 ⟨x, H1, I1, r1, q1⟩ => ?_)
 exact bO (hr pos pins s1 Z H1 _ I1 q1) λ us s2 ⟨xs, H2, I2, r2, q2⟩ => ⟨x :: xs, H2, I2, .cons r1 r2, q2⟩
noncomputable def xq (t : TA) : TE := λ Z H Q => t Z H λ xs H1 => xs.length <= sizeLine /\ ∀ p, H1 p = none -> Q (.ref p) (upd H1 p (.tup xs))
noncomputable def DQ (t : TA) : TE := λ Z H Q => t Z H λ xs H1 => xs.length <= sizeLine /\ ∀ p, H1 p = none -> Q (.ref p) (upd H1 p (.lst xs))
theorem aI {x1} (h : PA X es t) : PE X (.Tuple es x1 pos) (xq t) := by
 intro pins s Z H Q I hq
 refine wpAny_Tuple_spliced (bO (h pos pins s Z H _ I hq) λ us s1 ⟨xs, H1, I1, r, z, q⟩ => ⟨by rw [<- r.length]; exact z, ?_⟩)
 have hf : H1 s1.heap.objs.size = none := I1.hok.fresh (eT _)
 refine ⟨.ref s1.heap.objs.size, upd H1 s1.heap.objs.size (.tup xs), I1.laid (t' := s1.toks) (λ b u e => cp _ e) (eT _) ?_, rfl, q _ hf⟩
 exact ⟨z, us, r, ⟨_, kH _ rfl, rfl, _, rfl⟩⟩
theorem aW (h : PA X es t) : PE X (.List es pos) (DQ t) := by
 intro pins s Z H Q I hq
 refine wpAny_List_spliced (bO (h pos pins s Z H _ I hq) λ us s1 ⟨xs, H1, I1, r, z, q⟩ => ⟨by rw [<- r.length]; exact z, ?_⟩)
 have hf : H1 s1.heap.objs.size = none := I1.hok.fresh (eT _)
 refine ⟨.ref s1.heap.objs.size, upd H1 s1.heap.objs.size (.lst xs), I1.laid (t' := s1.toks) (λ b u e => cp _ e) (eT _) ?_, rfl, q _ hf⟩
 exact ⟨z, us, 0, r, kH _ rfl⟩
end
noncomputable abbrev Sp := List V -> Hp -> VK -> XK -> Prop
noncomputable abbrev CXT := List Env -> Hp -> Shared -> XK -> Value -> Shared -> Prop
structure pX (P : Program) (w : World) (K : Fg) (mg : Str -> Option Value) (base : Heap) (A : Around) (outer : List Env) (s : Shared) (H : Hp) : Prop where
 frames : A.frames = some outer
 mod : Mod K mg base
 bs : ∀ b o, base.get? b = some o -> s.heap.get? b = some o /\ H b = none
 bsz : base.objs.size <= s.heap.objs.size
 funs : s.heap.FunFrames base outer
 frf : ∀ b ∈ fS outer, H b = none
 hok : iB P w H s.heap
 bare : AllBare s.gens
noncomputable def CE (outer : List Env) (P : Program) (w : World) (H : Hp) (s : Shared) (Q : VK) (u : Value) (s' : Shared) : Prop :=
 ∃ v H', s'.os = s.os /\ AllBare s'.gens /\ Un (fS outer) [] H H' s.heap s'.heap /\ iB P w H' s'.heap /\ aU v u /\ Q v H'
noncomputable def CR (CX : CXT) (outer : List Env) (P : Program) (w : World) (H : Hp) (s : Shared) (Q : VK) (E : XK) (r : Result) (s' : Shared) : Prop :=
 match r with
 | .ok (.ret u) => CE outer P w H s Q u s'
 | .ok _ => False
 | .error e => CX outer H s E e s'
structure cr (P : Program) (w : World) (K : Fg) (mg : Str -> Option Value) (base : Heap) (CX : CXT) (k : Nat) (f : Addr) (fd : FuncData) (ps : List Str) (sp : Sp) : Prop where
 len : ∀ vs H Q E, sp vs H Q E -> vs.length = ps.length
 run : ∀ (A : Around) (outer : List Env) (s : Shared) (H : Hp) (args : Args) (us : List Value) (vs : List V) (Q : VK) (E : XK), cP k A -> pX P w K mg base A outer s H -> BindsTo s fd args (ps.zip us) -> aL vs us -> sp vs H Q E ->
  codeAny (model P w) A (.call (.ref f) args) (CR CX outer P w H s Q E) s
variable {P : Program} {w : World} {K : Fg} {mg : Str -> Option Value} {base : Heap} {CX : CXT} {f : Addr} {ps : List Str}
theorem cr.imp {fd : FuncData} {sp sp' : Sp} (F : cr P w K mg base CX k f fd ps sp)
  (h : ∀ vs H Q E, sp' vs H Q E -> sp vs H Q E) : cr P w K mg base CX k f fd ps sp' :=
 ⟨λ vs H Q E q => F.len vs H Q E (h _ _ _ _ q), λ A outer s H args us vs Q E hr he hb hv hs => F.run A outer s H args us vs Q E hr he hb hv (h _ _ _ _ hs)⟩
theorem pX.in1 {outer : List Env} {s : Shared} {H : Hp} (e : pX P w K mg base A outer s H) :
  pX P w K mg base A.in1 outer s H := ⟨e.frames, e.mod, e.bs, e.bsz, e.funs, e.frf, e.hok, e.bare⟩
section
variable {X : Cx} {pins : Pn} {Z : St} {H : Hp} {s s' : Shared}
theorem ay.env0 (I : ay X pins Z H s) : pX X.prog X.w X.K X.mg X.base X.A X.stack s H :=
 ⟨I.ok.frames, I.ok.mod, I.bs, lS I.ok.bsz I.sz, I.stack, I.stkFree, I.hok, I.bare⟩
theorem ay.after {Q : VK} {u : Value} (I : ay X pins Z H s) (h : CE X.stack X.prog X.w H s Q u s') : EP X pins Z Q u s' := by
 obtain ⟨v, H', os, bare, un, hok, r, q⟩ := h
 obtain ⟨hh, g, d, t, os'⟩ := s'
 obtain rfl : os' = s.os := os
 exact ⟨v, H', I.call (h' := hh) (g' := g) (d' := d) (t' := t) (ch := []) un hok bare (λ b z => absurd z (by simp)), r, q⟩
end
noncomputable def dm (sp : Sp) (dvs : List V) (E : XK) (t : TA) : TE := λ Z H Q => t Z H λ vs H1 => sp (vs ++ dvs) H1 Q E
noncomputable def gy (K : Fg) (fd : FuncData) (ps : List Str) (ds : List Value) : Prop :=
 ∀ (s : Shared) (us : List Value), K.In s.heap -> (us ++ ds).length = ps.length -> BindsTo s fd ⟨us, []⟩ (ps.zip (us ++ ds))
theorem gy.all {fd : FuncData} (h : ∀ us : List Value, us.length = ps.length -> bindArgs fd ⟨us, []⟩ = pure (ps.zip us)) : gy K fd ps [] := λ s us _ hl => by
 rw [o7] at hl ⊢
 exact .of_eq (h us hl)
noncomputable def qM (CX : CXT) (X : Cx) (E : XK) : Prop := ∀ (pins : Pn) (Z : St) (H : Hp) (s : Shared) (e : Value) (s' : Shared), ay X pins Z H s -> CX X.stack H s E e s' -> X.xe e s'
section
variable {X : Cx} {CX : CXT} {k : Nat} {f C : Addr} {fd : FuncData} {ps : List Str} {sp : Sp} {dvs : List V} {ds : List Value} {E : XK} {x m : Str} {p pos apos : Pos} {e o : Expr} {es : List Expr} {ta : TE} {t : TA}
theorem FI {pins : Pn} {Z : St} {H : Hp} {s : Shared} {Q : VK} {us : List Value} {vs : List V} (F : cr X.prog X.w X.K X.mg X.base CX k f fd ps sp) (hr : cP k X.A) (hb : gy X.K fd ps ds) (hd : aL dvs ds) (hx : qM CX X E)
  (I : ay X pins Z H s) (r : aL vs us) (h : sp (vs ++ dvs) H Q E) : wpAny (model X.prog X.w) X.A (call (.ref f) us) (EP X pins Z Q) X.xe s := by
 have r2 : aL (vs ++ dvs) (us ++ ds) := r.append hd
 have hl : (us ++ ds).length = ps.length := by rw [<- r2.length]; exact F.len _ _ _ _ h
 refine wpAny_call (codeAny_mono (F.run X.A X.stack s H ⟨us, []⟩ (us ++ ds) (vs ++ dvs) Q E hr I.env0 (hb s us I.kIn hl) r2 h) λ r s' hq => ?_)
 cases r with
 | error e => exact hx pins Z H s e s' I hq
 | ok fl =>
  cases fl with
  | ret u => exact I.after hq
  | next => exact False.elim hq
  | brk => exact False.elim hq
  | cont => exact False.elim hq
theorem aZ (F : cr X.prog X.w X.K X.mg X.base CX k f fd ps sp) (hr : cP k X.A) (hg : Gl X x) (hm : X.mg x = some (.ref f)) (hk : PySem.W.keepIn X.K (.ref f) = true) (hb : gy X.K fd ps ds) (hd : aL dvs ds) (hx : qM CX X E)
  (ha : PA X (e :: es) t) (hdb : (x == ("__debug__" : Str)) = false := by decide) (he : starEach (e :: es) X.env = (false, eval e X.env) :: starEach es X.env := by rfl) (hpl : (backTo pos (starEach es X.env)).any (·.1) = false := by rfl) :
  PE X (.Call (.Name x p) (e :: es) [] pos) (dm sp dvs E t) := by
 intro pins s Z H Q I h
 refine wpAny_Call_Name_kw (qA I hg hm ?_ hdb)
 refine PySem.W.callWith_K (h₀ := X.base) I.ok.mod.kin hk (bO (ha pos pins s Z H _ I h) λ us s1 ⟨vs, H1, I1, r, q⟩ => ⟨I1.kIn, ?_⟩) he hpl
 exact FI F hr hb hd hx I1 r q
end
structure aw (N P : List Str) (sc : Scope) : Prop where
 kind : sc.kind = .function
 co : sc.isCoroutine = false
 gen : sc.isGenerator = false
 nd : N.Nodup
 pre : N.take P.length = P
 par : ∀ x ∈ P, sc.names.lookup x = some .local ∨ sc.names.lookup x = some .cell
 nofree : ∀ y ∈ sc.names, y.2 ≠ .free
variable {x : Str}
theorem nB {kindOf : Str -> Option NameKind} : ∀ {binds : List (Str × Value)} {m : Str -> Option Value}, (∀ v, (x, v) ∉ binds) -> bindL kindOf binds m x = m x
 | [], _, _ => rfl
 | (n, v) :: r, m, h => by
  unfold bindL
  rw [nB λ w hw => h w (j7 _ hw)]
  split
  ·have : x ≠ n := by rintro rfl; exact h v i9
   simp [this]
  ·rfl
theorem nU {kindOf : Str -> Option NameKind} : ∀ {binds : List (Str × Value)} {m : Str -> Option Value}, (∀ v, (x, v) ∉ binds) -> bindC kindOf binds m x = m x
 | [], _, _ => rfl
 | (n, v) :: r, m, h => by
  unfold bindC
  rw [nU λ w hw => h w (j7 _ hw)]
  split
  ·rfl
  ·have : x ≠ n := by rintro rfl; exact h v i9
   simp [this]
theorem oB {kindOf : Str -> Option NameKind} {x : Str} {v : Value} : ∀ {P : List Str} {vs : List Value} {i : Nat} {m : Str -> Option Value}, P.Nodup -> P[i]? = some x -> vs[i]? = some v -> kindOf x = some .local ->
  bindL kindOf (P.zip vs) m x = some v
 | [], _, _, _, _, h, _, _ => by simp at h
 | _ :: _, [], _, _, _, _, h, _ => by simp at h
 | p :: P, w :: vs, 0, m, nd, h1, h2, hk => by
  simp at h1 h2; subst h1; subst h2
  show bindL kindOf ((p, w) :: P.zip vs) m p = _
  unfold bindL
  rw [nB λ v hv => (nQ.mp nd).1 (List.of_mem_zip hv).1, h9 hk]
  simp
 | p :: P, w :: vs, i + 1, m, nd, h1, h2, hk => by
  show bindL kindOf ((p, w) :: P.zip vs) m x = _
  unfold bindL
  exact oB (i := i) (nQ.mp nd).2 (by simpa using h1) (by simpa using h2) hk
theorem ov {kindOf : Str -> Option NameKind} {x : Str} {v : Value} : ∀ {P : List Str} {vs : List Value} {i : Nat} {m : Str -> Option Value}, P.Nodup -> P[i]? = some x -> vs[i]? = some v -> kindOf x ≠ some .local ->
  bindC kindOf (P.zip vs) m x = some v
 | [], _, _, _, _, h, _, _ => by simp at h
 | _ :: _, [], _, _, _, _, h, _ => by simp at h
 | p :: P, w :: vs, 0, m, nd, h1, h2, hk => by
  simp at h1 h2; subst h1; subst h2
  show bindC kindOf ((p, w) :: P.zip vs) m p = _
  unfold bindC
  rw [nU λ v hv => (nQ.mp nd).1 (List.of_mem_zip hv).1, gV hk]
  simp
 | p :: P, w :: vs, i + 1, m, nd, h1, h2, hk => by
  show bindC kindOf ((p, w) :: P.zip vs) m x = _
  unfold bindC
  exact ov (i := i) (nQ.mp nd).2 (by simpa using h1) (by simpa using h2) hk
noncomputable def bN (N : List Str) (vs : List V) : St := vs.map some ++ List.replicate (N.length - vs.length) none
noncomputable def dH (CX : CXT) (P : Program) (w : World) (K : Fg) (mg : Str -> Option Value) (base : Heap) (N : List Str) (qual : Str) (scope : Scope) (f : Addr) (cd : Value) (A : Around) (outer : List Env) (s : Shared) (H : Hp) (E : XK) : Cx where
 prog := P
 w := w
 K := K
 mg := mg
 base := base
 A := A.deeper (envOfC qual scope s.heap.objs.size f cd)
 N := N
 s₀ := s
 H₀ := H
 env := envOfC qual scope s.heap.objs.size f cd
 outer := outer
 stack := envOfC qual scope s.heap.objs.size f cd :: outer
 ex := []
 calm := true
 fn := λ _ => true
 pn := []
 xe := λ e s' => wpAny (model P w) (A.deeper (envOfC qual scope s.heap.objs.size f cd)) (leaving (envOfC qual scope s.heap.objs.size f cd) e) (λ _ s'' => CX outer H s E e s'') (λ e' s'' => CX outer H s E e' s'') s'
theorem tz {sc : Scope} {n : Nat} (h : sc.names.lookup x = some .cell) : ∃ c, (cellsFrom n sc.names []).lookup x = some c := by
 have q := PySem.W.cellsFrom_some sc.names n [] (.inl h)
 exact Option.isSome_iff_exists.mp q
theorem xw {N : List Str} {qual : Str} {scope : Scope} {cd : Value} {outer : List Env} {s s1 : Shared} {H : Hp} {E : XK} {us : List Value} {vs : List V}
  (S : aw N ps scope) (hd : A.handled = none) (e0 : pX P w K mg base A outer s H) (hl : vs.length = ps.length) (r : aL vs us)
  (x : InCallC s s.heap.objs.size (bindL (envOfC qual scope s.heap.objs.size f cd).kindOf (ps.zip us) λ _ => none) (cellsFrom (s.heap.objs.size + 1) scope.names []) (bindC (envOfC qual scope s.heap.objs.size f cd).kindOf (ps.zip us) λ _ => none) s1) :
  ay (dH CX P w K mg base N qual scope f cd A outer s H E) [] (bN N vs) H s1 := by
 have hpl : ps.length <= N.length := by have := congrArg List.length S.pre; rw [List.length_take] at this; omega
 obtain ⟨h1, tk, rfl, hk⟩ := x.done
 have noA : ∀ b : Addr, b ∉ (dH CX P w K mg base N qual scope f cd A outer s H E).ex := λ b z => absurd (show b ∈ ([] : List Addr) from z) (by simp)
 refine ⟨⟨e0.mod, S.kind, rfl, rfl, eT _, λ y z c h1 h2 => ?_, λ y hy => ?_, λ y c _ h => ?_, λ _ => hd, Around.frames_deeper e0.frames, .inr ⟨rfl, rfl⟩, λ b z => absurd z (noA b), e0.bs, e0.bsz, λ b _ _ => noA b, λ b z => absurd z (noA b), e0.funs, e0.frf⟩,
  rfl, e0.bare, Un.kept hk, ⟨_, x.toInCall.ns, λ i y v h1 h2 h3 => ?_⟩, λ y c h => ⟨_, x.cell y c h⟩, e0.hok.fresh (eT _), λ y c h => ?_, λ p hp => absurd (show p ∈ ([] : Pn) from hp) (by simp), e0.hok.kept hk, ?_⟩
 ·exact name_of_addr x.apart (PySem.mem_of_lookup h1) (PySem.mem_of_lookup h2)
 ·have hy : scope.names.lookup y = some .cell ∨ scope.names.lookup y = some .free := hy
  rcases hy with hy | hy
  ·exact tz hy
  ·exact absurd rfl (S.nofree _ (PySem.mem_of_lookup hy))
 ·exact Nat.le_of_lt (x.above y c (PySem.mem_of_lookup h))
 ·have hi : i < vs.length := by
   unfold bN at h2
   by_cases hi : i < vs.length
   ·exact hi
   ·rw [rd (by simpa using hi)] at h2
    rw [List.getElem?_replicate] at h2
    split at h2 <;> cases h2
  have ha : vs[i]? = some v := by
   unfold bN at h2
   rw [List.getElem?_append_left (by simpa using hi), kT] at h2
   cases e : vs[i]? with
   | none => rw [e] at h2; cases h2
   | some a => rw [e] at h2; cases h2; rfl
  obtain ⟨u, hu, rv⟩ := r.get ha
  have hp : ps[i]? = some y := by
   rw [<- S.pre, List.getElem?_take_of_lt (by omega)]; exact h1
  have ndP : ps.Nodup := by rw [<- S.pre]; exact S.nd.sublist (List.take_sublist _ _)
  refine ⟨u, rv, ?_⟩
  rcases S.par y (i8 hp) with k | k
  ·exact .inl ⟨k, oB ndP hp hu k⟩
  ·obtain ⟨c, e⟩ := tz (n := s.heap.objs.size + 1) k
   refine .inr ⟨.inl k, c, e, ?_⟩
   have q := x.cell y c e
   rw [ov ndP hp hu (by show scope.names.lookup y ≠ _; rw [k]; decide)] at q
   exact q
 ·exact e0.hok.fresh (Nat.le_of_lt (x.above y c (PySem.mem_of_lookup h)))
 ·unfold bN
  show _ = N.length
  rw [fI, b9, q9]
  omega
theorem AS {name qual : Str} {params : Arguments} {body : List Stmt} {scope : Scope} {dV kV doc pm cdv ct oc : Value} {an od : Option Addr}
  {osl : Array (Option Value)} {N ps : List Str} {sp : Sp} (lk : K.lookup f = some ⟨oc, od, .func (PySem.W.fnOf name qual params body scope dV kV doc pm an cdv ct), osl⟩) (hcd : PySem.W.codeIn K cdv qual = true) (S : aw N ps scope)
  (len : ∀ vs H Q E, sp vs H Q E -> vs.length = ps.length)
  (hbody : ∀ (A : Around) (outer : List Env) (s : Shared) (H : Hp) (vs : List V) (Q : VK) (E : XK), cP k (A.deeper (envOfC qual scope s.heap.objs.size f cdv)) -> sp vs H Q E ->
   ∃ t, vv (dH CX P w K mg base N qual scope f cdv A outer s H E) body t /\ t { nx := λ _ H' => Q .non H', rt := Q } (bN N vs) H) :
  cr P w K mg base CX (k + 1) f (PySem.W.fnOf name qual params body scope dV kV doc pm an cdv ct) ps sp := by
 refine ⟨len, λ A outer s H args us vs Q E hr e0 hb r hsp => ?_⟩
 have hl := len _ _ _ _ hsp
 have KX : K.In s.heap := e0.mod.kin.keeps λ b o e => (e0.bs b o e).1
 have lim : s.heap.NoLimit := e0.mod.nolimit.keeps λ b o e => (e0.bs b o e).1
 have hkind : ∀ y ∈ ps.zip us, scope.names.lookup y.1 = some .local ∨ (scope.names.lookup y.1 = some .cell /\ ((cellsFrom (s.heap.objs.size + 1) scope.names []).lookup y.1).isSome = true) := λ ⟨n, v⟩ hy => by
  rcases S.par n (List.of_mem_zip hy).1 with q | q
  ·exact .inl q
  ·exact .inr ⟨q, PySem.W.cellsFrom_some _ _ _ (.inl q)⟩
 refine codeAny_call_function hr.depth (KX _ _ lk) rfl S.co S.gen rfl (PySem.W.codeRec_of KX hcd) (hb _ _ _ _ ?_)
 refine wpAny_newFunctionEnv_cells S.kind hkind λ env he s1 x => ?_
 subst he
 refine ⟨lim.keeps x.toInCall.keep, codeAny_func ?_⟩
 obtain ⟨t, ht, hq⟩ := hbody A outer s H vs Q E (hr.deeper _) hsp
 have I : ay (dH CX P w K mg base N qual scope f cdv A outer s H E) [] (bN N vs) H s1 := xw S hr.hd e0 hl r x
 refine mW (ht [] s1 (bN N vs) H _ I hq) (λ fl s' hs => ?_) λ e s' hs => hs
 have fin : ∀ {σ' : St} {H' : Hp} {v : V} {u : Value}, ay (dH CX P w K mg base N qual scope f cdv A outer s H E) [] σ' H' s' -> aU v u -> Q v H' -> CE outer P w H s Q u s' :=
  λ {σ' H' v u} J rv q => ⟨v, H', J.os, J.bare, J.base, J.hok, rv, q⟩
 cases fl with
 | ret u =>
  obtain ⟨v, σ', H', J, rv, q⟩ := hs
  exact fin J rv q
 | next =>
  obtain ⟨σ', H', J, q⟩ := hs
  exact fin (v := V.non) (u := Value.none) J rfl q
 | brk =>
  obtain ⟨_, _, _, q⟩ := hs
  exact False.elim q
 | cont =>
  obtain ⟨_, _, _, q⟩ := hs
  exact False.elim q
section
variable {X : Cx} {x : Str} {p pos : Pos} {e : Expr} {es : List Expr} {t : TA} {id T : String} {r : List V -> Hp -> VK -> Prop}
noncomputable def GM (r : List V -> Hp -> VK -> Prop) (t : TA) : TE := λ Z H Q => t Z H λ vs H1 => r vs H1 Q
theorem aV (hc : dE X (.builtin id) r) (hg : Gl X x) (hm : X.mg x = none) (hv : bootBuiltins x = some (.builtin id)) (ha : PA X (e :: es) t) (hn : x ≠ "__name__" := by decide) (hdb : (x == ("__debug__" : Str)) = false := by decide)
  (he : starEach (e :: es) X.env = (false, eval e X.env) :: starEach es X.env := by rfl) (hpl : (backTo pos (starEach es X.env)).any (·.1) = false := by rfl) : PE X (.Call (.Name x p) (e :: es) [] pos) (GM r t) := by
 intro pins s Z H Q I h
 refine wpAny_Call_Name_kw (jY I hg hm hv ?_ hn hdb)
 exact PyProof.Rows.callWith_builtin1 (bO (ha pos pins s Z H _ I h) λ us s1 ⟨vs, H1, I1, r1, q1⟩ => hc pins s1 Z H1 vs us Q I1 r1 q1) he hpl
theorem jD (hc : dE X (.type T) r) (hg : Gl X x) (hm : X.mg x = none) (hv : bootBuiltins x = some (.type T)) (ha : PA X (e :: es) t) (hn : x ≠ "__name__" := by decide) (hdb : (x == ("__debug__" : Str)) = false := by decide)
  (he : starEach (e :: es) X.env = (false, eval e X.env) :: starEach es X.env := by rfl) (hpl : (backTo pos (starEach es X.env)).any (·.1) = false := by rfl) : PE X (.Call (.Name x p) (e :: es) [] pos) (GM r t) := by
 intro pins s Z H Q I h
 refine wpAny_Call_Name_kw (jY I hg hm hv ?_ hn hdb)
 exact PyProof.Rows.callWith_type1 (bO (ha pos pins s Z H _ I h) λ us s1 ⟨vs, H1, I1, r1, q1⟩ => hc pins s1 Z H1 vs us Q I1 r1 q1) he hpl
end
end L2
namespace HT
open PySem PyProof.Rows
section
variable {prog : Program} {w : World} {A : Around} {E : Value -> Shared -> Prop} {s : Shared}
noncomputable def sIx (n d : Nat) : Option Int -> Nat
 | none => d
 | some v => if v < 0 then (v + (n : Int)).toNat else min v.toNat n
theorem sIx_nat (n d k : Nat) : sIx n d (some (k : Int)) = min k n := by
 show (if (k : Int) < 0 then ((k : Int) + (n : Int)).toNat else min (k : Int).toNat n) = min k n
 rw [gV (by omega), Int.toNat_natCast]
end
end HT
namespace L2
open PySem PySem.Spec PyProof.Rows
noncomputable abbrev TO := St -> Hp -> (Option Int -> Hp -> Prop) -> Prop
noncomputable def PO (X : Cx) (e : Option Expr) (t : TO) : Prop :=
 ∀ (pins : Pn) (s : Shared) (Z : St) (H : Hp) (Q : Option Int -> Hp -> Prop), ay X pins Z H s -> t Z H Q ->
  wpAny (model X.prog X.w) X.A (evalPart e X.env) (λ u s' => ∃ o H', ay X pins Z H' s' /\ IsPart u o /\ Q o H') X.xe s
noncomputable def Ak (t : TE) : TO := λ Z H Q => t Z H λ x H1 => ∃ i, x = .int i /\ Q (some i) H1
section
variable {X : Cx} {e : Expr} {te : TE} {lo hi : Option Expr} {tl th : TO} {pos p2 : Pos}
theorem cn (h : PE X e te) : PO X (some e) (Ak te) := by
 intro pins s Z H Q I hw
 rw [evalPart_some]
 refine bO (h pins s Z H _ I hw) λ u s1 ⟨x, H1, I1, r1, q1⟩ => ?_
 obtain ⟨i, rfl, q⟩ := q1
 obtain ⟨t, rfl⟩ := r1
 exact ⟨some i, H1, I1, .int i t, q⟩
noncomputable def SlR (X : Cx) (r : V -> Option Int -> Option Int -> Hp -> VK -> Prop) : Prop :=
 ∀ (pins : Pn) (s : Shared) (Z : St) (H : Hp) (x : V) (v vl vu : Value) (lo hi : Option Int) (sl : Addr) (Q : VK), ay X pins Z H s -> aU x v -> s.heap.IsSliceOf sl vl vu .none -> IsPart vl lo -> IsPart vu hi -> r x lo hi H Q ->
  ∃ T id, typeLookup (.type T) "__getitem__" = pure (some (.builtin id)) /\ s.TypeIs v T /\ wpAny (model X.prog X.w) X.A (getItem v (.ref sl)) (EP X pins Z Q) X.xe s
noncomputable def Lm (r : V -> Option Int -> Option Int -> Hp -> VK -> Prop) (te : TE) (tl th : TO) : TE := λ Z H Q => te Z H λ x H1 => tl Z H1 λ l H2 => th Z H2 λ u H3 => r x l u H3 Q
theorem eU {r : V -> Option Int -> Option Int -> Hp -> VK -> Prop} (hr : SlR X r) (he : PE X e te) (hl : PO X lo tl) (hu : PO X hi th) : PE X (.Subscript e (.Slice lo hi none p2) pos) (Lm r te tl th) := by
 intro pins s Z H Q I h
 refine Subscript_ (bO (he pins s Z H _ I h) λ v s1 ⟨x, H1, I1, r1, q1⟩ => ?_)
 refine wpAny_Slice (bO (hl pins s1 Z H1 _ I1 q1) λ vl s2 ⟨l, H2, I2, pl, q2⟩ => bO (hu pins s2 Z H2 _ I2 q2) λ vu s3 ⟨u, H3, I3, pu, q3⟩ => ?_)
 rw [evalPart_none]
 refine i7 ?_
 have I4 : ay X pins Z H3 { s3 with heap := s3.heap.push { cls := .type "slice", data := .fields #[vl, vu, .none] } } := I3.kept (t' := s3.toks) λ b ob q => cp _ q
 obtain ⟨T, id, hT, ht, hg⟩ := hr pins { s3 with heap := s3.heap.push { cls := .type "slice", data := .fields #[vl, vu, .none] } } Z H3 x v vl vu l u s3.heap.objs.size Q I4 r1 (Heap.IsSliceOf.new ..) pl pu q3
 show wpAny (model X.prog X.w) X.A (subscriptTail e (.Slice lo hi none p2) v (.ref s3.heap.objs.size)) (EP X pins Z Q) X.xe { s3 with heap := s3.heap.push { cls := .type "slice", data := .fields #[vl, vu, .none] } }
 exact tail_any (ops := [.ref s3.heap.objs.size, v]) ht hT hg (by with_unfolding_all rfl)
noncomputable def xO (xs : List V) (lo hi : Option Int) : List V := (xs.drop (HT.sIx xs.length 0 lo)).take (HT.sIx xs.length xs.length hi - HT.sIx xs.length 0 lo)
theorem sU (xs : List V) (lo hi : Option Int) : (xO xs lo hi).length <= xs.length := by
 unfold xO
 rw [List.length_take, List.length_drop]
 omega
end
noncomputable def BP (n : Nat) (i : Int) : Option Nat := if 0 <= i then (if i < n then some i.toNat else none) else if -(n : Int) <= i then some (i + n).toNat else none
noncomputable def fG {α : Type} (xs : List α) (i : Int) : Option α := (BP xs.length i).bind λ j => xs[j]?
theorem Dj {n : Nat} {i : Int} {j : Nat} (h : BP n i = some j) : seqIndex? i n = some j /\ j < n /\ -(n : Int) <= i /\ i < n := by
 unfold BP at h
 by_cases h0 : 0 <= i
 ·rw [h9 h0] at h
  by_cases h1 : i < n
  ·rw [h9 h1] at h
   have e : i.toNat = j := j9 h
   exact ⟨by rw [seqIndex_of h0 h1, e], by omega, by omega, h1⟩
  ·rw [gV h1] at h; cases h
 ·rw [gV h0] at h
  by_cases h1 : -(n : Int) <= i
  ·rw [h9 h1] at h
   have e : (i + n).toNat = j := j9 h
   exact ⟨by rw [seqIndex_neg (by omega) h1, e], by omega, h1, by omega⟩
  ·rw [gV h1] at h; cases h
theorem oI {α : Type} {xs : List α} {i : Int} {v : α} (h : fG xs i = some v) : ∃ j, seqIndex? i xs.length = some j /\ xs[j]? = some v /\ j < xs.length /\ -(xs.length : Int) <= i /\ i < xs.length := by
 unfold fG at h
 cases e : BP xs.length i with
 | none => rw [e] at h; cases h
 | some j =>
  rw [e] at h
  obtain ⟨h1, h2, h3, h4⟩ := Dj e
  exact ⟨j, h1, h, h2, h3, h4⟩
theorem di {α : Type} {xs : List α} {j : Nat} {v : α} (h : xs[j]? = some v) : fG xs (j : Int) = some v := by
 have hj : j < xs.length := (iL.mp h).1
 have e : BP xs.length (j : Int) = some j := by
  unfold BP
  rw [h9 (by omega), h9 (by omega)]; simp
 unfold fG; rw [e]; exact h
noncomputable def Dl (b : Expr) : Prop := ∀ o i, subscripted b false o i = operate [o, i] (getItem o i)
noncomputable def KA (X : Cx) (r : R2) : Prop :=
 ∀ (value slice : Expr) (pins : Pn) (s : Shared) (Z : St) (H : Hp) (x y : V) (v u : Value) (Q : VK), ay X pins Z H s -> aU x v -> aU y u -> r x y H Q ->
  subscripted slice false v u = operate [v, u] (getItem v u) -> wpAny (model X.prog X.w) X.A (subscriptTail value slice v u) (EP X pins Z Q) X.xe s
noncomputable def MtR (X : Cx) (id : String) (r : V -> List V -> Hp -> VK -> Prop) : Prop :=
 ∀ (pins : Pn) (s : Shared) (Z : St) (H : Hp) (x : V) (xs : List V) (v : Value) (us : List Value) (Q : VK), ay X pins Z H s -> aU x v -> aL xs us -> r x xs H Q ->
  wpAny (model X.prog X.w) X.A (call (.builtin id) (v :: us)) (EP X pins Z Q) X.xe s
section
variable {X : Cx} {a b : Expr} {ta tb : TE} {pos : Pos}
theorem aa {r : R2} (hr : KA X r) (ha : PE X a ta) (hb : PE X b tb) (hs : Dl b) : PE X (.Subscript a b pos) (AA r ta tb) := by
 intro pins s Z H Q I h
 exact Subscript_ (Ga ha hb I h λ v u s2 x y H2 I2 rx ry q => hr a b pins s2 Z H2 x y v u Q I2 rx ry q (hs _ _))
noncomputable def ES (K : Fg) : R2 := λ x y H Q => ∃ p xs i v, x = .ref p /\ y = .int i /\ br K H p xs /\ fG xs i = some v /\ Q v H
noncomputable def kb (K : Fg) : R2 := λ x y H Q => ∃ p xs i v, x = .ref p /\ y = .int i /\ bI K H p xs /\ fG xs i = some v /\ Q v H
noncomputable def rIxS : R2 := λ x y H Q => ∃ z i c, x = .str z /\ y = .int i /\ z.length <= sizeLine /\ fG z.cps.toList i = some c /\ Q (.str ⟨#[c]⟩) H
theorem bZ : KA X (ES X.K) := by
 intro value slice pins s Z H x y v u Q I rx ry h hs
 obtain ⟨p, xs, i, z, rfl, rfl, hq, he, q⟩ := h
 cases rx
 obtain ⟨t, rfl⟩ := ry
 obtain ⟨its, r, pl, hz⟩ := I.list hq
 obtain ⟨j, h1, h2, h3, h4, h5⟩ := oI he
 obtain ⟨w, ew, rw'⟩ := r.get h2
 have hl := r.length
 have hn := jZ
 have fin : EP X pins Z Q w s := ⟨z, H, I, rw', q⟩
 by_cases h0 : 0 <= i
 ·have hj : i.toNat = j := by
   rw [seqIndex_of h0 h5] at h1
   exact j9 h1
  exact item_listR pl.isList h0 (by omega) (by rw [hj]; simpa using ew) fin hs
 ·have hj : (i + (its.toArray.size : Int)).toNat = j := by
   rw [seqIndex_neg (by omega) h4] at h1
   rw [i3, <- hl]
   exact j9 h1
  exact subscriptTail_builtinR (x := w) pl.isList.typeIs slot_list_getitem.lookup
   (wpAny_getItem_list_neg (Q := λ r s' => r = w /\ EP X pins Z Q r s') pl.isList (by omega) (by rw [i3] <;> omega) (by omega) (by rw [hj]; simpa using ew) ⟨rfl, fin⟩) hs
theorem aC : KA X (kb X.K) := by
 intro value slice pins s Z H x y v u Q I rx ry h hs
 obtain ⟨p, xs, i, z, rfl, rfl, hq, he, q⟩ := h
 cases rx
 obtain ⟨t, rfl⟩ := ry
 obtain ⟨its, r, pl, hz⟩ := I.tuple hq
 obtain ⟨j, h1, h2, h3, h4, h5⟩ := oI he
 obtain ⟨w, ew, rw'⟩ := r.get h2
 have hl := r.length
 have hn := jZ
 have fin : EP X pins Z Q w s := ⟨z, H, I, rw', q⟩
 exact subscriptTail_builtinR (x := w) pl.typeIs slot_tuple_getitem.lookup
  (getItem_tuple (j := j) (Q := λ r s' => r = w /\ EP X pins Z Q r s') pl (by omega) (by omega) (by rw [i3, <- hl]; exact h1) (by simpa using ew) ⟨rfl, fin⟩) hs
theorem mQ : KA X rIxS := by
 intro value slice pins s Z H x y v u Q I rx ry h hs
 obtain ⟨z, i, c, rfl, rfl, hz, he, q⟩ := h
 obtain ⟨t, rfl⟩ := rx
 obtain ⟨t', rfl⟩ := ry
 obtain ⟨j, h1, h2, h3, h4, h5⟩ := oI he
 have hl : z.cps.toList.length = z.length := by simp [Str.length]
 rw [hl] at h1 h4 h5
 have hn := jZ
 exact tail_any (typeIs_str s z t) slot_str_getitem.lookup (getItem_str (c := c) (by
  have e1 : decide (i < -(2 ^ 63 : Int)) = false := kv (by omega)
  have e2 : decide (i >= 2 ^ 63) = false := kv (by omega)
  rw [e1, e2, Bool.or_false]) (by rw [h1]; simpa using h2) ⟨.str ⟨#[c]⟩, H, I.tok _, ⟨_, rfl⟩, q⟩) hs
theorem oR (lo hi : Option Int) (n : Nat) : (sliceBounds lo hi none n).1 = ((HT.sIx n 0 lo : Nat) : Int) /\ (sliceBounds lo hi none n).2.1 = ((HT.sIx n n hi : Nat) : Int) /\ (sliceBounds lo hi none n).2.2 = 1 := by
 refine ⟨?_, ?_, rfl⟩
 ·cases lo with
  | none => simp [sliceBounds, HT.sIx]
  | some i =>
   simp only [sliceBounds, HT.sIx, Option.getD_none, show (1 : Int) > 0 by decide, if_true]
   by_cases h : i < 0
   ·simp only [h, if_true] <;> omega
   ·simp only [h, if_false] <;> omega
 ·cases hi with
  | none => simp [sliceBounds, HT.sIx]
  | some i =>
   simp only [sliceBounds, HT.sIx, Option.getD_none, show (1 : Int) > 0 by decide, if_true]
   by_cases h : i < 0
   ·simp only [h, if_true] <;> omega
   ·simp only [h, if_false] <;> omega
theorem mY (its : List Value) (lo hi : Option Int) : slicePick its.toArray lo hi none = ((its.drop (HT.sIx its.length 0 lo)).take (HT.sIx its.length its.length hi - HT.sIx its.length 0 lo)).toArray := by
 obtain ⟨h1, h2, h3⟩ := oR lo hi its.toArray.size
 unfold slicePick
 rw [h1, h2, h3]
 simp only [sliceRange_one, pick_run, i3] <;> rfl
noncomputable def JC (K : Fg) : V -> Option Int -> Option Int -> Hp -> VK -> Prop := λ x lo hi H Q => ∃ a xs, x = .ref a /\ br K H a xs /\ ∀ p, H p = none -> Q (.ref p) (upd H p (.lst (xO xs lo hi)))
theorem gD : SlR X (JC X.K) := by
 intro pins s Z H x v vl vu lo hi sl Q I rx hs pl pu h
 obtain ⟨a, xs, rfl, hx, q⟩ := h
 cases rx
 obtain ⟨its, r, ht, hz⟩ := I.list hx
 have hlen := r.length
 refine ⟨"list", _, slot_list_getitem.lookup, ht.isList.typeIs, ?_⟩
 refine wpAny_getItem_list_slice ht.isList hs pl pu .none (by simp) ?_ (by rw [i3] <;> omega)
 rw [mY, <- hlen]
 refine ⟨.ref s.heap.objs.size, _, I.laid (t' := s.toks) (o := .lst (xO xs lo hi)) (λ b ob q => cp _ q) (eT _) ?_, rfl, q _ (I.hok.fresh (eT _))⟩
 exact ⟨lS (sU xs lo hi) hz, _, 0, (r.drop (HT.sIx xs.length 0 lo)).take (HT.sIx xs.length xs.length hi - HT.sIx xs.length 0 lo), kH _ rfl⟩
noncomputable def dr : V -> Bool
 | .non => true
 | .bl _ => true
 | .int _ => true
 | .str _ => true
 | _ => false
noncomputable def xz : V -> V -> Bool
 | .non, .non => true
 | .bl a, .bl b => a == b
 | .bl a, .int b => (if a then 1 else 0) == b
 | .int a, .bl b => a == (if b then 1 else 0)
 | .int a, .int b => a == b
 | .str a, .str b => a == b
 | _, _ => false
variable {s : Shared} {x : V}
theorem Ht {A : Around} {y : V} {u v : Value} (ry : aU y u) (rx : aU x v) (fy : dr y = true) (fx : dr x = true) : SeqAt.EqAt A s u v (xz y x) := by
 cases y with
 | non =>
  cases ry
  cases x with
  | non => cases rx; exact SeqAt.EqAt.same _
  | bl b => cases rx; exact SeqAt.EqAt.none_bool b
  | int b => obtain ⟨t, rfl⟩ := rx; exact SeqAt.EqAt.none_int b t
  | str b => obtain ⟨t, rfl⟩ := rx; exact SeqAt.EqAt.none_str b t
  | _ => exact absurd (show false = true from fx) ff
 | bl a =>
  cases ry
  cases x with
  | non => cases rx; exact SeqAt.EqAt.bool_none a
  | bl b => cases rx; exact SeqAt.EqAt.bool_bool a b
  | int b => obtain ⟨t, rfl⟩ := rx; exact SeqAt.EqAt.bool_int a b t
  | str b => obtain ⟨t, rfl⟩ := rx; exact SeqAt.EqAt.bool_str a b t
  | _ => exact absurd (show false = true from fx) ff
 | int a =>
  obtain ⟨t', rfl⟩ := ry
  cases x with
  | non => cases rx; exact SeqAt.EqAt.int_none a t'
  | bl b => cases rx; exact SeqAt.EqAt.int_bool a t' b
  | int b => obtain ⟨t, rfl⟩ := rx; exact SeqAt.EqAt.int_int a t' b t
  | str b => obtain ⟨t, rfl⟩ := rx; exact SeqAt.EqAt.int_str a t' b t
  | _ => exact absurd (show false = true from fx) ff
 | str a =>
  obtain ⟨t', rfl⟩ := ry
  cases x with
  | non => cases rx; exact SeqAt.EqAt.str_none a t'
  | bl b => cases rx; exact SeqAt.EqAt.str_bool a t' b
  | int b => obtain ⟨t, rfl⟩ := rx; exact SeqAt.EqAt.str_int a t' b t
  | str b => obtain ⟨t, rfl⟩ := rx; exact SeqAt.EqAt.str_str a t' b t
  | _ => exact absurd (show false = true from fx) ff
 | _ => exact absurd (show false = true from fy) ff
noncomputable def xB (x : V) (u : Value) : Bool := match u with
 | .none => xz .non x
 | .bool b => xz (.bl b) x
 | .int i _ => xz (.int i) x
 | .str z _ => xz (.str z) x
 | _ => false
theorem uP {y : V} {u : Value} (r : aU y u) (f : dr y = true) : xB x u = xz y x := by
 cases y with
 | non => cases r; rfl
 | bl b => cases r; rfl
 | int i => obtain ⟨t, rfl⟩ := r; rfl
 | str z => obtain ⟨t, rfl⟩ := r; rfl
 | _ => exact absurd (show false = true from f) ff
theorem oE : ∀ {xs : List V} {us : List Value}, aL xs us -> xs.all dr = true -> us.any (xB x) = xs.any λ y => xz y x
 | _, _, .nil, _ => rfl
 | y :: xs, u :: us, .cons r t, f => by
  rw [List.all_cons, Bool.and_eq_true] at f
  rw [List.any_cons, List.any_cons, uP r f.1, oE t f.2]
theorem iS {A : Around} {v : Value} (rx : aU x v) (fx : dr x = true) : ∀ {xs : List V} {us : List Value}, aL xs us -> xs.all dr = true -> ∀ u ∈ us, SeqAt.EqAt A s u v (xB x u)
 | _, _, .nil, _ => λ u hu => by cases hu
 | y :: xs, u :: us, .cons r t, f => λ u' hu => by
  rw [List.all_cons, Bool.and_eq_true] at f
  rcases j3.mp hu with rfl | hu
  ·rw [uP r f.1]; exact Ht r rx f.1 fx
  ·exact iS rx fx t f.2 u' hu
noncomputable def HX (x : V) (xs : List V) : Bool := xs.any λ y => xz y x
noncomputable def KK (K : Fg) (neg : Bool) : R2 := λ x y H Q => ∃ p xs, y = .ref p /\ (br K H p xs ∨ bI K H p xs) /\ dr x = true /\ xs.all dr = true /\ Q (.bl (if neg then !HX x xs else HX x xs)) H
theorem iV : gH X (compareOp .NotIn) (KK X.K true) := by
 intro pins s Z H x y v u Q I rx ry h
 obtain ⟨p, xs, rfl, hq, fx, fs, q⟩ := h
 cases ry
 rcases hq with hq | hq
 ·obtain ⟨its, r, pl, hz⟩ := I.list hq
  refine SeqAt.notIn_listAt (xB x) pl.isList (λ w hw => iS rx fx r fs w (by simpa using hw)) ⟨.bl _, H, I, rfl, ?_⟩
  rw [show its.toArray.any (xB x) = its.any (xB x) by simp, oE r fs]
  exact q
 ·obtain ⟨its, r, pl, hz⟩ := I.tuple hq
  refine SeqAt.notIn_tupleAt (xB x) pl (λ w hw => iS rx fx r fs w (by simpa using hw)) ⟨.bl _, H, I, rfl, ?_⟩
  rw [show its.toArray.any (xB x) = its.any (xB x) by simp, oE r fs]
  exact q
theorem bR : dE X (.builtin "len") (λ xs H Q => ∃ p ys, xs = [.ref p] /\ (br X.K H p ys ∨ bI X.K H p ys) /\ Q (.int ys.length) H) := by
 intro pins s Z H xs us Q I r h
 obtain ⟨p, ys, rfl, hq, q⟩ := h
 obtain ⟨u, rfl, rx⟩ := qT r
 cases rx
 have hn := jZ
 rcases hq with hq | hq
 ·obtain ⟨its, r', pl, hz⟩ := I.list hq
  have hlen := r'.length
  exact Calls.call_len_list pl.isList (by simp only [i3] <;> omega) ⟨.int ys.length, H, I.tok _, ⟨s.toks + 1, by rw [i3, hlen]⟩, q⟩
 ·obtain ⟨its, r', pl, hz⟩ := I.tuple hq
  have hlen := r'.length
  exact len_tuple pl (by simp only [i3] <;> omega) ⟨.int ys.length, H, I.tok _, ⟨s.toks + 1, by rw [i3, hlen]⟩, q⟩
theorem oQ : dE X (.type "list") (λ xs H Q => ∃ p ys, xs = [.ref p] /\ (br X.K H p ys ∨ bI X.K H p ys) /\ ∀ l, H l = none -> Q (.ref l) (upd H l (.lst ys))) := by
 intro pins s Z H xs us Q I r h
 obtain ⟨p, ys, rfl, hq, q⟩ := h
 obtain ⟨u, rfl, rx⟩ := qT r
 cases rx
 have fin : ∀ (its : List Value), aL ys its -> ys.length <= sizeLine -> ∀ (h' : Heap) (c' : Nat), (∀ b o', s.heap.get? b = some o' -> h'.get? b = some o') ->
   h'.get? s.heap.objs.size = some { cls := .type "list", dict := none, data := .seq its.toArray c', slots := #[] } -> EP X pins Z Q (.ref s.heap.objs.size) { s with heap := h' } := λ its r' hz h' c' kp e =>
  ⟨.ref s.heap.objs.size, _, I.laid (t' := s.toks) kp (eT _) (show cj X.prog X.w _ h' _ (.lst ys) from ⟨hz, its, c', r', e⟩), rfl, q _ (I.hok.fresh (eT _))⟩
 rcases hq with hq | hq
 ·obtain ⟨its, r', pl, hz⟩ := I.list hq
  have hlen := r'.length
  obtain ⟨o, ho, hc, n, hd⟩ := pl.isList
  exact call_list_seq p (.inl rfl) ho hc hd (λ h' c' kp e => fin its r' hz h' c' kp e) (by simp only [i3] <;> omega)
 ·obtain ⟨its, r', pl, hz⟩ := I.tuple hq
  have hlen := r'.length
  obtain ⟨o, ho, hc, n, hd⟩ := pl
  exact call_list_seq p (.inr rfl) ho hc hd (λ h' c' kp e => fin its r' hz h' c' kp e) (by simp only [i3] <;> omega)
noncomputable def Ia (K : Fg) (T : String) (x : V) (H : Hp) : Prop := match x with
 | .str _ => T = "str"
 | .int _ => T = "int"
 | .ref p => (T = "list" /\ ∃ xs, br K H p xs) ∨ (T = "tuple" /\ ∃ o, K.lookup p = some o /\ o.cls = .type "tuple" /\ o.dict = none) ∨
   (T = "dict" /\ ((∃ kvs, H p = some (.dK kvs)) ∨ ∃ kvs, H p = some (.dT kvs))) ∨ (T = "set" /\ ∃ S n, H p = some (.set S n))
 | _ => False
theorem By {pins : Pn} {Z : St} {H : Hp} {T : String} {v : Value} (I : ay X pins Z H s) (r : aU x v) (ty : Ia X.K T x H) :
  s.TypeIs v T /\ ∀ a, v = .ref a -> ∃ ob, s.heap.get? a = some ob /\ ob.dict = none := by
 cases x with
 | str z =>
  obtain ⟨t, rfl⟩ := r
  cases (show T = "str" from ty)
  exact ⟨typeIs_str s z t, λ _ e => nomatch e⟩
 | int i =>
  obtain ⟨t, rfl⟩ := r
  cases (show T = "int" from ty)
  exact ⟨typeIs_int s i t, λ _ e => nomatch e⟩
 | ref p =>
  cases r
  rcases ty with ⟨rfl, xs, hq⟩ | ⟨rfl, o, hk, hc, hd⟩ | ⟨rfl, hk⟩ | ⟨rfl, S, n, hk⟩
  ·obtain ⟨its, _, pl, _⟩ := I.list hq
   refine ⟨pl.isList.typeIs, λ a e => ?_⟩
   cases e
   obtain ⟨o, n, e, c, hd, _⟩ := pl
   exact ⟨o, e, hd⟩
  ·refine ⟨⟨o, I.kIn p o hk, hc⟩, λ a e => ?_⟩
   cases e
   exact ⟨o, I.kIn _ o hk, hd⟩
  ·have z : ∃ o, s.heap.get? p = some o /\ o.ExactDict := by
    rcases hk with ⟨kvs, hk⟩ | ⟨kvs, hk⟩
    ·obtain ⟨_, _, _, _, o, _, _, e, ex, _⟩ := I.hok p _ hk
     exact ⟨o, e, ex⟩
    ·obtain ⟨_, _, _, _, o, _, _, e, ex, _⟩ := I.hok p _ hk
     exact ⟨o, e, ex⟩
   obtain ⟨o, e, ex⟩ := z
   refine ⟨⟨o, e, ex.1⟩, λ a e2 => ?_⟩
   cases e2
   exact ⟨o, e, ex.2.1⟩
  ·obtain ⟨o, _, _, _, e, ex, _⟩ := I.hok p _ hk
   refine ⟨⟨o, e, ex.1⟩, λ a e2 => ?_⟩
   cases e2
   exact ⟨o, e, ex.2.1⟩
 | _ => exact False.elim ty
noncomputable def FY (K : Fg) (T : String) (r : V -> List V -> Hp -> VK -> Prop) (to : TE) : TE := λ Z H Q => to Z H λ x H1 => Ia K T x H1 /\ r x [] H1 Q
noncomputable def Kx (K : Fg) (T : String) (r : V -> List V -> Hp -> VK -> Prop) (to : TE) (t : TA) : TE := λ Z H Q => to Z H λ x H1 => Ia K T x H1 /\ t Z H1 λ xs H2 => r x xs H2 Q
variable {o e : Expr} {es : List Expr} {to : TE} {t : TA} {name : Str} {apos cpos : Pos} {T id : String} {r : V -> List V -> Hp -> VK -> Prop}
theorem vk (pa : PlainAttrs T) (slot : Slot T name id) (hty : typeOf (.builtin id) = pure (.type "method_descriptor")) (hm : MtR X id r) (ho : PE X o to)
  (hbase : attributeBase o name X.env (eval o X.env) = eval o X.env := by rfl) (hline : (apos.endLine == cpos.line) = true := by rfl) : PE X (.Call (.Attribute o name apos) [] [] cpos) (FY X.K T r to) := by
 intro pins s Z H Q I h
 refine wpAny_Call_method0_late hbase hline (bO (ho pins s Z H _ I h) λ v s1 ⟨x, H1, I1, r1, ty, q1⟩ => ?_)
 obtain ⟨h1, h2⟩ := By I1 r1 ty
 exact ⟨T, id, pa, slot, hty, h1, h2, Calls.callWith_builtin rfl (PySem.evalArgs_none (hm pins s1 Z H1 x [] v [] Q I1 r1 .nil q1))⟩
theorem cH (pa : PlainAttrs T) (slot : Slot T name id) (hty : typeOf (.builtin id) = pure (.type "method_descriptor")) (hm : MtR X id r) (ho : PE X o to) (ha : PA X (e :: es) t)
  (hbase : attributeBase o name X.env (eval o X.env) = eval o X.env := by rfl)
  (hfew : ((backTo cpos (starEach (e :: es) X.env)).all (λ x => !x.1) && (backToKw cpos (keywordEach [] X.env)).all (λ x => x.1.isSome)
   && decide ((e :: es).length + ([] : List Keyword).length + (if ([] : List Keyword).isEmpty then 0 else 1) < 30)) = true := by rfl)
  (hline : (apos.endLine == cpos.line) = true := by rfl) (hs : starEach (e :: es) X.env = (false, eval e X.env) :: starEach es X.env := by rfl) (hplain : (backTo cpos (starEach es X.env)).any (·.1) = false := by rfl) :
  PE X (.Call (.Attribute o name apos) (e :: es) [] cpos) (Kx X.K T r to t) := by
 intro pins s Z H Q I h
 refine wpAny_Call_method_late hbase hfew hline rfl (bO (ho pins s Z H _ I h) λ v s1 ⟨x, H1, I1, r1, ty, q1⟩ => ?_)
 obtain ⟨h1, h2⟩ := By I1 r1 ty
 refine ⟨T, id, pa, slot, hty, h1, h2, ?_⟩
 have hA := ha cpos pins s1 Z H1 _ I1 q1
 rw [hs] at hA ⊢
 refine Calls.callWith_builtin (by show (false || (backTo cpos (starEach es X.env)).any (·.1)) = false; rw [hplain] <;> rfl) (Calls.evalArgs_plain ?_)
 exact bO hA λ us s2 ⟨vs, H2, I2, r2, q2⟩ => hm pins s2 Z H2 x vs v us Q I2 r1 r2 q2
end
noncomputable def Jq (X : Cx) (id : String) (r : V -> List V -> Hp -> VK -> Prop) : Prop :=
 ∀ (pins : Pn) (s : Shared) (Z : St) (H : Hp) (x : V) (xs : List V) (v : Value) (us : List Value) (Q : VK), ay X pins Z H s -> aU x v -> aL xs us -> r x xs H Q ->
  wpAny (model X.prog X.w) X.A (call (.builtin id) (v :: us)) (EP X pins Z Q) X.xe s
theorem aL.one : ∀ {x : V} {us : List Value}, aL [x] us -> ∃ u, us = [u] /\ aU x u
 | _, _, .cons r .nil => ⟨_, rfl, r⟩
theorem aL.zero : ∀ {us : List Value}, aL [] us -> us = []
 | _, .nil => rfl
theorem aL.reverse {xs : List V} {us : List Value} (h : aL xs us) : aL xs.reverse us.reverse := by
 induction h with
 | nil => exact .nil
 | cons r t ih => rw [List.reverse_cons, List.reverse_cons]; exact aL.append ih (.cons r .nil)
theorem aL.rep {xs : List V} {us : List Value} (h : aL xs us) : ∀ k : Nat, aL (List.replicate k xs).flatten (List.replicate k us).flatten
 | 0 => .nil
 | k + 1 => by
  rw [o9, o9, List.flatten_cons, List.flatten_cons]
  exact aL.append h (aL.rep h k)
theorem oo (its : List Value) : ∀ (k : Nat) (acc : List Value),
  List.foldl (λ x1 x2 => x1 ++ x2) acc.toArray (List.replicate k its.toArray) = (acc ++ (List.replicate k its).flatten).toArray
 | 0, acc => by simp
 | k + 1, acc => by
  have e : acc.toArray ++ its.toArray = (acc ++ its).toArray := by simp
  have e2 : (acc ++ its) ++ (List.replicate k its).flatten = acc ++ (List.replicate (k + 1) its).flatten := by
   rw [o9, List.flatten_cons, m7]
  rw [<- e2, <- oo its k (acc ++ its), <- e, o9, rm]
section
variable {X : Cx} {pins : Pn} {Z : St} {H : Hp} {s : Shared} {l b : Addr} {xs ys zs : List V}
theorem ay.lset {its its' : List Value} {n : Nat} {f : Array Value -> Array Value} {t' : Nat} (I : ay X pins Z H s) (hH : H l = some (.lst xs))
  (e : s.heap.get? l = some { cls := .type "list", data := .seq its.toArray n }) (hf : f its.toArray = its'.toArray) (hv : aL ys its') (hz : ys.length <= sizeLine) :
  ay X pins Z (upd H l (.lst ys)) { s with heap := s.heap.update l (Obj.mapSeq f), toks := t' } := by
 have q := PySem.IsL.update e f
 rw [hf] at q
 refine I.write (x := l) (e := l) (by rw [hH]; exact trivial) (.inl rfl) (λ b' u hb hu => (Heap.get?_update_other s.heap (Obj.mapSeq f) (Ne.symm hb)).trans hu) ⟨_, q⟩ ?_
 exact ⟨hz, its', _, hv, q⟩
theorem ay.lnew {its : List Value} {t' : Nat} (I : ay X pins Z H s) (hv : aL ys its) (hz : ys.length <= sizeLine) :
  ay X pins Z (upd H s.heap.objs.size (.lst ys)) { s with heap := s.heap.push { cls := .type "list", data := .seq its.toArray }, toks := t' } :=
 I.laid (λ _ _ q => cp _ q) (eT _) ⟨hz, its, 0, hv, kH _ rfl⟩
theorem ay.fresh (I : ay X pins Z H s) : H s.heap.objs.size = none := I.hok.fresh (eT _)
theorem ay.lstM (I : ay X pins Z H s) (hH : H l = some (.lst xs)) : xs.length <= sizeLine /\ ∃ (its : List Value) (n : Nat), aL xs its /\ xs.length = its.length /\ s.heap.get? l = some { cls := .type "list", data := .seq its.toArray n } := by
 obtain ⟨z, its, n, r, e⟩ := I.hok l _ hH
 exact ⟨z, its, n, r, r.length, e⟩
theorem tD {n : Nat} (h : n <= sizeLine) : Builtin.List.listTooLong n = false := by
 unfold Builtin.List.listTooLong
 exact kv (by omega)
end
section
variable {X : Cx}
noncomputable def rAppend : V -> List V -> Hp -> VK -> Prop := λ x vs H Q => ∃ l xs y, x = .ref l /\ vs = [y] /\ H l = some (.lst xs) /\ xs.length < sizeLine /\ Q .non (upd H l (.lst (xs ++ [y])))
theorem aQ : Jq X "list.append" rAppend := by
 intro pins s Z H x vs v us Q I rx rv h
 obtain ⟨l, xs, y, rfl, rfl, hH, hz, q⟩ := h
 cases rx
 obtain ⟨u, rfl, ru⟩ := rv.one
 obtain ⟨z, its, n, r, hl, e⟩ := I.lstM hH
 refine call_meets F.slot_list_append ⟨_, e, rfl⟩ F.entry_list_append (F.args_list_append_2 _ _) (PySem.list_append l its.toArray n u (by rw [i3]; omega)) ⟨e, ?_⟩
 refine ⟨.non, _, I.lset (its' := its ++ [u]) hH e (by simp) (r.append (.cons ru .nil)) ?_, rfl, q⟩
 rw [fI, List.length_singleton]
 omega
noncomputable def rReverse : V -> List V -> Hp -> VK -> Prop := λ x vs H Q => ∃ l xs, x = .ref l /\ vs = [] /\ H l = some (.lst xs) /\ Q .non (upd H l (.lst xs.reverse))
theorem vx : Jq X "list.reverse" rReverse := by
 intro pins s Z H x vs v us Q I rx rv h
 obtain ⟨l, xs, rfl, rfl, hH, q⟩ := h
 cases rx
 have hus := rv.zero
 subst hus
 obtain ⟨z, its, n, r, hl, e⟩ := I.lstM hH
 refine call_meets F.slot_list_reverse ⟨_, e, rfl⟩ F.entry_list_reverse (F.args_list_reverse_1 _) (AutoSeq1.list_reverse_list_0 l its.toArray n (by rw [i3]; omega)) ⟨e, ?_⟩
 refine ⟨.non, _, I.lset (its' := its.reverse) hH e (by simp) r.reverse ?_, rfl, q⟩
 rw [List.length_reverse]
 omega
noncomputable def rClear : V -> List V -> Hp -> VK -> Prop := λ x vs H Q => ∃ l xs, x = .ref l /\ vs = [] /\ H l = some (.lst xs) /\ Q .non (upd H l (.lst []))
theorem sw : Jq X "list.clear" rClear := by
 intro pins s Z H x vs v us Q I rx rv h
 obtain ⟨l, xs, rfl, rfl, hH, q⟩ := h
 cases rx
 have hus := rv.zero
 subst hus
 obtain ⟨z, its, n, r, hl, e⟩ := I.lstM hH
 refine call_meets F.slot_list_clear ⟨_, e, rfl⟩ F.entry_list_clear (F.args_list_clear_1 _) (AutoSeq1.list_clear_list_0 l its.toArray n (by rw [i3]; omega)) ⟨e, ?_⟩
 exact ⟨.non, _, I.lset (its' := []) (ys := []) hH e rfl .nil (nW _), rfl, q⟩
noncomputable def rRep : R2 := λ x y H Q => ∃ l k xs, x = .ref l /\ y = .int k /\ H l = some (.lst xs) /\ -(2 ^ 63) <= k /\ k < 2 ^ 63 /\ xs.length * k.toNat <= sizeLine /\
 ∀ p, H p = none -> Q (.ref p) (upd H p (.lst (List.replicate k.toNat xs).flatten))
theorem DM {α : Type} (xs : List α) (k : Nat) : (List.replicate k xs).flatten.length = k * xs.length := by
 induction k with
 | zero => simp
 | succ k ih => rw [o9, List.flatten_cons, fI, ih, Nat.succ_mul, Nat.add_comm]
theorem zj : gH X (binaryOp .Mult) rRep := by
 intro pins s Z H x y v u Q I rx ry h
 obtain ⟨l, k, xs, rfl, rfl, hH, h1, h2, hz, q⟩ := h
 cases rx
 obtain ⟨t, rfl⟩ := ry
 obtain ⟨z, its, n, r, hl, e⟩ := I.lstM hH
 have hlen : its.toArray.size * k.toNat <= sizeLine := by rw [i3, <- hl]; exact hz
 have hcap : ¬ its.toArray.size * k.toNat > (2 ^ 63 - 1) / 8 := by
  have : (sizeLine : Nat) <= (2 ^ 63 - 1) / 8 := by decide
  omega
 have hfit : ¬ (!Builtin.List.listFitsIndex k) = true := by
  rw [fitsIndex_both h1 h2]
  exact ff
 have hlong : ¬ Builtin.List.listTooLong (its.toArray.size * k.toNat) = true := by
  rw [tD hlen]
  exact ff
 have hnew : List.foldl (λ x1 x2 => x1 ++ x2) #[] (List.replicate (if its.toArray.isEmpty = true then 0 else k.toNat) its.toArray) = (List.replicate k.toNat its).flatten.toArray := by
  have f0 : ∀ m : Nat, List.foldl (λ x1 x2 => x1 ++ x2) #[] (List.replicate m its.toArray) = (List.replicate m its).flatten.toArray := λ m => by
   have := oo its m []
   rw [List.nil_append] at this
   exact this
  rw [f0]
  cases its with
  | nil => simp
  | cons a r' => rw [gV (by simp)]
 refine wpAny_binaryOp_repeat_ref (T := "list") (U := "int") (by decide) ⟨_, e, rfl⟩ (λ s' => typeIs_int s' k t) noFill_list_mul F.fills_int_mul F.slot_int_rmul repeat_list F.slot_int_index.lookup
  (call_meets F.slot_int_rmul (typeIs_int s k t) F.entry_int_rmul (F.args_int_rmul_2 _ _) (int___rmul___int_list k t l its.toArray n)
   ⟨e, rfl, ⟨_, e, rfl⟩, call_meets F.slot_list_mul ⟨_, e, rfl⟩ F.entry_list_mul (F.args_list_mul_2 _ _) (AutoListH.list___mul___list_int_3 l its.toArray n k t hfit hcap hlong) ⟨e, ?_⟩⟩)
 rw [hnew]
 exact ⟨.ref _, _, I.lnew (t' := s.toks) (r.rep k.toNat) (by rw [DM, Nat.mul_comm]; exact hz), rfl, q _ I.fresh⟩
end
section
variable {prog : Program} {w : World} {A : Around} {E : Value -> Shared -> Prop} {s : Shared}
set_option maxRecDepth 100000 in
end
end L2
namespace Att
open PySem PySem.W PySem.Calls PyProof.Rows
theorem ints_of_wellAll {P : Params} {h : Heap} : ∀ (ns : List Int) (vs : List Value), WellAll P h vs (ns.map WData.int) -> IntsAre vs ns := by
 intro ns
 induction ns with
 | nil =>
  intro vs w
  rw [List.map_nil] at w
  cases w
  exact .nil
 | cons n ns ih =>
  intro vs w
  rw [j8] at w
  cases w with
  | cons a b =>
   cases a
   exact .cons _ _ (ih _ b)
theorem script_of {l : OpenLaw} {n : Nat} (hn : l.most = some n) {P : Params} {h : Heap} {args : List WData} {vals : List Value}
  (hpre : l.row.toRowW.claim.pre args = true) (hwl : WellAll P h vals args) :
  ∃ a vs ns, vals = [Value.ref a] /\ args = [WData.list (ns.map WData.int)] /\ h.get? a = some { cls := .type "list", data := .seq vs.toArray } /\ IntsAre vs ns /\ ns.length <= n := by
 have hsh : WShape.hasAll [] args [.list .int] = true := (pre_splitW hpre).1
 have hc : l.pre.holds [] { args := args } = true := (pre_splitW hpre).2
 obtain ⟨d, r, rfl, h1, h2⟩ := hasAllW_cons hsh
 obtain rfl := hasAllW_nil h2
 obtain ⟨xs, rfl, h3⟩ := hasW_list h1
 obtain ⟨ns, rfl⟩ := items_int h3
 have hlen : ns.length <= n := by
  unfold OpenLaw.pre at hc
  have h4 : (WTm.not (.lt (.lit (.int (n : Int))) (.len (.arg 0)))).holds [] { args := [.list (ns.map .int)] } = true := by
   have h4 := (holds_andW hc).1
   rw [hn] at h4
   exact h4
  have h5 := condW_of h4 (w_not (w_lt w_lit (w_len_list (w_arg rfl))))
  rw [b9] at h5
  refine Nat.le_of_not_lt λ q => ?_
  have q' : (n : Int) < ((ns.length : Nat) : Int) := by omega
  first
   | (rw [nS q'] at h5; exact absurd h5 (by decide))
   | (simp at h5; omega)
 cases hwl with
 | cons w1 w2 =>
  cases w2
  cases w1 with
  | list ho hall => exact ⟨_, _, ns, rfl, rfl, ho, ints_of_wellAll ns _ hall, hlen⟩
theorem post_true (l : OpenLaw) (args : List WData) : l.row.toRowW.claim.post args (.bool true) args = true :=
 postW_of (r := l.row.toRowW) (X := (true == true))
  (show WShape.has [] (.bool true) .bool = true by first | rfl | decide | simp [WShape.has, WShape.arms, WShape.armsAll])
  (show (WTm.eq .res (.lit (.bool true))).value [] { args := args, res := some (.bool true), after := args } = some (.bool (true == true)) from w_eq_bool (w_res rfl) w_lit) rfl
section
variable {prog : Program} {w : World} {A : Around} {E : Value -> Shared -> Prop} {s : Shared} {K : Frag}
noncomputable def noObjs (h : Heap) : Heap := { h with objs := #[] }
theorem noObjs_get (h : Heap) (b : Addr) : (noObjs h).get? b = none := by
 cases e : (noObjs h).get? b with
 | none => rfl
 | some o => exact absurd (gS e) (Nat.not_lt_zero _)
noncomputable def ledger (h : Heap) (L d : Addr) : Pn := (List.range h.objs.size).filterMap λ a => if a = L ∨ a = d then none else (h.get? a).map λ o => (a, o)
theorem mem_ledger {h : Heap} {L d a : Addr} {o : Obj} : (a, o) ∈ ledger h L d ↔ a ≠ L /\ a ≠ d /\ h.get? a = some o := by
 unfold ledger
 rw [List.mem_filterMap]
 constructor
 ·rintro ⟨b, _, e⟩
  split at e
  ·cases e
  ·rename_i hb
   obtain ⟨o', ho, e'⟩ := Option.map_eq_some_iff.mp e
   cases e'
   exact ⟨λ q => hb (.inl q), λ q => hb (.inr q), ho⟩
 ·rintro ⟨n1, n2, ho⟩
  refine ⟨a, List.mem_range.mpr (gS ho), ?_⟩
  rw [gV (show ¬ (a = L ∨ a = d) from λ q => q.elim n1 n2), ho] <;> rfl
theorem fr_all {h : Heap} {L : Addr} {m : Str -> Option Value} (n : h.Ns L m) : Fr (noObjs h) L h m :=
 ⟨n, λ b o e => (by rw [noObjs_get] at e; cases e), nW _⟩
end
end Att
namespace L2
open PySem PySem.Spec PyProof.Rows
theorem jR : ∀ {vs : List Value} {ns : List Int}, IntsAre vs ns -> aL (ns.map V.int) vs
 | _, _, .nil => .nil
 | _, _, .cons n t h => .cons ⟨t, rfl⟩ (jR h)
noncomputable def cm (s : Stmt) : Arguments := match s with
 | .FunctionDef _ a _ _ _ _ _ _ _ _ => a
 | _ => { posonlyargs := [], args := [], vararg := none, kwonlyargs := [], kw_defaults := [], kwarg := none, defaults := [] }
noncomputable def bx (s : Stmt) : List Stmt := match s with
 | .FunctionDef _ _ b _ _ _ _ _ _ _ => b
 | _ => []
noncomputable def af (s : Stmt) : Scope := match s with
 | .FunctionDef _ _ _ _ _ _ sc _ _ _ => sc
 | _ => { kind := .function, names := [], isGenerator := false, isCoroutine := false }
noncomputable abbrev nD : CXT := λ _ _ _ _ _ _ => False
noncomputable abbrev E0 : XK := λ _ _ _ => False
theorem Bi {X : Cx} : qM nD X E0 := λ _ _ _ _ _ _ _ h => h.elim
structure DT (K : Fg) (x qual : Str) (st : Stmt) (f : Addr) (fd : FuncData) : Prop where
 ex : ∃ (oc : Value) (od : Option Addr) (kV doc pm : Value) (an : Option Addr) (cdv ct : Value) (osl : Array (Option Value)),
  fd = PySem.W.fnOf x qual (cm st) (bx st) (af st) .none kV doc pm an cdv ct /\ K.lookup f = some ⟨oc, od, .func fd, osl⟩ /\ PySem.W.codeIn K cdv qual = true
 kp : PySem.W.keepIn K (.ref f) = true
section
variable {P : Program} {w : World} {K : Fg} {mg : Str -> Option Value} {base : Heap}
variable {x : Str} {qual : Str} {st : Stmt} {f : Addr}
theorem DT.ok {fd : FuncData} {N ps : List Str} {k : Nat} {sp : Sp} (F : DT K x qual st f fd) (S : aw N ps (af st)) (len : ∀ vs H Q E, sp vs H Q E -> vs.length = ps.length)
  (hbody : ∀ (cdv : Value) (A : Around) (outer : List Env) (s : Shared) (H : Hp) (vs : List V) (Q : VK) (E : XK), cP k (A.deeper (envOfC qual (af st) s.heap.objs.size f cdv)) -> sp vs H Q E ->
   ∃ t, vv (dH nD P w K mg base N qual (af st) f cdv A outer s H E).nox (bx st) t /\ t { nx := λ _ H' => Q .non H', rt := Q } (bN N vs) H) : cr P w K mg base nD (k + 1) f fd ps sp := by
 obtain ⟨oc, od, kV, doc, pm, an, cdv, ct, osl, rfl, lk, hcd⟩ := F.ex
 refine AS lk hcd S len λ A outer s H vs Q E hr hsp => ?_
 obtain ⟨t, h, q⟩ := hbody cdv A outer s H vs Q E hr hsp
 exact ⟨t, h.nox, q⟩
theorem DT.binds {fd : FuncData} {ps : List Str} (F : DT K x qual st f fd)
  (h : ∀ (kV doc pm : Value) (an : Option Addr) (cdv ct : Value) (us : List Value), us.length = ps.length -> bindArgs (PySem.W.fnOf x qual (cm st) (bx st) (af st) .none kV doc pm an cdv ct) ⟨us, []⟩ = pure (ps.zip us)) : gy K fd ps [] := by
 obtain ⟨oc, od, kV, doc, pm, an, cdv, ct, osl, rfl, lk, hcd⟩ := F.ex
 exact .all (h kV doc pm an cdv ct)
theorem kc {oc : Value} {od an : Option Addr} {osl : Array (Option Value)} {kV doc pm cdv ct : Value} (l : K.lookup f = some ⟨oc, od, .func (PySem.W.fnOf x qual (cm st) (bx st) (af st) .none kV doc pm an cdv ct), osl⟩)
  (c : PySem.W.codeIn K cdv qual = true) (k : PySem.W.keepIn K (.ref f) = true) : DT K x qual st f (PySem.W.fnOf x qual (cm st) (bx st) (af st) .none kV doc pm an cdv ct) := ⟨⟨oc, od, kV, doc, pm, an, cdv, ct, osl, rfl, l, c⟩, k⟩
end
section
variable {X : Cx}
theorem pv (i : Nat) {x : Str} {pos : Pos} (hN : X.N[i]? = some x := by rfl) (hv : Er X.env.scope x := by first | exact Or.inl rfl | exact Or.inr (Or.inl rfl) | exact Or.inr (Or.inr rfl)) (hd : (x == ("__debug__" : Str)) = false := by decide)
  (hcd : (x == ("__classdict__" : Str)) = false := by decide) : PE X (.Name x pos) (fE i) := Fa hN hv hd hcd
end
variable {A : Prop} {B : Prop}
theorem eD (h : B) : if false = true then A else B := by
 rw [gV ff]
 exact h
theorem fV (h : A) : if true = true then A else B := by
 rw [h9 rfl]
 exact h
theorem EN {c : Prop} [Decidable c] (hc : c) (h : B) : if (!decide c) = true then A else B := by
 rw [nS hc]
 exact eD h
noncomputable def am (H H' : Hp) : Prop := ∀ b o, H b = some o -> H' b = some o
theorem am.refl (H : Hp) : am H H := λ _ _ h => h
variable {H : Hp}
theorem am.trans {H1 H2 : Hp} (a : am H H1) (b : am H1 H2) : am H H2 := λ c o h => b c o (a c o h)
theorem am.free {H' : Hp} (e : am H H') {l : Addr} (h : H' l = Option.none) : H l = Option.none := by
 cases q : H l with
 | none => rfl
 | some o =>
  rw [e l o q] at h
  cases h
theorem am.seq {K : Fg} {H' : Hp} {a : Addr} {xs : List V} (e : am H H') (h : br K H a xs) : br K H' a xs := by
 rcases h with (h | ⟨o, h⟩) | h
 ·exact .inl (.inl (e _ _ h))
 ·exact .inl (.inr ⟨o, e _ _ h⟩)
 ·exact .inr h
end L2
set_option maxHeartbeats 4000000
namespace My
noncomputable def Bd (n : Nat) (x : Int) : Prop := x.natAbs < 2 ^ n
variable {n : Nat} {x : Int}
theorem Bd.mono {m : Nat} (h : Bd m x) (hn : m <= n) : Bd n x := j6 h (Nat.pow_le_pow_right (by decide) hn)
theorem Bd.neg (h : Bd n x) : Bd n (-x) := by unfold Bd at *; rw [Int.natAbs_neg]; exact h
variable {y : Int}
theorem Bd.mul {m : Nat} (h : Bd m x) (g : Bd n y) : Bd (m + n) (x * y) := by
 unfold Bd at *
 rw [Int.natAbs_mul, Nat.pow_add]
 exact Nat.mul_lt_mul'' h g
theorem Bd.add (h : Bd n x) (g : Bd n y) : Bd (n + 1) (x + y) := by
 unfold Bd at *
 rw [Nat.pow_succ]
 have := Int.natAbs_add_le x y
 omega
theorem Bd.sub (h : Bd n x) (g : Bd n y) : Bd (n + 1) (x - y) := by
 rw [Int.sub_eq_add_neg]; exact h.add g.neg
theorem Bd.mod (hy : 0 < y) (g : Bd n y) : Bd n (x % y) := by
 unfold Bd at *
 have h1 := m9 x (n8 hy)
 have h2 := lG x hy
 omega
theorem Bd.of_le (g : Bd n y) (h0 : 0 <= x) (h : x <= y) : Bd n x := by
 unfold Bd at *
 omega
theorem uT (x y : Int) (hy : 0 < y) : y * (x / y) <= x /\ x < y * (x / y) + y := by
 have h1 := Int.mul_ediv_add_emod x y
 have h2 := m9 x (n8 hy)
 have h3 := lG x hy
 omega
theorem Bd.div (hy : 0 < y) (g : Bd n x) : Bd n (x / y) := by
 unfold Bd at *
 refine Nat.lt_of_le_of_lt ?_ g
 obtain ⟨h1, h2⟩ := uT x y hy
 rcases Int.lt_or_le (x / y) 0 with h | h
 ·
  have h3 : y * (x / y + 1) <= 1 * (x / y + 1) := Int.mul_le_mul_of_nonpos_right (by omega) (by omega)
  rw [Int.mul_add, pg, Int.one_mul] at h3
  omega
 ·have h3 : 1 * (x / y) <= y * (x / y) := Int.mul_le_mul_of_nonneg_right (by omega) h
  rw [Int.one_mul] at h3
  omega
theorem gcd_step (a b : Int) : Int.gcd b (a % b) = Int.gcd a b := by
 apply Nat.dvd_antisymm
 ·apply Int.dvd_gcd
  ·have h1 : ((Int.gcd b (a % b) : Nat) : Int) ∣ b := Int.gcd_dvd_left ..
   have h2 : ((Int.gcd b (a % b) : Nat) : Int) ∣ a % b := Int.gcd_dvd_right ..
   have h3 := Int.mul_ediv_add_emod a b
   have h4 := Int.dvd_add (Int.dvd_trans h1 (Int.dvd_mul_right b (a / b))) h2
   rw [h3] at h4
   exact h4
  ·exact Int.gcd_dvd_left ..
 ·apply Int.dvd_gcd
  ·exact Int.gcd_dvd_right ..
  ·have h1 : ((Int.gcd a b : Nat) : Int) ∣ a := Int.gcd_dvd_left ..
   have h2 : ((Int.gcd a b : Nat) : Int) ∣ b := Int.gcd_dvd_right ..
   have h3 := Int.mul_ediv_add_emod a b
   have h4 : a % b = a - b * (a / b) := by omega
   rw [h4]
   exact Int.dvd_sub h1 (Int.dvd_trans h2 (Int.dvd_mul_right b (a / b)))
end My
namespace My
noncomputable def sg (t m : Int) : Int := if m < 0 then -((Int.gcd t m : Nat) : Int) else ((Int.gcd t m : Nat) : Int)
theorem IK {t m : Int} (hm : m ≠ 0) : sg t m ≠ 0 := by
 have h : 0 < Int.gcd t m := Int.gcd_pos_of_ne_zero_right t hm
 unfold sg
 split <;> omega
theorem rB (t m : Int) : sg t m ∣ t := by
 unfold sg
 split
 ·exact Int.neg_dvd.mpr (Int.gcd_dvd_left ..)
 ·exact Int.gcd_dvd_left ..
theorem pW (t m : Int) : sg t m ∣ m := by
 unfold sg
 split
 ·exact Int.neg_dvd.mpr (Int.gcd_dvd_right ..)
 ·exact Int.gcd_dvd_right ..
theorem tP {a b : Int} (hb : b ≠ 0) (h : b ∣ a) : a.fdiv b * b = a := Int.fdiv_mul_cancel h
theorem nG (t m : Int) : (sg t m).natAbs = Int.gcd t m := by
 unfold sg
 split
 ·rw [Int.natAbs_neg, Int.natAbs_natCast]
 ·rw [Int.natAbs_natCast]
structure KR (t m a b : Int) : Prop where
 pos : 0 < b
 low : Int.gcd a b = 1
 same : a * m = t * b
 ba : a.natAbs <= t.natAbs
 bb : b.natAbs <= m.natAbs
theorem made_of {t m : Int} (hm : m ≠ 0) : KR t m (t.fdiv (sg t m)) (m.fdiv (sg t m)) := by
 have hs := IK (t := t) hm
 have e1 := tP hs (rB t m)
 have e2 := tP hs (pW t m)
 have hg : 0 < Int.gcd t m := Int.gcd_pos_of_ne_zero_right t hm
 generalize ha : t.fdiv (sg t m) = a at *
 generalize hb : m.fdiv (sg t m) = b at *
 have n1 : a.natAbs * Int.gcd t m = t.natAbs := by rw [<- nG, <- Int.natAbs_mul, e1]
 have n2 : b.natAbs * Int.gcd t m = m.natAbs := by rw [<- nG, <- Int.natAbs_mul, e2]
 refine ⟨?_, ?_, ?_, ?_, ?_⟩
 ·
  unfold sg at e2
  by_cases h : m < 0
  ·rw [h9 h, Int.mul_neg] at e2
   rcases Int.lt_or_le 0 b with q | q
   ·exact q
   ·have := Int.mul_nonpos_of_nonpos_of_nonneg q (show (0 : Int) <= ((Int.gcd t m : Nat) : Int) by omega)
    omega
  ·rw [gV h] at e2
   rcases Int.lt_or_le 0 b with q | q
   ·exact q
   ·have := Int.mul_nonpos_of_nonpos_of_nonneg q (show (0 : Int) <= ((Int.gcd t m : Nat) : Int) by omega)
    omega
 ·have q : Int.gcd a b * Int.gcd t m = Int.gcd t m := by
   have h := Nat.gcd_mul_right a.natAbs (Int.gcd t m) b.natAbs
   rw [n1, n2] at h
   exact h.symm
  exact Nat.eq_of_mul_eq_mul_right hg (by rw [q, Nat.one_mul])
 ·have q : a * m = a * (b * sg t m) := by rw [e2]
  have q2 : t * b = a * sg t m * b := by rw [e1]
  rw [q, q2, Int.mul_assoc, Int.mul_comm b]
 ·rw [<- n1]; exact Nat.le_mul_of_pos_right _ hg
 ·rw [<- n2]; exact Nat.le_mul_of_pos_right _ hg
theorem Bd.of_natAbs {n : Nat} {x y : Int} (h : x.natAbs <= y.natAbs) (g : Bd n y) : Bd n x := Nat.lt_of_le_of_lt h g
theorem natAbs_abs (i : Int) : (if i < 0 then -i else i) = ((i.natAbs : Nat) : Int) := by split <;> omega
end My
namespace L2
open PySem PySem.Spec PyProof.Rows
noncomputable abbrev du (x : Int) : Prop := My.Bd 4000 x
section
variable {X : Cx}
theorem az : gH X (binaryOp .Mult) (rI (λ i j => du i /\ du j) λ i j => .int (i * j)) := Ib λ _ _ _ _ _ _ _ hc q =>
 mul_int q (IntMulOk.of_le (PySem.intBits_le_iff.mpr hc.1) (PySem.intBits_le_iff.mpr hc.2) (by decide))
theorem kD {j : Int} (h : du j) : j.natAbs.log2 < 9000 := by
 by_cases h0 : j.natAbs = 0
 ·rw [h0]; decide +kernel
 ·have h1 : j.natAbs.log2 < 4000 := (Nat.log2_lt h0).mpr h
  omega
theorem dj : gH X (binaryOp .FloorDiv) (rI (λ _ j => 0 < j /\ du j) λ i j => .int (i / j)) := Ib λ i j _ _ _ _ _ hc q => by
 have h1 : (0 : Int) < j := hc.1
 exact floordiv_int (by omega) (by rw [Int.fdiv_eq_ediv_of_nonneg i (by omega)]; exact q) (.inl (PyProof.noPylong_of_log2 (kD hc.2)))
end
theorem pY : bootBuiltins "int" = some (.type "int") := by decide +kernel
theorem wG : bootBuiltins "bool" = some (.type "bool") := by decide +kernel
theorem mm : bootBuiltins "str" = some (.type "str") := by decide +kernel
theorem kZ : bootBuiltins "list" = some (.type "list") := by decide +kernel
theorem lU : bootBuiltins "tuple" = some (.type "tuple") := by decide +kernel
theorem ij : bootBuiltins "abs" = some (.builtin "abs") := by decide +kernel
theorem hI : bootBuiltins "isinstance" = some (.builtin "isinstance") := by decide +kernel
inductive Tg where
 | non | bl | int | str | tup | lst | dic
noncomputable def Cq (K : Fg) (H : Hp) : V -> Tg -> Prop
 | .non, .non => True
 | .bl _, .bl => True
 | .int _, .int => True
 | .str _, .str => True
 | .ref a, .tup => ∃ xs, bI K H a xs
 | .ref a, .lst => ∃ xs, br K H a xs
 | .ref a, .dic => ∃ kvs, H a = some (.dK kvs)
 | _, _ => False
noncomputable def Tg.isInt : Tg -> Bool
 | .int => true | .bl => true | _ => false
noncomputable def Tg.isBool : Tg -> Bool
 | .bl => true | _ => false
noncomputable def Tg.isStr : Tg -> Bool
 | .str => true | _ => false
noncomputable def Tg.isTup : Tg -> Bool
 | .tup => true | _ => false
noncomputable def Tg.isLst : Tg -> Bool
 | .lst => true | _ => false
noncomputable def jC (K : Fg) (n : String) (f : Tg -> Bool) : List V -> Hp -> VK -> Prop := λ xs H Q => ∃ x g, xs = [x, .ty n] /\ Cq K H x g /\ Q (.bl (f g)) H
section
variable {X : Cx}
theorem lp {n : String} {f : Tg -> Bool}
  (h1 : ∀ {A : Around} {E : Value -> Shared -> Prop} {s : Shared} {Q : Value -> Shared -> Prop}, (∀ t, Q (.bool (f .non)) { s with toks := t }) -> wpAny (model X.prog X.w) A (call (.builtin "isinstance") [.none, .type n]) Q E s)
  (h2 : ∀ {A : Around} {E : Value -> Shared -> Prop} {s : Shared} {Q : Value -> Shared -> Prop} {b : Bool}, (∀ t, Q (.bool (f .bl)) { s with toks := t }) -> wpAny (model X.prog X.w) A (call (.builtin "isinstance") [.bool b, .type n]) Q E s)
  (h3 : ∀ {A : Around} {E : Value -> Shared -> Prop} {s : Shared} {Q : Value -> Shared -> Prop} {b : Int} {u : Tok}, (∀ t, Q (.bool (f .int)) { s with toks := t }) -> wpAny (model X.prog X.w) A (call (.builtin "isinstance") [.int b u, .type n]) Q E s)
  (h4 : ∀ {A : Around} {E : Value -> Shared -> Prop} {s : Shared} {Q : Value -> Shared -> Prop} {b : Str} {u : Tok}, (∀ t, Q (.bool (f .str)) { s with toks := t }) -> wpAny (model X.prog X.w) A (call (.builtin "isinstance") [.str b u, .type n]) Q E s)
  (h5 : ∀ {A : Around} {E : Value -> Shared -> Prop} {s : Shared} {Q : Value -> Shared -> Prop} {a : Addr} {o : Obj}, s.heap.get? a = some o -> o.cls = .type "tuple" -> (∀ t, Q (.bool (f .tup)) { s with toks := t }) -> wpAny (model X.prog X.w) A (call (.builtin "isinstance") [.ref a, .type n]) Q E s)
  (h6 : ∀ {A : Around} {E : Value -> Shared -> Prop} {s : Shared} {Q : Value -> Shared -> Prop} {a : Addr} {o : Obj}, s.heap.get? a = some o -> o.cls = .type "list" -> (∀ t, Q (.bool (f .lst)) { s with toks := t }) -> wpAny (model X.prog X.w) A (call (.builtin "isinstance") [.ref a, .type n]) Q E s)
  (h7 : ∀ {A : Around} {E : Value -> Shared -> Prop} {s : Shared} {Q : Value -> Shared -> Prop} {a : Addr} {o : Obj}, s.heap.get? a = some o -> o.cls = .type "dict" -> (∀ t, Q (.bool (f .dic)) { s with toks := t }) -> wpAny (model X.prog X.w) A (call (.builtin "isinstance") [.ref a, .type n]) Q E s) :
  dE X (.builtin "isinstance") (jC X.K n f) := by
 intro pins s Z H xs us Q I r h
 obtain ⟨x, g, rfl, e, q⟩ := h
 obtain ⟨u, w, rfl, rx, rw'⟩ := EE r
 cases rw'
 have fin : ∀ k : Bool, Q (.bl k) H -> ∀ t, EP X pins Z Q (.bool k) { s with toks := t } := λ k q t => ⟨.bl k, H, I.tok t, rfl, q⟩
 cases x with
 | non => cases g <;> first | exact (show False from e).elim | (cases rx; exact h1 (fin _ q))
 | bl b => cases g <;> first | exact (show False from e).elim | (cases rx; exact h2 (fin _ q))
 | int i => cases g <;> first | exact (show False from e).elim | (obtain ⟨t, rfl⟩ := rx; exact h3 (fin _ q))
 | str y => cases g <;> first | exact (show False from e).elim | (obtain ⟨t, rfl⟩ := rx; exact h4 (fin _ q))
 | ref a =>
  cases rx
  cases g with
  | tup =>
   obtain ⟨xs, hx⟩ := (show ∃ xs, bI X.K H a xs from e)
   obtain ⟨its, _, ⟨o, ho, hc, _⟩, _⟩ := I.tuple hx
   exact h5 ho hc (fin _ q)
  | lst =>
   obtain ⟨xs, hx⟩ := (show ∃ xs, br X.K H a xs from e)
   obtain ⟨its, _, ⟨o, n, ho, hc, _⟩, _⟩ := I.list hx
   exact h6 ho hc (fin _ q)
  | dic =>
   obtain ⟨kvs, hx⟩ := (show ∃ kvs, H a = some (.dK kvs) from e)
   obtain ⟨_, _, vs, _, o, es, ep, ho, hc, _⟩ := (show cj X.prog X.w H s.heap a (.dK kvs) from I.hok a _ hx)
   exact h7 ho hc.1 (fin _ q)
  | non => exact (show False from e).elim
  | bl => exact (show False from e).elim
  | int => exact (show False from e).elim
  | str => exact (show False from e).elim
 | _ => exact (show False from e).elim
theorem wQ : dE X (.builtin "isinstance") (jC X.K "int" Tg.isInt) := lp (λ q => IsiPair.NoneType_int (q _)) (λ q => IsiPair.bool_int (q _)) (λ q => IsiPair.int_int (q _)) (λ q => IsiPair.str_int (q _))
 (λ ho hc q => n9 (isinstance_false_tuple (by decide) PySem.F.isi_meta_int PySem.F.sub_tuple_int) ⟨⟨_, ho, hc⟩, q _⟩) (λ ho hc q => n9 (isinstance_false_list (by decide) PySem.F.isi_meta_int PySem.F.sub_list_int) ⟨⟨_, ho, hc⟩, q _⟩) (λ ho hc q => n9 (isinstance_false_dict (by decide) PySem.F.isi_meta_int PySem.F.sub_dict_int) ⟨⟨_, ho, hc⟩, q _⟩)
theorem tN : dE X (.builtin "isinstance") (jC X.K "bool" Tg.isBool) := lp (λ q => IsiPair.NoneType_bool (q _)) (λ q => IsiPair.bool_bool (q _)) (λ q => IsiPair.int_bool (q _)) (λ q => IsiPair.str_bool (q _))
 (λ ho hc q => n9 (isinstance_false_tuple (by decide) PySem.F.isi_meta_bool PySem.F.sub_tuple_bool) ⟨⟨_, ho, hc⟩, q _⟩) (λ ho hc q => n9 (isinstance_false_list (by decide) PySem.F.isi_meta_bool PySem.F.sub_list_bool) ⟨⟨_, ho, hc⟩, q _⟩) (λ ho hc q => n9 (isinstance_false_dict (by decide) PySem.F.isi_meta_bool PySem.F.sub_dict_bool) ⟨⟨_, ho, hc⟩, q _⟩)
theorem iR : dE X (.builtin "isinstance") (jC X.K "str" Tg.isStr) := lp (λ q => IsiPair.NoneType_str (q _)) (λ q => IsiPair.bool_str (q _)) (λ q => IsiPair.int_str (q _)) (λ q => IsiPair.str_str (q _))
 (λ ho hc q => n9 (isinstance_false_tuple (by decide) PySem.F.isi_meta_str PySem.F.sub_tuple_str) ⟨⟨_, ho, hc⟩, q _⟩) (λ ho hc q => n9 (isinstance_false_list (by decide) PySem.F.isi_meta_str PySem.F.sub_list_str) ⟨⟨_, ho, hc⟩, q _⟩) (λ ho hc q => n9 (isinstance_false_dict (by decide) PySem.F.isi_meta_str PySem.F.sub_dict_str) ⟨⟨_, ho, hc⟩, q _⟩)
theorem ni : dE X (.builtin "isinstance") (jC X.K "tuple" Tg.isTup) := lp (λ q => IsiPair.NoneType_tuple (q _)) (λ q => IsiPair.bool_tuple (q _)) (λ q => IsiPair.int_tuple (q _)) (λ q => IsiPair.str_tuple (q _))
 (λ ho hc q => n9 (isinstance_true (Tx := "tuple") PySem.F.isi_meta_tuple PySem.F.sub_tuple_tuple) ⟨⟨_, ho, hc⟩, q _⟩) (λ ho hc q => n9 (isinstance_false_list (by decide) PySem.F.isi_meta_tuple PySem.F.sub_list_tuple) ⟨⟨_, ho, hc⟩, q _⟩) (λ ho hc q => n9 (isinstance_false_dict (by decide) PySem.F.isi_meta_tuple PySem.F.sub_dict_tuple) ⟨⟨_, ho, hc⟩, q _⟩)
theorem rD : dE X (.builtin "isinstance") (jC X.K "list" Tg.isLst) := lp (λ q => IsiPair.NoneType_list (q _)) (λ q => IsiPair.bool_list (q _)) (λ q => IsiPair.int_list (q _)) (λ q => IsiPair.str_list (q _))
 (λ ho hc q => n9 (isinstance_false_tuple (by decide) PySem.F.isi_meta_list PySem.F.sub_tuple_list) ⟨⟨_, ho, hc⟩, q _⟩) (λ ho hc q => n9 (isinstance_true (Tx := "list") PySem.F.isi_meta_list PySem.F.sub_list_list) ⟨⟨_, ho, hc⟩, q _⟩) (λ ho hc q => n9 (isinstance_false_dict (by decide) PySem.F.isi_meta_list PySem.F.sub_dict_list) ⟨⟨_, ho, hc⟩, q _⟩)
theorem cS {e : Expr} {te : TE} {n : Str} {T : String} {f : Tg -> Bool} {p p2 pos : Pos} (hc : dE X (.builtin "isinstance") (jC X.K T f)) (hg : Gl X "isinstance") (hg2 : Gl X n) (hm : X.mg "isinstance" = none) (hm2 : X.mg n = none) (hb : bootBuiltins n = some (.type T)) (he : PE X e te)
  (hn : n ≠ "__name__" := by decide) (hd : (n == ("__debug__" : Str)) = false := by decide)
  (hs1 : starEach [e, .Name n p2] X.env = (false, eval e X.env) :: starEach [.Name n p2] X.env := by rfl) (hs2 : starEach [.Name n p2] X.env = (false, eval (.Name n p2) X.env) :: starEach [] X.env := by rfl)
  (hpl : (backTo pos (starEach [.Name n p2] X.env)).any (·.1) = false := by rfl) :
  PE X (.Call (.Name "isinstance" p) [e, .Name n p2] [] pos) (GM (jC X.K T f) (bq te (bq (tC (.ty T)) tNil))) :=
 aV hc hg hm hI (ae he (ae (oV (v := .ty T) hg2 hm2 hb rfl hn hd) aA hs2) hs1) (by decide) (by decide) hs1 hpl
end
theorem am.new {H : Hp} {p : Addr} (h : H p = none) (o : HO) : am H (upd H p o) := λ b u q => by rw [ag (aH q h)]; exact q
theorem am.tup {K : Fg} {H H' : Hp} {a : Addr} {xs : List V} (e : am H H') (h : bI K H a xs) : bI K H' a xs := by
 rcases h with (h | ⟨o, h⟩) | h
 ·exact .inl (.inl (e _ _ h))
 ·exact .inl (.inr ⟨o, e _ _ h⟩)
 ·exact .inr h
structure CN (K : Fg) (x qual : Str) (st : Stmt) (f : Addr) (fd : FuncData) : Prop where
 ex : ∃ (oc : Value) (od : Option Addr) (dV kV doc pm : Value) (an : Option Addr) (cdv ct : Value) (osl : Array (Option Value)),
  fd = PySem.W.fnOf x qual (cm st) (bx st) (af st) dV kV doc pm an cdv ct /\ K.lookup f = some ⟨oc, od, .func fd, osl⟩ /\ PySem.W.codeIn K cdv qual = true
 kp : PySem.W.keepIn K (.ref f) = true
theorem CY {K : Fg} {x qual : Str} {st : Stmt} {f : Addr} {oc : Value} {od an : Option Addr} {osl : Array (Option Value)} {dV kV doc pm cdv ct : Value} (l : K.lookup f = some ⟨oc, od, .func (PySem.W.fnOf x qual (cm st) (bx st) (af st) dV kV doc pm an cdv ct), osl⟩)
  (c : PySem.W.codeIn K cdv qual = true) (k : PySem.W.keepIn K (.ref f) = true) : CN K x qual st f (PySem.W.fnOf x qual (cm st) (bx st) (af st) dV kV doc pm an cdv ct) := ⟨⟨oc, od, dV, kV, doc, pm, an, cdv, ct, osl, rfl, l, c⟩, k⟩
section
variable {X : Cx}
theorem oj : gH X (binaryOp .FloorDiv) (rI (λ _ j => j ≠ 0 /\ du j) λ i j => .int (i.fdiv j)) := Ib λ _ _ _ _ _ _ _ hc q => floordiv_int hc.1 q (.inl (PyProof.noPylong_of_log2 (kD hc.2)))
end
end L2
namespace PySem
theorem Obj.dict_mapFields (o : Obj) (f : Array Value -> Array Value) : (Obj.mapFields f o).dict = o.dict := by
 obtain ⟨c, d, dt, sl⟩ := o
 cases dt <;> rfl
noncomputable def Heap.TrX (h base : Heap) (e : Addr) (cls : Value) (dx : Option Addr) (fl : Value) : Prop :=
 ∃ (x : Obj) (vs : Array Value) (T : Addr) (y : Obj) (ts : Array Value), h.get? e = some x /\ (x.cls = cls /\ x.dict = dx /\ (dx = none -> vs[2]? = some .none)) /\ x.data = .fields vs /\ vs[1]? = some (.ref T) /\ base.get? T = none /\ T ≠ e /\
  h.get? T = some y /\ y.data = .fields ts /\ ts[3]? = some fl
noncomputable def Heap.OnX (base : Heap) (l : List Env) (e : Addr) (cls : Value) (dx : Option Addr) (fl : Value) (h : Heap) : Prop := base.StaysIn h /\ base.get? e = none /\ h.FunFrames base l /\ h.TrX base e cls dx fl
noncomputable abbrev Heap.FlyX (base : Heap) (l : List Env) (e : Addr) (cls : Value) (dx : Option Addr) (h : Heap) : Prop := Heap.OnX base l e cls dx .none h
section
variable {M : Model} {A : Around} {E : Value -> Shared -> Prop} {s : Shared} {base : Heap} {env : Env} {outer l : List Env} {L e : Addr} {cls : Value} {dx : Option Addr} {Q : Unit -> Shared -> Prop}
theorem noteX {x : Obj} {vs : Array Value} {head : Value} {more : Bool} (hA : A.frames = some (env :: outer)) (hF : s.heap.FunFrames base (env :: outer)) (hL : env.frame = some L)
  (hx : s.heap.get? e = some x) (hB : base.StaysIn s.heap) (hn : base.get? e = none) (hv : x.data = .fields vs) (h2 : 1 < vs.size) (hc2 : x.dict = none -> vs[2]? = some .none)
  (k : ∀ h', Heap.OnX base (env :: outer) e x.cls x.dict (rawInt L) h' -> s.heap.UpToSlots h' -> Q () { s with heap := h' }) :
  wpAny M A (do let a <- frameOf env; let pl <- entryPlaceOf L more; let b <- EntryCells.newEntry head a .none (rawInt L) .none pl; setField (.ref e) 1 b) Q E s := by
 have out : e ∉ (env :: outer).filterMap (·.frame) := λ z => by
  obtain ⟨_, o, ho, hnf⟩ := hF.mem z
  rw [hx] at ho; cases ho; exact hnf vs hv
 refine bf (wpAny_frameOf_fun hA hF hL λ g sg => ?_)
 refine bf (wpAny_entryPlaceOf λ pl hpl => ?_)
 unfold EntryCells.newEntry newFields
 refine bf (wpAny_newObj_type ?_ (hpl.sizeOk5 _ _ _ _ _))
 have x1 : g.get? e = some x := (sg.2.1 e out).trans hx
 have B1 : base.StaysIn g := λ b o q => (sg.2.1 b λ z => by rw [(hF.mem z).1] at q; cases q).trans (hB b o q)
 have x2 := cp (h := g) { cls := .type "traceback", dict := none, data := .fields ([head, .ref L, .none, rawInt L, .none] ++ (if pl.isEmpty then List.replicate 6 Value.none else pl)).toArray } x1
 refine wpAny_setField x2 hv h2 (k _ ?_ ?_)
 all_goals have neT : g.objs.size ≠ e := Nat.ne_of_gt (gS x1)
 all_goals have kp : ∀ b o, b ≠ e -> g.get? b = some o -> ((g.push { cls := .type "traceback", dict := none, data := .fields ([head, .ref L, .none, rawInt L, .none] ++ (if pl.isEmpty then List.replicate 6 Value.none else pl)).toArray }).update e (Obj.mapFields (·.setIfInBounds 1 (Value.ref g.objs.size)))).get? b = some o := λ b o hb q => (Heap.get?_update_other _ _ (Ne.symm hb)).trans (cp _ q)
 all_goals have nr : ∀ b o, s.heap.get? b = some o -> (∀ vs, o.data ≠ .fields vs) -> b ≠ e := λ b o q hnf z => by rw [z, hx] at q; cases q; exact hnf vs hv
 ·have hv3 := Obj.data_mapFields hv (·.setIfInBounds 1 (Value.ref g.objs.size))
  refine ⟨λ b o q => kp b o (λ z => by rw [z, hn] at q; cases q) (B1 b o q), hn, hF.of_keeps λ b o q hnf => ?_, ?_⟩
  ·obtain ⟨sl, q2⟩ := sg.2.2 b o q
   exact ⟨_, kp b _ (nr b o q hnf) q2, rfl⟩
  ·exact ⟨_, _, g.objs.size, _, _, Heap.get?_update_self _ x2 (Obj.isFreed_of_fields hv3), ⟨Obj.cls_mapFields _ _, Obj.dict_mapFields _ _, λ z => by rw [Array.getElem?_setIfInBounds_ne (by decide)]; exact hc2 z⟩, hv3, by simp [h2], B1.fresh, neT, (Heap.get?_update_other _ _ (Ne.symm neT)).trans (kH g rfl), rfl, by
    first | (simp; done) | (rcases hpl with rfl | ⟨_, _, _, _, _, _, _, rfl⟩ <;> simp)⟩
 ·intro b o q hnf
  obtain ⟨sl, q2⟩ := sg.2.2 b o q
  exact ⟨sl, kp b _ (nr b o q hnf) q2⟩
theorem landsX {fl : Value} (z : Heap.OnX base l e cls dx fl s.heap) (k : ∀ h', Heap.FlyX base l e cls dx h' -> s.heap.UpToSlots h' -> Q () { s with heap := h' }) : wpAny M A (setFlight (.ref e) none) Q E s := by
 obtain ⟨hB, hn, hF, x, vs, T, y, ts, hx, hc, hv, h1, nT, Te, hT, hy, h3⟩ := z
 have ot : ∀ b, b ≠ T -> (s.heap.update T (Obj.mapFields (·.setIfInBounds 3 ((none : Option Addr).elim Value.none λ f => rawInt f)))).get? b = s.heap.get? b := λ b hb => Heap.get?_update_other _ _ (Ne.symm hb)
 have nr : ∀ b o, s.heap.get? b = some o -> (∀ vs, o.data ≠ .fields vs) -> b ≠ T := λ b o q hnf z => by rw [z, hT] at q; cases q; exact hnf ts hy
 have sz := (Array.getElem?_eq_some_iff.mp h3).1
 unfold setFlight
 refine bf (wpAny_field hx hv h1 ?_)
 rw [h9 (show (Value.ref T != Value.none) = true from by simp)]
 refine wpAny_setField hT hy sz (k _ ⟨λ b o q => (ot b λ z => by rw [z, nT] at q; cases q).trans (hB b o q), hn, hF.of_keeps λ b o q hnf => ⟨o, (ot b (nr b o q hnf)).trans q, rfl⟩,
  x, vs, T, _, _, (ot e (Ne.symm Te)).trans hx, hc, hv, h1, nT, Te, Heap.get?_update_self _ hT (Obj.isFreed_of_fields (Obj.data_mapFields hy _)), Obj.data_mapFields hy _, by simp [sz]⟩
  λ b o q hnf => ⟨o.slots, (ot b (nr b o q hnf)).trans q⟩)
theorem leavesNewX {x : Obj} {vs : Array Value} (hA : A.frames = some (env :: outer)) (hL : env.frame = some L) (hB : base.StaysIn s.heap) (hF : s.heap.FunFrames base (env :: outer)) (hx : s.heap.get? e = some x) (hn : base.get? e = none) (hv : x.data = .fields vs) (h1 : vs[1]? = some .none) (hc2 : x.dict = none -> vs[2]? = some .none)
  (k : ∀ h', Heap.FlyX base outer e x.cls x.dict h' -> s.heap.UpToSlots h' -> Q () { s with heap := h' }) : wpAny M A (leaving env (.ref e)) Q E s := by
 unfold leaving noteFrame
 simp only [hL]
 refine bf (bf (wpAny_field hx hv h1 ?_))
 rw [gV (by decide)]
 refine noteX hA hF hL hx hB hn hv (Array.getElem?_eq_some_iff.mp h1).1 hc2 λ g1 z1 u1 => ?_
 refine landsX (s := { s with heap := g1 }) z1 λ g2 z2 u2 => ?_
 obtain ⟨k1, k2, ⟨_, _, k3⟩, k4⟩ := z2
 exact k g2 ⟨k1, k2, k3, k4⟩ (u1.trans u2)
end
end PySem
namespace L2
open PySem PySem.Spec PyProof.Rows
noncomputable def oA (P : Program) (w : World) : CXT := λ outer H s E e s' => ∃ (a C : Addr) (dx : Option Addr) (H' : Hp) (B : Heap),
 e = .ref a /\ s'.os = s.os /\ AllBare s'.gens /\ Un (fS outer) [] H H' s.heap s'.heap /\ iB P w H' B /\ Heap.FlyX B outer a (.ref C) dx s'.heap /\
 (∀ b o, s.heap.get? b = some o -> H b = none -> b ∉ fS outer -> B.get? b = some o) /\ (∀ b o, s.heap.get? b = some o -> b ∉ fS outer -> ∃ o', B.get? b = some o') /\ E (.ref C) dx H'
theorem bP {P : Program} {w : World} {X : Cx} : qM (oA P w) X E0 := λ _ _ _ _ _ _ _ h => by
 obtain ⟨_, _, _, _, _, _, _, _, _, _, _, _, _, q⟩ := h
 exact q.elim
section
variable {P : Program} {w : World} {K : Fg} {mg : Str -> Option Value} {base : Heap} {N : List Str} {qual : Str} {scope : Scope} {f : Addr} {cd : Value} {A : Around} {outer : List Env} {s : Shared} {H : Hp} {E : XK}
 {pins : Pn} {Z : St} {H1 : Hp} {s1 : Shared}
theorem Cl {CX : CXT} {b : Addr} : b ∈ fS (dH CX P w K mg base N qual scope f cd A outer s H E).stack ↔ b = s.heap.objs.size ∨ b ∈ fS outer := by
 show b ∈ (envOfC qual scope s.heap.objs.size f cd :: outer).filterMap (·.frame) ↔ _
 rw [o8]
 exact j3
theorem yk {h' : Heap} {e C : Addr} {vs : List Value} (I : ay (dH (oA P w) P w K mg base N qual scope f cd A outer s H E) pins Z H1 s1) (hx : Heap.MadeExcOf s1.heap h' e (.ref C) vs) (q : E (.ref C) none H1) :
  (dH (oA P w) P w K mg base N qual scope f cd A outer s H E).xe (.ref e) { s1 with heap := h' } := by
 have hin : ∀ env ∈ (dH (oA P w) P w K mg base N qual scope f cd A outer s H E).stack, ∀ b, env.frame = some b -> b ∈ fS (dH (oA P w) P w K mg base N qual scope f cd A outer s H E).stack := λ env he b hb => List.mem_filterMap.mpr ⟨env, he, hb⟩
 have toB : ∀ b o, s1.heap.get? b = some o -> b ∉ fS (dH (oA P w) P w K mg base N qual scope f cd A outer s H E).stack -> (PySem.W.hideAll s1.heap (fS (dH (oA P w) P w K mg base N qual scope f cd A outer s H E).stack)).get? b = some o := λ b o e n => PySem.W.hideAll_get _ e n
 have hl := PySem.W.funFrames_hide (as := fS (dH (oA P w) P w K mg base N qual scope f cd A outer s H E).stack) I.stack hin
 have nstk : ∀ b o, s.heap.get? b = some o -> b ∉ fS outer -> b ∉ fS (dH (oA P w) P w K mg base N qual scope f cd A outer s H E).stack := λ b o e n z => by
  rcases Cl.mp z with z | z
  ·rw [z] at e
   exact absurd (gS e) (Nat.lt_irrefl _)
  ·exact n z
 have hB : iB P w H1 (PySem.W.hideAll s1.heap (fS (dH (oA P w) P w K mg base N qual scope f cd A outer s H E).stack)) := λ b u eu => (I.hok b u eu).stay (λ c v hc q => toB c v q λ z => by
  have n := I.stkFree c z
  rcases hc with hc | hc
  ·rw [hc, eu] at n; cases n
  ·rw [hc] at n; cases n) (λ _ q => q) λ _ _ q => q
 obtain ⟨tt, hmade, _, _⟩ := hx.there
 have fresh : (PySem.W.hideAll s1.heap (fS (dH (oA P w) P w K mg base N qual scope f cd A outer s H E).stack)).get? e = none := by
  cases z : (PySem.W.hideAll s1.heap (fS (dH (oA P w) P w K mg base N qual scope f cd A outer s H E).stack)).get? e with
  | none => rfl
  | some o => have := PySem.W.of_hideAll _ z; rw [hx.new] at this; cases this
 refine leavesNewX (base := PySem.W.hideAll s1.heap (fS (dH (oA P w) P w K mg base N qual scope f cd A outer s H E).stack)) (s := { s1 with heap := h' }) I.ok.frames rfl (λ b o q => hx.keeps b o (PySem.W.of_hideAll _ q)) (hl.of_keeps λ b o q _ => ⟨o, hx.keeps b o q, rfl⟩) hmade fresh rfl rfl (λ _ => rfl) λ h2 fl us => ?_
 refine ⟨e, C, none, H1, _, rfl, I.os, I.bare, ?_, hB, fl, ?_, ?_, q⟩
 ·have cs : ∀ b ∈ fS outer, ∀ o, s1.heap.get? b = some o -> ∃ sl, h2.get? b = some { o with slots := sl } := λ b hb o e => by
   obtain ⟨_, o', e', hd⟩ := I.funs.mem hb
   rw [e] at e'; cases e'
   exact us b o (hx.keeps b o e) hd
  exact {
   keep := λ b o e n hb _ => fl.1 b o (toB b o (I.base.keep b o e n hb (by exact λ z => nomatch z)) (nstk b o e hb))
   slot := λ b o e n hb _ => by
    obtain ⟨sl, e1⟩ := I.base.slot b o e n hb (by exact λ z => nomatch z)
    obtain ⟨sl', e2⟩ := cs b hb _ e1
    exact ⟨sl', e2⟩
   free := λ b o e n _ => I.base.free b o e n (by exact λ z => nomatch z)
   there := λ b o e _ => by
    obtain ⟨o', e1⟩ := I.base.there b o e (by exact λ z => nomatch z)
    by_cases hb : b ∈ fS outer
    ·obtain ⟨sl, e2⟩ := cs b hb _ e1
     exact ⟨_, e2⟩
    ·exact ⟨o', fl.1 b o' (toB b o' e1 (nstk b o e hb))⟩
   tups := I.base.tups
   frzs := I.base.frzs
   tbls := I.base.tbls }
 ·exact λ b o e n hb => toB b o (I.base.keep b o e n hb (by exact λ z => nomatch z)) (nstk b o e hb)
 ·intro b o e hb
  obtain ⟨o', e1⟩ := I.base.there b o e (by exact λ z => nomatch z)
  exact ⟨o', toB b o' e1 (nstk b o e hb)⟩
theorem CN.okE {x qual : Str} {st : Stmt} {f : Addr} {fd : FuncData} {N ps : List Str} {k : Nat} {sp : Sp} (F : CN K x qual st f fd) (S : aw N ps (af st)) (len : ∀ vs H Q E, sp vs H Q E -> vs.length = ps.length)
  (hbody : ∀ (cdv : Value) (A : Around) (outer : List Env) (s : Shared) (H : Hp) (vs : List V) (Q : VK) (E : XK), cP k (A.deeper (envOfC qual (af st) s.heap.objs.size f cdv)) -> sp vs H Q E ->
   ∃ t, vv (dH (oA P w) P w K mg base N qual (af st) f cdv A outer s H E) (bx st) t /\ t { nx := λ _ H' => Q .non H', rt := Q } (bN N vs) H) : cr P w K mg base (oA P w) (k + 1) f fd ps sp := by
 obtain ⟨oc, od, dV, kV, doc, pm, an, cdv, ct, osl, rfl, lk, hcd⟩ := F.ex
 exact AS lk hcd S len λ A outer s H vs Q E hr hsp => hbody cdv A outer s H vs Q E hr hsp
end
abbrev Fk : List Value := [.type "ValueError", .type "Exception", .type "BaseException", .type "object"]
theorem rF {p : Program} {mg mb : Str -> Option Value} {h : Heap} (g : h.Ns mainGlobals mg) (b : h.Ns builtinsNs mb) (nl : h.NoLimit) (bl : ∀ x : Str, x ≠ "__name__" -> mb x = bootBuiltins x) :
  ∃ loose, PySem.W.TopRead p loose mg mb h := by
 obtain ⟨o, es, ep, ho, hd, hk, hm⟩ := id g
 refine ⟨es.toList.filterMap (λ (e : DictEntry) => match e.key with | .str n _ => some n | _ => none), ⟨g, b, nl, bl, λ x _ hx _ _ _ => ?_⟩⟩
 rw [<- hm x]
 unfold nsFind findBy
 rw [Option.map_eq_none_iff, Array.find?_eq_none]
 intro e he hs
 obtain ⟨n, t, hn⟩ := hk e he
 apply hx
 refine List.mem_filterMap.mpr ⟨e, Array.mem_toList_iff.mpr he, ?_⟩
 rw [hn] at hs ⊢
 have e2 : n = x := by simpa [Value.isStr] using hs
 rw [e2]
noncomputable def GT (C : Addr) (E : XK) (t : TA) : TS := λ _ Z H => t Z H λ vs H1 => vs.length <= sizeLine /\ E (.ref C) none H1
noncomputable def AO (X : Cx) (C : Addr) (E : XK) : Prop := ∀ (pins : Pn) (Z : St) (H : Hp) (s : Shared) (h' : Heap) (e : Addr) (vs : List Value), ay X pins Z H s -> Heap.MadeExcOf s.heap h' e (.ref C) vs -> E (.ref C) none H -> X.xe (.ref e) { s with heap := h' }
theorem xb {P : Program} {w : World} {K : Fg} {mg : Str -> Option Value} {base : Heap} {N : List Str} {qual : Str} {scope : Scope} {f C : Addr} {cd : Value} {A : Around} {outer : List Env} {s : Shared} {H : Hp} {E : XK} :
  AO (dH (oA P w) P w K mg base N qual scope f cd A outer s H E) C E := λ _ _ _ _ _ _ _ I me q => yk I me q
section
variable {X : Cx} {E : XK} {x : Str} {np cpos pos : Pos} {e0 : Expr} {es : List Expr} {t : TA} {C : Addr}
theorem sC (hc : X.calm = true) (O : PySem.W.excIn X.K C Fk "ValueError.__new__" = true) (hn : PySem.W.nsIn X.K mainGlobals x = some (some (.ref C))) (hm : X.mg x = some (.ref C)) (hg : Gl X x) (hx : AO X C E) (ha : PA X (e0 :: es) t)
  (hd : (x == ("__debug__" : Str)) = false := by decide) (he : starEach (e0 :: es) X.env = (false, eval e0 X.env) :: starEach es X.env := by rfl) (hpl : (backTo cpos (starEach es X.env)).any (·.1) = false := by rfl) :
  PS X (.Raise (some (.Call (.Name x np) (e0 :: es) [] cpos)) none pos) (GT C E t) := by
 intro pins s Z H D I h
 obtain ⟨mb, b1, b2⟩ := I.mod.blt
 obtain ⟨loose, TR⟩ := rF (p := X.prog) I.mod.glob b1 I.mod.nolimit b2
 have OC := PySem.W.own_of_in I.mod.kin TR hn O
 obtain ⟨tl, Nn, nm, qq, bs, hdct, sn, sub, ab, col, dd, k0, k1, k2, k3, k5, mN, oC, oN, oi, oT⟩ := OC.obj
 have hp2 : (backTo cpos (starEach (e0 :: es) X.env)).any (·.1) = false := by
  rw [he]
  show (false || (backTo cpos (starEach es X.env)).any (·.1)) = false
  rw [hpl]
  rfl
 refine wpAny_Raise_call_subU (C := C) (nm := nm) (q := qq) (N := Nn) (bs := bs) (bm := tl) (hdct := hdct) (sn := sn) (sub := sub) (ab := ab) (col := col) (dd := dd) (k0 := k0) (k1 := k1) (k2 := k2) (k3 := k3) (k5 := k5)
  PySem.F.excBase_ValueError (by decide) PySem.F.excBase_ValueError (mN := mN) (oT.hasType PySem.F.excBase_ValueError.hasBase) (I.ok.hd hc) hp2 oi (qA I hg hm ⟨rfl, ?_⟩ hd)
 have hA := ha cpos pins s Z H _ I h
 rw [he] at hA ⊢
 refine Calls.evalArgs_plain (bO hA λ us s2 ⟨vs, H2, I2, r2, hl, q⟩ => ⟨rfl, by rw [<- r2.length]; exact hl, I2.bk _ _ oC, oN.keeps I2.bk, oT.keeps I2.bk, λ h' e me => hx pins Z H2 s2 h' e us I2 me q⟩)
end
section
variable {prog : Program} {w : World} {A : Around} {R : Result -> Shared -> Prop} {s : Shared}
noncomputable abbrev NB (prog : Program) (w : World) (A : Around) (env : Env) (R : Result -> Shared -> Prop) : Value -> Shared -> Prop := notedBy (model prog w) A env λ e s' => R (.error e) s'
theorem oy {elt tg iter : Expr} {scope : Scope} {pos : Pos} {itv acc : Value} {env : Env} (J : Nat -> Shared -> Prop)
  (turn : ∀ n s, J n s -> wpAny (model prog w) A (pyNext itv) (λ r s1 => match r with
   | none => R (.ok .next) s1
   | some v => wpAny (model prog w) A (letOwnedTupleGo tg itv v) (λ _ s2 => wpAny (model prog w) A (assign tg env v) (λ _ s3 => wpAny (model prog w) A (eval elt env) (λ x s4 =>
     wpAny (model prog w) A (call (.builtin "list.append") [acc, x]) (λ _ s5 => ∃ m, m < n /\ J m s5) (NB prog w A env R) s4) (NB prog w A env R) s3) (NB prog w A env R) s2) (NB prog w A env R) s1) (NB prog w A env R) s)
  (n : Nat) (h : J n s) : codeAny (model prog w) A (.compLoop (.ListComp elt [⟨tg, iter, [], 0⟩] scope pos) 0 itv acc env) R s := by
 refine codeAny_loop rfl J (λ n s hJ => ?_) n h
 show wpAny _ _ ((compTurn (.ListComp elt [⟨tg, iter, [], 0⟩] scope pos) 0 itv acc env).onRaise (λ x => do noteFrame x env; theTreesLotGoes x)) _ _ s
 refine wpAny_noted ?_
 rw [compTurn_list1]
 refine bf (wpAny_standAt (bf (mW (turn n s hJ) (λ r s1 z => ?_) λ _ _ q => q)))
 match r, z with
 | none, z => exact i7 z
 | some v, z =>
  exact bf (mW z (λ _ s2 z => bf (mW z (λ _ s3 z => bf (bf (mW z (λ x s4 z =>
   bf (mW z (λ _ s5 z => i7 (i7 ⟨rfl, z⟩)) λ _ _ q => q)) λ _ _ q => q))) λ _ _ q => q)) λ _ _ q => q)
end
theorem fh {env : Env} : ∀ (names : List (Str × NameKind)) (acc : List (Str × Addr)), (∀ y ∈ names, y.2 = .free -> ∃ c, env.cells.lookup y.1 = some c) -> (∀ x c, acc.lookup x = some c -> env.cells.lookup x = some c) ->
  ∃ cl, (forIn names acc (λ (x : Str × NameKind) cs => if (x.2 == NameKind.free) = true then (do let __do_lift <- cellOf env x.1; pure (ForInStep.yield ((x.1, __do_lift) :: cs))) else pure (ForInStep.yield cs)) : Sem (List (Str × Addr))) = pure cl /\
   (∀ x c, cl.lookup x = some c -> env.cells.lookup x = some c) /\ (∀ x, (∃ c, acc.lookup x = some c) -> ∃ c, cl.lookup x = some c) /\ ∀ y ∈ names, y.2 = .free -> ∃ c, cl.lookup y.1 = some c
 | [], acc, _, ha => ⟨acc, rfl, ha, λ _ h => h, λ _ h => nomatch h⟩
 | y :: r, acc, hn, ha => by
  by_cases hf : y.2 = .free
  ·obtain ⟨c, hc⟩ := hn y i9 hf
   obtain ⟨cl, e, h1, h2, h3⟩ := fh r ((y.1, c) :: acc) (λ z hz => hn z (j7 _ hz)) (λ x d e => by
    rw [nR] at e
    cases q : x == y.1 with
    | true => rw [q] at e; cases e; rw [eq_of_beq q]; exact hc
    | false => rw [q] at e; exact ha x d e)
   refine ⟨cl, ?_, h1, λ x ⟨d, hd⟩ => h2 x ?_, λ z hz zf => ?_⟩
   ·rw [List.forIn_cons, h9 (by rw [hf]; rfl)]
    have ec : cellOf env y.1 = pure c := by unfold cellOf; rw [hc]
    rw [ec]
    exact e
   ·rw [nR]
    cases q : x == y.1 with
    | true => exact ⟨c, rfl⟩
    | false => exact ⟨d, hd⟩
   ·rcases j3.mp hz with z1 | z1
    ·subst z1
     exact h2 z.1 ⟨c, by rw [nR, beq_self_eq_true]⟩
    ·exact h3 z z1 zf
  ·obtain ⟨cl, e, h1, h2, h3⟩ := fh r acc (λ z hz => hn z (j7 _ hz)) ha
   refine ⟨cl, ?_, h1, h2, λ z hz zf => ?_⟩
   ·rw [List.forIn_cons, gV (by simpa using hf)]
    exact e
   ·rcases j3.mp hz with z1 | z1
    ·subst z1; exact absurd zf hf
    ·exact h3 z z1 zf
theorem fv {env : Env} {sc : Scope} (h : ∀ y ∈ sc.names, y.2 = .free -> ∃ c, env.cells.lookup y.1 = some c) :
  ∃ cl, closureFor sc env = pure cl /\ (∀ x c, cl.lookup x = some c -> env.cells.lookup x = some c) /\ ∀ y ∈ sc.names, y.2 = .free -> ∃ c, cl.lookup y.1 = some c := by
 obtain ⟨cl, e, h1, _, h3⟩ := fh sc.names [] h (λ x c e => by simp at e)
 refine ⟨cl, ?_, h1, h3⟩
 unfold closureFor
 simp only [e]
 rfl
structure tY (X : Cx) (tg : Str) (sc : Scope) (fr : List (Str × Nat)) : Prop where
 kind : sc.kind = .function
 nocell : ∀ y ∈ sc.names, y.2 ≠ .cell
 locs : ∀ y ∈ sc.names, y.2 = .local -> sc.names.lookup y.1 = some .local
 tgl : sc.names.lookup tg = some .local
 fre : ∀ y ∈ sc.names, y.2 = .free -> X.env.scope.names.lookup y.1 = some .cell ∨ X.env.scope.names.lookup y.1 = some .free
 nd : (tg :: fr.map (·.1)).Nodup
 vis : ∀ p ∈ fr, X.N[p.2]? = some p.1 /\ (X.env.scope.names.lookup p.1 = some .cell ∨ X.env.scope.names.lookup p.1 = some .free) /\ sc.names.lookup p.1 = some .free
noncomputable abbrev Cx.blk (X : Cx) (Nc : List Str) (sc : Scope) (cl : List (Str × Addr)) (C : Addr) (s3 : Shared) (H3 : Hp) (fp : List Addr) : Cx :=
 { X with N := Nc, s₀ := s3, H₀ := H3, env := compEnvC sc cl C X.env, outer := X.stack, ex := fp, fn := λ _ => false, pn := [], xe := λ _ _ => False }
theorem cK {env : Env} : ∀ {names : List (Str × NameKind)} {x : Str} {k : NameKind}, (∀ y ∈ names, y.2 ≠ .cell) -> (k = .cell ∨ k = .free) ->
  (names.map λ (n, k) => if (k == NameKind.free && env.scope.kind == .function && env.kindOf n == some .cell) then (n, NameKind.cell) else (n, k)).lookup x = some k -> ∃ y ∈ names, y.1 = x /\ y.2 = .free
 | [], _, _, _, _, e => by simp at e
 | (n, k') :: r, x, k, hn, hk, e => by
  have ih := @cK env r x k (λ y hy => hn y (j7 _ hy)) hk
  rw [j8] at e
  by_cases hc : (k' == NameKind.free && env.scope.kind == .function && env.kindOf n == some .cell) = true
  ·simp only [hc, if_true, nR] at e
   cases q : x == n with
   | true =>
    have hf : k' = .free := by
     simp only [Bool.and_eq_true, beq_iff_eq] at hc
     exact hc.1.1
    exact ⟨(n, k'), i9, (eq_of_beq q).symm, hf⟩
   | false =>
    rw [q] at e
    obtain ⟨y, h1, h2⟩ := ih e
    exact ⟨y, j7 _ h1, h2⟩
  ·simp only [hc, qx, if_false, nR] at e
   cases q : x == n with
   | true =>
    rw [q] at e
    have ek : k' = k := j9 e
    rcases hk with z | z
    ·exact absurd (ek.trans z) (hn (n, k') i9)
    ·exact ⟨(n, k'), i9, (eq_of_beq q).symm, ek.trans z⟩
   | false =>
    rw [q] at e
    obtain ⟨y, h1, h2⟩ := ih e
    exact ⟨y, j7 _ h1, h2⟩
theorem bQ {env : Env} : ∀ {names : List (Str × NameKind)} {x : Str}, names.lookup x = some .free ->
  (names.map λ (n, k) => if (k == NameKind.free && env.scope.kind == .function && env.kindOf n == some .cell) then (n, NameKind.cell) else (n, k)).lookup x = some .cell ∨
  (names.map λ (n, k) => if (k == NameKind.free && env.scope.kind == .function && env.kindOf n == some .cell) then (n, NameKind.cell) else (n, k)).lookup x = some .free
 | [], _, e => by simp at e
 | (n, k') :: r, x, e => by
  have ih := @bQ env r x
  rw [j8]
  rw [nR] at e
  by_cases hc : (k' == NameKind.free && env.scope.kind == .function && env.kindOf n == some .cell) = true
  ·simp only [hc, if_true, nR]
   cases q : x == n with
   | true => exact .inl rfl
   | false => rw [q] at e; exact ih e
  ·simp only [hc, qx, if_false, nR]
   cases q : x == n with
   | true => rw [q] at e; exact .inr e
   | false => rw [q] at e; exact ih e
section
variable {X : Cx} {pins : Pn} {Z : St} {H : Hp} {s3 s4 : Shared} {tg : Str} {sc : Scope} {fr : List (Str × Nat)} {fp : List Addr} {cl : List (Str × Addr)}
noncomputable def dy (Z : St) (fr : List (Str × Nat)) : St := fr.map λ p => (Z[p.2]?).join
theorem xj (ok : tY X tg sc fr) (I : ay X pins Z H s3) (hf : ∀ b ∈ fp, dS X pins H b) (hfo : ∀ b ∈ fp, ∃ o, s3.heap.get? b = some o) (hk : ∀ x c, cl.lookup x = some c -> X.env.cells.lookup x = some c) (hc : ∀ y ∈ sc.names, y.2 = .free -> ∃ c, cl.lookup y.1 = some c)
  {h4 : Heap} {t4 : Nat} (hns : ∃ m, h4.Ns s3.heap.objs.size m) (hkeep : ∀ b o, s3.heap.get? b = some o -> h4.get? b = some o) :
  ay (X.blk (tg :: fr.map (·.1)) sc cl s3.heap.objs.size s3 H fp) [] (none :: dy Z fr) H { s3 with heap := h4, toks := t4 } := by
 have hasc : ∀ x, ((relabel sc X.env).names.lookup x = some .cell ∨ (relabel sc X.env).names.lookup x = some .free) -> ∃ c, cl.lookup x = some c := λ x hx => by
  obtain ⟨y, h1, h2, h3⟩ : ∃ y ∈ sc.names, y.1 = x /\ y.2 = .free := by
   rcases hx with z | z
   ·exact cK ok.nocell (.inl rfl) z
   ·exact cK ok.nocell (.inr rfl) z
  subst h2
  exact hc y h1 h3
 have cell4 : ∀ x c, cl.lookup x = some c -> ∀ v, s3.heap.IsCell c v -> h4.IsCell c v := λ x c _ v ⟨o, ho, hd⟩ => ⟨o, hkeep c o ho, hd⟩
 have fresh : H s3.heap.objs.size = none := I.hok.fresh (eT _)
 refine ⟨⟨I.mod, ok.kind, I.ok.glob, I.ok.blt, eT _, λ x y c e1 e2 => I.ok.inj x y c (hk x c e1) (hk y c e2), hasc, (λ x c e => nomatch e), I.ok.hd, I.ok.frames, .inl rfl, λ b hb => ?_, I.bs, lS I.ok.bsz I.sz, λ b o e hb => ?_, λ b hb z => ?_, I.stack, I.stkFree⟩,
  rfl, I.bare, Un.kept hkeep, ?_, λ x c e => ?_, fresh, λ x c e => I.freeC x c (hk x c e), (λ p hp => nomatch hp), I.hok.kept hkeep, ?_⟩
 ·obtain ⟨f0, f1, f2, f3, f4, f5⟩ := hf b hb
  refine ⟨λ z => ?_, λ x c e => f4 x c (hk x c e)⟩
  obtain ⟨o, eo⟩ := hfo b hb
  have z' : b = s3.heap.objs.size := z
  rw [z'] at eo
  exact absurd (gS eo) (Nat.lt_irrefl _)
 ·obtain ⟨f0, f1, f2, f3, f4, f5⟩ := hf b hb
  rcases f3 with z | z
  ·exact I.ok.noex b o e z
  ·exact absurd (j6 (j6 (gS e) I.ok.bsz) z) (Nat.lt_irrefl _)
 ·obtain ⟨f0, f1, f2, f3, f4, f5⟩ := hf b hb
  rcases j3.mp (I.stkSub b z) with q | q
  ·exact f1 q
  ·exact f2 q
 ·obtain ⟨m, hn⟩ := hns
  obtain ⟨m0, _, hl0⟩ := I.loc
  refine ⟨m, hn, λ i x v e1 e2 _ => ?_⟩
  cases i with
  | zero => cases e2
  | succ i =>
   have e2' : ((fr.map λ p => (Z[p.2]?).join))[i]? = some (some v) := e2
   have e1' : (fr.map (·.1))[i]? = some x := e1
   rw [kT] at e1' e2'
   cases q : fr[i]? with
   | none => rw [q] at e1'; cases e1'
   | some p =>
    rw [q] at e1' e2'
    have ex : p.1 = x := j9 e1'
    have ev : (Z[p.2]?).join = some v := j9 e2'
    obtain ⟨g1, g2, g3⟩ := ok.vis p (i8 q)
    have ev' : Z[p.2]? = some (some v) := by
     cases z : Z[p.2]? with
     | none => rw [z] at ev; cases ev
     | some w => rw [z] at ev; exact congrArg some ev
    have gv : Er X.env.scope p.1 := g2.elim (λ z => .inr (.inl z)) λ z => .inr (.inr z)
    obtain ⟨u, ru, lk⟩ := hl0 p.2 p.1 v g1 ev' gv
    subst ex
    refine ⟨u, ru, .inr ⟨bQ g3, ?_⟩⟩
    rcases lk with ⟨k1, _⟩ | ⟨_, c, ec, hcell⟩
    ·rcases g2 with z | z
     ·have k2 : X.env.scope.names.lookup p.1 = some .local := k1
      rw [z] at k2; cases k2
     ·have k2 : X.env.scope.names.lookup p.1 = some .local := k1
      rw [z] at k2; cases k2
    ·obtain ⟨c', ec'⟩ := hasc p.1 (bQ g3)
     have e3 := hk _ _ ec'
     rw [ec] at e3
     cases e3
     exact ⟨c, ec', cell4 _ c ec' _ hcell⟩
 ·obtain ⟨v, z⟩ := I.cell x c (hk x c e)
  exact ⟨v, cell4 x c e v z⟩
 ·show (none :: dy Z fr).length = (tg :: fr.map (·.1)).length
  simp [dy]
end
noncomputable def Lu (fr : List (Str × Nat)) (wi : TI) (te : TE) : TE := λ Z H Q => wi Z H λ J H1 => ∀ acc, H1 acc = none -> ∃ W : Nat -> Nat -> Hp -> Prop, (∃ m, W 0 m (upd H1 acc (.lst []))) /\ ∀ i m H2, W i m H2 ->
 (J.stop i H2 /\ Q (.ref acc) H2) ∨ (J.go i H2 /\ ∀ x H3, J.yld i H2 x H3 -> te (some x :: dy Z fr) H3 λ v H4 => ∃ xs m', H4 acc = some (.lst xs) /\ xs.length < sizeLine /\ m' < m /\ W (i + 1) m' (upd H4 acc (.lst (xs ++ [v]))))
noncomputable def uZ (iy : Nat) (fr : List (Str × Nat)) (wi : TI) (te : TE) : TS := λ D Z H => Lu fr wi te Z H λ v H' => D.nx (Z.set iy (some v)) H'
section
variable {X : Cx} {elt iter : Expr} {x : Str} {px pos : Pos} {sc : Scope} {fr : List (Str × Nat)} {wi : TI} {te : TE}
theorem zC {y : Str} {py spos : Pos} {iy : Nat} (hN : X.N.Nodup) (hi' : X.N[iy]? = some y) (hy : CG X.env.scope y) (hc : X.calm = true) (ok : tY X x sc fr) (hi : PI X (.Name x px) iter wi) (he : ∀ cl C s3 H3 fp, PE (X.blk (x :: fr.map (·.1)) sc cl C s3 H3 fp) elt te) (hs : ∀ x, foldedSetIterable iter X.env x = pure x := by intro _; rfl)
  (hsw : swapsWith (.ListComp elt [⟨.Name x px, iter, [], 0⟩] sc pos) (some (.Name y py)) spos.line X.env = pure true := by rfl) (hfn : X.fn y = true ∨ X.env.scope.names.lookup y = some .local := by first | exact .inl rfl | exact .inr rfl | assumption) :
  PS X (.Assign [.Name y py] (.ListComp elt [⟨.Name x px, iter, [], 0⟩] sc pos) spos) (uZ iy fr wi te) := by
 intro pins s Z H D I h
 obtain ⟨cl, ecl, hk, hcx⟩ := fv (env := X.env) (sc := sc) (λ y hy yf => I.ok.has y.1 (ok.fre y hy yf))
 rw [exec_Assign_Name_used _ _ _ _ hsw]
 refine bf (wpAny_standAt (bf ?_))
 show wpAny _ X.A (do let _ <- comprehension (.ListComp elt [⟨.Name x px, iter, [], 0⟩] sc pos) sc X.env _ (newList []) false (eval iter X.env) (some (assign (.Name y py) X.env))) _ _ s
 refine bf (mW (wpAny_comprehension_free (use := some (assign (.Name y py) X.env)) (Q := λ _ s' => SP X pins D .next s') rfl hs ecl ok.kind ok.locs ?_) (λ _ s' z => i7 (i7 z)) λ _ _ z => z)
 refine (bO (hi pins s Z H _ I h) λ v s1 h1 => bO h1 λ itv s2 h2 => ?_)
 obtain ⟨it, fp, tn, J, H2, e, I2, T, st2, f2, q⟩ := h2
 subst e
 have hacc : H2 s2.heap.objs.size = none := I2.hok.fresh (eT _)
 obtain ⟨W, ⟨m0, w0⟩, turn⟩ := q s2.heap.objs.size hacc
 refine wpAny_newObj_type ?_
 have I3 := I2.laid (a := s2.heap.objs.size) (o := .lst []) (h' := s2.heap.push { cls := .type "list", data := .seq ([] : List Value).toArray }) (t' := s2.toks) (λ b u e => cp _ e) (eT _) ⟨nW _, [], 0, .nil, kH _ rfl⟩
 refine wpAny_newFunctionEnv ok.nocell (by intro y hy; simp at hy) (λ h4 hns4 hsb4 => ?_) ok.kind
 generalize hs3 : ({ s2 with heap := s2.heap.push { cls := .type "list", data := .seq ([] : List Value).toArray } } : Shared) = s3 at *
 have keep4 : ∀ b o, s3.heap.get? b = some o -> h4.get? b = some o := λ b o e => hsb4.extBut b o (nh (gS e)) (cp _ e)
 have keep3 : ∀ b o, s2.heap.get? b = some o -> s3.heap.get? b = some o := λ b o e => by rw [<- hs3]; exact cp _ e
 have hfo : ∀ b ∈ fp, ∃ o, s3.heap.get? b = some o := λ b hb => by
  obtain ⟨o, eo, _⟩ := T.obj 0 _ st2 b hb
  exact ⟨o, keep3 b o eo⟩
 have f3 : ∀ b ∈ fp, dS X pins (upd H2 s2.heap.objs.size (.lst [])) b := λ b hb => by
  obtain ⟨o, eo, _⟩ := T.obj 0 _ st2 b hb
  exact ⟨by rw [ag (nh (gS eo))]; exact (f2 b hb).1, (f2 b hb).2⟩
 have I4 := xj (t4 := s3.toks + ([] : List (Str × Value)).length) ok I3 f3 hfo hk hcx ⟨_, hns4⟩ keep4
 have st4 : tn 0 h4 := T.keep 0 s2.heap h4 st2 λ b hb o e => keep4 b o (keep3 b o e)
 have stat : ∀ {H' : Hp}, (∀ b ∈ fp, H' b = none) -> ∀ b ∈ fp, dS (X.blk (x :: fr.map (·.1)) sc cl s3.heap.objs.size s3 (upd H2 s2.heap.objs.size (.lst [])) fp) [] H' b := λ hn b hb =>
  ⟨hn b hb, (I4.ok.exf b hb).1, I4.ok.exfs b hb, .inl hb, (I4.ok.exf b hb).2, λ p hp => nomatch hp⟩
 have lk : (relabel sc X.env).names.lookup x = some .local := ld ok.tgl
 have loop : codeAny (model X.prog X.w) X.A (.compLoop (.ListComp elt [⟨.Name x px, iter, [], 0⟩] sc pos) 0 (.ref it) (.ref s2.heap.objs.size) (compEnvC sc cl s3.heap.objs.size X.env))
   (compPost (model X.prog X.w) X.A X.xe (some (assign (.Name y py) X.env)) (λ _ s' => SP X pins D .next s') (.ref s2.heap.objs.size) s3.heap.objs.size) { s3 with heap := h4, toks := s3.toks + ([] : List (Str × Value)).length } := by
  refine oy (λ n s' => ∃ i x0 H', ay (X.blk (x :: fr.map (·.1)) sc cl s3.heap.objs.size s3 (upd H2 s2.heap.objs.size (.lst [])) fp) [] (x0 :: dy Z fr) H' s' /\ tn i s'.heap /\ (∀ b ∈ fp, H' b = none) /\ W i n H') ?_ m0
   ⟨0, none, _, I4, st4, λ b hb => (f3 b hb).1, w0⟩
  rintro n s5 ⟨i, x0, H5, I5, st5, fr5, w5⟩
  rcases turn i n H5 w5 with ⟨stop, qq⟩ | ⟨go, step⟩
  ·refine bO (T.done (X.blk (x :: fr.map (·.1)) sc cl s3.heap.objs.size s3 (upd H2 s2.heap.objs.size (.lst [])) fp) rfl rfl rfl hc i [] s5 _ H5 _ I5 (stat fr5) st5 stop) λ r s6 ⟨hr, I6⟩ => ?_
   subst hr
   obtain ⟨m6, hn6, _⟩ := I6.loc
   have u6 : Un (fS X.stack) fp (upd H2 s2.heap.objs.size (.lst [])) H5 s3.heap s6.heap := I6.base
   have hok6 : iB X.prog X.w H5 s6.heap := I6.hok
   have os6 : s6.os = s3.os := I6.os
   have bare6 := I6.bare
   have free6 : H5 s3.heap.objs.size = none := I6.free
   have IX : ay X pins Z H5 s6 := by
    obtain ⟨hh, g, d, t, os'⟩ := s6
    obtain rfl : os' = s3.os := os6
    show ay X pins Z H5 { s3 with heap := hh, gens := g, drawn := d, toks := t }
    exact I3.call (h' := hh) (g' := g) (d' := d) (t' := t) (ch := fp) u6 hok6 bare6 λ b hb => ⟨(f3 b hb).2.2.2.1, (f3 b hb).2.1, (f3 b hb).2.2.2.2.1, (f3 b hb).2.2.2.2.2⟩
   obtain ⟨oC, es, ep, hoC, BJ, rC⟩ := hn6
   have hfC : dS X pins H5 s3.heap.objs.size := I3.fpOk (eT _) free6
   have IX' : ay X (pins ++ [(s3.heap.objs.size, oC)]) Z H5 s6 := IX.pins_of λ p hp => by
    rcases rl.mp hp with z | z
    ·exact IX.pin p (cx _ z)
    ·have z' := o5.mp z
     subst z'
     exact ⟨hoC, free6, hfC.2.1, hfC.2.2.1, λ v z => by
      have z2 : oC.data = .cell v := z
      rw [BJ] at z2; cases z2⟩
   refine bO (aM (X := X) (i := iy) (pos := py) hN hi' hy hfn _ s6 Z H5 (.ref s2.heap.objs.size) (.ref s2.heap.objs.size) (λ σ' H' => σ' = Z.set iy (some (.ref s2.heap.objs.size)) /\ H' = H5) IX' rfl ⟨rfl, rfl⟩) λ _ s7 z => ?_
   obtain ⟨σ7, H7, I7, e7, e7'⟩ := z
   subst e7 e7'
   have pC := I7.pin (s3.heap.objs.size, oC) (cx _ (cx _ (o5.mpr rfl)))
   refine ⟨m6, ⟨oC, es, ep, pC.1, BJ, rC⟩, λ h8 hsb8 => ?_⟩
   have I7u : ay X pins (Z.set iy (some (.ref s2.heap.objs.size))) H7 s7 := I7.unpinned
   refine ⟨_, H7, ?_, qq⟩
   exact I7u.turned (it := s3.heap.objs.size) (t' := s7.toks) (λ b o hb e => hsb8.extBut b o hb e) free6 hfC.2.1 hfC.2.2.2.1 hfC.2.2.2.2.1 hfC.2.2.2.2.2
  ·refine bO (T.item (X.blk (x :: fr.map (·.1)) sc cl s3.heap.objs.size s3 (upd H2 s2.heap.objs.size (.lst [])) fp) rfl rfl rfl hc i [] s5 _ H5 _ I5 (stat fr5) st5 go) λ r s6 ⟨u, hr, h6⟩ => ?_
   subst hr
   refine bO h6 λ _ s7 ⟨y, H7, I7, r7, y7, st7, fr7⟩ => ?_
   have I7' := I7.pinned (stat fr7) (T.obj _ _ st7)
   refine mW (aM (X := X.blk (x :: fr.map (·.1)) sc cl s3.heap.objs.size s3 (upd H2 s2.heap.objs.size (.lst [])) fp) (i := 0) (pos := px) ok.nd rfl (Or.inl lk) (.inr lk) _ s7 _ H7 y u (λ σ' H' => σ' = some y :: dy Z fr /\ H' = H7) I7' r7 ⟨rfl, rfl⟩) (λ _ s8 z => ?_) (λ e s z => (show False from z).elim)
   obtain ⟨σ8, H8, I8, e8, e8'⟩ := z
   subst e8 e8'
   refine mW (he cl s3.heap.objs.size s3 (upd H2 s2.heap.objs.size (.lst [])) fp _ s8 _ H8 _ I8 (step y H8 y7)) (λ v s9 z => ?_) (λ e s z => (show False from z).elim)
   obtain ⟨z, H9, I9, r9, xs, m', ha, hl, hm, w9⟩ := z
   refine mW (aQ (X := X.blk (x :: fr.map (·.1)) sc cl s3.heap.objs.size s3 (upd H2 s2.heap.objs.size (.lst [])) fp) _ s9 _ H9 (.ref s2.heap.objs.size) [z] (.ref s2.heap.objs.size) [v] (λ _ H' => H' = upd H9 s2.heap.objs.size (.lst (xs ++ [z]))) I9 rfl (.cons r9 .nil) ⟨_, xs, z, rfl, rfl, ha, hl, rfl⟩) (λ _ s10 z => ?_) (λ e s z => (show False from z).elim)
   obtain ⟨_, H10, I10, _, e10⟩ := z
   subst e10
   refine ⟨m', hm, i + 1, some y, _, I10.unpinned, T.keep _ _ _ st7 λ b hb o e => (I10.pin (b, o) (cx _ (cx _ (bF hb e)))).1, λ b hb => ?_, w9⟩
   obtain ⟨o, e, d⟩ := T.obj _ _ st7 b hb
   exact (I10.pin (b, o) (cx _ (cx _ (bF hb e)))).2.1
 exact codeAny_compStart_list loop (T.self X.A 0 _ _ _ st4 loop)
end
noncomputable def dX (osc : Scope) (N : List Str) (tg : Str) (sc : Scope) (fr : List (Str × Nat)) : Bool :=
 decide (sc.kind = .function) && (sc.names.all λ y => decide (y.2 ≠ .cell)) && (sc.names.all λ y => decide (y.2 ≠ .local) || decide (sc.names.lookup y.1 = some .local)) && decide (sc.names.lookup tg = some .local) &&
 (sc.names.all λ y => decide (y.2 ≠ .free) || decide (osc.names.lookup y.1 = some .cell) || decide (osc.names.lookup y.1 = some .free)) && decide ((tg :: fr.map (·.1)).Nodup) &&
 (fr.all λ p => decide (N[p.2]? = some p.1) && (decide (osc.names.lookup p.1 = some .cell) || decide (osc.names.lookup p.1 = some .free)) && decide (sc.names.lookup p.1 = some .free))
theorem cY {X : Cx} {tg : Str} {sc : Scope} {fr : List (Str × Nat)} {osc : Scope} {N : List Str} (ho : X.env.scope = osc) (hN : X.N = N) (h : dX osc N tg sc fr = true) : tY X tg sc fr := by
 subst ho hN
 unfold dX at h
 simp only [Bool.and_eq_true, decide_eq_true_eq, List.all_eq_true, Bool.or_eq_true] at h
 obtain ⟨⟨⟨⟨⟨⟨h1, h2⟩, h3⟩, h4⟩, h5⟩, h6⟩, h7⟩ := h
 refine ⟨h1, h2, λ y hy e => ?_, h4, λ y hy e => ?_, h6, λ p hp => ?_⟩
 ·rcases h3 y hy with z | z
  ·exact absurd e z
  ·exact z
 ·rcases h5 y hy with (z | z) | z
  ·exact absurd e z
  ·exact .inl z
  ·exact .inr z
 ·obtain ⟨⟨a, b⟩, c⟩ := h7 p hp
  exact ⟨a, b, c⟩
end L2
namespace L2
open PySem
theorem zN {X : Cx} {es : List Expr} {t : TA} {i : Int} {j} {pos : Pos} (hr : PA X es t) : PA X (.Constant (.int i) j pos :: es) (bq (tC (.int i)) t) := ae ai hr rfl
noncomputable def pA : List Expr -> Option (List Int)
 | [] => some []
 | .Constant (.int i) _ _ :: es => (pA es).map (i :: ·)
 | _ :: _ => none
noncomputable def EL (ns : List Int) : TA := λ _ H Q => Q (ns.map V.int) H
theorem qI {X : Cx} {es : List Expr} (ns : List Int) (h : pA es = some ns) : PA X es (EL ns) := by
 induction es generalizing ns with
 | nil =>
  have e : ns = [] := (j9 h).symm
  subst e
  exact aA
 | cons e es ih =>
  unfold pA at h
  split at h
  ·rename_i he; cases he
  ·rename_i i j pos es' he
   obtain ⟨rfl, rfl⟩ := List.cons.inj he
   cases hr : pA es with
   | none => rw [hr] at h; cases h
   | some ms =>
    rw [hr] at h
    have e : ns = i :: ms := (j9 h).symm
    subst e
    exact zN (j := j) (pos := pos) (ih ms hr)
  ·cases h
end L2
namespace L2
open PySem PySem.Spec PyProof.Rows
section
variable {prog : Program} {w : World} {A : Around} {R : Result -> Shared -> Prop} {s : Shared}
noncomputable abbrev wW (ifs : List Expr) (env : Env) : Sem Bool := forIn ifs true λ c r => if r = true then do let ok <- isTrue c env (eval c env); pure (ForInStep.yield ok) else pure (ForInStep.yield r)
theorem ly {elt tg iter : Expr} {ifs : List Expr} {scope : Scope} {pos : Pos} {itv acc : Value} {env : Env} (J : Nat -> Shared -> Prop)
  (turn : ∀ n s, J n s -> wpAny (model prog w) A (pyNext itv) (λ r s1 => match r with
   | none => R (.ok .next) s1
   | some v => wpAny (model prog w) A (letOwnedTupleGo tg itv v) (λ _ s2 => wpAny (model prog w) A (assign tg env v) (λ _ s3 => wpAny (model prog w) A (wW ifs env) (λ ok s4 =>
     if ok = true then wpAny (model prog w) A (eval elt env) (λ x s5 => wpAny (model prog w) A (call (.builtin "list.append") [acc, x]) (λ _ s6 => ∃ m, m < n /\ J m s6) (NB prog w A env R) s5) (NB prog w A env R) s4
     else ∃ m, m < n /\ J m s4) (NB prog w A env R) s3) (NB prog w A env R) s2) (NB prog w A env R) s1) (NB prog w A env R) s)
  (n : Nat) (h : J n s) : codeAny (model prog w) A (.compLoop (.ListComp elt [⟨tg, iter, ifs, 0⟩] scope pos) 0 itv acc env) R s := by
 refine codeAny_loop rfl J (λ n s hJ => ?_) n h
 show wpAny _ _ ((compTurn (.ListComp elt [⟨tg, iter, ifs, 0⟩] scope pos) 0 itv acc env).onRaise (λ x => do noteFrame x env; theTreesLotGoes x)) _ _ s
 refine wpAny_noted ?_
 rw [compTurn_list]
 refine bf (wpAny_standAt (bf (mW (turn n s hJ) (λ r s1 z => ?_) λ _ _ q => q)))
 match r, z with
 | none, z => exact i7 z
 | some v, z =>
  refine bf (mW z (λ _ s2 z => bf (mW z (λ _ s3 z => bf (mW z (λ ok s4 z => ?_) λ _ _ q => q)) λ _ _ q => q)) λ _ _ q => q)
  cases ok with
  | true =>
   have z' := (h9 rfl).mp z
   exact bf (bf (mW z' (λ x s5 z => bf (mW z (λ _ s6 z => i7 (i7 ⟨rfl, z⟩)) λ _ _ q => q)) λ _ _ q => q))
  | false =>
   have z' := (gV ff).mp z
   exact bf (i7 (i7 ⟨rfl, z'⟩))
end
structure cF (X : Cx) (tgs : List Str) (sc : Scope) (fr : List (Str × Nat)) : Prop where
 kind : sc.kind = .function
 nocell : ∀ y ∈ sc.names, y.2 ≠ .cell
 locs : ∀ y ∈ sc.names, y.2 = .local -> sc.names.lookup y.1 = some .local
 fre : ∀ y ∈ sc.names, y.2 = .free -> X.env.scope.names.lookup y.1 = some .cell ∨ X.env.scope.names.lookup y.1 = some .free
 nd : (tgs ++ fr.map (·.1)).Nodup
 vis : ∀ p ∈ fr, X.N[p.2]? = some p.1 /\ (X.env.scope.names.lookup p.1 = some .cell ∨ X.env.scope.names.lookup p.1 = some .free) /\ sc.names.lookup p.1 = some .free
noncomputable def KM (X : Cx) (ifs : List Expr) (t : TT) : Prop :=
 ∀ (pins : Pn) (s : Shared) (Z : St) (H : Hp) (Q : Bool -> Hp -> Prop), ay X pins Z H s -> t Z H Q -> wpAny (model X.prog X.w) X.A (wW ifs X.env) (TP X pins Z Q) X.xe s
noncomputable def tYes : TT := λ _ H Q => Q true H
theorem Dm {X : Cx} : KM X [] tYes := λ _ _ _ H _ I h => wpAny_tests_nil ⟨H, I, h⟩
theorem lg {X : Cx} {c : Expr} {t : TT} (h : PT X c t) : KM X [c] t := λ pins s Z H Q I q => wpAny_tests_one (h pins s Z H Q I q)
section
variable {X : Cx} {pins : Pn} {Z : St} {H : Hp} {s3 s4 : Shared} {tgs : List Str} {sc : Scope} {fr : List (Str × Nat)} {fp : List Addr} {cl : List (Str × Addr)}
theorem lO (ok : cF X tgs sc fr) (I : ay X pins Z H s3) (hf : ∀ b ∈ fp, dS X pins H b) (hfo : ∀ b ∈ fp, ∃ o, s3.heap.get? b = some o) (hk : ∀ x c, cl.lookup x = some c -> X.env.cells.lookup x = some c) (hc : ∀ y ∈ sc.names, y.2 = .free -> ∃ c, cl.lookup y.1 = some c)
  {h4 : Heap} {t4 : Nat} (hns : ∃ m, h4.Ns s3.heap.objs.size m) (hkeep : ∀ b o, s3.heap.get? b = some o -> h4.get? b = some o) :
  ay (X.blk (tgs ++ fr.map (·.1)) sc cl s3.heap.objs.size s3 H fp) [] (List.replicate tgs.length none ++ dy Z fr) H { s3 with heap := h4, toks := t4 } := by
 have hasc : ∀ x, ((relabel sc X.env).names.lookup x = some .cell ∨ (relabel sc X.env).names.lookup x = some .free) -> ∃ c, cl.lookup x = some c := λ x hx => by
  obtain ⟨y, h1, h2, h3⟩ : ∃ y ∈ sc.names, y.1 = x /\ y.2 = .free := by
   rcases hx with z | z
   ·exact cK ok.nocell (.inl rfl) z
   ·exact cK ok.nocell (.inr rfl) z
  subst h2
  exact hc y h1 h3
 have cell4 : ∀ x c, cl.lookup x = some c -> ∀ v, s3.heap.IsCell c v -> h4.IsCell c v := λ x c _ v ⟨o, ho, hd⟩ => ⟨o, hkeep c o ho, hd⟩
 have fresh : H s3.heap.objs.size = none := I.hok.fresh (eT _)
 refine ⟨⟨I.mod, ok.kind, I.ok.glob, I.ok.blt, eT _, λ x y c e1 e2 => I.ok.inj x y c (hk x c e1) (hk y c e2), hasc, (λ x c e => nomatch e), I.ok.hd, I.ok.frames, .inl rfl, λ b hb => ?_, I.bs, lS I.ok.bsz I.sz, λ b o e hb => ?_, λ b hb z => ?_, I.stack, I.stkFree⟩,
  rfl, I.bare, Un.kept hkeep, ?_, λ x c e => ?_, fresh, λ x c e => I.freeC x c (hk x c e), (λ p hp => nomatch hp), I.hok.kept hkeep, ?_⟩
 ·obtain ⟨f0, f1, f2, f3, f4, f5⟩ := hf b hb
  refine ⟨λ z => ?_, λ x c e => f4 x c (hk x c e)⟩
  obtain ⟨o, eo⟩ := hfo b hb
  have z' : b = s3.heap.objs.size := z
  rw [z'] at eo
  exact absurd (gS eo) (Nat.lt_irrefl _)
 ·obtain ⟨f0, f1, f2, f3, f4, f5⟩ := hf b hb
  rcases f3 with z | z
  ·exact I.ok.noex b o e z
  ·exact absurd (j6 (j6 (gS e) I.ok.bsz) z) (Nat.lt_irrefl _)
 ·obtain ⟨f0, f1, f2, f3, f4, f5⟩ := hf b hb
  rcases j3.mp (I.stkSub b z) with q | q
  ·exact f1 q
  ·exact f2 q
 ·obtain ⟨m, hn⟩ := hns
  obtain ⟨m0, _, hl0⟩ := I.loc
  refine ⟨m, hn, λ i x v e1 e2 _ => ?_⟩
  have hge : tgs.length <= i := by
   rcases Nat.lt_or_ge i tgs.length with z | z
   ·rw [List.getElem?_append_left (by rw [q9]; exact z), List.getElem?_replicate, h9 z] at e2
    cases e2
   ·exact z
  have e1x : (tgs ++ fr.map (·.1))[i]? = some x := e1
  rw [rd hge] at e1x
  rw [rd (by rw [q9]; exact hge), q9] at e2
  generalize i - tgs.length = i at *
  ·have e2' : ((fr.map λ p => (Z[p.2]?).join))[i]? = some (some v) := e2
   have e1' : (fr.map (·.1))[i]? = some x := e1x
   rw [kT] at e1' e2'
   cases q : fr[i]? with
   | none => rw [q] at e1'; cases e1'
   | some p =>
    rw [q] at e1' e2'
    have ex : p.1 = x := j9 e1'
    have ev : (Z[p.2]?).join = some v := j9 e2'
    obtain ⟨g1, g2, g3⟩ := ok.vis p (i8 q)
    have ev' : Z[p.2]? = some (some v) := by
     cases z : Z[p.2]? with
     | none => rw [z] at ev; cases ev
     | some w => rw [z] at ev; exact congrArg some ev
    have gv : Er X.env.scope p.1 := g2.elim (λ z => .inr (.inl z)) λ z => .inr (.inr z)
    obtain ⟨u, ru, lk⟩ := hl0 p.2 p.1 v g1 ev' gv
    subst ex
    refine ⟨u, ru, .inr ⟨bQ g3, ?_⟩⟩
    rcases lk with ⟨k1, _⟩ | ⟨_, c, ec, hcell⟩
    ·rcases g2 with z | z
     ·have k2 : X.env.scope.names.lookup p.1 = some .local := k1
      rw [z] at k2; cases k2
     ·have k2 : X.env.scope.names.lookup p.1 = some .local := k1
      rw [z] at k2; cases k2
    ·obtain ⟨c', ec'⟩ := hasc p.1 (bQ g3)
     have e3 := hk _ _ ec'
     rw [ec] at e3
     cases e3
     exact ⟨c, ec', cell4 _ c ec' _ hcell⟩
 ·obtain ⟨v, z⟩ := I.cell x c (hk x c e)
  exact ⟨v, cell4 x c e v z⟩
 ·show (List.replicate tgs.length none ++ dy Z fr).length = (tgs ++ fr.map (·.1)).length
  simp [dy]
end
noncomputable def mh (k : Nat) (fr : List (Str × Nat)) (wi : TI) (g : TG) (tc : TT) (te : TE) : TE := λ Z H Q => wi Z H λ J H1 => ∀ acc, H1 acc = none -> ∃ W : Nat -> Nat -> St -> Hp -> Prop, (∃ m, W 0 m (List.replicate k none ++ dy Z fr) (upd H1 acc (.lst []))) /\ ∀ i m σb H2, W i m σb H2 ->
 (J.stop i H2 /\ Q (.ref acc) H2) ∨ (J.go i H2 /\ ∀ x H3, J.yld i H2 x H3 -> g x σb H3 λ σ2 H4 => tc σ2 H4 λ b H5 =>
  if b = true then te σ2 H5 λ v H6 => ∃ xs m', H6 acc = some (.lst xs) /\ xs.length < sizeLine /\ m' < m /\ W (i + 1) m' σ2 (upd H6 acc (.lst (xs ++ [v]))) else ∃ m', m' < m /\ W (i + 1) m' σ2 H5)
section
variable {X : Cx} {elt iter tg : Expr} {ifs : List Expr} {tgs : List Str} {pos : Pos} {sc : Scope} {fr : List (Str × Nat)} {wi : TI} {te : TE} {g : TG} {tc : TT}
theorem pJ (hc : X.calm = true) (ok : cF X tgs sc fr) (hi : PI X tg iter wi) (hg : ∀ cl C s3 H3 fp, PG (X.blk (tgs ++ fr.map (·.1)) sc cl C s3 H3 fp) tg g) (ht : ∀ cl C s3 H3 fp, KM (X.blk (tgs ++ fr.map (·.1)) sc cl C s3 H3 fp) ifs tc) (he : ∀ cl C s3 H3 fp, PE (X.blk (tgs ++ fr.map (·.1)) sc cl C s3 H3 fp) elt te) (hs : ∀ x, foldedSetIterable iter X.env x = pure x := by intro _; rfl) :
  PE X (.ListComp elt [⟨tg, iter, ifs, 0⟩] sc pos) (mh tgs.length fr wi g tc te) := by
 intro pins s Z H Q I h
 obtain ⟨cl, ecl, hk, hcx⟩ := fv (env := X.env) (sc := sc) (λ y hy yf => I.ok.has y.1 (ok.fre y hy yf))
 rw [eval_ListComp]
 refine wpAny_comprehension_free (use := none) rfl hs ecl ok.kind ok.locs (bO (hi pins s Z H _ I h) λ v s1 h1 => bO h1 λ itv s2 h2 => ?_)
 obtain ⟨it, fp, tn, J, H2, e, I2, T, st2, f2, q⟩ := h2
 subst e
 have hacc : H2 s2.heap.objs.size = none := I2.hok.fresh (eT _)
 obtain ⟨W, ⟨m0, w0⟩, turn⟩ := q s2.heap.objs.size hacc
 refine wpAny_newObj_type ?_
 have I3 := I2.laid (a := s2.heap.objs.size) (o := .lst []) (h' := s2.heap.push { cls := .type "list", data := .seq ([] : List Value).toArray }) (t' := s2.toks) (λ b u e => cp _ e) (eT _) ⟨nW _, [], 0, .nil, kH _ rfl⟩
 refine wpAny_newFunctionEnv ok.nocell (by intro y hy; simp at hy) (λ h4 hns4 hsb4 => ?_) ok.kind
 generalize hs3 : ({ s2 with heap := s2.heap.push { cls := .type "list", data := .seq ([] : List Value).toArray } } : Shared) = s3 at *
 have keep4 : ∀ b o, s3.heap.get? b = some o -> h4.get? b = some o := λ b o e => hsb4.extBut b o (nh (gS e)) (cp _ e)
 have keep3 : ∀ b o, s2.heap.get? b = some o -> s3.heap.get? b = some o := λ b o e => by rw [<- hs3]; exact cp _ e
 have hfo : ∀ b ∈ fp, ∃ o, s3.heap.get? b = some o := λ b hb => by
  obtain ⟨o, eo, _⟩ := T.obj 0 _ st2 b hb
  exact ⟨o, keep3 b o eo⟩
 have f3 : ∀ b ∈ fp, dS X pins (upd H2 s2.heap.objs.size (.lst [])) b := λ b hb => by
  obtain ⟨o, eo, _⟩ := T.obj 0 _ st2 b hb
  exact ⟨by rw [ag (nh (gS eo))]; exact (f2 b hb).1, (f2 b hb).2⟩
 have I4 := lO (t4 := s3.toks + ([] : List (Str × Value)).length) ok I3 f3 hfo hk hcx ⟨_, hns4⟩ keep4
 have st4 : tn 0 h4 := T.keep 0 s2.heap h4 st2 λ b hb o e => keep4 b o (keep3 b o e)
 have stat : ∀ {H' : Hp}, (∀ b ∈ fp, H' b = none) -> ∀ b ∈ fp, dS (X.blk (tgs ++ fr.map (·.1)) sc cl s3.heap.objs.size s3 (upd H2 s2.heap.objs.size (.lst [])) fp) [] H' b := λ hn b hb =>
  ⟨hn b hb, (I4.ok.exf b hb).1, I4.ok.exfs b hb, .inl hb, (I4.ok.exf b hb).2, λ p hp => nomatch hp⟩
 have loop : codeAny (model X.prog X.w) X.A (.compLoop (.ListComp elt [⟨tg, iter, ifs, 0⟩] sc pos) 0 (.ref it) (.ref s2.heap.objs.size) (compEnvC sc cl s3.heap.objs.size X.env))
   (compPost (model X.prog X.w) X.A X.xe none (EP X pins Z Q) (.ref s2.heap.objs.size) s3.heap.objs.size) { s3 with heap := h4, toks := s3.toks + ([] : List (Str × Value)).length } := by
  refine ly (λ n s' => ∃ i σb H', ay (X.blk (tgs ++ fr.map (·.1)) sc cl s3.heap.objs.size s3 (upd H2 s2.heap.objs.size (.lst [])) fp) [] σb H' s' /\ tn i s'.heap /\ (∀ b ∈ fp, H' b = none) /\ W i n σb H') ?_ m0
   ⟨0, _, _, I4, st4, λ b hb => (f3 b hb).1, w0⟩
  rintro n s5 ⟨i, σb, H5, I5, st5, fr5, w5⟩
  rcases turn i n σb H5 w5 with ⟨stop, qq⟩ | ⟨go, step⟩
  ·refine bO (T.done (X.blk (tgs ++ fr.map (·.1)) sc cl s3.heap.objs.size s3 (upd H2 s2.heap.objs.size (.lst [])) fp) rfl rfl rfl hc i [] s5 _ H5 _ I5 (stat fr5) st5 stop) λ r s6 ⟨hr, I6⟩ => ?_
   subst hr
   obtain ⟨m6, hn6, _⟩ := I6.loc
   refine ⟨m6, hn6, λ h7 hsb7 => ?_⟩
   have ne : ∀ b o, s3.heap.get? b = some o -> b ≠ s3.heap.objs.size := λ b o e => nh (gS e)
   have u6 : Un (fS X.stack) fp (upd H2 s2.heap.objs.size (.lst [])) H5 s3.heap s6.heap := I6.base
   have u7 : Un (fS X.stack) fp (upd H2 s2.heap.objs.size (.lst [])) H5 s3.heap h7 := {
    keep := λ b o e n hb hx => hsb7.extBut b o (ne b o e) (u6.keep b o e n hb hx)
    slot := λ b o e n hb hx => by
     obtain ⟨sl, e1⟩ := u6.slot b o e n hb hx
     exact ⟨sl, hsb7.extBut b _ (ne b o e) e1⟩
    free := u6.free
    there := λ b o e hx => by
     obtain ⟨o', e1⟩ := u6.there b o e hx
     exact ⟨o', hsb7.extBut b _ (ne b o e) e1⟩
    tups := u6.tups
    frzs := u6.frzs
    tbls := u6.tbls }
   have hok7 : iB X.prog X.w H5 h7 := λ b u eu => (I6.hok b u eu).stay (λ c v hcx q => hsb7.extBut c v (λ z => by
    have nf := I6.free
    have z' : H5 s3.heap.objs.size = none := nf
    rw [<- z] at z'
    rcases hcx with y | y
    ·rw [y, eu] at z'; cases z'
    ·rw [y] at z'; cases z') q) (λ _ q => q) λ _ _ q => q
   have os6 : s6.os = s3.os := I6.os
   have bare6 := I6.bare
   obtain ⟨hh, g, d, t, os'⟩ := s6
   obtain rfl : os' = s3.os := os6
   refine ⟨.ref s2.heap.objs.size, H5, ?_, rfl, qq⟩
   show ay X pins Z H5 { s3 with heap := h7, gens := g, drawn := d, toks := t }
   exact I3.call (h' := h7) (g' := g) (d' := d) (t' := t) (ch := fp) u7 hok7 bare6 λ b hb => ⟨(f3 b hb).2.2.2.1, (f3 b hb).2.1, (f3 b hb).2.2.2.2.1, (f3 b hb).2.2.2.2.2⟩
  ·refine bO (T.item (X.blk (tgs ++ fr.map (·.1)) sc cl s3.heap.objs.size s3 (upd H2 s2.heap.objs.size (.lst [])) fp) rfl rfl rfl hc i [] s5 _ H5 _ I5 (stat fr5) st5 go) λ r s6 ⟨u, hr, h6⟩ => ?_
   subst hr
   refine bO h6 λ _ s7 ⟨y, H7, I7, r7, y7, st7, fr7⟩ => ?_
   have I7' := I7.pinned (stat fr7) (T.obj _ _ st7)
   refine mW (hg cl s3.heap.objs.size s3 (upd H2 s2.heap.objs.size (.lst [])) fp _ s7 _ H7 y u _ I7' r7 (step y H7 y7)) (λ _ s8 z => ?_) (λ e s z => (show False from z).elim)
   obtain ⟨σ8, H8, I8, q8⟩ := z
   refine mW (ht cl s3.heap.objs.size s3 (upd H2 s2.heap.objs.size (.lst [])) fp _ s8 σ8 H8 _ I8 q8) (λ b s8' z => ?_) (λ e s z => (show False from z).elim)
   obtain ⟨H8', I8', q8'⟩ := z
   have goOn : ∀ {s10 : Shared} {H10 : Hp} {m' : Nat}, ay (X.blk (tgs ++ fr.map (·.1)) sc cl s3.heap.objs.size s3 (upd H2 s2.heap.objs.size (.lst [])) fp) _ σ8 H10 s10 -> m' < n -> W (i + 1) m' σ8 H10 -> ∃ m, m < n /\ ∃ i σb H', ay (X.blk (tgs ++ fr.map (·.1)) sc cl s3.heap.objs.size s3 (upd H2 s2.heap.objs.size (.lst [])) fp) [] σb H' s10 /\ tn i s10.heap /\ (∀ b ∈ fp, H' b = none) /\ W i m σb H' := λ {s10 H10 m'} I10 hm w9 => by
    refine ⟨m', hm, i + 1, σ8, _, I10.unpinned, T.keep _ _ _ st7 λ b hb o e => (I10.pin (b, o) (cx _ (cx _ (bF hb e)))).1, λ b hb => ?_, w9⟩
    obtain ⟨o, e, d⟩ := T.obj _ _ st7 b hb
    exact (I10.pin (b, o) (cx _ (cx _ (bF hb e)))).2.1
   cases b with
   | false =>
    obtain ⟨m', hm, w9⟩ := (gV ff).mp q8'
    exact (gV ff).mpr (goOn I8' hm w9)
   | true =>
    refine (h9 rfl).mpr ?_
    refine mW (he cl s3.heap.objs.size s3 (upd H2 s2.heap.objs.size (.lst [])) fp _ s8' _ H8' _ I8' ((h9 rfl).mp q8')) (λ v s9 z => ?_) (λ e s z => (show False from z).elim)
    obtain ⟨z, H9, I9, r9, xs, m', ha, hl, hm, w9⟩ := z
    refine mW (aQ (X := X.blk (tgs ++ fr.map (·.1)) sc cl s3.heap.objs.size s3 (upd H2 s2.heap.objs.size (.lst [])) fp) _ s9 _ H9 (.ref s2.heap.objs.size) [z] (.ref s2.heap.objs.size) [v] (λ _ H' => H' = upd H9 s2.heap.objs.size (.lst (xs ++ [z]))) I9 rfl (.cons r9 .nil) ⟨_, xs, z, rfl, rfl, ha, hl, rfl⟩) (λ _ s10 z => ?_) (λ e s z => (show False from z).elim)
    obtain ⟨_, H10, I10, _, e10⟩ := z
    subst e10
    exact goOn I10 hm w9
 exact codeAny_compStart_list loop (T.self X.A 0 _ _ _ st4 loop)
end
end L2
namespace My
noncomputable def qv (a b : Int) : Rat := (a : Rat) / (b : Rat)
variable {b : Int}
theorem cast_ne (h : b ≠ 0) : (b : Rat) ≠ 0 := λ z => h (Rat.intCast_inj.mp z)
variable {a : Int}
theorem qv_eq {t m : Int} (hb : b ≠ 0) (hm : m ≠ 0) (h : a * m = t * b) : qv a b = qv t m := by
 have hb' := cast_ne hb
 have hm' := cast_ne hm
 have h' : (a : Rat) * m = t * b := by rw [<- kU, <- kU, h]
 unfold qv
 grind
theorem eq_of_qv {t m : Int} (hb : b ≠ 0) (hm : m ≠ 0) (h : qv a b = qv t m) : a * m = t * b := by
 have hb' := cast_ne hb
 have hm' := cast_ne hm
 unfold qv at h
 refine Rat.intCast_inj.mp ?_
 rw [kU, kU]
 grind
variable {c : Int} {d : Int}
theorem low_unique (hb : 0 < b) (hd : 0 < d) (h1 : Int.gcd a b = 1) (h2 : Int.gcd c d = 1) (h : a * d = c * b) : a = c /\ b = d := by
 have n : a.natAbs * d.natAbs = c.natAbs * b.natAbs := by rw [<- Int.natAbs_mul, <- Int.natAbs_mul, h]
 have e1 : b.natAbs ∣ d.natAbs := by
  have q : b.natAbs ∣ a.natAbs * d.natAbs := ⟨c.natAbs, by rw [n, Nat.mul_comm]⟩
  exact Nat.Coprime.dvd_of_dvd_mul_left (Nat.Coprime.symm h1) q
 have e2 : d.natAbs ∣ b.natAbs := by
  have q : d.natAbs ∣ c.natAbs * b.natAbs := ⟨a.natAbs, by rw [<- n, Nat.mul_comm]⟩
  exact Nat.Coprime.dvd_of_dvd_mul_left (Nat.Coprime.symm h2) q
 have e3 : b.natAbs = d.natAbs := Nat.dvd_antisymm e1 e2
 have e4 : b = d := by omega
 subst e4
 exact ⟨Int.eq_of_mul_eq_mul_right (by omega) h, rfl⟩
theorem qv_plus (hb : b ≠ 0) (hd : d ≠ 0) : qv (a * d + c * b) (b * d) = qv a b + qv c d := by
 have hb' := cast_ne hb
 have hd' := cast_ne hd
 unfold qv
 rw [Rat.intCast_add, kU, kU, kU]
 grind
theorem qv_minus (hb : b ≠ 0) (hd : d ≠ 0) : qv (a * d - c * b) (b * d) = qv a b - qv c d := by
 have hb' := cast_ne hb
 have hd' := cast_ne hd
 unfold qv
 rw [Rat.intCast_sub, kU, kU, kU]
 grind
theorem qv_times (hb : b ≠ 0) (hd : d ≠ 0) : qv (a * c) (b * d) = qv a b * qv c d := by
 have hb' := cast_ne hb
 have hd' := cast_ne hd
 unfold qv
 rw [kU, kU]
 grind
theorem qv_over (hb : b ≠ 0) (hd : d ≠ 0) (hc : c ≠ 0) : qv (a * d) (b * c) = qv a b / qv c d := by
 have hb' := cast_ne hb
 have hd' := cast_ne hd
 have hc' := cast_ne hc
 unfold qv
 rw [kU, kU]
 grind
theorem qv_int (a : Int) : qv a 1 = (a : Rat) := by
 unfold qv
 grind
end My
namespace My
variable {b : Int}
theorem lE (h : 0 < b) : (0 : Rat) < (b : Rat) := Rat.intCast_lt_intCast.mpr h
theorem lt_qv {a c d : Int} (hb : 0 < b) (hd : 0 < d) : qv a b < qv c d ↔ a * d < c * b := by
 have hb' := lE hb
 have hd' := lE hd
 unfold qv
 rw [Rat.div_lt_iff hb', show (c : Rat) / d * b = (c * b : Rat) / d by grind, Rat.lt_div_iff hd', <- kU, <- kU]
 exact Rat.intCast_lt_intCast
theorem le_qv {a c d : Int} (hb : 0 < b) (hd : 0 < d) : qv a b <= qv c d ↔ ¬ c * b < a * d := by
 rw [<- lt_qv hd hb]
 exact Rat.not_lt.symm
end My
namespace My
end My
namespace My
end My
namespace My
end My
namespace L2
open PySem PySem.Spec PyProof.Rows
noncomputable def rIsN : R2 := λ x y H Q => y = .non /\ Q (.bl (decide (x = .non))) H
noncomputable def rNotN : R2 := λ x y H Q => y = .non /\ Q (.bl (!decide (x = .non))) H
theorem cG {X : Cx} : gH X (compareOp .Is) rIsN := HG
theorem mL {X : Cx} : gH X (compareOp .IsNot) rNotN := DX
inductive gB : St -> Nat -> Option V -> St -> Prop
 | here {x : Option V} {r : St} {v : Option V} : gB (x :: r) 0 v (v :: r)
 | next {x : Option V} {r : St} {v : Option V} {i : Nat} {r' : St} : gB r i v r' -> gB (x :: r) (i + 1) v (x :: r')
variable {Z : St}
theorem gB.eq {σ' : St} {i : Nat} {v : Option V} (h : gB Z i v σ') : Z.set i v = σ' := by
 induction h with
 | here => rfl
 | next _ ih => rw [List.set_cons_succ, ih]
inductive iE : St -> Nat -> V -> Prop
 | here {v : V} {r : St} : iE (some v :: r) 0 v
 | next {x : Option V} {r : St} {v : V} {i : Nat} : iE r i v -> iE (x :: r) (i + 1) v
theorem iE.eq {i : Nat} {v : V} (h : iE Z i v) : Z[i]? = some (some v) := by
 induction h with
 | here => rfl
 | next _ ih => rw [List.getElem?_cons_succ, ih]
section
variable {Z σ' : St} {H : Hp} {Q : VK} {i j : Int} {k : Nat} {v x y : V} {te ta tb tc : TE} {t u : TS} {nx bk ct : St -> Hp -> Prop} {rt : VK} {c d : TT} {R : Bool -> Hp -> Prop} {r r' : R2} {b : Bool}
theorem JK (h : iE Z k v) (q : Q v H) : fE k Z H Q := ⟨v, h.eq, q⟩
theorem z_c (q : Q v H) : tC v Z H Q := q
theorem KZ (h : ta Z H λ x H1 => tb Z H1 λ y H2 => r x y H2 Q) : AA r ta tb Z H Q := h
theorem Mp {r : V -> Hp -> VK -> Prop} (h : ta Z H λ x H1 => r x H1 Q) : Li r ta Z H Q := h
theorem z_I {C : Int -> Int -> Prop} {g : Int -> Int -> V} (hc : C i j) (q : Q (g i j) H) : rI C g (.int i) (.int j) H Q := ⟨i, j, rfl, rfl, hc, q⟩
theorem Lg {g : Int -> Int -> V} (q : Q (g i j) H) : yH g (.int i) (.int j) H Q := ⟨i, j, rfl, rfl, q⟩
theorem z_U {g : Int -> V} (q : Q (g i) H) : rU g (.int i) H Q := ⟨i, rfl, q⟩
theorem rP : decide (V.int i = V.int j) = decide (i = j) := by
 by_cases h : i = j
 ·subst h; simp
 ·rw [kv h, kv (λ z => h (V.int.inj z))]
variable {a : Str}
theorem tT {b : Str} : decide (V.str a = V.str b) = decide (a = b) := by
 by_cases h : a = b
 ·subst h; simp
 ·rw [kv h, kv (λ z => h (V.str.inj z))]
theorem EI (q : Q (.bl (decide (i = j))) H) : rEq (.int i) (.int j) H Q := ⟨rfl, by rw [rP]; exact q⟩
theorem Ei (q : Q (.bl (!decide (i = j))) H) : rNe (.int i) (.int j) H Q := ⟨rfl, by rw [rP]; exact q⟩
theorem EK {b : Str} (q : Q (.bl (decide (a = b))) H) : rEq (.str a) (.str b) H Q := ⟨rfl, by rw [tT]; exact q⟩
theorem GO (h : te Z H λ x H' => ∃ k, x = .bl k /\ R k H') : wk te Z H R := h
theorem LL (h : te Z H λ x H' => ∃ k, x = .bl k /\ R k H') : tB te Z H R := h
theorem Kf {S : Bool -> Prop} (q : S b) : ∃ k, V.bl b = .bl k /\ S k := ⟨b, rfl, q⟩
theorem Jo (h : c Z H λ k H1 => R (!k) H1) : Fe c Z H R := h
theorem Gd (h : ta Z H λ x H1 => ∃ c, x = .bl c /\ if c = true then tb Z H1 Q else Q (.bl false) H1) : zV ta tb Z H Q := h
theorem Fi (h : ta Z H λ x H1 => ∃ c, x = .bl c /\ Q (.bl (!c)) H1) : BH ta Z H Q := h
theorem KQ (h : c Z H λ k H1 => if k = true then ta Z H1 Q else tb Z H1 Q) : LV c ta tb Z H Q := h
theorem Dz (h : ta Z H λ x H1 => tb Z H1 λ y H2 => r x y H2 λ z H3 => ∃ k, z = .bl k /\ (if k = true then tc Z H3 λ w' H4 => r' y w' H4 Q else Q (.bl false) H3)) : vj r r' ta tb tc Z H Q := h
theorem JJ {S : List V -> Hp -> Prop} (q : S [] H) : tNil Z H S := q
theorem ER {S : List V -> Hp -> Prop} {tr : TA} (h : ta Z H λ x H1 => tr Z H1 λ xs H2 => S (x :: xs) H2) : bq ta tr Z H S := h
theorem JD (h : t ⟨u ⟨nx, rt, bk, ct⟩, rt, bk, ct⟩ Z H) : kI t u ⟨nx, rt, bk, ct⟩ Z H := h
theorem EQ (h : nx Z H) : tNext ⟨nx, rt, bk, ct⟩ Z H := h
theorem JH (h : te Z H rt) : AE te ⟨nx, rt, bk, ct⟩ Z H := h
theorem Jb (h : c Z H λ b H1 => if b = true then t ⟨nx, rt, bk, ct⟩ Z H1 else u ⟨nx, rt, bk, ct⟩ Z H1) : Am c t u ⟨nx, rt, bk, ct⟩ Z H := h
theorem IO {g : TG} (h : te Z H λ x H1 => g x Z H1 nx) : ro te g ⟨nx, rt, bk, ct⟩ Z H := h
theorem Hg {S : St -> Hp -> Prop} (h : gB Z k (some v) σ') (q : S σ' H) : bu k v Z H S := by
 show S (Z.set k (some v)) H
 rw [h.eq]; exact q
variable {A : Prop} {B : Prop}
theorem aK {c : Prop} [Decidable c] (h1 : c -> A) (h2 : ¬ c -> B) : if decide c = true then A else B := by
 by_cases h : c
 ·rw [nS h]; exact fV (h1 h)
 ·rw [kv h]; exact eD (h2 h)
theorem wI {b : Bool} (h : if b = true then B else A) : if (!b) = true then A else B := by
 cases b with
 | true => exact eD h
 | false => exact fV h
theorem qF {b : Bool} (h1 : b = true -> A) (h2 : b = false -> B) : if b = true then A else B := by
 cases b with
 | true => exact fV (h1 rfl)
 | false => exact eD (h2 rfl)
variable {tA : TA}
theorem Dy {sp : Sp} {E : XK} (h : tA Z H λ vs H1 => sp vs H1 Q E) : dm sp [] E tA Z H Q := by
 unfold dm
 simpa using h
theorem CL {sp : Sp} {E : XK} {w : V} (h : tA Z H λ vs H1 => sp (vs ++ [w]) H1 Q E) : dm sp [w] E tA Z H Q := h
theorem LA {rr : List V -> Hp -> VK -> Prop} (h : tA Z H λ vs H1 => rr vs H1 Q) : GM rr tA Z H Q := h
variable {K : Fg} {p : Addr}
theorem JO {xs : List V} (hs : bI K H p xs) (ha : fG xs i = some v) (q : Q v H) : kb K (.ref p) (.int i) H Q := ⟨p, xs, i, v, rfl, rfl, hs, ha, q⟩
theorem EC {xs : List V} (hs : br K H p xs) (ha : fG xs i = some v) (q : Q v H) : ES K (.ref p) (.int i) H Q := ⟨p, xs, i, v, rfl, rfl, hs, ha, q⟩
theorem Fb (q : Q (.bl true) H) : rIsN .non .non H Q := ⟨rfl, q⟩
theorem GX (q : Q (.bl false) H) : rIsN (.int i) .non H Q := ⟨rfl, q⟩
theorem GU (q : Q (.bl false) H) : rIsN (.str a) .non H Q := ⟨rfl, q⟩
theorem Hr (q : Q (.bl false) H) : rIsN (.ref p) .non H Q := ⟨rfl, q⟩
theorem z_len {ys : List V} {S : List V -> Prop} (hs : br K H p ys ∨ bI K H p ys) (q : S ys) : ∃ p' ys', [V.ref p] = [V.ref p'] /\ (br K H p' ys' ∨ bI K H p' ys') /\ S ys' := ⟨p, ys, rfl, hs, q⟩
theorem Lk {T : String} {rr : V -> List V -> Hp -> VK -> Prop} (h : te Z H λ x H1 => Ia K T x H1 /\ tA Z H1 λ xs H2 => rr x xs H2 Q) : Kx K T rr te tA Z H Q := h
end
theorem sm2 {A B C : Hp} (g : am B C) (h : am A B) : am A C := h.trans g
section
variable {Z : St} {H : Hp} {te : TE} {tb : TS} {g : TG} {nx bk ct : St -> Hp -> Prop} {rt : VK} {wi : TI} {K : Fg} {a : Addr} {xs : List V}
noncomputable def FW (J : It) (g : TG) (tb : TS) (nx : St -> Hp -> Prop) (rt : VK) (Z : St) (H : Hp) : Prop := ∃ W : Nat -> Nat -> St -> Hp -> Prop, (∃ m, W 0 m Z H) /\ ∀ i m Z H, W i m Z H ->
 (J.stop i H /\ nx Z H) ∨ (J.go i H /\ ∃ N : St -> Hp -> Prop, (∀ σ' H', N σ' H' -> ∃ m', m' < m /\ W (i + 1) m' σ' H') /\ ∀ x H', J.yld i H x H' -> g x Z H' λ σ2 H2 => tb ⟨N, rt, nx, N⟩ σ2 H2)
theorem Kh (h : wi Z H λ J H1 => FW J g tb nx rt Z H1) : Dr wi g tb ⟨nx, rt, bk, ct⟩ Z H := h
theorem Md {R : It -> Hp -> Prop} (h : te Z H λ x H1 => ∃ a, x = .ref a /\ (∃ xs, br K H1 a xs) /\ R (FP K a) H1) : wD K te Z H R := h
theorem Im {S : Addr -> Prop} (hs : br K H a xs) (q : S a) : ∃ a', V.ref a = .ref a' /\ (∃ xs, br K H a' xs) /\ S a' := ⟨a, rfl, ⟨xs, hs⟩, q⟩
theorem GS (Pv : Nat -> St -> Hp -> Prop) (h0 : Pv 0 Z H) (hl : ∀ i Z H, i <= xs.length -> Pv i Z H -> br K H a xs)
  (hs : ∀ i x Z H, xs[i]? = some x -> Pv i Z H -> g x Z H λ σ2 H2 => tb ⟨Pv (i + 1), rt, nx, Pv (i + 1)⟩ σ2 H2) (hd : ∀ Z H, Pv xs.length Z H -> nx Z H) : FW (FP K a) g tb nx rt Z H := Ay (D := ⟨nx, rt, nx, nx⟩) Pv h0 hl hs hd
end
variable {m : Nat} {n : Nat} {x : Int} {y : Int}
theorem HC (h : My.Bd m x) (g : My.Bd n y) : My.Bd (m + n) (x * y) := h.mul g
theorem GF (h : My.Bd m x) (g : My.Bd n y) : My.Bd (max m n + 1) (x + y) := (h.mono (show m <= max m n by omega)).add (g.mono (show n <= max m n by omega))
theorem Hl (h : My.Bd m x) (g : My.Bd n y) : My.Bd (max m n + 1) (x - y) := (h.mono (show m <= max m n by omega)).sub (g.mono (show n <= max m n by omega))
theorem nu {n : Int} (h1 : -1152921504606846976 < n) (h2 : n < 1152921504606846976) : My.Bd 60 n := by unfold My.Bd; omega
theorem JF {K : Fg} {l : Addr} {xs : List V} {H : Hp} {S : Prop} (h : br K H l xs) (q : S) : Ia K "list" (.ref l) H /\ S := ⟨.inl ⟨rfl, xs, h⟩, q⟩
theorem kL {N : List Str} {vs : List V} {t : TS} {D : cQ} {H : Hp} (h : bN N vs = Z) (q : t D Z H) : t D (bN N vs) H := by rw [h]; exact q
theorem ik {X : Cx} {tg : Str} {sc : Scope} {fr : List (Str × Nat)} {osc : Scope} {N : List Str} (ho : X.env.scope = osc) (hN : X.N = N) (h : dX osc N tg sc fr = true) : cF X [tg] sc fr /\ sc.names.lookup tg = some .local := by
 have o := cY ho hN h
 exact ⟨⟨o.kind, o.nocell, o.locs, o.fre, o.nd, o.vis⟩, o.tgl⟩
theorem wy {X : Cx} {elt iter c : Expr} {tg : Str} {ps pos : Pos} {sc : Scope} {fr : List (Str × Nat)} {wi : TI} {te : TE} {tc : TT} (hc : X.calm = true) (ok : cF X [tg] sc fr /\ sc.names.lookup tg = some .local) (hi : PI X (.Name tg ps) iter wi)
  (ht : ∀ cl C s3 H3 fp, PT (X.blk ([tg] ++ fr.map (·.1)) sc cl C s3 H3 fp) c tc) (he : ∀ cl C s3 H3 fp, PE (X.blk ([tg] ++ fr.map (·.1)) sc cl C s3 H3 fp) elt te) (hs : ∀ x, foldedSetIterable iter X.env x = pure x := by intro _; rfl) :
  PE X (.ListComp elt [⟨.Name tg ps, iter, [c], 0⟩] sc pos) (mh 1 fr wi (bu 0) tc te) :=
 pJ (tgs := [tg]) hc ok.1 hi (λ _ _ _ _ _ => aM ok.1.nd rfl (.inl (ld ok.2)) (.inr (ld ok.2))) (λ _ _ _ _ _ => lg (ht _ _ _ _ _)) he hs
section
variable {X : Cx} {elt iter tg : Expr} {ifs : List Expr} {tgs : List Str} {pos : Pos} {sc : Scope} {fr : List (Str × Nat)} {wi : TI} {te : TE} {g : TG} {tc : TT}
theorem yh {y : Str} {py spos : Pos} {iy : Nat} (hN : X.N.Nodup) (hi' : X.N[iy]? = some y) (hy : CG X.env.scope y) (hc : X.calm = true) (ok : cF X tgs sc fr) (hi : PI X tg iter wi) (hg : ∀ cl C s3 H3 fp, PG (X.blk (tgs ++ fr.map (·.1)) sc cl C s3 H3 fp) tg g) (ht : ∀ cl C s3 H3 fp, KM (X.blk (tgs ++ fr.map (·.1)) sc cl C s3 H3 fp) ifs tc) (he : ∀ cl C s3 H3 fp, PE (X.blk (tgs ++ fr.map (·.1)) sc cl C s3 H3 fp) elt te) (hs : ∀ x, foldedSetIterable iter X.env x = pure x := by intro _; rfl)
  (hsw : swapsWith (.ListComp elt [⟨tg, iter, ifs, 0⟩] sc pos) (some (.Name y py)) spos.line X.env = pure true := by rfl) (hfn : X.fn y = true ∨ X.env.scope.names.lookup y = some .local := by first | exact .inl rfl | exact .inr rfl | assumption) :
  PS X (.Assign [.Name y py] (.ListComp elt [⟨tg, iter, ifs, 0⟩] sc pos) spos) (ro (mh tgs.length fr wi g tc te) (bu iy)) := by
 intro pins s Z H D I h
 obtain ⟨cl, ecl, hk, hcx⟩ := fv (env := X.env) (sc := sc) (λ y hy yf => I.ok.has y.1 (ok.fre y hy yf))
 rw [exec_Assign_Name_used _ _ _ _ hsw]
 refine bf (wpAny_standAt (bf ?_))
 show wpAny _ X.A (do let _ <- comprehension (.ListComp elt [⟨tg, iter, ifs, 0⟩] sc pos) sc X.env _ (newList []) false (eval iter X.env) (some (assign (.Name y py) X.env))) _ _ s
 refine bf (mW (wpAny_comprehension_free (use := some (assign (.Name y py) X.env)) (Q := λ _ s' => SP X pins D .next s') rfl hs ecl ok.kind ok.locs ?_) (λ _ s' z => i7 (i7 z)) λ _ _ z => z)
 refine (bO (hi pins s Z H _ I h) λ v s1 h1 => bO h1 λ itv s2 h2 => ?_)
 obtain ⟨it, fp, tn, J, H2, e, I2, T, st2, f2, q⟩ := h2
 subst e
 have hacc : H2 s2.heap.objs.size = none := I2.hok.fresh (eT _)
 obtain ⟨W, ⟨m0, w0⟩, turn⟩ := q s2.heap.objs.size hacc
 refine wpAny_newObj_type ?_
 have I3 := I2.laid (a := s2.heap.objs.size) (o := .lst []) (h' := s2.heap.push { cls := .type "list", data := .seq ([] : List Value).toArray }) (t' := s2.toks) (λ b u e => cp _ e) (eT _) ⟨nW _, [], 0, .nil, kH _ rfl⟩
 refine wpAny_newFunctionEnv ok.nocell (by intro y hy; simp at hy) (λ h4 hns4 hsb4 => ?_) ok.kind
 generalize hs3 : ({ s2 with heap := s2.heap.push { cls := .type "list", data := .seq ([] : List Value).toArray } } : Shared) = s3 at *
 have keep4 : ∀ b o, s3.heap.get? b = some o -> h4.get? b = some o := λ b o e => hsb4.extBut b o (nh (gS e)) (cp _ e)
 have keep3 : ∀ b o, s2.heap.get? b = some o -> s3.heap.get? b = some o := λ b o e => by rw [<- hs3]; exact cp _ e
 have hfo : ∀ b ∈ fp, ∃ o, s3.heap.get? b = some o := λ b hb => by
  obtain ⟨o, eo, _⟩ := T.obj 0 _ st2 b hb
  exact ⟨o, keep3 b o eo⟩
 have f3 : ∀ b ∈ fp, dS X pins (upd H2 s2.heap.objs.size (.lst [])) b := λ b hb => by
  obtain ⟨o, eo, _⟩ := T.obj 0 _ st2 b hb
  exact ⟨by rw [ag (nh (gS eo))]; exact (f2 b hb).1, (f2 b hb).2⟩
 have I4 := lO (t4 := s3.toks + ([] : List (Str × Value)).length) ok I3 f3 hfo hk hcx ⟨_, hns4⟩ keep4
 have st4 : tn 0 h4 := T.keep 0 s2.heap h4 st2 λ b hb o e => keep4 b o (keep3 b o e)
 have stat : ∀ {H' : Hp}, (∀ b ∈ fp, H' b = none) -> ∀ b ∈ fp, dS (X.blk (tgs ++ fr.map (·.1)) sc cl s3.heap.objs.size s3 (upd H2 s2.heap.objs.size (.lst [])) fp) [] H' b := λ hn b hb =>
  ⟨hn b hb, (I4.ok.exf b hb).1, I4.ok.exfs b hb, .inl hb, (I4.ok.exf b hb).2, λ p hp => nomatch hp⟩
 have loop : codeAny (model X.prog X.w) X.A (.compLoop (.ListComp elt [⟨tg, iter, ifs, 0⟩] sc pos) 0 (.ref it) (.ref s2.heap.objs.size) (compEnvC sc cl s3.heap.objs.size X.env))
   (compPost (model X.prog X.w) X.A X.xe (some (assign (.Name y py) X.env)) (λ _ s' => SP X pins D .next s') (.ref s2.heap.objs.size) s3.heap.objs.size) { s3 with heap := h4, toks := s3.toks + ([] : List (Str × Value)).length } := by
  refine ly (λ n s' => ∃ i σb H', ay (X.blk (tgs ++ fr.map (·.1)) sc cl s3.heap.objs.size s3 (upd H2 s2.heap.objs.size (.lst [])) fp) [] σb H' s' /\ tn i s'.heap /\ (∀ b ∈ fp, H' b = none) /\ W i n σb H') ?_ m0
   ⟨0, _, _, I4, st4, λ b hb => (f3 b hb).1, w0⟩
  rintro n s5 ⟨i, σb, H5, I5, st5, fr5, w5⟩
  rcases turn i n σb H5 w5 with ⟨stop, qq⟩ | ⟨go, step⟩
  ·refine bO (T.done (X.blk (tgs ++ fr.map (·.1)) sc cl s3.heap.objs.size s3 (upd H2 s2.heap.objs.size (.lst [])) fp) rfl rfl rfl hc i [] s5 _ H5 _ I5 (stat fr5) st5 stop) λ r s6 ⟨hr, I6⟩ => ?_
   subst hr
   obtain ⟨m6, hn6, _⟩ := I6.loc
   have u6 : Un (fS X.stack) fp (upd H2 s2.heap.objs.size (.lst [])) H5 s3.heap s6.heap := I6.base
   have hok6 : iB X.prog X.w H5 s6.heap := I6.hok
   have os6 : s6.os = s3.os := I6.os
   have bare6 := I6.bare
   have free6 : H5 s3.heap.objs.size = none := I6.free
   have IX : ay X pins Z H5 s6 := by
    obtain ⟨hh, g, d, t, os'⟩ := s6
    obtain rfl : os' = s3.os := os6
    show ay X pins Z H5 { s3 with heap := hh, gens := g, drawn := d, toks := t }
    exact I3.call (h' := hh) (g' := g) (d' := d) (t' := t) (ch := fp) u6 hok6 bare6 λ b hb => ⟨(f3 b hb).2.2.2.1, (f3 b hb).2.1, (f3 b hb).2.2.2.2.1, (f3 b hb).2.2.2.2.2⟩
   obtain ⟨oC, es, ep, hoC, BJ, rC⟩ := hn6
   have hfC : dS X pins H5 s3.heap.objs.size := I3.fpOk (eT _) free6
   have IX' : ay X (pins ++ [(s3.heap.objs.size, oC)]) Z H5 s6 := IX.pins_of λ p hp => by
    rcases rl.mp hp with z | z
    ·exact IX.pin p (cx _ z)
    ·have z' := o5.mp z
     subst z'
     exact ⟨hoC, free6, hfC.2.1, hfC.2.2.1, λ v z => by
      have z2 : oC.data = .cell v := z
      rw [BJ] at z2; cases z2⟩
   refine bO (aM (X := X) (i := iy) (pos := py) hN hi' hy hfn _ s6 Z H5 (.ref s2.heap.objs.size) (.ref s2.heap.objs.size) (λ σ' H' => σ' = Z.set iy (some (.ref s2.heap.objs.size)) /\ H' = H5) IX' rfl ⟨rfl, rfl⟩) λ _ s7 z => ?_
   obtain ⟨σ7, H7, I7, e7, e7'⟩ := z
   subst e7 e7'
   have pC := I7.pin (s3.heap.objs.size, oC) (cx _ (cx _ (o5.mpr rfl)))
   refine ⟨m6, ⟨oC, es, ep, pC.1, BJ, rC⟩, λ h8 hsb8 => ?_⟩
   have I7u : ay X pins (Z.set iy (some (.ref s2.heap.objs.size))) H7 s7 := I7.unpinned
   refine ⟨_, H7, ?_, qq⟩
   exact I7u.turned (it := s3.heap.objs.size) (t' := s7.toks) (λ b o hb e => hsb8.extBut b o hb e) free6 hfC.2.1 hfC.2.2.2.1 hfC.2.2.2.2.1 hfC.2.2.2.2.2
  ·refine bO (T.item (X.blk (tgs ++ fr.map (·.1)) sc cl s3.heap.objs.size s3 (upd H2 s2.heap.objs.size (.lst [])) fp) rfl rfl rfl hc i [] s5 _ H5 _ I5 (stat fr5) st5 go) λ r s6 ⟨u, hr, h6⟩ => ?_
   subst hr
   refine bO h6 λ _ s7 ⟨y, H7, I7, r7, y7, st7, fr7⟩ => ?_
   have I7' := I7.pinned (stat fr7) (T.obj _ _ st7)
   refine mW (hg cl s3.heap.objs.size s3 (upd H2 s2.heap.objs.size (.lst [])) fp _ s7 _ H7 y u _ I7' r7 (step y H7 y7)) (λ _ s8 z => ?_) (λ e s z => (show False from z).elim)
   obtain ⟨σ8, H8, I8, q8⟩ := z
   refine mW (ht cl s3.heap.objs.size s3 (upd H2 s2.heap.objs.size (.lst [])) fp _ s8 σ8 H8 _ I8 q8) (λ b s8' z => ?_) (λ e s z => (show False from z).elim)
   obtain ⟨H8', I8', q8'⟩ := z
   have goOn : ∀ {s10 : Shared} {H10 : Hp} {m' : Nat}, ay (X.blk (tgs ++ fr.map (·.1)) sc cl s3.heap.objs.size s3 (upd H2 s2.heap.objs.size (.lst [])) fp) _ σ8 H10 s10 -> m' < n -> W (i + 1) m' σ8 H10 -> ∃ m, m < n /\ ∃ i σb H', ay (X.blk (tgs ++ fr.map (·.1)) sc cl s3.heap.objs.size s3 (upd H2 s2.heap.objs.size (.lst [])) fp) [] σb H' s10 /\ tn i s10.heap /\ (∀ b ∈ fp, H' b = none) /\ W i m σb H' := λ {s10 H10 m'} I10 hm w9 => by
    refine ⟨m', hm, i + 1, σ8, _, I10.unpinned, T.keep _ _ _ st7 λ b hb o e => (I10.pin (b, o) (cx _ (cx _ (bF hb e)))).1, λ b hb => ?_, w9⟩
    obtain ⟨o, e, d⟩ := T.obj _ _ st7 b hb
    exact (I10.pin (b, o) (cx _ (cx _ (bF hb e)))).2.1
   cases b with
   | false =>
    obtain ⟨m', hm, w9⟩ := (gV ff).mp q8'
    exact (gV ff).mpr (goOn I8' hm w9)
   | true =>
    refine (h9 rfl).mpr ?_
    refine mW (he cl s3.heap.objs.size s3 (upd H2 s2.heap.objs.size (.lst [])) fp _ s8' _ H8' _ I8' ((h9 rfl).mp q8')) (λ v s9 z => ?_) (λ e s z => (show False from z).elim)
    obtain ⟨z, H9, I9, r9, xs, m', ha, hl, hm, w9⟩ := z
    refine mW (aQ (X := X.blk (tgs ++ fr.map (·.1)) sc cl s3.heap.objs.size s3 (upd H2 s2.heap.objs.size (.lst [])) fp) _ s9 _ H9 (.ref s2.heap.objs.size) [z] (.ref s2.heap.objs.size) [v] (λ _ H' => H' = upd H9 s2.heap.objs.size (.lst (xs ++ [z]))) I9 rfl (.cons r9 .nil) ⟨_, xs, z, rfl, rfl, ha, hl, rfl⟩) (λ _ s10 z => ?_) (λ e s z => (show False from z).elim)
    obtain ⟨_, H10, I10, _, e10⟩ := z
    subst e10
    exact goOn I10 hm w9
 exact codeAny_compStart_list loop (T.self X.A 0 _ _ _ st4 loop)
end
theorem vi {X : Cx} {elt iter c : Expr} {tg : Str} {ps pos : Pos} {sc : Scope} {fr : List (Str × Nat)} {wi : TI} {te : TE} {tc : TT} {y : Str} {py spos : Pos} {iy : Nat} (hN : X.N.Nodup) (hi' : X.N[iy]? = some y) (hy : CG X.env.scope y) (hc : X.calm = true) (ok : cF X [tg] sc fr /\ sc.names.lookup tg = some .local) (hi : PI X (.Name tg ps) iter wi)
  (ht : ∀ cl C s3 H3 fp, PT (X.blk ([tg] ++ fr.map (·.1)) sc cl C s3 H3 fp) c tc) (he : ∀ cl C s3 H3 fp, PE (X.blk ([tg] ++ fr.map (·.1)) sc cl C s3 H3 fp) elt te) (hs : ∀ x, foldedSetIterable iter X.env x = pure x := by intro _; rfl)
  (hsw : swapsWith (.ListComp elt [⟨.Name tg ps, iter, [c], 0⟩] sc pos) (some (.Name y py)) spos.line X.env = pure true := by rfl) (hfn : X.fn y = true ∨ X.env.scope.names.lookup y = some .local := by first | exact .inl rfl | exact .inr rfl | assumption) :
  PS X (.Assign [.Name y py] (.ListComp elt [⟨.Name tg ps, iter, [c], 0⟩] sc pos) spos) (ro (mh 1 fr wi (bu 0) tc te) (bu iy)) :=
 yh (tgs := [tg]) hN hi' hy hc ok.1 hi (λ _ _ _ _ _ => aM ok.1.nd rfl (.inl (ld ok.2)) (.inr (ld ok.2))) (λ _ _ _ _ _ => lg (ht _ _ _ _ _)) he hs hsw hfn
inductive eS (K : Fg) (H : Hp) : Nat -> V -> V -> Prop
 | int {n : Nat} {i : Int} : eS K H n (.int i) (.int i)
 | str {n : Nat} {x : Str} : eS K H n (.str x) (.str x)
 | bl {n : Nat} {b : Bool} : eS K H n (.bl b) (.bl b)
 | non {n : Nat} : eS K H n .non .non
 | ref {n : Nat} {a : Addr} : eS K H n (.ref a) (.ref a)
 | tup {n : Nat} {p q : Addr} {xs ys : List V} (h1 : bI K H p xs) (h2 : bI K H q ys) (hl : xs.length = ys.length) (he : ∀ (j : Nat) (x y : V), xs[j]? = some x -> ys[j]? = some y -> eS K H n x y) : eS K H (n + 1) (.ref p) (.ref q)
 | lst {n : Nat} {p q : Addr} {xs ys : List V} (h1 : br K H p xs) (h2 : br K H q ys) (hl : xs.length = ys.length) (he : ∀ (j : Nat) (x y : V), xs[j]? = some x -> ys[j]? = some y -> eS K H n x y) : eS K H (n + 1) (.ref p) (.ref q)
 | dct {n : Nat} {p q : Addr} (h1 : H p = some (.dK [])) (h2 : H q = some (.dK [])) : eS K H n (.ref p) (.ref q)
theorem tR {P P' : Program} {w w' : World} {h : Heap} {a : Addr} (d : h.DictOf (jt P w) a []) : h.DictOf (jt P' w') a [] := by
 obtain ⟨o, es, ep, ho, he, hd, hk, hp, hn⟩ := d
 obtain ⟨es⟩ := es
 cases hp
 exact ⟨o, _, ep, ho, he, hd, λ _ h => absurd h (by simp), .nil, hn⟩
theorem cO {xs : List V} {us : List Value} (h : aL xs us) : ∀ {j : Nat} {u : Value}, us[j]? = some u -> ∃ x, xs[j]? = some x /\ aU x u := by
 induction h with
 | nil => intro j u e; simp at e
 | cons r rr ih =>
  intro j u e
  cases j with
  | zero => exact ⟨_, rfl, by rw [List.getElem?_cons_zero] at e; cases e; exact r⟩
  | succ j => exact ih (by rw [List.getElem?_cons_succ] at e; exact e)
theorem iQ {n : Nat} : (List.range n).all (λ _ => true) = true := by rw [List.all_eq_true]; intro _ _; rfl
section
variable {X : Cx} {pins : Pn} {Z : St} {H : Hp} {s : Shared}
theorem ay.alike (I : ay X pins Z H s) {n : Nat} {x y : V} (h : eS X.K H n x y) : ∀ {A : Around} {u v : Value}, A.units + n < cLine -> aU x u -> aU y v -> SeqAt.EqAt A s u v true := by
 induction h with
 | @int n i =>
  intro A u v hu r1 r2
  obtain ⟨t, rfl⟩ := r1
  obtain ⟨t', rfl⟩ := r2
  have := SeqAt.EqAt.int_int (A := A) (s := s) i t i t'
  rw [beq_self_eq_true] at this
  exact this
 | @str n x =>
  intro A u v hu r1 r2
  obtain ⟨t, rfl⟩ := r1
  obtain ⟨t', rfl⟩ := r2
  have := SeqAt.EqAt.str_str (A := A) (s := s) x t x t'
  rw [beq_self_eq_true] at this
  exact this
 | bl => intro A u v hu r1 r2; cases r1; cases r2; exact SeqAt.EqAt.same _
 | non => intro A u v hu r1 r2; cases r1; cases r2; exact SeqAt.EqAt.same _
 | ref => intro A u v hu r1 r2; cases r1; cases r2; exact SeqAt.EqAt.same _
 | @tup n p q xs ys h1 h2 hl he ih =>
  intro A u v hu r1 r2
  cases r1
  cases r2
  by_cases e : p = q
  ·subst e; exact SeqAt.EqAt.same _
  ·refine SeqAt.EqAt.of_refs e ?_
   obtain ⟨its, v1, p1, _⟩ := I.tuple h1
   obtain ⟨its2, v2, p2, _⟩ := I.tuple h2
   have l1 := v1.length
   have l2 := v2.length
   have key := SeqAt.RcAt.tuples (A := A) (s := s) (l := p) (b := q) (items := its.toArray) (items2 := its2.toArray) (e := λ _ => true) p1 p2 (by omega) (λ j g1 g2 => by
    have g1' : j < its.length := by simpa using g1
    have g2' : j < its2.length := by simpa using g2
    obtain ⟨x, ex, rx⟩ := cO v1 (dI g1')
    obtain ⟨y, ey, ry⟩ := cO v2 (dI g2')
    have w1 : its.toArray[j] = its[j] := by simp
    have w2 : its2.toArray[j] = its2[j] := by simp
    rw [w1, w2]
    exact ih j x y ex ey (by show A.units + 1 + n < cLine; omega) rx ry)
   have e2 : ((List.range (min its.toArray.size its2.toArray.size)).all (λ _ => true) && its.toArray.size == its2.toArray.size) = true := by
    rw [iQ, Bool.true_and, i3, i3, <- l1, <- l2, hl, beq_self_eq_true]
   rw [e2] at key
   exact key
 | @lst n p q xs ys h1 h2 hl he ih =>
  intro A u v hu r1 r2
  cases r1
  cases r2
  by_cases e : p = q
  ·subst e; exact SeqAt.EqAt.same _
  ·refine SeqAt.EqAt.of_refs e ?_
   obtain ⟨its, v1, p1, _⟩ := I.list h1
   obtain ⟨its2, v2, p2, _⟩ := I.list h2
   have l1 := v1.length
   have l2 := v2.length
   have key := SeqAt.RcAt.lists (A := A) (s := s) (l := p) (b := q) (items := its.toArray) (items2 := its2.toArray) (e := λ _ => true) p1.isList p2.isList (by rw [i3, i3, <- l1, <- l2, hl]) (by omega) (λ j g1 g2 => by
    have g1' : j < its.length := by simpa using g1
    have g2' : j < its2.length := by simpa using g2
    obtain ⟨x, ex, rx⟩ := cO v1 (dI g1')
    obtain ⟨y, ey, ry⟩ := cO v2 (dI g2')
    have w1 : its.toArray[j] = its[j] := by simp
    have w2 : its2.toArray[j] = its2[j] := by simp
    rw [w1, w2]
    exact ih j x y ex ey (by show A.units + 1 + n < cLine; omega) rx ry)
   rw [iQ] at key
   exact key
 | @dct n p q h1 h2 =>
  intro A u v hu r1 r2
  cases r1
  cases r2
  by_cases e : p = q
  ·subst e; exact SeqAt.EqAt.same _
  ·refine SeqAt.EqAt.of_refs e λ prog w E Q hq => ?_
   obtain ⟨_, z1, vs1, k1, d1⟩ := (show cj X.prog X.w H s.heap p (.dK []) from I.hok p _ h1)
   obtain ⟨_, z2, vs2, k2, d2⟩ := (show cj X.prog X.w H s.heap q (.dK []) from I.hok q _ h2)
   cases k1
   cases k2
   exact PySem.W.keq_eq (r := true) z1 z2 (tR (P' := prog) (w' := w) d1) (tR d2) (by omega) (λ _ => .nil) hq
noncomputable def Hm (K : Fg) (H : Hp) (p q : Addr) : Prop := ∃ (n : Nat) (xs ys : List V), n <= 100 /\ ((bI K H p xs /\ bI K H q ys) ∨ (br K H p xs /\ br K H q ys)) /\ xs.length = ys.length /\ ∀ (j : Nat) (x y : V), xs[j]? = some x -> ys[j]? = some y -> eS K H n x y
noncomputable def Gm (K : Fg) (b : Bool) : R2 := λ x y H Q => ∃ p q, x = .ref p /\ y = .ref q /\ Hm K H p q /\ Q (.bl b) H
theorem Bt (hu : X.A.units + 150 < cLine) : gH X (compareOp .NotEq) (Gm X.K false) := by
 intro pins s Z H x y v u Q I rx ry h
 obtain ⟨p, q, rfl, rfl, ⟨n, xs, ys, hn, hs, hl, he⟩, k⟩ := h
 cases rx
 cases ry
 rcases hs with ⟨h1, h2⟩ | ⟨h1, h2⟩
 ·obtain ⟨its, v1, p1, _⟩ := I.tuple h1
  obtain ⟨its2, v2, p2, _⟩ := I.tuple h2
  have l1 := v1.length
  have l2 := v2.length
  have key := SeqAt.RcNeAt.tuples (A := X.A) (s := s) (l := p) (b := q) (items := its.toArray) (items2 := its2.toArray) (e := λ _ => true) p1 p2 (by omega) (λ j g1 g2 => by
   have g1' : j < its.length := by simpa using g1
   have g2' : j < its2.length := by simpa using g2
   obtain ⟨x, ex, rx⟩ := cO v1 (dI g1')
   obtain ⟨y, ey, ry⟩ := cO v2 (dI g2')
   have w1 : its.toArray[j] = its[j] := by simp
   have w2 : its2.toArray[j] = its2[j] := by simp
   rw [w1, w2]
   exact I.alike (he j x y ex ey) (by show X.A.units + 1 + n < cLine; omega) rx ry)
  have e2 : (!((List.range (min its.toArray.size its2.toArray.size)).all (λ _ => true) && its.toArray.size == its2.toArray.size)) = false := by
   rw [iQ, Bool.true_and, i3, i3, <- l1, <- l2, hl, beq_self_eq_true]; rfl
  rw [e2] at key
  exact key _ _ _ _ ⟨.bl false, H, I, rfl, k⟩
 ·obtain ⟨its, v1, p1, _⟩ := I.list h1
  obtain ⟨its2, v2, p2, _⟩ := I.list h2
  have l1 := v1.length
  have l2 := v2.length
  have key := SeqAt.RcNeAt.lists (A := X.A) (s := s) (l := p) (b := q) (items := its.toArray) (items2 := its2.toArray) (e := λ _ => true) p1.isList p2.isList (by rw [i3, i3, <- l1, <- l2, hl]) (by omega) (λ j g1 g2 => by
   have g1' : j < its.length := by simpa using g1
   have g2' : j < its2.length := by simpa using g2
   obtain ⟨x, ex, rx⟩ := cO v1 (dI g1')
   obtain ⟨y, ey, ry⟩ := cO v2 (dI g2')
   have w1 : its.toArray[j] = its[j] := by simp
   have w2 : its2.toArray[j] = its2[j] := by simp
   rw [w1, w2]
   exact I.alike (he j x y ex ey) (by show X.A.units + 1 + n < cLine; omega) rx ry)
  rw [iQ] at key
  exact key _ _ _ _ ⟨.bl false, H, I, rfl, k⟩
end
theorem cP.un150 {k : Nat} {A : Around} (r : cP k A) : A.units + 150 < cLine := by have := r.un; omega
end L2
namespace L2
open PySem PySem.Spec PyProof.Rows PySem.W PySem.Calls
theorem gx : ∀ {ns : List Int}, WData.weightAll (ns.map WData.int) <= 2 ^ 20 -> ∀ x ∈ ns, My.Bd 1048576 x
 | y :: r, h, x, hx => by
  have h' : WData.weight (.int y) + 1 + WData.weightAll (r.map WData.int) <= 2 ^ 20 := h
  rcases j3.mp hx with e | e
  ·subst e
   have w : WData.weight (.int x) = (if x == 0 then 0 else x.natAbs.log2 + 1) := by
    first | rfl | simp [WData.weight]
   unfold My.Bd
   by_cases z : x = 0
   ·subst z
    exact Nat.two_pow_pos _
   ·have zb : (x == 0) = false := by simpa using z
    rw [w, zb] at h'
    have h2 : x.natAbs.log2 < 1048576 := by
     have e20 : (2 : Nat) ^ 20 = 1048576 := by decide
     rw [e20] at h'
     simp only [qx, if_false] at h'
     omega
    exact (Nat.log2_lt (by omega)).mp h2
  ·exact gx (by omega) x e
theorem pI {l : OpenLaw} {n : Nat} {q : Program} {loose : List Str} {XP : (Str -> Option Value) -> Heap -> Prop} {YP : World -> Heap -> Prop} {d : DefRec}
  (hn : l.most = some n) (hdf : d.params.defaults = [])
  (call : ∀ (w : World) (s₀ s₁ : Shared) (mg mb : Str -> Option Value) (fa : Addr) (o : Obj) (pm cd doc : Value) (a : Addr) (vs : List Value) (ns : List Int),
   Ground q loose [] XP w s₀ mg mb s₁.heap -> YP w s₁.heap ->
   s₁.heap.get? fa = some o -> o.data = .func (docDef d.name d.params d.body d.scope pm cd doc) -> s₁.heap.CodeRec cd d.name -> mg d.name = some (.ref fa) ->
   s₁.heap.get? a = some { cls := .type "list", data := .seq vs.toArray } -> IntsAre vs ns -> ns.length <= n -> (∀ x ∈ ns, My.Bd 1048576 x) -> s₁.gens = #[] ->
   codeAny (model l.prog w) callerA (.call (.ref fa) ⟨[.ref a], []⟩) (λ r s' => r = .ok (.ret (.bool true)) /\ OldK s₁.heap s'.heap /\ s'.os = s₁.os /\ AllBare s'.gens) s₁) :
  WalkO q loose XP YP l.row.toRowW d [] (λ f vs => PySem.call f vs) := by
 intro w s₀ s₁ mg mb G Y fa o pm cd doc dV kV ho hd hcd hD hmg hg args vals as hpre hlay hrd hwl hlo
 obtain rfl : dV = .none := Dflts.none hD hdf
 obtain rfl : kV = .none := Dflts.noKw hD
 obtain ⟨a, vs, ns, rfl, rfl, hobj, hints, hlen⟩ := Att.script_of hn hpre hwl
 have hb : ∀ x ∈ ns, My.Bd 1048576 x := by
  have h1 : (WData.list (ns.map WData.int)).layable = true := by
   have h2 : ([WData.list (ns.map WData.int)].all WData.layable) = true := hlay
   simpa using h2
  obtain ⟨_, _, h3⟩ := layableW_iff.mp h1
  refine gx ?_
  have e : WData.weight (.list (ns.map WData.int)) = WData.weightAll (ns.map WData.int) := by
   first | rfl | simp [WData.weight]
  rw [e] at h3
  exact h3
 refine enter_call (codeAny_mono (call w s₀ s₁ mg mb fa o pm cd doc a vs ns G Y ho (fd_plain hd) hcd hmg hobj hints hlen hb hg) λ r s' hq => ?_)
 obtain ⟨rfl, h2, h3, h4⟩ := hq
 exact ⟨.inl ⟨.bool true, .bool true, [], rfl, λ _ => rfl, .bool true, Att.post_true l _, λ _ => ⟨List.Pairwise.nil, λ _ hm => (nomatch hm)⟩⟩, h2, h3, h4⟩
end L2
namespace L2
open PySem PySem.Spec PyProof.Rows
noncomputable def pF (K : Fg) : V -> List V -> Hp -> VK -> Prop := λ x vs H Q => ∃ (l : Addr) (xs : List V) (y z : V) (j : Nat), x = .ref l /\ vs = [y] /\ br K H l xs /\ dr y = true /\ xs.all dr = true /\ xs[j]? = some z /\ xz z y = true /\ (∀ (i : Nat) (u : V), i < j -> xs[i]? = some u -> xz u y = false) /\ Q (.int j) H
section
variable {X : Cx}
theorem DD {xs : List V} (h : xs.all dr = true) {j : Nat} {x : V} (hx : xs[j]? = some x) : dr x = true := List.all_eq_true.mp h x (i8 hx)
theorem lW : Jq X "list.index" (pF X.K) := by
 intro pins s Z H x vs v us Q I rx rv h
 obtain ⟨l, xs, y, z, j, rfl, rfl, hq, fy, fs, hz, hit, hno, q⟩ := h
 cases rx
 obtain ⟨u, rfl, ru⟩ := rv.one
 obtain ⟨its, r, pl, hsz⟩ := I.list hq
 have hlen := r.length
 have hj : j < xs.length := by
  rcases Nat.lt_or_ge j xs.length with c | c
  ·exact c
  ·rw [List.getElem?_eq_none c] at hz; cases hz
 have h63 := jZ
 obtain ⟨⟨cls, dd, data, sl⟩, n, ho, hc, _, hd⟩ := id pl
 simp only at hc hd
 subst hc hd
 have at_ : ∀ (i : Nat) (hi : i < its.length), ∃ w, xs[i]? = some w /\ xB y its[i] = xz w y := λ i hi => by
  obtain ⟨w, hw, rw'⟩ : ∃ w, xs[i]? = some w /\ aU w its[i] := by
   have : ∀ {xs : List V} {us : List Value}, aL xs us -> ∀ {i : Nat} {u : Value}, us[i]? = some u -> ∃ x, xs[i]? = some x /\ aU x u := by
    intro xs us h
    induction h with
    | nil => intro i u e; simp at e
    | cons r rr ih =>
     intro i u e
     cases i with
     | zero => exact ⟨_, rfl, by rw [List.getElem?_cons_zero] at e; cases e; exact r⟩
     | succ i => exact ih (by rw [List.getElem?_cons_succ] at e; exact e)
   exact this r (dI hi)
  exact ⟨w, hw, uP rw' (DD fs hw)⟩
 refine call_meets PySem.F.slot_list_index ⟨_, ho, rfl⟩ PySem.F.entry_list_index (PySem.F.args_list_index_2 _ _)
  (SeqAt.list_indexAt l its.toArray n dd sl u (xB y) j (by simpa [<- hlen] using hj) (by omega) ?_ ?_) ⟨ho, λ w hw => iS ru fy r fs w (by simpa using hw), ⟨.int j, H, I.tok _, ⟨_, rfl⟩, q⟩⟩
 ·obtain ⟨w, hw, e⟩ := at_ j (by omega)
  rw [hz] at hw
  cases hw
  show xB y its.toArray[j] = true
  rw [show its.toArray[j]'(by simpa [<- hlen] using hj) = its[j]'(by omega) by simp, e]
  exact hit
 ·intro i hi hlt
  have hi' : i < its.length := by simpa using hi
  obtain ⟨w, hw, e⟩ := at_ i hi'
  show xB y its.toArray[i] = false
  rw [show its.toArray[i] = its[i] by simp, e]
  exact hno i w hlt hw
noncomputable def rAddS : R2 := λ x y H Q => ∃ i j, x = .str i /\ y = .str j /\ i.length + j.length <= sizeLine /\ Q (.str (i ++ j)) H
theorem oO : gH X (binaryOp .Add) rAddS := uk
end
section
variable {Z : St} {H : Hp} {Q : VK} {K : Fg} {p q : Addr} {xs : List V} {f : Bool -> Bool}
theorem Mo {b : Bool} {x : V} (h : br K H p xs) (fx : dr x = true) (fs : xs.all dr = true) (k : Q (.bl (if b then !HX x xs else HX x xs)) H) : KK K b x (.ref p) H Q := ⟨p, xs, rfl, .inl h, fx, fs, k⟩
theorem Ed {y z : V} {j : Nat} (h : br K H p xs) (fy : dr y = true) (fs : xs.all dr = true) (hz : xs[j]? = some z) (hit : xz z y = true) (hno : ∀ (i : Nat) (u : V), i < j -> xs[i]? = some u -> xz u y = false) (k : Q (.int j) H) : pF K (.ref p) [y] H Q := ⟨p, xs, y, z, j, rfl, rfl, h, fy, fs, hz, hit, hno, k⟩
end
end L2
namespace L2
open PySem PySem.Spec PyProof.Rows PySem.Builtin PySem.Builtin.Str
section
variable {X : Cx}
noncomputable def HA (K : Fg) : List V -> Hp -> VK -> Prop := λ xs H Q => ∃ (p : Addr) (bs : List Bool), xs = [.ref p] /\ br K H p (bs.map V.bl) /\ Q (.bl (bs.all λ b => b)) H
theorem qX : ∀ {bs : List Bool} {us : List Value}, aL (bs.map V.bl) us -> us = bs.map Value.bool
 | [], _, .nil => rfl
 | b :: r, _, .cons h t => by
  cases h
  rw [qX (bs := r) t]; rfl
theorem yg (bs : List Bool) : (List.range bs.length).all (λ i => bs.getD i true) = bs.all λ b => b := by
 rw [Bool.eq_iff_iff, List.all_eq_true, List.all_eq_true]
 constructor
 ·intro h x hx
  obtain ⟨i, hi, e⟩ := List.getElem_of_mem hx
  have := h i (List.mem_range.mpr hi)
  rw [j5, dI hi] at this
  rw [<- e]; exact this
 ·intro h i hi
  have hi := List.mem_range.mp hi
  rw [j5, dI hi]
  exact h _ (List.getElem_mem hi)
theorem Bo (hc : X.calm = true) : dE X (.builtin "all") (HA X.K) := by
 intro pins s Z H xs us Q I r h
 obtain ⟨p, bs, rfl, hq, q⟩ := h
 obtain ⟨u, rfl, ru⟩ := r.one
 cases ru
 obtain ⟨its, v, pl, _⟩ := I.list hq
 have ev := qX v
 have hl : s.heap.IsList p its.toArray := pl.isList
 have hlt : p < s.heap.objs.size := by
  obtain ⟨o, ho, _⟩ := hl
  exact gS ho
 refine call_all_walk (wpAny_pyIter_list hl ⟨s.heap.objs.size, [s.heap.objs.size, p], [s.heap.objs.size], its.toArray.size, (λ i v => its.toArray[i]? = some v), _, (λ i => bs.getD i true), rfl, Walks.list (prog := X.prog) (w := X.w) (A := X.A.in1) (I.ok.hd hc) _ p (nh hlt) its.toArray, ⟨⟨_, kH _ rfl, rfl, rfl⟩, hl.at λ o e => cp _ e⟩, ?_, ?_⟩)
 ·intro i v s' Q' E' hv hQ
  rw [ev] at hv
  have hv' : (bs.map Value.bool)[i]? = some v := by simpa using hv
  rw [kT] at hv'
  cases hb : bs[i]? with
  | none => rw [hb] at hv'; cases hv'
  | some b =>
   rw [hb] at hv'
   cases hv'
   have : bs.getD i true = b := by rw [j5, hb]; rfl
   refine wpAny_truthy_bool ?_
   rw [<- this]; exact hQ
 ·intro h' tk hk
  have e : (List.range its.toArray.size).all (λ i => bs.getD i true) = bs.all λ b => b := by
   rw [<- yg]
   have : its.toArray.size = bs.length := by rw [ev]; simp
   rw [this]
  rw [e]
  exact ⟨.bl _, H, I.kept (t' := tk) (λ b o ho => hk b o (by simp only [o5]; exact nh (gS ho)) (cp _ ho)), rfl, q⟩
theorem Hh : bootBuiltins "all" = some (.builtin "all") := by decide +kernel
end
end L2
namespace My
open PySem PySem.NumText
end My
namespace My
open PySem PySem.NumText PySem.StrLaws
end My
namespace My
open PySem PySem.NumText
end My
namespace My
open PySem PySem.NumText PySem.StrLaws PySem.Builtin PySem.Builtin.Str
end My
namespace L2
open PySem PySem.Spec PyProof.Rows
theorem Kg {H : Hp} {Q : VK} {a b : Bool} (q : Q (.bl (!decide (a = b))) H) : rNe (.bl a) (.bl b) H Q := by
 refine ⟨rfl, ?_⟩
 have e : decide (V.bl a = V.bl b) = decide (a = b) := by cases a <;> cases b <;> rfl
 rw [e]; exact q
noncomputable def El (K : Fg) : R2 := λ x y H Q => ∃ l m xs zs, x = .ref l /\ y = .ref m /\ br K H l xs /\ br K H m zs /\ xs.length + zs.length <= sizeLine /\ ∀ p, H p = none -> Q (.ref p) (upd H p (.lst (xs ++ zs)))
theorem gF {X : Cx} : gH X (binaryOp .Add) (El X.K) := by
 intro pins s Z H x y v u Q I rx ry h
 obtain ⟨l, b, xs, zs, rfl, rfl, hH, hB, hz, q⟩ := h
 cases rx
 cases ry
 obtain ⟨its, r, p1, _⟩ := I.list hH
 obtain ⟨its2, r2, p2, _⟩ := I.list hB
 have l1 := r.length
 have l2 := r2.length
 obtain ⟨⟨cls, dd, data, sl⟩, ho, hc, n, hd⟩ := p1.isList
 obtain ⟨⟨cls2, dd2, data2, sl2⟩, ho2, hc2, n2, hd2⟩ := p2.isList
 simp only at hc hd hc2 hd2
 subst hc hd hc2 hd2
 have e : its.toArray ++ its2.toArray = (its ++ its2).toArray := by simp
 refine concat_meets ⟨_, ho, rfl⟩ ⟨_, ho2, rfl⟩ noFill_list_add seq_list_add PySem.F.slot_list_add PySem.F.entry_list_add (PySem.F.args_list_add_2 _ _) (list_addW l b its.toArray its2.toArray n n2 dd dd2 sl sl2 (by rw [i3, i3]; omega)) ⟨ho, ho2, ?_⟩
 rw [e]
 exact ⟨.ref _, _, I.lnew (t' := s.toks) (r.append r2) (by rw [fI]; omega), rfl, q _ I.fresh⟩
section
variable {X : Cx} {pins : Pn} {Z : St} {H : Hp} {s : Shared} {h' : Heap}
theorem ay.turnedL {t' : Nat} {fp : List Addr} (I : ay X pins Z H s) (k : ∀ b o, b ∉ fp -> s.heap.get? b = some o -> h'.get? b = some o) (hf : ∀ b ∈ fp, dS X pins H b) : ay X pins Z H { s with heap := h', toks := t' } := by
 have nit : ∀ b u, H b = some u -> b ∉ fp := λ b u e z => by rw [(hf b z).1] at e; cases e
 refine I.step (g' := s.gens) (d' := s.drawn) (ch := fp) (λ b hb => ?_) (λ b o _ _ hc e _ => k b o hc e) (λ b o _ _ hc e _ => ⟨o.slots, k b o hc e⟩) (λ _ _ _ _ n => n)
  (λ b o hc e => ⟨o, k b o hc e⟩) (λ _ _ e => e) (λ _ _ _ e => e) (λ b ps e => ⟨#[], by rw [e]; simp⟩) (λ m hm => ?_) (λ b u e => ?_) I.bare
 ·obtain ⟨_, f1, _, f3, f4, f5⟩ := hf b hb
  exact ⟨f3, f1, f4, f5⟩
 ·obtain ⟨o, es, ep, ho, r⟩ := hm
  exact ⟨o, es, ep, k _ o (λ z => (hf _ z).2.1 rfl) ho, r⟩
 ·refine (I.hok b u e).stay (λ c v hc q => k c v ?_ q) (λ _ q => q) λ _ _ q => q
  rcases hc with z | z
  ·rw [z]; exact nit b u e
  ·exact nit c _ z
end
end L2
namespace L2
open PySem PySem.Spec PyProof.Rows PySem.Builtin
theorem kr {X : Cx} {t1 t2 : Str} {sc : Scope} {fr : List (Str × Nat)} {osc : Scope} {N : List Str} (ho : X.env.scope = osc) (hN : X.N = N) (h1 : dX osc N t1 sc fr = true) (h2 : dX osc N t2 sc fr = true) (hne : t1 ≠ t2) : cF X [t1, t2] sc fr /\ sc.names.lookup t1 = some .local /\ sc.names.lookup t2 = some .local := by
 have o1 := cY ho hN h1
 have o2 := cY ho hN h2
 refine ⟨⟨o1.kind, o1.nocell, o1.locs, o1.fre, ?_, o1.vis⟩, o1.tgl, o2.tgl⟩
 obtain ⟨a1, a2⟩ := nQ.mp o1.nd
 exact nQ.mpr ⟨λ m => (j3.mp m).elim hne a1, o2.nd⟩
theorem Gh {X : Cx} {elt iter : Expr} {t1 t2 : Str} {x1 : _} {p1 p2 p3 pos : Pos} {sc : Scope} {fr : List (Str × Nat)} {wi : TI} {te : TE} (hc : X.calm = true) (ok : cF X [t1, t2] sc fr /\ sc.names.lookup t1 = some .local /\ sc.names.lookup t2 = some .local)
  (hi : PI X (.Tuple [.Name t1 p1, .Name t2 p2] x1 p3) iter wi) (he : ∀ cl C s3 H3 fp, PE (X.blk ([t1, t2] ++ fr.map (·.1)) sc cl C s3 H3 fp) elt te) (hs : ∀ x, foldedSetIterable iter X.env x = pure x := by intro _; rfl) :
  PE X (.ListComp elt [⟨.Tuple [.Name t1 p1, .Name t2 p2] x1 p3, iter, [], 0⟩] sc pos) (mh 2 fr wi (qk X.K 2 (dB (bu 0) (dB (bu 1) gNil))) tYes te) :=
 pJ (tgs := [t1, t2]) hc ok.1 hi (λ _ _ _ _ _ => qy hc (bE (aM ok.1.nd rfl (.inl (ld ok.2.1)) (.inr (ld ok.2.1))) (bE (aM ok.1.nd rfl (.inl (ld ok.2.2)) (.inr (ld ok.2.2))) lc))) (λ _ _ _ _ _ => Dm) he hs
end L2
namespace L2
open PySem PySem.Spec PyProof.Rows
theorem Bg {X : Cx} {elt iter c : Expr} {t1 t2 : Str} {x1 : _} {p1 p2 p3 pos : Pos} {sc : Scope} {fr : List (Str × Nat)} {wi : TI} {te : TE} {tc : TT} (hc : X.calm = true) (ok : cF X [t1, t2] sc fr /\ sc.names.lookup t1 = some .local /\ sc.names.lookup t2 = some .local)
  (hi : PI X (.Tuple [.Name t1 p1, .Name t2 p2] x1 p3) iter wi) (ht : ∀ cl C s3 H3 fp, PT (X.blk ([t1, t2] ++ fr.map (·.1)) sc cl C s3 H3 fp) c tc) (he : ∀ cl C s3 H3 fp, PE (X.blk ([t1, t2] ++ fr.map (·.1)) sc cl C s3 H3 fp) elt te) (hs : ∀ x, foldedSetIterable iter X.env x = pure x := by intro _; rfl) :
  PE X (.ListComp elt [⟨.Tuple [.Name t1 p1, .Name t2 p2] x1 p3, iter, [c], 0⟩] sc pos) (mh 2 fr wi (qk X.K 2 (dB (bu 0) (dB (bu 1) gNil))) tc te) :=
 pJ (tgs := [t1, t2]) hc ok.1 hi (λ _ _ _ _ _ => qy hc (bE (aM ok.1.nd rfl (.inl (ld ok.2.1)) (.inr (ld ok.2.1))) (bE (aM ok.1.nd rfl (.inl (ld ok.2.2)) (.inr (ld ok.2.2))) lc))) (λ _ _ _ _ _ => lg (ht _ _ _ _ _)) he hs
noncomputable def fZ (z : Str) (n : Int) : Str := ⟨(List.replicate n.toNat z.cps).foldl (λ a b => a ++ b) #[]⟩
theorem jS (z : Array Nat) : ∀ (m : Nat) (a : Array Nat), (List.replicate m z).foldl (λ a b => a ++ b) a = a ++ (List.replicate m z).foldl (λ a b => a ++ b) #[]
 | 0, a => by simp
 | m + 1, a => by
  rw [o9, rm, rm, jS z m (a ++ z), jS z m (#[] ++ z)]
  simp
theorem iW (z : Str) (n : Int) : (fZ z n).length = n.toNat * z.length := by
 unfold fZ Str.length
 show ((List.replicate n.toNat z.cps).foldl (λ a b => a ++ b) #[]).size = _
 generalize n.toNat = m
 induction m with
 | zero => simp
 | succ m ih => rw [o9, rm, jS]; simp [ih, Nat.succ_mul]; omega
noncomputable def rRepS : R2 := λ x y H Q => ∃ (z : Str) (n : Int), x = .str z /\ y = .int n /\ 0 <= n /\ n <= 1000 /\ z.length <= 1000 /\ Q (.str (fZ z n)) H
theorem wt {X : Cx} : gH X (binaryOp .Mult) rRepS := by
 intro pins s Z H x y v u Q I rx ry h
 obtain ⟨z, n, rfl, rfl, h0, h1, hz, q⟩ := h
 obtain ⟨t1, rfl⟩ := rx
 obtain ⟨t2, rfl⟩ := ry
 have hq : ∀ (r : Str) t', r = fZ z n -> EP X pins Z Q (.str r t') { s with toks := s.toks + 1 } := λ r t' e => by
  subst e
  exact ⟨.str _, H, I.tok _, ⟨_, rfl⟩, q⟩
 refine P.mul_str ?_ (λ a b => ?_) (λ a b => ?_) ?_
 ·rw [kv (by omega), kv (by omega)]; rfl
 ·have hn : 0 < n := by omega
  have e1 : (1000 : Int) <= (2 ^ 63 - 1) / n := by
   rw [Int.le_ediv_iff_mul_le hn]
   have : (1000 : Int) * n <= 1000 * 1000 := Int.mul_le_mul_of_nonneg_left h1 (by decide)
   exact Int.le_trans this (by decide)
  omega
 ·have : z.length * n.toNat <= 1000 * 1000 := Nat.mul_le_mul hz (by omega)
  show decide (z.length * n.toNat > sizeLine) = false
  exact kv (Nat.not_lt_of_le (lS this (by decide)))
 ·by_cases hn : n < 1
  ·rw [h9 hn]
   refine ⟨by decide, hq _ _ ?_⟩
   unfold fZ
   rw [show n.toNat = 0 by omega]
   rfl
  rw [gV hn]
  by_cases h2 : (n == 1 || z.length == 0) = true
  ·rw [h9 h2]
   have e : z = fZ z n := by
    rcases Bool.or_eq_true _ _ |>.mp h2 with h | h
    ·have : n = 1 := by simpa using h
     subst this
     unfold fZ
     show z = ⟨#[] ++ z.cps⟩
     simp
    ·have hz0 : z.length = 0 := by simpa using h
     have e0 : (fZ z n).length = 0 := by rw [iW, hz0, Nat.mul_zero]
     obtain ⟨c⟩ := z
     have h1 : c = #[] := Array.eq_empty_of_size_eq_zero hz0
     subst h1
     generalize fZ ⟨#[]⟩ n = y at e0
     obtain ⟨d⟩ := y
     have h3 : d = #[] := Array.eq_empty_of_size_eq_zero e0
     rw [h3]
   show EP X pins Z Q (.str z t1) s
   exact ⟨.str z, H, I, ⟨_, rfl⟩, by rw [e]; exact q⟩
  ·rw [gV h2]
   refine ⟨?_, hq _ _ rfl⟩
   show (fZ z n).length <= sizeLine
   rw [iW]
   exact lS (Nat.mul_le_mul (show n.toNat <= 1000 by omega) hz) (by decide)
noncomputable def AB (K : Fg) : List V -> Hp -> VK -> Prop := λ xs H Q => ∃ x g tp, xs = [x, .ref tp] /\ bI K H tp [.ty "tuple", .ty "list"] /\ Cq K H x g /\ Q (.bl (g.isTup || g.isLst)) H
section
variable {K : Fg}
theorem DE : PySem.W.kitAny K (.type "int") [.type "tuple", .type "list"] = some false := by rfl
theorem CV : PySem.W.kitAny K (.type "str") [.type "tuple", .type "list"] = some false := by rfl
theorem BE : PySem.W.kitAny K (.type "bool") [.type "tuple", .type "list"] = some false := by rfl
theorem AQ : PySem.W.kitAny K (.type "NoneType") [.type "tuple", .type "list"] = some false := by rfl
theorem yK : PySem.W.kitAny K (.type "dict") [.type "tuple", .type "list"] = some false := by rfl
theorem yu : PySem.W.kitAny K (.type "tuple") [.type "tuple", .type "list"] = some true := by rfl
theorem Bj : PySem.W.kitAny K (.type "list") [.type "tuple", .type "list"] = some true := by rfl
end
theorem HP {X : Cx} : dE X (.builtin "isinstance") (AB X.K) := by
 intro pins s Z H xs vs Q I r h
 obtain ⟨x, g, tp, rfl, ht, e, q⟩ := h
 obtain ⟨v, w, rfl, rx, rw'⟩ := EE r
 cases rw'
 obtain ⟨its, rv, ⟨o, ho, hcl, n, hd⟩, _⟩ := I.tuple ht
 obtain ⟨c1, d1, dt, sl⟩ := o
 cases hcl
 cases hd
 cases rv with
 | cons a1 rv =>
  cases rv with
  | cons a2 rv =>
   cases rv
   cases a1
   cases a2
   have fin : ∀ k : Bool, Q (.bl k) H -> ∀ t, EP X pins Z Q (.bool k) { s with toks := t } := λ k q t => ⟨.bl k, H, I.tok t, rfl, q⟩
   cases x with
   | non => cases g <;> first | exact (show False from e).elim | (cases rx; exact PySem.W.kia_tup PySem.W.kitx_none I.kIn trivial ho AQ (by intro z; cases z) (fin _ q))
   | bl b => cases g <;> first | exact (show False from e).elim | (cases rx; exact PySem.W.kia_tup PySem.W.kitx_bool I.kIn trivial ho BE (by intro z; cases z) (fin _ q))
   | int i => cases g <;> first | exact (show False from e).elim | (obtain ⟨t, rfl⟩ := rx; exact PySem.W.kia_tup PySem.W.kitx_int I.kIn trivial ho DE (by intro z; cases z) (fin _ q))
   | str y => cases g <;> first | exact (show False from e).elim | (obtain ⟨t, rfl⟩ := rx; exact PySem.W.kia_tup PySem.W.kitx_str I.kIn trivial ho CV (by intro z; cases z) (fin _ q))
   | ref a =>
    cases rx
    cases g with
    | tup =>
     obtain ⟨xs, hx⟩ := (show ∃ xs, bI X.K H a xs from e)
     obtain ⟨_, _, ⟨o, hoa, hc, _⟩, _⟩ := I.tuple hx
     exact PySem.W.kia_tup PySem.W.kitx_tuple I.kIn ⟨o, hoa, hc⟩ ho yu (by intro z; cases z) (fin _ q)
    | lst =>
     obtain ⟨xs, hx⟩ := (show ∃ xs, br X.K H a xs from e)
     obtain ⟨_, _, ⟨o, n, hoa, hc, _⟩, _⟩ := I.list hx
     exact PySem.W.kia_tup PySem.W.kitx_list I.kIn ⟨o, hoa, hc⟩ ho Bj (by intro z; cases z) (fin _ q)
    | dic =>
     obtain ⟨kvs, hx⟩ := (show ∃ kvs, H a = some (.dK kvs) from e)
     obtain ⟨_, _, vs, _, o, es, ep, hoa, hc, _⟩ := (show cj X.prog X.w H s.heap a (.dK kvs) from I.hok a _ hx)
     exact PySem.W.kia_tup PySem.W.kitx_dict I.kIn ⟨o, hoa, hc.1⟩ ho yK (by intro z; cases z) (fin _ q)
    | _ => exact (show False from e).elim
   | _ => exact (show False from e).elim
noncomputable def kQ (q : Bool) (h : Heap) (n a : Addr) (k : Nat) : Prop := ∃ o, h.get? n = some o /\ o.cls = .type (if q = true then "tuple_iterator" else "list_iterator") /\ o.data = .fields #[.ref a, .int k 0]
noncomputable def mV (q : Bool) (h : Heap) (a : Addr) (us : Array Value) : Prop := ∃ o, h.get? a = some o /\ o.cls = .type (if q = true then "tuple" else "list") /\ ∃ n, o.data = .seq us n
variable {q : Bool} {a : Addr}
theorem kQ.at {h h' : Heap} {n : Addr} {k : Nat} (x : kQ q h n a k) (e : ∀ o, h.get? n = some o -> h'.get? n = some o) : kQ q h' n a k := by
 obtain ⟨o, ho, r⟩ := x; exact ⟨o, e o ho, r⟩
variable {us : Array Value}
theorem mV.at {h h' : Heap} (x : mV q h a us) (e : ∀ o, h.get? a = some o -> h'.get? a = some o) : mV q h' a us := by
 obtain ⟨o, ho, r⟩ := x; exact ⟨o, e o ho, r⟩
section
variable {P : Program} {w : World} {A : Around} {E : Value -> Shared -> Prop} {s : Shared} {q : Bool} {n a : Addr} {k : Nat} {us : Array Value} {u : Value}
theorem uI {Q : Value -> Shared -> Prop} (hi : kQ q s.heap n a k) (hs : mV q s.heap a us) (hu : us[k]? = some u) (go : ∀ h', kQ q h' n a (k + 1) -> Heap.SameBut n s.heap h' -> Q u { s with heap := h' }) : wpAny (model P w) A (Builtin.SmallTypes.nextOf (.ref n)) Q E s := by
 cases q with
 | false => exact wpAny_nextOf_list_item hi hs hu go
 | true =>
  have ty : s.heap.IsTupleIter n a k := hi
  obtain ⟨oi, e1, e2, e3⟩ := hi
  obtain ⟨os, e4, _, m, e5⟩ := hs
  unfold Builtin.SmallTypes.nextOf
  refine bf (wpAny_callSpecial?_slot (name := Str.ofString "__next__") ty.typeIs F.slot_tuple_iterator_next (wpAny_call_entry F.slot_tuple_iterator_next ty.typeIs F.entry_tuple_iterator_next ?_ (F.args_tuple_iterator_next_1 _)))
  refine bf (m := field (.ref n) 0) (wpAny_field e1 e3 (x := .ref a) rfl ?_)
  show wpAny _ _ (ite ((Value.ref a == Value.none) = true) _ _) _ _ s; rw [gV (show ¬ (Value.ref a == Value.none) = true from nofun)]
  refine bf (m := field (.ref n) 1) (wpAny_field e1 e3 (x := .int k 0) rfl (bf (m := seqItems? (.ref a)) (wpAny_seqItems e4 e5 ?_)))
  simp only [hu, Int.toNat_natCast]
  refine bf (wpAny_setField e1 e3 (by simp) (i7 ⟨u, rfl, i7 (go _ ⟨_, Heap.get?_update_self _ e1 (Obj.isFreed_of_fields (Obj.data_mapFields e3 _)), (Obj.cls_mapFields ..).trans e2, ?_⟩ (Heap.SameBut.update ..))⟩))
  rw [Obj.data_mapFields e3]; simp [rawInt]
theorem yF {Q : Value -> Shared -> Prop} (hh : A.handled = none) (hi : kQ q s.heap n a k) (hs : mV q s.heap a us) (hu : us[k]? = none) (go : ∀ h' e, Heap.ExtBut n s.heap h' -> (∃ o, h'.get? e = some o /\ o.cls = .type "StopIteration") -> E (.ref e) { s with heap := h' }) : wpAny (model P w) A (Builtin.SmallTypes.nextOf (.ref n)) Q E s := by
 cases q with
 | false => exact wpAny_nextOf_list_end hh hi hs hu go
 | true =>
  have ty : s.heap.IsTupleIter n a k := hi
  obtain ⟨oi, e1, e2, e3⟩ := hi
  obtain ⟨os, e4, _, m, e5⟩ := hs
  unfold Builtin.SmallTypes.nextOf
  refine bf (wpAny_callSpecial?_slot (name := Str.ofString "__next__") ty.typeIs F.slot_tuple_iterator_next (wpAny_call_entry F.slot_tuple_iterator_next ty.typeIs F.entry_tuple_iterator_next ?_ (F.args_tuple_iterator_next_1 _)))
  refine bf (m := field (.ref n) 0) (wpAny_field e1 e3 (x := .ref a) rfl ?_)
  show wpAny _ _ (ite ((Value.ref a == Value.none) = true) _ _) _ _ s; rw [gV (show ¬ (Value.ref a == Value.none) = true from nofun)]
  refine bf (m := field (.ref n) 1) (wpAny_field e1 e3 (x := .int k 0) rfl (bf (m := seqItems? (.ref a)) (wpAny_seqItems e4 e5 ?_)))
  simp only [hu, Int.toNat_natCast]
  refine bf (wpAny_rule (bf (wpAny_setField e1 e3 (by simp) (bf (m := newExc (.type "StopIteration") []) ?_))))
  simp only [newTuple, newExc]
  refine bf (wpAny_newObj_type (bf (m := firstArgMember _ _) (wpAny_of_eq (a := Value.none) (by first | rfl | (simp only [firstArgMember]; rfl)) (wpAny_newObj_type ?_ (by size_fits)))) (by size_fits))
  simp only [raiseNew]
  refine bf (wpAny_handled ?_)
  first | rw [hh] | rw [show A.in1.handled = none from hh]
  exact bf (i7 (wpAny_throw (go _ _ (((Heap.SameBut.update ..).extBut.push _).push _) ⟨_, kH _ rfl, rfl⟩)))
end
section
variable {P : Program} {w : World} {A : Around} {E : Value -> Shared -> Prop} {s : Shared} {q1 q2 : Bool} {z ti to n1 n2 a1 a2 : Addr} {k : Nat} {us vs : Array Value} {u v c d : Value}
structure HV (z ti to n1 n2 a1 a2 : Addr) : Prop where
 nd : [z, ti, to, n1, n2].Nodup
 x1 : a1 ∉ [z, to, n1, n2]
 x2 : a2 ∉ [z, to, n1, n2]
theorem HS {Q : Value -> Shared -> Prop} (D : HV z ti to n1 n2 a1 a2) (hz : IsZip s.heap z ti to .none) (hi : IsPair s.heap ti (.ref n1) (.ref n2)) (ho : IsPair s.heap to c d)
  (h1 : kQ q1 s.heap n1 a1 k) (h2 : kQ q2 s.heap n2 a2 k) (l1 : mV q1 s.heap a1 us) (l2 : mV q2 s.heap a2 vs) (hu : us[k]? = some u) (hv : vs[k]? = some v)
  (go : ∀ h', IsZip h' z ti to (rawInt s.heap.objs.size) -> IsPair h' to u v -> kQ q1 h' n1 a1 (k + 1) -> kQ q2 h' n2 a2 (k + 1) -> IsPair h' s.heap.objs.size u v -> h'.objs.size = s.heap.objs.size + 1 ->
   (∀ b o, b ∉ [z, to, n1, n2] -> s.heap.get? b = some o -> h'.get? b = some o) -> Q (.ref s.heap.objs.size) { s with heap := h' }) :
  wpAny (model P w) A (Builtin.«zip.__next__» ⟨[.ref z], []⟩) (λ fin s' => ∃ r, fin = .done (.ret r) /\ Q r s') E s := by
 obtain ⟨nd, x1, x2⟩ := D
 simp only [nQ, j3, m8, or_false, not_or, List.nodup_nil, not_false_eq_true, and_true] at nd x1 x2
 obtain ⟨⟨zti, zto, zn1, zn2⟩, ⟨tito, tin1, tin2⟩, ⟨ton1, ton2⟩, n12⟩ := nd
 refine bf (m := field (.ref z) 2) (wpAny_field hz rfl (x := .bool false) rfl (bf (m := field (.ref z) 3) (wpAny_field hz rfl (x := .ref ti) rfl (bf (wpAny_seqItems hi rfl ?_)))))
 refine bf (m := Builtin.SmallTypes.ownedTupleIsFree (.ref z)) ?_
 unfold Builtin.SmallTypes.ownedTupleIsFree
 refine bf (wpAny_field hz rfl (x := .none) rfl (i7 ?_))
 simp only [if_true]
 refine bf (wpAny_rule (bf (wpAny_field hz rfl (x := .ref to) rfl (bf (wpAny_setField_rec hz (by simp) λ g1 z1 s1 => bf ?_)))))
 have z1 : IsZip g1 z ti to .ellipsis := z1
 simp only [List.forIn_cons, List.forIn_nil, List.zipIdx_cons, List.zipIdx_nil]
 refine bf (bf (wpAny_onRaise (bf (m := Builtin.SmallTypes.nextOf (.ref n1)) (uI (h1.at λ o e => s1.extBut _ _ (Ne.symm zn1) e) (l1.at λ o e => s1.extBut _ _ x1.1 e) hu λ g2 i2 s2 => i7 ?_))))
 have t2 : IsPair g2 to c d := s2.extBut _ _ ton1 (s1.extBut _ _ (Ne.symm zto) ho)
 refine bf (wpAny_seqItems t2 rfl (bf (wpAny_updateSeq_pair t2 λ g3 t3 s3 => bf (wpAny_letGo (i7 ?_)))))
 have t3 : IsPair g3 to u d := t3
 refine bf (bf (wpAny_onRaise (bf (m := Builtin.SmallTypes.nextOf (.ref n2)) (uI (h2.at λ o e => s3.extBut _ _ (Ne.symm ton2) (s2.extBut _ _ (Ne.symm n12) (s1.extBut _ _ (Ne.symm zn2) e))) (l2.at λ o e => s3.extBut _ _ x2.2.1 (s2.extBut _ _ x2.2.2.1 (s1.extBut _ _ x2.1 e))) hv λ g4 i4 s4 => i7 ?_))))
 have t4 : IsPair g4 to u d := s4.extBut _ _ ton2 t3
 refine bf (wpAny_seqItems t4 rfl (bf (wpAny_updateSeq_pair t4 λ g5 t5 s5 => bf (wpAny_letGo (i7 (i7 ?_))))))
 have t5 : IsPair g5 to u v := t5
 refine bf (wpAny_seqItems t5 rfl (bf (wpAny_newTuple ?_)))
 have sz : g5.objs.size = s.heap.objs.size := by rw [s5.1, s4.1, s3.1, s2.1, s1.1]
 have z5 : IsZip g5 z ti to .ellipsis := s5.extBut _ _ zto (s4.extBut _ _ zn2 (s3.extBut _ _ zto (s2.extBut _ _ zn1 z1)))
 have k5 : ∀ b o, b ∉ [z, to, n1, n2] -> s.heap.get? b = some o -> g5.get? b = some o := λ b o hb e => by
  simp only [j3, m8, or_false, not_or] at hb
  exact s5.extBut _ _ hb.2.1 (s4.extBut _ _ hb.2.2.2 (s3.extBut _ _ hb.2.1 (s2.extBut _ _ hb.2.2.1 (s1.extBut _ _ hb.1 e))))
 have i1 : kQ q1 g5 n1 a1 (k + 1) := i2.at λ o e => s5.extBut _ _ (Ne.symm ton1) (s4.extBut _ _ n12 (s3.extBut _ _ (Ne.symm ton1) e))
 have i2' : kQ q2 g5 n2 a2 (k + 1) := i4.at λ o e => s5.extBut _ _ (Ne.symm ton2) e
 have zlt : z < g5.objs.size := gS z5
 refine bf (m := Builtin.SmallTypes.ownedTupleHandOut (.ref z) (.ref g5.objs.size)) ?_
 unfold Builtin.SmallTypes.ownedTupleHandOut
 refine bf (wpAny_setField_rec (show IsZip (g5.push { cls := .type "tuple", data := .seq #[u, v] }) z ti to .ellipsis from cp _ z5) (by simp) λ g7 z7 s7 => ?_)
 have z7 : IsZip g7 z ti to (rawInt g5.objs.size) := z7
 refine wpAny_setField_rec z7 (by simp) λ g8 z8 s8 => i7 ⟨_, rfl, ?_⟩
 have z8 : IsZip g8 z ti to (rawInt g5.objs.size) := z8
 have up : ∀ b o, b ≠ z -> g5.get? b = some o -> g8.get? b = some o := λ b o hb e => s8.extBut _ _ hb (s7.extBut _ _ hb (cp _ e))
 have t8 : IsPair g8 g5.objs.size u v := s8.extBut _ _ (Nat.ne_of_gt zlt) (s7.extBut _ _ (Nat.ne_of_gt zlt) (kH _ rfl))
 have sz8 : g8.objs.size = g5.objs.size + 1 := by rw [s8.1, s7.1, Heap.size_push]
 show Q (.ref g5.objs.size) _
 rw [sz] at z8 t8 sz8 ⊢
 exact go g8 z8 (up _ _ (Ne.symm zto) t5) (i1.at λ o e => up _ o (Ne.symm zn1) e) (i2'.at λ o e => up _ o (Ne.symm zn2) e) t8 sz8 λ b o hb e => up b o (λ x => hb (by simp [x])) (k5 b o hb e)
theorem HK {Q : PySem.Fin -> Shared -> Prop} (hh : A.handled = none) (D : HV z ti to n1 n2 a1 a2) (hz : IsZip s.heap z ti to .none) (hi : IsPair s.heap ti (.ref n1) (.ref n2)) (ho : IsPair s.heap to c d)
  (h1 : kQ q1 s.heap n1 a1 k) (h2 : kQ q2 s.heap n2 a2 k) (l1 : mV q1 s.heap a1 us) (l2 : mV q2 s.heap a2 vs) (hend : us[k]? = none ∨ vs[k]? = none)
  (go : ∀ h' e, (∀ b o, b ∉ [z, to, n1, n2] -> s.heap.get? b = some o -> h'.get? b = some o) -> (∃ o, h'.get? e = some o /\ o.cls = .type "StopIteration") -> E (.ref e) { s with heap := h' }) :
  wpAny (model P w) A (Builtin.«zip.__next__» ⟨[.ref z], []⟩) Q E s := by
 obtain ⟨nd, x1, x2⟩ := D
 simp only [nQ, j3, m8, or_false, not_or, List.nodup_nil, not_false_eq_true, and_true] at nd x1 x2
 obtain ⟨⟨zti, zto, zn1, zn2⟩, ⟨tito, tin1, tin2⟩, ⟨ton1, ton2⟩, n12⟩ := nd
 refine bf (m := field (.ref z) 2) (wpAny_field hz rfl (x := .bool false) rfl (bf (m := field (.ref z) 3) (wpAny_field hz rfl (x := .ref ti) rfl (bf (wpAny_seqItems hi rfl ?_)))))
 refine bf (m := Builtin.SmallTypes.ownedTupleIsFree (.ref z)) ?_
 unfold Builtin.SmallTypes.ownedTupleIsFree
 refine bf (wpAny_field hz rfl (x := .none) rfl (i7 ?_))
 simp only [if_true]
 refine bf (wpAny_rule (bf (wpAny_field hz rfl (x := .ref to) rfl (bf (wpAny_setField_rec hz (by simp) λ g1 z1 s1 => bf ?_)))))
 have z1 : IsZip g1 z ti to .ellipsis := z1
 simp only [List.forIn_cons, List.forIn_nil, List.zipIdx_cons, List.zipIdx_nil]
 cases hu : us[k]? with
 | none =>
  refine bf (bf (wpAny_onRaise (bf (m := Builtin.SmallTypes.nextOf (.ref n1)) (yF hh (h1.at λ o e => s1.extBut _ _ (Ne.symm zn1) e) (l1.at λ o e => s1.extBut _ _ x1.1 e) hu λ g2 e s2 he => ?_))))
  obtain ⟨oe, hoe, hce⟩ := he
  have z2 : IsZip g2 z ti to .ellipsis := s2 _ _ zn1 z1
  have ez : e ≠ z := λ x => by rw [x, z2] at hoe; cases hoe; simp at hce
  refine wpAny_setField_rec z2 (by simp) λ g3 _ s3 => go g3 e (λ b o hb x => ?_) ⟨oe, s3.extBut _ _ ez hoe, hce⟩
  simp only [j3, m8, or_false, not_or] at hb
  exact s3.extBut _ _ hb.1 (s2 _ _ hb.2.2.1 (s1.extBut _ _ hb.1 x))
 | some u =>
  have hv : vs[k]? = none := by
   rcases hend with h | h
   ·rw [hu] at h; cases h
   ·exact h
  refine bf (bf (wpAny_onRaise (bf (m := Builtin.SmallTypes.nextOf (.ref n1)) (uI (h1.at λ o e => s1.extBut _ _ (Ne.symm zn1) e) (l1.at λ o e => s1.extBut _ _ x1.1 e) hu λ g2 i2 s2 => i7 ?_))))
  have t2 : IsPair g2 to c d := s2.extBut _ _ ton1 (s1.extBut _ _ (Ne.symm zto) ho)
  refine bf (wpAny_seqItems t2 rfl (bf (wpAny_updateSeq_pair t2 λ g3 t3 s3 => bf (wpAny_letGo (i7 ?_)))))
  refine bf (bf (wpAny_onRaise (bf (m := Builtin.SmallTypes.nextOf (.ref n2)) (yF hh (h2.at λ o e => s3.extBut _ _ (Ne.symm ton2) (s2.extBut _ _ (Ne.symm n12) (s1.extBut _ _ (Ne.symm zn2) e))) (l2.at λ o e => s3.extBut _ _ x2.2.1 (s2.extBut _ _ x2.2.2.1 (s1.extBut _ _ x2.1 e))) hv λ g4 e s4 he => ?_))))
  obtain ⟨oe, hoe, hce⟩ := he
  have z4 : IsZip g4 z ti to .ellipsis := s4 _ _ zn2 (s3.extBut _ _ zto (s2.extBut _ _ zn1 z1))
  have ez : e ≠ z := λ x => by rw [x, z4] at hoe; cases hoe; simp at hce
  refine wpAny_setField_rec z4 (by simp) λ g5 _ s5 => go g5 e (λ b o hb x => ?_) ⟨oe, s5.extBut _ _ ez hoe, hce⟩
  simp only [j3, m8, or_false, not_or] at hb
  exact s5.extBut _ _ hb.1 (s4 _ _ hb.2.2.2 (s3.extBut _ _ hb.2.1 (s2.extBut _ _ hb.2.2.1 (s1.extBut _ _ hb.1 x))))
theorem DR {Q : Option Value -> Shared -> Prop} (D : HV z ti to n1 n2 a1 a2) (hz : IsZip s.heap z ti to .none) (hi : IsPair s.heap ti (.ref n1) (.ref n2)) (ho : IsPair s.heap to c d)
  (h1 : kQ q1 s.heap n1 a1 k) (h2 : kQ q2 s.heap n2 a2 k) (l1 : mV q1 s.heap a1 us) (l2 : mV q2 s.heap a2 vs) (hu : us[k]? = some u) (hv : vs[k]? = some v)
  (go : ∀ h', IsZip h' z ti to (rawInt s.heap.objs.size) -> IsPair h' to u v -> kQ q1 h' n1 a1 (k + 1) -> kQ q2 h' n2 a2 (k + 1) -> IsPair h' s.heap.objs.size u v -> h'.objs.size = s.heap.objs.size + 1 ->
   (∀ b o, b ∉ [z, to, n1, n2] -> s.heap.get? b = some o -> h'.get? b = some o) -> Q (some (.ref s.heap.objs.size)) { s with heap := h' }) : wpAny (model P w) A (pyNext (.ref z)) Q E s := by
 have ty : s.TypeIs (.ref z) "zip" := ⟨_, hz, rfl⟩
 unfold pyNext
 exact bf (wpAny_attempt (wpAny_callSpecial?_slot (name := Str.ofString "__next__") ty F.slot_zip_next (wpAny_call_entry F.slot_zip_next ty F.entry_zip_next (HS D hz hi ho h1 h2 l1 l2 hu hv λ h' b1 b2 b3 b4 b5 b6 b7 => i7 (go h' b1 b2 b3 b4 b5 b6 b7)) (F.args_zip_next_1 _))))
theorem Ef {Q : Option Value -> Shared -> Prop} (hh : A.handled = none) (D : HV z ti to n1 n2 a1 a2) (hz : IsZip s.heap z ti to .none) (hi : IsPair s.heap ti (.ref n1) (.ref n2)) (ho : IsPair s.heap to c d)
  (h1 : kQ q1 s.heap n1 a1 k) (h2 : kQ q2 s.heap n2 a2 k) (l1 : mV q1 s.heap a1 us) (l2 : mV q2 s.heap a2 vs) (hend : us[k]? = none ∨ vs[k]? = none)
  (go : ∀ h', (∀ b o, b ∉ [z, to, n1, n2] -> s.heap.get? b = some o -> h'.get? b = some o) -> Q none { s with heap := h' }) : wpAny (model P w) A (pyNext (.ref z)) Q E s := by
 have ty : s.TypeIs (.ref z) "zip" := ⟨_, hz, rfl⟩
 unfold pyNext
 refine bf (wpAny_attempt (wpAny_callSpecial?_slot (name := Str.ofString "__next__") ty F.slot_zip_next (wpAny_call_entry F.slot_zip_next ty F.entry_zip_next (HK hh D hz hi ho h1 h2 l1 l2 hend λ h' e hk he => ?_) (F.args_zip_next_1 _))))
 obtain ⟨o, e1, e2⟩ := he
 exact bf (wpAny_isInstance (T := "StopIteration") (b := true) ⟨o, e1, e2⟩ isSubtype_stop (i7 (go _ hk)))
end
noncomputable abbrev Ky (q : Bool) (a : Addr) : Obj := { cls := .type (if q = true then "tuple_iterator" else "list_iterator"), data := .fields #[.ref a, .int 0 0] }
theorem yE {P : Program} {w : World} {A : Around} {E : Value -> Shared -> Prop} {s : Shared} {Q : Value -> Shared -> Prop} (hs : mV q s.heap a us) (go : Q (.ref s.heap.objs.size) { s with heap := s.heap.push (Ky q a) }) : wpAny (model P w) A (pyIter (.ref a)) Q E s := by
 cases q with
 | false => exact wpAny_pyIter_list hs go
 | true => exact wpAny_pyIter_tuple hs go
noncomputable abbrev KO (h : Heap) (q1 : Bool) (a1 : Addr) : Heap := h.push (Ky q1 a1)
noncomputable abbrev Kz (h : Heap) (q1 q2 : Bool) (a1 a2 : Addr) : Heap := (KO h q1 a1).push (Ky q2 a2)
noncomputable abbrev KN (h : Heap) (q1 q2 : Bool) (a1 a2 : Addr) : Heap := (Kz h q1 q2 a1 a2).push { cls := .type "tuple", data := .seq #[.ref h.objs.size, .ref (KO h q1 a1).objs.size] }
noncomputable abbrev KE (h : Heap) (q1 q2 : Bool) (a1 a2 : Addr) : Heap := (KN h q1 q2 a1 a2).push { cls := .type "tuple", data := .seq #[.none, .none] }
noncomputable abbrev Id (h : Heap) (q1 q2 : Bool) (a1 a2 : Addr) : Heap := (KE h q1 q2 a1 a2).push { cls := .type "zip", data := .fields #[.none, .bool false, .bool false, .ref (Kz h q1 q2 a1 a2).objs.size, .ref (KN h q1 q2 a1 a2).objs.size] }
theorem GI (q1 q2 : Bool) (a1 a2 : Addr) (us vs : Array Value) : Meets (Builtin.«zip.__new__» ⟨[.type "zip", .ref a1, .ref a2], []⟩) (λ _ R s => mV q1 s.heap a1 us /\ mV q2 s.heap a2 vs /\ R (.ok (.ret (.ref (KE s.heap q1 q2 a1 a2).objs.size))) { s with heap := Id s.heap q1 q2 a1 a2 }) :=
 .of_wp λ prog w A R s h => by
  obtain ⟨hp, g, d, tk, os⟩ := s
  obtain ⟨l1, l2, h⟩ := h
  have hsub := sub_zip
  have L1 : mV q1 (Shared.heap ⟨hp, g, d, tk, os⟩) a1 us := l1
  have L2 : mV q2 (Shared.heap ⟨hp.push (Ky q1 a1), g, d, tk, os⟩) a2 vs := l2.at λ o e => cp _ e
  wp_walk using yE L1, yE L2
  exact ⟨_, rfl, h⟩
theorem Gw {P : Program} {w : World} {A : Around} {E : Value -> Shared -> Prop} {s : Shared} {q1 q2 : Bool} {a1 a2 : Addr} {vs : Array Value} {Q : Value -> Shared -> Prop} (l1 : mV q1 s.heap a1 us) (l2 : mV q2 s.heap a2 vs)
  (go : ∀ h', IsZip h' (s.heap.objs.size + 4) (s.heap.objs.size + 2) (s.heap.objs.size + 3) .none -> IsPair h' (s.heap.objs.size + 2) (.ref s.heap.objs.size) (.ref (s.heap.objs.size + 1)) -> IsPair h' (s.heap.objs.size + 3) .none .none ->
   kQ q1 h' s.heap.objs.size a1 0 -> kQ q2 h' (s.heap.objs.size + 1) a2 0 -> (∀ b o, s.heap.get? b = some o -> h'.get? b = some o) -> Q (.ref (s.heap.objs.size + 4)) { s with heap := h' }) : wpAny (model P w) A (call (.type "zip") [.ref a1, .ref a2]) Q E s := by
 refine callType_new F.called_zip (by decide) (F.typeCall_zip_2 _ _) (F.newCall_zip_2 _ _) (λ obj => F.args_object_init_3 obj _ _) F.entry_zip_new (GI q1 q2 a1 a2 us vs) ⟨l1, l2, ?_⟩
 have y1 : (KO s.heap q1 a1).objs.size = s.heap.objs.size + 1 := Heap.size_push ..
 have y2 : (Kz s.heap q1 q2 a1 a2).objs.size = s.heap.objs.size + 2 := by rw [Heap.size_push, y1]
 have y3 : (KN s.heap q1 q2 a1 a2).objs.size = s.heap.objs.size + 3 := by rw [Heap.size_push, y2]
 have y4 : (KE s.heap q1 q2 a1 a2).objs.size = s.heap.objs.size + 4 := by rw [Heap.size_push, y3]
 have p5 : (Id s.heap q1 q2 a1 a2).get? (KE s.heap q1 q2 a1 a2).objs.size = some _ := kH _ rfl
 have p4 : (Id s.heap q1 q2 a1 a2).get? (KN s.heap q1 q2 a1 a2).objs.size = some _ := cp _ (kH _ rfl)
 have p3 : (Id s.heap q1 q2 a1 a2).get? (Kz s.heap q1 q2 a1 a2).objs.size = some _ := cp _ (cp _ (kH _ rfl))
 have p2 : (Id s.heap q1 q2 a1 a2).get? (KO s.heap q1 a1).objs.size = some _ := cp _ (cp _ (cp _ (kH _ rfl)))
 have p1 : (Id s.heap q1 q2 a1 a2).get? s.heap.objs.size = some _ := cp _ (cp _ (cp _ (cp _ (kH _ rfl))))
 show _ /\ _
 rw [y2, y3, y4] at p5
 rw [y1, y2] at p3
 rw [y3] at p4
 rw [y1] at p2
 rw [y4]
 exact ⟨⟨_, p5, rfl⟩, go _ p5 p3 p4 ⟨_, p1, rfl, rfl⟩ ⟨_, p2, rfl, rfl⟩ λ b o x => cp _ (cp _ (cp _ (cp _ (cp _ x))))⟩
noncomputable def mC (q : Bool) (K : Fg) (H : Hp) (a : Addr) (xs : List V) : Prop := if q = true then bI K H a xs else br K H a xs
section
variable {X : Cx} {pins : Pn} {Z : St} {H : Hp} {s : Shared} {q : Bool} {a : Addr} {xs ys : List V}
theorem ay.sqB (I : ay X pins Z H s) (h : mC q X.K H a xs) : ∃ its : List Value, aL xs its /\ mV q s.heap a its.toArray := by
 cases q with
 | false =>
  obtain ⟨its, r, p, _⟩ := I.list h
  exact ⟨its, r, p.isList⟩
 | true =>
  obtain ⟨its, r, p, _⟩ := I.tuple h
  exact ⟨its, r, show s.heap.IsTuple a its.toArray from p⟩
theorem ay.sqB_inj (I : ay X pins Z H s) (h : mC q X.K H a xs) (g : mC q X.K H a ys) : xs = ys := by
 cases q with
 | false => exact I.list_inj h g
 | true => exact I.tuple_inj h g
end
noncomputable def Itz (K : Fg) (q1 q2 : Bool) (a1 a2 : Addr) : It :=
  ⟨λ i H => ∃ xs ys x y, mC q1 K H a1 xs /\ mC q2 K H a2 ys /\ xs[i]? = some x /\ ys[i]? = some y,
   λ i H v H' => ∃ p x y, v = .ref p /\ H p = none /\ (∀ xs, mC q1 K H a1 xs -> xs[i]? = some x) /\ (∀ ys, mC q2 K H a2 ys -> ys[i]? = some y) /\ H' = upd H p (.tup [x, y]),
   λ i H => ∃ xs ys, mC q1 K H a1 xs /\ mC q2 K H a2 ys /\ (xs.length <= i ∨ ys.length <= i)⟩
theorem yY {P : Program} {w : World} {K : Fg} {elts : List Expr} {x1 : _} {pos : Pos} {q1 q2 : Bool} {a1 a2 z ti to n1 n2 : Addr} (D : HV z ti to n1 n2 a1 a2) :
  BA P w K (.Tuple elts x1 pos) (Itz K q1 q2 a1 a2) [z, ti, to, n1, n2] z (λ i h => IsZip h z ti to .none /\ IsPair h ti (.ref n1) (.ref n2) /\ (∃ c d, IsPair h to c d) /\ kQ q1 h n1 a1 i /\ kQ q2 h n2 a2 i) where
 mem := by simp
 obj := λ i h st b hb => by
  obtain ⟨hz, hi, ⟨c, d, ho⟩, ⟨o1, e1, c1, d1⟩, ⟨o2, e2, c2, d2⟩⟩ := st
  have hb' : b = z ∨ b = ti ∨ b = to ∨ b = n1 ∨ b = n2 := by simpa using hb
  rcases hb' with rfl | rfl | rfl | rfl | rfl
  ·exact ⟨_, hz, λ v y => by cases y⟩
  ·exact ⟨_, hi, λ v y => by cases y⟩
  ·exact ⟨_, ho, λ v y => by cases y⟩
  ·exact ⟨o1, e1, λ v y => by rw [d1] at y; cases y⟩
  ·exact ⟨o2, e2, λ v y => by rw [d2] at y; cases y⟩
 keep := λ i h h' st k => by
  obtain ⟨hz, hi, ⟨c, d, ho⟩, h1, h2⟩ := st
  exact ⟨k z (by simp) _ hz, k ti (by simp) _ hi, ⟨c, d, k to (by simp) _ ho⟩, h1.at λ o e => k n1 (by simp) o e, h2.at λ o e => k n2 (by simp) o e⟩
 item := by
  intro X hP hw hK hc i pins s Z H E I hf st hg
  subst hP hw hK
  obtain ⟨xs, ys, x, y, hq1, hq2, hx, hy⟩ := hg
  obtain ⟨hz, hi, ⟨c, d, ho⟩, h1, h2⟩ := st
  obtain ⟨it1, r1, p1⟩ := I.sqB hq1
  obtain ⟨it2, r2, p2⟩ := I.sqB hq2
  obtain ⟨u, hu, ru⟩ := r1.get hx
  obtain ⟨v, hv, rv⟩ := r2.get hy
  have fpl : ∀ b ∈ [z, ti, to, n1, n2], b < s.heap.objs.size := λ b hb => by
   obtain ⟨o1, e1, _⟩ := id h1
   obtain ⟨o2, e2, _⟩ := id h2
   have hb' : b = z ∨ b = ti ∨ b = to ∨ b = n1 ∨ b = n2 := by simpa using hb
   rcases hb' with rfl | rfl | rfl | rfl | rfl
   ·exact gS hz
   ·exact gS hi
   ·exact gS ho
   ·exact gS e1
   ·exact gS e2
  refine DR D hz hi ho h1 h2 p1 p2 (u := u) (v := v) (by simpa using hu) (by simpa using hv) λ g z1 o1 i1 i2 t1 sz kk => ?_
  refine ⟨.ref s.heap.objs.size, rfl, wpAny_letOwnedTupleGo_zip z1 λ g2 z2 sb => ?_⟩
  have sb2 : ∀ b, b ≠ z -> g2.get? b = g.get? b := sb.2
  have hfr : H s.heap.objs.size = none := I.hok.fresh (eT _)
  have I1 : ay X pins Z (upd H s.heap.objs.size (.tup [x, y])) { s with heap := s.heap.push { cls := .type "tuple", data := .seq #[u, v] } } :=
   I.laid (t' := s.toks) (λ b o e => cp _ e) (eT _) ⟨by show 2 <= sizeLine; decide, [u, v], .cons ru (.cons rv .nil), _, kH _ rfl, rfl, _, rfl⟩
  have hf2 : ∀ b ∈ [z, ti, to, n1, n2], dS X pins (upd H s.heap.objs.size (.tup [x, y])) b := λ b hb => by
   obtain ⟨f0, f1, f2, f3, f4, f5⟩ := hf b hb
   exact ⟨by rw [ag (nh (fpl b hb))]; exact f0, f1, f2, f3, f4, f5⟩
  have I2 := ay.turnedL (h' := g2) (t' := s.toks) (fp := [z, ti, to, n1, n2]) I1 (λ b o hb e => by
   have hbz : b ≠ z := λ q => hb (by simp [q])
   rw [sb2 b hbz]
   rcases Heap.get?_push_cases e with ⟨y1, y2⟩ | y1
   ·rw [y1, y2]; exact t1
   ·exact kk b o (λ q => hb (by simp at q ⊢; rcases q with q | q | q | q <;> simp [q])) y1) hf2
  have nz : ∀ b ∈ [ti, to, n1, n2], b ≠ z := λ b hb q => by
   have := D.nd
   simp only [nQ] at this
   exact this.1 (by rw [<- q]; exact hb)
  have keep2 : ∀ b ∈ [ti, to, n1, n2], ∀ o, g.get? b = some o -> g2.get? b = some o := λ b hb o e => by rw [sb2 b (nz b hb)]; exact e
  have tk : g.get? ti = some _ := kk ti _ (λ q => by
   have := D.nd
   simp only [nQ] at this
   simp at q
   rcases q with q | q | q | q
   ·exact nz ti (by simp) q
   ·exact this.2.1 (by rw [q]; simp)
   ·exact this.2.1 (by rw [q]; simp)
   ·exact this.2.1 (by rw [q]; simp)) hi
  exact ⟨.ref s.heap.objs.size, _, I2, rfl, ⟨_, x, y, rfl, hfr, λ zs hzs => by rw [I.sqB_inj hzs hq1]; exact hx, λ zs hzs => by rw [I.sqB_inj hzs hq2]; exact hy, rfl⟩,
   ⟨z2, keep2 ti (by simp) _ tk, ⟨_, _, keep2 to (by simp) _ o1⟩, i1.at λ o e => keep2 n1 (by simp) o e, i2.at λ o e => keep2 n2 (by simp) o e⟩, λ b hb => (hf2 b hb).1⟩
 done := by
  intro X hP hw hK hc i pins s Z H E I hf st hg
  subst hP hw hK
  obtain ⟨xs, ys, hq1, hq2, hx⟩ := hg
  obtain ⟨hz, hi, ⟨c, d, ho⟩, h1, h2⟩ := st
  obtain ⟨it1, r1, p1⟩ := I.sqB hq1
  obtain ⟨it2, r2, p2⟩ := I.sqB hq2
  have l1 := r1.length
  have l2 := r2.length
  refine Ef (I.ok.hd hc) D hz hi ho h1 h2 p1 p2 ?_ λ g kk => ⟨rfl, ay.turnedL (t' := s.toks) I (λ b o hb e => kk b o (λ q => hb (by simp at q ⊢; rcases q with q | q | q | q <;> simp [q])) e) hf⟩
  rcases hx with hx | hx
  ·exact .inl (by simp; omega)
  ·exact .inr (by simp; omega)
 self := λ _ _ _ _ _ st h => wpAny_pyIter_zip st.1 h
theorem GV : bootBuiltins "zip" = some (.type "zip") := by decide +kernel
section
variable {X : Cx}
noncomputable def JN (K : Fg) (ta : TA) : TI := λ Z H R => ta Z H λ vs H1 => ∃ q1 q2 a1 a2, vs = [.ref a1, .ref a2] /\ (∃ xs, mC q1 K H1 a1 xs) /\ (∃ ys, mC q2 K H1 a2 ys) /\ R (Itz K q1 q2 a1 a2) H1
theorem yV {l1 l2 : Expr} {ta : TA} {elts : List Expr} {x1 : _} {p pos pos' : Pos} (hg : Gl X "zip") (hm : X.mg "zip" = none) (ha : PA X [l1, l2] ta) (hs : starEach [l1, l2] X.env = (false, eval l1 X.env) :: starEach [l2] X.env := by rfl) (hpl : (backTo pos (starEach [l2] X.env)).any (·.1) = false := by rfl) :
  PI X (.Tuple elts x1 pos') (.Call (.Name "zip" p) [l1, l2] [] pos) (JN X.K ta) := by
 intro pins s Z H R I h
 refine Call_ (jY I hg hm GV (PyProof.Rows.callWith_type1 (bO (ha pos pins s Z H _ I h) λ us s1 ⟨vs, H1, I1, r1, q1⟩ => ?_) hs hpl))
 obtain ⟨b1, b2, a1, a2, e, ⟨xs, hq1⟩, ⟨ys, hq2⟩, q⟩ := q1
 subst e
 cases r1 with
 | cons r rr =>
  cases rr with
  | cons r2 rr =>
   cases rr
   cases r
   cases r2
   obtain ⟨it1, rv1, p1⟩ := I1.sqB hq1
   obtain ⟨it2, rv2, p2⟩ := I1.sqB hq2
   have lt1 : a1 < s1.heap.objs.size := by obtain ⟨o, e, _⟩ := id p1; exact gS e
   have lt2 : a2 < s1.heap.objs.size := by obtain ⟨o, e, _⟩ := id p2; exact gS e
   refine Gw p1 p2 λ g hz hi ho h1 h2 kk => ?_
   have I2 : ay X pins Z H1 { s1 with heap := g } := I1.kept (t' := s1.toks) kk
   have D : HV (s1.heap.objs.size + 4) (s1.heap.objs.size + 2) (s1.heap.objs.size + 3) s1.heap.objs.size (s1.heap.objs.size + 1) a1 a2 := by
    have ap : ∀ b : Addr, b < s1.heap.objs.size -> b ∉ [s1.heap.objs.size + 4, s1.heap.objs.size + 3, s1.heap.objs.size, s1.heap.objs.size + 1] := λ b lt hb => by
     have hb' : b = s1.heap.objs.size + 4 ∨ b = s1.heap.objs.size + 3 ∨ b = s1.heap.objs.size ∨ b = s1.heap.objs.size + 1 := by simpa using hb
     rcases hb' with e | e | e | e
     ·exact absurd lt (by rw [e]; exact Nat.not_lt_of_le (Nat.le_add_right _ _))
     ·exact absurd lt (by rw [e]; exact Nat.not_lt_of_le (Nat.le_add_right _ _))
     ·exact absurd lt (by rw [e]; exact Nat.lt_irrefl _)
     ·exact absurd lt (by rw [e]; exact Nat.not_lt_of_le (Nat.le_add_right _ _))
    exact ⟨by simp, ap a1 lt1, ap a2 lt2⟩
   refine wpAny_pyIter_zip hz ⟨s1.heap.objs.size + 4, [s1.heap.objs.size + 4, s1.heap.objs.size + 2, s1.heap.objs.size + 3, s1.heap.objs.size, s1.heap.objs.size + 1], _, _, H1, rfl, I2, yY D, ⟨hz, hi, ⟨_, _, ho⟩, h1, h2⟩, λ b hb => ?_, q⟩
   have hge : s1.heap.objs.size <= b := by
    have hb' : b = s1.heap.objs.size + 4 ∨ b = s1.heap.objs.size + 2 ∨ b = s1.heap.objs.size + 3 ∨ b = s1.heap.objs.size ∨ b = s1.heap.objs.size + 1 := by simpa using hb
    rcases hb' with e | e | e | e | e
    ·rw [e]; exact Nat.le_add_right _ _
    ·rw [e]; exact Nat.le_add_right _ _
    ·rw [e]; exact Nat.le_add_right _ _
    ·rw [e]; exact eT _
    ·rw [e]; exact Nat.le_add_right _ _
   exact I1.fpOk hge (I1.hok.fresh hge)
end
inductive Tr where
 | non | bl (b : Bool) | int (i : Int) | str (x : Str) | tup (ts : List Tr) | lst (ts : List Tr) | dct (kvs : List (Key × Tr)) | ty (n : String)
mutual
inductive Is (K : Fg) (F : Hp) : V -> Tr -> Prop
 | non : Is K F .non .non
 | bl {b : Bool} : Is K F (.bl b) (.bl b)
 | int {i : Int} : Is K F (.int i) (.int i)
 | str {x : Str} : Is K F (.str x) (.str x)
 | ty {n : String} : Is K F (.ty n) (.ty n)
 | tup {p : Addr} {vs : List V} {ts : List Tr} : bI K F p vs -> IsL K F vs ts -> Is K F (.ref p) (.tup ts)
 | lst {p : Addr} {vs : List V} {ts : List Tr} : br K F p vs -> IsL K F vs ts -> Is K F (.ref p) (.lst ts)
 | dct {p : Addr} {kvs : List (Key × V)} {ts : List (Key × Tr)} : F p = some (.dK kvs) -> kvs.map (·.1) = ts.map (·.1) -> IsL K F (kvs.map (·.2)) (ts.map (·.2)) -> Is K F (.ref p) (.dct ts)
inductive IsL (K : Fg) (F : Hp) : List V -> List Tr -> Prop
 | nil : IsL K F [] []
 | cons {v : V} {t : Tr} {vs : List V} {ts : List Tr} : Is K F v t -> IsL K F vs ts -> IsL K F (v :: vs) (t :: ts)
end
mutual
theorem Is.same {K : Fg} {F F' : Hp} (s : am F F') : ∀ {v : V} {t : Tr}, Is K F v t -> Is K F' v t
 | _, _, .non => .non
 | _, _, .bl => .bl
 | _, _, .int => .int
 | _, _, .str => .str
 | _, _, .ty => .ty
 | _, _, .tup h g => .tup (s.tup h) (IsL.same s g)
 | _, _, .lst h g => .lst (s.seq h) (IsL.same s g)
 | _, _, .dct h e g => .dct (s _ _ h) e (IsL.same s g)
theorem IsL.same {K : Fg} {F F' : Hp} (s : am F F') : ∀ {vs : List V} {ts : List Tr}, IsL K F vs ts -> IsL K F' vs ts
 | _, _, .nil => .nil
 | _, _, .cons h g => .cons (Is.same s h) (IsL.same s g)
end
section
variable {K : Fg} {F : Hp}
theorem IsL.length : ∀ {vs : List V} {ts : List Tr}, IsL K F vs ts -> vs.length = ts.length
 | _, _, .nil => rfl
 | _, _, .cons _ g => congrArg (· + 1) (IsL.length g)
theorem IsL.get : ∀ {vs : List V} {ts : List Tr} {i : Nat} {t : Tr}, IsL K F vs ts -> ts[i]? = some t -> ∃ v, vs[i]? = some v /\ Is K F v t
 | _, _, _, _, .nil, e => by simp at e
 | _, _, 0, _, .cons h _, e => by simp at e; subst e; exact ⟨_, rfl, h⟩
 | _, _, i + 1, t, .cons _ g, e => by
  obtain ⟨u, h1, h2⟩ := IsL.get (i := i) (t := t) g (by simpa using e)
  exact ⟨u, by simpa using h1, h2⟩
theorem IsL.get2 : ∀ {vs : List V} {ts : List Tr} {i : Nat} {v : V}, IsL K F vs ts -> vs[i]? = some v -> ∃ t, ts[i]? = some t /\ Is K F v t
 | _, _, _, _, .nil, e => by simp at e
 | _, _, 0, _, .cons h _, e => by simp at e; subst e; exact ⟨_, rfl, h⟩
 | _, _, i + 1, t, .cons _ g, e => by
  obtain ⟨u, h1, h2⟩ := IsL.get2 (i := i) (v := t) g (by simpa using e)
  exact ⟨u, by simpa using h1, h2⟩
theorem IsL.app : ∀ {vs ws : List V} {ts us : List Tr}, IsL K F vs ts -> IsL K F ws us -> IsL K F (vs ++ ws) (ts ++ us)
 | _, _, _, _, .nil, s => s
 | _, _, _, _, .cons h g, s => .cons h (IsL.app g s)
theorem IsL.take : ∀ {vs : List V} {ts : List Tr} (n : Nat), IsL K F vs ts -> IsL K F (vs.take n) (ts.take n)
 | _, _, 0, _ => .nil
 | _, _, _ + 1, .nil => .nil
 | _, _, n + 1, .cons h g => .cons h (IsL.take n g)
theorem IsL.drop : ∀ {vs : List V} {ts : List Tr} (n : Nat), IsL K F vs ts -> IsL K F (vs.drop n) (ts.drop n)
 | _, _, 0, h => h
 | _, _, _ + 1, .nil => .nil
 | _, _, n + 1, .cons _ g => IsL.drop n g
theorem IsL.snoc {vs : List V} {ts : List Tr} {v : V} {t : Tr} (h : IsL K F vs ts) (g : Is K F v t) : IsL K F (vs ++ [v]) (ts ++ [t]) := h.app (.cons g .nil)
theorem IsL.rev : ∀ {vs : List V} {ts : List Tr}, IsL K F vs ts -> IsL K F vs.reverse ts.reverse
 | _, _, .nil => .nil
 | _, _, .cons h g => by rw [List.reverse_cons, List.reverse_cons]; exact (IsL.rev g).snoc h
theorem IsL.strs : ∀ {vs : List V} {ns : List Str}, IsL K F vs (ns.map Tr.str) -> vs = ns.map V.str
 | _, [], .nil => rfl
 | _, _ :: _, .cons .str g => by rw [j8, IsL.strs g]
theorem IsL.bls : ∀ {vs : List V} {ns : List Bool}, IsL K F vs (ns.map Tr.bl) -> vs = ns.map V.bl
 | _, [], .nil => rfl
 | _, _ :: _, .cons .bl g => by rw [j8, IsL.bls g]
theorem IsL.ofInts : ∀ (ns : List Int), IsL K F (ns.map V.int) (ns.map Tr.int)
 | [] => .nil
 | _ :: r => .cons .int (IsL.ofInts r)
end
noncomputable def Mb : HO -> Prop
 | .lst _ => True
 | .dK _ => True
 | .tbl _ => True
 | _ => False
structure Bk where
 K : Fg
 F0 : Hp
 H0 : Hp
 W : Addr -> Prop
 J : Hp -> Prop
 rt : Addr
 jl : ∀ H H' : Hp, (∀ p, W p -> H p = H' p) -> (∀ p φ, H p = some (.ext φ) -> H' p = some (.ext φ)) -> J H -> J H'
 jm : ∀ (H : Hp) (p : Addr), J H -> W p -> ∃ o, H p = some o /\ Mb o
structure Up (B : Bk) (F H F' H' : Hp) : Prop where
 f : am F F'
 h : ∀ p o, ¬ B.W p -> H p = some o -> H' p = some o
 i : am F' H'
 m : ∀ p o, H p = some o -> Mb o -> F p = none -> F' p = none
 w : ∀ p, H' p = none -> H p = none
 x : ∀ p, B.W p -> F p = none -> F' p = none
 j : B.J H -> B.J H'
variable {B : Bk} {F : Hp} {H : Hp}
theorem Up.refl (i : am F H) : Up B F H F H := ⟨am.refl _, λ _ _ _ h => h, i, λ _ _ _ _ h => h, λ _ h => h, λ _ _ h => h, λ h => h⟩
theorem Up.trans {F1 H1 F2 H2 : Hp} (a : Up B F H F1 H1) (b : Up B F1 H1 F2 H2) : Up B F H F2 H2 := ⟨a.f.trans b.f, λ p o n h => b.h p o n (a.h p o n h), b.i, λ p o h mb n => by
 by_cases hw : B.W p
 ·exact b.x p hw (a.x p hw n)
 ·exact b.m p o (a.h p o hw h) mb (a.m p o h mb n), λ p h => a.w p (b.w p h), λ p hw n => b.x p hw (a.x p hw n), λ h => b.j (a.j h)⟩
inductive Ow (K : Fg) (F H : Hp) (l : Addr) : Tr -> Prop
 | lst {vs : List V} {ts : List Tr} : H l = some (.lst vs) -> IsL K F vs ts -> Ow K F H l (.lst ts)
 | dct {kvs : List (Key × V)} {ts : List (Key × Tr)} : H l = some (.dK kvs) -> kvs.map (·.1) = ts.map (·.1) -> IsL K F (kvs.map (·.2)) (ts.map (·.2)) -> Ow K F H l (.dct ts)
variable {K : Fg} {l : Addr} {t : Tr}
theorem Ow.mb (h : Ow K F H l t) : ∃ o, H l = some o /\ Mb o := by
 cases h with
 | lst h _ => exact ⟨_, h, trivial⟩
 | dct h _ _ => exact ⟨_, h, trivial⟩
variable {F' : Hp}
theorem Ow.to {H' : Hp} (h : Ow K F H l t) (s : am F F') (e : ∀ o, H l = some o -> H' l = some o) : Ow K F' H' l t := by
 cases h with
 | lst h g => exact .lst (e _ h) (g.same s)
 | dct h e' g => exact .dct (e _ h) e' (g.same s)
theorem Ow.is (h : Ow K F H l t) (s : am F F') (e : F' l = H l) : Is K F' (.ref l) t := by
 cases h with
 | lst h g => exact .lst (br.of (by rw [e, h])) (g.same s)
 | dct h e' g => exact .dct (by rw [e, h]) e' (g.same s)
inductive Sl where
 | no | fz (t : Tr) | own (t : Tr) | vw (t : Tr) | wd
noncomputable abbrev TSt := List Sl
noncomputable abbrev db (Z : St) (i : Nat) (v : V) : Prop := Z[i]? = some (some v)
noncomputable abbrev bV (τ : TSt) (i : Nat) (s : Sl) : Prop := τ[i]? = some s
structure Rp (B : Bk) (F H : Hp) (Z : St) (τ : TSt) : Prop where
 up : Up B B.F0 B.H0 F H
 wa : ∀ p, B.W p -> B.H0 p ≠ none
 wf : ∀ p, B.W p -> F p = none
 wj : B.J H
 wd : ∀ i, bV τ i .wd -> db Z i (.ref B.rt)
 len : Z.length = τ.length
 fz : ∀ i t, bV τ i (.fz t) -> ∃ v, db Z i v /\ Is B.K F v t
 ow : ∀ i t, bV τ i (.own t) -> ∃ l, db Z i (.ref l) /\ Ow B.K F H l t /\ F l = none /\ B.H0 l = none
 vw : ∀ i t, bV τ i (.vw t) -> ∃ l, db Z i (.ref l) /\ Ow B.K F H l t /\ F l = none /\ ¬ B.W l
 ap : ∀ i j t u l, bV τ i (.own t) -> bV τ j (.own u) -> i ≠ j -> db Z i (.ref l) -> db Z j (.ref l) -> False
 av : ∀ i j t u l, bV τ i (.own t) -> bV τ j (.vw u) -> db Z i (.ref l) -> db Z j (.ref l) -> False
inductive Kd where
 | fz (t : Tr) | nw (t : Tr) | sl (i : Nat) | wd
noncomputable def uy (B : Bk) (F H : Hp) (Z : St) (τ : TSt) (v : V) : Kd -> Prop
 | .fz t => Is B.K F v t
 | .nw t => ∃ l, v = .ref l /\ Ow B.K F H l t /\ F l = none /\ B.H0 l = none /\ ∀ i u, bV τ i (.own u) ∨ bV τ i (.vw u) -> ¬ db Z i (.ref l)
 | .sl i => db Z i v
 | .wd => v = .ref B.rt
noncomputable def Cd (H : Hp) (v : V) : Kd -> Prop
 | .nw _ => ∀ l, v = .ref l -> H l = none
 | _ => True
structure Fr (B : Bk) (Z : St) (τ : TSt) (F H : Hp) (τ' : TSt) (F' H' : Hp) : Prop where
 f : am F F'
 k : ∀ p o, H p = some o -> ¬ B.W p -> (∀ i t, bV τ i (.own t) -> ¬ db Z i (.ref p)) -> H' p = some o /\ (Mb o -> F p = none -> F' p = none)
 o : ∀ i t, bV τ' i (.own t) -> ∃ u, bV τ i (.own u)
 h : ∀ p, H' p = none -> H p = none
variable {Z : St}
theorem Fr.refl {τ : TSt} : Fr B Z τ F H τ F H := ⟨am.refl _, λ _ _ h _ _ => ⟨h, λ _ z => z⟩, λ _ t h => ⟨t, h⟩, λ _ h => h⟩
theorem Fr.trans {τ τ1 τ2 : TSt} {F1 H1 F2 H2 : Hp} (a : Fr B Z τ F H τ1 F1 H1) (b : Fr B Z τ1 F1 H1 τ2 F2 H2) : Fr B Z τ F H τ2 F2 H2 :=
 ⟨a.f.trans b.f, λ p o h nw n => by
  obtain ⟨h1, h2⟩ := a.k p o h nw n
  obtain ⟨h3, h4⟩ := b.k p o h1 nw λ i t e => by
   obtain ⟨u, e'⟩ := a.o i t e
   exact n i u e'
  exact ⟨h3, λ mb z => h4 mb (h2 mb z)⟩, λ i t e => by
  obtain ⟨u, e'⟩ := b.o i t e
  exact a.o i u e', λ p h => a.h p (b.h p h)⟩
noncomputable abbrev TK := Kd -> TSt -> Prop
noncomputable def CT (B : Bk) (Z : St) (τ : TSt) (F H : Hp) (Φ : TK) (Q : VK) : Prop := ∀ v F' H' k τ', Fr B Z τ F H τ' F' H' -> Rp B F' H' Z τ' -> uy B F' H' Z τ' v k -> Cd H v k -> Φ k τ' -> Q v H'
noncomputable def EV (B : Bk) (te : TE) (τ : TSt) (Φ : TK) : Prop := ∀ Z F H Q, Rp B F H Z τ -> CT B Z τ F H Φ Q -> te Z H Q
noncomputable def TV (B : Bk) (tt : TT) (τ : TSt) (Φ : Bool -> TSt -> Prop) : Prop := ∀ Z F H (Q : Bool -> Hp -> Prop), Rp B F H Z τ -> (∀ b F' H' τ', Fr B Z τ F H τ' F' H' -> Rp B F' H' Z τ' -> Φ b τ' -> Q b H') -> tt Z H Q
noncomputable def DA (B : Bk) (ta : TA) (τ : TSt) (Φ : List Tr -> TSt -> Prop) : Prop := ∀ Z F H (Q : List V -> Hp -> Prop), Rp B F H Z τ -> (∀ vs F' H' ts τ', Fr B Z τ F H τ' F' H' -> Rp B F' H' Z τ' -> IsL B.K F' vs ts -> Φ ts τ' -> Q vs H') -> ta Z H Q
noncomputable def oW (k : Kd) (τ : TSt) (S : Tr -> TSt -> Prop) : Prop := match k with
 | .fz t => S t τ
 | .nw t => S t τ
 | .sl i => (∃ t, bV τ i (.own t) /\ S t (τ.set i (.fz t))) ∨ ∃ t, bV τ i (.fz t) /\ S t τ
 | .wd => False
noncomputable def qN (k : Kd) (τ : TSt) (S : TK) : Prop := match k with
 | .fz t => S (.fz t) τ
 | .nw t => S (.fz t) τ
 | .sl i => S (.sl i) τ
 | .wd => False
noncomputable def fW (K : Fg) (F : Hp) (Z : St) (v : V) : Kd -> Prop
 | .fz t => Is K F v t
 | .nw _ => False
 | .sl i => db Z i v
 | .wd => False
theorem fW.same {v : V} {k : Kd} (s : am F F') (h : fW K F Z v k) : fW K F' Z v k := by
 cases k with
 | fz t => exact Is.same s h
 | nw t => exact h
 | sl i => exact h
 | wd => exact h
section
variable {B : Bk} {F H F1 H1 F' H' : Hp} {Z : St} {τ τ1 τ' : TSt}
theorem CT.on {Φ : TK} {Q : VK} (c : CT B Z τ F H Φ Q) (f : Fr B Z τ F H τ1 F1 H1) : CT B Z τ1 F1 H1 Φ Q := λ v F' H' k τ' f' r ok n φ => c v F' H' k τ' (f.trans f') r ok (by
 cases k with
 | nw t => exact λ l e => f.h l (n l e)
 | fz t => exact trivial
 | sl i => exact trivial
 | wd => exact trivial) φ
theorem Rp.go (r : Rp B F H Z τ) (u : Up B F H F' H') : Rp B F' H' Z τ where
 up := r.up.trans u
 wa := r.wa
 wf := λ p hw => u.x p hw (r.wf p hw)
 wj := u.j r.wj
 wd := r.wd
 len := r.len
 fz := λ i t h => by obtain ⟨v, e, g⟩ := r.fz i t h; exact ⟨v, e, g.same u.f⟩
 ow := λ i t h => by
  obtain ⟨l, e, g, n, n0⟩ := r.ow i t h
  obtain ⟨o, ho, mb⟩ := g.mb
  exact ⟨l, e, g.to u.f (λ o => u.h l o λ hw => r.wa l hw n0), u.m l o ho mb n, n0⟩
 vw := λ i t h => by
  obtain ⟨l, e, g, n, nw⟩ := r.vw i t h
  obtain ⟨o, ho, mb⟩ := g.mb
  exact ⟨l, e, g.to u.f (λ o => u.h l o nw), u.m l o ho mb n, nw⟩
 ap := r.ap
 av := r.av
theorem Fr.up (u : Up B F H F' H') : Fr B Z τ F H τ F' H' := ⟨u.f, λ p o h nw _ => ⟨u.h p o nw h, λ mb n => u.m p o h mb n⟩, λ _ t h => ⟨t, h⟩, u.w⟩
theorem eP {H : Hp} {a b : Addr} {o : HO} (h : upd H a o b = none) : H b = none := by
 by_cases e : b = a
 ·rw [e, ar] at h; cases h
 ·rw [ag e] at h; exact h
theorem Rp.tup {p : Addr} {vs : List V} (r : Rp B F H Z τ) (n : H p = none) : Up B F H (upd F p (.tup vs)) (upd H p (.tup vs)) where
 f := am.new (r.up.i.free n) _
 h := λ q o _ z => am.new n _ q o z
 i := λ b o e => by
  by_cases hb : b = p
  ·subst hb; rw [ar] at e ⊢; exact e
  ·rw [ag hb] at e ⊢; exact r.up.i b o e
 m := λ q o h _ z => by
  have : q ≠ p := λ e => by rw [e, n] at h; cases h
  rw [ag this]; exact z
 w := λ q h => eP h
 x := λ q hw z => by
  have : q ≠ p := λ e => r.wa q hw (r.up.w q (by rw [e]; exact n))
  rw [ag this]; exact z
 j := λ h => B.jl _ _ (λ q hw => by
  have : q ≠ p := λ e => r.wa q hw (r.up.w q (by rw [e]; exact n))
  rw [ag this]) (λ q φ z => am.new n _ q _ z) h
theorem Rp.new {p : Addr} {o : HO} (r : Rp B F H Z τ) (n : H p = none) : Up B F H F (upd H p o) where
 f := am.refl _
 h := λ q o _ z => am.new n _ q o z
 i := r.up.i.trans (am.new n _)
 m := λ q o h _ z => z
 w := λ q h => eP h
 x := λ q hw z => z
 j := λ h => B.jl _ _ (λ q hw => by
  have : q ≠ p := λ e => r.wa q hw (r.up.w q (by rw [e]; exact n))
  rw [ag this]) (λ q φ z => am.new n _ q _ z) h
theorem Rp.inc (r : Rp B F H Z τ) : am F H := r.up.i
theorem Rp.fixA {l : Addr} {o : HO} (r : Rp B F H Z τ) (ho : H l = some o) (n : F l = none) (n0 : B.H0 l = none) (ne : ∀ i u, bV τ i (.own u) ∨ bV τ i (.vw u) -> ¬ db Z i (.ref l)) : Rp B (upd F l o) H Z τ where
  wa := r.wa
  wf := λ p hw => by
    have : p ≠ l := λ e => r.wa p hw (by rw [e]; exact n0)
    rw [ag this]; exact r.wf p hw
  wj := r.wj
  wd := r.wd
  up := { f := r.up.f.trans (am.new n o), h := r.up.h, w := r.up.w, j := r.up.j
          m := λ p q hp mb z => by
            have : p ≠ l := λ e => by rw [e, n0] at hp; cases hp
            rw [ag this]; exact r.up.m p q hp mb z
          x := λ p hw z => by
            have : p ≠ l := λ e => r.wa p hw (by rw [e]; exact n0)
            rw [ag this]; exact r.up.x p hw z
          i := λ b q e => by
            by_cases hb : b = l
            · subst hb; rw [ar] at e; cases e; exact ho
            · rw [ag hb] at e; exact r.up.i b q e }
  len := r.len
  fz := λ i t h => by obtain ⟨v, e, g⟩ := r.fz i t h; exact ⟨v, e, g.same (am.new n o)⟩
  ow := λ i t h => by
    obtain ⟨l', e, g, n', n0'⟩ := r.ow i t h
    have hl : l' ≠ l := λ z => ne i t (.inl h) (by rw [<- z]; exact e)
    exact ⟨l', e, g.to (am.new n o) (λ _ q => q), by rw [ag hl]; exact n', n0'⟩
  vw := λ i t h => by
    obtain ⟨l', e, g, n', nw⟩ := r.vw i t h
    have hl : l' ≠ l := λ z => ne i t (.inr h) (by rw [<- z]; exact e)
    exact ⟨l', e, g.to (am.new n o) (λ _ q => q), by rw [ag hl]; exact n', nw⟩
  ap := r.ap
  av := r.av
variable {i : Nat} {j : Nat}
theorem bB {τ : TSt} {s u : Sl} (h : bV (τ.set i s) j u) : (j = i /\ u = s /\ i < τ.length) ∨ (j ≠ i /\ bV τ j u) := by
 unfold bV at h
 rw [List.getElem?_set] at h
 by_cases e : i = j
 ·subst e
  rw [h9 rfl] at h
  by_cases g : i < τ.length
  ·rw [h9 g] at h; cases h; exact .inl ⟨rfl, rfl, g⟩
  ·rw [gV g] at h; cases h
 ·rw [gV e] at h; exact .inr ⟨λ z => e z.symm, h⟩
theorem kJ {Z : St} {x : Option V} {v : V} (h : db (Z.set i x) j v) : (j = i /\ x = some v) ∨ (j ≠ i /\ db Z j v) := by
 unfold db at h
 rw [List.getElem?_set] at h
 by_cases e : i = j
 ·subst e
  rw [h9 rfl] at h
  by_cases g : i < Z.length
  ·rw [h9 g] at h; cases h; exact .inl ⟨rfl, rfl⟩
  ·rw [gV g] at h; cases h
 ·rw [gV e] at h; exact .inr ⟨λ z => e z.symm, h⟩
theorem lr {Z : St} {v : V} (h : i < Z.length) : db (Z.set i (some v)) i v := by
 unfold db
 rw [List.getElem?_set, h9 rfl, h9 h]
theorem fg {Z : St} {x : Option V} {v : V} (n : j ≠ i) (h : db Z j v) : db (Z.set i x) j v := by
 unfold db at h ⊢
 rw [List.getElem?_set, gV (λ z => n z.symm)]; exact h
variable {t : Tr}
theorem Rp.setF {v : V} (r : Rp B F H Z τ) (h : Is B.K F v t) : Rp B F H (Z.set i (some v)) (τ.set i (.fz t)) where
 up := r.up
 wa := r.wa
 wf := r.wf
 wj := r.wj
 wd := λ j e => by
  rcases bB e with ⟨_, e, _⟩ | ⟨n, e⟩
  ·cases e
  ·exact fg n (r.wd j e)
 len := by rw [List.length_set, List.length_set]; exact r.len
 fz := λ j u e => by
  rcases bB e with ⟨rfl, e, g⟩ | ⟨n, e⟩
  ·cases e; exact ⟨v, lr (by rw [r.len]; exact g), h⟩
  ·obtain ⟨w, a, b⟩ := r.fz j u e
   exact ⟨w, fg n a, b⟩
 ow := λ j u e => by
  rcases bB e with ⟨rfl, e, g⟩ | ⟨n, e⟩
  ·cases e
  ·obtain ⟨w, a, b⟩ := r.ow j u e
   exact ⟨w, fg n a, b⟩
 vw := λ j u e => by
  rcases bB e with ⟨rfl, e, g⟩ | ⟨n, e⟩
  ·cases e
  ·obtain ⟨w, a, b⟩ := r.vw j u e
   exact ⟨w, fg n a, b⟩
 ap := λ a b t u l ha hb ne hi hj => by
  rcases bB ha with ⟨_, e, _⟩ | ⟨na, ha⟩
  ·cases e
  rcases bB hb with ⟨_, e, _⟩ | ⟨nb, hb⟩
  ·cases e
  rcases kJ hi with ⟨e, _⟩ | ⟨_, hi⟩
  ·exact na e
  rcases kJ hj with ⟨e, _⟩ | ⟨_, hj⟩
  ·exact nb e
  exact r.ap a b t u l ha hb ne hi hj
 av := λ a b t u l ha hb hi hj => by
  rcases bB ha with ⟨_, e, _⟩ | ⟨na, ha⟩
  ·cases e
  rcases bB hb with ⟨_, e, _⟩ | ⟨nb, hb⟩
  ·cases e
  rcases kJ hi with ⟨e, _⟩ | ⟨_, hi⟩
  ·exact na e
  rcases kJ hj with ⟨e, _⟩ | ⟨_, hj⟩
  ·exact nb e
  exact r.av a b t u l ha hb hi hj
theorem Rp.setN {v : V} (r : Rp B F H Z τ) (h : uy B F H Z τ v (.nw t)) : Rp B F H (Z.set i (some v)) (τ.set i (.own t)) := by
 obtain ⟨l0, rfl, hw, n, n0, dis⟩ := h
 exact {
 up := r.up
 wa := r.wa
 wf := r.wf
 wj := r.wj
 wd := λ j e => by
  rcases bB e with ⟨_, e, _⟩ | ⟨n, e⟩
  ·cases e
  ·exact fg n (r.wd j e)
 len := by rw [List.length_set, List.length_set]; exact r.len
 fz := λ j u e => by
  rcases bB e with ⟨rfl, e, g⟩ | ⟨n, e⟩
  ·cases e
  ·obtain ⟨w, a, b⟩ := r.fz j u e
   exact ⟨w, fg n a, b⟩
 ow := λ j u e => by
  rcases bB e with ⟨rfl, e, g⟩ | ⟨n, e⟩
  ·cases e; exact ⟨l0, lr (by rw [r.len]; exact g), hw, n, n0⟩
  ·obtain ⟨w, a, b⟩ := r.ow j u e
   exact ⟨w, fg n a, b⟩
 vw := λ j u e => by
  rcases bB e with ⟨rfl, e, g⟩ | ⟨n, e⟩
  ·cases e
  ·obtain ⟨w, a, b⟩ := r.vw j u e
   exact ⟨w, fg n a, b⟩
 ap := λ a b t u l ha hb ne hi hj => by
  rcases bB ha with ⟨ea, _, _⟩ | ⟨na, ha⟩
  ·rcases bB hb with ⟨eb, _, _⟩ | ⟨nb, hb⟩
   ·exact ne (ea.trans eb.symm)
   ·rcases kJ hi with ⟨_, e⟩ | ⟨na, _⟩
    ·cases e
     rcases kJ hj with ⟨e, _⟩ | ⟨_, hj⟩
     ·exact nb e
     ·exact dis b u (.inl hb) hj
    ·exact na ea
  ·rcases kJ hi with ⟨e, _⟩ | ⟨_, hi⟩
   ·exact na e
   rcases bB hb with ⟨eb, _, _⟩ | ⟨nb, hb⟩
   ·rcases kJ hj with ⟨_, e⟩ | ⟨nb, _⟩
    ·cases e; exact dis a t (.inl ha) hi
    ·exact nb eb
   ·rcases kJ hj with ⟨e, _⟩ | ⟨_, hj⟩
    ·exact nb e
    ·exact r.ap a b t u l ha hb ne hi hj
 av := λ a b t u l ha hb hi hj => by
  rcases bB hb with ⟨_, e, _⟩ | ⟨nb, hb⟩
  ·cases e
  rcases kJ hj with ⟨e, _⟩ | ⟨_, hj⟩
  ·exact nb e
  rcases bB ha with ⟨ea, _, _⟩ | ⟨na, ha⟩
  ·rcases kJ hi with ⟨_, e⟩ | ⟨na, _⟩
   ·cases e; exact dis b u (.inr hb) hj
   ·exact na ea
  ·rcases kJ hi with ⟨e, _⟩ | ⟨_, hi⟩
   ·exact na e
   ·exact r.av a b t u l ha hb hi hj }
theorem Rp.forget (r : Rp B F H Z τ) : Rp B F H Z (τ.set i .no) where
 up := r.up
 wa := r.wa
 wf := r.wf
 wj := r.wj
 wd := λ j e => by
  rcases bB e with ⟨_, e, _⟩ | ⟨n, e⟩
  ·cases e
  ·exact r.wd j e
 len := by rw [List.length_set]; exact r.len
 fz := λ j u e => by
  rcases bB e with ⟨_, e, _⟩ | ⟨_, e⟩
  ·cases e
  ·exact r.fz j u e
 ow := λ j u e => by
  rcases bB e with ⟨_, e, _⟩ | ⟨_, e⟩
  ·cases e
  ·exact r.ow j u e
 vw := λ j u e => by
  rcases bB e with ⟨_, e, _⟩ | ⟨_, e⟩
  ·cases e
  ·exact r.vw j u e
 ap := λ a b t u l ha hb => by
  rcases bB ha with ⟨_, e, _⟩ | ⟨_, ha⟩
  ·cases e
  rcases bB hb with ⟨_, e, _⟩ | ⟨_, hb⟩
  ·cases e
  exact r.ap a b t u l ha hb
 av := λ a b t u l ha hb => by
  rcases bB ha with ⟨_, e, _⟩ | ⟨_, ha⟩
  ·cases e
  rcases bB hb with ⟨_, e, _⟩ | ⟨_, hb⟩
  ·cases e
  exact r.av a b t u l ha hb
theorem ax {Z : St} {v w : V} (h : db Z i v) (g : db Z i w) : v = w := by
 unfold db at h g
 rw [h] at g; exact j9 (j9 g)
theorem yI {Z : St} {v : V} (h : db Z i v) : Z.set i (some v) = Z := by
 apply List.ext_getElem?
 intro j
 rw [List.getElem?_set]
 by_cases e : i = j
 ·subst e
  rw [h9 rfl, h9 (iL.mp h).1]; exact h.symm
 ·rw [gV e]
theorem Rp.fixS (r : Rp B F H Z τ) (h : bV τ i (.own t)) : ∃ F2 l, db Z i (.ref l) /\ am F F2 /\ Rp B F2 H Z (τ.set i (.fz t)) /\ Is B.K F2 (.ref l) t /\ ∀ p, p ≠ l -> F2 p = F p := by
 obtain ⟨l, e, g, n, n0⟩ := r.ow i t h
 obtain ⟨o, ho, mb⟩ := g.mb
 have r1 : Rp B F H Z (τ.set i .no) := r.forget
 have r2 := r1.fixA ho n n0 (λ j u hj hs => by
  rcases hj with hj | hj
  ·rcases bB hj with ⟨_, z, _⟩ | ⟨nj, hj⟩
   ·cases z
   ·exact r.ap i j t u l h hj (λ z => nj z.symm) e hs
  ·rcases bB hj with ⟨_, z, _⟩ | ⟨nj, hj⟩
   ·cases z
   ·exact r.av i j t u l h hj e hs)
 have hi : Is B.K (upd F l o) (.ref l) t := g.is (am.new n o) (by rw [ar, ho])
 have r3 := r2.setF (i := i) hi
 rw [yI e, List.set_set] at r3
 exact ⟨_, l, e, am.new n o, r3, hi, λ p hp => ag hp⟩
theorem dA {v : V} {k : Kd} {S : Tr -> TSt -> Prop} (f : Fr B Z τ F H τ1 F1 H1) (r : Rp B F1 H1 Z τ1) (ok : uy B F1 H1 Z τ1 v k) (nk : Cd H v k) (h : oW k τ1 S) : ∃ F2 t τ2, Fr B Z τ F H τ2 F2 H1 /\ Rp B F2 H1 Z τ2 /\ Is B.K F2 v t /\ S t τ2 /\ am F1 F2 := by
 cases k with
 | fz t => exact ⟨F1, t, τ1, f, r, ok, h, am.refl _⟩
 | nw t =>
  obtain ⟨l, rfl, g, n, n0, ne⟩ := ok
  obtain ⟨o, ho, mb⟩ := g.mb
  refine ⟨upd F1 l o, t, τ1, ⟨f.f.trans (am.new n o), λ p q hp nw no => ?_, f.o, f.h⟩, r.fixA ho n n0 ne, g.is (am.new n o) (by rw [ar, ho]), h, am.new n o⟩
  obtain ⟨h1, h2⟩ := f.k p q hp nw no
  refine ⟨h1, λ mb z => ?_⟩
  have : p ≠ l := λ e => by rw [e, nk l rfl] at hp; cases hp
  rw [ag this]; exact h2 mb z
 | sl i =>
  rcases h with ⟨t, ht, hs⟩ | ⟨t, ht, hs⟩
  ·obtain ⟨F2, l, e, sF, r2, hi, ne⟩ := r.fixS ht
   cases ax e ok
   refine ⟨F2, t, _, ⟨f.f.trans sF, λ p q hp nw no => ?_, λ j u hj => ?_, f.h⟩, r2, hi, hs, sF⟩
   ·obtain ⟨h1, h2⟩ := f.k p q hp nw no
    refine ⟨h1, λ mb z => ?_⟩
    obtain ⟨u, hu⟩ := f.o i t ht
    have : p ≠ l := λ e' => no i u hu (by rw [e']; exact e)
    rw [ne p this]; exact h2 mb z
   ·rcases bB hj with ⟨_, z, _⟩ | ⟨_, hj⟩
    ·cases z
    ·exact f.o j u hj
  ·obtain ⟨w, e, hi⟩ := r.fz i t ht
   cases ax e ok
   exact ⟨F1, t, τ1, f, r, hi, hs, am.refl _⟩
 | wd => exact h.elim
theorem cL {v : V} {k : Kd} {S : TK} (f : Fr B Z τ F H τ1 F1 H1) (r : Rp B F1 H1 Z τ1) (ok : uy B F1 H1 Z τ1 v k) (nk : Cd H v k) (h : qN k τ1 S) : ∃ F2 k', Fr B Z τ F H τ1 F2 H1 /\ Rp B F2 H1 Z τ1 /\ fW B.K F2 Z v k' /\ S k' τ1 /\ am F1 F2 := by
 cases k with
 | fz t => exact ⟨F1, .fz t, f, r, ok, h, am.refl _⟩
 | nw t =>
  obtain ⟨F2, t2, τ2, f2, r2, i2, ⟨s2, rfl, rfl⟩, sF⟩ := dA (S := λ t' τ' => S (.fz t') τ' /\ t' = t /\ τ' = τ1) f r ok nk ⟨h, rfl, rfl⟩
  exact ⟨F2, _, f2, r2, (show fW B.K F2 Z v (.fz _) from i2), s2, sF⟩
 | sl i => exact ⟨F1, .sl i, f, r, ok, h, am.refl _⟩
 | wd => exact h.elim
end
inductive Gt {α : Type} : List α -> Nat -> α -> Prop
 | here {v : α} {r : List α} : Gt (v :: r) 0 v
 | next {x v : α} {r : List α} {i : Nat} : Gt r i v -> Gt (x :: r) (i + 1) v
theorem Gt.eq {α : Type} {Z : List α} {i : Nat} {v : α} (h : Gt Z i v) : Z[i]? = some v := by
 induction h with
 | here => rfl
 | next _ ih => rw [List.getElem?_cons_succ, ih]
inductive iA {α : Type} : List α -> Nat -> α -> List α -> Prop
 | here {x v : α} {r : List α} : iA (x :: r) 0 v (v :: r)
 | next {x v : α} {r r' : List α} {i : Nat} : iA r i v r' -> iA (x :: r) (i + 1) v (x :: r')
theorem iA.eq {α : Type} {Z σ' : List α} {i : Nat} {v : α} (h : iA Z i v σ') : Z.set i v = σ' := by
 induction h with
 | here => rfl
 | next _ ih => rw [List.set_cons_succ, ih]
inductive Rk (τ : TSt) : Kd -> Tr -> Prop
 | fz {t : Tr} : Rk τ (.fz t) t
 | own {i : Nat} {t : Tr} : Gt τ i (.own t) -> Rk τ (.sl i) t
 | vw {i : Nat} {t : Tr} : Gt τ i (.vw t) -> Rk τ (.sl i) t
 | sfz {i : Nat} {t : Tr} : Gt τ i (.fz t) -> Rk τ (.sl i) t
section
variable {B : Bk} {F H : Hp} {Z : St} {τ : TSt}
variable {k : Kd}
theorem Rk.list {v : V} {ts : List Tr} (h : Rk τ k (.lst ts)) (r : Rp B F H Z τ) (ok : fW B.K F Z v k) : ∃ p vs, v = .ref p /\ br B.K H p vs /\ IsL B.K F vs ts := by
 cases h with
 | fz =>
  cases ok with
  | lst a b => exact ⟨_, _, rfl, r.inc.seq a, b⟩
 | own g =>
  obtain ⟨l, e, hw, _⟩ := r.ow _ _ g.eq
  cases ax e ok
  cases hw with
  | lst a b => exact ⟨_, _, rfl, br.of a, b⟩
 | vw g =>
  obtain ⟨l, e, hw, _⟩ := r.vw _ _ g.eq
  cases ax e ok
  cases hw with
  | lst a b => exact ⟨_, _, rfl, br.of a, b⟩
 | sfz g =>
  obtain ⟨w, e, hi⟩ := r.fz _ _ g.eq
  cases ax e ok
  cases hi with
  | lst a b => exact ⟨_, _, rfl, r.inc.seq a, b⟩
theorem Rk.tuple {v : V} {ts : List Tr} (h : Rk τ k (.tup ts)) (r : Rp B F H Z τ) (ok : fW B.K F Z v k) : ∃ p vs, v = .ref p /\ bI B.K H p vs /\ IsL B.K F vs ts := by
 cases h with
 | fz =>
  cases ok with
  | tup a b => exact ⟨_, _, rfl, r.inc.tup a, b⟩
 | own g =>
  obtain ⟨l, e, hw, _⟩ := r.ow _ _ g.eq
  cases hw
 | vw g =>
  obtain ⟨l, e, hw, _⟩ := r.vw _ _ g.eq
  cases hw
 | sfz g =>
  obtain ⟨w, e, hi⟩ := r.fz _ _ g.eq
  cases ax e ok
  cases hi with
  | tup a b => exact ⟨_, _, rfl, r.inc.tup a, b⟩
theorem Rk.dict {v : V} {ts : List (Key × Tr)} (h : Rk τ k (.dct ts)) (r : Rp B F H Z τ) (ok : fW B.K F Z v k) : ∃ p kvs, v = .ref p /\ H p = some (.dK kvs) /\ kvs.map (·.1) = ts.map (·.1) /\ IsL B.K F (kvs.map (·.2)) (ts.map (·.2)) := by
 cases h with
 | fz =>
  cases ok with
  | dct a b c => exact ⟨_, _, rfl, r.inc _ _ a, b, c⟩
 | own g =>
  obtain ⟨l, e, hw, _⟩ := r.ow _ _ g.eq
  cases ax e ok
  cases hw with
  | dct a b c => exact ⟨_, _, rfl, a, b, c⟩
 | vw g =>
  obtain ⟨l, e, hw, _⟩ := r.vw _ _ g.eq
  cases ax e ok
  cases hw with
  | dct a b c => exact ⟨_, _, rfl, a, b, c⟩
 | sfz g =>
  obtain ⟨w, e, hi⟩ := r.fz _ _ g.eq
  cases ax e ok
  cases hi with
  | dct a b c => exact ⟨_, _, rfl, r.inc _ _ a, b, c⟩
end
section
variable {B : Bk} {τ τ' : TSt} {Φ : TK} {te ta tb tc : TE} {k : Nat} {t : Tr} {i j : Int} {x y : Kd} {b : Bool} {c d : TT} {Ψ : Bool -> TSt -> Prop}
variable {S : TK}
theorem Lb (h : S (.fz t) τ) : qN (.fz t) τ S := h
theorem LH (h : S (.fz t) τ) : qN (.nw t) τ S := h
theorem LC (h : S (.sl k) τ) : qN (.sl k) τ S := h
theorem Ka {S : Tr -> TSt -> Prop} (h : S t τ) : oW (.fz t) τ S := h
theorem JT {S : Tr -> TSt -> Prop} (h : S t τ) : oW (.nw t) τ S := h
theorem AN {S : Tr -> TSt -> Prop} (g : Gt τ k (.own t)) (s : iA τ k (.fz t) τ') (h : S t τ') : oW (.sl k) τ S := .inl ⟨t, g.eq, by rw [s.eq]; exact h⟩
variable {F : Hp} {H : Hp} {Z : St}
theorem CT.pl {Q : VK} {v : V} (c : CT B Z τ F H Φ Q) (r : Rp B F H Z τ) (h : Is B.K F v t) (φ : Φ (.fz t) τ) : Q v H := c v F H (.fz t) τ Fr.refl r h trivial φ
theorem Jz (g : Gt τ k (.fz t)) (q : Φ (.fz t) τ) : EV B (fE k) τ Φ := λ Z F H Q r c => by
 obtain ⟨v, e, h⟩ := r.fz _ _ g.eq
 exact ⟨v, e, c.pl r h q⟩
theorem HI (g : Gt τ k (.own t)) (q : Φ (.sl k) τ) : EV B (fE k) τ Φ := λ Z F H Q r c => by
 obtain ⟨l, e, h⟩ := r.ow _ _ g.eq
 exact ⟨_, e, c _ F H (.sl k) τ Fr.refl r e trivial q⟩
theorem LZ (q : Φ (.fz (.int i)) τ) : EV B (tC (.int i)) τ Φ := λ _ _ _ _ r c => c.pl r .int q
theorem Ld (q : Φ (.fz .non) τ) : EV B (tC .non) τ Φ := λ _ _ _ _ r c => c.pl r .non q
variable {z : Str}
theorem KW (q : Φ (.fz (.str z)) τ) : EV B (tC (.str z)) τ Φ := λ _ _ _ _ r c => c.pl r .str q
theorem Mf {z : String} (q : Φ (.fz (.ty z)) τ) : EV B (tC (.ty z)) τ Φ := λ _ _ _ _ r c => c.pl r .ty q
noncomputable def RO (B : Bk) (r : R2) (x y : Kd) (τ : TSt) (Φ : TK) : Prop := ∀ Z F H v w Q, Rp B F H Z τ -> fW B.K F Z v x -> fW B.K F Z w y -> CT B Z τ F H Φ Q -> r v w H Q
theorem Mg {r : R2} (h : EV B ta τ λ x τ1 => qN x τ1 λ x τ1 => EV B tb τ1 λ y τ2 => qN y τ2 λ y τ2 => RO B r x y τ2 Φ) : EV B (AA r ta tb) τ Φ := λ Z F H Q rp c => by
 refine h Z F H _ rp λ v F1 H1 k τ1 f1 r1 ok1 n1 h1 => ?_
 obtain ⟨F2, k', f2, r2, ok2, h2, _⟩ := cL f1 r1 ok1 n1 h1
 refine h2 Z F2 H1 _ r2 λ w F3 H3 k3 τ3 f3 r3 ok3 n3 h3 => ?_
 obtain ⟨F4, k4, f4, r4, ok4, h4, _⟩ := cL f3 r3 ok3 n3 h3
 exact h4 Z F4 H3 v w Q r4 (ok2.same f4.f) ok4 (c.on (f2.trans f4))
noncomputable def RU (B : Bk) (r : V -> Hp -> VK -> Prop) (x : Kd) (τ : TSt) (Φ : TK) : Prop := ∀ Z F H v Q, Rp B F H Z τ -> fW B.K F Z v x -> CT B Z τ F H Φ Q -> r v H Q
theorem Lv {r : V -> Hp -> VK -> Prop} (h : EV B ta τ λ x τ1 => qN x τ1 λ x τ1 => RU B r x τ1 Φ) : EV B (Li r ta) τ Φ := λ Z F H Q rp c => by
 refine h Z F H _ rp λ v F1 H1 k τ1 f1 r1 ok1 n1 h1 => ?_
 obtain ⟨F2, k', f2, r2, ok2, h2, _⟩ := cL f1 r1 ok1 n1 h1
 exact h2 Z F2 H1 v Q r2 ok2 (c.on f2)
variable {K : Fg}
theorem bw {v : V} (h : fW K F Z v (.fz (.int i))) : v = .int i := by cases h; rfl
theorem jn {v : V} (h : fW K F Z v (.fz (.bl b))) : v = .bl b := by cases h; rfl
theorem fC {v : V} (h : fW K F Z v (.fz (.str z))) : v = .str z := by cases h; rfl
theorem zx {v : V} (h : fW K F Z v (.fz .non)) : v = .non := by cases h; rfl
theorem Ix {C : Int -> Int -> Prop} {g : Int -> Int -> Int} (hc : C i j) (q : Φ (.fz (.int (g i j))) τ) : RO B (rI C λ i j => .int (g i j)) (.fz (.int i)) (.fz (.int j)) τ Φ := λ _ _ _ _ _ _ r a b c => by
 cases bw a; cases bw b
 exact ⟨i, j, rfl, rfl, hc, c.pl r .int q⟩
theorem Jv {g : Int -> Int -> Int} (q : Φ (.fz (.int (g i j))) τ) : RO B (yH λ i j => .int (g i j)) (.fz (.int i)) (.fz (.int j)) τ Φ := λ _ _ _ _ _ _ r a b c => by
 cases bw a; cases bw b
 exact ⟨i, j, rfl, rfl, c.pl r .int q⟩
theorem GZ {g : Int -> Int -> Bool} (q : Φ (.fz (.bl (g i j))) τ) : RO B (yH λ i j => .bl (g i j)) (.fz (.int i)) (.fz (.int j)) τ Φ := λ _ _ _ _ _ _ r a b c => by
 cases bw a; cases bw b
 exact ⟨i, j, rfl, rfl, c.pl r .bl q⟩
theorem LB {g : Int -> Int} (q : Φ (.fz (.int (g i))) τ) : RU B (rU λ i => .int (g i)) (.fz (.int i)) τ Φ := λ _ _ _ _ _ r a c => by
 cases bw a
 exact ⟨i, rfl, c.pl r .int q⟩
theorem Hi (q : Φ (.fz (.bl (decide (i = j)))) τ) : RO B rEq (.fz (.int i)) (.fz (.int j)) τ Φ := λ _ _ _ _ _ _ r a b c => by
 cases bw a; cases bw b
 exact EI (c.pl r .bl q)
theorem Gx (q : Φ (.fz (.bl (!decide (i = j)))) τ) : RO B rNe (.fz (.int i)) (.fz (.int j)) τ Φ := λ _ _ _ _ _ _ r a b c => by
 cases bw a; cases bw b
 exact Ei (c.pl r .bl q)
theorem Gv {u : Str} (q : Φ (.fz (.bl (decide (z = u)))) τ) : RO B rEq (.fz (.str z)) (.fz (.str u)) τ Φ := λ _ _ _ _ _ _ r a b c => by
 cases fC a; cases fC b
 exact EK (c.pl r .bl q)
theorem Hu {b1 b2 : Bool} (q : Φ (.fz (.bl (!decide (b1 = b2)))) τ) : RO B rNe (.fz (.bl b1)) (.fz (.bl b2)) τ Φ := λ _ _ _ _ _ _ r a b c => by
 cases jn a; cases jn b
 exact Kg (c.pl r .bl q)
noncomputable def Tr.isN : Tr -> Bool
 | .non => true
 | _ => false
theorem zh {v : V} (h : Is K F v t) : decide (v = .non) = t.isN := by cases h <;> rfl
theorem zc (q : Φ (.fz (.bl t.isN)) τ) : RO B rIsN (.fz t) (.fz .non) τ Φ := λ _ _ _ v _ _ r a b c => by
 cases zx b
 refine ⟨rfl, ?_⟩
 rw [zh (show Is B.K _ v t from a)]
 exact c.pl r .bl q
theorem vQ (q : Φ (.fz (.bl (!t.isN))) τ) : RO B rNotN (.fz t) (.fz .non) τ Φ := λ _ _ _ v _ _ r a b c => by
 cases zx b
 refine ⟨rfl, ?_⟩
 rw [zh (show Is B.K _ v t from a)]
 exact c.pl r .bl q
variable {vs : List V} {ts : List Tr}
theorem qB (h : IsL K F vs ts) (e : fG ts i = some t) : ∃ v, fG vs i = some v /\ Is K F v t := by
 unfold fG at e ⊢
 rw [h.length]
 cases hx : BP ts.length i with
 | none => rw [hx] at e; cases e
 | some n =>
  rw [hx] at e
  exact h.get e
theorem cb (hK : K = B.K) (rk : Rk τ x (.lst ts)) (e : fG ts i = some t) (q : Φ (.fz t) τ) : RO B (ES K) x (.fz (.int i)) τ Φ := λ _ _ _ _ _ _ r a b c => by
 subst hK
 cases bw b
 obtain ⟨p, vs, rfl, s, l⟩ := rk.list r a
 obtain ⟨w, ew, hw⟩ := qB l e
 exact ⟨p, vs, i, w, rfl, rfl, s, ew, c.pl r hw q⟩
theorem uY (hK : K = B.K) (rk : Rk τ x (.tup ts)) (e : fG ts i = some t) (q : Φ (.fz t) τ) : RO B (kb K) x (.fz (.int i)) τ Φ := λ _ _ _ _ _ _ r a b c => by
 subst hK
 cases bw b
 obtain ⟨p, vs, rfl, s, l⟩ := rk.tuple r a
 obtain ⟨w, ew, hw⟩ := qB l e
 exact ⟨p, vs, i, w, rfl, rfl, s, ew, c.pl r hw q⟩
theorem Fm {ch : Nat} (hl : z.length <= sizeLine) (e : fG z.cps.toList i = some ch) (q : Φ (.fz (.str ⟨#[ch]⟩)) τ) : RO B rIxS (.fz (.str z)) (.fz (.int i)) τ Φ := λ _ _ _ _ _ _ r a b c => by
 cases bw b
 cases fC a
 exact ⟨z, i, ch, rfl, rfl, hl, e, c.pl r .str q⟩
theorem DJ {u : Str} (hl : z.length + u.length <= sizeLine) (q : Φ (.fz (.str (z ++ u))) τ) : RO B rAddS (.fz (.str z)) (.fz (.str u)) τ Φ := λ _ _ _ _ _ _ r a b c => by
 cases fC a
 cases fC b
 exact ⟨z, u, rfl, rfl, hl, c.pl r .str q⟩
theorem zH (h : EV B te τ λ x τ1 => ∃ b, x = .fz (.bl b) /\ Ψ b τ1) : TV B (wk te) τ Ψ := λ Z F H Q r c => by
 refine h Z F H _ r λ v F1 H1 k τ1 f1 r1 ok1 _ ⟨b, e, h1⟩ => ?_
 subst e
 cases ok1
 exact ⟨b, rfl, c b F1 H1 τ1 f1 r1 h1⟩
theorem t_B (h : EV B te τ λ x τ1 => ∃ b, x = .fz (.bl b) /\ Ψ b τ1) : TV B (tB te) τ Ψ := zH h
theorem Kj {S : Bool -> Prop} (q : S b) : ∃ b', Kd.fz (.bl b) = .fz (.bl b') /\ S b' := ⟨b, rfl, q⟩
theorem TV.on {F1 H1 : Hp} {τ1 : TSt} {Q : Bool -> Hp -> Prop} (c : ∀ b F' H' τ', Fr B Z τ F H τ' F' H' -> Rp B F' H' Z τ' -> Ψ b τ' -> Q b H') (f : Fr B Z τ F H τ1 F1 H1) : ∀ b F' H' τ', Fr B Z τ1 F1 H1 τ' F' H' -> Rp B F' H' Z τ' -> Ψ b τ' -> Q b H' :=
 λ b F' H' τ' f' r h => c b F' H' τ' (f.trans f') r h
theorem LT (h : TV B c τ λ k τ1 => if k = true then Ψ true τ1 else TV B d τ1 Ψ) : TV B (LN c d) τ Ψ := λ Z F H Q r k => by
 refine h Z F H _ r λ b F1 H1 τ1 f1 r1 h1 => ?_
 cases b with
 | true => rw [h9 rfl] at h1 ⊢; exact k _ F1 H1 τ1 f1 r1 h1
 | false => rw [gV ff] at h1 ⊢; exact h1 Z F1 H1 Q r1 (TV.on k f1)
theorem Hc (h : EV B ta τ λ x τ1 => ∃ b, x = .fz (.bl b) /\ if b = true then EV B tb τ1 Φ else Φ (.fz (.bl false)) τ1) : EV B (zV ta tb) τ Φ := λ Z F H Q r c => by
 refine h Z F H _ r λ v F1 H1 k τ1 f1 r1 ok1 _ ⟨b, e, h1⟩ => ?_
 subst e
 cases ok1
 refine ⟨b, rfl, ?_⟩
 cases b with
 | true => rw [h9 rfl] at h1 ⊢; exact h1 Z F1 H1 Q r1 (c.on f1)
 | false => rw [gV ff] at h1 ⊢; exact (c.on f1).pl r1 .bl h1
theorem Hq (h : EV B ta τ λ x τ1 => ∃ b, x = .fz (.bl b) /\ Φ (.fz (.bl (!b))) τ1) : EV B (BH ta) τ Φ := λ Z F H Q r c => by
 refine h Z F H _ r λ v F1 H1 k τ1 f1 r1 ok1 _ ⟨b, e, h1⟩ => ?_
 subst e
 cases ok1
 exact ⟨b, rfl, (c.on f1).pl r1 .bl h1⟩
theorem Mj (h : TV B c τ λ k τ1 => if k = true then EV B ta τ1 Φ else EV B tb τ1 Φ) : EV B (LV c ta tb) τ Φ := λ Z F H Q r k => by
 refine h Z F H _ r λ b F1 H1 τ1 f1 r1 h1 => ?_
 cases b with
 | true => rw [h9 rfl] at h1 ⊢; exact h1 Z F1 H1 Q r1 (k.on f1)
 | false => rw [gV ff] at h1 ⊢; exact h1 Z F1 H1 Q r1 (k.on f1)
theorem Jj {S : List Tr -> TSt -> Prop} (q : S [] τ) : DA B tNil τ S := λ Z F H Q r c => c [] F H [] τ Fr.refl r .nil q
theorem FX {S : List Tr -> TSt -> Prop} {ns : List Int} (q : S (ns.map Tr.int) τ) : DA B (EL ns) τ S := λ Z F H Q r c => c _ F H _ τ Fr.refl r (.ofInts ns) q
theorem FU {tr : TA} {S : List Tr -> TSt -> Prop} (h : EV B te τ λ x τ1 => oW x τ1 λ t τ2 => DA B tr τ2 λ ts τ3 => S (t :: ts) τ3) : DA B (bq te tr) τ S := λ Z F H Q r c => by
 refine h Z F H _ r λ v F1 H1 k τ1 f1 r1 ok1 n1 h1 => ?_
 obtain ⟨F2, t, τ2, f2, r2, i2, h2, _⟩ := dA f1 r1 ok1 n1 h1
 exact h2 Z F2 H1 _ r2 λ vs F3 H3 ts τ3 f3 r3 l3 h3 => c _ F3 H3 _ τ3 (f2.trans f3) r3 (.cons (i2.same f3.f) l3) h3
theorem IZ {tA : TA} (h : DA B tA τ λ ts τ1 => ts.length <= 1000 /\ Φ (.fz (.tup ts)) τ1) : EV B (xq tA) τ Φ := λ Z F H Q r c => by
 refine h Z F H _ r λ vs F1 H1 ts τ1 f1 r1 l1 ⟨hl, h1⟩ => ⟨by rw [l1.length]; exact lS hl (by decide), λ p hp => ?_⟩
 have u := r1.tup (vs := vs) hp
 exact c _ _ _ (.fz (.tup ts)) τ1 (f1.trans (Fr.up u)) (r1.go u) (Is.tup (bI.of ar) (l1.same u.f)) trivial h1
theorem GR {p : Addr} (r : Rp B F H Z τ) (l : IsL B.K F vs ts) (hp : H p = none) : uy B F (upd H p (.lst vs)) Z τ (.ref p) (.nw (.lst ts)) := by
 refine ⟨p, rfl, .lst ar l, r.inc.free hp, r.up.w p hp, λ i u h e => ?_⟩
 rcases h with h | h
 ·obtain ⟨l', e', g, _⟩ := r.ow i u h
  obtain ⟨o, ho, _⟩ := g.mb
  have := ax e' e
  cases this
  rw [hp] at ho; cases ho
 ·obtain ⟨l', e', g, _⟩ := r.vw i u h
  obtain ⟨o, ho, _⟩ := g.mb
  have := ax e' e
  cases this
  rw [hp] at ho; cases ho
theorem CT.nl {Q : VK} {p : Addr} (c : CT B Z τ F H Φ Q) (r : Rp B F H Z τ) (l : IsL B.K F vs ts) (hp : H p = none) (φ : Φ (.nw (.lst ts)) τ) : Q (.ref p) (upd H p (.lst vs)) :=
 c _ F _ (.nw (.lst ts)) τ (Fr.up (r.new hp)) (r.go (r.new hp)) (GR r l hp) (λ l e => by cases e; exact hp) φ
theorem Kt {tA : TA} (h : DA B tA τ λ ts τ1 => ts.length <= 1000 /\ Φ (.nw (.lst ts)) τ1) : EV B (DQ tA) τ Φ := λ Z F H Q r c => by
 refine h Z F H _ r λ vs F1 H1 ts τ1 f1 r1 l1 ⟨hl, h1⟩ => ⟨by rw [l1.length]; exact lS hl (by decide), λ p hp => ?_⟩
 exact (c.on f1).nl r1 l1 hp h1
theorem IP {r : List V -> Hp -> VK -> Prop} (h : EV B te τ λ x τ1 => qN x τ1 λ x τ1 => RU B (λ v H Q => r [v] H Q) x τ1 Φ) : EV B (GM r (bq te tNil)) τ Φ := λ Z F H Q rp c => by
 refine h Z F H _ rp λ v F1 H1 k τ1 f1 r1 ok1 n1 h1 => ?_
 obtain ⟨F2, k', f2, r2, ok2, h2, _⟩ := cL f1 r1 ok1 n1 h1
 exact h2 Z F2 H1 v Q r2 ok2 (c.on f2)
theorem Il {r : List V -> Hp -> VK -> Prop} (h : EV B ta τ λ x τ1 => qN x τ1 λ x τ1 => EV B tb τ1 λ y τ2 => qN y τ2 λ y τ2 => RO B (λ v w H Q => r [v, w] H Q) x y τ2 Φ) : EV B (GM r (bq ta (bq tb tNil))) τ Φ := λ Z F H Q rp c => by
 refine h Z F H _ rp λ v F1 H1 k τ1 f1 r1 ok1 n1 h1 => ?_
 obtain ⟨F2, k', f2, r2, ok2, h2, _⟩ := cL f1 r1 ok1 n1 h1
 refine h2 Z F2 H1 _ r2 λ w F3 H3 k3 τ3 f3 r3 ok3 n3 h3 => ?_
 obtain ⟨F4, k4, f4, r4, ok4, h4, _⟩ := cL f3 r3 ok3 n3 h3
 exact h4 Z F4 H3 v w Q r4 (ok2.same f4.f) ok4 (c.on (f2.trans f4))
noncomputable def OV (B : Bk) (to : TO) (τ : TSt) (Φ : Option Int -> TSt -> Prop) : Prop := ∀ Z F H (Q : Option Int -> Hp -> Prop), Rp B F H Z τ -> (∀ b F' H' τ', Fr B Z τ F H τ' F' H' -> Rp B F' H' Z τ' -> Φ b τ' -> Q b H') -> to Z H Q
theorem Fc {S : Option Int -> TSt -> Prop} (h : EV B te τ λ x τ1 => ∃ i, x = .fz (.int i) /\ S (some i) τ1) : OV B (Ak te) τ S := λ Z F H Q r c => by
 refine h Z F H _ r λ v F1 H1 k τ1 f1 r1 ok1 _ ⟨b, e, h1⟩ => ?_
 subst e
 cases ok1
 exact ⟨b, rfl, c _ F1 H1 τ1 f1 r1 h1⟩
theorem Ho {S : Int -> Prop} (q : S i) : ∃ b', Kd.fz (.int i) = .fz (.int b') /\ S b' := ⟨i, rfl, q⟩
noncomputable def RSl (B : Bk) (r : V -> Option Int -> Option Int -> Hp -> VK -> Prop) (x : Kd) (lo hi : Option Int) (τ : TSt) (Φ : TK) : Prop := RU B (λ v H Q => r v lo hi H Q) x τ Φ
theorem LJ {r : V -> Option Int -> Option Int -> Hp -> VK -> Prop} {tl th : TO} (h : EV B te τ λ x τ1 => qN x τ1 λ x τ1 => OV B tl τ1 λ lo τ2 => OV B th τ2 λ hi τ3 => RSl B r x lo hi τ3 Φ) : EV B (Lm r te tl th) τ Φ := λ Z F H Q rp c => by
 refine h Z F H _ rp λ v F1 H1 k τ1 f1 r1 ok1 n1 h1 => ?_
 obtain ⟨F2, k', f2, r2, ok2, h2, _⟩ := cL f1 r1 ok1 n1 h1
 refine h2 Z F2 H1 _ r2 λ lo F3 H3 τ3 f3 r3 h3 => ?_
 refine h3 Z F3 H3 _ r3 λ hi F4 H4 τ4 f4 r4 h4 => ?_
 exact h4 Z F4 H4 v Q r4 ((ok2.same f3.f).same f4.f) (c.on (f2.trans (f3.trans f4)))
noncomputable def mO (xs : List Tr) (lo hi : Option Int) : List Tr := (xs.drop (HT.sIx xs.length 0 lo)).take (HT.sIx xs.length xs.length hi - HT.sIx xs.length 0 lo)
theorem Ci {lo hi : Option Int} (h : IsL K F vs ts) : IsL K F (xO vs lo hi) (mO ts lo hi) := by
 unfold xO mO
 rw [h.length]
 exact (h.drop _).take _
theorem LU {lo hi : Option Int} (hK : K = B.K) (rk : Rk τ x (.lst ts)) (q : Φ (.nw (.lst (mO ts lo hi))) τ) : RSl B (JC K) x lo hi τ Φ := λ _ _ _ _ _ r a c => by
 subst hK
 obtain ⟨p, vs, rfl, s, l⟩ := rk.list r a
 exact ⟨p, vs, rfl, s, λ p' hp => c.nl r (Ci l) hp q⟩
end
section
variable {B : Bk} {F H : Hp} {Z : St} {τ τ' : TSt}
theorem Rp.setO {i : Nat} {t t' : Tr} {l : Addr} {o' : HO} (r : Rp B F H Z τ) (h : bV τ i (.own t)) (e : db Z i (.ref l)) (g : Ow B.K F (upd H l o') l t') : Rp B F (upd H l o') Z (τ.set i (.own t')) /\ Fr B Z τ F H (τ.set i (.own t')) F (upd H l o') := by
  obtain ⟨l', e', g0, n, n0⟩ := r.ow i t h
  cases ax e e'
  have keep : ∀ q, q ≠ l -> ∀ o, H q = some o -> (upd H l o') q = some o := λ q hq o z => by rw [ag hq]; exact z
  have kx : ∀ q φ, H q = some (.ext φ) -> (upd H l o') q = some (.ext φ) := λ q φ z => keep q (λ e => by
    obtain ⟨o, ho, mb⟩ := g0.mb
    rw [e, ho] at z; cases z; exact mb) _ z
  refine ⟨{
    wa := r.wa
    wf := r.wf
    wj := B.jl _ _ (λ q hw => by
      have : q ≠ l := λ e => r.wa q hw (by rw [e]; exact n0)
      rw [ag this]) kx r.wj
    wd := λ j z => by
      rcases bB z with ⟨_, z, _⟩ | ⟨_, z⟩
      · cases z
      · exact r.wd j z
    up := { f := r.up.f, h := λ q o nw z => by
              have : q ≠ l := λ e => by rw [e, n0] at z; cases z
              exact keep q this o (r.up.h q o nw z)
            w := λ q z => r.up.w q (eP z)
            x := r.up.x
            j := λ z => B.jl _ _ (λ q hw => by
              have : q ≠ l := λ e => r.wa q hw (by rw [e]; exact n0)
              rw [ag this]) kx r.wj
            i := λ q o z => by
              have : q ≠ l := λ e => by rw [e, n] at z; cases z
              exact keep q this o (r.up.i q o z)
            m := r.up.m }
    len := by rw [List.length_set]; exact r.len
    fz := λ j u z => by
      rcases bB z with ⟨_, z, _⟩ | ⟨_, z⟩
      · cases z
      · exact r.fz j u z
    ow := λ j u z => by
      rcases bB z with ⟨rfl, z, _⟩ | ⟨nj, z⟩
      · cases z; exact ⟨l, e, g, n, n0⟩
      · obtain ⟨l2, a, b, c⟩ := r.ow j u z
        have : l2 ≠ l := λ q => r.ap i j t u l h z (λ q => nj q.symm) e (by rw [<- q]; exact a)
        exact ⟨l2, a, b.to (am.refl _) (keep l2 this), c⟩
    vw := λ j u z => by
      rcases bB z with ⟨_, z, _⟩ | ⟨nj, z⟩
      · cases z
      · obtain ⟨l2, a, b, c⟩ := r.vw j u z
        have : l2 ≠ l := λ q => r.av i j t u l h z e (by rw [<- q]; exact a)
        exact ⟨l2, a, b.to (am.refl _) (keep l2 this), c⟩
    ap := λ a b u w l2 ha hb ne hi hj => by
      obtain ⟨u', ha'⟩ : ∃ u, bV τ a (.own u) := by
        rcases bB ha with ⟨rfl, _, _⟩ | ⟨_, z⟩
        · exact ⟨_, h⟩
        · exact ⟨_, z⟩
      obtain ⟨w', hb'⟩ : ∃ u, bV τ b (.own u) := by
        rcases bB hb with ⟨rfl, _, _⟩ | ⟨_, z⟩
        · exact ⟨_, h⟩
        · exact ⟨_, z⟩
      exact r.ap a b u' w' l2 ha' hb' ne hi hj
    av := λ a b u w l2 ha hb hi hj => by
      obtain ⟨u', ha'⟩ : ∃ u, bV τ a (.own u) := by
        rcases bB ha with ⟨rfl, _, _⟩ | ⟨_, z⟩
        · exact ⟨_, h⟩
        · exact ⟨_, z⟩
      rcases bB hb with ⟨_, z, _⟩ | ⟨_, z⟩
      · cases z
      · exact r.av a b u' w l2 ha' z hi hj }, ?_⟩
  refine ⟨am.refl _, λ p o hp _ no => ?_, λ j u z => ?_, λ p hp => ?_⟩
  · have : p ≠ l := λ q => no i t h (by rw [q]; exact e)
    exact ⟨keep p this o hp, λ _ z => z⟩
  · rcases bB z with ⟨rfl, _, _⟩ | ⟨_, z⟩
    · exact ⟨_, h⟩
    · exact ⟨_, z⟩
  · by_cases q : p = l
    · rw [q, ar] at hp; cases hp
    · rw [ag q] at hp; exact hp
end
section
variable {B : Bk} {τ τ' τ2 : TSt} {Φ : TK} {te ta tb : TE} {i k : Nat} {t u : Tr} {x : Kd} {ts us : List Tr}
noncomputable def tyT (T : String) : Tr -> Prop
 | .str _ => T = "str"
 | .lst _ => T = "list"
 | .dct _ => T = "dict"
 | _ => False
noncomputable def HY (T : String) (x : Kd) (τ : TSt) : Prop := ∃ t, Rk τ x t /\ tyT T t
variable {F : Hp} {H : Hp} {Z : St}
theorem HY.v {T : String} {v : V} (h : HY T x τ) (r : Rp B F H Z τ) (ok : fW B.K F Z v x) : Ia B.K T v H := by
 obtain ⟨t, rk, ht⟩ := h
 cases t with
 | lst ts =>
  obtain ⟨p, vs, rfl, s, _⟩ := rk.list r ok
  exact .inl ⟨ht, vs, s⟩
 | dct ts =>
  obtain ⟨p, vs, rfl, s, _⟩ := rk.dict r ok
  exact .inr (.inr (.inl ⟨ht, .inl ⟨vs, s⟩⟩))
 | str z =>
  have : v = .str z := by
   cases rk with
   | fz => cases ok; rfl
   | own g => obtain ⟨l, e, hw, _⟩ := r.ow _ _ g.eq; cases hw
   | vw g => obtain ⟨l, e, hw, _⟩ := r.vw _ _ g.eq; cases hw
   | sfz g =>
    obtain ⟨w, e, hi⟩ := r.fz _ _ g.eq
    cases ax e ok
    cases hi; rfl
  subst this
  exact ht
 | _ => exact ht.elim
noncomputable def RM (B : Bk) (rr : V -> List V -> Hp -> VK -> Prop) (x : Kd) (ts : List Tr) (τ : TSt) (Φ : TK) : Prop := ∀ Z F H v vs Q, Rp B F H Z τ -> fW B.K F Z v x -> IsL B.K F vs ts -> CT B Z τ F H Φ Q -> rr v vs H Q
variable {K : Fg}
theorem Lr (hK : K = B.K) {T : String} {rr : V -> List V -> Hp -> VK -> Prop} {tA : TA} (h : EV B te τ λ x τ1 => qN x τ1 λ x τ1 => HY T x τ1 /\ DA B tA τ1 λ ts τ2 => RM B rr x ts τ2 Φ) : EV B (Kx K T rr te tA) τ Φ := λ Z F H Q rp c => by
 subst hK
 refine h Z F H _ rp λ v F1 H1 k τ1 f1 r1 ok1 n1 h1 => ?_
 obtain ⟨F2, k', f2, r2, ok2, ⟨ty, h2⟩, _⟩ := cL f1 r1 ok1 n1 h1
 refine ⟨ty.v r2 ok2, h2 Z F2 H1 _ r2 λ vs F3 H3 ts τ3 f3 r3 l3 h3 => ?_⟩
 exact h3 Z F3 H3 v vs Q r3 (ok2.same f3.f) l3 (c.on (f2.trans f3))
theorem JM (hK : K = B.K) {T : String} {rr : V -> List V -> Hp -> VK -> Prop} (h : EV B te τ λ x τ1 => qN x τ1 λ x τ1 => HY T x τ1 /\ RM B rr x [] τ1 Φ) : EV B (FY K T rr te) τ Φ := λ Z F H Q rp c => by
 subst hK
 refine h Z F H _ rp λ v F1 H1 k τ1 f1 r1 ok1 n1 h1 => ?_
 obtain ⟨F2, k', f2, r2, ok2, ⟨ty, h2⟩, _⟩ := cL f1 r1 ok1 n1 h1
 exact ⟨ty.v r2 ok2, h2 Z F2 H1 v [] Q r2 ok2 .nil (c.on f2)⟩
theorem Ck {S : Prop} (rk : Rk τ x (.lst ts)) (q : S) : HY "list" x τ /\ S := ⟨⟨_, rk, rfl⟩, q⟩
theorem vy {rr : V -> List V -> Hp -> VK -> Prop} {ts us : List Tr} {as : List Tr} {res : Tr} (g : Gt τ k (.own (.lst ts))) (st : iA τ k (.own (.lst us)) τ')
  (h : ∀ (K : Fg) (F H : Hp) (l : Addr) (vs ws : List V) (Q : VK), H l = some (.lst vs) -> IsL K F vs ts -> IsL K F ws as -> (∀ v vs', IsL K F vs' us -> Is K F v res -> Q v (upd H l (.lst vs'))) -> rr (.ref l) ws H Q) (q : Φ (.fz res) τ') : RM B rr (.sl k) as τ Φ := λ Z F H v ws Q r a l c => by
 obtain ⟨l0, e, hw, n, n0⟩ := r.ow _ _ g.eq
 cases ax e a
 cases hw with
 | lst h1 h2 =>
  refine h B.K F H l0 _ ws Q h1 h2 l λ v vs' l' hv => ?_
  obtain ⟨r2, f2⟩ := r.setO g.eq e (.lst ar l')
  rw [st.eq] at r2 f2
  exact c _ F _ (.fz res) τ' f2 r2 hv trivial q
theorem xX (g : Gt τ k (.own (.lst ts))) (hl : ts.length <= 10000) (st : iA τ k (.own (.lst (ts ++ [t]))) τ') (q : Φ (.fz .non) τ') : RM B rAppend (.sl k) [t] τ Φ :=
 vy g st (λ K F H l vs ws Q h1 h2 h3 c => by
  cases h3 with
  | cons a b =>
   cases b
   exact ⟨l, vs, _, rfl, rfl, h1, by rw [h2.length]; exact Nat.lt_of_le_of_lt hl (by decide), c _ _ (h2.snoc a) .non⟩) q
theorem Az (g : Gt τ k (.own (.lst ts))) (st : iA τ k (.own (.lst [])) τ') (q : Φ (.fz .non) τ') : RM B rClear (.sl k) [] τ Φ :=
 vy g st (λ K F H l vs ws Q h1 h2 h3 c => by
  cases h3
  exact ⟨l, vs, rfl, rfl, h1, c _ _ .nil .non⟩) q
theorem vt (g : Gt τ k (.own (.lst ts))) (st : iA τ k (.own (.lst ts.reverse)) τ') (q : Φ (.fz .non) τ') : RM B rReverse (.sl k) [] τ Φ :=
 vy g st (λ K F H l vs ws Q h1 h2 h3 c => by
  cases h3
  exact ⟨l, vs, rfl, rfl, h1, c _ _ h2.rev .non⟩) q
inductive Ar where
 | fz (t : Tr) | wd
noncomputable def uD (B : Bk) (F : Hp) (v : V) : Ar -> Prop
 | .fz t => Is B.K F v t
 | .wd => v = .ref B.rt
inductive iC (B : Bk) (F : Hp) : List V -> List Ar -> Prop
 | nil : iC B F [] []
 | cons {v : V} {a : Ar} {vs : List V} {as : List Ar} : uD B F v a -> iC B F vs as -> iC B F (v :: vs) (a :: as)
theorem iC.length {B : Bk} : ∀ {vs : List V} {as : List Ar}, iC B F vs as -> vs.length = as.length
 | _, _, .nil => rfl
 | _, _, .cons _ g => congrArg (· + 1) (iC.length g)
variable {F' : Hp}
theorem uD.same {B : Bk} {v : V} {a : Ar} (s : am F F') (h : uD B F v a) : uD B F' v a := by
 cases a with
 | fz t => exact Is.same s h
 | wd => exact h
theorem iC.get {B : Bk} {F : Hp} : ∀ {vs : List V} {as : List Ar} {i : Nat} {a : Ar}, iC B F vs as -> as[i]? = some a -> ∃ v, vs[i]? = some v /\ uD B F v a
 | _, _, _, _, .nil, e => by simp at e
 | _, _, 0, _, .cons h _, e => by simp at e; subst e; exact ⟨_, rfl, h⟩
 | _, _, i + 1, t, .cons _ g, e => by
  obtain ⟨u, h1, h2⟩ := iC.get (i := i) (a := t) g (by simpa using e)
  exact ⟨u, by simpa using h1, h2⟩
theorem iC.app {B : Bk} : ∀ {vs ws : List V} {as bs : List Ar}, iC B F vs as -> iC B F ws bs -> iC B F (vs ++ ws) (as ++ bs)
 | _, _, _, _, .nil, s => s
 | _, _, _, _, .cons h g, s => .cons h (iC.app g s)
noncomputable def Cu (B : Bk) (ta : TA) (τ : TSt) (Φ : List Ar -> TSt -> Prop) : Prop := ∀ Z F H (Q : List V -> Hp -> Prop), Rp B F H Z τ -> (∀ vs F' H' as τ', Fr B Z τ F H τ' F' H' -> Rp B F' H' Z τ' -> iC B F' vs as -> Φ as τ' -> Q vs H') -> ta Z H Q
noncomputable def FL (k : Kd) (τ : TSt) (S : Ar -> TSt -> Prop) : Prop := match k with
 | .wd => S .wd τ
 | .fz t => S (.fz t) τ
 | .nw t => S (.fz t) τ
 | .sl i => (∃ t, bV τ i (.own t) /\ S (.fz t) (τ.set i (.fz t))) ∨ ∃ t, bV τ i (.fz t) /\ S (.fz t) τ
variable {S : Ar -> TSt -> Prop}
theorem Ih (h : S (.fz t) τ) : FL (.fz t) τ S := h
theorem IE (h : S (.fz t) τ) : FL (.nw t) τ S := h
theorem Fn (g : Gt τ k (.own t)) (s : iA τ k (.fz t) τ') (h : S (.fz t) τ') : FL (.sl k) τ S := AN (S := λ t τ' => S (.fz t) τ') g s h
theorem Ij {S : List Ar -> TSt -> Prop} (q : S [] τ) : Cu B tNil τ S := λ Z F H Q r c => c [] F H [] τ Fr.refl r .nil q
theorem GW {tr : TA} {S : List Ar -> TSt -> Prop} (h : EV B te τ λ x τ1 => FL x τ1 λ a τ2 => Cu B tr τ2 λ as τ3 => S (a :: as) τ3) : Cu B (bq te tr) τ S := λ Z F H Q r c => by
 refine h Z F H _ r λ v F1 H1 k τ1 f1 r1 ok1 n1 h1 => ?_
 have go : oW k τ1 (λ t τ2 => Cu B tr τ2 λ as τ3 => S (.fz t :: as) τ3) -> tr Z H1 λ vs H2 => Q (v :: vs) H2 := λ h => by
  obtain ⟨F2, t, τ2, f2, r2, i2, h2, _⟩ := dA f1 r1 ok1 n1 h
  exact h2 Z F2 H1 _ r2 λ vs F3 H3 ts τ3 f3 r3 l3 h3 => c _ F3 H3 _ τ3 (f2.trans f3) r3 (.cons (uD.same (a := .fz t) f3.f i2) l3) h3
 cases k with
 | wd => exact h1 Z F1 H1 _ r1 λ vs F3 H3 ts τ3 f3 r3 l3 h3 => c _ F3 H3 _ τ3 (f1.trans f3) r3 (.cons (a := .wd) ok1 l3) h3
 | fz t => exact go h1
 | nw t => exact go h1
 | sl i => exact go h1
noncomputable def sk (B : Bk) (F H : Hp) (v : V) : Kd -> Prop
 | .fz t => Is B.K F v t
 | .nw t => ∃ l, v = .ref l /\ Ow B.K F H l t /\ F l = none /\ B.H0 l = none
 | .sl _ => False
 | .wd => False
noncomputable abbrev SpT := Bk -> List Ar -> (Kd -> Prop) -> (Addr -> Prop) -> Prop
structure vd (B : Bk) : Prop where
 i : am B.F0 B.H0
 wa : ∀ p, B.W p -> B.H0 p ≠ none
 wf : ∀ p, B.W p -> B.F0 p = none
 wj : B.J B.H0
noncomputable def bC (K : Fg) (S : SpT) : Sp := λ vs H Q E => ∃ B as Φ Ψ, B.K = K /\ B.H0 = H /\ vd B /\ iC B B.F0 vs as /\ S B as Φ Ψ /\ (∀ v F' H' k, Up B B.F0 H F' H' -> sk B F' H' v k -> Φ k -> Q v H') /\ ∀ C F' H', Up B B.F0 H F' H' -> Ψ C -> E (.ref C) none H'
theorem aJ {S : SpT} {n : Nat} (hn : ∀ B as Φ Ψ, S B as Φ Ψ -> as.length = n) : ∀ vs H Q E, bC K S vs H Q E -> vs.length = n := λ vs H Q E h => by
 obtain ⟨B, as, Φ, Ψ, _, _, _, l, s, _⟩ := h
 rw [l.length]; exact hn B as Φ Ψ s
theorem Ax {H' : Hp} {v : V} {kd : Kd} {B' : Bk} (r : Rp B F H Z τ) (hK : B'.K = B.K) (hH : B'.H0 = H) (h : sk B' F' H' v kd) : uy B F' H' Z τ v kd /\ Cd H v kd := by
 cases kd with
 | fz t => exact ⟨by
   have h2 : Is B'.K F' v t := h
   rw [hK] at h2; exact h2, trivial⟩
 | sl i => exact h.elim
 | wd => exact h.elim
 | nw t =>
  obtain ⟨l, rfl, g, n, n0⟩ := h
  rw [hH] at n0
  rw [hK] at g
  refine ⟨⟨l, rfl, g, n, r.up.w l n0, λ i w h e => ?_⟩, λ l' e => by cases e; exact n0⟩
  rcases h with h | h
  ·obtain ⟨l', e', g, _⟩ := r.ow i w h
   obtain ⟨o, ho, _⟩ := g.mb
   cases ax e' e
   rw [n0] at ho; cases ho
  ·obtain ⟨l', e', g, _⟩ := r.vw i w h
   obtain ⟨o, ho, _⟩ := g.mb
   cases ax e' e
   rw [n0] at ho; cases ho
noncomputable abbrev Bk.now (B : Bk) (F H : Hp) : Bk := { B with F0 := F, H0 := H }
theorem Up.of_now {F1 H1 H' : Hp} (u : Up (B.now F1 H1) F H F' H') : Up B F H F' H' := ⟨u.f, u.h, u.i, u.m, u.w, u.x, u.j⟩
theorem Rp.bkok (r : Rp B F H Z τ) : vd (B.now F H) := ⟨r.inc, λ p hw z => r.wa p hw (r.up.w p z), r.wf, r.wj⟩
theorem iC.now {F1 H1 : Hp} : ∀ {vs : List V} {as : List Ar}, iC B F vs as -> iC (B.now F1 H1) F vs as
 | _, _, .nil => .nil
 | _, _, .cons (a := .fz _) h g => .cons (a := .fz _) h (iC.now g)
 | _, _, .cons (a := .wd) h g => .cons (a := .wd) h (iC.now g)
theorem De (hK : K = B.K) {S : SpT} {E : XK} {tA : TA} {Ψ : Addr -> Prop} (hE : ∀ C F H, Up B B.F0 B.H0 F H -> Ψ C -> E (.ref C) none H) (h : Cu B tA τ λ as τ1 => ∀ F H, S (B.now F H) as (λ k => Φ k τ1) Ψ) : EV B (dm (bC K S) [] E tA) τ Φ := λ Z F H Q rp c => by
 subst hK
 unfold dm
 simp only [o7]
 refine h Z F H _ rp λ vs F1 H1 as τ1 f1 r1 l1 h1 => ?_
 refine ⟨B.now F1 H1, as, _, _, rfl, rfl, r1.bkok, ?_, h1 F1 H1, λ v F2 H2 kd u ok φ => ?_, λ C F2 H2 u ψ => hE C F2 H2 (r1.up.trans u.of_now) ψ⟩
 ·exact l1.now
 obtain ⟨a, b⟩ := Ax r1 (B' := B.now F1 H1) rfl rfl ok
 exact c.on f1 v F2 H2 kd τ1 (Fr.up u.of_now) (r1.go u.of_now) (by
  cases kd with
  | nw t => exact ⟨a.choose, a.choose_spec.1, a.choose_spec.2.1, a.choose_spec.2.2⟩
  | _ => exact a) b φ
theorem FD (hK : K = B.K) {S : SpT} {E : XK} {tA : TA} (h : Cu B tA τ λ as τ1 => ∀ F H, S (B.now F H) as (λ k => Φ k τ1) λ _ => False) : EV B (dm (bC K S) [] E tA) τ Φ := De hK (λ _ _ _ _ z => z.elim) h
end
structure ET where
 nx : TSt -> Prop
 rt : Kd -> Prop
 bk : TSt -> Prop
 ct : TSt -> Prop
structure EO (B : Bk) (F : Hp) (D : cQ) (D' : ET) : Prop where
 nx : ∀ Z F' H τ, am F F' -> Rp B F' H Z τ -> D'.nx τ -> D.nx Z H
 rt : ∀ v F' H k, Up B B.F0 B.H0 F' H -> sk B F' H v k -> D'.rt k -> D.rt v H
 bk : ∀ Z F' H τ, am F F' -> Rp B F' H Z τ -> D'.bk τ -> D.bk Z H
 ct : ∀ Z F' H τ, am F F' -> Rp B F' H Z τ -> D'.ct τ -> D.ct Z H
noncomputable def SV (B : Bk) (t : TS) (τ : TSt) (D' : ET) : Prop := ∀ Z F H D, Rp B F H Z τ -> EO B F D D' -> t D Z H
section
variable {B : Bk} {τ τ' τ2 : TSt} {te ta tb : TE} {i k : Nat} {t u : Tr} {x : Kd} {ts us : List Tr} {s1 s2 : TS} {nx bk ct : TSt -> Prop} {rt : Kd -> Prop} {c : TT}
theorem EO.on {F F1 : Hp} {D : cQ} {D' : ET} (e : EO B F D D') (s : am F F1) : EO B F1 D D' := ⟨λ Z F' H τ z => e.nx Z F' H τ (s.trans z), e.rt, λ Z F' H τ z => e.bk Z F' H τ (s.trans z), λ Z F' H τ z => e.ct Z F' H τ (s.trans z)⟩
theorem IC (h : SV B s1 τ ⟨λ τ1 => SV B s2 τ1 ⟨nx, rt, bk, ct⟩, rt, bk, ct⟩) : SV B (kI s1 s2) τ ⟨nx, rt, bk, ct⟩ := λ Z F H D r e => h Z F H _ r ⟨λ σ' F' H' τ' s r' h' => h' σ' F' H' D r' (e.on s), e.rt, e.bk, e.ct⟩
theorem FZ (h : nx τ) : SV B tNext τ ⟨nx, rt, bk, ct⟩ := λ Z F H D r e => e.nx Z F H τ (am.refl _) r h
theorem FR (h : EV B te τ λ _ τ1 => nx τ1) : SV B (nJ te) τ ⟨nx, rt, bk, ct⟩ := λ Z F H D r e => h Z F H _ r λ v F1 H1 k τ1 f r1 _ _ h1 => e.nx Z F1 H1 τ1 f.f r1 h1
noncomputable def Kw (k : Kd) (τ : TSt) (R : Kd -> Prop) : Prop := match k with
 | .fz t => R (.fz t)
 | .nw t => R (.nw t) ∨ R (.fz t)
 | .sl i => (∃ t, bV τ i (.own t) /\ (R (.nw t) ∨ R (.fz t))) ∨ ∃ t, bV τ i (.fz t) /\ R (.fz t)
 | .wd => False
theorem Jc (h : EV B te τ λ k τ1 => Kw k τ1 rt) : SV B (AE te) τ ⟨nx, rt, bk, ct⟩ := λ Z F H D r e => h Z F H _ r λ v F1 H1 k τ1 f r1 ok n h1 => by
 have fixed : ∀ l t, v = .ref l -> Ow B.K F1 H1 l t -> F1 l = none -> B.H0 l = none -> rt (.fz t) -> D.rt v H1 := λ l t ev g nn n0 h => by
  subst ev
  obtain ⟨o, ho, mb⟩ := g.mb
  refine e.rt _ (upd F1 l o) H1 (.fz t) ⟨r1.up.f.trans (am.new nn o), r1.up.h, λ q z hz => ?_, λ q z hz mz nz => ?_, r1.up.w, λ q hw nz => ?_, r1.up.j⟩ (g.is (am.new nn o) (by rw [ar, ho])) h
  ·by_cases hq : q = l
   ·rw [hq, ar] at hz; cases hz; rw [hq]; exact ho
   ·rw [ag hq] at hz; exact r1.up.i q z hz
  ·have : q ≠ l := λ e' => by rw [e', n0] at hz; cases hz
   rw [ag this]; exact r1.up.m q z hz mz nz
  ·have : q ≠ l := λ e' => r1.wa q hw (by rw [e']; exact n0)
   rw [ag this]; exact r1.up.x q hw nz
 cases k with
 | fz t => exact e.rt v F1 H1 (.fz t) r1.up ok h1
 | nw t =>
  obtain ⟨l, ev, g, nn, n0, _⟩ := ok
  rcases h1 with h1 | h1
  ·exact e.rt v F1 H1 (.nw t) r1.up ⟨l, ev, g, nn, n0⟩ h1
  ·exact fixed l t ev g nn n0 h1
 | sl i =>
  rcases h1 with ⟨t, ht, h1⟩ | ⟨t, ht, h1⟩
  ·obtain ⟨l, es, g, nn, n0⟩ := r1.ow i t ht
   have ev : v = .ref l := ax ok es
   rcases h1 with h1 | h1
   ·exact e.rt v F1 H1 (.nw t) r1.up ⟨l, ev, g, nn, n0⟩ h1
   ·exact fixed l t ev g nn n0 h1
  ·obtain ⟨w, es, g⟩ := r1.fz i t ht
   cases ax es ok
   exact e.rt v F1 H1 (.fz t) r1.up g h1
 | wd => exact h1.elim
variable {R : Kd -> Prop}
theorem IY (h : R (.fz t)) : Kw (.fz t) τ R := h
theorem Jd (h : R (.nw t)) : Kw (.nw t) τ R := .inl h
theorem yO (g : Gt τ k (.own t)) (h : R (.nw t)) : Kw (.sl k) τ R := .inl ⟨t, g.eq, .inl h⟩
theorem IL (h : TV B c τ λ b τ1 => if b = true then SV B s1 τ1 ⟨nx, rt, bk, ct⟩ else SV B s2 τ1 ⟨nx, rt, bk, ct⟩) : SV B (Am c s1 s2) τ ⟨nx, rt, bk, ct⟩ := λ Z F H D r e => h Z F H _ r λ b F1 H1 τ1 f r1 h1 => by
 cases b with
 | true => rw [h9 rfl] at h1 ⊢; exact h1 Z F1 H1 D r1 (e.on f.f)
 | false => rw [gV ff] at h1 ⊢; exact h1 Z F1 H1 D r1 (e.on f.f)
theorem JX (J : TSt -> Prop) (h : SV B s1 τ ⟨J, rt, bk, ct⟩) (q : ∀ τ', J τ' -> nx τ') : SV B s1 τ ⟨nx, rt, bk, ct⟩ := λ Z F H D r e => h Z F H D r ⟨λ Z F' H τ s r h => e.nx Z F' H τ s r (q τ h), e.rt, e.bk, e.ct⟩
noncomputable def GA (B : Bk) (g : TG) (k : Kd) (τ : TSt) (N : TSt -> Prop) : Prop := ∀ Z F H v (S : St -> Hp -> Prop), Rp B F H Z τ -> uy B F H Z τ v k -> (∀ σ' F' H' τ', am F F' -> Rp B F' H' σ' τ' -> N τ' -> S σ' H') -> g v Z H S
variable {g : TG}
theorem Et (h : EV B te τ λ k τ1 => GA B g k τ1 nx) : SV B (ro te g) τ ⟨nx, rt, bk, ct⟩ := λ Z F H D r e => h Z F H _ r λ v F1 H1 k τ1 f r1 ok _ h1 => h1 Z F1 H1 v _ r1 ok λ σ' F' H' τ' s r' n => e.nx σ' F' H' τ' (f.f.trans s) r' n
variable {N : TSt -> Prop}
theorem LK (s : iA τ k (.fz t) τ') (h : N τ') : GA B (bu k) (.fz t) τ N := λ Z F H v S r ok q => q _ F H τ' (am.refl _) (by have := r.setF (i := k) ok; rw [s.eq] at this; exact this) h
theorem Jf (s : iA τ k (.own t) τ') (h : N τ') : GA B (bu k) (.nw t) τ N := λ Z F H v S r ok q => q _ F H τ' (am.refl _) (by have := r.setN (i := k) ok; rw [s.eq] at this; exact this) h
noncomputable def KB (B : Bk) (g : TGs) (ts : List Tr) (τ : TSt) (N : TSt -> Prop) : Prop := ∀ Z F H vs (S : St -> Hp -> Prop), Rp B F H Z τ -> IsL B.K F vs ts -> (∀ σ' F' H' τ', am F F' -> Rp B F' H' σ' τ' -> N τ' -> S σ' H') -> g vs Z H S
variable {K : Fg}
theorem Kb (hK : K = B.K) {N : TSt -> Prop} {n : Nat} {g : TGs} (hl : ts.length = n) (h : KB B g ts τ N) : GA B (qk K n g) (.fz (.tup ts)) τ N := λ Z F H v S r ok q => by
 subst hK
 cases (show Is B.K F v (.tup ts) from ok) with
 | tup a b => exact ⟨_, _, rfl, r.inc.tup a, by rw [b.length]; exact hl, h Z F H _ S r b q⟩
theorem Gu (h : N τ) : KB B gNil [] τ N := λ Z F H vs S r l q => by
 cases l
 exact ⟨rfl, q Z F H τ (am.refl _) r h⟩
theorem Cw {gr : TGs} (h : GA B g (.fz t) τ λ τ1 => KB B gr ts τ1 N) : KB B (dB g gr) (t :: ts) τ N := λ Z F H vs S r l q => by
 cases l with
 | cons a b => exact ⟨_, _, rfl, h Z F H _ _ r a λ σ1 F1 H1 τ1 s1 r1 h1 => h1 σ1 F1 H1 _ S r1 (b.same s1) λ σ' F' H' τ' s' r' n => q σ' F' H' τ' (s1.trans s') r' n⟩
theorem zY {D' : ET} (g : Gt τ k (.own t)) (s : iA τ k (.fz t) τ') (h : SV B s1 τ' D') : SV B s1 τ D' := λ Z F H D r e => by
 obtain ⟨F2, l, _, sF, r2, _, _⟩ := r.fixS g.eq
 rw [s.eq] at r2
 exact h Z F2 H D r2 (e.on sF)
noncomputable def Iv (B : Bk) (F : Hp) (J : It) (ts : List Tr) : Prop := ∀ Z τ F' H', am F F' -> Rp B F' H' Z τ -> (∀ i t, ts[i]? = some t -> J.go i H' /\ ∀ x H2, J.yld i H' x H2 -> ∃ F2, Up B F' H' F2 H2 /\ Is B.K F2 x t) /\ J.stop ts.length H'
noncomputable def IV (B : Bk) (wi : TI) (τ : TSt) (Φ : List Tr -> TSt -> Prop) : Prop := ∀ Z F H (R : It -> Hp -> Prop), Rp B F H Z τ -> (∀ J F' H' ts τ', Fr B Z τ F H τ' F' H' -> Rp B F' H' Z τ' -> Iv B F' J ts -> Φ ts τ' -> R J H') -> wi Z H R
theorem fX (hK : K = B.K) {Φ : List Tr -> TSt -> Prop} (h : EV B te τ λ x τ1 => oW x τ1 λ t τ2 => ∃ ts, t = .lst ts /\ Φ ts τ2) : IV B (wD K te) τ Φ := λ Z F H R r c => by
 subst hK
 refine h Z F H _ r λ v F1 H1 k τ1 f1 r1 ok1 n1 h1 => ?_
 obtain ⟨F2, t, τ2, f2, r2, i2, ⟨ts, e, h2⟩, _⟩ := dA f1 r1 ok1 n1 h1
 subst e
 cases i2 with
 | lst a b =>
  refine ⟨_, rfl, ⟨_, r2.inc.seq a⟩, c _ F2 H1 ts τ2 f2 r2 (λ σ' τ' F' H' sF rH => ⟨λ i t e => ?_, ⟨_, rH.inc.seq (sF.seq a), by rw [b.length]; exact eT _⟩⟩) h2⟩
  obtain ⟨w, ew, hw⟩ := b.get e
  refine ⟨⟨_, w, rH.inc.seq (sF.seq a), ew⟩, λ x H2 y => ?_⟩
  obtain ⟨rfl, y2⟩ := y
  have := y2 _ (rH.inc.seq (sF.seq a))
  rw [ew] at this
  cases this
  exact ⟨F', Up.refl rH.inc, hw.same sF⟩
theorem Kc (hK : K = B.K) {Φ : List Tr -> TSt -> Prop} (h : EV B te τ λ x τ1 => oW x τ1 λ t τ2 => ∃ ts, t = .tup ts /\ Φ ts τ2) : IV B (FJ K te) τ Φ := λ Z F H R r c => by
 subst hK
 refine h Z F H _ r λ v F1 H1 k τ1 f1 r1 ok1 n1 h1 => ?_
 obtain ⟨F2, t, τ2, f2, r2, i2, ⟨ts, e, h2⟩, _⟩ := dA f1 r1 ok1 n1 h1
 subst e
 cases i2 with
 | tup a b =>
  refine ⟨_, rfl, ⟨_, r2.inc.tup a⟩, c _ F2 H1 ts τ2 f2 r2 (λ σ' τ' F' H' sF rH => ⟨λ i t e => ?_, ⟨_, rH.inc.tup (sF.tup a), by rw [b.length]; exact eT _⟩⟩) h2⟩
  obtain ⟨w, ew, hw⟩ := b.get e
  refine ⟨⟨_, w, rH.inc.tup (sF.tup a), ew⟩, λ x H2 y => ?_⟩
  obtain ⟨rfl, y2⟩ := y
  have := y2 _ (rH.inc.tup (sF.tup a))
  rw [ew] at this
  cases this
  exact ⟨F', Up.refl rH.inc, hw.same sF⟩
theorem JU {S : List Tr -> Prop} (q : S ts) : ∃ ts', Tr.lst ts = .lst ts' /\ S ts' := ⟨ts, rfl, q⟩
theorem Ji {S : List Tr -> Prop} (q : S ts) : ∃ ts', Tr.tup ts = .tup ts' /\ S ts' := ⟨ts, rfl, q⟩
noncomputable def ip (lo : Int) (n : Nat) : List Tr := (List.range n).map λ i => .int (lo + (i : Nat))
variable {lo : Int} {n : Nat}
theorem jW {i : Nat} {t : Tr} (h : (ip lo n)[i]? = some t) : i < n /\ t = .int (lo + (i : Nat)) := by
 unfold ip at h
 rw [kT] at h
 by_cases hi : i < n
 ·rw [List.getElem?_range hi] at h; cases h; exact ⟨hi, rfl⟩
 ·rw [List.getElem?_eq_none (by rw [List.length_range]; omega)] at h; cases h
theorem hW : (ip lo n).length = n := by unfold ip; rw [b9, List.length_range]
theorem zk {F : Hp} : Iv B F (BM lo n) (ip lo n) := λ σ' τ' F' H' sF rH => ⟨λ i t e => by
  obtain ⟨hi, rfl⟩ := jW e
  exact ⟨hi, λ x H2 y => by obtain ⟨rfl, rfl⟩ := y; exact ⟨F', Up.refl rH.inc, .int⟩⟩, by rw [hW]; exact eT _⟩
theorem FM {Φ : List Tr -> TSt -> Prop} (h : EV B te τ λ x τ1 => ∃ j, x = .fz (.int j) /\ (-(2 ^ 62) <= j /\ j < 2 ^ 62) /\ Φ (ip 0 j.toNat) τ1) : IV B (zo (bq te tNil)) τ Φ := λ Z F H R r c => by
 refine h Z F H _ r λ v F1 H1 k τ1 f1 r1 ok1 n1 ⟨j, e, hb, h1⟩ => ?_
 subst e
 cases ok1
 exact ⟨j, rfl, hb.1, hb.2, c _ F1 H1 _ τ1 f1 r1 zk h1⟩
theorem JP {wi : TI} {tbd : TS} (h : IV B wi τ λ ts τ1 => ∃ I : Nat -> TSt -> Prop, I 0 τ1 /\ (∀ i t τ2, ts[i]? = some t -> I i τ2 -> GA B g (.fz t) τ2 λ τ3 => SV B tbd τ3 ⟨I (i + 1), rt, nx, I (i + 1)⟩) /\ ∀ τ2, I ts.length τ2 -> nx τ2) : SV B (Dr wi g tbd) τ ⟨nx, rt, bk, ct⟩ := λ Z F H D r e => by
 refine h Z F H _ r λ J F1 H1 ts τ1 f1 r1 itk ⟨I, i0, step, fin⟩ => ?_
 refine ⟨λ i m Z H => ∃ F2 τ2, am F1 F2 /\ Rp B F2 H Z τ2 /\ I i τ2 /\ i <= ts.length /\ m = ts.length - i, ⟨_, F1, τ1, am.refl _, r1, i0, nW _, rfl⟩, ?_⟩
 rintro i m Z H ⟨F2, τ2, s2, r2, i2, hi, rfl⟩
 obtain ⟨itg, its⟩ := itk Z τ2 F2 H s2 r2
 by_cases hlt : i < ts.length
 ·obtain ⟨g1, g2⟩ := itg i ts[i] (dI hlt)
  refine .inr ⟨g1, λ σ' H' => ∃ F2 τ2, am F1 F2 /\ Rp B F2 H' σ' τ2 /\ I (i + 1) τ2, λ σ' H' ⟨F2, τ2, a, b, c⟩ => ⟨_, by omega, F2, τ2, a, b, c, hlt, rfl⟩, λ x H3 y => ?_⟩
  obtain ⟨F3, u3, hx⟩ := g2 x H3 y
  refine step i ts[i] τ2 (dI hlt) i2 Z F3 H3 x _ (r2.go u3) hx λ σ4 F4 H4 τ4 s4 r4 h4 => ?_
  have s14 := s2.trans (u3.f.trans s4)
  exact h4 σ4 F4 H4 _ r4 ⟨λ σ5 F5 H5 τ5 s5 r5 h5 => ⟨F5, τ5, s14.trans s5, r5, h5⟩, e.rt, λ σ5 F5 H5 τ5 s5 r5 h5 => e.nx σ5 F5 H5 τ5 (f1.f.trans (s14.trans s5)) r5 h5, λ σ5 F5 H5 τ5 s5 r5 h5 => ⟨F5, τ5, s14.trans s5, r5, h5⟩⟩
 ·have ei : i = ts.length := by omega
  subst ei
  exact .inl ⟨its, e.nx Z F2 H τ2 (f1.f.trans s2) r2 (fin τ2 i2)⟩
end
noncomputable def JG : Ar -> Sl
 | .fz t => .fz t
 | .wd => .wd
noncomputable def cJ (n : Nat) (as : List Ar) : TSt := as.map JG ++ List.replicate (n - as.length) Sl.no
theorem cz {n : Nat} {as : List Ar} {i : Nat} {s : Sl} (h : bV (cJ n as) i s) : (∃ a, s = JG a /\ as[i]? = some a) ∨ s = .no := by
 unfold bV cJ at h
 by_cases hi : i < as.length
 ·rw [List.getElem?_append_left (by rw [b9]; exact hi), kT, dI hi] at h
  cases h
  exact .inl ⟨_, rfl, dI hi⟩
 ·rw [rd (by rw [b9]; omega), List.getElem?_replicate] at h
  split at h
  ·cases h; exact .inr rfl
  ·cases h
theorem iU {B : Bk} {N : List Str} {vs : List V} {as : List Ar} (k : vd B) (l : iC B B.F0 vs as) : Rp B B.F0 B.H0 (bN N vs) (cJ N.length as) := by
 have got : ∀ i a, as[i]? = some a -> ∃ v, db (bN N vs) i v /\ uD B B.F0 v a := λ i a h => by
  obtain ⟨v, hv, hi⟩ := l.get h
  refine ⟨v, ?_, hi⟩
  have hj := (iL.mp hv).1
  unfold db bN
  rw [List.getElem?_append_left (by rw [b9]; exact hj), kT, hv]
  rfl
 exact {
 up := Up.refl k.i
 wa := k.wa
 wf := k.wf
 wj := k.wj
 wd := λ j h => by
  rcases cz h with ⟨a, e, hu⟩ | e
  ·cases a with
   | fz t => cases e
   | wd =>
    obtain ⟨v, e, hv⟩ := got j _ hu
    cases (show v = .ref B.rt from hv)
    exact e
  ·cases e
 len := by unfold bN cJ; rw [fI, fI, b9, b9, q9, q9, l.length]
 fz := λ j t h => by
  rcases cz h with ⟨a, e, hu⟩ | e
  ·cases a with
   | wd => cases e
   | fz u =>
    cases e
    obtain ⟨v, e, hv⟩ := got j _ hu
    exact ⟨v, e, hv⟩
  ·cases e
 ow := λ j t h => by
  rcases cz h with ⟨a, e, hu⟩ | e
  ·cases a <;> cases e
  ·cases e
 vw := λ j t h => by
  rcases cz h with ⟨a, e, hu⟩ | e
  ·cases a <;> cases e
  ·cases e
 ap := λ _ b t u l h => by
  rcases cz h with ⟨a, e, hu⟩ | e
  ·cases a <;> cases e
  ·cases e
 av := λ _ b t u l h => by
  rcases cz h with ⟨a, e, hu⟩ | e
  ·cases a <;> cases e
  ·cases e }
theorem aF {K : Fg} {S : SpT} {vs : List V} {H : Hp} {Q : VK} {E : XK} (h : bC K S vs H Q E) : ∃ B as Φ Ψ, B.K = K /\ S B as Φ Ψ /\ (∀ C F' H', Up B B.F0 B.H0 F' H' -> Ψ C -> E (.ref C) none H') /\ ∀ (N : List Str) (t : TS), SV B t (cJ N.length as) ⟨λ _ => Φ (.fz .non), Φ, λ _ => False, λ _ => False⟩ -> t { nx := λ _ H' => Q .non H', rt := Q } (bN N vs) H := by
 obtain ⟨B, as, Φ, Ψ, hK, rfl, k, l, s, q, x⟩ := h
 refine ⟨B, as, Φ, Ψ, hK, s, x, λ N t sv => sv _ _ _ _ (iU k l) ⟨?_, ?_, ?_, ?_⟩⟩
 ·intro Z F' H' τ _ r h
  exact q .non F' H' (.fz .non) r.up .non h
 ·intro v F' H' k u ok h
  exact q v F' H' k u ok h
 ·exact λ _ _ _ _ _ _ z => z
 ·exact λ _ _ _ _ _ _ z => z
theorem cX {B : Bk} {t : TS} {τ : TSt} {n : Nat} {ts : List Ar} {D : ET} (h : cJ n ts = τ) (q : SV B t τ D) : SV B t (cJ n ts) D := by rw [h]; exact q
inductive mS (τ : TSt) : List (Str × Nat) -> TSt -> Prop
 | nil : mS τ [] []
 | fz {x : Str} {k : Nat} {t : Tr} {r : List (Str × Nat)} {r' : TSt} : Gt τ k (.fz t) -> mS τ r r' -> mS τ ((x, k) :: r) (.fz t :: r')
 | own {x : Str} {k : Nat} {t : Tr} {r : List (Str × Nat)} {r' : TSt} : Gt τ k (.own t) -> mS τ r r' -> mS τ ((x, k) :: r) (.vw t :: r')
 | vw {x : Str} {k : Nat} {t : Tr} {r : List (Str × Nat)} {r' : TSt} : Gt τ k (.vw t) -> mS τ r r' -> mS τ ((x, k) :: r) (.vw t :: r')
 | wd {x : Str} {k : Nat} {r : List (Str × Nat)} {r' : TSt} : Gt τ k .wd -> mS τ r r' -> mS τ ((x, k) :: r) (.wd :: r')
 | no {x : Str} {k : Nat} {r : List (Str × Nat)} {r' : TSt} : mS τ r r' -> mS τ ((x, k) :: r) (.no :: r')
theorem mS.at {τ : TSt} {fr : List (Str × Nat)} {τi : TSt} (h : mS τ fr τi) : τi.length = fr.length /\ ∀ i s, bV τi i s -> ∃ x k, fr[i]? = some (x, k) /\ ((s = .no ∨ (s = .wd /\ bV τ k .wd)) ∨ (∃ t, s = .fz t /\ bV τ k (.fz t)) ∨ ∃ t, s = .vw t /\ (bV τ k (.own t) ∨ bV τ k (.vw t))) := by
 induction h with
 | nil => exact ⟨rfl, λ i s h => by unfold bV at h; simp at h⟩
 | fz g _ ih =>
  refine ⟨by rw [lH, lH, ih.1], λ i s h => ?_⟩
  cases i with
  | zero => simp [bV] at h; subst h; exact ⟨_, _, rfl, .inr (.inl ⟨_, rfl, g.eq⟩)⟩
  | succ i => exact ih.2 i s (by simpa [bV] using h)
 | own g _ ih =>
  refine ⟨by rw [lH, lH, ih.1], λ i s h => ?_⟩
  cases i with
  | zero => simp [bV] at h; subst h; exact ⟨_, _, rfl, .inr (.inr ⟨_, rfl, .inl g.eq⟩)⟩
  | succ i => exact ih.2 i s (by simpa [bV] using h)
 | vw g _ ih =>
  refine ⟨by rw [lH, lH, ih.1], λ i s h => ?_⟩
  cases i with
  | zero => simp [bV] at h; subst h; exact ⟨_, _, rfl, .inr (.inr ⟨_, rfl, .inr g.eq⟩)⟩
  | succ i => exact ih.2 i s (by simpa [bV] using h)
 | no _ ih =>
  refine ⟨by rw [lH, lH, ih.1], λ i s h => ?_⟩
  cases i with
  | zero => simp [bV] at h; subst h; exact ⟨_, _, rfl, .inl (.inl rfl)⟩
  | succ i => exact ih.2 i s (by simpa [bV] using h)
 | wd g _ ih =>
  refine ⟨by rw [lH, lH, ih.1], λ i s h => ?_⟩
  cases i with
  | zero => simp [bV] at h; subst h; exact ⟨_, _, rfl, .inl (.inr ⟨rfl, g.eq⟩)⟩
  | succ i => exact ih.2 i s (by simpa [bV] using h)
section
variable {B : Bk} {F H : Hp} {Z : St} {τ τi : TSt} {fr : List (Str × Nat)}
theorem kX {i k : Nat} {x : Str} {v : V} (h : fr[i]? = some (x, k)) (g : db Z k v) : db (dy Z fr) i v := by
 unfold db dy at *
 rw [kT, h]
 show some ((Z[k]?).join) = _
 rw [g]; rfl
theorem mS.rp (h : mS τ fr τi) (r : Rp B F H Z τ) : Rp B F H (dy Z fr) τi where
 up := r.up
 wa := r.wa
 wf := r.wf
 wj := r.wj
 wd := λ i z => by
  obtain ⟨x, k, hk, (e | ⟨e, g⟩) | ⟨u, e, g⟩ | ⟨u, e, g⟩⟩ := h.at.2 i _ z
  ·cases e
  ·exact kX hk (r.wd _ g)
  ·cases e
  ·cases e
 len := by unfold dy; rw [b9, h.at.1]
 fz := λ i t z => by
  obtain ⟨x, k, hk, (e | ⟨e, g⟩) | ⟨u, e, g⟩ | ⟨u, e, g⟩⟩ := h.at.2 i _ z
  ·cases e
  ·cases e
  ·cases e
   obtain ⟨v, a, b⟩ := r.fz _ _ g
   exact ⟨v, kX hk a, b⟩
  ·cases e
 ow := λ i t z => by
  obtain ⟨x, k, hk, (e | ⟨e, g⟩) | ⟨u, e, g⟩ | ⟨u, e, g⟩⟩ := h.at.2 i _ z <;> cases e
 vw := λ i t z => by
  obtain ⟨x, k, hk, (e | ⟨e, g⟩) | ⟨u, e, g⟩ | ⟨u, e, g⟩⟩ := h.at.2 i _ z
  ·cases e
  ·cases e
  ·cases e
  ·cases e
   rcases g with g | g
   ·obtain ⟨l, a, b, c, n0⟩ := r.ow _ _ g
    exact ⟨l, kX hk a, b, c, λ hw => r.wa l hw n0⟩
   ·obtain ⟨l, a, b, c⟩ := r.vw _ _ g
    exact ⟨l, kX hk a, b, c⟩
 ap := λ a b t u l z => by
  obtain ⟨x, k, hk, (e | ⟨e, g⟩) | ⟨u, e, g⟩ | ⟨u, e, g⟩⟩ := h.at.2 a _ z <;> cases e
 av := λ a b t u l z => by
  obtain ⟨x, k, hk, (e | ⟨e, g⟩) | ⟨u, e, g⟩ | ⟨u, e, g⟩⟩ := h.at.2 a _ z <;> cases e
theorem mS.noown (h : mS τ fr τi) {i : Nat} {t : Tr} (z : bV τi i (.own t)) : False := by
 obtain ⟨x, k, hk, (e | ⟨e, g⟩) | ⟨u, e, g⟩ | ⟨u, e, g⟩⟩ := h.at.2 i _ z <;> cases e
theorem Rp.consO {o : Option V} (r : Rp B F H Z τ) : Rp B F H (o :: Z) (.no :: τ) where
 up := r.up
 wa := r.wa
 wf := r.wf
 wj := r.wj
 wd := λ i z => by
  cases i with
  | zero => cases z
  | succ i => exact r.wd i z
 len := by rw [lH, lH, r.len]
 fz := λ i t z => by
  cases i with
  | zero => cases z
  | succ i => obtain ⟨v, a, b⟩ := r.fz i t z; exact ⟨v, a, b⟩
 ow := λ i t z => by
  cases i with
  | zero => cases z
  | succ i => exact r.ow i t z
 vw := λ i t z => by
  cases i with
  | zero => cases z
  | succ i => exact r.vw i t z
 ap := λ a b t u l ha hb ne hi hj => by
  cases a with
  | zero => cases ha
  | succ a =>
   cases b with
   | zero => cases hb
   | succ b => exact r.ap a b t u l ha hb (λ z => ne (by rw [z])) hi hj
 av := λ a b t u l ha hb hi hj => by
  cases a with
  | zero => cases ha
  | succ a =>
   cases b with
   | zero => cases hb
   | succ b => exact r.av a b t u l ha hb hi hj
theorem Rp.consF {v : V} {t : Tr} (r : Rp B F H Z τ) (h : Is B.K F v t) : Rp B F H (some v :: Z) (.fz t :: τ) := (r.consO (o := none)).setF (i := 0) h
theorem Rp.back {σi : St} {τ2 τ3 : TSt} {F' H' : Hp} (r : Rp B F H Z τ) (f : Fr B σi τ2 F H τ3 F' H') (no : ∀ i t, ¬ bV τ2 i (.own t)) (ri : Rp B F' H' σi τ3) : Rp B F' H' Z τ /\ Up B F H F' H' := by
 have up : Up B F H F' H' := ⟨f.f, λ p o nw hp => (f.k p o hp nw λ i t z => (no i t z).elim).1, ri.up.i, λ p o hp mb n => by
  by_cases hw : B.W p
  ·exact ri.wf p hw
  ·exact (f.k p o hp hw λ i t z => (no i t z).elim).2 mb n, f.h, λ p hw _ => ri.wf p hw, λ _ => ri.wj⟩
 exact ⟨r.go up, up⟩
theorem Rp.acc {acc : Addr} {o : HO} {ys : List V} (rb : Rp B F H Z τ) (hy : H acc = some (.lst ys)) (h0 : B.H0 acc = none) (na : F acc = none) (dis : ∀ i u, bV τ i (.own u) ∨ bV τ i (.vw u) -> ¬ db Z i (.ref acc)) : Rp B F (upd H acc o) Z τ := {
      wa := rb.wa
      wf := rb.wf
      wj := B.jl _ _ (λ q hw => by
        have : q ≠ acc := λ e => rb.wa q hw (by rw [e]; exact h0)
        rw [ag this]) (λ q φ z => by rw [ag (gX z hy nofun)]; exact z) rb.wj
      wd := rb.wd
      up := { f := rb.up.f, h := λ q o nw z => by
                have : q ≠ acc := λ e => by rw [e, h0] at z; cases z
                rw [ag this]; exact rb.up.h q o nw z
              i := λ q o z => by
                have : q ≠ acc := λ e => by rw [e, na] at z; cases z
                rw [ag this]; exact rb.up.i q o z
              m := rb.up.m
              w := λ q z => rb.up.w q (eP z)
              x := rb.up.x
              j := λ z => B.jl _ _ (λ q hw => by
                have : q ≠ acc := λ e => rb.wa q hw (by rw [e]; exact h0)
                rw [ag this]) (λ q φ z => by rw [ag (gX z hy nofun)]; exact z) rb.wj }
      len := rb.len
      fz := rb.fz
      ow := λ j u z => by
        obtain ⟨l', a, b, c⟩ := rb.ow j u z
        have : l' ≠ acc := λ e => dis j u (.inl z) (by rw [<- e]; exact a)
        exact ⟨l', a, b.to (am.refl _) (λ o ho => by rw [ag this]; exact ho), c⟩
      vw := λ j u z => by
        obtain ⟨l', a, b, c⟩ := rb.vw j u z
        have : l' ≠ acc := λ e => dis j u (.inr z) (by rw [<- e]; exact a)
        exact ⟨l', a, b.to (am.refl _) (λ o ho => by rw [ag this]; exact ho), c⟩
      ap := rb.ap
      av := rb.av }
end
section
variable {B : Bk} {τ τi : TSt} {Φ : TK} {fr : List (Str × Nat)} {wi : TI} {te : TE}
theorem JB (h : IV B wi τ λ ts τ1 => ∃ τi, mS τ1 fr τi /\ ts.length <= 100000 /\ ∃ P : Nat -> Tr -> Prop, (∀ i t, ts[i]? = some t -> EV B te (.fz t :: τi) λ k τ2 => oW k τ2 λ o _ => P i o) /\ ∀ os : List Tr, os.length = ts.length -> (∀ i o, os[i]? = some o -> P i o) -> Φ (.nw (.lst os)) τ1) : EV B (Lu fr wi te) τ Φ := λ Z F H Q r c => by
 refine h Z F H _ r λ J F1 H1 ts τ1 f1 r1 itk ⟨τi, inr, hlen, P, step, fin⟩ => ?_
 intro acc hacc
 refine ⟨λ i m H2 => ∃ F2 vs os, Rp B F2 H2 Z τ1 /\ Fr B Z τ1 F1 H1 τ1 F2 H2 /\ H2 acc = some (.lst vs) /\ F2 acc = none /\ IsL B.K F2 vs os /\ os.length = i /\ (∀ j o, os[j]? = some o -> P j o) /\ i <= ts.length /\ m = ts.length - i, ⟨_, F1, [], [], r1.go (r1.new hacc), Fr.up (r1.new hacc), ar, r1.inc.free hacc, .nil, rfl, λ j o z => (by cases z), nW _, rfl⟩, ?_⟩
 rintro i m H2 ⟨F2, vs, os, r2, f2, ha, na, l2, hos, hP, hi, rfl⟩
 obtain ⟨itg, its⟩ := itk Z τ1 F2 H2 f2.f r2
 have dis : ∀ (i : Nat) (u : Tr), bV τ1 i (.own u) ∨ bV τ1 i (.vw u) -> ¬ db Z i (.ref acc) := λ i u hu hs => by
  rcases hu with hu | hu
  ·obtain ⟨l', e', g, _⟩ := r1.ow i u hu
   obtain ⟨o, ho, _⟩ := g.mb
   cases ax e' hs
   rw [hacc] at ho; cases ho
  ·obtain ⟨l', e', g, _⟩ := r1.vw i u hu
   obtain ⟨o, ho, _⟩ := g.mb
   cases ax e' hs
   rw [hacc] at ho; cases ho
 by_cases hlt : i < ts.length
 ·obtain ⟨g1, g2⟩ := itg i ts[i] (dI hlt)
  refine .inr ⟨g1, λ x H3 y => ?_⟩
  obtain ⟨F3, u3, hx⟩ := g2 x H3 y
  have r3 := r2.go u3
  have ri : Rp B F3 H3 (some x :: dy Z fr) (.fz ts[i] :: τi) := (inr.rp r3).consF hx
  refine step i ts[i] (dI hlt) _ F3 H3 _ ri λ v F4 H4 k τ4 f4 r4 ok4 n4 h4 => ?_
  obtain ⟨F5, o, τ5, f5, r5, i5, hp5, _⟩ := dA f4 r4 ok4 n4 h4
  have noo' : ∀ j t, ¬ bV (Sl.fz ts[i] :: τi) j (.own t) := λ j t z => by
   cases j with
   | zero => cases z
   | succ j => exact inr.noown z
  obtain ⟨rb, ub⟩ := r3.back f5 noo' r5
  have u25 := u3.trans ub
  have nwa : ¬ B.W acc := λ hw => r1.wa acc hw (r1.up.w acc hacc)
  have ha5 : H4 acc = some (.lst vs) := u25.h _ _ nwa ha
  have na5 : F5 acc = none := u25.m _ _ ha trivial na
  refine ⟨vs, ts.length - (i + 1), ha5, by rw [l2.length, hos]; exact j6 (j6 hlt hlen) (by decide), by omega, ?_⟩
  have r6 : Rp B F5 (upd H4 acc (.lst (vs ++ [v]))) Z τ1 := rb.acc ha5 (r1.up.w acc hacc) na5 dis
  have f6 : Fr B Z τ1 F1 H1 τ1 F5 (upd H4 acc (.lst (vs ++ [v]))) := by
   have f7 := f2.trans (Fr.up u25)
   refine ⟨f7.f, λ p o hp nw no => ?_, f7.o, λ p hp => ?_⟩
   ·have : p ≠ acc := λ e => by rw [e, hacc] at hp; cases hp
    rw [ag this]; exact f7.k p o hp nw no
   ·by_cases e : p = acc
    ·rw [e, ar] at hp; cases hp
    ·rw [ag e] at hp; exact f7.h p hp
  refine ⟨F5, vs ++ [v], os ++ [o], r6, f6, ar, na5, (l2.same u25.f).snoc i5, by rw [fI, hos]; rfl, λ j q hj => ?_, hlt, rfl⟩
  rcases Nat.lt_or_ge j os.length with hjl | hjl
  ·rw [List.getElem?_append_left hjl] at hj
   exact hP j q hj
  ·rw [rd hjl] at hj
   have hz := (iL.mp hj).1
   rw [List.length_singleton] at hz
   have ej : j = i := by omega
   rw [show j - os.length = 0 by omega] at hj
   cases hj
   rw [ej]; exact hp5
 ·have ei : i = ts.length := by omega
  subst ei
  exact .inl ⟨its, c _ F2 H2 (.nw (.lst os)) τ1 (f1.trans f2) r2 ⟨acc, rfl, .lst ha l2, na, r1.up.w acc hacc, dis⟩ (λ l e => by cases e; exact f1.h _ hacc) (fin os hos hP)⟩
end
section
variable {B : Bk} {F H : Hp} {Z : St} {τ τi : TSt} {fr : List (Str × Nat)}
theorem Rp.pre (r : Rp B F H Z τ) : ∀ (vs : List V) (ts : List Tr), IsL B.K F vs ts -> Rp B F H (vs.map some ++ Z) (ts.map Sl.fz ++ τ)
 | _, _, .nil => r
 | _, _, .cons h g => (Rp.pre r _ _ g).consF h
end
section
variable {B : Bk} {τ τi : TSt} {Φ : TK} {fr : List (Str × Nat)} {wi : TI} {te : TE} {tc : TT} {g : TG} {k : Nat}
theorem Ac (Cut : Tr -> List Tr -> Prop) (hk : ∀ t as, Cut t as -> as.length = k)
  (hg : ∀ t as, Cut t as -> ∀ (F H : Hp) (v : V) (σb : St) (S : St -> Hp -> Prop), am F H -> Is B.K F v t -> k <= σb.length -> (∀ ws, IsL B.K F ws as -> S (ws.map some ++ σb.drop k) H) -> g v σb H S)
  (h : IV B wi τ λ ts τ1 => ∃ τi, mS τ1 fr τi /\ ts.length <= 100000 /\ ∃ P : Nat -> Option Tr -> Prop, (∀ i t, ts[i]? = some t -> ∃ as, Cut t as /\ TV B tc (as.map Sl.fz ++ τi) λ b τ2 => if b = true then EV B te τ2 λ k τ3 => oW k τ3 λ o _ => P i (some o) else P i none) /\ ∀ os : List (Option Tr), os.length = ts.length -> (∀ i o, os[i]? = some o -> P i o) -> Φ (.nw (.lst (os.filterMap id))) τ1) : EV B (mh k fr wi g tc te) τ Φ := λ Z F H Q r c => by
 refine h Z F H _ r λ J F1 H1 ts τ1 f1 r1 itk ⟨τi, inr, hlen, P, step, fin⟩ => ?_
 intro acc hacc
 refine ⟨λ i m σb H2 => ∃ F2 vs os, Rp B F2 H2 Z τ1 /\ Fr B Z τ1 F1 H1 τ1 F2 H2 /\ H2 acc = some (.lst vs) /\ F2 acc = none /\ IsL B.K F2 vs (os.filterMap id) /\ os.length = i /\ (∀ j o, os[j]? = some o -> P j o) /\ i <= ts.length /\ m = ts.length - i /\ k <= σb.length /\ σb.drop k = dy Z fr, ⟨_, F1, [], [], r1.go (r1.new hacc), Fr.up (r1.new hacc), ar, r1.inc.free hacc, .nil, rfl, λ j o z => (by cases z), nW _, rfl, by rw [fI, q9]; omega, by rw [List.drop_append_of_le_length (by rw [q9]; exact eT _), List.drop_replicate, Nat.sub_self]; rfl⟩, ?_⟩
 rintro i m σb H2 ⟨F2, vs, os, r2, f2, ha, na, l2, hos, hP, hi, rfl, hkb, hdb⟩
 obtain ⟨itg, its⟩ := itk Z τ1 F2 H2 f2.f r2
 have nwa : ¬ B.W acc := λ hw => r1.wa acc hw (r1.up.w acc hacc)
 have dis : ∀ (i : Nat) (u : Tr), bV τ1 i (.own u) ∨ bV τ1 i (.vw u) -> ¬ db Z i (.ref acc) := λ i u hu hs => by
  rcases hu with hu | hu
  ·obtain ⟨l', e', g, _⟩ := r1.ow i u hu
   obtain ⟨o, ho, _⟩ := g.mb
   cases ax e' hs
   rw [hacc] at ho; cases ho
  ·obtain ⟨l', e', g, _⟩ := r1.vw i u hu
   obtain ⟨o, ho, _⟩ := g.mb
   cases ax e' hs
   rw [hacc] at ho; cases ho
 have more : ∀ {o : Option Tr}, P i o -> ∀ (j : Nat) (q : Option Tr), (os ++ [o])[j]? = some q -> P j q := λ {o} hp j q hj => by
  rcases Nat.lt_or_ge j os.length with hjl | hjl
  ·rw [List.getElem?_append_left hjl] at hj
   exact hP j q hj
  ·rw [rd hjl] at hj
   have hz := (iL.mp hj).1
   rw [List.length_singleton] at hz
   have ej : j = i := by omega
   rw [show j - os.length = 0 by omega] at hj
   cases hj
   rw [ej]; exact hp
 by_cases hlt : i < ts.length
 ·obtain ⟨g1, g2⟩ := itg i ts[i] (dI hlt)
  refine .inr ⟨g1, λ x H3 y => ?_⟩
  obtain ⟨F3, u3, hx⟩ := g2 x H3 y
  have r3 := r2.go u3
  obtain ⟨as, hcut, htv⟩ := step i ts[i] (dI hlt)
  refine hg ts[i] as hcut F3 H3 x σb _ r3.inc hx hkb λ ws lw => ?_
  rw [hdb]
  have ri : Rp B F3 H3 (ws.map some ++ dy Z fr) (as.map Sl.fz ++ τi) := Rp.pre (inr.rp r3) ws as lw
  have noo : ∀ j t, ¬ bV (as.map Sl.fz ++ τi) j (.own t) := λ j t z => by
   unfold bV at z
   rcases Nat.lt_or_ge j as.length with q | q
   ·rw [List.getElem?_append_left (by rw [b9]; exact q), kT, dI q] at z
    cases z
   ·rw [rd (by rw [b9]; exact q)] at z
    exact inr.noown z
  have hwl : (ws.map some).length = k := by rw [b9, lw.length, hk _ _ hcut]
  have hk2 : k <= (ws.map some ++ dy Z fr).length := by rw [fI, hwl]; omega
  have hd2 : (ws.map some ++ dy Z fr).drop k = dy Z fr := by rw [<- hwl, List.drop_left]
  refine htv _ F3 H3 _ ri λ b F4 H4 τ4 f4 r4 h4 => ?_
  cases b with
  | false =>
   rw [gV ff] at h4 ⊢
   obtain ⟨rb, ub⟩ := r3.back f4 noo r4
   have u25 := u3.trans ub
   exact ⟨ts.length - (i + 1), by omega, F4, vs, os ++ [none], rb, f2.trans (Fr.up u25), u25.h _ _ nwa ha, u25.m _ _ ha trivial na, by rw [List.filterMap_append]; simpa using l2.same u25.f, by rw [fI, hos]; rfl, more h4, hlt, rfl, hk2, hd2⟩
  | true =>
   rw [h9 rfl] at h4 ⊢
   refine h4 _ F4 H4 _ r4 λ v F5 H5 kd τ5 f5 r5 ok5 n5 h5 => ?_
   obtain ⟨F6, o, τ6, f6, r6, i6, hp6, _⟩ := dA f5 r5 ok5 n5 h5
   obtain ⟨rb, ub⟩ := r3.back (f4.trans f6) noo r6
   have u25 := u3.trans ub
   have ha5 : H5 acc = some (.lst vs) := u25.h _ _ nwa ha
   have na5 : F6 acc = none := u25.m _ _ ha trivial na
   have hvl : vs.length <= i := by rw [l2.length, <- hos]; exact List.length_filterMap_le _ _
   refine ⟨vs, ts.length - (i + 1), ha5, Nat.lt_of_le_of_lt hvl (j6 (j6 hlt hlen) (by decide)), by omega, ?_⟩
   have f6' : Fr B Z τ1 F1 H1 τ1 F6 (upd H5 acc (.lst (vs ++ [v]))) := by
    have f7 := f2.trans (Fr.up u25)
    refine ⟨f7.f, λ p o hp nw no => ?_, f7.o, λ p hp => ?_⟩
    ·have : p ≠ acc := λ e => by rw [e, hacc] at hp; cases hp
     rw [ag this]; exact f7.k p o hp nw no
    ·by_cases e : p = acc
     ·rw [e, ar] at hp; cases hp
     ·rw [ag e] at hp; exact f7.h p hp
   exact ⟨F6, vs ++ [v], os ++ [some o], rb.acc ha5 (r1.up.w acc hacc) na5 dis, f6', ar, na5, by rw [List.filterMap_append]; exact (l2.same u25.f).snoc i6, by rw [fI, hos]; rfl, more hp6, hlt, rfl, hk2, hd2⟩
 ·have ei : i = ts.length := by omega
  subst ei
  exact .inl ⟨its, c _ F2 H2 (.nw (.lst (os.filterMap id))) τ1 (f1.trans f2) r2 ⟨acc, rfl, .lst ha l2, na, r1.up.w acc hacc, dis⟩ (λ l e => by cases e; exact f1.h _ hacc) (fin os hos hP)⟩
theorem uS (h : IV B wi τ λ ts τ1 => ∃ τi, mS τ1 fr τi /\ ts.length <= 100000 /\ ∃ P : Nat -> Option Tr -> Prop, (∀ i t, ts[i]? = some t -> TV B tc (.fz t :: τi) λ b τ2 => if b = true then EV B te τ2 λ k τ3 => oW k τ3 λ o _ => P i (some o) else P i none) /\ ∀ os : List (Option Tr), os.length = ts.length -> (∀ i o, os[i]? = some o -> P i o) -> Φ (.nw (.lst (os.filterMap id))) τ1) : EV B (mh 1 fr wi (bu 0) tc te) τ Φ := by
 refine Ac (λ t as => as = [t]) (λ t as e => by rw [e]; rfl) (λ t as e F H v σb S i hi hk q => ?_) ?_
 ·subst e
  have := q [v] (.cons hi .nil)
  show S (σb.set 0 (some v)) H
  cases σb with
  | nil => exact absurd hk (by decide)
  | cons x r => exact this
 ·intro Z F H R r c
  refine h Z F H R r λ J F' H' ts τ' f r' it ⟨τi, a, b, P, st, fin⟩ => c J F' H' ts τ' f r' it ⟨τi, a, b, P, λ i t e => ⟨[t], rfl, st i t e⟩, fin⟩
theorem AM {K : Fg} (hK : K = B.K) (h : IV B wi τ λ ts τ1 => ∃ τi, mS τ1 fr τi /\ ts.length <= 100000 /\ ∃ P : Nat -> Option Tr -> Prop, (∀ i t, ts[i]? = some t -> ∃ a b, t = .tup [a, b] /\ TV B tc (.fz a :: .fz b :: τi) λ b τ2 => if b = true then EV B te τ2 λ k τ3 => oW k τ3 λ o _ => P i (some o) else P i none) /\ ∀ os : List (Option Tr), os.length = ts.length -> (∀ i o, os[i]? = some o -> P i o) -> Φ (.nw (.lst (os.filterMap id))) τ1) : EV B (mh 2 fr wi (qk K 2 (dB (bu 0) (dB (bu 1) gNil))) tc te) τ Φ := by
 subst hK
 refine Ac (λ t as => ∃ a b, t = .tup [a, b] /\ as = [a, b]) (λ t as e => by obtain ⟨a, b, _, rfl⟩ := e; rfl) (λ t as e F H v σb S i hi hk q => ?_) ?_
 ·obtain ⟨a, b, rfl, rfl⟩ := e
  cases hi with
  | tup s l =>
   cases l with
   | cons h1 l =>
    cases l with
    | cons h2 l =>
     cases l
     refine ⟨_, _, rfl, i.tup s, rfl, _, _, rfl, _, _, rfl, rfl, ?_⟩
     have := q _ (.cons h1 (.cons h2 .nil))
     match σb, hk with
     | x :: y :: r, _ => exact this
 ·intro Z F H R r c
  refine h Z F H R r λ J F' H' ts τ' f r' it ⟨τi, a, b, P, st, fin⟩ => c J F' H' ts τ' f r' it ⟨τi, a, b, P, λ i t e => ?_, fin⟩
  obtain ⟨a, b, e, tv⟩ := st i t e
  exact ⟨[a, b], ⟨a, b, e, rfl⟩, tv⟩
theorem Jk {Ψ : Bool -> TSt -> Prop} (h : Ψ true τ) : TV B tYes τ Ψ := λ Z F H Q r c => c true F H τ Fr.refl r h
theorem Di {iy : Nat} {nx bk ct : TSt -> Prop} {rt : Kd -> Prop} (h : EV B (Lu fr wi te) τ λ k τ1 => GA B (bu iy) k τ1 nx) : SV B (uZ iy fr wi te) τ ⟨nx, rt, bk, ct⟩ := λ Z F H D r e => h Z F H _ r λ v F1 H1 k τ1 f r1 ok _ h1 => h1 Z F1 H1 v _ r1 ok λ σ' F' H' τ' s r' n => e.nx σ' F' H' τ' (f.f.trans s) r' n
end
section
variable {B : Bk} {τ τ' : TSt} {Φ : TK} {x : Kd} {i j : Int} {ts : List Tr} {b : Bool} {t : Tr} {K : Fg}
theorem Gy (hK : K = B.K) (rk : Rk τ x (.lst ts)) (q : Φ (.fz (.int (ts.length : Nat))) τ) : RU B (λ v H Q => ∃ p ys, [v] = [V.ref p] /\ (br K H p ys ∨ bI K H p ys) /\ Q (.int (ys.length : Nat)) H) x τ Φ := λ Z F H v Q r a c => by
 subst hK
 obtain ⟨p, vs, rfl, s, l⟩ := rk.list r a
 refine ⟨p, vs, rfl, .inl s, ?_⟩
 rw [l.length]; exact c.pl r .int q
theorem DO (hK : K = B.K) (rk : Rk τ x (.tup ts)) (q : Φ (.fz (.int (ts.length : Nat))) τ) : RU B (λ v H Q => ∃ p ys, [v] = [V.ref p] /\ (br K H p ys ∨ bI K H p ys) /\ Q (.int (ys.length : Nat)) H) x τ Φ := λ Z F H v Q r a c => by
 subst hK
 obtain ⟨p, vs, rfl, s, l⟩ := rk.tuple r a
 refine ⟨p, vs, rfl, .inr s, ?_⟩
 rw [l.length]; exact c.pl r .int q
theorem GC (q : Φ (.fz (.int (if i < 0 then -i else i))) τ) : RU B (λ v H Q => ∃ i, [v] = [V.int i] /\ Q (.int (if i < 0 then -i else i)) H) (.fz (.int i)) τ Φ := λ Z F H v Q r a c => by
 cases bw a
 exact ⟨i, rfl, c.pl r .int q⟩
theorem GL (q : Φ (.fz (.int (if b = true then 1 else 0))) τ) : RU B (λ v H Q => (∃ i, [v] = [V.int i] /\ Q (.int i) H) ∨ ∃ k, [v] = [V.bl k] /\ Q (.int (if k = true then 1 else 0)) H) (.fz (.bl b)) τ Φ := λ Z F H v Q r a c => by
 cases jn a
 exact .inr ⟨b, rfl, c.pl r .int q⟩
theorem Af (hK : K = B.K) {bs : List Bool} (rk : Rk τ x (.lst (bs.map Tr.bl))) (q : Φ (.fz (.bl (bs.all λ b => b))) τ) : RU B (λ v H Q => HA K [v] H Q) x τ Φ := λ Z F H v Q r a c => by
 subst hK
 obtain ⟨p, vs, rfl, s, l⟩ := rk.list r a
 rw [l.bls] at s
 exact ⟨p, bs, rfl, s, c.pl r .bl q⟩
theorem BQ (hK : K = B.K) (rk : Rk τ x (.lst ts)) (q : Φ (.nw (.lst ts)) τ) : RU B (λ v H Q => ∃ p ys, [v] = [V.ref p] /\ (br K H p ys ∨ bI K H p ys) /\ ∀ l, H l = none -> Q (.ref l) (upd H l (.lst ys))) x τ Φ := λ Z F H v Q r a c => by
 subst hK
 obtain ⟨p, vs, rfl, s, l⟩ := rk.list r a
 exact ⟨p, vs, rfl, .inl s, λ l' hl => c.nl r l hl q⟩
noncomputable def BO : Tr -> Option Tg
 | .non => some .non
 | .bl _ => some .bl
 | .int _ => some .int
 | .str _ => some .str
 | .tup _ => some .tup
 | .lst _ => some .lst
 | .dct _ => some .dic
 | .ty _ => none
theorem Ew {F H : Hp} {v : V} {g : Tg} (i : am F H) (h : Is K F v t) (e : BO t = some g) : Cq K H v g := by
 cases h with
 | tup a b => cases e; exact ⟨_, i.tup a⟩
 | lst a b => cases e; exact ⟨_, i.seq a⟩
 | dct a b c => cases e; exact ⟨_, i _ _ a⟩
 | ty => cases e
 | _ => cases e; trivial
theorem mr (hK : K = B.K) {n : String} {f : Tg -> Bool} {g : Tg} (e : BO t = some g) (q : Φ (.fz (.bl (f g))) τ) : RO B (λ v w H Q => jC K n f [v, w] H Q) (.fz t) (.fz (.ty n)) τ Φ := λ Z F H v w Q r a b c => by
 subst hK
 cases (show Is B.K F w (.ty n) from b)
 exact ⟨v, g, rfl, Ew r.inc a e, c.pl r .bl q⟩
theorem Co (hK : K = B.K) {n : String} {f : Tg -> Bool} {g : Tg} (e : BO t = some g) (hb : f g = true) (q : Φ (.fz (.bl true)) τ) : RO B (λ v w H Q => jC K n f [v, w] H Q) (.fz t) (.fz (.ty n)) τ Φ := mr hK e (by rw [hb]; exact q)
theorem CB (hK : K = B.K) {n : String} {f : Tg -> Bool} {g : Tg} (e : BO t = some g) (hb : f g = false) (q : Φ (.fz (.bl false)) τ) : RO B (λ v w H Q => jC K n f [v, w] H Q) (.fz t) (.fz (.ty n)) τ Φ := mr hK e (by rw [hb]; exact q)
theorem CP (h : t.isN = true) (q : Φ (.fz (.bl true)) τ) : RO B rIsN (.fz t) (.fz .non) τ Φ := zc (by rw [h]; exact q)
theorem Cv (h : t.isN = false) (q : Φ (.fz (.bl false)) τ) : RO B rIsN (.fz t) (.fz .non) τ Φ := zc (by rw [h]; exact q)
theorem Bu (h : t.isN = true) (q : Φ (.fz (.bl false)) τ) : RO B rNotN (.fz t) (.fz .non) τ Φ := vQ (by rw [h]; exact q)
theorem Bw (h : t.isN = false) (q : Φ (.fz (.bl true)) τ) : RO B rNotN (.fz t) (.fz .non) τ Φ := vQ (by rw [h]; exact q)
end
theorem JW {α : Type} {l : List α} {n : Nat} {S : Prop} (h : l.length <= n) (q : S) : l.length <= n /\ S := ⟨h, q⟩
noncomputable def eO : List Tr -> List Tr -> List Tr
 | x :: r, y :: q => .tup [x, y] :: eO r q
 | _, _ => []
theorem gE : ∀ xs ys : List Tr, (eO xs ys).length = min xs.length ys.length
 | [], _ => by simp [eO]
 | _ :: _, [] => by simp [eO]
 | _ :: r, _ :: q => by
  simp only [eO, lH, gE r q]
  omega
theorem gg : ∀ (xs ys : List Tr) (i : Nat) (t : Tr), (eO xs ys)[i]? = some t -> ∃ x y, xs[i]? = some x /\ ys[i]? = some y /\ t = .tup [x, y]
 | [], _, _, _, h => by simp [eO] at h
 | _ :: _, [], _, _, h => by simp [eO] at h
 | x :: r, y :: q, 0, t, h => by simp [eO] at h; exact ⟨x, y, rfl, rfl, h.symm⟩
 | _ :: r, _ :: q, i + 1, t, h => by
  obtain ⟨x, y, h1, h2, h3⟩ := gg r q i t (by simpa [eO] using h)
  exact ⟨x, y, by simpa using h1, by simpa using h2, h3⟩
noncomputable def Fx : Tr -> Option (Bool × List Tr)
 | .lst ts => some (false, ts)
 | .tup ts => some (true, ts)
 | _ => none
section
variable {B : Bk} {τ : TSt} {ta tb : TE}
variable {K : Fg}
theorem qC {F H : Hp} {v : V} {t : Tr} {q : Bool} {ts : List Tr} (i : am F H) (h : Is K F v t) (e : Fx t = some (q, ts)) : ∃ a xs, v = .ref a /\ mC q K H a xs /\ IsL K F xs ts := by
 cases h with
 | lst a b => cases e; exact ⟨_, _, rfl, i.seq a, b⟩
 | tup a b => cases e; exact ⟨_, _, rfl, i.tup a, b⟩
 | _ => cases e
theorem mC.same {q : Bool} {H H' : Hp} {a : Addr} {xs : List V} (s : am H H') (h : mC q K H a xs) : mC q K H' a xs := by
 cases q with
 | true => exact s.tup h
 | false => exact s.seq h
theorem BB (hK : K = B.K) {Φ : List Tr -> TSt -> Prop} (h : EV B ta τ λ x τ1 => oW x τ1 λ t τ2 => EV B tb τ2 λ y τ3 => oW y τ3 λ u τ4 => ∃ q1 ts q2 us, Fx t = some (q1, ts) /\ Fx u = some (q2, us) /\ Φ (eO ts us) τ4) : IV B (JN K (bq ta (bq tb tNil))) τ Φ := λ Z F H R r c => by
 subst hK
 refine h Z F H _ r λ v F1 H1 k τ1 f1 r1 ok1 n1 h1 => ?_
 obtain ⟨F2, t, τ2, f2, r2, i2, h2, _⟩ := dA f1 r1 ok1 n1 h1
 refine h2 Z F2 H1 _ r2 λ w F3 H3 k3 τ3 f3 r3 ok3 n3 h3 => ?_
 obtain ⟨F4, u, τ4, f4, r4, i4, ⟨q1, ts, q2, us, e1, e2, h4⟩, _⟩ := dA f3 r3 ok3 n3 h3
 obtain ⟨a1, xs, rfl, s1, l1⟩ := qC r4.inc (i2.same f4.f) e1
 obtain ⟨a2, ys, rfl, s2, l2⟩ := qC r4.inc i4 e2
 obtain ⟨_, _, ea, s1', l1'⟩ := qC (am.refl F4) (i2.same f4.f) e1
 cases ea
 obtain ⟨_, _, eb, s2', l2'⟩ := qC (am.refl F4) i4 e2
 cases eb
 refine ⟨q1, q2, a1, a2, rfl, ⟨xs, s1⟩, ⟨ys, s2⟩, c _ F4 H3 _ τ4 (f2.trans f4) r4 (λ σ' τ' F' H' sF rH => ⟨λ i t e => ?_, ?_⟩) h4⟩
 ·obtain ⟨x0, y0, ex, ey, rfl⟩ := gg ts us i t e
  obtain ⟨w1, ew1, hw1⟩ := l1'.get ex
  obtain ⟨w2, ew2, hw2⟩ := l2'.get ey
  have t1 := mC.same rH.inc (mC.same sF s1')
  have t2 := mC.same rH.inc (mC.same sF s2')
  refine ⟨⟨_, _, w1, w2, t1, t2, ew1, ew2⟩, ?_⟩
  rintro x H2 ⟨p, y1, y2, rfl, hn, hy1, hy2, rfl⟩
  have g1 := hy1 _ t1
  have g2 := hy2 _ t2
  rw [ew1] at g1
  rw [ew2] at g2
  cases g1
  cases g2
  have u := rH.tup (vs := [w1, w2]) hn
  exact ⟨_, u, .tup (bI.of ar) (.cons ((hw1.same sF).same u.f) (.cons ((hw2.same sF).same u.f) .nil))⟩
 ·refine ⟨_, _, mC.same rH.inc (mC.same sF s1'), mC.same rH.inc (mC.same sF s2'), ?_⟩
  rw [l1'.length, l2'.length, gE]
  omega
end
section
variable {B : Bk} {τ τ' : TSt} {Φ : TK} {x y : Kd} {ts us : List Tr} {K : Fg}
theorem gO (hK : K = B.K) (r1 : Rk τ x (.lst ts)) (r2 : Rk τ y (.lst us)) (hl : ts.length + us.length <= 100000) (q : Φ (.nw (.lst (ts ++ us))) τ) : RO B (El K) x y τ Φ := λ _ _ _ _ _ _ r a b c => by
 subst hK
 obtain ⟨p, vs, rfl, s, l⟩ := r1.list r a
 obtain ⟨p2, ws, rfl, s2, l2⟩ := r2.list r b
 exact ⟨p, p2, vs, ws, rfl, rfl, s, s2, by rw [l.length, l2.length]; exact lS hl (by decide), λ p' hp => c.nl r (l.app l2) hp q⟩
end
inductive Dp : Nat -> Tr -> Prop
 | non {n : Nat} : Dp n .non
 | bl {n : Nat} {b : Bool} : Dp n (.bl b)
 | int {n : Nat} {i : Int} : Dp n (.int i)
 | str {n : Nat} {x : Str} : Dp n (.str x)
 | tup {n : Nat} {ts : List Tr} : (∀ t ∈ ts, Dp n t) -> Dp (n + 1) (.tup ts)
 | lst {n : Nat} {ts : List Tr} : (∀ t ∈ ts, Dp n t) -> Dp (n + 1) (.lst ts)
 | dct {n : Nat} : Dp n (.dct [])
variable {n : Nat}
theorem eJ : ∀ t ∈ ([] : List Tr), Dp n t := λ _ h => absurd h m8
theorem aD {t : Tr} {r : List Tr} (h : Dp n t) (g : ∀ t ∈ r, Dp n t) : ∀ u ∈ t :: r, Dp n u := kR.mpr ⟨h, g⟩
theorem qS {K : Fg} {F G H : Hp} {t : Tr} (d : Dp n t) : ∀ {v w : V}, am F H -> am G H -> Is K F v t -> Is K G w t -> eS K H n v w := by
 induction d with
 | non => intro v w i j a b; cases a; cases b; exact .non
 | bl => intro v w i j a b; cases a; cases b; exact .bl
 | int => intro v w i j a b; cases a; cases b; exact .int
 | str => intro v w i j a b; cases a; cases b; exact .str
 | dct =>
  intro v w i j a b
  cases a with
  | @dct p kvs _ h1 k1 _ =>
   cases b with
   | @dct q kvs' _ h2 k2 _ =>
    cases kvs with
    | cons _ _ => cases k1
    | nil =>
     cases kvs' with
     | cons _ _ => cases k2
     | nil => exact .dct (i _ _ h1) (j _ _ h2)
 | tup _ ih =>
  intro v w i j a b
  cases a with
  | tup s1 l1 =>
   cases b with
   | tup s2 l2 =>
    refine .tup (i.tup s1) (j.tup s2) (by rw [l1.length, l2.length]) λ k x y hx hy => ?_
    obtain ⟨t1, e1, h1⟩ := l1.get2 hx
    obtain ⟨t2, e2, h2⟩ := l2.get2 hy
    rw [e1] at e2
    cases e2
    exact ih t1 (i8 e1) i j h1 h2
 | lst _ ih =>
  intro v w i j a b
  cases a with
  | lst s1 l1 =>
   cases b with
   | lst s2 l2 =>
    refine .lst (i.seq s1) (j.seq s2) (by rw [l1.length, l2.length]) λ k x y hx hy => ?_
    obtain ⟨t1, e1, h1⟩ := l1.get2 hx
    obtain ⟨t2, e2, h2⟩ := l2.get2 hy
    rw [e1] at e2
    cases e2
    exact ih t1 (i8 e1) i j h1 h2
section
variable {B : Bk} {τ τ' : TSt} {Φ : TK} {x y : Kd} {ts us : List Tr} {K : Fg} {b : Bool}
theorem CU (hK : K = B.K) {n : Nat} (d : ∀ t ∈ ts, Dp n t) (hn : n <= 100) (r1 : Rk τ x (.lst ts)) (r2 : Rk τ y (.lst ts)) (q : Φ (.fz (.bl b)) τ) : RO B (Gm K b) x y τ Φ := λ _ _ _ _ _ _ r a b c => by
 subst hK
 obtain ⟨p, vs, rfl, s, l⟩ := r1.list r a
 obtain ⟨p2, ws, rfl, s2, l2⟩ := r2.list r b
 refine ⟨p, p2, rfl, rfl, ⟨n, vs, ws, hn, .inr ⟨s, s2⟩, by rw [l.length, l2.length], λ j x y hx hy => ?_⟩, c.pl r .bl q⟩
 obtain ⟨t1, e1, h1⟩ := l.get2 hx
 obtain ⟨t2, e2, h2⟩ := l2.get2 hy
 rw [e1] at e2
 cases e2
 exact qS (d t1 (i8 e1)) r.inc r.inc h1 h2
theorem BW (hK : K = B.K) {n : Nat} (d : ∀ t ∈ ts, Dp n t) (hn : n <= 100) (r1 : Rk τ x (.tup ts)) (r2 : Rk τ y (.tup ts)) (q : Φ (.fz (.bl b)) τ) : RO B (Gm K b) x y τ Φ := λ _ _ _ _ _ _ r a b c => by
 subst hK
 obtain ⟨p, vs, rfl, s, l⟩ := r1.tuple r a
 obtain ⟨p2, ws, rfl, s2, l2⟩ := r2.tuple r b
 refine ⟨p, p2, rfl, rfl, ⟨n, vs, ws, hn, .inl ⟨s, s2⟩, by rw [l.length, l2.length], λ j x y hx hy => ?_⟩, c.pl r .bl q⟩
 obtain ⟨t1, e1, h1⟩ := l.get2 hx
 obtain ⟨t2, e2, h2⟩ := l2.get2 hy
 rw [e1] at e2
 cases e2
 exact qS (d t1 (i8 e1)) r.inc r.inc h1 h2
theorem pz {z : Str} : ∀ {ws : List Str}, HX (.str z) (ws.map V.str) = decide (z ∈ ws)
 | [] => rfl
 | x :: r => by
  have ih := pz (z := z) (ws := r)
  unfold HX at ih ⊢
  rw [j8, List.any_cons, ih]
  show ((x == z) || decide (z ∈ r)) = _
  by_cases h : x = z
  ·subst h; simp
  ·have h1 : (x == z) = false := by simpa using h
   rw [h1, Bool.false_or]
   by_cases k : z ∈ r
   ·rw [nS k, nS (j7 _ k)]
   ·rw [kv k, kv (λ q => (j3.mp q).elim (λ e => h e.symm) k)]
theorem gq : ∀ {ws : List Str}, (ws.map V.str).all dr = true
 | [] => rfl
 | _ :: _ => by rw [j8, List.all_cons, gq]; rfl
theorem zM (hK : K = B.K) {ws : List Str} {z : Str} (r2 : Rk τ y (.lst (ws.map Tr.str))) (q : Φ (.fz (.bl (!decide (z ∈ ws)))) τ) : RO B (KK K true) (.fz (.str z)) y τ Φ := λ Z F H v w Q r a b c => by
 subst hK
 cases fC a
 obtain ⟨p, vs, rfl, s, l⟩ := r2.list r b
 rw [l.strs] at s
 refine ⟨p, _, rfl, .inl s, rfl, gq, ?_⟩
 rw [pz]; exact c.pl r .bl q
noncomputable def ia (ws : List Str) (z : Str) : Option Nat := ws.findIdx? λ x => decide (x = z)
variable {z : Str}
theorem im {ws : List Str} {j : Nat} (h : ia ws z = some j) : ws[j]? = some z /\ ∀ i u, i < j -> ws[i]? = some u -> u ≠ z := by
 unfold ia at h
 rw [List.findIdx?_eq_some_iff_getElem] at h
 obtain ⟨hl, e, hb⟩ := h
 have e : ws[j] = z := by simpa using e
 refine ⟨by rw [dI hl, e], λ i x hi hx => ?_⟩
 have := hb i hi
 obtain ⟨_, ex⟩ := iL.mp hx
 rw [ex] at this
 simpa using this
theorem lh {ws : List Str} (h : z ∈ ws) : ∃ j, ia ws z = some j := by
 have a : (ia ws z).isSome = true := by
  unfold ia
  rw [List.findIdx?_isSome]
  exact List.any_eq_true.mpr ⟨z, h, nS rfl⟩
 exact Option.isSome_iff_exists.mp a
theorem sW (hK : K = B.K) {ws : List Str} {z : Str} {j : Nat} (rk : Rk τ x (.lst (ws.map Tr.str))) (h : ia ws z = some j) (q : Φ (.fz (.int (j : Nat))) τ) : RM B (pF K) x [.str z] τ Φ := λ Z F H v vs Q r a l c => by
 subst hK
 obtain ⟨p, ws', rfl, s, l2⟩ := rk.list r a
 rw [l2.strs] at s
 cases l with
 | cons h1 l =>
  cases l
  cases h1
  obtain ⟨e1, e2⟩ := im h
  refine ⟨p, _, .str z, .str z, j, rfl, rfl, s, rfl, gq, by rw [kT, e1]; rfl, show (z == z) = true by simp, λ i u hi hu => ?_, c.pl r .int q⟩
  rw [kT] at hu
  cases ew : ws[i]? with
  | none => rw [ew] at hu; cases hu
  | some y =>
   rw [ew] at hu
   cases hu
   have := e2 i y hi ew
   show (y == z) = false
   simpa using this
theorem wR {n : Int} (h0 : 0 <= n) (h1 : n <= 1000) (hz : z.length <= 1000) (q : Φ (.fz (.str (fZ z n))) τ) : RO B rRepS (.fz (.str z)) (.fz (.int n)) τ Φ := λ Z F H v w Q r a b c => by
 cases fC a
 cases bw b
 exact ⟨z, n, rfl, rfl, h0, h1, hz, c.pl r .str q⟩
theorem AJ {tA : TA} {n : Int} (h0 : 0 <= n) (h1 : n <= 1000) (h : DA B tA τ λ ts τ1 => ts.length <= 1000 /\ Φ (.nw (.lst (List.replicate n.toNat ts).flatten)) τ1) : EV B (AA rRep (DQ tA) (tC (.int n))) τ Φ := λ Z F H Q r c => by
 refine h Z F H _ r λ vs F1 H1 ts τ1 f1 r1 l1 ⟨hl, h2⟩ => ⟨by rw [l1.length]; exact lS hl (by decide), λ p hp => ?_⟩
 have u := r1.new (o := .lst vs) hp
 refine ⟨p, n, vs, rfl, rfl, ar, by omega, by omega, lS (Nat.mul_le_mul (show vs.length <= 1000 by rw [l1.length]; exact hl) (show n.toNat <= 1000 by omega)) (by decide), λ p' hp' => ?_⟩
 refine (c.on (f1.trans (Fr.up u))).nl (r1.go u) ?_ hp' h2
 generalize n.toNat = m
 induction m with
 | zero => exact .nil
 | succ m ih => rw [o9, o9, List.flatten_cons, List.flatten_cons]; exact l1.app ih
theorem wX (hK : K = B.K) {te : TE} (h : EV B te τ λ x τ1 => qN x τ1 λ x τ1 => ∃ t g b, x = .fz t /\ BO t = some g /\ (g.isTup || g.isLst) = b /\ Φ (.fz (.bl b)) τ1) : EV B (GM (AB K) (bq te (bq (xq (bq (tC (.ty "tuple")) (bq (tC (.ty "list")) tNil))) tNil))) τ Φ := λ Z F H Q rp c => by
 subst hK
 refine h Z F H _ rp λ v F1 H1 k τ1 f1 r1 ok1 n1 h1 => ?_
 obtain ⟨F2, k', f2, r2, ok2, ⟨t, g, b, e1, e2, e3, φ⟩, _⟩ := cL f1 r1 ok1 n1 h1
 subst e1
 subst e3
 refine ⟨by decide, λ p hp => ?_⟩
 have u := r2.tup (vs := [.ty "tuple", .ty "list"]) hp
 refine ⟨v, g, p, rfl, bI.of ar, Ew (r2.go u).inc (Is.same u.f ok2) e2, ?_⟩
 exact (c.on (f2.trans (Fr.up u))).pl (r2.go u) .bl φ
theorem FT {t : Tr} {g : Tg} {S : Bool -> Prop} (e : BO t = some g) (h : (g.isTup || g.isLst) = true) (q : S true) : ∃ t' g' b, Kd.fz t = .fz t' /\ BO t' = some g' /\ (g'.isTup || g'.isLst) = b /\ S b := ⟨t, g, true, rfl, e, h, q⟩
theorem Gj {t : Tr} {g : Tg} {S : Bool -> Prop} (e : BO t = some g) (h : (g.isTup || g.isLst) = false) (q : S false) : ∃ t' g' b, Kd.fz t = .fz t' /\ BO t' = some g' /\ (g'.isTup || g'.isLst) = b /\ S b := ⟨t, g, false, rfl, e, h, q⟩
end
section
variable {B : Bk} {τ : TSt} {Φ : TK}
theorem AV {K : Fg} (hK : K = B.K) {S : SpT} {E : XK} {tA : TA} {j : Int} (h : Cu B tA τ λ as τ1 => ∀ F H, S (B.now F H) (as ++ [.fz (.int j)]) (λ k => Φ k τ1) λ _ => False) : EV B (dm (bC K S) [.int j] E tA) τ Φ := λ Z F H Q rp c => by
 subst hK
 unfold dm
 refine h Z F H _ rp λ vs F1 H1 as τ1 f1 r1 l1 h1 => ?_
 refine ⟨B.now F1 H1, _, _, _, rfl, rfl, r1.bkok, l1.now.app (.cons (a := .fz (.int j)) Is.int .nil), h1 F1 H1, λ v F2 H2 kd u ok φ => ?_, λ C F2 H2 u ψ => ψ.elim⟩
 obtain ⟨a, b⟩ := Ax r1 (B' := B.now F1 H1) rfl rfl ok
 exact c.on f1 v F2 H2 kd τ1 (Fr.up u.of_now) (r1.go u.of_now) (by
  cases kd with
  | nw t => exact ⟨a.choose, a.choose_spec.1, a.choose_spec.2.1, a.choose_spec.2.2⟩
  | _ => exact a) b φ
end
variable {F : Hp}
theorem Kk {K : Fg} {vs : List V} {t u : Tr} (h : IsL K F vs [t, u]) : ∃ v w, vs = [v, w] /\ Is K F v t /\ Is K F w u := by
 cases h with
 | cons a b =>
  cases b with
  | cons b c => cases c; exact ⟨_, _, rfl, a, b⟩
theorem AR {B : Bk} {vs : List V} {t u : Tr} (h : iC B F vs [.fz t, .fz u]) : ∃ v w, vs = [v, w] /\ Is B.K F v t /\ Is B.K F w u := by
 cases h with
 | cons a b =>
  cases b with
  | cons b c => cases c; exact ⟨_, _, rfl, a, b⟩
noncomputable def addT (F H : Hp) : Hp := λ p => match F p with
 | some o => some o
 | none => match H p with
  | some (.tup xs) => some (.tup xs)
  | some (.frz o (.tup xs)) => some (.frz o (.tup xs))
  | _ => none
variable {H : Hp}
theorem jN {p : Addr} {o : HO} (h : addT F H p = some o) : F p = some o ∨ (F p = none /\ H p = some o /\ ¬ Mb o) := by
 unfold addT at h
 cases e : F p with
 | some o' => rw [e] at h; exact .inl h
 | none =>
  rw [e] at h
  refine .inr ⟨rfl, ?_⟩
  cases e2 : H p with
  | none => rw [e2] at h; cases h
  | some o2 =>
   rw [e2] at h
   cases o2 with
   | tup xs => cases h; exact ⟨rfl, λ z => z⟩
   | frz o3 u =>
    cases u with
    | tup xs => cases h; exact ⟨rfl, λ z => z⟩
    | _ => cases h
   | _ => cases h
theorem KI {B : Bk} {H' : Hp} (k : vd B) (hF : B.F0 = F) (hH : B.H0 = H) (s : am H H') : Up B F H (addT F H') H' where
 f := λ b o e => by unfold addT; rw [e]
 h := λ p o _ e => s p o e
 i := λ p o e => by
  rcases jN e with e | ⟨_, e, _⟩
  ·exact s p o (by rw [<- hH]; exact k.i p o (by rw [hF]; exact e))
  ·exact e
 m := λ p o hp mb n => by
  cases e : addT F H' p with
  | none => rfl
  | some o2 =>
   rcases jN e with e | ⟨_, e, nm⟩
   ·rw [n] at e; cases e
   ·have := s p o hp
    rw [this] at e
    cases e
    exact (nm mb).elim
 w := λ p e => s.free e
 x := λ p hw n => by
  cases e : addT F H' p with
  | none => rfl
  | some o2 =>
   rcases jN e with e | ⟨_, e, nm⟩
   ·rw [n] at e; cases e
   ·obtain ⟨o, ho, mb⟩ := B.jm H' p (B.jl H H' (λ p hw => by
     cases e : H p with
     | none => exact absurd (by rw [hH]; exact e) (k.wa p hw)
     | some o => rw [s p o e]) (λ p φ z => s p _ z) (by rw [<- hH]; exact k.wj)) hw
    rw [ho] at e
    cases e
    exact (nm mb).elim
 j := λ h => B.jl _ _ (λ p hw => by
  cases e : H p with
  | none => exact absurd (by rw [hH]; exact e) (k.wa p hw)
  | some o => rw [s p o e]) (λ p φ z => s p _ z) h
theorem bI.addT {K : Fg} {p : Addr} {xs : List V} (i : am F H) (h : bI K H p xs) : bI K (addT F H) p xs := by
 rcases h with (h | ⟨o, h⟩) | h
 ·refine .inl (.inl ?_)
  unfold L2.addT
  cases e : F p with
  | some o => exact (i p o e).symm.trans h
  | none => show (match H p with | some (.tup xs) => some (HO.tup xs) | some (.frz o (.tup xs)) => some (HO.frz o (.tup xs)) | _ => none) = _; rw [h]
 ·refine .inl (.inr ⟨o, ?_⟩)
  unfold L2.addT
  cases e : F p with
  | some o2 => exact (i p o2 e).symm.trans h
  | none => show (match H p with | some (.tup xs) => some (HO.tup xs) | some (.frz o (.tup xs)) => some (HO.frz o (.tup xs)) | _ => none) = _; rw [h]
 ·exact .inr h
structure EM (B : Bk) (F H : Hp) (p a b : Addr) (ts us : List Tr) : Prop where
 sp : bI B.K F p [.ref a, .ref b]
 oa : Ow B.K F H a (.lst ts)
 ob : Ow B.K F H b (.lst us)
 fa : F a = none
 fb : F b = none
 na : B.H0 a = none
 nb : B.H0 b = none
 ne : a ≠ b
noncomputable abbrev SpR := Bk -> List Ar -> (List Tr -> List Tr -> Prop) -> Prop
noncomputable def mo (K : Fg) (S : SpR) : Sp := λ vs H Q _ => ∃ B as Φ, B.K = K /\ B.H0 = H /\ vd B /\ iC B B.F0 vs as /\ S B as Φ /\ ∀ p a b F' H' ts us, Up B B.F0 H F' H' -> EM B F' H' p a b ts us -> Φ ts us -> Q (.ref p) H'
theorem xS {K : Fg} {S : SpR} {n : Nat} (hn : ∀ B as Φ, S B as Φ -> as.length = n) : ∀ vs H Q E, mo K S vs H Q E -> vs.length = n := λ vs H Q E h => by
 obtain ⟨B, as, Φ, _, _, _, l, s, _⟩ := h
 rw [l.length]; exact hn B as Φ s
noncomputable def vA (B : Bk) (D : cQ) (t : TS) (τ : TSt) : Prop := ∀ Z F H, Rp B F H Z τ -> t D Z H
noncomputable def Ki (B : Bk) (D : cQ) (Φ : List Tr -> List Tr -> Prop) : Prop := ∀ p a b F' H' ts us, Up B B.F0 B.H0 F' H' -> EM B F' H' p a b ts us -> Φ ts us -> D.rt (.ref p) H'
theorem uo {K : Fg} {S : SpR} {vs : List V} {H : Hp} {Q : VK} {E : XK} (h : mo K S vs H Q E) : ∃ B as Φ, B.K = K /\ S B as Φ /\ ∀ (N : List Str) (t : TS), (∀ D, Ki B D Φ -> vA B D t (cJ N.length as)) -> t { nx := λ _ H' => Q .non H', rt := Q } (bN N vs) H := by
 obtain ⟨B, as, Φ, hK, rfl, k, l, s, q⟩ := h
 exact ⟨B, as, Φ, hK, s, λ N t sv => sv _ (λ p a b F' H' ts us u r φ => q p a b F' H' ts us u r φ) _ _ _ (iU k l)⟩
section
variable {B : Bk} {τ : TSt} {s1 s2 : TS} {D : cQ} {i j : Nat} {ts us : List Tr}
theorem dU (h : SV B s1 τ ⟨λ τ' => vA B D s2 τ', λ _ => False, λ _ => False, λ _ => False⟩) : vA B D (kI s1 s2) τ := λ Z F H r =>
 h Z F H _ r ⟨λ σ' F' H' τ' _ r' h' => h' σ' F' H' r', λ _ _ _ _ _ _ z => z.elim, λ _ _ _ _ _ _ z => z.elim, λ _ _ _ _ _ _ z => z.elim⟩
theorem LG {rt : Kd -> Prop} (hD : ∀ v F' H' k, Up B B.F0 B.H0 F' H' -> sk B F' H' v k -> rt k -> D.rt v H') (h : SV B s1 τ ⟨λ _ => False, rt, λ _ => False, λ _ => False⟩) : vA B D s1 τ := λ Z F H r =>
 h Z F H _ r ⟨λ _ _ _ _ _ _ z => z.elim, hD, λ _ _ _ _ _ _ z => z.elim, λ _ _ _ _ _ _ z => z.elim⟩
end
noncomputable def bkL (K : Fg) (F H : Hp) (p : Addr) (l : List (Addr × List V)) : Bk where
 K := K
 F0 := F
 H0 := H
 W := λ q => ∃ vs, (q, vs) ∈ l
 J := λ H' => ∀ x ∈ l, H' x.1 = some (.lst x.2)
 rt := p
 jl := λ H H' e _ h x hx => by rw [<- e x.1 ⟨x.2, hx⟩]; exact h x hx
 jm := λ H q h hw => by
  obtain ⟨vs, hx⟩ := hw
  exact ⟨_, h _ hx, trivial⟩
section
variable {B : Bk} {τ : TSt} {Z : St} {F H F' H' : Hp} {p : Addr} {l : List (Addr × List V)} {k : Nat}
theorem Rp.rebase (r : Rp B F H Z τ) (cl : ∀ i s, bV τ i s -> s = .no ∨ ∃ t, s = .fz t) (hl : ∀ x ∈ l, H x.1 = some (.lst x.2) /\ F x.1 = none) : Rp (bkL B.K F H p l) F H (Z.set k (some (.ref p))) (τ.set k .wd) where
 up := Up.refl r.inc
 wa := λ q hw z => by
  obtain ⟨vs, hx⟩ := hw
  have e := (hl _ hx).1
  have z : H q = none := z
  rw [z] at e; cases e
 wf := λ q hw => by
  obtain ⟨vs, hx⟩ := hw
  exact (hl _ hx).2
 wj := λ x hx => (hl x hx).1
 wd := λ i e => by
  rcases bB e with ⟨rfl, _, hi⟩ | ⟨_, e⟩
  ·exact lr (by rw [r.len]; exact hi)
  ·rcases cl i _ e with z | ⟨_, z⟩ <;> cases z
 len := by rw [List.length_set, List.length_set]; exact r.len
 fz := λ i t e => by
  rcases bB e with ⟨_, e, _⟩ | ⟨n, e⟩
  ·cases e
  ·obtain ⟨v, ev, h⟩ := r.fz i t e
   exact ⟨v, fg n ev, h⟩
 ow := λ i t e => by
  rcases bB e with ⟨_, e, _⟩ | ⟨_, e⟩
  ·cases e
  ·rcases cl i _ e with z | ⟨_, z⟩ <;> cases z
 vw := λ i t e => by
  rcases bB e with ⟨_, e, _⟩ | ⟨_, e⟩
  ·cases e
  ·rcases cl i _ e with z | ⟨_, z⟩ <;> cases z
 ap := λ i j t u l e => by
  rcases bB e with ⟨_, e, _⟩ | ⟨_, e⟩
  ·cases e
  ·rcases cl i _ e with z | ⟨_, z⟩ <;> cases z
 av := λ i j t u l e => by
  rcases bB e with ⟨_, e, _⟩ | ⟨_, e⟩
  ·cases e
  ·rcases cl i _ e with z | ⟨_, z⟩ <;> cases z
noncomputable def LI : TSt -> Bool
 | [] => true
 | .no :: r => LI r
 | .fz _ :: r => LI r
 | _ :: _ => false
theorem Ct : ∀ {τ : TSt}, LI τ = true -> ∀ i s, bV τ i s -> s = .no ∨ ∃ t, s = .fz t
 | [], _, i, s, h => by cases h
 | .no :: r, h, 0, s, e => by cases e; exact .inl rfl
 | .fz t :: r, h, 0, s, e => by cases e; exact .inr ⟨t, rfl⟩
 | .no :: r, h, i + 1, s, e => Ct (τ := r) h i s e
 | .fz t :: r, h, i + 1, s, e => Ct (τ := r) h i s e
variable {D : cQ} {s2 : TS}
variable {B' : Bk} {a b : Addr} {ws : List V} {ts us ms : List Tr}
theorem BR {K : Fg} (hK : K = B.K) {S : SpR} {E : XK} {tA : TA} {Φ : TK} (h : Cu B tA τ λ as τ1 => ∀ F H, S (B.now F H) as λ ts us => Φ (.fz (.tup [.lst ts, .lst us])) τ1) : EV B (dm (mo K S) [] E tA) τ Φ := λ Z F H Q rp c => by
 subst hK
 unfold dm
 simp only [o7]
 refine h Z F H _ rp λ vs F1 H1 as τ1 f1 r1 l1 h1 => ?_
 refine ⟨B.now F1 H1, as, _, rfl, rfl, r1.bkok, l1.now, h1 F1 H1, λ p a b F2 H2 ts us u row φ => ?_⟩
 have r2 := r1.go u.of_now
 have na : B.H0 a = none := r1.up.w a row.na
 have nb : B.H0 b = none := r1.up.w b row.nb
 have own : ∀ l, H1 l = none -> ∀ i t, bV τ1 i (.own t) ∨ bV τ1 i (.vw t) -> ¬ db Z i (.ref l) := λ l hl i t z e => by
  rcases z with z | z
  ·obtain ⟨l', e', g, _⟩ := r1.ow i t z
   obtain ⟨o, ho, _⟩ := g.mb
   cases ax e' e
   rw [hl] at ho; cases ho
  ·obtain ⟨l', e', g, _⟩ := r1.vw i t z
   obtain ⟨o, ho, _⟩ := g.mb
   cases ax e' e
   rw [hl] at ho; cases ho
 cases row.oa with
 | lst ha lv =>
  cases row.ob with
  | lst hb lw =>
   rename_i vs ws
   have r3 := r2.fixA ha row.fa na (own a row.na)
   have s3 : am F2 (upd F2 a (.lst vs)) := am.new row.fa _
   have fb3 : (upd F2 a (.lst vs)) b = none := by rw [ag (Ne.symm row.ne)]; exact row.fb
   have r4 := r3.fixA hb fb3 nb (own b row.nb)
   have s4 : am (upd F2 a (.lst vs)) (upd (upd F2 a (.lst vs)) b (.lst ws)) := am.new fb3 _
   have hh : ∀ q o, H1 q = some o -> Mb o -> F1 q = none -> (upd (upd F2 a (.lst vs)) b (.lst ws)) q = none := λ q o z mb n => by
    have h1 : q ≠ a := λ e => by have := row.na; rw [<- e] at this; rw [show H1 q = none from this] at z; cases z
    have h2 : q ≠ b := λ e => by have := row.nb; rw [<- e] at this; rw [show H1 q = none from this] at z; cases z
    rw [ag h2, ag h1]
    exact u.m q o z mb n
   refine c.on f1 (.ref p) _ H2 (.fz (.tup [.lst ts, .lst us])) τ1 ⟨(u.f.trans s3).trans s4, λ q o z nw _ => ⟨u.h q o nw z, λ mb n => hh q o z mb n⟩, λ _ t h => ⟨t, h⟩, u.w⟩ r4 ?_ trivial φ
   exact .tup (s4.tup (s3.tup row.sp)) (.cons (.lst (br.of (by rw [ag row.ne, ar])) ((lv.same s3).same s4)) (.cons (.lst (br.of ar) ((lw.same s3).same s4)) .nil))
theorem Hx {rt : Kd -> Prop} {s1 : TS} (hD : ∀ H', D.rt (.bl true) H') (h : SV B s1 τ ⟨λ _ => False, λ k => k = .fz (.bl true), λ _ => False, λ _ => False⟩) : vA B D s1 τ := LG (rt := λ k => k = .fz (.bl true)) (λ v F' H' k _ ok e => by
 subst e
 cases (show Is B.K F' v (.bl true) from ok)
 exact hD H') h
end
noncomputable def KG (K : Fg) (te : TE) (k i : Nat) : Prop := ∀ (Z : St) (H : Hp) (Q : VK) (p a b l : Addr) (vs : List V), db Z k (.ref p) -> bI K H p [.ref a, .ref b] -> [a, b][i]? = some l -> H l = some (.lst vs) -> vs.length <= 10000 -> (∀ vs' : List V, Q .non (upd H l (.lst vs'))) -> te Z H Q
theorem sS {K : Fg} {k : Nat} {v : V} : KG K (Kx K "list" rAppend (AA (kb K) (fE k) (tC (.int 0))) (bq (tC v) tNil)) k 0 := λ Z H Q p a b l vs hk hs hi hl hn q => by
 cases hi
 exact ⟨.ref p, hk, p, [.ref a, .ref b], 0, .ref a, rfl, rfl, hs, rfl, .inl ⟨rfl, vs, br.of hl⟩, a, vs, v, rfl, rfl, hl, Nat.lt_of_le_of_lt hn (by decide), q _⟩
theorem ve {K : Fg} {k : Nat} : KG K (FY K "list" rClear (AA (kb K) (fE k) (tC (.int 1)))) k 1 := λ Z H Q p a b l vs hk hs hi hl hn q => by
 cases hi
 exact ⟨.ref p, hk, p, [.ref a, .ref b], 1, .ref b, rfl, rfl, hs, rfl, .inl ⟨rfl, vs, br.of hl⟩, b, vs, rfl, rfl, hl, q _⟩
end L2
namespace L2
theorem yL {B : Bk} {D : cQ} {s : TS} {τ τ' : TSt} {k : Nat} (st : iA τ k .no τ') (h : vA B D s τ') : vA B D s τ := λ Z F H r => h Z F H (by have := r.forget (i := k); rw [st.eq] at this; exact this)
end L2
namespace PySem
open Sem (wp)
end PySem
namespace L2
open PySem PySem.Spec PyProof.Rows
end L2
namespace PySem
end PySem
namespace L2
open PySem PySem.Spec PyProof.Rows
end L2
namespace PySem
end PySem
namespace L2
open PySem PySem.Spec PyProof.Rows
end L2
namespace PySem
end PySem
namespace L2
open PySem PySem.Spec PyProof.Rows
end L2
namespace L2
open PySem PySem.Spec PyProof.Rows PySem.W
structure gW (X : Cx) (H : Hp) (it : Addr) : Prop where
 n : H it = none
 l : it ≠ X.env.locals
 f : it ∉ X.fs
 a : X.s₀.heap.objs.size <= it
 c : ∀ x c, X.env.cells.lookup x = some c -> c ≠ it
 p : ∀ p ∈ X.pn, p.1 ≠ it
section
variable {X : Cx} {pins : Pn} {Z : St} {H : Hp} {s : Shared}
theorem ay.mine (I : ay X pins Z H s) {it : Addr} (h : s.heap.objs.size <= it) : gW X H it where
 n := I.hok.fresh h
 l := Nat.ne_of_gt (j6 I.lt h)
 f := I.nofs h
 a := lS I.sz h
 c := λ x c e z => by
  obtain ⟨v, o, ho, _⟩ := I.cell x c e
  exact absurd (z ▸ gS ho) (Nat.not_lt_of_le h)
 p := λ p hp z => absurd (z ▸ gS (I.pin p (List.mem_append_left _ hp)).1) (Nat.not_lt_of_le h)
theorem ay.old (I : ay X pins Z H s) {it : Addr} (h : s.heap.objs.size <= it) : ∀ p ∈ pins, p.1 ≠ it := λ p hp z => absurd (z ▸ gS (I.pin p (cx _ hp)).1) (Nat.not_lt_of_le h)
theorem ay.repin {pins' : Pn} {it : Addr} {o' : Obj} {h' : Heap} {t' : Nat} (I : ay X pins Z H s) (m : gW X H it) (k : ∀ b o, b ≠ it -> s.heap.get? b = some o -> h'.get? b = some o)
  (e : h'.get? it = some o') (d : ∀ v, o'.data ≠ .cell v) (hq : ∀ p ∈ pins', p = (it, o') ∨ (p ∈ pins /\ p.1 ≠ it)) : ay X pins' Z H { s with heap := h', toks := t' } := by
 have I1 := ((I.pins_of (pins' := []) (λ _ z => nomatch z)).turned (h' := h') (t' := t') k m.n m.l (.inr m.a) m.c (λ p z => m.p p (by simpa using z)))
 refine I1.pins_of λ p z => ?_
 rcases hq p z with rfl | ⟨q, ne⟩
 ·exact ⟨e, m.n, m.l, m.f, d⟩
 ·obtain ⟨a1, a2, a3, a4, a5⟩ := I.pin p (cx _ q)
  exact ⟨k _ _ ne a1, a2, a3, a4, a5⟩
theorem ay.pushed {o' : Obj} {t' : Nat} (I : ay X pins Z H s) (hf : o'.isFreed = false) (d : ∀ v, o'.data ≠ .cell v) : ay X ((s.heap.objs.size, o') :: pins) Z H { s with heap := s.heap.push o', toks := t' } := by
 have m := I.mine (eT _)
 have I1 : ay X pins Z H { s with heap := s.heap.push o', toks := t' } := I.kept (t' := t') (h' := s.heap.push o') λ b u e => cp _ e
 refine I1.pins_of λ p z => ?_
 rcases j3.mp z with rfl | z
 ·exact ⟨kH _ hf, m.n, m.l, m.f, d⟩
 ·exact I1.pin p (cx _ z)
theorem ay.trackL {a : Addr} {o : HO} (I : ay X pins Z H s) (m : gW X H a) (hp : ∀ p ∈ pins, p.1 ≠ a) (new : cj X.prog X.w (upd H a o) s.heap a o) : ay X pins Z (upd H a o) s := by
 have ne : ∀ {b : Addr} {u : HO}, H b = some u -> b ≠ a := λ e => aH e m.n
 refine I.step (h' := s.heap) (g' := s.gens) (d' := s.drawn) (t' := s.toks) (ch := [a]) (λ b hb => ?_) (λ _ _ _ _ _ e _ => e) (λ b o _ _ _ e _ => ⟨o.slots, e⟩) (λ b _ hc _ n => by rw [ag (λ z => hc (by simp [z]))]; exact n)
  (λ b o _ e => ⟨o, e⟩) (λ b _ e => by rw [ag (ne e)]; exact e) (λ b _ _ e => by rw [ag (ne e)]; exact e) (λ b ps e => ⟨#[], by rw [ag (ne e), e]; simp⟩) (λ _ z => z) (λ b u e => ?_) I.bare
 ·obtain rfl : b = a := by simpa using hb
  exact ⟨.inr m.a, m.l, m.c, λ p z => (rl.mp z).elim (m.p p) (hp p)⟩
 ·by_cases z : b = a
  ·subst z; rw [ar] at e; cases e; exact new
  ·rw [ag z] at e
   exact (I.hok b u e).stay (λ _ _ _ q => q) (λ c q => by rw [ag (ne q)]; exact q) λ c xs q => by rw [ag (ne q)]; exact q
theorem ay.two {a k : Addr} {h' : Heap} {t' : Nat} {m : Str -> Option Value} (I : ay X pins Z H s) (ma : gW X H a) (mk : gW X H k) (hp : ∀ p ∈ pins, p.1 ≠ k /\ p.1 ≠ a)
  (kp : ∀ b o, b ≠ X.env.locals -> b ≠ k -> b ≠ a -> s.heap.get? b = some o -> h'.get? b = some o) (hm : s.heap.Ns X.env.locals m) (hn : h'.Ns X.env.locals m) : ay X pins Z H { s with heap := h', toks := t' } := by
 have nt : ∀ b u, H b = some u -> b ≠ X.env.locals /\ b ≠ k /\ b ≠ a := λ b u e => ⟨aH e I.free, aH e mk.n, aH e ma.n⟩
 refine I.step (g' := s.gens) (d' := s.drawn) (ch := [k, a]) (λ b hb => ?_) (λ b o n1 _ hc e _ => kp b o n1 (λ z => hc (by simp [z])) (λ z => hc (by simp [z])) e) (λ b o n1 _ hc e _ => ⟨o.slots, kp b o n1 (λ z => hc (by simp [z])) (λ z => hc (by simp [z])) e⟩) (λ _ _ _ _ n => n)
  (λ b o hc e => ?_) (λ _ _ e => e) (λ _ _ _ e => e) (λ b ps e => ⟨#[], by rw [e]; simp⟩) (λ m' hm' => by rw [hm'.eq_nsMap, <- hm.eq_nsMap]; exact hn) (λ b u e => ?_) I.bare
 ·rcases j3.mp hb with z | z
  ·subst z
   exact ⟨.inr mk.a, mk.l, mk.c, λ p z => (rl.mp z).elim (mk.p p) λ z => (hp p z).1⟩
  ·obtain rfl : b = a := by simpa using z
   exact ⟨.inr ma.a, ma.l, ma.c, λ p z => (rl.mp z).elim (ma.p p) λ z => (hp p z).2⟩
 ·by_cases z : b = X.env.locals
  ·obtain ⟨o', _, _, q, _⟩ := id hn
   exact ⟨o', by rw [z]; exact q⟩
  ·exact ⟨o, kp b o z (λ z => hc (by simp [z])) (λ z => hc (by simp [z])) e⟩
 ·refine (I.hok b u e).stay (λ c v hc q => ?_) (λ _ q => q) λ _ _ q => q
  have z : c ≠ X.env.locals /\ c ≠ k /\ c ≠ a := by
   rcases hc with z | z
   ·rw [z]; exact nt b u e
   ·exact nt c _ z
  exact kp c v z.1 z.2.1 z.2.2 q
end
theorem kY {α β : Type} {F : α -> β -> Prop} : ∀ {l₁ : List α} {l₂ : List β} {i : Nat} {b : β}, Paired F l₁ l₂ -> l₂[i]? = some b -> ∃ a, l₁[i]? = some a /\ F a b
 | _, _, _, _, .nil, e => by simp at e
 | _, _, 0, _, .cons h _, e => by simp at e; subst e; exact ⟨_, rfl, h⟩
 | _, _, i + 1, b, .cons _ r, e => by
  obtain ⟨a, h1, h2⟩ := kY (i := i) (b := b) r (by simpa using e)
  exact ⟨a, by simpa using h1, h2⟩
theorem oU {α β : Type} {F : α -> β -> Prop} {l m : List β} (p : l.Perm m) : ∀ {m' : List α}, Paired F m' m -> ∃ l' : List α, l'.Perm m' /\ Paired F l' l := by
 induction p with
 | nil => intro m' h; cases h; exact ⟨[], .nil, .nil⟩
 | cons x _ ih =>
  intro m' h
  cases h with
  | cons h1 h2 =>
   obtain ⟨l', a, b⟩ := ih h2
   exact ⟨_ :: l', a.cons _, .cons h1 b⟩
 | swap x y l =>
  intro m' h
  cases h with
  | cons h1 h2 =>
   cases h2 with
   | cons h3 h4 => exact ⟨_, .swap _ _ _, .cons h3 (.cons h1 h4)⟩
 | trans _ _ ih1 ih2 =>
  intro m' h
  obtain ⟨l2, a2, b2⟩ := ih2 h
  obtain ⟨l1, a1, b1⟩ := ih1 b2
  exact ⟨l1, a1.trans a2, b1⟩
section
variable {X : Cx} {pins : Pn} {Z : St} {H : Hp} {s : Shared} {A : Around} {f : Value} {b : Bool} {vs : List Value} {kz : List Int} {kS a : Addr} {e1 : Nat} {R : PySem.Fin -> Shared -> Prop} {E : Value -> Shared -> Prop}
theorem gh {xs : Array Value} {n : Nat} : ∀ v, (seqObj "list" xs n).data ≠ .cell v := λ _ z => by cases z
end
noncomputable def wv (P : Program) (w : World) (K : Fg) (mg : Str -> Option Value) (base : Heap) (N : List Str) (qual : Str) (scope : Scope) (f : Addr) (cd : Value) (cl : List (Str × Addr)) (A : Around) (outer : List Env) (s : Shared) (H : Hp) : Cx where
 prog := P
 w := w
 K := K
 mg := mg
 base := base
 A := A.deeper (envX qual scope s.heap.objs.size f cd cl)
 N := N
 s₀ := s
 H₀ := H
 env := envX qual scope s.heap.objs.size f cd cl
 outer := outer
 stack := envX qual scope s.heap.objs.size f cd cl :: outer
 ex := []
 calm := true
 fn := λ _ => false
 pn := []
 xe := λ _ _ => False
structure qY (sc : Scope) (xp : Str) : Prop where
 kind : sc.kind = .function
 co : sc.isCoroutine = false
 gen : sc.isGenerator = false
 nocell : ∀ y ∈ sc.names, y.2 ≠ .cell
 par : sc.names.lookup xp = some .local
theorem BX {P : Program} {w : World} {K : Fg} {mg : Str -> Option Value} {base : Heap} {A : Around} {outer : List Env} {s : Shared} {H : Hp} {fq c' : Addr} {name qual xp : Str} {params : Arguments} {body : Expr} {scope : Scope} {cl : List (Str × Addr)} {pm ctv : Value} {u : Value}
  {N : List Str} {σL : St} {tb : TE} {Q : VK} (S : qY scope xp) (e0 : pX P w K mg base A outer s H) (hd : A.handled = none) (hdp : A.depth < recursionLimit)
  (ho : s.heap.get? fq = some (kla_obj name qual params body scope cl pm c' ctv)) (hcd : s.heap.CodeRec (.ref c') qual) (hb : bindArgs (kla_fn name qual params body scope cl pm (.ref c') ctv) ⟨[u], []⟩ = pure [(xp, u)])
  (inj : ∀ x y c, cl.lookup x = some c -> cl.lookup y = some c -> x = y) (has : ∀ x, scope.names.lookup x = some .free -> ∃ c, cl.lookup x = some c) (cel : ∀ x c, cl.lookup x = some c -> (∃ v, s.heap.IsCell c v) /\ H c = none)
  (rel : ∀ (i : Nat) (x : Str) (v : V), N[i]? = some x -> σL[i]? = some (some v) -> Er scope x -> ∃ u', aU v u' /\ ((x = xp /\ u' = u) ∨ (scope.names.lookup x = some .free /\ ∃ c, cl.lookup x = some c /\ s.heap.IsCell c (some u'))))
  (len : σL.length = N.length) (hE : PE (wv P w K mg base N qual scope fq (.ref c') cl A outer s H) body tb) (h : tb σL H Q) :
  codeAny (model P w) A (.call (.ref fq) ⟨[u], []⟩) (CR nD outer P w H s Q E0) s := by
 refine kla_callFunE hdp ho rfl S.co S.gen rfl hcd ?_
 rw [hb]
 refine i7 (wpAny_newFunctionEnv S.nocell (λ x hx => ?_) (λ h₁ hns hsb => ⟨((e0.mod.nolimit).keeps λ b o e => (e0.bs b o e).1).fresh _ hsb, ?_⟩) S.kind)
 ·obtain rfl := o5.mp hx
  exact S.par
 have hk : ∀ b o, s.heap.get? b = some o -> h₁.get? b = some o := λ b o e => hsb.extBut b o (nh (gS e)) (cp _ e)
 have noA : ∀ b : Addr, b ∉ (wv P w K mg base N qual scope fq (.ref c') cl A outer s H).ex := λ b z => absurd (show b ∈ ([] : List Addr) from z) (by simp)
 have I : ay (wv P w K mg base N qual scope fq (.ref c') cl A outer s H) [] σL H { s with heap := h₁, toks := s.toks + 1 } := by
  refine ⟨⟨e0.mod, S.kind, rfl, rfl, eT _, inj, λ y hy => ?_, λ _ _ z => (nomatch z), λ _ => hd, Around.frames_deeper e0.frames, .inr ⟨rfl, rfl⟩, λ b z => absurd z (noA b), e0.bs, e0.bsz, λ b _ _ => noA b, λ b z => absurd z (noA b), e0.funs, e0.frf⟩,
   rfl, e0.bare, Un.kept hk, ⟨_, hns, λ i y v h1 h2 h3 => ?_⟩, λ y c h => ?_, e0.hok.fresh (eT _), λ y c h => (cel y c h).2, λ p hp => absurd (show p ∈ ([] : Pn) from hp) (by simp), e0.hok.kept hk, len⟩
  ·have hy : scope.names.lookup y = some .cell ∨ scope.names.lookup y = some .free := hy
   rcases hy with hy | hy
   ·exact absurd rfl (S.nocell _ (PySem.mem_of_lookup hy))
   ·exact has y hy
  ·obtain ⟨u', r, z⟩ := rel i y v h1 h2 h3
   refine ⟨u', r, ?_⟩
   rcases z with ⟨rfl, rfl⟩ | ⟨z, c, hc, o, ho', hd'⟩
   ·exact .inl ⟨S.par, by simp⟩
   ·exact .inr ⟨.inr z, c, hc, o, hk _ _ ho', hd'⟩
  ·obtain ⟨⟨v, o, ho', hd'⟩, _⟩ := cel y c h
   exact ⟨v, o, hk _ _ ho', hd'⟩
 show codeAny _ _ (.expr body (envX qual scope s.heap.objs.size fq (.ref c') cl)) _ _
 refine kla_codeExpr (mW (hE [] _ σL H Q I h) (λ v s' hq => ?_) λ _ _ z => z.elim)
 obtain ⟨x, H', I', r, q⟩ := hq
 exact ⟨x, H', I'.os, I'.bare, I'.base, I'.hok, r, q⟩
noncomputable def jQ (c' : Addr) (qual : Str) : Heap -> Prop := λ h => h.CodeRec (.ref c') qual
noncomputable def ky (Pt : Addr) (pos : Pos) (qual : Str) (H : Hp) : Prop :=
 ∃ ps, H Pt = some (.tbl ps) /\ TriplesOk ps.toList /\ (codeAmong pos ps.toList = none ∨ ∃ c', codeAmong pos ps.toList = some (.ref c') /\ H c' = some (.ext (jQ c' qual)))
inductive dG (Pt : Addr) (pos : Pos) (qual : Str) (H : Hp) : Hp -> Prop
 | hit : dG Pt pos qual H H
 | new {ps more : Array Value} {c' : Addr} : H Pt = some (.tbl ps) -> H c' = none -> ky Pt pos qual (upd (upd H Pt (.tbl (ps ++ more))) c' (.ext (jQ c' qual))) -> dG Pt pos qual H (upd (upd H Pt (.tbl (ps ++ more))) c' (.ext (jQ c' qual)))
noncomputable def BMods (mg : Str -> Option Value) (base : Heap) : Prop := ∃ bm o, mg "__builtins__" = some (.ref bm) /\ bm ≠ builtinsNs /\ base.get? bm = some o /\ o.cls = .type "module" /\ o.dict = some builtinsNs /\ o.data = .plain
theorem zK (l : List Value) (h : TriplesOk l) (a b : Int) (t u : Tok) (c : Value) : TriplesOk (l ++ [.int a t, .int b u, c]) := by
 fun_induction TriplesOk l with
 | case1 => exact trivial
 | case2 _ _ _ _ _ _ ih => exact ih h
 | case3 => exact h.elim
section
variable {X : Cx} {pins : Pn} {Z : St} {H : Hp} {s : Shared} {E : Value -> Shared -> Prop}
theorem AF {c Pt : Addr} {params : Arguments} {body : Expr} {scope : Scope} {pos : Pos} {clos : List (Str × Addr)} {Q : Value -> Shared -> Prop} (I : ay X pins Z H s) (hcd : X.env.code = .ref c) (hC : codeHdIn X.K c Pt = true) (hB : BMods X.mg X.base) (hT : ky Pt pos (X.env.qual ++ "<lambda>") H)
  (hdef : defaultsOf params X.env = ([], [])) (hcl : closureFor scope X.env = pure clos)
  (h : ∀ fq c' pm ctv H' s', dG Pt pos (X.env.qual ++ "<lambda>") H H' -> H' c' = some (.ext (jQ c' (X.env.qual ++ "<lambda>"))) -> ay X ((fq, kla_obj "<lambda>" (X.env.qual ++ "<lambda>") params body scope clos pm c' ctv) :: pins) Z H' s' -> Q (.ref fq) s') :
  wpAny (model X.prog X.w) X.A (eval (.Lambda params body scope pos) X.env) Q E s := by
 obtain ⟨ps, hP, ht, hh⟩ := hT
 have hPh : s.heap.get? Pt = some (tabObj ps) := I.hok Pt _ hP
 have hg : s.heap.Ns mainGlobals X.mg := I.mod.glob.keeps I.bk
 have hgP : mainGlobals ≠ Pt := λ z => by
  obtain ⟨o, _, _, e, _⟩ := I.mod.glob
  have := (I.bs _ _ e).2
  rw [z, hP] at this
  cases this
 have hb : s.heap.BuiltinsAt X.mg Pt := by
  obtain ⟨bm, o, b1, b2, b3, b4, b5, b6⟩ := hB
  refine ⟨bm, o, b1, b2, λ z => ?_, λ z => ?_, I.bk _ _ b3, b4, b5, b6⟩
  ·obtain ⟨o', es, ep, e, hd', _⟩ := I.mod.glob
   rw [z, e] at b3; cases b3; rw [hd'] at b6; cases b6
  ·have := (I.bs _ _ b3).2
   rw [z, hP] at this
   cases this
 have fnc : ∀ {q : Str} {pm ctv : Value} {c' : Addr} (v : Option Value), (kla_obj "<lambda>" q params body scope clos pm c' ctv).data ≠ .cell v := λ _ z => by cases z
 refine kla_eval hdef ?_
 rcases hh with hnf | ⟨c', hf, hc'⟩
 ·refine kla_makeFunction (mg := X.mg) hcl I.ok.glob hg hcd (codeHd_of_K I.kIn hC) hPh ht hnf hgP hb λ c' ctv h' tk hx hge hlt hrec htb => ?_
  have m := I.mine hge
  have I1 : ay X pins Z (upd (upd H Pt (.tbl (ps ++ #[rawInt pos.line, rawInt pos.col, .ref c']))) c' (.ext (jQ c' (X.env.qual ++ "<lambda>")))) { s with heap := h', toks := tk } := by
   have nP : ∀ {b : Addr} {u : HO}, H b = some u -> (∀ qs, u ≠ .tbl qs) -> b ≠ Pt := λ e d => gX e hP (d _)
   have nN : ∀ {b : Addr}, H b = none -> b ≠ Pt := λ e => (aH hP e).symm
   have nc : ∀ {b : Addr} {u : HO}, H b = some u -> b ≠ c' := λ e => aH e m.n
   have old : ∀ {b : Addr} {o : Obj}, s.heap.get? b = some o -> b ≠ c' := λ e z => absurd (z ▸ gS e) (Nat.not_lt_of_le hge)
   refine I.step (h' := h') (g' := s.gens) (d' := s.drawn) (t' := tk) (ch := []) (λ b z => nomatch z) (λ b o _ _ _ e n => hx b o (nN n) e) (λ b o _ _ _ e n => ⟨o.slots, hx b o (nN n) e⟩) (λ b o _ e n => by rw [ag (old e), ag (nN n)]; exact n)
    (λ b o _ e => ?_) (λ b _ e => by rw [ag (nc e), ag (nP e nofun)]; exact e) (λ b _ _ e => by rw [ag (nc e), ag (nP e nofun)]; exact e) (λ b qs e => ?_) (λ m' hm' => hm'.extBut hx (nN I.free)) (λ b u e => ?_) I.bare
   ·by_cases z : b = Pt
    ·exact ⟨_, by rw [z]; exact htb⟩
    ·exact ⟨o, hx b o z e⟩
   ·by_cases z : b = Pt
    ·subst z
     rw [hP] at e; cases e
     exact ⟨_, by rw [ag (nc hP), ar]⟩
    ·exact ⟨#[], by rw [ag (nc e), ag z, e]; simp⟩
   ·by_cases z : b = c'
    ·subst z
     rw [ar] at e; cases e
     obtain ⟨c2, oc, vs, tq, e2, hoc, hd, hv⟩ := id hrec
     cases e2
     exact ⟨hrec, ⟨oc, hoc⟩, λ h1 h2 ⟨c3, oc3, vs3, t3, e3, g3, r3⟩ k => by cases e3; exact ⟨_, oc3, vs3, t3, rfl, k _ g3, r3⟩⟩
    ·rw [ag z] at e
     by_cases y : b = Pt
     ·subst y
      rw [ar] at e; cases e
      exact htb
     ·rw [ag y] at e
      refine (I.hok b u e).stay (λ d v hd q => hx d v ?_ q) (λ d q => by rw [ag (nc q), ag (nP q nofun)]; exact q) λ d xs q => by rw [ag (nc q), ag (nP q nofun)]; exact q
      rcases hd with rfl | q
      ·exact y
      ·exact nP q nofun
  refine h h'.objs.size c' _ ctv _ _ (.new hP m.n ?_) ar (I1.pushed (t' := tk) rfl fnc)
  refine ⟨_, (ag (aH hP m.n)).trans ar, ?_, .inr ⟨c', ?_, ar⟩⟩
  ·rw [Array.toList_append]; exact zK _ ht _ _ _ _ _
  ·rw [Array.toList_append]; exact codeAmong_snoc _ ht hnf
 ·refine kla_makeFunctionHit (mg := X.mg) hcl I.ok.glob hg hcd (codeHd_of_K I.kIn hC) hPh ht hf hb λ ctv h' tk hk hsz => ?_
  have I1 : ay X pins Z H { s with heap := h', toks := tk } := I.kept (t' := tk) hk
  exact h h'.objs.size c' _ ctv H _ .hit hc' (I1.pushed (t' := tk) rfl fnc)
theorem dG.sqL {K : Fg} {Pt : Addr} {lpos : Pos} {q : Str} {H H2 : Hp} {l : Addr} {xs : List V} (t : dG Pt lpos q H H2) (h : br K H l xs) : br K H2 l xs := by
 cases t with
 | hit => exact h
 | @new ps more c' hP hn _ =>
  have up : ∀ {u : HO}, H l = some u -> (∀ qs, u ≠ .tbl qs) -> upd (upd H Pt (.tbl (ps ++ more))) c' (.ext (jQ c' q)) l = some u := λ {u} e d => by rw [ag (aH e hn), ag (gX e hP (d _))]; exact e
  rcases h with (h | ⟨o, h⟩) | h
  ·exact .inl (.inl (up h nofun))
  ·exact .inl (.inr ⟨o, up h nofun⟩)
  ·exact .inr h
end
end L2
namespace L2
open PySem PySem.Spec PyProof.Rows PySem.W PySem.Calls
noncomputable def codeHdT (K : Fg) (v : Value) (Pt : Addr) : Bool := match v with
 | .ref c => codeHdIn K c Pt
 | _ => false
theorem codeHdT_of {K : Fg} {v : Value} {Pt : Addr} (h : codeHdT K v Pt = true) : ∃ c, v = .ref c /\ codeHdIn K c Pt = true := by
 cases v with
 | ref c => exact ⟨c, rfl, h⟩
 | _ => cases h
end L2
namespace L2
open PySem PySem.Spec PyProof.Rows
structure cw (Pt : Addr) (pos : Pos) (q : Str) (B : Bk) : Prop where
 w : B.W Pt
 t : ∀ H, B.J H -> ky Pt pos q H
 s : ∀ H H', dG Pt pos q H H' -> B.J H -> B.J H'
theorem cw.now {Pt : Addr} {pos : Pos} {q : Str} {B : Bk} (h : cw Pt pos q B) (F H : Hp) : cw Pt pos q (B.now F H) := ⟨h.w, h.t, h.s⟩
theorem Fs {Pt : Addr} {pos : Pos} {q : Str} {B : Bk} {F H H2 : Hp} {Z : St} {τ : TSt} (hT : cw Pt pos q B) (r : Rp B F H Z τ) (st : dG Pt pos q H H2) : Up B F H F H2 := by
 cases st with
 | hit => exact Up.refl r.inc
 | @new ps more c' hP hn ht =>
  have nF : ∀ p o, F p = some o -> p ≠ Pt /\ p ≠ c' := λ p o e => ⟨aH e (r.wf Pt hT.w), aH (r.inc p o e) hn⟩
  exact {
   f := am.refl _
   h := λ p o nw e => by rw [ag (aH e hn), ag (λ z => nw (by rw [z]; exact hT.w))]; exact e
   i := λ p o e => by rw [ag (nF p o e).2, ag (nF p o e).1]; exact r.inc p o e
   m := λ _ _ _ _ z => z
   w := λ p z => eP (eP z)
   x := λ _ _ z => z
   j := λ hj => hT.s _ _ (.new hP hn ht) hj }
section
variable {P : Program} {w : World} {K : Fg} {mg : Str -> Option Value} {base : Heap}
theorem DT.okC {x qual : Str} {st : Stmt} {f : Addr} {fd : FuncData} {N ps : List Str} {k : Nat} {sp : Sp} (F : DT K x qual st f fd) (S : aw N ps (af st)) (len : ∀ vs H Q E, sp vs H Q E -> vs.length = ps.length)
  (hb : ∀ (A : Around) (outer : List Env) (s : Shared) (H : Hp) (vs : List V) (Q : VK) (E : XK), cP k (A.deeper (envOfC qual (af st) s.heap.objs.size f fd.code)) -> sp vs H Q E ->
   ∃ t, vv (dH nD P w K mg base N qual (af st) f fd.code A outer s H E).nox (bx st) t /\ t { nx := λ _ H' => Q .non H', rt := Q } (bN N vs) H) : cr P w K mg base nD (k + 1) f fd ps sp := by
 obtain ⟨oc, od, kV, doc, pm, an, cdv, ct, osl, rfl, lk, hcd⟩ := F.ex
 refine AS lk hcd S len λ A outer s H vs Q E hr hsp => ?_
 obtain ⟨t, h, q⟩ := hb A outer s H vs Q E hr hsp
 exact ⟨t, h.nox, q⟩
end
end L2
namespace L2
open PySem PySem.Spec PyProof.Rows PySem.W PySem.Calls
theorem og : bootBuiltins "sorted" = some (.builtin "sorted") := by decide +kernel
end L2
namespace L2
open PySem PySem.Spec PyProof.Rows
end L2
namespace L2
open PySem PySem.Spec
end L2
namespace L2
open PySem PySem.Spec PyProof.Rows
end L2
namespace L2
open PySem PySem.Spec PyProof.Rows PySem.SeqAt
end L2
namespace L2
open PySem PySem.Spec PyProof.Rows
end L2
namespace L2
open PySem PySem.Spec PyProof.Rows PySem.SeqAt
end L2
namespace L2
open PySem PySem.W PyProof.Rows
structure sd (n : Nat) (lt : Nat -> Nat -> Bool) : Prop where
 tr : ∀ i j k, i < n -> j < n -> k < n -> lt i j = true -> lt j k = true -> lt i k = true
 tot : ∀ i j, i < n -> j < n -> i ≠ j -> lt i j = false -> lt j i = true
 asy : ∀ i j, i < n -> j < n -> lt i j = true -> lt j i = false
noncomputable abbrev px (p : Array Nat) (i : Nat) : Nat := p.getD i 0
theorem lQ {p : Array Nat} {i : Nat} : px p i = (p[i]?).getD 0 := by simp [px]
theorem JE {p q : Array Nat} {i j : Nat} (h : p[i]? = q[j]?) : px p i = px q j := by rw [lQ, lQ, h]
noncomputable def iH (n : Nat) (p : Array Nat) : Prop := p.toList.Perm (List.range n)
section
variable {n : Nat} {lt : Nat -> Nat -> Bool} {p q : Array Nat} {i j : Nat} {s : Shared} {cmp : Nat -> Nat -> (Bool -> Shared -> Prop) -> Shared -> Prop}
theorem iH.size (h : iH n p) : p.size = n := by
 have := h.length_eq
 simpa using this
theorem iH.of (h : iH n p) (g : q.Perm p) : iH n q := (Array.perm_iff_toList_perm.mp g).trans h
theorem iH.at (h : iH n p) (hi : i < n) : ∃ hp : i < p.toList.length, px p i = p.toList[i] := by
 have hp : i < p.size := by rw [h.size]; exact hi
 exact ⟨by simpa using hp, by rw [lQ]; simp [hp]⟩
theorem iH.low (h : iH n p) (hi : i < n) : px p i < n := by
 obtain ⟨hp, e⟩ := h.at hi
 rw [e]
 exact List.mem_range.mp (h.mem_iff.mp (List.getElem_mem hp))
theorem iH.ne (h : iH n p) (hi : i < n) (hj : j < n) (hn : i ≠ j) : px p i ≠ px p j := by
 have nd : p.toList.Nodup := h.nodup_iff.mpr List.nodup_range
 obtain ⟨a, e1⟩ := h.at hi
 obtain ⟨b, e2⟩ := h.at hj
 rw [e1, e2]
 have pw := List.pairwise_iff_getElem.mp nd
 rcases Nat.lt_or_gt_of_ne hn with z | z
 ·exact pw i j a b z
 ·exact (pw j i b a z).symm
noncomputable def gT (lt : Nat -> Nat -> Bool) (p : Array Nat) (b : Nat) : Prop := ∀ i j, i < j -> j < b -> lt (px p i) (px p j) = true
noncomputable def yd (lt : Nat -> Nat -> Bool) (p : Array Nat) (b : Nat) : Prop := ∀ i j, i < j -> j < b -> lt (px p j) (px p i) = true
noncomputable def Es (n : Nat) (lt : Nat -> Nat -> Bool) (cmp : Nat -> Nat -> (Bool -> Shared -> Prop) -> Shared -> Prop) (s : Shared) : Prop := ∀ i j C, i < n -> j < n -> i ≠ j -> C (lt i j) s -> cmp i j C s
theorem Ca : gT lt p 1 := λ i j h g => by omega
theorem yM (O : sd n lt) (P : iH n p) {x : Nat} (hx : 1 <= x) (hn : x < n) (h : gT lt p x) (c : lt (px p (x - 1)) (px p x) = true) : gT lt p (x + 1) := λ i j hij hj => by
 by_cases e : j < x
 ·exact h i j hij e
 obtain rfl : j = x := by omega
 by_cases e2 : i = j - 1
 ·rw [e2]; exact c
 ·exact O.tr _ _ _ (P.low (by omega)) (P.low (by omega)) (P.low hn) (h i (j - 1) (by omega) (by omega)) c
theorem sr (O : sd n lt) (P : iH n p) {x : Nat} (hx : 1 <= x) (hn : x < n) (h : yd lt p x) (c : lt (px p x) (px p (x - 1)) = true) : yd lt p (x + 1) := λ i j hij hj => by
 by_cases e : j < x
 ·exact h i j hij e
 obtain rfl : j = x := by omega
 by_cases e2 : i = j - 1
 ·rw [e2]; exact c
 ·exact O.tr _ _ _ (P.low hn) (P.low (by omega)) (P.low (by omega)) c (h i (j - 1) (by omega) (by omega))
theorem vB (O : sd n lt) (P : iH n p) (K : Es n lt cmp s) {Q : Nat -> Shared -> Prop} : ∀ (f x : Nat), 1 <= x -> x + f = n -> gT lt p x -> (∀ x', x <= x' -> x' <= n -> gT lt p x' -> (x' < n -> lt (px p x') (px p (x' - 1)) = true) -> Q x' s) -> KasT.kasWp cmp (kas_asc p f x) Q s
 | 0, x, h1, h2, ha, q => by
  rw [kas_asc.eq_1, KasT.kasWp.eq_1]
  exact q x (eT _) (by omega) ha λ z => by omega
 | f + 1, x, h1, h2, ha, q => by
  rw [show f + 1 = f.succ from rfl, kas_asc.eq_2, KasT.kasWp.eq_2]
  refine K _ _ _ (P.low (by omega)) (P.low (by omega)) (P.ne (by omega) (by omega) (by omega)) ?_
  cases c : lt (px p x) (px p (x - 1)) with
  | true =>
   rw [h9 rfl, KasT.kasWp.eq_1]
   exact q x (eT _) (by omega) ha λ _ => c
  | false =>
   rw [gV ff]
   exact vB O P K f (x + 1) (by omega) (by omega) (yM O P h1 (by omega) ha (O.tot _ _ (P.low (by omega)) (P.low (by omega)) (P.ne (by omega) (by omega) (by omega)) c)) λ x' a b c d => q x' (by omega) b c d
theorem Aq (O : sd n lt) (P : iH n p) (K : Es n lt cmp s) {Q : Array Nat × Nat × Nat -> Shared -> Prop} : ∀ (f x : Nat), 1 <= x -> x + f = n -> yd lt p x -> (∀ x', x <= x' -> x' <= n -> yd lt p x' -> Q (p, x', 0) s) -> KasT.kasWp cmp (kas_desc f p x 0) Q s
 | 0, x, h1, h2, ha, q => by
  rw [kas_desc.eq_1, KasT.kasWp.eq_1]
  exact q x (eT _) (by omega) ha
 | f + 1, x, h1, h2, ha, q => by
  rw [show f + 1 = f.succ from rfl, kas_desc.eq_2, KasT.kasWp.eq_2]
  refine K _ _ _ (P.low (by omega)) (P.low (by omega)) (P.ne (by omega) (by omega) (by omega)) ?_
  cases c : lt (px p x) (px p (x - 1)) with
  | true =>
   rw [h9 rfl, gV (by omega)]
   exact Aq O P K f (x + 1) (by omega) (by omega) (sr O P h1 (by omega) ha c) λ x' a b c => q x' (by omega) b c
  | false =>
   rw [gV ff, KasT.kasWp.eq_2]
   refine K _ _ _ (P.low (by omega)) (P.low (by omega)) (P.ne (by omega) (by omega) (by omega)) ?_
   have d : lt (px p (x - 1)) (px p x) = true := O.tot _ _ (P.low (by omega)) (P.low (by omega)) (P.ne (by omega) (by omega) (by omega)) c
   show KasT.kasWp cmp (if lt (px p (x - 1)) (px p x) = true then _ else _) Q s
   rw [h9 d, KasT.kasWp.eq_1]
   exact q x (eT _) (by omega) ha
theorem DS (P : iH n p) {x : Nat} (hx : x <= n) (h : yd lt p x) : gT lt (kas_rev p 0 x) x /\ iH n (kas_rev p 0 x) := by
 refine ⟨λ i j hij hj => ?_, P.of (mirror_perm _ _ _ _)⟩
 have e : ∀ k, k < x -> px (kas_rev p 0 x) k = px p (x - 1 - k) := λ k hk => by
  refine JE ?_
  unfold kas_rev
  rw [getElem?_mirror_all (by rw [P.size]; exact hx), h9 (by omega), Nat.zero_add]
 rw [e i (by omega), e j hj]
 exact h _ _ (by omega) (by omega)
theorem mB (P : iH n p) (O : sd n lt) (K : Es n lt cmp s) {Q : Nat -> Shared -> Prop} {k : Nat} (hk : k < n) : ∀ (f lo hi : Nat), lo <= hi -> hi <= k -> hi - lo <= f -> (∀ i, i < lo -> lt (px p i) (px p k) = true) -> (∀ i, hi <= i -> i < k -> lt (px p k) (px p i) = true) -> gT lt p k ->
  (∀ l, l <= k -> (∀ i, i < l -> lt (px p i) (px p k) = true) -> (∀ i, l <= i -> i < k -> lt (px p k) (px p i) = true) -> Q l s) -> KasT.kasWp cmp (kas_place p k f lo hi) Q s
 | 0, lo, hi, h1, h2, h3, ha, hb, _, q => by
  rw [kas_place.eq_1, KasT.kasWp.eq_1]
  exact q lo (by omega) ha λ i hi' => hb i (by omega)
 | f + 1, lo, hi, h1, h2, h3, ha, hb, hs, q => by
  rw [show f + 1 = f.succ from rfl, kas_place.eq_2]
  by_cases e : lo >= hi
  ·rw [h9 e, KasT.kasWp.eq_1]
   exact q lo (by omega) ha λ i hi' => hb i (by omega)
  rw [gV e, KasT.kasWp.eq_2]
  refine K _ _ _ (P.low hk) (P.low (by omega)) (P.ne hk (by omega) (by omega)) ?_
  cases c : lt (px p k) (px p ((lo + hi) / 2)) with
  | true =>
   rw [h9 rfl]
   refine mB P O K hk f lo ((lo + hi) / 2) (by omega) (by omega) (by omega) ha (λ i hi1 hi2 => ?_) hs q
   by_cases z : i = (lo + hi) / 2
   ·rw [z]; exact c
   ·exact O.tr _ _ _ (P.low hk) (P.low (by omega)) (P.low (by omega)) c (hs _ _ (by omega) hi2)
  | false =>
   rw [gV ff]
   have d : lt (px p ((lo + hi) / 2)) (px p k) = true := O.tot _ _ (P.low hk) (P.low (by omega)) (P.ne hk (by omega) (by omega)) c
   refine mB P O K hk f ((lo + hi) / 2 + 1) hi (by omega) h2 (by omega) (λ i hi1 => ?_) hb hs q
   by_cases z : i = (lo + hi) / 2
   ·rw [z]; exact d
   ·exact O.tr _ _ _ (P.low (by omega)) (P.low (by omega)) (P.low hk) (hs _ _ (by omega) (by omega)) d
theorem Eg (P : iH n p) {k l : Nat} (hk : k < n) (hl : l <= k) (hs : gT lt p k) (ha : ∀ i, i < l -> lt (px p i) (px p k) = true) (hb : ∀ i, l <= i -> i < k -> lt (px p k) (px p i) = true) : gT lt (bubble p k (k - l)) (k + 1) /\ iH n (bubble p k (k - l)) := by
 refine ⟨λ i j hij hj => ?_, P.of (bubble_perm _ _ _)⟩
 have e : ∀ m, px (bubble p k (k - l)) m = if m = l then px p k else if l < m /\ m <= k then px p (m - 1) else px p m := λ m => by
  rw [lQ, getElem?_bubble (by rw [P.size]; exact hk) _ (by omega), show k - (k - l) = l by omega]
  split
  ·rw [lQ]
  split <;> rw [lQ]
 rw [e i, e j]
 by_cases z1 : i = l
 ·rw [h9 z1, gV (by omega), h9 (by omega)]
  exact hb _ (by omega) (by omega)
 rw [gV z1]
 by_cases z2 : l < i /\ i <= k
 ·rw [h9 z2, gV (by omega), h9 (by omega)]
  exact hs _ _ (by omega) (by omega)
 rw [gV z2]
 by_cases z3 : j = l
 ·rw [h9 z3]
  exact ha i (by omega)
 rw [gV z3]
 by_cases z4 : l < j /\ j <= k
 ·rw [h9 z4]
  exact hs _ _ (by omega) (by omega)
 ·rw [gV z4]
  exact hs _ _ hij (by omega)
theorem As (O : sd n lt) (K : Es n lt cmp s) {Q : Array Nat -> Shared -> Prop} : ∀ (f : Nat) (p : Array Nat) (k : Nat), iH n p -> k + f = n -> gT lt p k -> (∀ p', iH n p' -> gT lt p' n -> Q p' s) -> KasT.kasWp cmp (kas_bin f p k) Q s
 | 0, p, k, P, h, ha, q => by
  rw [kas_bin.eq_1, KasT.kasWp.eq_1]
  exact q p P (by rw [show n = k by omega]; exact ha)
 | f + 1, p, k, P, h, ha, q => by
  rw [show f + 1 = f.succ from rfl, kas_bin.eq_2, KasT.kasWp_bind]
  refine mB P O K (by omega) k 0 k (by omega) (by omega) (by omega) (λ i hi => by omega) (λ i h1 h2 => by omega) ha λ l hl h1 h2 => ?_
  obtain ⟨a, b⟩ := Eg P (by omega) hl ha h1 h2
  exact As O K f _ (k + 1) b (by omega) a q
theorem wU (O : sd n lt) (K : Es n lt cmp s) (hn : 2 <= n) {Q : Array Nat -> Shared -> Prop} (q : ∀ p', iH n p' -> gT lt p' n -> Q p' s) : KasT.kasWp cmp (kas_sort n) Q s := by
 have P0 : iH n (List.range n).toArray := by unfold iH; exact List.Perm.refl _
 unfold kas_sort
 rw [KasT.kasWp_bind]
 have fin : ∀ (m : Nat) (p : Array Nat), 1 <= m -> m <= n -> iH n p -> gT lt p m -> KasT.kasWp cmp (if (m, p).fst < n then kas_bin (n - max (m, p).fst 1) (m, p).snd (max (m, p).fst 1) else KasT.ret (m, p).snd) Q s := λ m p h1 h2 P ha => by
  dsimp only
  rw [show max m 1 = m by omega]
  by_cases e : m < n
  ·rw [h9 e]
   exact As O K _ _ _ P (by omega) ha q
  ·rw [gV e, KasT.kasWp.eq_1]
   exact q p P (by rw [show n = m by omega]; exact ha)
 unfold kas_count
 rw [KasT.kasWp_bind]
 refine vB O P0 K (n - 1) 1 (by omega) (by omega) Ca λ m m1 m2 ha hs => ?_
 by_cases e : m = n
 ·rw [h9 (by rw [e]; exact beq_self_eq_true n), KasT.kasWp.eq_1]
  exact fin m _ m1 m2 P0 ha
 rw [gV (λ z => e (beq_iff_eq.mp z))]
 by_cases e2 : m > 1
 ·rw [h9 e2, KasT.kasWp.eq_2]
  refine K _ _ _ (P0.low (by omega)) (P0.low (by omega)) (P0.ne (by omega) (by omega) (by omega)) ?_
  have c := ha 0 (m - 1) (by omega) (by omega)
  show KasT.kasWp cmp (if lt (px _ 0) (px _ (m - 1)) = true then _ else _) _ s
  rw [h9 c, KasT.kasWp.eq_1]
  exact fin m _ m1 m2 P0 ha
 rw [gV e2]
 obtain rfl : m = 1 := by omega
 have c := hs (by omega)
 rw [kas_descPart.eq_1, KasT.kasWp_bind]
 have d2 : yd lt (List.range n).toArray (1 + 1) := sr O P0 (by omega) (by omega) (λ i j a b => by omega) c
 refine Aq O P0 K (n - (1 + 1)) (1 + 1) (by omega) (by omega) d2 λ x x1 x2 hd => ?_
 dsimp only
 rw [gV (by omega)]
 unfold kas_tail3
 rw [KasT.kasWp_bind]
 obtain ⟨a, b⟩ := DS P0 x2 hd
 refine vB O b K (n - x) x (by omega) (by omega) a λ m' h1 h2 h3 _ => ?_
 rw [KasT.kasWp.eq_1]
 exact fin m' _ (by omega) h2 b h3
end
end L2
namespace L2
open PySem PySem.Spec PyProof.Rows PySem.W
noncomputable def bY {κ α : Type} (r : κ -> κ -> Bool) (kz : List κ) (xs ys : List α) : Prop := ∃ ps : List (κ × α), ps.Perm (kz.zip xs) /\ ys = ps.map Prod.snd /\ (ps.map Prod.fst).Pairwise (λ p q => r p q = true)
structure iI {κ : Type} (r : κ -> κ -> Bool) : Prop where
 tr : ∀ a b c, r a b = true -> r b c = true -> r a c = true
 tot : ∀ a b, a ≠ b -> r a b = false -> r b a = true
 asy : ∀ a b, r a b = true -> r b a = false
noncomputable def lt2 (p q : Int × Int) : Bool := if p.1 = q.1 then decide (p.2 < q.2) else decide (p.1 < q.1)
theorem hZ : iI lt2 where
 tr := λ a b c h g => by
  unfold lt2 at *
  split at h <;> split at g <;> simp only [decide_eq_true_eq] at h g <;> split <;> simp only [decide_eq_true_eq] <;> omega
 tot := λ a b h g => by
  unfold lt2 at *
  have : ¬ (a.1 = b.1 /\ a.2 = b.2) := λ z => h (Prod.ext z.1 z.2)
  split at g <;> simp only [decide_eq_false_iff_not] at g <;> split <;> simp only [decide_eq_true_eq] <;> omega
 asy := λ a b h => by
  unfold lt2 at *
  split at h <;> simp only [decide_eq_true_eq] at h <;> split <;> simp only [decide_eq_false_iff_not] <;> omega
theorem wm {κ : Type} {r : κ -> κ -> Bool} (S : iI r) {kz : List κ} {d : κ} (nd : kz.Nodup) : sd kz.length (λ i j => r (kz.getD i d) (kz.getD j d)) where
 tr := λ i j k _ _ _ => S.tr _ _ _
 tot := λ i j hi hj hn => S.tot _ _ λ z => hn (by
  rw [j5, j5, dI hi, dI hj] at z
  have z : kz[i] = kz[j] := z
  have pw := List.pairwise_iff_getElem.mp nd
  rcases Nat.lt_trichotomy i j with y | y | y
  ·exact absurd z (pw i j hi hj y)
  ·exact y
  ·exact absurd z.symm (pw j i hj hi y))
 asy := λ i j _ _ => S.asy _ _
theorem wJ {κ α : Type} {r : κ -> κ -> Bool} {kz : List κ} {vs : List α} {d : κ} {e : α} {p : Array Nat} (hl : kz.length = vs.length) (P : iH kz.length p) (h : gT (λ i j => r (kz.getD i d) (kz.getD j d)) p kz.length) : bY r kz vs (p.toList.map λ i => vs.getD i e) := by
 refine ⟨p.toList.map λ i => (kz.getD i d, vs.getD i e), ?_, by rw [List.map_map]; rfl, ?_⟩
 ·have z : (List.range kz.length).map (λ i => (kz.getD i d, vs.getD i e)) = kz.zip vs := by
   refine List.ext_getElem (by rw [b9, List.length_range, List.length_zip, hl, Nat.min_self]) λ i h1 h2 => ?_
   have hi : i < kz.length := by simpa using h1
   have hj : i < vs.length := by omega
   simp [hi, hj]
  rw [<- z]
  exact P.map _
 ·rw [List.map_map, List.pairwise_map]
  refine List.pairwise_iff_getElem.mpr λ i j hi hj hij => ?_
  have hi : i < p.size := by simpa using hi
  have hj : j < p.size := by simpa using hj
  have := h i j hij (by rw [<- P.size]; exact hj)
  simp only [lQ] at this
  simpa [hi, hj] using this
noncomputable def qt (H : Hp) (u : Value) (k : Int × Int) : Prop := ∃ p, u = .ref p /\ H p = some (.tup [.int k.1, .int k.2])
theorem qt.same {H H' : Hp} {u : Value} {k : Int × Int} (h : qt H u k) (s : am H H') : qt H' u k := by
 obtain ⟨p, a, b⟩ := h
 exact ⟨p, a, s _ _ b⟩
section
variable {X : Cx} {pins : Pn} {Z : St} {H : Hp} {s : Shared} {A : Around} {f : Value} {vs : List Value} {kz : List (Int × Int)} {kS a : Addr} {e1 : Nat} {R : PySem.Fin -> Shared -> Prop} {E : Value -> Shared -> Prop}
theorem gW.now {H' : Hp} {it : Addr} (m : gW X H it) (h : H' it = none) : gW X H' it := ⟨h, m.l, m.f, m.a, m.c, m.p⟩
variable {ks : List Value}
theorem EY {out : List Value} {e : Nat} {C : Shared -> Prop} {m : Str -> Option Value} (I : ay X ((kS, seqObj "list" ks.toArray e) :: (a, seqObj "list" #[] e1) :: pins) Z H s) (mk : gW X H kS) (ma : gW X H a) (hka : kS ≠ a) (hn : ∀ p ∈ pins, p.1 ≠ kS /\ p.1 ≠ a)
  (hm : s.heap.Ns X.env.locals m) (fin : ∀ s' c, ay X ((a, seqObj "list" out.toArray c) :: pins) Z H s' -> C s') : KatFin (Att.noObjs s.heap) X.env.locals m kS a ks e e1 out C s := by
 have pk := I.pin (kS, seqObj "list" ks.toArray e) (cx _ (.head _))
 have pa := I.pin (a, seqObj "list" #[] e1) (cx _ (.tail _ (.head _)))
 have inN : ∀ {p : Addr × Obj}, p ∈ (Att.ledger s.heap X.env.locals kS).filter (λ p => decide (p.1 ≠ a)) ↔ (p.1 ≠ X.env.locals /\ p.1 ≠ kS /\ s.heap.get? p.1 = some p.2) /\ p.1 ≠ a := λ {p} => by
  rw [nI, show p = (p.1, p.2) from rfl, Att.mem_ledger, decide_eq_true_iff]
 refine KatFin.intro (news := (kS, seqObj "list" ks.toArray e) :: (a, seqObj "list" #[] e1) :: (Att.ledger s.heap X.env.locals kS).filter λ p => decide (p.1 ≠ a)) (Att.fr_all hm) (λ p hp => ?_) (.head λ p hp => ?_) λ h1 c1 F1 N1 => KasFin.intro F1 N1 (.tail hka (.head λ p hp => (inN.mp hp).2)) λ h' c F' N' => fin _ c ?_
 ·rcases j3.mp hp with rfl | hp
  ·exact ⟨pk.1, mk.l, Att.noObjs_get _ _⟩
  rcases j3.mp hp with rfl | hp
  ·exact ⟨pa.1, ma.l, Att.noObjs_get _ _⟩
  ·obtain ⟨⟨n1, n2, g⟩, n3⟩ := inN.mp hp
   exact ⟨g, n1, Att.noObjs_get _ _⟩
 ·rcases j3.mp hp with rfl | hp
  ·exact hka.symm
  ·exact (inN.mp hp).1.2.1
 ·have I0 : ay X pins Z H s := I.pins_of λ p hp => I.pin p (cx _ (.tail _ (.tail _ hp)))
  have I1 := I0.two (h' := h') (t' := s.toks) ma mk hn (λ b o n1 n2 n3 g => (N' (b, o) (.tail _ (.tail _ (inN.mpr ⟨⟨n1, n2, g⟩, n3⟩)))).1) hm F'.ns
  refine I1.pins_of λ p hp => ?_
  rcases j3.mp hp with rfl | hp
  ·exact ⟨(N' _ (.tail _ (.head _))).1, ma.n, ma.l, ma.f, gh⟩
  ·exact I1.pin p (cx _ hp)
theorem nX {M : Model} {h : Heap} {z : Int} {t : Tok} : Looks M h (typeOf (.int z t)) (.type "int") := λ A Q E s _ q => by
 first | exact q | exact i7 q | (unfold typeOf; exact i7 q)
theorem Cr {prog : Program} {w : World} {n : Nat} (hl : ks.length = n) (hk : kz.length = n) (h : ∀ (i : Nat) (k : Int × Int), kz[i]? = some k -> ∃ q o t u c, ks[i]? = some (.ref q) /\ s.heap.get? q = some o /\ o.data = .seq #[.int k.1 t, .int k.2 u] c) :
  Es n (λ i j => lt2 (kz.getD i (0, 0)) (kz.getD j (0, 0))) (kas_ask prog w A (tuples' true) ks) s := λ i j C hi hj _ q => by
 obtain ⟨ki, ei⟩ : ∃ k, kz[i]? = some k := ⟨_, dI (by omega)⟩
 obtain ⟨kj, ej⟩ : ∃ k, kz[j]? = some k := ⟨_, dI (by omega)⟩
 obtain ⟨q1, o1, t1, u1, c1, a1, b1, d1⟩ := h i ki ei
 obtain ⟨q2, o2, t2, u2, c2, a2, b2, d2⟩ := h j kj ej
 have q : C (lt2 ki kj) s := by
  have z1 : kz.getD i (0, 0) = ki := by rw [j5, ei]; rfl
  have z2 : kz.getD j (0, 0) = kj := by rw [j5, ej]; rfl
  rw [<- z1, <- z2]; exact q
 show wpAny _ _ (keyLt' (tuples' true) (ks.getD i .none) (ks.getD j .none)) C _ s
 rw [show ks.getD i Value.none = .ref q1 by rw [j5, a1]; rfl, show ks.getD j Value.none = .ref q2 by rw [j5, a2]; rfl]
 refine kat_lt b1 d1 b2 d2 ?_
 show KatLex _ _ _ _ _ _ [(.int ki.1 t1, .int kj.1 t2), (.int ki.2 u1, .int kj.2 u2)] 0 s
 refine kat_cons (wpAny_eqBool_int ?_)
 unfold lt2 at q
 by_cases e : ki.1 = kj.1
 ·rw [h9 e] at q
  rw [show (ki.1 == kj.1) = true from beq_iff_eq.mpr e]
  refine kat_yes (kat_cons (wpAny_eqBool_int ?_))
  by_cases e2 : ki.2 = kj.2
  ·rw [show (ki.2 == kj.2) = true from beq_iff_eq.mpr e2]
   refine kat_yes (kat_nil ?_)
   rw [show decide (ki.2 < kj.2) = false by rw [decide_eq_false_iff_not]; omega] at q
   exact q
  ·rw [show (ki.2 == kj.2) = false from beq_eq_false_iff_ne.mpr e2]
   exact kat_no (kat_one _ _ (wpAny_lt_int q))
 ·rw [gV e] at q
  rw [show (ki.1 == kj.1) = false from beq_eq_false_iff_ne.mpr e]
  exact kat_no (oneLt_int q)
theorem GK {prog : Program} {w : World} {Q : Array Nat -> Shared -> Prop} (hk : kz.length = ks.length) (h2 : 2 <= ks.length) (nd : kz.Nodup) (h : ∀ (i : Nat) (k : Int × Int), kz[i]? = some k -> ∃ q o t u c, ks[i]? = some (.ref q) /\ s.heap.get? q = some o /\ o.cls = .type "tuple" /\ o.data = .seq #[.int k.1 t, .int k.2 u] c)
  (q : ∀ p, iH kz.length p -> gT (λ i j => lt2 (kz.getD i (0, 0)) (kz.getD j (0, 0))) p kz.length -> Q p s) :
  wpAny (model prog w) A (keyKind' ks.toArray) (λ κ s' => KasT.kasWp (kas_ask prog w A κ ks) (kas_sort ks.length) Q s') (λ _ _ => False) s := by
 have tups : ∀ (ks : List Value) (kz : List (Int × Int)), kz.length = ks.length -> (∀ (i : Nat) (k : Int × Int), kz[i]? = some k -> ∃ q o t u c, ks[i]? = some (.ref q) /\ s.heap.get? q = some o /\ o.cls = .type "tuple" /\ o.data = .seq #[.int k.1 t, .int k.2 u] c) -> ∃ fs, KatTups s.heap ks fs /\ fs.length = ks.length /\ ∀ v ∈ fs, ∃ z t, v = Value.int z t := by
  intro ks
  induction ks with
  | nil => intro kz hk h; exact ⟨[], by rw [KatTups.eq_1]; trivial, rfl, λ _ z => nomatch z⟩
  | cons v r ih =>
   intro kz hk h
   cases kz with
   | nil => cases hk
   | cons k kz =>
    obtain ⟨q, o, t, u, c, e, g, cl, d⟩ := h 0 k rfl
    obtain rfl : v = .ref q := by simpa using e
    obtain ⟨fs, a1, a2, a3⟩ := ih kz (by simpa using hk) λ i k' hi => by
     obtain ⟨q, o, t, u, c, e, g⟩ := h (i + 1) k' (by simpa using hi)
     exact ⟨q, o, t, u, c, by simpa using e, g⟩
    exact ⟨.int k.1 t :: fs, KatTups.cons g cl d rfl a1, by simp [a2], λ v hv => by
     rcases j3.mp hv with rfl | hv
     ·exact ⟨_, _, rfl⟩
     ·exact a3 v hv⟩
 obtain ⟨fs, a1, a2, a3⟩ := tups ks kz hk h
 refine kat_kind (T := .type "int") a1 (by omega) (λ v hv => ?_) (by decide) ?_
 ·obtain ⟨z, t, rfl⟩ := a3 v hv
  exact nX
 rw [show ((Value.type "int" != Value.type "tuple") : Bool) = true by decide, <- hk]
 refine wU (wm hZ nd) (Cr hk.symm rfl λ i k hi => ?_) (by omega) q
 obtain ⟨q, o, t, u, c, e, g, _, d⟩ := h i k hi
 exact ⟨q, o, t, u, c, e, g, d⟩
variable {α : Type} {β : Type}
theorem wP {F : α -> β -> Prop} : ∀ {l : List α} {m : List β} {x : α} {y : β}, Paired F l m -> F x y -> Paired F (l ++ [x]) (m ++ [y])
 | _, _, _, _, .nil, h => .cons h .nil
 | _, _, _, _, .cons a r, h => .cons a (wP r h)
theorem ww {F G : α -> β -> Prop} (g : ∀ x y, F x y -> G x y) : ∀ {l : List α} {m : List β}, Paired F l m -> Paired G l m
 | _, _, .nil => .nil
 | _, _, .cons a r => .cons (g _ _ a) (ww g r)
theorem vh {F : α -> β -> Prop} : ∀ {l : List α} {m : List β}, Paired F l m -> l.length = m.length
 | _, _, .nil => rfl
 | _, _, .cons _ r => by rw [lH, lH, vh r]
theorem CS {keys : Array Value} {e : Nat} (I : ay X ((kS, seqObj "list" keys e) :: (a, seqObj "list" #[] e1) :: pins) Z H s) (mk : gW X H kS) (ma : gW X H a) (hka : kS ≠ a) (hn : ∀ p ∈ pins, p.1 ≠ kS /\ p.1 ≠ a)
  (hk : Paired (qt H) keys.toList kz) (hlen : kz.length = vs.length) (h64 : vs.length < 64) (nd : kz.Nodup) (fin : ∀ s' out c, ay X ((a, seqObj "list" out c) :: pins) Z H s' -> bY lt2 kz vs out.toList -> R (.done (.ret .none)) s') :
  wpAny (model X.prog X.w) A (ksk_end a false vs.toArray e1 (.ref kS) keys) R E s := by
 obtain ⟨m, hm, _⟩ := id I.loc
 have kl : keys.toList.length = kz.length := vh hk
 have kf : ∀ out : List Value, bY lt2 kz vs out -> KatFin (Att.noObjs s.heap) X.env.locals m kS a keys.toList e e1 out (λ s3 => R (.done (.ret .none)) s3) s := λ out ho => EY (by simpa using I) mk ma hka hn hm λ s' c I' => fin s' out.toArray c I' (by simpa using ho)
 by_cases h2 : 2 <= vs.length
 ·have := kat_end (prog := X.prog) (w := X.w) (A := A) (E := E) (s := s) (h₀ := Att.noObjs s.heap) (L := X.env.locals) (a := a) (kS := kS) (m := m) (vs := vs) (ks := keys.toList) (b := false) (e := e) (e1 := e1) (P := R) (by omega) h2 h64
  rw [show keys.toList.toArray = keys by simp] at this
  refine this ?_
  rw [show vs.length = keys.toList.length by omega]
  have w := GK (A := A) (s := s) (prog := X.prog) (w := X.w) (kz := kz) (ks := keys.toList) (Q := λ p s'' => KatFin (Att.noObjs s.heap) X.env.locals m kS a keys.toList e e1 (katRev false (p.toList.map λ i => (katRev false vs).getD i .none)) (λ s3 => R (.done (.ret .none)) s3) s'') kl.symm (by omega) nd (λ i k hi => ?_) λ p P h => kf _ (wJ (d := (0, 0)) hlen P h)
  ·rw [show keys.toList.toArray = keys by simp] at w
   exact w
  ·obtain ⟨u, hu, q, rfl, hq⟩ := kY hk hi
   obtain ⟨_, its, hv, o, ho, cl, c, d⟩ := (show cj X.prog X.w H s.heap q (.tup [.int k.1, .int k.2]) from I.hok q _ hq)
   cases hv with
   | @cons _ v1 _ its r1 hv =>
    cases hv with
    | @cons _ v2 _ its r2 hv =>
     cases hv
     obtain ⟨t1, rfl⟩ := r1
     obtain ⟨t2, rfl⟩ := r2
     exact ⟨q, o, t1, t2, c, hu, ho, cl, d⟩
 ·have hi : vs.toArray.size < 2 := by simp; omega
  unfold ksk_end
  dsimp only
  rw [gV ff, h9 hi]
  refine bf (i7 ?_)
  rw [h9 hi]
  refine bf (i7 ?_)
  rw [gV ff]
  have ez : (keys.zip vs.toArray).map (λ x => x.snd) = vs.toArray := by
   apply Array.toList_inj.mp
   rw [Array.toList_map, Array.toList_zip, List.map_snd_zip (by simpa using (by omega : vs.length <= keys.toList.length))]
  refine kat_tail (h₀ := Att.noObjs s.heap) (L := X.env.locals) (m := m) (ks := keys.toList) (e := e) (b := false) (out := vs) ez h64 (by omega) rfl (kf vs ?_)
  refine ⟨kz.zip vs, List.Perm.refl _, (List.map_snd_zip (by omega)).symm, ?_⟩
  rw [List.map_fst_zip (by omega)]
  match kz, hlen with
  | [], _ => exact .nil
  | [k], _ => exact List.pairwise_singleton _ _
  | _ :: _ :: _, hl => simp at hl; omega
theorem uh {H1 H2 H3 : Hp} (a : am H1 H2) (b : am H2 H3) : am H1 H3 := λ p o e => b p o (a p o e)
theorem BC (I : ay X ((kS, seqObj "list" #[] 0) :: (a, seqObj "list" #[] e1) :: pins) Z H s) (mk : gW X H kS) (ma : gW X H a) (hka : kS ≠ a) (hn : ∀ p ∈ pins, p.1 ≠ kS /\ p.1 ≠ a) (hlen : kz.length = vs.length) (h64 : vs.length < 64) (nd : kz.Nodup)
  (turn : ∀ (i : Nat) (v : Value) (k : Int × Int), vs[i]? = some v -> kz[i]? = some k -> ∀ (own : Pn) (s' : Shared) (H' : Hp), am H H' -> ay X (own ++ pins) Z H' s' -> wpAny (model X.prog X.w) A (call f [v]) (λ u s'' => ∃ H'', am H' H'' /\ qt H'' u k /\ ay X (own ++ pins) Z H'' s'') (λ _ _ => False) s')
  (fin : ∀ s' out c H', am H H' -> ay X ((a, seqObj "list" out c) :: pins) Z H' s' -> bY lt2 kz vs out.toList -> R (.done (.ret .none)) s') :
  wpAny (model X.prog X.w) A (ksk_rest a f false vs.toArray e1 (.ref kS)) R E s := by
 have free : ∀ {H' : Hp} {kA : Array Value} {e : Nat} {s' : Shared}, ay X ((kS, seqObj "list" kA e) :: (a, seqObj "list" #[] e1) :: pins) Z H' s' -> H' kS = none /\ H' a = none := λ I' => ⟨(I'.pin _ (cx _ (.head _))).2.1, (I'.pin _ (cx _ (.tail _ (.head _)))).2.1⟩
 unfold ksk_rest
 refine bf (wpAny_rule ?_)
 rw [List.forIn_toArray]
 refine bf (ksk_fold (λ i s' => ∃ kA e H', am H H' /\ ay X ((kS, seqObj "list" kA e) :: (a, seqObj "list" #[] e1) :: pins) Z H' s' /\ Paired (qt H') kA.toList (kz.take i)) vs 0 s ⟨#[], 0, H, am.refl _, I, by simpa using Paired.nil⟩ ?st ?dn)
 case st =>
  rintro j x s' hx ⟨kA, e, H', sH, I', hk⟩
  simp only [Nat.zero_add] at hk ⊢
  have hj : j < vs.length := (iL.mp hx).1
  obtain ⟨k, hkj⟩ : ∃ k, kz[j]? = some k := ⟨_, dI (by omega)⟩
  have hz : kA.size <= vs.length := by
   have h1 := vh hk
   rw [Array.length_toList, List.length_take] at h1
   omega
  refine bf (wpAny_attempt (mW (turn j x k hx hkj [(kS, seqObj "list" kA e), (a, seqObj "list" #[] e1)] s' H' sH I') (λ v s'' he => ?_) λ _ _ hF => hF.elim))
  obtain ⟨H'', s2, ku, I2⟩ := he
  try dsimp only
  have fr := free I2
  have mk2 := mk.now fr.1
  have pk := I2.pin (kS, seqObj "list" kA e) (cx _ (.head _))
  have s1 := Heap.SameBut.update s''.heap kS (Obj.mapSeq (·.push v))
  obtain ⟨c2, hc2⟩ : ∃ c2, (s''.heap.update kS (Obj.mapSeq (·.push v))).get? kS = some (seqObj "list" (kA.push v) c2) := ⟨_, get?_update_seq pk.1 (·.push v)⟩
  have ek : kz.take (j + 1) = kz.take j ++ [k] := by rw [List.take_add_one, hkj]; simp
  have ea : (kA.push v).toList = kA.toList ++ [v] := by simp
  refine bf (listUpdate_at pk.1 rfl ?_ (lS hz (by rw [sizeLine_eq]; omega)) (lS (Nat.le_of_eq (Array.size_push ..)) (by rw [sizeLine_eq]; omega)))
  refine i7 ⟨rfl, kA.push v, c2, H'', uh sH s2, ?_, by rw [ea, ek]; exact wP (ww (λ _ _ z => z.same s2) hk) ku⟩
  refine I2.repin (t' := s''.toks) mk2 (λ b o n g => (s1.2 b n).trans g) hc2 gh λ p hp => ?_
  rcases j3.mp hp with rfl | hp
  ·exact .inl rfl
  ·refine .inr ⟨.tail _ hp, ?_⟩
   rcases j3.mp hp with rfl | hp
   ·exact hka.symm
   ·exact (hn p hp).1
 case dn =>
  rintro s' ⟨kA, e, H', sH, I', hk⟩
  have hk' : Paired (qt H') kA.toList kz := by
   rw [List.take_of_length_le (by omega)] at hk
   exact hk
  have fr := free I'
  have pk := I'.pin (kS, seqObj "list" kA e) (cx _ (.head _))
  try dsimp only
  exact bf (listItems_at pk.1 rfl (CS I' (mk.now fr.1) (ma.now fr.2) hka hn hk' hlen h64 nd λ s' out c => fin s' out c H' sH))
theorem yJ {n : Nat} (I : ay X ((a, seqObj "list" vs.toArray n) :: pins) Z H s) (ma : gW X H a) (hn : ∀ p ∈ pins, p.1 ≠ a) (hlen : kz.length = vs.length) (h64 : vs.length < 64) (nd : kz.Nodup)
  (turn : ∀ (i : Nat) (v : Value) (k : Int × Int), vs[i]? = some v -> kz[i]? = some k -> ∀ (own : Pn) (s' : Shared) (H' : Hp), am H H' -> ay X (own ++ pins) Z H' s' -> wpAny (model X.prog X.w) A (call f [v]) (λ u s'' => ∃ H'', am H' H'' /\ qt H'' u k /\ ay X (own ++ pins) Z H'' s'') (λ _ _ => False) s')
  (fin : ∀ s' out c H', am H H' -> ay X ((a, seqObj "list" out c) :: pins) Z H' s' -> bY lt2 kz vs out.toList -> R (.done (.ret .none)) s') :
  wpAny (model X.prog X.w) A (ksk_tree a f false) R E s := by
 have pa := I.pin (a, seqObj "list" vs.toArray n) (cx _ (.head _))
 have s1 := Heap.SameBut.update s.heap a (Obj.mapSeq λ _ => (#[] : Array Value))
 obtain ⟨e1, ho1⟩ : ∃ e1, (s.heap.update a (Obj.mapSeq λ _ => (#[] : Array Value))).get? a = some (seqObj "list" #[] e1) := ⟨_, get?_update_seq pa.1 λ _ => #[]⟩
 have I1 : ay X ((a, seqObj "list" #[] e1) :: pins) Z H { s with heap := s.heap.update a (Obj.mapSeq λ _ => (#[] : Array Value)) } := I.repin (t' := s.toks) ma (λ b o n g => (s1.2 b n).trans g) ho1 gh λ p hp => by
  rcases j3.mp hp with rfl | hp
  ·exact .inl rfl
  ·exact .inr ⟨.tail _ hp, hn p hp⟩
 have sz : vs.length <= sizeLine := by rw [sizeLine_eq]; omega
 unfold ksk_tree
 refine bf (listItems_at pa.1 rfl ?_)
 refine bf (listUpdate_at pa.1 rfl ?_ (by rw [i3]; exact sz) (nW _))
 refine bf (seqEpoch_at ho1 rfl (bf (wpAny_newTuple ?_ (by simpa using sz))))
 have I2 : ay X ((a, seqObj "list" #[] e1) :: pins) Z H { s with heap := (s.heap.update a (Obj.mapSeq λ _ => (#[] : Array Value))).push (seqObj "tuple" vs.toArray 0) } := I1.kept (t' := s.toks) λ b u e => cp _ e
 refine bf (wpAny_newList (wpAny_holding ?_) (nW _))
 have I3 := I2.pushed (o' := seqObj "list" #[] 0) (t' := s.toks) rfl gh
 exact BC I3 (I2.mine (eT _)) ma (λ z => (I2.old (eT _) _ (.head _)) z.symm) (λ p hp => ⟨I2.old (eT _) p (.tail _ hp), hn p hp⟩) hlen h64 nd turn fin
theorem ou {κ : Type} {r : κ -> κ -> Bool} {kz : List κ} {xs : List V} {vs out : List Value} (r' : aL xs vs) (h : bY r kz vs out) : ∃ ys, aL ys out /\ bY r kz xs ys := by
 obtain ⟨qs, hp, rfl, hs⟩ := h
 have z : Paired (λ (p : κ × V) (q : κ × Value) => p.1 = q.1 /\ aU p.2 q.2) (kz.zip xs) (kz.zip vs) := by
  clear hp hs
  induction r' generalizing kz with
  | nil => cases kz <;> exact .nil
  | cons h _ ih =>
   cases kz with
   | nil => exact .nil
   | cons k kz => exact .cons ⟨rfl, h⟩ ih
 obtain ⟨ps, a, c⟩ := oU hp z
 have sn : ∀ {ps : List (κ × V)} {qs : List (κ × Value)}, Paired (λ (p : κ × V) (q : κ × Value) => p.1 = q.1 /\ aU p.2 q.2) ps qs -> aL (ps.map Prod.snd) (qs.map Prod.snd) /\ ps.map Prod.fst = qs.map Prod.fst := λ {ps qs} c => by
  induction c with
  | nil => exact ⟨.nil, rfl⟩
  | cons h _ ih => exact ⟨.cons h.2 ih.1, by rw [j8, j8, h.1, ih.2]⟩
 obtain ⟨d, e⟩ := sn c
 exact ⟨_, d, ps, a, rfl, by rw [e]; exact hs⟩
theorem vf {l : Addr} {xs : List V} {kw : List (Str × Value)} {Q : Value -> Shared -> Prop} (I : ay X pins Z H s) (hl : br X.K H l xs) (hlen : kz.length = xs.length) (h64 : xs.length < 64) (nd : kz.Nodup)
  (ha1 : argsOk "sorted" ⟨[.ref l], kw⟩) (ha2 : ∀ x, argsOk "list.sort" ⟨[.ref x], kw⟩) (ht : ∀ x, Builtin.«list.sort» ⟨[.ref x], kw⟩ = ksk_tree x f false)
  (turn : ∀ (i : Nat) (v : Value) (x : V) (k : Int × Int), xs[i]? = some x -> aU x v -> kz[i]? = some k -> ∀ (own : Pn) (s' : Shared) (H' : Hp), am H H' -> ay X (own ++ pins) Z H' s' -> wpAny (model X.prog X.w) A.in1.in1 (call f [v]) (λ u s'' => ∃ H'', am H' H'' /\ qt H'' u k /\ ay X (own ++ pins) Z H'' s'') (λ _ _ => False) s')
  (fin : ∀ s' p ys H', am H H' -> H' p = none -> ay X pins Z (upd H' p (.lst ys)) s' -> bY lt2 kz xs ys -> Q (.ref p) s') :
  wpAny (model X.prog X.w) A (call (.builtin "sorted") [.ref l] kw) Q E s := by
 obtain ⟨its, rv, pl, _⟩ := I.list hl
 have elen : its.length = xs.length := rv.length.symm
 have sz : its.length <= sizeLine := by rw [sizeLine_eq]; omega
 refine call_function_entry_kw kind_sorted plain_sorted entry_sorted ha1 ?_
 unfold Builtin.«sorted»
 refine bf (m := checkCount "sorted" 1 1 _) (i7 ?_)
 refine bf (collect_list (PlainL.isList pl) ?_ sz)
 refine bf (wpAny_newList ?_ (by simpa using sz))
 have I1 : ay X pins Z H { s with heap := (s.heap.push (seqObj "list" #[] 0)).update s.heap.objs.size (Obj.mapSeq (· ++ its.toArray)) } := I.kept (t' := s.toks) λ b u e => by
  have hlt : b ≠ s.heap.objs.size := nh (gS e)
  rw [Heap.get?_update_ne _ _ _ _ hlt]
  exact cp _ e
 have I2 := I1.pushed (o' := seqObj "list" its.toArray 0) (t' := s.toks) rfl gh
 have m2 := I1.mine (eT _)
 have ho := (I2.pin (_, seqObj "list" its.toArray 0) (cx _ (.head _))).1
 refine bf (wpAny_holding (wpAny_call_entry_kw slot_list_sort ⟨_, ho, rfl⟩ entry_list_sort ?body (ha2 _)))
 case body =>
  show wpAny (model X.prog X.w) A.in1.in1 (Builtin.«list.sort» ⟨[.ref _], kw⟩) _ _ _
  rw [ht]
  refine yJ (vs := its) (kz := kz) I2 m2 (I1.old (eT _)) (by omega) (by omega) nd (λ i v k hv hk own s' H' sH I' => ?_) λ s' out c H' sH I' k' => ⟨_, rfl, i7 ⟨_, rfl, ?_⟩⟩
  ·obtain ⟨x, hx, rx⟩ := kY rv hv
   exact turn i v x k hx rx hk own s' H' sH I'
  ·obtain ⟨ys, ry, hy⟩ := ou rv k'
   have hlo : ys.length <= sizeLine := by
    obtain ⟨ps, p1, rfl, _⟩ := hy
    rw [b9, p1.length_eq, List.length_zip, sizeLine_eq]
    omega
   have pa := I'.pin _ (cx _ (.head _))
   have I3 : ay X pins Z H' s' := I'.pins_of λ p hp => I'.pin p (cx _ (.tail _ hp))
   exact fin s' _ ys H' sH pa.2.1 (I3.trackL (m2.now pa.2.1) (I1.old (eT _)) ⟨hlo, out.toList, c, ry, by rw [Array.toArray_toList]; exact pa.1⟩) hy
noncomputable def AK (K : Fg) (Pt : Addr) (lpos : Pos) (q : Str) (te tb : TE) : TE := λ Z H Q => te Z H λ x H1 => ∃ l xs kz, x = .ref l /\ br K H1 l xs /\ xs.length < 64 /\ kz.length = xs.length /\ kz.Nodup /\ ky Pt lpos q H1 /\
 ∀ H2, dG Pt lpos q H1 H2 -> (∀ (i : Nat) (x : V) (k : Int × Int) (H3 : Hp), xs[i]? = some x -> kz[i]? = some k -> am H2 H3 -> tb [some x] H3 (λ u H4 => ∃ p, u = .ref p /\ am H3 H4 /\ H4 p = some (.tup [.int k.1, .int k.2]))) /\ ∀ H3 p ys, am H2 H3 -> H3 p = none -> bY lt2 kz xs ys -> Q (.ref p) (upd H3 p (.lst ys))
theorem tO {e : Expr} {params : Arguments} {body : Expr} {lsc : Scope} {lpos kpos p pos : Pos} {te tb : TE} {c Pt : Addr} {xp : Str} {k : Nat} (hr : cP k X.A) (hg : Gl X "sorted") (hm : X.mg "sorted" = none) (he : PE X e te) (S : qY lsc xp) (hcd : X.env.code = .ref c)
  (hC : codeHdIn X.K c Pt = true) (hB : BMods X.mg X.base)
  (hdef : defaultsOf params X.env = ([], [])) (hcl : ∀ (env : Env), closureFor lsc env = pure []) (no : ∀ x, lsc.names.lookup x ≠ some .free)
  (hbind : ∀ name qual cl pm cd ctv u, bindArgs (kla_fn name qual params body lsc cl pm cd ctv) ⟨[u], []⟩ = pure [(xp, u)])
  (hE : ∀ A outer s H fq cd cl, PE (wv X.prog X.w X.K X.mg X.base [xp] (X.env.qual ++ "<lambda>") lsc fq cd cl A outer s H) body tb)
  (hs : starEach [e] X.env = (false, eval e X.env) :: starEach [] X.env := by rfl) :
  PE X (.Call (.Name "sorted" p) [e] [⟨some "key", .Lambda params body lsc lpos, kpos⟩] pos) (AK X.K Pt lpos (X.env.qual ++ "<lambda>") te tb) := by
 intro pins s Z H Q I h
 refine wpAny_Call_Name_kw (jY I hg hm rfl ?_)
 refine callWith_builtin_kwB (id := "sorted") (first := []) (by rw [hs]; rfl) rfl (evalArgs_kw2 rfl ?_ hs)
 rw [hs]
 show wpAny _ _ (spliced ((false, eval e X.env) :: backTo pos [])) _ _ s
 refine Calls.spliced_cons (bO (he pins s Z H _ I h) λ u s1 ⟨x, H1, I1, r1, l, xs, kz, ex, hl, h64, hlen, nd, hT, go⟩ => Calls.spliced_nil ?_)
 subst ex
 obtain rfl : u = Value.ref l := r1
 show wpAny _ _ (evalAll [do let v <- eval (.Lambda params body lsc lpos) X.env; standAt pos; pure v]) _ _ s1
 refine wpAny_evalAll_cons (bf (AF (body := body) I1 hcd hC hB hT hdef (hcl X.env) λ fq c' pm ctv H2 s2 st hc' I2 => bf (wpAny_standAt (i7 (wpAny_evalAll_nil ?_)))))
 obtain ⟨hk, fin⟩ := go H2 st
 refine vf (f := .ref fq) (kz := kz) (xs := xs) I2 (st.sqL hl) hlen h64 nd (ksk_s1 _ _) (λ x => ksk_l1 _ _) (λ x => ksk_t1 _ _) (λ i u x k hx rx hkz own s' H3 s3 I' => ?_) λ s' p ys H3 s3 hp I' hy => ?_
 ·have pf := (I'.pin (fq, _) (cx _ (cx _ (.head _)))).1
  refine wpAny_call (codeAny_mono (BX (tb := tb) (N := [xp]) (σL := [some x]) (Q := λ u H4 => ∃ p, u = .ref p /\ am H3 H4 /\ H4 p = some (.tup [.int k.1, .int k.2])) S I'.env0.in1.in1 hr.hd hr.depth pf (I'.hok _ _ (s3 _ _ hc')).1 (hbind _ _ _ _ _ _ _) (λ y z c' h1 h2 => by cases h1) (λ y hy => absurd hy (no y))
   (λ y c' hy => by cases hy) (λ i y w h1 h2 _ => ?_) rfl (hE _ _ _ _ _ _ _) (hk i x k H3 hx hkz s3)) λ r s4 hq => ?_)
  ·match i, h1, h2 with
   | 0, h1, h2 => cases h1; cases h2; exact ⟨u, rx, .inl ⟨rfl, rfl⟩⟩
   | i + 1, h1, _ => cases h1
  ·cases r with
   | error e => exact False.elim hq
   | ok fl =>
    cases fl with
    | ret u' =>
     obtain ⟨y, H4, I4, ry, q, rfl, sH, h4⟩ := I'.after hq
     obtain rfl : u' = Value.ref q := ry
     exact ⟨H4, sH, ⟨q, rfl, h4⟩, I4⟩
    | next => exact False.elim hq
    | brk => exact False.elim hq
    | cont => exact False.elim hq
 ·exact ⟨.ref p, _, I'.pins_of λ q hq => I'.pin q (cx _ (.tail _ hq)), rfl, fin H3 p ys s3 hp hy⟩
end
end L2
namespace L2
open PySem PySem.Spec PyProof.Rows
variable {κ : Type} {K : Fg} {F : Hp}
theorem ED : ∀ {vs : List V} {ts : List Tr} (kz : List κ), IsL K F vs ts -> Paired (λ (p : κ × Tr) (q : κ × V) => p.1 = q.1 /\ Is K F q.2 p.2) (kz.zip ts) (kz.zip vs)
 | _, _, [], _ => .nil
 | _, _, _ :: _, .nil => .nil
 | _, _, _ :: kz, .cons h g => .cons ⟨rfl, h⟩ (ED kz g)
theorem AL : ∀ {ps : List (κ × Tr)} {qs : List (κ × V)}, Paired (λ (p : κ × Tr) (q : κ × V) => p.1 = q.1 /\ Is K F q.2 p.2) ps qs -> IsL K F (qs.map Prod.snd) (ps.map Prod.snd) /\ ps.map Prod.fst = qs.map Prod.fst
 | _, _, .nil => ⟨.nil, rfl⟩
 | _, _, .cons h r => ⟨.cons h.2 (AL r).1, by rw [j8, j8, h.1, (AL r).2]⟩
theorem sX {r : κ -> κ -> Bool} {kz : List κ} {xs ys : List V} {ts : List Tr} (l : IsL K F xs ts) (h : bY r kz xs ys) : ∃ us, IsL K F ys us /\ bY r kz ts us := by
 obtain ⟨qs, hp, rfl, hs⟩ := h
 obtain ⟨ps, a, c⟩ := oU hp (ED kz l)
 obtain ⟨d, e⟩ := AL c
 exact ⟨_, d, ps, a, rfl, by rw [e]; exact hs⟩
theorem we {B : Bk} {H H' : Hp} (i : am F H) (s : am H H') (hj : B.J H) : Up B F H F H' where
 f := am.refl _
 h := λ p o _ e => s p o e
 i := i.trans s
 m := λ _ _ _ _ z => z
 w := λ p z => by
  cases e : H p with
  | none => rfl
  | some o => rw [s p o e] at z; cases z
 x := λ _ _ z => z
 j := λ _ => B.jl H H' (λ p hw => by
  obtain ⟨o, e, _⟩ := B.jm H p hj hw
  rw [e, s p o e]) (λ p φ e => s _ _ e) hj
theorem vY {B : Bk} {τ : TSt} {Φ : TK} {Pt : Addr} {pos : Pos} {q : Str} {te tb : TE} (hK : K = B.K) (hT : cw Pt pos q B)
  (h : EV B te τ λ x τ1 => oW x τ1 λ t τ2 => ∃ (ts : List Tr) (kz : List (Int × Int)), t = .lst ts /\ ts.length < 64 /\ kz.length = ts.length /\ kz.Nodup /\
   (∀ (H2 : Hp) (n : Nat) (x : V) (t : Tr) (k : Int × Int), ts[n]? = some t -> kz[n]? = some k -> Is B.K H2 x t -> tb [some x] H2 λ u H3 => ∃ p, u = .ref p /\ am H2 H3 /\ H3 p = some (.tup [.int k.1, .int k.2])) /\
   ∀ us, bY lt2 kz ts us -> Φ (.nw (.lst us)) τ2) : EV B (AK K Pt pos q te tb) τ Φ := λ Z F H Q r c => by
 subst hK
 refine h Z F H _ r λ v F1 H1 k τ1 f1 r1 ok1 n1 h1 => ?_
 obtain ⟨F2, t, τ2, f2, r2, i2, ⟨ts, kz, e, h64, hl, nd, hb, fin⟩, _⟩ := dA f1 r1 ok1 n1 h1
 subst e
 cases i2 with
 | lst a b =>
  refine ⟨_, _, kz, rfl, r2.inc.seq a, by rw [b.length]; exact h64, by rw [b.length]; exact hl, nd, hT.t H1 r2.wj, λ H2 st => ?_⟩
  have u := Fs hT r2 st
  have r3 := r2.go u
  refine ⟨λ n x k H3 hx hk s3 => ?_, λ H3 p ys s3 hp hy => ?_⟩
  ·obtain ⟨t, ht, ix⟩ := b.get2 hx
   exact hb H3 n x t k ht hk ((ix.same r3.inc).same s3)
  ·obtain ⟨us, iu, hu⟩ := sX b hy
   have u3 : Up B F2 H2 F2 H3 := we (B := B) r3.inc s3 r3.wj
   exact (((c.on f2).on (Fr.up u)).on (Fr.up u3)).nl (r3.go u3) iu hp (fin us hu)
theorem vS {sc : Scope} {xp : Str} (hn : sc.names = [(xp, .local)]) (env : Env) : closureFor sc env = pure [] := by
 unfold closureFor
 rw [hn]
 simp [cellOf]
theorem Ai {sc : Scope} {xp : Str} (hn : sc.names = [(xp, .local)]) (x : Str) : sc.names.lookup x ≠ some .free := by
 rw [hn, nR]
 split <;> simp
end L2
namespace L2
open PySem PySem.Spec PyProof.Rows PySem.W PySem.Calls
noncomputable def rO (p q : Int) : Bool := decide (p < q)
theorem mq : iI rO where
 tr := λ a b c h g => by unfold rO at *; simp only [decide_eq_true_eq] at *; omega
 tot := λ a b h g => by unfold rO at *; simp only [decide_eq_true_eq, decide_eq_false_iff_not] at *; omega
 asy := λ a b h => by unfold rO at *; simp only [decide_eq_true_eq, decide_eq_false_iff_not] at *; omega
noncomputable def Ba (K : Fg) (H : Hp) (kz : List Int) (xs : List V) : Prop := kz.length = xs.length /\ ∀ (i : Nat) (k : Int), kz[i]? = some k -> ∃ q ys, xs[i]? = some (.ref q) /\ bI K H q (.int k :: ys)
noncomputable def Em (K : Fg) : List V -> Hp -> VK -> Prop := λ xs H Q => ∃ (p : Addr) (rs : List V) (kz : List Int), xs = [.ref p] /\ br K H p rs /\ Ba K H kz rs /\ kz.Nodup /\ rs.length < 64 /\ ∀ (l : Addr) (ys : List V), H l = none -> bY rO kz rs ys -> Q (.ref l) (upd H l (.lst ys))
section
variable {X : Cx} {pins : Pn} {Z : St} {H : Hp} {s : Shared} {A : Around} {vs : List Value} {kz : List Int} {a : Addr} {R : PySem.Fin -> Shared -> Prop} {E : Value -> Shared -> Prop}
theorem CA {prog : Program} {w : World} (hk : kz.length = vs.length) (nd : kz.Nodup) (h : ∀ (i : Nat) (k : Int), kz[i]? = some k -> ∃ q o t r c, vs[i]? = some (.ref q) /\ s.heap.get? q = some o /\ o.data = .seq (.int k t :: r).toArray c) :
  Es kz.length (λ i j => rO (kz.getD i 0) (kz.getD j 0)) (kas_ask prog w A (tuples' true) vs) s := λ i j C hi hj hij q => by
 obtain ⟨ki, ei⟩ : ∃ k, kz[i]? = some k := ⟨_, dI hi⟩
 obtain ⟨kj, ej⟩ : ∃ k, kz[j]? = some k := ⟨_, dI hj⟩
 obtain ⟨q1, o1, t1, u1, c1, a1, b1, d1⟩ := h i ki ei
 obtain ⟨q2, o2, t2, u2, c2, a2, b2, d2⟩ := h j kj ej
 have z1 : kz.getD i 0 = ki := by rw [j5, ei]; rfl
 have z2 : kz.getD j 0 = kj := by rw [j5, ej]; rfl
 have q : C (rO ki kj) s := by rw [<- z1, <- z2]; exact q
 have ne : ki ≠ kj := λ z => by
  have pw := List.pairwise_iff_getElem.mp nd
  have e1 : kz[i] = ki := by rw [dI hi] at ei; exact j9 ei
  have e2 : kz[j] = kj := by rw [dI hj] at ej; exact j9 ej
  rcases Nat.lt_or_gt_of_ne hij with y | y
  ·exact pw i j hi hj y (by rw [e1, e2, z])
  ·exact pw j i hj hi y (by rw [e1, e2, z])
 show wpAny _ _ (keyLt' (tuples' true) (vs.getD i .none) (vs.getD j .none)) C _ s
 rw [show vs.getD i Value.none = .ref q1 by rw [j5, a1]; rfl, show vs.getD j Value.none = .ref q2 by rw [j5, a2]; rfl]
 refine kat_lt b1 d1 b2 d2 ?_
 rw [List.toList_toArray, List.toList_toArray, List.zip_cons_cons]
 refine kat_cons (wpAny_eqBool_int ?_)
 rw [show (ki == kj) = false from beq_eq_false_iff_ne.mpr ne]
 exact kat_no (oneLt_int q)
theorem zT {prog : Program} {w : World} {Q : SortKind -> Shared -> Prop} : (hk : kz.length = vs.length) -> (h2 : 2 <= vs.length) -> (h : ∀ (i : Nat) (k : Int), kz[i]? = some k -> ∃ q o t r c, vs[i]? = some (.ref q) /\ s.heap.get? q = some o /\ o.cls = .type "tuple" /\ o.data = .seq (.int k t :: r).toArray c) -> Q (tuples' true) s ->
  wpAny (model prog w) A (keyKind' vs.toArray) Q E s := λ hk h2 h q => by
 have tups : ∀ (ks : List Value) (kz : List Int), kz.length = ks.length -> (∀ (i : Nat) (k : Int), kz[i]? = some k -> ∃ q o t r c, ks[i]? = some (.ref q) /\ s.heap.get? q = some o /\ o.cls = .type "tuple" /\ o.data = .seq (.int k t :: r).toArray c) -> ∃ fs, KatTups s.heap ks fs /\ fs.length = ks.length /\ ∀ v ∈ fs, ∃ z t, v = Value.int z t := by
  intro ks
  induction ks with
  | nil => intro kz hk h; exact ⟨[], by rw [KatTups.eq_1]; trivial, rfl, λ _ z => nomatch z⟩
  | cons v r ih =>
   intro kz hk h
   cases kz with
   | nil => cases hk
   | cons k kz =>
    obtain ⟨q, o, t, u, c, e, g, cl, d⟩ := h 0 k rfl
    obtain rfl : v = .ref q := by simpa using e
    obtain ⟨fs, a1, a2, a3⟩ := ih kz (by simpa using hk) λ i k' hi => by
     obtain ⟨q, o, t, u, c, e, g⟩ := h (i + 1) k' (by simpa using hi)
     exact ⟨q, o, t, u, c, by simpa using e, g⟩
    exact ⟨.int k t :: fs, KatTups.cons g cl d rfl a1, by simp [a2], λ v hv => by
     rcases j3.mp hv with rfl | hv
     ·exact ⟨_, _, rfl⟩
     ·exact a3 v hv⟩
 obtain ⟨fs, a1, a2, a3⟩ := tups vs kz hk h
 refine kat_kind (T := .type "int") a1 (by omega) (λ v hv => ?_) (by decide) ?_
 ·obtain ⟨z, t, rfl⟩ := a3 v hv
  exact nX
 ·rw [show ((Value.type "int" != Value.type "tuple") : Bool) = true by decide]
  exact q
theorem DH (I : ay X pins Z H s) {xs : List V} (r : Ba X.K H kz xs) (v : aL xs vs) (i : Nat) (k : Int) (h : kz[i]? = some k) : ∃ q o t r c, vs[i]? = some (.ref q) /\ s.heap.get? q = some o /\ o.cls = .type "tuple" /\ o.data = .seq (.int k t :: r).toArray c := by
 obtain ⟨q, ys, e, hq⟩ := r.2 i k h
 obtain ⟨its, v2, ⟨o, ho, cl, c, d⟩, _⟩ := I.tuple hq
 cases v2 with
 | @cons _ u _ its r1 _ =>
  obtain ⟨t, rfl⟩ := r1
  refine ⟨q, o, t, its, c, ?_, ho, cl, d⟩
  have hi : i < vs.length := by
   have := v.length
   have := (iL.mp e).1
   omega
  obtain ⟨x, hx, rx⟩ := kY v (dI hi)
  rw [e] at hx
  cases hx
  have rx : vs[i] = .ref q := rx
  rw [dI hi, rx]
noncomputable def oJ (a : Addr) (e1 : Nat) (st : SortSt) : Sem PySem.Fin := have sorted := Array.map (λ x => x.snd) (arrOf st); do
 let __do_lift <- seqEpoch a
 have touched : Bool := __do_lift != e1
 Builtin.List.listUpdate (Value.ref a) λ x => sorted
 have __do_jp : Unit -> Sem PySem.Fin := λ __r =>
  have __do_jp := λ __r => ret Value.none
  if touched = true then do
   rule "list.sort.modified"
   let __r <- raiseErrorWords "ValueError" "list modified during sort"
   __do_jp __r
  else __do_jp ()
 match failedOf st with
  | some e => do
   rule "list.sort.comparison-raised"
   let __r <- throw e
   __do_jp __r
  | x => __do_jp ()
theorem zu {n : Nat} {xs : List V} (I : ay X ((a, seqObj "list" vs.toArray n) :: pins) Z H s) (ma : gW X H a) (hn : ∀ p ∈ pins, p.1 ≠ a) (v : aL xs vs) (r : Ba X.K H kz xs) (h64 : vs.length < 64) (nd : kz.Nodup)
  (fin : ∀ s' out c, ay X ((a, seqObj "list" out c) :: pins) Z H s' -> bY rO kz vs out.toList -> R (.done (.ret .none)) s') :
  wpAny (model X.prog X.w) A (Builtin.«list.sort» ⟨[.ref a], []⟩) R E s := by
 have hlen : kz.length = vs.length := r.1.trans v.length
 have pa := I.pin (a, seqObj "list" vs.toArray n) (cx _ (.head _))
 have s1 := Heap.SameBut.update s.heap a (Obj.mapSeq λ _ => (#[] : Array Value))
 obtain ⟨e1, ho1⟩ : ∃ e1, (s.heap.update a (Obj.mapSeq λ _ => (#[] : Array Value))).get? a = some (seqObj "list" #[] e1) := ⟨_, get?_update_seq pa.1 λ _ => #[]⟩
 have I1 : ay X ((a, seqObj "list" #[] e1) :: pins) Z H { s with heap := s.heap.update a (Obj.mapSeq λ _ => (#[] : Array Value)) } := I.repin (t' := s.toks) ma (λ b o n g => (s1.2 b n).trans g) ho1 gh λ p hp => by
  rcases j3.mp hp with rfl | hp
  ·exact .inl rfl
  ·exact .inr ⟨.tail _ hp, hn p hp⟩
 have sz : vs.length <= sizeLine := by rw [sizeLine_eq]; omega
 rw [list_sort_plain]
 refine bf (listItems_at pa.1 rfl ?_)
 refine bf (listUpdate_at pa.1 rfl ?_ (by rw [i3]; exact sz) (nW _))
 refine bf (seqEpoch_at ho1 rfl (bf (wpAny_newTuple ?_ (by simpa using sz))))
 have I2 : ay X ((a, seqObj "list" #[] e1) :: pins) Z H { s with heap := (s.heap.update a (Obj.mapSeq λ _ => (#[] : Array Value))).push (seqObj "tuple" vs.toArray 0) } := I1.kept (t' := s.toks) λ b u e => cp _ e
 refine bf (wpAny_newList (wpAny_holding ?_) (nW _))
 have I3 : ay X ((a, seqObj "list" #[] e1) :: pins) Z H { s with heap := ((s.heap.update a (Obj.mapSeq λ _ => (#[] : Array Value))).push (seqObj "tuple" vs.toArray 0)).push (seqObj "list" #[] 0) } := I2.kept (t' := s.toks) λ b u e => cp _ e
 generalize hs3 : ({ s with heap := ((s.heap.update a (Obj.mapSeq λ _ => (#[] : Array Value))).push (seqObj "tuple" vs.toArray 0)).push (seqObj "list" #[] 0) } : Shared) = s3 at I3 ⊢
 have fin2 : ∀ out : List Value, bY rO kz vs out -> ∀ st : SortSt, (arrOf st).map (λ x => x.snd) = out.toArray -> failedOf st = none -> wpAny (model X.prog X.w) A (oJ a e1 st) R E s3 := λ out ho st e1' e2 => by
  have pa3 := I3.pin (a, seqObj "list" #[] e1) (cx _ (.head _))
  have ol : out.length = vs.length := by
   obtain ⟨ps, p1, rfl, _⟩ := ho
   rw [b9, p1.length_eq, List.length_zip]; omega
  unfold oJ
  dsimp only
  rw [e1', e2]
  refine bf (seqEpoch_at pa3.1 rfl (bf (listUpdate_at pa3.1 rfl ?_ (nW _) (by rw [i3, ol]; exact Nat.le_succ_of_le sz))))
  rw [show (e1 != e1) = false from bne_self_eq_false ..]
  dsimp only
  rw [gV ff]
  have s4 := Heap.SameBut.update s3.heap a (Obj.mapSeq λ _ => out.toArray)
  obtain ⟨c2, hc2⟩ : ∃ c2, (s3.heap.update a (Obj.mapSeq λ _ => out.toArray)).get? a = some (seqObj "list" out.toArray c2) := ⟨_, get?_update_seq pa3.1 λ _ => out.toArray⟩
  refine i7 (fin _ out.toArray c2 (I3.repin (t' := s3.toks) ma (λ b o n g => (s4.2 b n).trans g) hc2 gh λ p hp => ?_) (by simpa using ho))
  rcases j3.mp hp with rfl | hp
  ·exact .inl rfl
  ·exact .inr ⟨.tail _ hp, hn p hp⟩
 have ez : ∀ p : Array Nat, (Array.map (kas_item (vs.toArray.zip vs.toArray)) p).map (λ x => x.snd) = (p.toList.map λ i => vs.getD i Value.none).toArray := λ p => by
  have : kas_item (vs.toArray.zip vs.toArray) = λ i => (vs.getD i Value.none, vs.getD i Value.none) := funext λ i => kat_item rfl i
  rw [this]
  apply Array.toList_inj.mp
  simp
 dsimp only
 by_cases h2 : vs.toArray.size < 2
 ·rw [h9 h2]
  refine bf (i7 ?_)
  rw [h9 h2]
  refine bf (i7 ?_)
  have hv2 : vs.length < 2 := by simpa using h2
  have ex : (vs.toArray.zip vs.toArray).map (λ x => x.snd) = vs.toArray := by
   apply Array.toList_inj.mp
   rw [Array.toList_map, Array.toList_zip, List.map_snd_zip (by simp)]
  refine fin2 vs ⟨kz.zip vs, List.Perm.refl _, (List.map_snd_zip (by omega)).symm, ?_⟩ _ ex rfl
  rw [List.map_fst_zip (by omega)]
  match kz, hlen with
  | [], _ => exact .nil
  | [k], _ => exact List.pairwise_singleton _ _
  | _ :: _ :: _, hl => simp at hl; omega
 ·rw [gV h2]
  have hv2 : 2 <= vs.length := by simpa using Nat.le_of_not_lt h2
  have at3 := DH I3 r v
  refine bf (zT hlen hv2 at3 ?_)
  rw [gV h2]
  have nd3 : Es kz.length (λ i j => rO (kz.getD i 0) (kz.getD j 0)) (kas_ask X.prog X.w A (tuples' true) vs) s3 := CA hlen nd λ i k hi => by
   obtain ⟨q, o, t, r, c, e, g, _, d⟩ := at3 i k hi
   exact ⟨q, o, t, r, c, e, g, d⟩
  refine bf (kat_run (ks := vs) (vs := vs) (G := λ p s' => s' = s3 /\ iH kz.length p /\ gT (λ i j => rO (kz.getD i 0) (kz.getD j 0)) p kz.length) (Q := λ st s' => wpAny (model X.prog X.w) A (oJ a e1 st) R E s') rfl hv2 h64 (λ p st' s' hp ha hf hg => ?_) ?_)
  ·obtain ⟨rfl, P, hs⟩ := hg
   exact fin2 _ (wJ (d := 0) hlen P hs) st' (by rw [ha]; exact ez p) hf
  ·rw [<- hlen]
   exact wU (wm mq nd) nd3 (by omega) λ p' P h => ⟨rfl, P, h⟩
theorem oM (l : Addr) : argsOk "sorted" ⟨[.ref l], []⟩ := by
 first | trivial | rfl | decide | (unfold argsOk; trivial) | simp [argsOk]
theorem qR (l : Addr) : argsOk "list.sort" ⟨[.ref l], []⟩ := by
 first | trivial | rfl | decide | (unfold argsOk; trivial) | simp [argsOk]
theorem nO : dE X (.builtin "sorted") (Em X.K) := by
 intro pins s Z H xs us Q I r h
 obtain ⟨p, rs, kz, rfl, hq, hr, nd, h64, q⟩ := h
 obtain ⟨u, rfl, ru⟩ := r.one
 cases ru
 obtain ⟨its, v, pl, _⟩ := I.list hq
 have elen : its.length = rs.length := v.length.symm
 have sz : its.length <= sizeLine := by rw [sizeLine_eq]; omega
 refine call_function_entry_kw kind_sorted plain_sorted entry_sorted (oM p) ?_
 unfold Builtin.«sorted»
 refine bf (m := checkCount "sorted" 1 1 _) (i7 ?_)
 refine bf (collect_list (PlainL.isList pl) ?_ sz)
 refine bf (wpAny_newList ?_ (by simpa using sz))
 have I1 : ay X pins Z H { s with heap := (s.heap.push (seqObj "list" #[] 0)).update s.heap.objs.size (Obj.mapSeq (· ++ its.toArray)) } := I.kept (t' := s.toks) λ b u e => by
  have hlt : b ≠ s.heap.objs.size := nh (gS e)
  rw [Heap.get?_update_ne _ _ _ _ hlt]
  exact cp _ e
 have I2 := I1.pushed (o' := seqObj "list" its.toArray 0) (t' := s.toks) rfl gh
 have m2 := I1.mine (eT _)
 have ho := (I2.pin (_, seqObj "list" its.toArray 0) (cx _ (.head _))).1
 refine bf (wpAny_holding (wpAny_call_entry_kw slot_list_sort ⟨_, ho, rfl⟩ entry_list_sort ?body (qR _)))
 case body =>
  refine zu (xs := rs) (vs := its) (kz := kz) I2 m2 (I1.old (eT _)) v hr (by omega) nd λ s' out c I' k' => ⟨_, rfl, i7 ⟨_, rfl, ?_⟩⟩
  obtain ⟨ys, ry, hy⟩ := ou v k'
  have hlo : ys.length <= sizeLine := by
   obtain ⟨ps, p1, rfl, _⟩ := hy
   rw [b9, p1.length_eq, List.length_zip, sizeLine_eq]
   omega
  have pa := I'.pin _ (cx _ (.head _))
  have I3 : ay X pins Z H s' := I'.pins_of λ p hp => I'.pin p (cx _ (.tail _ hp))
  exact ⟨.ref _, _, I3.trackL (o := .lst ys) (m2.now pa.2.1) (I1.old (eT _)) ⟨hlo, out.toList, c, ry, by rw [Array.toArray_toList]; exact pa.1⟩, rfl, q _ _ pa.2.1 hy⟩
end
end L2
namespace L2
open PySem PySem.Spec PyProof.Rows
section
variable {B : Bk} {K : Fg} {τ : TSt} {Φ : TK} {x : Kd} {ts : List Tr}
theorem vT {kz : List Int} (hK : K = B.K) (rk : Rk τ x (.lst ts)) (hl : kz.length = ts.length) (hr : ∀ (i : Nat) (k : Int), kz[i]? = some k -> ∃ us, ts[i]? = some (.tup (.int k :: us))) (nd : kz.Nodup) (h64 : ts.length < 64) (q : ∀ us, bY rO kz ts us -> Φ (.nw (.lst us)) τ) : RU B (λ v H Q => Em K [v] H Q) x τ Φ := λ Z F H v Q r a c => by
 subst hK
 obtain ⟨p, vs, rfl, s, l⟩ := rk.list r a
 refine ⟨p, vs, kz, rfl, s, ⟨by rw [hl, l.length], λ i k hi => ?_⟩, nd, by rw [l.length]; exact h64, λ l' ys hl' hy => ?_⟩
 ·obtain ⟨us, e⟩ := hr i k hi
  obtain ⟨w, ew, iw⟩ := l.get e
  cases iw with
  | tup sq il =>
   cases il with
   | cons h1 h2 =>
    cases h1
    exact ⟨_, _, ew, r.inc.tup sq⟩
 ·obtain ⟨us, iu, hu⟩ := sX l hy
  exact c.nl r iu hl' (q us hu)
end
end L2
namespace L2
open PySem PySem.Spec PyProof.Rows PySem.W PySem.Calls
noncomputable def vm (Ps : List Addr) (H : Hp) : Prop := ∀ b, H b = none ∨ (∃ o xs, H b = some (.frz o (.lst xs))) ∨ (b ∈ Ps /\ H b = some (.tbl #[]))
theorem uA {P : Program} {w : World} {K : Fg} {mg mb : Str -> Option Value} {CX : CXT} {k : Nat} {fa a : Addr} {Ps : List Addr} {fd : FuncData} {x : Str} {sp : Sp} {s₁ : Shared} {vs : List Value} {ns : List Int}
  (KX : K.In s₁.heap) (hKP : ∀ P ∈ Ps, K.lookup P = none) (hC : ∀ P ∈ Ps, ∃ c, codeHdIn K c P = true) (hPt : ∀ P ∈ Ps, s₁.heap.get? P = some (tabObj #[])) (hB : BMods mg s₁.heap) (hns : s₁.heap.Ns mainGlobals mg) (hb : s₁.heap.Ns builtinsNs mb) (hbb : ∀ x : Str, x ≠ "__name__" -> mb x = bootBuiltins x) (hlim : s₁.heap.NoLimit) (hg : s₁.gens = #[])
  (ha : s₁.heap.get? a = some { cls := .type "list", data := .seq vs.toArray }) (hi : IntsAre vs ns) (hl : ns.length <= sizeLine) (hr : cP k callerA)
  (F : ∀ base : Heap, K.In base -> base.Ns mainGlobals mg -> BMods mg base -> cr P w K mg base CX k fa fd [x] sp) (hbind : ∀ (s : Shared) (u : Value), BindsTo s fd ⟨[u], []⟩ [(x, u)])
  (hsp : ∀ H : Hp, vm Ps H -> (∀ P ∈ Ps, H P = some (.tbl #[])) -> br K H a (ns.map V.int) -> sp [.ref a] H (λ v _ => v = .bl true) λ _ _ _ => False)
  (hCX : ∀ H e s', CX [] H s₁ (λ _ _ _ => False) e s' -> False) :
  codeAny (model P w) callerA (.call (.ref fa) ⟨[.ref a], []⟩) (λ r s' => r = .ok (.ret (.bool true)) /\ OldK s₁.heap s'.heap /\ s'.os = s₁.os /\ AllBare s'.gens) s₁ := by
 have rv := jR hi
 have lenV := hi.length
 have haP : a ∉ Ps := λ z => by rw [hPt a z] at ha; cases ha
 have core : ∀ H : Hp, vm Ps H -> (∀ P ∈ Ps, H P = some (.tbl #[])) -> br K H a (ns.map V.int) -> iB P w H s₁.heap -> (∀ b, H b ≠ none -> b = a ∨ b ∈ Ps) -> (H a ≠ none -> K.lookup a = none) ->
   codeAny (model P w) callerA (.call (.ref fa) ⟨[.ref a], []⟩) (λ r s' => r = .ok (.ret (.bool true)) /\ OldK s₁.heap s'.heap /\ s'.os = s₁.os /\ AllBare s'.gens) s₁ := by
  intro H hO hHP hS hok hA hK
  have noA : ∀ {b : Addr} {o : Obj}, s₁.heap.get? b = some o -> (∀ xs n, o.data ≠ .seq xs n) -> (∀ xs, o.data ≠ .fields xs) -> H b = none := λ {b o} e d d' => by
   cases q : H b with
   | none => rfl
   | some u =>
    rcases hA b (by rw [q]; simp) with rfl | z
    ·rw [ha] at e; cases e; exact absurd rfl (d _ _)
    ·rw [hPt b z] at e; cases e; exact absurd rfl (d' _)
  have nsK : ∀ {b : Addr} {m : Str -> Option Value}, s₁.heap.Ns b m -> (jo s₁.heap H).Ns b m := λ {b m} ⟨o, es, ep, e, d, r⟩ => ⟨o, es, ep, iN e (noA e (by rw [d]; nofun) (by rw [d]; nofun)), d, r⟩
  have hKb : K.In (jo s₁.heap H) := λ b o e => iN (KX b o e) (by
   cases q : H b with
   | none => rfl
   | some u =>
    rcases hA b (by rw [q]; simp) with rfl | z
    ·rw [hK (by rw [q]; simp)] at e; cases e
    ·rw [hKP b z] at e; cases e)
  have hBb : BMods mg (jo s₁.heap H) := by
   obtain ⟨bm, o, b1, b2, b3, b4, b5, b6⟩ := hB
   exact ⟨bm, o, b1, b2, iN b3 (noA b3 (by rw [b6]; nofun) (by rw [b6]; nofun)), b4, b5, b6⟩
  have hM : Mod K mg (jo s₁.heap H) := ⟨hKb, nsK hns, ⟨mb, nsK hb, hbb⟩, let ⟨mc, h1, h2⟩ := hlim; ⟨mc, nsK h1, h2⟩⟩
  have e0 : pX P w K mg (jo s₁.heap H) callerA [] s₁ H := ⟨rfl, hM, λ b o e => vM e, Nat.le_of_eq (nv _ _), trivial, λ b hb => absurd (show b ∈ ([] : List Addr) from hb) (by simp), hok, .of_eq hg⟩
  refine codeAny_mono ((F _ hKb (nsK hns) hBb).run callerA [] s₁ H ⟨[.ref a], []⟩ [.ref a] [.ref a] _ _ hr e0 (hbind s₁ (.ref a)) (.cons rfl .nil) (hsp H hO hHP hS)) λ r s' h => ?_
  cases r with
  | error e => exact (hCX H e s' h).elim
  | ok fl =>
   cases fl with
   | next => exact False.elim h
   | brk => exact False.elim h
   | cont => exact False.elim h
   | ret u =>
    obtain ⟨v, H', os, bare, un, hok', r', q⟩ := h
    have q' : v = .bl true := q
    subst q'
    obtain rfl : u = Value.bool true := r'
    refine ⟨rfl, ⟨λ b o e => ?_, λ b o e => un.there b o e (by simp)⟩, os, bare⟩
    cases q : H b with
    | none => exact .inl (un.keep b o e q (by intro z; exact absurd (show b ∈ ([] : List Addr) from z) (by simp)) (by simp))
    | some u =>
     rcases hO b with z | ⟨ob, xs, z⟩ | ⟨hb, z⟩
     ·rw [q] at z; cases z
     ·have z2 := un.frzs b ob _ z
      obtain ⟨e1, _⟩ := hok b _ z
      obtain ⟨e2, _⟩ := hok' b _ z2
      rw [e] at e1; cases e1
      exact .inl e2
     ·obtain ⟨more, z2⟩ := un.tbls b _ z
      rw [hPt b hb] at e; cases e
      obtain ⟨c, hc⟩ := hC b hb
      exact .inr (.inl ⟨((codeHd_of_K KX hc).tab (hPt b hb)).isCodeTable, rfl, #[], more, rfl, hok' b _ z2⟩)
 cases hk : K.lookup a with
 | some o =>
  have e := KX a o hk
  rw [ha] at e
  cases e
  refine core (λ b => if b ∈ Ps then some (.tbl #[]) else none) (λ b => ?_) (λ P hP => h9 hP) (.inr ⟨_, vs.toArray, _, hk, rfl, rfl, rfl, by rw [i3, lenV]; exact hl, by simpa using rv⟩) (λ b u z => ?_) (λ b z => ?_) λ z => absurd (gV haP) z
  ·by_cases y : b ∈ Ps
   ·exact .inr (.inr ⟨y, h9 y⟩)
   ·exact .inl (gV y)
  ·by_cases y : b ∈ Ps
   ·have z' := (h9 y).symm.trans z
    cases z'
    exact hPt b y
   ·have z' := (gV y).symm.trans z
    cases z'
  ·by_cases y : b ∈ Ps
   ·exact .inr y
   ·exact absurd (gV y) z
 | none =>
  refine core (λ b => if b ∈ Ps then some (.tbl #[]) else if b = a then some (.frz { cls := .type "list", data := .seq vs.toArray } (.lst (ns.map V.int))) else none) (λ b => ?_) (λ P hP => h9 hP) (.inl (.inr ⟨{ cls := .type "list", data := .seq vs.toArray }, (gV haP).trans (h9 rfl)⟩)) (λ b u z => ?_) (λ b z => ?_) λ _ => hk
  ·by_cases y : b ∈ Ps
   ·exact .inr (.inr ⟨y, h9 y⟩)
   ·by_cases hb : b = a
    ·exact .inr (.inl ⟨_, _, (gV y).trans (h9 hb)⟩)
    ·exact .inl ((gV y).trans (gV hb))
  ·by_cases y : b ∈ Ps
   ·have z' := (h9 y).symm.trans z
    cases z'
    exact hPt b y
   ·by_cases hb : b = a
    ·have z' := (h9 hb).symm.trans ((gV y).symm.trans z)
     cases z'
     subst hb
     exact ⟨ha, by rw [b9]; exact hl, vs, _, rv, ha⟩
    ·have z' := (gV hb).symm.trans ((gV y).symm.trans z)
     cases z'
  ·by_cases y : b ∈ Ps
   ·exact .inr y
   ·by_cases hb : b = a
    ·exact .inl hb
    ·exact absurd ((gV y).trans (gV hb)) z
theorem walk_ofTs {l : PySem.W.OpenLaw} {n k : Nat} {Ps : List Addr} {q : Program} {loose : List Str} {XP : (Str -> Option Value) -> Heap -> Prop} {YP : World -> Heap -> Prop} {d : DefRec} {K : Params -> Fg} {CX : World -> CXT} {sp : World -> Sp} {x : Str}
  (hn : l.most = some n) (hn2 : n <= sizeLine) (hdf : d.params.defaults = []) (hr : cP k callerA)
  (hY : ∀ (w : World) (h : Heap), YP w h -> (K w.params).In h /\ ∀ P ∈ Ps, h.get? P = some (tabObj #[])) (hKP : ∀ w : World, ∀ P ∈ Ps, (K w.params).lookup P = none)
  (F : ∀ (w : World) (mg : Str -> Option Value) (fa : Addr) (h : Heap), (K w.params).In h -> h.Ns mainGlobals mg -> mg d.name = some (.ref fa) ->
   ∃ fd : FuncData, (∀ (s : Shared) (u : Value), BindsTo s fd ⟨[u], []⟩ [(x, u)]) /\ (∀ P ∈ Ps, ∃ c, codeHdIn (K w.params) c P = true) /\
    ∀ base : Heap, (K w.params).In base -> base.Ns mainGlobals mg -> BMods mg base -> cr l.prog w (K w.params) mg base (CX w) k fa fd [x] (sp w))
  (hsp : ∀ (w : World) (H : Hp) (a : Addr) (ns : List Int), ns.length <= n -> (∀ x ∈ ns, My.Bd 1048576 x) -> vm Ps H -> (∀ P ∈ Ps, H P = some (.tbl #[])) -> br (K w.params) H a (ns.map V.int) -> sp w [.ref a] H (λ v _ => v = .bl true) λ _ _ _ => False)
  (hCX : ∀ (w : World) (H : Hp) (s : Shared) (e : Value) (s' : Shared), CX w [] H s (λ _ _ _ => False) e s' -> False) :
  PySem.W.WalkO q loose XP YP l.row.toRowW d [] (λ f vs => PySem.call f vs) := by
 refine pI hn hdf λ w s₀ s₁ mg mb fa o pm cd doc a vs ns G Y ho hd hcd hmg hobj hints hlen hbits hg => ?_
 obtain ⟨KX, hPt⟩ := hY w _ Y
 obtain ⟨fd, hb, hC, hF⟩ := F w mg fa _ KX G.T.g hmg
 have hB : BMods mg s₁.heap := by
  obtain ⟨bm, ob, b1, b2, b3, b4, b5, b6⟩ := G.T.bmain
  exact ⟨bm, ob, b1, b2, b3, b4, b5, b6⟩
 exact uA KX (hKP w) hC hPt hB G.T.g G.T.b G.T.builtins G.T.nolimit hg hobj hints (lS hlen hn2) hr hF hb (λ H hO hP hS => hsp w H a ns hlen hbits hO hP hS) λ H e s' => hCX w H s₁ e s'
end L2
namespace L2
open PySem PySem.Spec PyProof.Rows
variable {H : Hp}
theorem ky.step {Pt P2 : Addr} {pos p2 : Pos} {q q2 : Str} {H' : Hp} (t : ky P2 p2 q2 H) (st : dG Pt pos q H H') (ne : P2 ≠ Pt) : ky P2 p2 q2 H' := by
 cases st with
 | hit => exact t
 | @new ps more c' hP hn ht =>
  obtain ⟨ps2, e, a, b⟩ := t
  refine ⟨ps2, by rw [ag (aH e hn), ag ne]; exact e, a, b.imp id λ ⟨c2, x, y⟩ => ⟨c2, x, ?_⟩⟩
  rw [ag (aH y hn), ag (gX y hP nofun)]
  exact y
noncomputable abbrev Tabs := List (Addr × Pos × Str)
noncomputable def GG (K : Fg) (F H : Hp) (L : Tabs) : Bk where
 K := K
 F0 := F
 H0 := H
 W := λ p => p ∈ L.map (·.1)
 J := λ H => ∀ x ∈ L, ky x.1 x.2.1 x.2.2 H
 rt := 0
 jl := λ H H' e x t y hy => by
  obtain ⟨ps, h, ht, hc⟩ := t y hy
  exact ⟨ps, (e y.1 (List.mem_map_of_mem hy)).symm.trans h, ht, hc.imp id λ ⟨c', a, b⟩ => ⟨c', a, x _ _ b⟩⟩
 jm := λ H p t hw => by
  obtain ⟨y, hy, rfl⟩ := List.mem_map.mp hw
  obtain ⟨ps, h, _⟩ := t y hy
  exact ⟨_, h, trivial⟩
theorem zB {K : Fg} {F : Hp} {L : Tabs} (nd : (L.map (·.1)).Nodup) {x : Addr × Pos × Str} (hx : x ∈ L) : cw x.1 x.2.1 x.2.2 (GG K F H L) where
 w := List.mem_map_of_mem hx
 t := λ _ h => h x hx
 s := λ H H' st h y hy => by
  by_cases e : y = x
  ·subst e
   cases st with
   | hit => exact h y hy
   | new _ _ t => exact t
  ·refine (h y hy).step st λ z => e ?_
   have pw := List.pairwise_iff_getElem.mp nd
   obtain ⟨i, hi, ei⟩ := List.getElem_of_mem hy
   obtain ⟨j, hj, ej⟩ := List.getElem_of_mem hx
   have hi' : i < (L.map (·.1)).length := by rw [b9]; exact hi
   have hj' : j < (L.map (·.1)).length := by rw [b9]; exact hj
   have e1 : (L.map (·.1))[i] = y.1 := by rw [List.getElem_map, ei]
   have e2 : (L.map (·.1))[j] = x.1 := by rw [List.getElem_map, ej]
   rcases Nat.lt_trichotomy i j with y1 | y1 | y1
   ·exact absurd (e1.trans (z.trans e2.symm)) (pw i j hi' hj' y1)
   ·subst y1; exact ei.symm.trans ej
   ·exact absurd (e2.trans (z.symm.trans e1.symm)) (pw j i hj' hi' y1)
theorem tV {K : Fg} {a : Addr} {L : Tabs} {ns : List Int} {Q : VK} (nd : (L.map (·.1)).Nodup) (hS : br K H a (ns.map V.int)) (hP : ∀ p ∈ L.map (·.1), H p = some (.tbl #[])) (hq : ∀ H', Q (.bl true) H') (N : List Str) (t : TS)
  (h : ∀ (B : Bk) (D : cQ), B.K = K -> (∀ x ∈ L, cw x.1 x.2.1 x.2.2 B) -> (∀ H', D.rt (.bl true) H') -> vA B D t (cJ N.length [.fz (.lst (ns.map Tr.int))])) : t { nx := λ _ H' => Q .non H', rt := Q } (bN N [.ref a]) H := by
 have sub : am (λ b => if b ∈ L.map (·.1) then none else H b) H := λ b o e => by
  by_cases z : b ∈ L.map (·.1)
  ·have e := (h9 z).symm.trans e
   cases e
  ·exact (gV z).symm.trans e
 have hS' : br K (λ b => if b ∈ L.map (·.1) then none else H b) a (ns.map V.int) := by
  have na : ∀ u, H a = some u -> (∀ ps, u ≠ .tbl ps) -> a ∉ L.map (·.1) := λ u e d z => by
   rw [hP a z] at e
   cases e
   exact absurd rfl (d _)
  rcases hS with (z | ⟨o, z⟩) | z
  ·exact .inl (.inl ((gV (na _ z nofun)).trans z))
  ·exact .inl (.inr ⟨o, (gV (na _ z nofun)).trans z⟩)
  ·exact .inr z
 generalize hG : (λ b => if b ∈ L.map (·.1) then none else H b) = G at sub hS'
 have gN : ∀ p, p ∈ L.map (·.1) -> G p = none := λ p hp => by rw [<- hG]; exact h9 hp
 exact h (GG K G H L) _ rfl (λ x hx => zB nd hx) hq _ _ H (iU (B := GG K G H L) ⟨sub, λ p hw => by
  show H p ≠ none
  rw [hP p hw]; nofun, λ p hw => gN p hw, λ x hx => ⟨#[], hP x.1 (List.mem_map_of_mem hx), trivial, .inl rfl⟩⟩ (.cons (a := .fz _) (.lst hS' (IsL.ofInts ns)) .nil))
theorem rX {X : Cx} {t1 t2 t3 : Str} {sc : Scope} {fr : List (Str × Nat)} {osc : Scope} {N : List Str} (ho : X.env.scope = osc) (hN : X.N = N) (h1 : dX osc N t1 sc fr = true) (h2 : dX osc N t2 sc fr = true) (h3 : dX osc N t3 sc fr = true) (hne : t1 ≠ t2) (hn3 : t1 ≠ t3) (hn4 : t2 ≠ t3) : cF X [t1, t2, t3] sc fr /\ sc.names.lookup t1 = some .local /\ sc.names.lookup t2 = some .local /\ sc.names.lookup t3 = some .local := by
 have o1 := cY ho hN h1
 have o2 := cY ho hN h2
 have o3 := cY ho hN h3
 refine ⟨⟨o1.kind, o1.nocell, o1.locs, o1.fre, ?_, o1.vis⟩, o1.tgl, o2.tgl, o3.tgl⟩
 obtain ⟨a1, a2⟩ := nQ.mp o1.nd
 obtain ⟨b1, b2⟩ := nQ.mp o2.nd
 exact nQ.mpr ⟨λ m => (j3.mp m).elim hne λ m => (j3.mp m).elim hn3 a1, nQ.mpr ⟨λ m => (j3.mp m).elim hn4 b1, o3.nd⟩⟩
theorem Aj {X : Cx} {elt iter c : Expr} {t1 t2 t3 : Str} {x1 : _} {p1 p2 p3 p4 pos : Pos} {sc : Scope} {fr : List (Str × Nat)} {wi : TI} {te : TE} {tc : TT} (hc : X.calm = true) (ok : cF X [t1, t2, t3] sc fr /\ sc.names.lookup t1 = some .local /\ sc.names.lookup t2 = some .local /\ sc.names.lookup t3 = some .local)
  (hi : PI X (.Tuple [.Name t1 p1, .Name t2 p2, .Name t3 p3] x1 p4) iter wi) (ht : ∀ cl C s3 H3 fp, PT (X.blk ([t1, t2, t3] ++ fr.map (·.1)) sc cl C s3 H3 fp) c tc) (he : ∀ cl C s3 H3 fp, PE (X.blk ([t1, t2, t3] ++ fr.map (·.1)) sc cl C s3 H3 fp) elt te) (hs : ∀ x, foldedSetIterable iter X.env x = pure x := by intro _; rfl) :
  PE X (.ListComp elt [⟨.Tuple [.Name t1 p1, .Name t2 p2, .Name t3 p3] x1 p4, iter, [c], 0⟩] sc pos) (mh 3 fr wi (qk X.K 3 (dB (bu 0) (dB (bu 1) (dB (bu 2) gNil)))) tc te) :=
 pJ (tgs := [t1, t2, t3]) hc ok.1 hi (λ _ _ _ _ _ => qy hc (bE (aM ok.1.nd rfl (.inl (ld ok.2.1)) (.inr (ld ok.2.1))) (bE (aM ok.1.nd rfl (.inl (ld ok.2.2.1)) (.inr (ld ok.2.2.1))) (bE (aM ok.1.nd rfl (.inl (ld ok.2.2.2)) (.inr (ld ok.2.2.2))) lc)))) (λ _ _ _ _ _ => lg (ht _ _ _ _ _)) he hs
section
variable {B : Bk} {τ τi : TSt} {Φ : TK} {fr : List (Str × Nat)} {wi : TI} {te : TE} {tc : TT} {g : TG} {k : Nat}
theorem IM {K : Fg} (hK : K = B.K) (h : IV B wi τ λ ts τ1 => ∃ τi, mS τ1 fr τi /\ ts.length <= 100000 /\ ∃ P : Nat -> Option Tr -> Prop, (∀ i t, ts[i]? = some t -> ∃ a b c, t = .tup [a, b, c] /\ TV B tc (.fz a :: .fz b :: .fz c :: τi) λ b τ2 => if b = true then EV B te τ2 λ k τ3 => oW k τ3 λ o _ => P i (some o) else P i none) /\ ∀ os : List (Option Tr), os.length = ts.length -> (∀ i o, os[i]? = some o -> P i o) -> Φ (.nw (.lst (os.filterMap id))) τ1) : EV B (mh 3 fr wi (qk K 3 (dB (bu 0) (dB (bu 1) (dB (bu 2) gNil)))) tc te) τ Φ := by
 subst hK
 refine Ac (λ t as => ∃ a b c, t = .tup [a, b, c] /\ as = [a, b, c]) (λ t as e => by obtain ⟨a, b, c, _, rfl⟩ := e; rfl) (λ t as e F H v σb S i hi hk q => ?_) ?_
 ·obtain ⟨a, b, c, rfl, rfl⟩ := e
  cases hi with
  | tup s l =>
   cases l with
   | cons h1 l =>
    cases l with
    | cons h2 l =>
     cases l with
     | cons h3 l =>
      cases l
      refine ⟨_, _, rfl, i.tup s, rfl, _, _, rfl, _, _, rfl, _, _, rfl, rfl, ?_⟩
      have := q _ (.cons h1 (.cons h2 (.cons h3 .nil)))
      match σb, hk with
      | x :: y :: z :: r, _ => exact this
 ·intro Z F H R r c
  refine h Z F H R r λ J F' H' ts τ' f r' it ⟨τi, a, b, P, st, fin⟩ => c J F' H' ts τ' f r' it ⟨τi, a, b, P, λ i t e => ?_, fin⟩
  obtain ⟨a, b, c, e, tv⟩ := st i t e
  exact ⟨[a, b, c], ⟨a, b, c, e, rfl⟩, tv⟩
end
section
variable {M : Model} {A : Around} {E : Value -> Shared -> Prop} {s : Shared}
theorem lM : ∀ (names : List (Str × NameKind)) (cells : List (Str × Addr)), (∀ y ∈ names, y.2 ≠ .cell) ->
  (forIn names cells (λ (x : Str × NameKind) (__s : List (Str × Addr)) => (match x with
   | (name, kind) => if (kind == NameKind.cell) = true then (do let __do_lift <- alloc { cls := Value.type "cell", data := Data.cell none }; pure (ForInStep.yield ((name, __do_lift) :: __s))) else pure (ForInStep.yield __s) : Sem (ForInStep (List (Str × Addr))))) : Sem (List (Str × Addr))) = pure cells
 | [], _, _ => rfl
 | (n, k) :: r, cells, h => by
  have hk : ¬ (k == NameKind.cell) = true := λ z => h (n, k) i9 (by simpa using z)
  rw [List.forIn_cons]
  show (if (k == NameKind.cell) = true then _ else pure (ForInStep.yield cells) : Sem _) >>= _ = _
  rw [gV hk]
  exact lM r cells λ y hy => h y (j7 _ hy)
theorem nA {x : Str} {n2 : List (Str × NameKind)} (h2 : ∀ y ∈ n2, y.2 ≠ .cell) : ∀ (n1 : List (Str × NameKind)) (cells : List (Str × Addr)), (∀ y ∈ n1, y.2 ≠ .cell) ->
  (forIn (n1 ++ (x, .cell) :: n2) cells (λ (x : Str × NameKind) (__s : List (Str × Addr)) => (match x with
   | (name, kind) => if (kind == NameKind.cell) = true then (do let __do_lift <- alloc { cls := Value.type "cell", data := Data.cell none }; pure (ForInStep.yield ((name, __do_lift) :: __s))) else pure (ForInStep.yield __s) : Sem (ForInStep (List (Str × Addr))))) : Sem (List (Str × Addr))) = (do let a <- alloc { cls := Value.type "cell", data := Data.cell none }; pure ((x, a) :: cells))
 | [], cells, _ => by
  rw [List.nil_append, List.forIn_cons]
  show (do let r <- (do let a <- alloc { cls := Value.type "cell", data := Data.cell none }; pure (ForInStep.yield ((x, a) :: cells)) : Sem (ForInStep (List (Str × Addr)))); match r with
   | .done b => pure b
   | .yield b => forIn n2 b _) = _
  simp only [bind_assoc, pure_bind]
  congr 1
  funext a
  exact lM n2 _ h2
 | (n, k) :: r, cells, h => by
  have hk : ¬ (k == NameKind.cell) = true := λ z => h (n, k) i9 (by simpa using z)
  rw [List.cons_append, List.forIn_cons]
  show (if (k == NameKind.cell) = true then _ else pure (ForInStep.yield cells) : Sem _) >>= _ = _
  rw [gV hk]
  exact nA h2 r cells λ y hy => h y (j7 _ hy)
theorem qe {n1 n2 : List (Str × NameKind)} {x : Str} {scope : Scope} {globals : Addr} {closure : List (Str × Addr)} {qual : Str} {func : Option Addr} {code : Value} {around : Option Env} {builtins : Addr} {Q : Env -> Shared -> Prop}
  (hn : scope.names = n1 ++ (x, .cell) :: n2) (h1 : ∀ y ∈ n1, y.2 ≠ .cell) (h2 : ∀ y ∈ n2, y.2 ≠ .cell)
  (q : Q (newEnv scope s.heap.objs.size globals ((x, s.heap.objs.size + 1) :: closure) qual func code around builtins) { s with heap := (s.heap.push { cls := Value.type (if around.isSome = true then "dict" else "frame"), data := Data.dict #[] }).push { cls := .type "cell", data := .cell none } }) :
  wpAny M A (newFunctionEnv scope globals closure [] qual func code around builtins) Q E s := by
 unfold newFunctionEnv
 refine bf (wpAny_alloc ?_)
 refine bf ?_
 rw [hn]
 have := nA (x := x) h2 n1 closure h1
 refine Eq.mp (congrArg (λ m => wpAny M A m _ E _) this.symm) ?_
 refine bf (wpAny_alloc (i7 ?_))
 refine bf (i7 (i7 ?_))
 have hz : ∀ o : Obj, (s.heap.push o).objs.size = s.heap.objs.size + 1 := λ o => by first | exact Heap.size_push .. | simp [Heap.push] | rfl
 rw [<- hz { cls := Value.type (if around.isSome = true then "dict" else "frame"), data := Data.dict #[] }] at q
 cases around <;> exact q
end
structure qJ (X : Cx) (tg : Str) (sc : Scope) (fr : List (Str × Nat)) (n1 n2 : List (Str × NameKind)) : Prop where
 kind : sc.kind = .function
 nam : sc.names = n1 ++ (tg, .cell) :: n2
 no1 : ∀ y ∈ n1, y.2 ≠ .cell
 no2 : ∀ y ∈ n2, y.2 ≠ .cell
 locs : ∀ y ∈ sc.names, y.2 = .local -> sc.names.lookup y.1 = some .local
 tgc : sc.names.lookup tg = some .cell
 fre : ∀ y ∈ sc.names, y.2 = .free -> X.env.scope.names.lookup y.1 = some .cell ∨ X.env.scope.names.lookup y.1 = some .free
 nd : (tg :: fr.map (·.1)).Nodup
 vis : ∀ p ∈ fr, X.N[p.2]? = some p.1 /\ (X.env.scope.names.lookup p.1 = some .cell ∨ X.env.scope.names.lookup p.1 = some .free) /\ sc.names.lookup p.1 = some .free
noncomputable abbrev Cx.blkC (X : Cx) (tg : Str) (Nc : List Str) (sc : Scope) (cl : List (Str × Addr)) (C : Addr) (s3 : Shared) (H3 : Hp) (fp : List Addr) : Cx :=
 { X with N := Nc, s₀ := s3, H₀ := H3, env := compEnvC sc cl C X.env, outer := X.stack, ex := fp, fn := λ y => y == tg, pn := [], xe := λ _ _ => False }
theorem eF {env : Env} {tg : Str} : ∀ {names : List (Str × NameKind)} {x : Str} {k : NameKind}, (∀ y ∈ names, y.2 = .cell -> y.1 = tg) -> (k = .cell ∨ k = .free) ->
  (names.map λ (n, k) => if (k == NameKind.free && env.scope.kind == .function && env.kindOf n == some .cell) then (n, NameKind.cell) else (n, k)).lookup x = some k -> x = tg ∨ ∃ y ∈ names, y.1 = x /\ y.2 = .free
 | [], x, k, _, _, e => by simp at e
 | (n, k') :: r, x, k, hn, hk, e => by
  have ih := @eF env tg r x k (λ y hy => hn y (j7 _ hy)) hk
  rw [j8] at e
  by_cases hc : (k' == NameKind.free && env.scope.kind == .function && env.kindOf n == some .cell) = true
  ·simp only [hc, if_true, nR] at e
   cases q : x == n with
   | true =>
    have hf : k' = .free := by
     simp only [Bool.and_eq_true, beq_iff_eq] at hc
     exact hc.1.1
    exact .inr ⟨(n, k'), i9, (eq_of_beq q).symm, hf⟩
   | false =>
    rw [q] at e
    rcases ih e with z | ⟨y, h1, h2⟩
    ·exact .inl z
    ·exact .inr ⟨y, j7 _ h1, h2⟩
  ·simp only [hc, qx, if_false, nR] at e
   cases q : x == n with
   | true =>
    rw [q] at e
    have ek : k' = k := j9 e
    rcases hk with z | z
    ·exact .inl ((eq_of_beq q).trans (hn (n, k') i9 (ek.trans z)))
    ·exact .inr ⟨(n, k'), i9, (eq_of_beq q).symm, ek.trans z⟩
   | false =>
    rw [q] at e
    rcases ih e with z | ⟨y, h1, h2⟩
    ·exact .inl z
    ·exact .inr ⟨y, j7 _ h1, h2⟩
theorem iY {env : Env} : ∀ {names : List (Str × NameKind)} {x : Str}, names.lookup x = some .cell ->
  (names.map λ (n, k) => if (k == NameKind.free && env.scope.kind == .function && env.kindOf n == some .cell) then (n, NameKind.cell) else (n, k)).lookup x = some .cell
 | [], _, e => by simp at e
 | (n, k') :: r, x, e => by
  have ih := @iY env r x
  rw [j8]
  rw [nR] at e
  by_cases hc : (k' == NameKind.free && env.scope.kind == .function && env.kindOf n == some .cell) = true
  ·simp only [hc, if_true, nR]
   cases q : x == n with
   | true => rfl
   | false => rw [q] at e; exact ih e
  ·simp only [hc, qx, if_false, nR]
   cases q : x == n with
   | true => rw [q] at e; exact e
   | false => rw [q] at e; exact ih e
section
variable {X : Cx} {pins : Pn} {Z : St} {H : Hp} {s3 s4 : Shared} {tg : Str} {sc : Scope} {fr : List (Str × Nat)} {fp : List Addr} {cl : List (Str × Addr)} {n1 n2 : List (Str × NameKind)}
theorem ut (ok : qJ X tg sc fr n1 n2) (I : ay X pins Z H s3) (hf : ∀ b ∈ fp, dS X pins H b) (hfo : ∀ b ∈ fp, ∃ o, s3.heap.get? b = some o) (hk : ∀ x c, cl.lookup x = some c -> X.env.cells.lookup x = some c) (hc : ∀ y ∈ sc.names, y.2 = .free -> ∃ c, cl.lookup y.1 = some c)
  {h4 : Heap} {t4 : Nat} {cA : Addr} (hcA : s3.heap.objs.size <= cA) (hcn : cA ≠ s3.heap.objs.size) (hcell : h4.IsCell cA none) (hns : ∃ m, h4.Ns s3.heap.objs.size m) (hkeep : ∀ b o, s3.heap.get? b = some o -> h4.get? b = some o) :
  ay (X.blkC tg (tg :: fr.map (·.1)) sc ((tg, cA) :: cl) s3.heap.objs.size s3 H fp) [] (none :: dy Z fr) H { s3 with heap := h4, toks := t4 } := by
 have self : ((tg, cA) :: cl).lookup tg = some cA := by simp
 have tail : ∀ {x}, x ≠ tg -> ((tg, cA) :: cl).lookup x = cl.lookup x := λ {x} h => by rw [nR, show (x == tg) = false by simpa using h]
 have onlyC : ∀ y ∈ sc.names, y.2 = .cell -> y.1 = tg := λ y hy hc' => by
  rw [ok.nam] at hy
  rcases rl.mp hy with z | z
  ·exact absurd hc' (ok.no1 y z)
  ·rcases j3.mp z with z | z
   ·rw [z]
   ·exact absurd hc' (ok.no2 y z)
 have hasc : ∀ x, ((relabel sc X.env).names.lookup x = some .cell ∨ (relabel sc X.env).names.lookup x = some .free) -> ∃ c, ((tg, cA) :: cl).lookup x = some c := λ x hx => by
  by_cases hxt : x = tg
  ·rw [hxt]; exact ⟨cA, self⟩
  have : x = tg ∨ ∃ y ∈ sc.names, y.1 = x /\ y.2 = .free := by
   rcases hx with z | z
   ·exact eF onlyC (.inl rfl) z
   ·exact eF onlyC (.inr rfl) z
  rcases this with z | ⟨y, h1, h2, h3⟩
  ·exact absurd z hxt
  ·subst h2
   rw [tail hxt]
   exact hc y h1 h3
 have old : ∀ {x c}, cl.lookup x = some c -> c ≠ cA := λ {x c} e z => by
  obtain ⟨v, o, ho, _⟩ := I.cell x c (hk x c e)
  exact absurd (gS (z ▸ ho)) (Nat.not_lt_of_le hcA)
 have split : ∀ {x c}, ((tg, cA) :: cl).lookup x = some c -> (x = tg /\ c = cA) ∨ (x ≠ tg /\ cl.lookup x = some c) := λ {x c} e => by
  by_cases h : x = tg
  ·rw [h, self] at e
   exact .inl ⟨h, (j9 e).symm⟩
  ·rw [tail h] at e
   exact .inr ⟨h, e⟩
 have cell4 : ∀ x c, cl.lookup x = some c -> ∀ v, s3.heap.IsCell c v -> h4.IsCell c v := λ x c _ v ⟨o, ho, hd⟩ => ⟨o, hkeep c o ho, hd⟩
 have fresh : H s3.heap.objs.size = none := I.hok.fresh (eT _)
 refine ⟨⟨I.mod, ok.kind, I.ok.glob, I.ok.blt, eT _, λ x y c e1 e2 => ?_, hasc, (λ x c e e2 => ?_), I.ok.hd, I.ok.frames, .inl rfl, λ b hb => ?_, I.bs, lS I.ok.bsz I.sz, λ b o e hb => ?_, λ b hb z => ?_, I.stack, I.stkFree⟩,
  rfl, I.bare, Un.kept hkeep, ?_, λ x c e => ?_, fresh, λ x c e => ?_, (λ p hp => nomatch hp), I.hok.kept hkeep, ?_⟩
 ·rcases split e1 with ⟨z1, z2⟩ | ⟨z1, z2⟩
  ·rcases split e2 with ⟨y1, y2⟩ | ⟨y1, y2⟩
   ·rw [z1, y1]
   ·exact absurd z2 (old y2)
  ·rcases split e2 with ⟨y1, y2⟩ | ⟨y1, y2⟩
   ·exact absurd y2 (old z2)
   ·exact I.ok.inj x y c (hk x c z2) (hk y c y2)
 ·rcases split e2 with ⟨z1, z2⟩ | ⟨z1, z2⟩
  ·show s3.heap.objs.size <= c
   rw [z2]; exact hcA
  ·exact absurd (eq_of_beq e) z1
 ·obtain ⟨f0, f1, f2, f3, f4, f5⟩ := hf b hb
  refine ⟨λ z => ?_, λ x c e => ?_⟩
  rotate_left
  ·rcases split e with ⟨z1, z2⟩ | ⟨z1, z2⟩
   ·obtain ⟨o, eo⟩ := hfo b hb
    exact λ z => absurd (gS eo) (by rw [<- z, z2]; exact Nat.not_lt_of_le hcA)
   ·exact f4 x c (hk x c z2)
  obtain ⟨o, eo⟩ := hfo b hb
  have z' : b = s3.heap.objs.size := z
  rw [z'] at eo
  exact absurd (gS eo) (Nat.lt_irrefl _)
 ·obtain ⟨f0, f1, f2, f3, f4, f5⟩ := hf b hb
  rcases f3 with z | z
  ·exact I.ok.noex b o e z
  ·exact absurd (j6 (j6 (gS e) I.ok.bsz) z) (Nat.lt_irrefl _)
 ·obtain ⟨f0, f1, f2, f3, f4, f5⟩ := hf b hb
  rcases j3.mp (I.stkSub b z) with q | q
  ·exact f1 q
  ·exact f2 q
 ·obtain ⟨m, hn⟩ := hns
  obtain ⟨m0, _, hl0⟩ := I.loc
  refine ⟨m, hn, λ i x v e1 e2 _ => ?_⟩
  cases i with
  | zero => cases e2
  | succ i =>
   have e2' : ((fr.map λ p => (Z[p.2]?).join))[i]? = some (some v) := e2
   have e1' : (fr.map (·.1))[i]? = some x := e1
   rw [kT] at e1' e2'
   cases q : fr[i]? with
   | none => rw [q] at e1'; cases e1'
   | some p =>
    rw [q] at e1' e2'
    have ex : p.1 = x := j9 e1'
    have ev : (Z[p.2]?).join = some v := j9 e2'
    obtain ⟨g1, g2, g3⟩ := ok.vis p (i8 q)
    have ev' : Z[p.2]? = some (some v) := by
     cases z : Z[p.2]? with
     | none => rw [z] at ev; cases ev
     | some w => rw [z] at ev; exact congrArg some ev
    have gv : Er X.env.scope p.1 := g2.elim (λ z => .inr (.inl z)) λ z => .inr (.inr z)
    obtain ⟨u, ru, lk⟩ := hl0 p.2 p.1 v g1 ev' gv
    subst ex
    refine ⟨u, ru, .inr ⟨bQ g3, ?_⟩⟩
    rcases lk with ⟨k1, _⟩ | ⟨_, c, ec, hcell2⟩
    ·rcases g2 with z | z
     ·have k2 : X.env.scope.names.lookup p.1 = some .local := k1
      rw [z] at k2; cases k2
     ·have k2 : X.env.scope.names.lookup p.1 = some .local := k1
      rw [z] at k2; cases k2
    ·have pn : p.1 ≠ tg := λ z => by
      have nd := ok.nd
      rw [nQ] at nd
      exact nd.1 (by rw [<- z]; exact List.mem_map_of_mem (i8 q))
     obtain ⟨c', ec2⟩ := hasc p.1 (bQ g3)
     have ec' := ec2
     rw [tail pn] at ec'
     have e3 := hk _ _ ec'
     rw [ec] at e3
     cases e3
     exact ⟨c, ec2, cell4 _ c ec' _ hcell2⟩
 ·rcases split e with ⟨z1, z2⟩ | ⟨z1, z2⟩
  ·rw [z2]; exact ⟨none, hcell⟩
  ·obtain ⟨v, z⟩ := I.cell x c (hk x c z2)
   exact ⟨v, cell4 x c z2 v z⟩
 ·rcases split e with ⟨z1, z2⟩ | ⟨z1, z2⟩
  ·rw [z2]; exact I.hok.fresh hcA
  ·exact I.freeC x c (hk x c z2)
 ·show (none :: dy Z fr).length = (tg :: fr.map (·.1)).length
  simp [dy]
end
section
variable {X : Cx} {elt iter : Expr} {x : Str} {px pos : Pos} {sc : Scope} {fr : List (Str × Nat)} {wi : TI} {te : TE}
theorem xA {n1 n2 : List (Str × NameKind)} {y : Str} {py spos : Pos} {iy : Nat} (hN : X.N.Nodup) (hi' : X.N[iy]? = some y) (hy : CG X.env.scope y) (hc : X.calm = true) (ok : qJ X x sc fr n1 n2) (hi : PI X (.Name x px) iter wi) (he : ∀ cl C s3 H3 fp, PE (X.blkC x (x :: fr.map (·.1)) sc cl C s3 H3 fp) elt te) (hs : ∀ x, foldedSetIterable iter X.env x = pure x := by intro _; rfl)
  (hsw : swapsWith (.ListComp elt [⟨.Name x px, iter, [], 0⟩] sc pos) (some (.Name y py)) spos.line X.env = pure true := by rfl) (hfn : X.fn y = true ∨ X.env.scope.names.lookup y = some .local := by first | exact .inl rfl | exact .inr rfl | assumption) :
  PS X (.Assign [.Name y py] (.ListComp elt [⟨.Name x px, iter, [], 0⟩] sc pos) spos) (uZ iy fr wi te) := by
 intro pins s Z H D I h
 obtain ⟨cl, ecl, hk, hcx⟩ := fv (env := X.env) (sc := sc) (λ y hy yf => I.ok.has y.1 (ok.fre y hy yf))
 rw [exec_Assign_Name_used _ _ _ _ hsw]
 refine bf (wpAny_standAt (bf ?_))
 show wpAny _ X.A (do let _ <- comprehension (.ListComp elt [⟨.Name x px, iter, [], 0⟩] sc pos) sc X.env _ (newList []) false (eval iter X.env) (some (assign (.Name y py) X.env))) _ _ s
 refine bf (mW (wpAny_comprehension_free (use := some (assign (.Name y py) X.env)) (Q := λ _ s' => SP X pins D .next s') rfl hs ecl ok.kind ok.locs ?_) (λ _ s' z => i7 (i7 z)) λ _ _ z => z)
 refine (bO (hi pins s Z H _ I h) λ v s1 h1 => bO h1 λ itv s2 h2 => ?_)
 obtain ⟨it, fp, tn, J, H2, e, I2, T, st2, f2, q⟩ := h2
 subst e
 have hacc : H2 s2.heap.objs.size = none := I2.hok.fresh (eT _)
 obtain ⟨W, ⟨m0, w0⟩, turn⟩ := q s2.heap.objs.size hacc
 refine wpAny_newObj_type ?_
 have I3 := I2.laid (a := s2.heap.objs.size) (o := .lst []) (h' := s2.heap.push { cls := .type "list", data := .seq ([] : List Value).toArray }) (t' := s2.toks) (λ b u e => cp _ e) (eT _) ⟨nW _, [], 0, .nil, kH _ rfl⟩
 refine qe ok.nam ok.no1 ok.no2 ?_
 generalize hs3 : ({ s2 with heap := s2.heap.push { cls := .type "list", data := .seq ([] : List Value).toArray } } : Shared) = s3 at *
 generalize hh4 : (s3.heap.push { cls := Value.type (if (some X.env).isSome = true then "dict" else "frame"), data := Data.dict #[] }).push { cls := .type "cell", data := .cell none } = h4
 have zp : ∀ (h : Heap) (o : Obj), (h.push o).objs.size = h.objs.size + 1 := λ h o => by first | exact Heap.size_push .. | simp [Heap.push] | rfl
 have keep4 : ∀ b o, s3.heap.get? b = some o -> h4.get? b = some o := λ b o e => by rw [<- hh4]; exact cp _ (cp _ e)
 have hns4 : ∃ m, h4.Ns s3.heap.objs.size m := by
  rw [<- hh4]
  exact ⟨_, (Heap.Ns.new s3.heap _).keeps λ b o e => cp _ e⟩
 have hcell4 : h4.IsCell (s3.heap.objs.size + 1) none := by
  rw [<- hh4, <- zp s3.heap { cls := Value.type (if (some X.env).isSome = true then "dict" else "frame"), data := Data.dict #[] }]
  exact ⟨_, kH _ rfl, rfl⟩
 have keep3 : ∀ b o, s2.heap.get? b = some o -> s3.heap.get? b = some o := λ b o e => by rw [<- hs3]; exact cp _ e
 have hfo : ∀ b ∈ fp, ∃ o, s3.heap.get? b = some o := λ b hb => by
  obtain ⟨o, eo, _⟩ := T.obj 0 _ st2 b hb
  exact ⟨o, keep3 b o eo⟩
 have f3 : ∀ b ∈ fp, dS X pins (upd H2 s2.heap.objs.size (.lst [])) b := λ b hb => by
  obtain ⟨o, eo, _⟩ := T.obj 0 _ st2 b hb
  exact ⟨by rw [ag (nh (gS eo))]; exact (f2 b hb).1, (f2 b hb).2⟩
 have I4 := ut (t4 := s3.toks) ok I3 f3 hfo hk hcx (cA := s3.heap.objs.size + 1) (Nat.le_succ _) (Nat.succ_ne_self _) hcell4 hns4 keep4
 have st4 : tn 0 h4 := T.keep 0 s2.heap h4 st2 λ b hb o e => keep4 b o (keep3 b o e)
 have stat : ∀ {H' : Hp}, (∀ b ∈ fp, H' b = none) -> ∀ b ∈ fp, dS (X.blkC x (x :: fr.map (·.1)) sc ((x, s3.heap.objs.size + 1) :: cl) s3.heap.objs.size s3 (upd H2 s2.heap.objs.size (.lst [])) fp) [] H' b := λ hn b hb =>
  ⟨hn b hb, (I4.ok.exf b hb).1, I4.ok.exfs b hb, .inl hb, (I4.ok.exf b hb).2, λ p hp => nomatch hp⟩
 have lk : (relabel sc X.env).names.lookup x = some .cell := iY ok.tgc
 have loop : codeAny (model X.prog X.w) X.A (.compLoop (.ListComp elt [⟨.Name x px, iter, [], 0⟩] sc pos) 0 (.ref it) (.ref s2.heap.objs.size) (compEnvC sc ((x, s3.heap.objs.size + 1) :: cl) s3.heap.objs.size X.env))
   (compPost (model X.prog X.w) X.A X.xe (some (assign (.Name y py) X.env)) (λ _ s' => SP X pins D .next s') (.ref s2.heap.objs.size) s3.heap.objs.size) { s3 with heap := h4, toks := s3.toks } := by
  refine oy (λ n s' => ∃ i x0 H', ay (X.blkC x (x :: fr.map (·.1)) sc ((x, s3.heap.objs.size + 1) :: cl) s3.heap.objs.size s3 (upd H2 s2.heap.objs.size (.lst [])) fp) [] (x0 :: dy Z fr) H' s' /\ tn i s'.heap /\ (∀ b ∈ fp, H' b = none) /\ W i n H') ?_ m0
   ⟨0, none, _, I4, st4, λ b hb => (f3 b hb).1, w0⟩
  rintro n s5 ⟨i, x0, H5, I5, st5, fr5, w5⟩
  rcases turn i n H5 w5 with ⟨stop, qq⟩ | ⟨go, step⟩
  ·refine bO (T.done (X.blkC x (x :: fr.map (·.1)) sc ((x, s3.heap.objs.size + 1) :: cl) s3.heap.objs.size s3 (upd H2 s2.heap.objs.size (.lst [])) fp) rfl rfl rfl hc i [] s5 _ H5 _ I5 (stat fr5) st5 stop) λ r s6 ⟨hr, I6⟩ => ?_
   subst hr
   obtain ⟨m6, hn6, _⟩ := I6.loc
   have u6 : Un (fS X.stack) fp (upd H2 s2.heap.objs.size (.lst [])) H5 s3.heap s6.heap := I6.base
   have hok6 : iB X.prog X.w H5 s6.heap := I6.hok
   have os6 : s6.os = s3.os := I6.os
   have bare6 := I6.bare
   have free6 : H5 s3.heap.objs.size = none := I6.free
   have IX : ay X pins Z H5 s6 := by
    obtain ⟨hh, g, d, t, os'⟩ := s6
    obtain rfl : os' = s3.os := os6
    show ay X pins Z H5 { s3 with heap := hh, gens := g, drawn := d, toks := t }
    exact I3.call (h' := hh) (g' := g) (d' := d) (t' := t) (ch := fp) u6 hok6 bare6 λ b hb => ⟨(f3 b hb).2.2.2.1, (f3 b hb).2.1, (f3 b hb).2.2.2.2.1, (f3 b hb).2.2.2.2.2⟩
   obtain ⟨oC, es, ep, hoC, BJ, rC⟩ := hn6
   have hfC : dS X pins H5 s3.heap.objs.size := I3.fpOk (eT _) free6
   have IX' : ay X (pins ++ [(s3.heap.objs.size, oC)]) Z H5 s6 := IX.pins_of λ p hp => by
    rcases rl.mp hp with z | z
    ·exact IX.pin p (cx _ z)
    ·have z' := o5.mp z
     subst z'
     exact ⟨hoC, free6, hfC.2.1, hfC.2.2.1, λ v z => by
      have z2 : oC.data = .cell v := z
      rw [BJ] at z2; cases z2⟩
   refine bO (aM (X := X) (i := iy) (pos := py) hN hi' hy hfn _ s6 Z H5 (.ref s2.heap.objs.size) (.ref s2.heap.objs.size) (λ σ' H' => σ' = Z.set iy (some (.ref s2.heap.objs.size)) /\ H' = H5) IX' rfl ⟨rfl, rfl⟩) λ _ s7 z => ?_
   obtain ⟨σ7, H7, I7, e7, e7'⟩ := z
   subst e7 e7'
   have pC := I7.pin (s3.heap.objs.size, oC) (cx _ (cx _ (o5.mpr rfl)))
   refine ⟨m6, ⟨oC, es, ep, pC.1, BJ, rC⟩, λ h8 hsb8 => ?_⟩
   have I7u : ay X pins (Z.set iy (some (.ref s2.heap.objs.size))) H7 s7 := I7.unpinned
   refine ⟨_, H7, ?_, qq⟩
   exact I7u.turned (it := s3.heap.objs.size) (t' := s7.toks) (λ b o hb e => hsb8.extBut b o hb e) free6 hfC.2.1 hfC.2.2.2.1 hfC.2.2.2.2.1 hfC.2.2.2.2.2
  ·refine bO (T.item (X.blkC x (x :: fr.map (·.1)) sc ((x, s3.heap.objs.size + 1) :: cl) s3.heap.objs.size s3 (upd H2 s2.heap.objs.size (.lst [])) fp) rfl rfl rfl hc i [] s5 _ H5 _ I5 (stat fr5) st5 go) λ r s6 ⟨u, hr, h6⟩ => ?_
   subst hr
   refine bO h6 λ _ s7 ⟨y, H7, I7, r7, y7, st7, fr7⟩ => ?_
   have I7' := I7.pinned (stat fr7) (T.obj _ _ st7)
   refine mW (aM (X := X.blkC x (x :: fr.map (·.1)) sc ((x, s3.heap.objs.size + 1) :: cl) s3.heap.objs.size s3 (upd H2 s2.heap.objs.size (.lst [])) fp) (i := 0) (pos := px) ok.nd rfl (Or.inr lk) (.inl (beq_self_eq_true x)) _ s7 _ H7 y u (λ σ' H' => σ' = some y :: dy Z fr /\ H' = H7) I7' r7 ⟨rfl, rfl⟩) (λ _ s8 z => ?_) (λ e s z => (show False from z).elim)
   obtain ⟨σ8, H8, I8, e8, e8'⟩ := z
   subst e8 e8'
   refine mW (he ((x, s3.heap.objs.size + 1) :: cl) s3.heap.objs.size s3 (upd H2 s2.heap.objs.size (.lst [])) fp _ s8 _ H8 _ I8 (step y H8 y7)) (λ v s9 z => ?_) (λ e s z => (show False from z).elim)
   obtain ⟨z, H9, I9, r9, xs, m', ha, hl, hm, w9⟩ := z
   refine mW (aQ (X := X.blkC x (x :: fr.map (·.1)) sc ((x, s3.heap.objs.size + 1) :: cl) s3.heap.objs.size s3 (upd H2 s2.heap.objs.size (.lst [])) fp) _ s9 _ H9 (.ref s2.heap.objs.size) [z] (.ref s2.heap.objs.size) [v] (λ _ H' => H' = upd H9 s2.heap.objs.size (.lst (xs ++ [z]))) I9 rfl (.cons r9 .nil) ⟨_, xs, z, rfl, rfl, ha, hl, rfl⟩) (λ _ s10 z => ?_) (λ e s z => (show False from z).elim)
   obtain ⟨_, H10, I10, _, e10⟩ := z
   subst e10
   refine ⟨m', hm, i + 1, some y, _, I10.unpinned, T.keep _ _ _ st7 λ b hb o e => (I10.pin (b, o) (cx _ (cx _ (bF hb e)))).1, λ b hb => ?_, w9⟩
   obtain ⟨o, e, d⟩ := T.obj _ _ st7 b hb
   exact (I10.pin (b, o) (cx _ (cx _ (bF hb e)))).2.1
 exact codeAny_compStart_list loop (T.self X.A 0 _ _ _ st4 loop)
end
noncomputable def Bb (sc : Scope) : List (Str × NameKind) := sc.names.takeWhile λ y => decide (y.2 ≠ .cell)
noncomputable def uF (sc : Scope) : List (Str × NameKind) := (sc.names.dropWhile λ y => decide (y.2 ≠ .cell)).tail
noncomputable def se (osc : Scope) (N : List Str) (tg : Str) (sc : Scope) (fr : List (Str × Nat)) : Bool :=
 decide (sc.kind = .function) && decide (sc.names = Bb sc ++ (tg, .cell) :: uF sc) && ((Bb sc).all λ y => decide (y.2 ≠ .cell)) && ((uF sc).all λ y => decide (y.2 ≠ .cell)) && (sc.names.all λ y => decide (y.2 ≠ .local) || decide (sc.names.lookup y.1 = some .local)) && decide (sc.names.lookup tg = some .cell) &&
 (sc.names.all λ y => decide (y.2 ≠ .free) || decide (osc.names.lookup y.1 = some .cell) || decide (osc.names.lookup y.1 = some .free)) && decide ((tg :: fr.map (·.1)).Nodup) &&
 (fr.all λ p => decide (N[p.2]? = some p.1) && (decide (osc.names.lookup p.1 = some .cell) || decide (osc.names.lookup p.1 = some .free)) && decide (sc.names.lookup p.1 = some .free))
variable {X : Cx}
theorem uL {tg : Str} {sc : Scope} {fr : List (Str × Nat)} {osc : Scope} {N : List Str} (ho : X.env.scope = osc) (hN : X.N = N) (h : se osc N tg sc fr = true) : qJ X tg sc fr (Bb sc) (uF sc) := by
 subst ho hN
 unfold se at h
 simp only [Bool.and_eq_true, decide_eq_true_eq, List.all_eq_true, Bool.or_eq_true] at h
 obtain ⟨⟨⟨⟨⟨⟨⟨⟨h1, h2⟩, h2a⟩, h2b⟩, h3⟩, h4⟩, h5⟩, h6⟩, h7⟩ := h
 refine ⟨h1, h2, h2a, h2b, λ y hy e => ?_, h4, λ y hy e => ?_, h6, λ p hp => ?_⟩
 ·rcases h3 y hy with z | z
  ·exact absurd e z
  ·exact z
 ·rcases h5 y hy with (z | z) | z
  ·exact absurd e z
  ·exact .inl z
  ·exact .inr z
 ·obtain ⟨⟨a, b⟩, c⟩ := h7 p hp
  exact ⟨a, b, c⟩
noncomputable def rL (sc osc : Scope) : Scope :=
 { kind := sc.kind, names := sc.names.map λ (n, k) => if (k == NameKind.free && osc.kind == .function && osc.names.lookup n == some .cell) then (n, NameKind.cell) else (n, k), isGenerator := sc.isGenerator, isCoroutine := sc.isCoroutine, more := sc.more }
theorem ud {tg : Str} {Nc : List Str} {sc osc : Scope} {cl : List (Str × Addr)} {C : Addr} {s3 : Shared} {H3 : Hp} {fp : List Addr} (h : X.env.scope = osc) : (X.blkC tg Nc sc cl C s3 H3 fp).env.scope = rL sc osc := by
 subst h; rfl
noncomputable def Ke (K : Fg) (ta : TE) : TT := λ Z H Q => ta Z H λ x H' => ∃ k, GB K x H' k /\ Q k H'
theorem Gi {K : Fg} {a : Expr} {ta : TE} (ha : PE X a ta) (he : ∀ whole, isTrue a X.env whole = (do let v <- whole; standAt a.pos; holding [v] (truthy v))) (hK : X.K = K := by rfl) : PT X a (Ke K ta) := by
 subst hK
 exact rJ ha he
section
variable {B : Bk} {K : Fg} {τ : TSt} {te : TE} {Ψ : Bool -> TSt -> Prop}
theorem Gp (hK : K = B.K) (h : EV B te τ λ x τ1 => qN x τ1 λ x τ1 => ∃ ts, Rk τ1 x (.lst ts) /\ Ψ (!ts.isEmpty) τ1) : TV B (Ke K te) τ Ψ := λ Z F H Q rp c => by
 subst hK
 refine h Z F H _ rp λ v F1 H1 k τ1 f1 r1 ok1 n1 h1 => ?_
 obtain ⟨F2, k', f2, r2, ok2, ⟨ts, rk, φ⟩, _⟩ := cL f1 r1 ok1 n1 h1
 obtain ⟨p, vs, rfl, s, l⟩ := rk.list r2 ok2
 refine ⟨!vs.isEmpty, .inl ⟨vs, s, rfl⟩, ?_⟩
 have e : vs.isEmpty = ts.isEmpty := by cases l <;> rfl
 rw [e]
 exact c _ _ _ _ f2 r2 φ
end
end L2
namespace L2
open PySem PySem.Spec PyProof.Rows PySem.SeqAt
theorem kK (l : Addr) (items : Array Value) (n : Nat) (b : Addr) (items2 : Array Value) (n2 : Nat) (dd : Option Addr) (sl : Array (Option Value)) (_hlong : ¬(!items.isEmpty && Builtin.List.listTooLong (items.size + items2.size)) = true) (_h1 : items.size <= sizeLine) (h2 : items.size + items2.size <= sizeLine + 1) :
  Meets (Builtin.«list.extend» ⟨[.ref l, .ref b], []⟩) (λ x R s => s.heap.get? l = some { cls := Value.type "list", data := Data.seq items n } /\ s.heap.get? b = some { cls := Value.type "list", dict := dd, data := Data.seq items2 n2, slots := sl } /\ R (Except.ok (Flow.ret Value.none)) { s with heap := s.heap.update l (Obj.mapSeq λ x => x ++ items2) }) :=
 .of_wp λ prog w A R s h => by
  obtain ⟨hp, g, d, tk, os⟩ := s
  obtain ⟨hl, hb, h⟩ := h
  wp_walk using wpAny_loadPart' hl, wpAny_load hl, wpAny_loadPart' hb, wpAny_load hb
  have hp2 : (Obj.mapSeq (λ x => x ++ items2) { cls := Value.type "list", data := Data.seq items n }).data.pastItsLine = none := by
   simp [Obj.mapSeq, Data.pastItsLine]
   try omega
  rw [hp2]
  exact i7 (i7 ⟨_, rfl, h⟩)
section
variable {X : Cx}
noncomputable def rc (K : Fg) : V -> List V -> Hp -> VK -> Prop := λ x vs H Q => ∃ l b xs zs, x = .ref l /\ vs = [.ref b] /\ H l = some (.lst xs) /\ br K H b zs /\ xs.length + zs.length <= sizeLine /\ Q .non (upd H l (.lst (xs ++ zs)))
theorem mE : Jq X "list.extend" (rc X.K) := by
 intro pins s Z H x vs v us Q I rx rv h
 obtain ⟨l, b, xs, zs, rfl, rfl, hH, hB, hz, q⟩ := h
 cases rx
 obtain ⟨u, rfl, ru⟩ := rv.one
 cases ru
 obtain ⟨z, its, n, r, hl, e⟩ := I.lstM hH
 obtain ⟨its2, r2, ⟨o2, n2, e2, cl2, dn2, da2⟩, hl2⟩ := I.list hB
 obtain ⟨cl, dd, da, sl⟩ := o2
 cases (show cl = .type "list" from cl2)
 cases (show da = .seq its2.toArray n2 from da2)
 have hl3 := r2.length
 have hsz : its.toArray.size + its2.toArray.size <= sizeLine := by rw [i3, i3]; omega
 have hlong : ¬ (!its.toArray.isEmpty && Builtin.List.listTooLong (its.toArray.size + its2.toArray.size)) = true := by
  rw [tD hsz, Bool.and_false]
  exact ff
 refine call_meets F.slot_list_extend ⟨_, e, rfl⟩ F.entry_list_extend (F.args_list_extend_2 _ _)
  (kK l its.toArray n b its2.toArray n2 dd sl hlong (by rw [i3]; omega) (by omega)) ⟨e, e2, ?_⟩
 refine ⟨.non, _, I.lset (its' := its ++ its2) hH e (by simp) (r.append r2) ?_, rfl, q⟩
 rw [fI]
 omega
end
section
variable {B : Bk} {τ τ' : TSt} {Φ : TK} {k : Nat}
theorem wC {K : Fg} {ts us : List Tr} (hK : K = B.K) (g : Gt τ k (.own (.lst ts))) (hl : ts.length + us.length <= 10000) (st : iA τ k (.own (.lst (ts ++ us))) τ') (q : Φ (.fz .non) τ') : RM B (rc K) (.sl k) [.lst us] τ Φ := λ Z F H v ws Q r a l c => by
 subst hK
 obtain ⟨l0, e, hw, n, n0⟩ := r.ow _ _ g.eq
 cases ax e a
 cases l with
 | cons h1 l2 =>
  cases l2
  cases h1 with
  | lst b1 b2 =>
   cases hw with
   | lst a1 a2 =>
    have x1 := a2.length
    have x2 := b2.length
    refine ⟨l0, _, _, _, rfl, rfl, a1, r.inc.seq b1, lS (by omega) (show 10000 <= sizeLine by decide), ?_⟩
    obtain ⟨r2, f2⟩ := r.setO g.eq e (.lst ar (a2.app b2))
    rw [st.eq] at r2 f2
    exact c _ F _ (.fz .non) τ' f2 r2 .non trivial q
end
section
variable {B : Bk} {τ : TSt} {D : cQ} {i : Nat} {ts : List Tr} {te : TE}
theorem HU {Φ : List Tr -> List Tr -> Prop} (hD : Ki B D Φ) (g : Gt τ i (.own (.lst ts))) (h : EV B te τ λ k τ1 => ∃ us, k = .nw (.lst us) /\ Gt τ1 i (.own (.lst ts)) /\ Φ ts us) : vA B D (AE (xq (bq (fE i) (bq te tNil)))) τ := λ Z F H r => by
 obtain ⟨a0, ea0, _, _, _⟩ := r.ow i _ g.eq
 refine ⟨.ref a0, ea0, ?_⟩
 refine h Z F H _ r λ v F1 H1 k τ1 f1 r1 ok1 n1 ⟨us, hk, g1, φ⟩ => ?_
 subst hk
 obtain ⟨b, rfl, ob, fb, nb, dis⟩ := ok1
 obtain ⟨a, ea, oa, fa, na⟩ := r1.ow i _ g1.eq
 cases ax ea0 ea
 have ne : a0 ≠ b := λ e => dis i _ (.inl g1.eq) (by rw [<- e]; exact ea)
 refine ⟨show 2 <= sizeLine by decide, λ p hp => ?_⟩
 have u := r1.tup (vs := [.ref a0, .ref b]) hp
 obtain ⟨o1, h1, m1⟩ := oa.mb
 obtain ⟨o2, h2, m2⟩ := ob.mb
 exact hD p a0 b _ _ ts us (r1.up.trans u) ⟨bI.of ar, oa.to u.f (λ o => u.h a0 o λ hw => r1.wa a0 hw na), ob.to u.f (λ o => u.h b o λ hw => r1.wa b hw nb), u.m a0 o1 h1 m1 fa, u.m b o2 h2 m2 fb, na, nb, ne⟩ φ
end
end L2
namespace L2
open PySem PySem.Spec PyProof.Rows
noncomputable def jG (r : Addr) (H : Hp) : Hp := λ b => if b = r then none else H b
noncomputable abbrev SpO := Bk -> List Ar -> List Tr -> (List Tr -> List Tr -> Prop) -> Prop
noncomputable def DOw (B : Bk) (D : cQ) (r : Addr) (Φ : List Tr -> List Tr -> Prop) : Prop := ∀ p F' H' ms us, Up B B.F0 B.H0 F' H' -> Ow B.K F' H' p (.lst ms) -> F' p = none -> B.H0 p = none -> p ≠ r -> Ow B.K F' H' r (.lst us) -> F' r = none -> Φ ms us -> D.rt (.ref p) H'
noncomputable def wK (K : Fg) (S : SpO) : Sp := λ vs H Q _ => ∃ (B : Bk) (as : List Ar) (vs0 : List V) (r : Addr) (ws : List V) (ts : List Tr) (Φ : List Tr -> List Tr -> Prop), B.K = K /\ B.H0 = jG r H /\ vd B /\ vs = vs0 ++ [.ref r] /\ iC B B.F0 vs0 as /\ H r = some (.lst ws) /\ IsL K B.F0 ws ts /\ ¬ B.W r /\ S B as ts Φ /\
 ∀ p F' H' ms us, Up B B.F0 B.H0 F' H' -> Ow B.K F' H' p (.lst ms) -> F' p = none -> B.H0 p = none -> p ≠ r -> Ow B.K F' H' r (.lst us) -> F' r = none -> Φ ms us -> Q (.ref p) H'
theorem xu {K : Fg} {S : SpO} {n : Nat} (hn : ∀ B as ts Φ, S B as ts Φ -> as.length = n) : ∀ vs H Q E, wK K S vs H Q E -> vs.length = n + 1 := λ vs H Q E h => by
 obtain ⟨B, as, vs0, r, ws, ts, Φ, _, _, _, rfl, l, _, _, _, s, _⟩ := h
 rw [fI, l.length, hn B as ts Φ s]; rfl
section
variable {B : Bk} {k i : Nat} {r : Addr} {s1 s2 : TS} {τ : TSt} {nx : TSt -> Prop} {te : TE} {Φ : List Tr -> List Tr -> Prop}
noncomputable def SA (B : Bk) (k : Nat) (r : Addr) (s : TS) (τ : TSt) (nx : TSt -> Prop) : Prop := ∀ (D : cQ) Z F H, Rp B F H Z τ -> db Z k (.ref r) -> (∀ σ' F' H' τ', am F F' -> Rp B F' H' σ' τ' -> db σ' k (.ref r) -> nx τ' -> D.nx σ' H') -> s D Z H
noncomputable def IB (B : Bk) (k : Nat) (r : Addr) (s : TS) (τ : TSt) (Φ : List Tr -> List Tr -> Prop) : Prop := ∀ (D : cQ) Z F H, Rp B F H Z τ -> db Z k (.ref r) -> DOw B D r Φ -> s D Z H
theorem lZ (h : SA B k r s1 τ λ τ' => SA B k r s2 τ' nx) : SA B k r (kI s1 s2) τ nx := λ D Z F H rp a e => h { D with nx := s2 D } Z F H rp a λ σ' F' H' τ' s r' a' h' => h' D σ' F' H' r' a' λ σ2 F2 H2 τ2 s2 r2 a2 n2 => e σ2 F2 H2 τ2 (s.trans s2) r2 a2 n2
theorem gP (h : SA B k r s1 τ λ τ' => IB B k r s2 τ' Φ) : IB B k r (kI s1 s2) τ Φ := λ D Z F H rp a e => h { D with nx := s2 D } Z F H rp a λ σ' F' H' τ' s r' a' h' => h' D σ' F' H' r' a' e
theorem vL {Z : St} {v : V} (hik : i ≠ k) (h : db Z k (.ref r)) : db (Z.set i (some v)) k (.ref r) := by
 unfold db at *
 rw [List.getElem?_set_ne hik]
 exact h
noncomputable def vW (k : Nat) (r : Addr) (g : TG) : Prop := ∀ v Z H S, db Z k (.ref r) -> g v Z H (λ σ' H' => db σ' k (.ref r) -> S σ' H') -> g v Z H S
noncomputable def qK (k : Nat) (r : Addr) (g : TGs) : Prop := ∀ vs Z H S, db Z k (.ref r) -> g vs Z H (λ σ' H' => db σ' k (.ref r) -> S σ' H') -> g vs Z H S
theorem bT (hik : i ≠ k) : vW k r (bu i) := λ v Z H S a h => h (vL hik a)
theorem Bv : qK k r gNil := λ vs Z H S a h => ⟨h.1, h.2 a⟩
theorem cZ {gs : TGs} (hik : i ≠ k) (h : qK k r gs) : qK k r (dB (bu i) gs) := λ vs Z H S a ⟨v, r', e, q⟩ => ⟨v, r', e, h r' _ H S (vL hik a) q⟩
theorem AZ {K : Fg} {n : Nat} {gs : TGs} (h : qK k r gs) : vW k r (qk K n gs) := λ v Z H S a q => by
 obtain ⟨p, xs, e, hs, hl, q⟩ := q
 exact ⟨p, xs, e, hs, hl, h _ _ _ _ a q⟩
theorem eG {g : TG} (kg : vW k r g) (h : EV B te τ λ kd τ1 => GA B g kd τ1 nx) : SA B k r (ro te g) τ nx := λ D Z F H rp a e =>
 h Z F H _ rp λ v F1 H1 kd τ1 f r1 ok _ h1 => kg v Z H1 D.nx a (h1 Z F1 H1 v _ r1 ok λ σ' F' H' τ' s r' n a' => e σ' F' H' τ' (f.f.trans s) r' a' n)
theorem pL (h : EV B te τ λ _ τ1 => nx τ1) : SA B k r (nJ te) τ nx := λ D Z F H rp a e => h Z F H _ rp λ v F1 H1 kd τ1 f r1 _ _ h1 => e Z F1 H1 τ1 f.f r1 a h1
theorem Do (h : nx τ) : SA B k r tNext τ nx := λ D Z F H rp a e => e Z F H τ (am.refl _) rp a h
theorem zd {c : TT} (h : TV B c τ λ b τ1 => if b = true then SA B k r s1 τ1 nx else SA B k r s2 τ1 nx) : SA B k r (Am c s1 s2) τ nx := λ D Z F H rp a e =>
 h Z F H _ rp λ b F1 H1 τ1 f r1 h1 => by
  cases b with
  | true =>
   rw [h9 rfl] at h1 ⊢
   exact h1 D Z F1 H1 r1 a λ σ' F' H' τ' s r' a' n => e σ' F' H' τ' (f.f.trans s) r' a' n
  | false =>
   rw [gV ff] at h1 ⊢
   exact h1 D Z F1 H1 r1 a λ σ' F' H' τ' s r' a' n => e σ' F' H' τ' (f.f.trans s) r' a' n
theorem Gg {wi : TI} {g : TG} {tbd : TS} (kg : vW k r g) (h : IV B wi τ λ ts τ1 => ∃ I : Nat -> TSt -> Prop, I 0 τ1 /\ (∀ i t τ2, ts[i]? = some t -> I i τ2 -> GA B g (.fz t) τ2 λ τ3 => SA B k r tbd τ3 (I (i + 1))) /\ ∀ τ2, I ts.length τ2 -> nx τ2) : SA B k r (Dr wi g tbd) τ nx := λ D Z F H rp a e => by
 refine h Z F H _ rp λ J F1 H1 ts τ1 f1 r1 itk ⟨I, i0, step, fin⟩ => ?_
 refine ⟨λ i m Z H => db Z k (.ref r) /\ ∃ F2 τ2, am F1 F2 /\ Rp B F2 H Z τ2 /\ I i τ2 /\ i <= ts.length /\ m = ts.length - i, ⟨_, a, F1, τ1, am.refl _, r1, i0, nW _, rfl⟩, ?_⟩
 rintro i m Z H ⟨a2, F2, τ2, s2, r2, i2, hi, rfl⟩
 obtain ⟨itg, its⟩ := itk Z τ2 F2 H s2 r2
 by_cases hlt : i < ts.length
 ·obtain ⟨g1, g2⟩ := itg i ts[i] (dI hlt)
  refine .inr ⟨g1, λ σ' H' => db σ' k (.ref r) /\ ∃ F2 τ2, am F1 F2 /\ Rp B F2 H' σ' τ2 /\ I (i + 1) τ2, λ σ' H' ⟨b0, F2, τ2, a, b, c⟩ => ⟨_, by omega, b0, F2, τ2, a, b, c, hlt, rfl⟩, λ x H3 y => ?_⟩
  obtain ⟨F3, u3, hx⟩ := g2 x H3 y
  refine kg x Z H3 _ a2 (step i ts[i] τ2 (dI hlt) i2 Z F3 H3 x _ (r2.go u3) hx λ σ4 F4 H4 τ4 s4 r4 h4 a4 => ?_)
  have s14 := s2.trans (u3.f.trans s4)
  exact h4 _ σ4 F4 H4 r4 a4 λ σ5 F5 H5 τ5 s5 r5 a5 h5 => ⟨a5, F5, τ5, s14.trans s5, r5, h5⟩
 ·have ei : i = ts.length := by omega
  subst ei
  exact .inl ⟨its, e Z F2 H τ2 (f1.f.trans s2) r2 a2 (fin τ2 i2)⟩
theorem Cj {ms us : List Tr} (g : Gt τ i (.own (.lst ms))) (g2 : Gt τ k (.own (.lst us))) (hik : i ≠ k) (φ : Φ ms us) : IB B k r (AE (fE i)) τ Φ := λ D Z F H rp a e => by
 obtain ⟨p, ep, op, fp, np⟩ := rp.ow i _ g.eq
 obtain ⟨r', er, or', fr', nr⟩ := rp.ow k _ g2.eq
 cases ax a er
 exact ⟨.ref p, ep, e p F H ms us rp.up op fp np (λ z => rp.ap i k _ _ p g.eq g2.eq hik ep (by rw [z]; exact a)) or' fr' φ⟩
end
theorem vD {N : List Str} {vs : List V} {v : V} (h : vs.length < N.length) : bN N (vs ++ [v]) = (bN N vs).set vs.length (some v) := by
 unfold bN
 obtain ⟨m, hm⟩ : ∃ m, N.length - vs.length = m + 1 := ⟨N.length - vs.length - 1, by omega⟩
 rw [fI, oD, List.set_append_right _ _ (by rw [b9]; exact eT _), b9, Nat.sub_self, hm, o9, List.set_cons_zero, m7, show N.length - (vs.length + [v].length) = m by simp; omega]
 rfl
theorem tX {K : Fg} {S : SpO} {vs : List V} {H : Hp} {Q : VK} {E : XK} (h : wK K S vs H Q E) : ∃ B as r ts Φ, B.K = K /\ S B as ts Φ /\ ∀ (N : List Str) (t : TS) (τ : TSt), as.length < N.length -> (cJ N.length as).set as.length (.own (.lst ts)) = τ -> IB B as.length r t τ Φ -> t { nx := λ _ H' => Q .non H', rt := Q } (bN N vs) H := by
 obtain ⟨B, as, vs0, r, ws, ts, Φ, hK, hH, k, rfl, l, hr, il, nw, hS, q⟩ := h
 refine ⟨B, as, r, ts, Φ, hK, hS, λ N t τ hN hτ go => ?_⟩
 subst hK
 have hl := l.length
 have sub : am B.H0 H := λ p o e => by
  rw [hH] at e
  by_cases z : p = r
  ·rw [z] at e
   have e : jG r H r = some o := e
   unfold jG at e
   rw [h9 rfl] at e; cases e
  ·have e : jG r H p = some o := e
   unfold jG at e
   rw [gV z] at e; exact e
 have h0 : B.H0 r = none := by rw [hH]; exact h9 rfl
 have f0 : B.F0 r = none := by
  cases e : B.F0 r with
  | none => rfl
  | some o => rw [k.i r o e] at h0; cases h0
 have u : Up B B.F0 B.H0 B.F0 H := we k.i sub k.wj
 have r0 := (iU (N := N) k l).go u
 have dis : ∀ i u, bV (cJ N.length as) i (.own u) ∨ bV (cJ N.length as) i (.vw u) -> ¬ db (bN N vs0) i (.ref r) := λ i u h => by
  rcases h with h | h
  ·rcases cz h with ⟨a, e, _⟩ | e
   ·cases a <;> cases e
   ·cases e
  ·rcases cz h with ⟨a, e, _⟩ | e
   ·cases a <;> cases e
   ·cases e
 have r1 := r0.setN (i := as.length) (v := .ref r) (t := .lst ts) ⟨r, rfl, .lst hr il, f0, h0, dis⟩
 rw [hτ] at r1
 have es : bN N (vs0 ++ [.ref r]) = (bN N vs0).set as.length (some (.ref r)) := by rw [<- hl]; exact vD (by omega)
 rw [es]
 refine go _ _ _ _ r1 ?_ λ p F' H' ms us => q p F' H' ms us
 unfold db
 rw [List.getElem?_set_self (by unfold bN; rw [fI, b9, q9]; omega)]
noncomputable def Bk.hid (B : Bk) (F H : Hp) (l : Addr) : Bk := { B with F0 := F, H0 := jG l H }
theorem dh {r p : Addr} {H : Hp} (h : p ≠ r) : jG r H p = H p := gV h
section
variable {B : Bk} {τ τ' : TSt} {Z : St} {F H : Hp} {k : Nat} {l : Addr} {ts us : List Tr}
theorem Rp.goO {F' H' : Hp} (r : Rp B F H Z τ) (g : bV τ k (.own (.lst ts))) (e : db Z k (.ref l)) (U : Up (B.hid F H l) F (jG l H) F' H') (ow : Ow B.K F' H' l (.lst us)) (fl : F' l = none) (nw : ¬ B.W l) : Rp B F' H' Z (τ.set k (.own (.lst us))) /\ Fr B Z τ F H (τ.set k (.own (.lst us))) F' H' := by
 obtain ⟨l0, e0, ow0, f0, n0⟩ := r.ow k _ g
 cases ax e e0
 cases ow0 with
 | lst hl il =>
  rename_i ws
  cases ow with
  | lst hl2 il2 =>
   rename_i ws2
   have jh : B.J (jG l H) := B.jl H _ (λ p hw => (dh (λ z => nw (by rw [<- z]; exact hw))).symm) (λ p φ z => by
    have : p ≠ l := λ y => by rw [y, hl] at z; cases z
    rw [dh this]; exact z) r.wj
   have jH' : B.J H' := U.j jh
   have u : Up B F H F' (upd H' l (.lst ws)) := {
    f := U.f
    h := λ p o hw h => by
     by_cases z : p = l
     ·rw [z] at h ⊢; rw [hl] at h; cases h; exact ar
     ·rw [ag z]; exact U.h p o hw (by rw [dh z]; exact h)
    i := λ p o h => by
     have z : p ≠ l := λ y => by rw [y, fl] at h; cases h
     rw [ag z]; exact U.i p o h
    m := λ p o h mb n => by
     by_cases z : p = l
     ·rw [z]; exact fl
     ·exact U.m p o (by rw [dh z]; exact h) mb n
    w := λ p h => by
     by_cases z : p = l
     ·rw [z, ar] at h; cases h
     ·rw [ag z] at h
      have := U.w p h
      rw [dh z] at this; exact this
    x := U.x
    j := λ _ => B.jl H' _ (λ p hw => (ag (λ z => nw (by rw [<- z]; exact hw))).symm) (λ p φ z => by
     have : p ≠ l := λ y => by rw [y, hl2] at z; cases z
     rw [ag this]; exact z) jH' }
   have r1 := r.go u
   have eq : upd (upd H' l (.lst ws)) l (.lst ws2) = H' := funext λ b => by
    by_cases z : b = l
    ·rw [z, ar, hl2]
    ·rw [ag z, ag z]
   obtain ⟨r2, f2⟩ := r1.setO (i := k) (o' := .lst ws2) g e (by rw [eq]; exact .lst hl2 il2)
   rw [eq] at r2 f2
   exact ⟨r2, (Fr.up u).trans f2⟩
end
section
variable {B : Bk} {K : Fg} {τ : TSt} {Φ : TK} {S : SpO} {E : XK} {i j k : Nat} {a b : Tr} {te : TE}
theorem Dq (hK : K = B.K) (gi : Gt τ i (.fz a)) (gj : Gt τ j (.fz b)) (h : EV B te τ λ kd τ1 => oW kd τ1 λ t τ2 => ∃ ts, Gt τ2 k (.own (.lst ts)) /\ ∀ F H l, S (B.hid F H l) [.fz a, .fz b, .fz t] ts λ ms us => ∃ τ3, iA τ2 k (.own (.lst us)) τ3 /\ Φ (.nw (.lst ms)) τ3) :
  EV B (dm (wK K S) [] E (bq (fE i) (bq (fE j) (bq te (bq (fE k) tNil))))) τ Φ := λ Z F H Q r c => by
 subst hK
 obtain ⟨v0, e0, i0⟩ := r.fz i _ gi.eq
 obtain ⟨v1, e1, i1⟩ := r.fz j _ gj.eq
 refine ⟨v0, e0, v1, e1, ?_⟩
 refine h Z F H _ r λ v F1 H1 kd τ1 f1 r1 ok1 n1 h1 => ?_
 obtain ⟨F2, t, τ2, f2, r2, i2, ⟨ts, g, hS⟩, sF⟩ := dA f1 r1 ok1 n1 h1
 obtain ⟨l, el, ow, fl, n0⟩ := r2.ow k _ g.eq
 cases ow with
 | lst hl il =>
  have nw : ¬ B.W l := λ hw => r2.wa l hw n0
  have inc : am F2 (jG l H1) := λ p o z => by
   have : p ≠ l := λ y => by rw [y, fl] at z; cases z
   rw [dh this]; exact r2.inc p o z
  have jh : B.J (jG l H1) := B.jl H1 _ (λ p hw => (dh (λ z => nw (by rw [<- z]; exact hw))).symm) (λ p φ z => by
   have : p ≠ l := λ y => by rw [y, hl] at z; cases z
   rw [dh this]; exact z) r2.wj
  refine ⟨.ref l, el, B.hid F2 H1 l, [.fz a, .fz b, .fz t], [v0, v1, v], l, _, ts, _, rfl, rfl, ⟨inc, λ p hw => ?_, r2.wf, jh⟩, rfl, .cons (a := .fz _) (i0.same f2.f) (.cons (a := .fz _) (i1.same f2.f) (.cons (a := .fz _) i2 .nil)), hl, il, nw, hS F2 H1 l, λ p F' H' ms us U owp fp n0p ne owl fl' φ => ?_⟩
  ·show jG l H1 p ≠ none
   rw [dh (λ z => nw (by rw [<- z]; exact hw))]
   exact λ z => r2.wa p hw (r2.up.w p z)
  ·obtain ⟨τ3, st, φ⟩ := φ
   obtain ⟨r3, f3⟩ := r2.goO g.eq el U owl fl' nw
   rw [st.eq] at r3 f3
   have h1p : H1 p = none := by
    have n0p : jG l H1 p = none := n0p
    rw [dh ne] at n0p; exact n0p
   refine c _ F' H' (.nw (.lst ms)) τ3 (f2.trans f3) r3 ⟨p, rfl, owp, fp, r2.up.w p h1p, λ i u hh hs => ?_⟩ (λ l' z => by cases z; exact f2.h p h1p) φ
   rcases hh with hh | hh
   ·obtain ⟨u', h2⟩ := f3.o i u hh
    obtain ⟨l', e', ow', _, _⟩ := r2.ow i u' h2
    cases ax hs e'
    obtain ⟨o, ho, _⟩ := ow'.mb
    rw [h1p] at ho; cases ho
   ·rw [<- st.eq] at hh
    have hv : bV τ2 i (.vw u) := by
     unfold bV at hh ⊢
     by_cases z : k = i
     ·subst z
      have gk : τ2[k]? = some (.own (.lst ts)) := g.eq
      rw [List.getElem?_set_self (iL.mp gk).1] at hh
      cases hh
     ·rw [List.getElem?_set_ne z] at hh; exact hh
    obtain ⟨l', e', ow', _, _⟩ := r2.vw i u hv
    cases ax hs e'
    obtain ⟨o, ho, _⟩ := ow'.mb
    rw [h1p] at ho; cases ho
end
noncomputable def DV (B : Bk) (F H : Hp) (p : Addr) (l : List (Addr × List V)) : Bk where
 K := B.K
 F0 := F
 H0 := H
 W := λ q => B.W q ∨ ∃ vs, (q, vs) ∈ l
 J := λ H' => B.J H' /\ ∀ x ∈ l, H' x.1 = some (.lst x.2)
 rt := p
 jl := λ H H' e x ⟨h, g⟩ => ⟨B.jl H H' (λ p hw => e p (.inl hw)) x h, λ y hy => by rw [<- e y.1 (.inr ⟨y.2, hy⟩)]; exact g y hy⟩
 jm := λ H q h hw => by
  rcases hw with hw | ⟨vs, hx⟩
  ·exact B.jm H q h.1 hw
  ·exact ⟨_, h.2 _ hx, trivial⟩
theorem zO {Pt : Addr} {pos : Pos} {q : Str} {B : Bk} {F H : Hp} {p : Addr} {l : List (Addr × List V)} (h : cw Pt pos q B) : cw Pt pos q (DV B F H p l) where
 w := .inl h.w
 t := λ H hj => h.t H hj.1
 s := λ H H' st hj => ⟨h.s H H' st hj.1, λ x hx => by
  have e := hj.2 x hx
  cases st with
  | hit => exact e
  | new hP hn _ => rw [ag (aH e hn), ag (gX e hP nofun)]; exact e⟩
structure IR (B : Bk) (F H : Hp) (p a b : Addr) (vs ws : List V) (ts us : List Tr) : Prop where
 sp : bI B.K F p [.ref a, .ref b]
 lv : IsL B.K F vs ts
 lw : IsL B.K F ws us
 wa : ¬ B.W a
 wb : ¬ B.W b
 wf : ∀ q, B.W q -> F q = none
 ne : a ≠ b
section
variable {B : Bk} {τ : TSt} {Z : St} {F H F' H' : Hp} {p a b : Addr} {l : List (Addr × List V)} {k : Nat} {D : cQ} {s2 : TS} {vs ws : List V} {ts us : List Tr}
theorem Rp.rebaseX (r : Rp B F H Z τ) (cl : ∀ i s, bV τ i s -> s = .no ∨ ∃ t, s = .fz t) (hl : ∀ x ∈ l, H x.1 = some (.lst x.2) /\ F x.1 = none) : Rp (DV B F H p l) F H (Z.set k (some (.ref p))) (τ.set k .wd) where
 up := Up.refl r.inc
 wa := λ q hw z => by
  obtain ⟨o, ho, _⟩ := (DV B F H p l).jm H q ⟨r.wj, λ x hx => (hl x hx).1⟩ hw
  rw [show H q = none from z] at ho; cases ho
 wf := λ q hw => by
  rcases hw with hw | ⟨vs, hx⟩
  ·exact r.wf q hw
  ·exact (hl _ hx).2
 wj := ⟨r.wj, λ x hx => (hl x hx).1⟩
 wd := (r.rebase (p := p) (k := k) cl hl).wd
 len := (r.rebase (p := p) (k := k) cl hl).len
 fz := (r.rebase (p := p) (k := k) cl hl).fz
 ow := (r.rebase (p := p) (k := k) cl hl).ow
 vw := λ i t e => by
  rcases bB e with ⟨_, e, _⟩ | ⟨_, e⟩
  ·cases e
  ·rcases cl i _ e with z | ⟨_, z⟩ <;> cases z
 ap := (r.rebase (p := p) (k := k) cl hl).ap
 av := (r.rebase (p := p) (k := k) cl hl).av
theorem Rp.plainX {B' : Bk} {H3 : Hp} (r : Rp B' F H Z τ) (eK : B.K = B'.K) (cl : ∀ i s, bV τ i s -> s = .no ∨ ∃ t, s = .fz t) (s : am F H3) (wf : ∀ q, B.W q -> F q = none) (j : B.J H3) : Rp (DV B F H3 p []) F H3 Z τ where
 up := Up.refl s
 wa := λ q hw z => by
  obtain ⟨o, ho, _⟩ := (DV B F H3 p []).jm H3 q ⟨j, λ x hx => absurd hx m8⟩ hw
  rw [show H3 q = none from z] at ho; cases ho
 wf := λ q hw => by
  rcases hw with hw | ⟨vs, hx⟩
  ·exact wf q hw
  ·exact absurd hx m8
 wj := ⟨j, λ x hx => absurd hx m8⟩
 wd := λ i e => by rcases cl i _ e with z | ⟨_, z⟩ <;> cases z
 len := r.len
 fz := λ i t e => by
  obtain ⟨v, h1, h2⟩ := r.fz i t e
  rw [<- eK] at h2
  exact ⟨v, h1, h2⟩
 ow := λ i t e => by rcases cl i _ e with z | ⟨_, z⟩ <;> cases z
 vw := λ i t e => by rcases cl i _ e with z | ⟨_, z⟩ <;> cases z
 ap := λ i j t u l e => by rcases cl i _ e with z | ⟨_, z⟩ <;> cases z
 av := λ i j t u l e => by rcases cl i _ e with z | ⟨_, z⟩ <;> cases z
theorem FH {K : Fg} (hK : K = B.K) {S : SpR} {E : XK} {tA : TA} (h : Cu B tA τ λ as τ1 => (∀ i s, bV τ1 i s -> s = .no ∨ ∃ t, s = .fz t) /\ ∀ F H, S (B.now F H) as λ ts us => ∀ F H p a b vs ws, IR B F H p a b vs ws ts us -> vA (DV B F H p [(a, vs), (b, ws)]) D s2 (τ1.set k .wd)) : vA B D (kI (ro (dm (mo K S) [] E tA) (bu k)) s2) τ := λ Z F H r => by
 subst hK
 show dm (mo B.K S) [] E tA Z H λ x H1 => s2 D (Z.set k (some x)) H1
 unfold dm
 simp only [o7]
 refine h Z F H _ r λ vs0 F1 H1 as τ1 f1 r1 l1 ⟨cl, h1⟩ => ?_
 refine ⟨B.now F1 H1, as, _, rfl, rfl, r1.bkok, l1.now, h1 F1 H1, λ p a b F2 H2 ts us u row φ => ?_⟩
 have r2 := r1.go u.of_now
 have na : B.H0 a = none := r1.up.w a row.na
 have nb : B.H0 b = none := r1.up.w b row.nb
 cases row.oa with
 | lst ha lv =>
  cases row.ob with
  | lst hb lw =>
   rename_i vs ws
   have hl : ∀ x ∈ [(a, vs), (b, ws)], H2 x.1 = some (.lst x.2) /\ F2 x.1 = none := λ x hx => by
    rcases j3.mp hx with e | e
    ·rw [e]; exact ⟨ha, row.fa⟩
    ·rw [o5.mp e]; exact ⟨hb, row.fb⟩
   exact φ F2 H2 p a b vs ws ⟨row.sp, lv, lw, λ hw => r2.wa a hw na, λ hw => r2.wa b hw nb, r2.wf, row.ne⟩ _ F2 H2 (r2.rebaseX cl hl)
theorem xi {τ' : TSt} {te1 te2 : TE} (c1 : KG B.K te1 k 0) (c2 : KG B.K te2 k 1) (rb : IR B F H p a b vs ws ts us) (g : Gt τ k .wd) (st : iA τ k .no τ') (cl : ∀ i s, bV τ' i s -> s = .no ∨ ∃ t, s = .fz t) (hl : ts.length <= 10000) (hm : us.length <= 10000) (h : ∀ F3 H3, vA (DV B F3 H3 p []) D s2 τ') : vA (DV B F H p [(a, vs), (b, ws)]) D (kI (nJ te1) (kI (nJ te2) s2)) τ := λ Z F1 H1 r => by
 have e : db Z k (.ref p) := r.wd k g.eq
 obtain ⟨jB, jl⟩ := r.wj
 have ja : H1 a = some (.lst vs) := jl _ i9
 have jb : H1 b = some (.lst ws) := jl _ (j7 _ i9)
 have fa : F1 a = none := r.wf a (.inr ⟨_, i9⟩)
 have fb : F1 b = none := r.wf b (.inr ⟨_, j7 _ i9⟩)
 have spF : bI B.K F1 p [.ref a, .ref b] := r.up.f.tup rb.sp
 refine c1 Z H1 _ p a b a vs e (r.inc.tup spF) rfl ja (by rw [rb.lv.length]; exact hl) λ vs1 => ?_
 have s1 : am F1 (upd H1 a (.lst vs1)) := λ q o z => by
  have : q ≠ a := λ e => by rw [e, fa] at z; cases z
  rw [ag this]; exact r.inc q o z
 have jb2 : (upd H1 a (.lst vs1)) b = some (.lst ws) := by rw [ag (Ne.symm rb.ne)]; exact jb
 refine c2 Z _ _ p a b b ws e (s1.tup spF) rfl jb2 (by rw [rb.lw.length]; exact hm) λ vs2 => ?_
 have s2' : am F1 (upd (upd H1 a (.lst vs1)) b (.lst vs2)) := λ q o z => by
  have : q ≠ b := λ e => by rw [e, fb] at z; cases z
  rw [ag this]; exact s1 q o z
 have rf := r.forget (i := k)
 rw [st.eq] at rf
 refine h F1 _ Z F1 _ (rf.plainX rfl cl s2' (λ q hw => r.wf q (.inl hw)) ?_)
 refine B.jl H1 _ (λ q hw => ?_) (λ q φ z => ?_) jB
 ·rw [ag (λ z => rb.wb (by rw [<- z]; exact hw)), ag (λ z => rb.wa (by rw [<- z]; exact hw))]
 ·rw [ag (gX z jb nofun), ag (gX z ja nofun)]; exact z
end
inductive Aa : Tr -> Prop
 | non : Aa .non
 | int {i : Int} : Aa (.int i)
 | str {x : Str} : Aa (.str x)
 | tup {ts : List Tr} : (∀ t ∈ ts, Aa t) -> Aa (.tup ts)
 | one {k : Int} : Aa (.lst [.int k])
variable {K : Fg}
theorem qw {F G : Hp} : ∀ {vs : List V} {ts : List Tr}, IsL K F vs ts -> (∀ t ∈ ts, ∀ v, Is K F v t -> Is K G v t) -> IsL K G vs ts
 | _, _, .nil, _ => .nil
 | _, _, .cons h g, f => .cons (f _ i9 _ h) (qw g λ t ht => f t (j7 _ ht))
theorem Bh {F : Hp} {l : Addr} {vs : List V} {us : List Tr} (hl : F l = some (.lst vs)) (hu : IsL K F vs us) (tu : ∀ u ∈ us, ∃ xs, u = .tup xs) {t : Tr} (n : Aa t) : ∀ v, Is K F v t -> Is K (λ b => if b = l then none else F b) v t := by
 have ne : ∀ {p : Addr} {u : HO}, F p = some u -> u ≠ .lst vs -> p ≠ l := λ e d => gX e hl d
 induction n with
 | non => intro v h; cases h; exact .non
 | int => intro v h; cases h; exact .int
 | str => intro v h; cases h; exact .str
 | tup _ ih =>
  intro v h
  cases h with
  | tup s il =>
   refine .tup ?_ (qw il ih)
   rcases s with (z | ⟨o, z⟩) | z
   ·exact .inl (.inl ((gV (ne z nofun)).trans z))
   ·exact .inl (.inr ⟨o, (gV (ne z nofun)).trans z⟩)
   ·exact .inr z
 | one =>
  intro v h
  cases h with
  | lst s il =>
   cases il with
   | cons h1 h2 =>
    cases h1
    cases h2
    refine .lst ?_ (.cons .int .nil)
    rcases s with (z | ⟨o, z⟩) | z
    ·refine .inl (.inl ((gV (ne z λ e => ?_)).trans z))
     cases e
     cases hu with
     | cons h3 h4 =>
      obtain ⟨xs, e⟩ := tu _ i9
      rw [e] at h3
      cases h3
    ·exact .inl (.inr ⟨o, (gV (ne z nofun)).trans z⟩)
    ·exact .inr z
theorem CF {B : Bk} {τ : TSt} {Φ : TK} (hK : K = B.K) {S : SpR} {E : XK} {i j k : Nat} {t1 t2 : Tr} {ts : List Tr} (g1 : Gt τ i (.fz t1)) (g2 : Gt τ j (.fz t2)) (g : Gt τ k (.own (.lst ts))) (tt : ∀ u ∈ ts, ∃ xs, u = .tup xs)
  (h : ∀ F H, S (B.now F H) [.fz t1, .fz t2, .fz (.lst ts)] (λ us ws => (∀ t ∈ us, Aa t) /\ (∀ t ∈ ws, Aa t) /\ Φ (.fz (.tup [.lst us, .lst ws])) τ)) : EV B (dm (mo K S) [] E (bq (fE i) (bq (fE j) (bq (fE k) tNil)))) τ Φ := λ Z F H Q r c => by
 subst hK
 obtain ⟨v1, e1, i1⟩ := r.fz i _ g1.eq
 obtain ⟨v2, e2, i2⟩ := r.fz j _ g2.eq
 obtain ⟨l, el, ow, fl, n0⟩ := r.ow k _ g.eq
 cases ow with
 | lst hl il =>
  rename_i vs
  have nw : ∀ p, B.W p -> p ≠ l := λ p hw z => r.wa p hw (by rw [z]; exact n0)
  have sF : am F (upd F l (.lst vs)) := am.new fl _
  refine ⟨v1, e1, v2, e2, .ref l, el, B.now (upd F l (.lst vs)) H, [.fz t1, .fz t2, .fz (.lst ts)], _, rfl, rfl, ⟨λ b o e => ?_, λ p hw z => r.wa p hw (r.up.w p z), λ p hw => by show upd F l (.lst vs) p = none; rw [ag (nw p hw)]; exact r.wf p hw, r.wj⟩, .cons (a := .fz _) (i1.same sF) (.cons (a := .fz _) (i2.same sF) (.cons (a := .fz _) (.lst (br.of ar) (il.same sF)) .nil)), h _ H, λ p a b F2 H2 us ws u row φ => ?_⟩
  ·by_cases z : b = l
   ·have e : upd F l (.lst vs) b = some o := e
    rw [z, ar] at e; cases e; rw [z]; exact hl
   ·have e : upd F l (.lst vs) b = some o := e
    rw [ag z] at e; exact r.inc b o e
  ·obtain ⟨f1, f2, φ⟩ := φ
   have uf : F2 l = some (.lst vs) := u.f l _ ar
   have il2 : IsL B.K F2 vs ts := (il.same sF).same u.f
   have U : Up B F H (λ b => if b = l then none else F2 b) H2 := {
    f := λ b o e => by
     have z : b ≠ l := λ z => by rw [z, fl] at e; cases e
     exact (gV z).trans (u.f b o (by show upd F l (.lst vs) b = some o; rw [ag z]; exact e))
    h := u.h
    i := λ b o e => by
     by_cases z : b = l
     ·have e := (h9 z).symm.trans e
      cases e
     ·exact u.i b o ((gV z).symm.trans e)
    m := λ b o e mb n => by
     by_cases z : b = l
     ·exact h9 z
     ·exact (gV z).trans (u.m b o e mb (by show upd F l (.lst vs) b = none; rw [ag z]; exact n))
    w := u.w
    x := λ b hw n => (gV (nw b hw)).trans (u.x b hw (by show upd F l (.lst vs) b = none; rw [ag (nw b hw)]; exact n))
    j := u.j }
   have r2 := r.go U
   have ra : H a = none := row.na
   have rb : H b = none := row.nb
   have na : B.H0 a = none := r.up.w a ra
   have nb : B.H0 b = none := r.up.w b rb
   have al : a ≠ l := λ z => by rw [z, hl] at ra; cases ra
   have bl : b ≠ l := λ z => by rw [z, hl] at rb; cases rb
   have own : ∀ l, H l = none -> ∀ i t, bV τ i (.own t) ∨ bV τ i (.vw t) -> ¬ db Z i (.ref l) := λ l hl i t z e => by
    rcases z with z | z
    ·obtain ⟨l', e', g, _⟩ := r.ow i t z
     obtain ⟨o, ho, _⟩ := g.mb
     cases ax e' e
     rw [hl] at ho; cases ho
    ·obtain ⟨l', e', g, _⟩ := r.vw i t z
     obtain ⟨o, ho, _⟩ := g.mb
     cases ax e' e
     rw [hl] at ho; cases ho
   have sp : bI B.K (λ b => if b = l then none else F2 b) p [.ref a, .ref b] := by
    have ne : ∀ {p : Addr} {u : HO}, F2 p = some u -> u ≠ .lst vs -> p ≠ l := λ e d => gX e uf d
    rcases row.sp with (z | ⟨o, z⟩) | z
    ·exact .inl (.inl ((gV (ne z nofun)).trans z))
    ·exact .inl (.inr ⟨o, (gV (ne z nofun)).trans z⟩)
    ·exact .inr z
   have ga : (λ b => if b = l then none else F2 b) a = none := (gV al).trans row.fa
   have gb : (λ b => if b = l then none else F2 b) b = none := (gV bl).trans row.fb
   cases row.oa with
   | lst ha lv0 =>
    cases row.ob with
    | lst hb lw0 =>
     rename_i va vb
     have lv := qw lv0 λ t ht v hv => Bh uf il2 tt (f1 t ht) v hv
     have lw := qw lw0 λ t ht v hv => Bh uf il2 tt (f2 t ht) v hv
     generalize (λ b => if b = l then none else F2 b) = G at *
     have r3 := r2.fixA ha ga na (own a ra)
     have s3 : am G (upd G a (.lst va)) := am.new ga _
     have fb3 : (upd G a (.lst va)) b = none := by rw [ag (Ne.symm row.ne)]; exact gb
     have r4 := r3.fixA hb fb3 nb (own b rb)
     have s4 : am (upd G a (.lst va)) (upd (upd G a (.lst va)) b (.lst vb)) := am.new fb3 _
     have hh : ∀ q o, H q = some o -> Mb o -> F q = none -> (upd (upd G a (.lst va)) b (.lst vb)) q = none := λ q o z mb n => by
      have h1 : q ≠ a := λ e => by rw [e, ra] at z; cases z
      have h2 : q ≠ b := λ e => by rw [e, rb] at z; cases z
      rw [ag h2, ag h1]
      exact U.m q o z mb n
     refine c (.ref p) _ H2 (.fz (.tup [.lst us, .lst ws])) τ ⟨(U.f.trans s3).trans s4, λ q o z nw _ => ⟨U.h q o nw z, λ mb n => hh q o z mb n⟩, λ _ t h => ⟨t, h⟩, U.w⟩ r4 ?_ trivial φ
     exact .tup (s4.tup (s3.tup sp)) (.cons (.lst (br.of (by rw [ag row.ne, ar])) ((lv.same s3).same s4)) (.cons (.lst (br.of ar) ((lw.same s3).same s4)) .nil))
end L2
set_option Elab.async false
set_option linter.all false
set_option maxRecDepth 100000
set_option maxHeartbeats 4000000
namespace MyLaw
def mkAlt (s : String) : Lean.MacroM (Lean.TSyntax `tactic) := do
  let i := Lean.mkIdent (s.drop 1).toString.toName
  match s.front with
  | 'r' => `(tactic| with_reducible refine $i ?_)
  | 'e' => `(tactic| exact $i)
  | 'b' => `(tactic| ((with_reducible apply $i); (focus rfl)))
  | 'c' => `(tactic| ((with_reducible apply $i); (focus ((kt_join); done))))
  | 'd' => `(tactic| ((with_reducible apply $i); (focus (kpf_lEnd))))
  | 'f' => `(tactic| ((with_reducible apply $i); (focus (kpf_nlEnd))))
  | 'g' => `(tactic| ((with_reducible apply $i); (focus rfl); (focus (dl_open))))
  | 'h' => `(tactic| ((with_reducible apply $i); (focus ((kt_join); done)); (focus ((acc_open); done))))
  | 'i' => `(tactic| ((with_reducible apply $i); (focus (row_close2_l))))
  | 'j' => `(tactic| ((with_reducible apply $i); (focus ((acc_open); done))))
  | 'k' => `(tactic| ((with_reducible apply $i); (focus rfl); (focus rfl)))
  | 'l' => `(tactic| ((with_reducible apply $i); (focus (kpf_lEnd)); (focus rfl)))
  | 'm' => `(tactic| ((with_reducible apply $i); (focus (first | decide | omega | assumption)); (kt_field)))
  | 'n' => `(tactic| ((with_reducible apply $i); (focus rfl); (focus (dl_open)); (focus rfl)))
  | 'o' => `(tactic| ((with_reducible apply $i); (focus rfl); (focus rfl); (focus rfl)))
  | _ => `(tactic| fail)
def mkAlts (s : String) : Lean.MacroM (Lean.TSyntax `tactic) := do
  let a ← (s.splitOn " ").toArray.mapM λ x => do
    let y ← mkAlt x
    `(Lean.Parser.Tactic.tacticSeq| $y:tactic)
  `(tactic| first $[| $a:tacticSeq]*)
end MyLaw
namespace MyLaw
open PySem L2
local macro_rules | `(tactic| kby_int) => `(tactic| exact ⟨rfl, rfl, rfl, by decide +kernel, rfl, by decide +kernel, by decide +kernel⟩)
noncomputable abbrev Kp (K : Fg) (f : Addr) : Prop := PySem.W.keepIn K (.ref f) = true
noncomputable abbrev Mm (m : Str -> Option Value) (n : Str) (f : Addr) : Prop := m n = some (.ref f)
noncomputable def dJ (i : Nat) : Stmt := PySem.Challenge.pw_markscale_k41_heaps.main.body.getD i (.Pass ⟨0, 0, 0, 0⟩)
noncomputable abbrev ic : Stmt := dJ 4
theorem rG : aw ["thing"] ["thing"] (af ic) := by kby_int
noncomputable abbrev eX : Stmt := dJ 5
theorem bS : aw ["one", "other", "high", "low", "rest"] ["one", "other"] (af eX) := by kby_int
noncomputable abbrev cg : Stmt := dJ 6
theorem jE : aw ["top", "bottom", "divisor"] ["top", "bottom"] (af cg) := by kby_int
noncomputable abbrev uM : Stmt := dJ 7
theorem DU : aw ["one", "other"] ["one", "other"] (af uM) := by kby_int
noncomputable abbrev oZ : Stmt := dJ 8
theorem Bm : aw ["one", "other"] ["one", "other"] (af oZ) := by kby_int
noncomputable abbrev pG : Stmt := dJ 9
theorem Bf : aw ["one", "other"] ["one", "other"] (af pG) := by kby_int
noncomputable abbrev uO : Stmt := dJ 10
theorem BZ : aw ["one", "other"] ["one", "other"] (af uO) := by kby_int
noncomputable abbrev pD : Stmt := dJ 11
theorem Bc : aw ["one", "other"] ["one", "other"] (af pD) := by kby_int
noncomputable abbrev jI : Stmt := dJ 12
theorem ug : aw ["one"] ["one"] (af jI) := by kby_int
noncomputable abbrev cT : Stmt := dJ 14
theorem dY : aw ["one", "lo", "hi", "begin", "end", "part"] ["one", "lo", "hi", "begin", "end"] (af cT) := by kby_int
noncomputable abbrev fR : Stmt := dJ 15
theorem oH : aw ["one", "lo", "hi"] ["one", "lo", "hi"] (af fR) := by kby_int
noncomputable abbrev hV : Stmt := dJ 16
theorem eC : aw ["base", "exponent", "product", "turn"] ["base", "exponent"] (af hV) := by kby_int
noncomputable abbrev eH : Stmt := dJ 17
theorem be : aw ["base", "one", "top", "bottom", "exponent"] ["base", "one"] (af eH) := by kby_int
noncomputable abbrev cf : Stmt := dJ 18
theorem gc : aw ["scale", "cell"] ["scale", "cell"] (af cf) := by kby_int
noncomputable abbrev cU : Stmt := dJ 19
theorem bi : aw ["scale", "cell", "base", "exponent", "turns", "power", "part"] ["scale", "cell"] (af cU) := by kby_int
noncomputable abbrev cM : Stmt := dJ 20
theorem cu : aw ["scale", "cell", "pieces", "piece"] ["scale", "cell"] (af cM) := by kby_int
noncomputable abbrev dz : Stmt := dJ 21
theorem jX : aw ["scale", "cell"] ["scale", "cell"] (af dz) := by kby_int
noncomputable abbrev cW : Stmt := dJ 22
theorem iK : aw ["scale", "cell"] ["scale", "cell"] (af cW) := by kby_int
noncomputable abbrev ir : Stmt := dJ 23
theorem rV : aw ["scale", "cell"] ["scale", "cell"] (af ir) := by kby_int
noncomputable abbrev fm : Stmt := dJ 24
theorem eI : aw ["scale", "word", "at", "many"] ["scale", "word"] (af fm) := by kby_int
noncomputable abbrev oP : Stmt := dJ 27
theorem Bx : aw ["field", "place"] ["field", "place"] (af oP) := by kby_int
noncomputable abbrev qh : Stmt := dJ 28
theorem yU : aw ["field", "place"] ["field", "place"] (af qh) := by kby_int
noncomputable abbrev ie : Stmt := dJ 29
theorem rQ : aw ["field", "item", "channel"] ["field", "item", "channel"] (af ie) := by kby_int
noncomputable abbrev iz : Stmt := dJ 30
theorem gw : aw ["field", "word", "stretch", "tenth"] ["field", "word"] (af iz) := by kby_int
noncomputable abbrev jJ : Stmt := dJ 31
theorem lD : aw ["scale", "place"] ["scale"] (af jJ) := by kby_int
noncomputable abbrev jz : Stmt := dJ 32
theorem ig : aw ["field", "item", "channels", "channel", "place"] ["field", "item", "channels"] (af jz) := by kby_int
noncomputable abbrev cC : Stmt := dJ 33
theorem lm : aw ["field", "items", "groups"] ["field", "items"] (af cC) := by kby_int
noncomputable abbrev fu : Stmt := dJ 35
theorem gZ : aw ["field", "item", "loss"] ["field", "item"] (af fu) := by kby_int
noncomputable abbrev gK : Stmt := dJ 36
theorem bv : aw ["field", "side", "items", "ends", "total", "begin", "marks", "lost", "item", "place", "end"] ["field", "side", "items"] (af gK) := by kby_int
noncomputable abbrev gI : Stmt := dJ 37
theorem eV : aw ["field", "side", "items", "losses", "lost", "marks", "group", "both"] ["field", "side", "items"] (af gI) := by kby_int
noncomputable abbrev jK : Stmt := dJ 39
theorem cv : aw ["_law_cell_here", "_law_tops", "_law_found", "_law_left", "_law_mixed", "_law_k"] ["_law_cell_here", "_law_tops"] (af jK) := by kby_int
noncomputable abbrev jM : Stmt := dJ 40
theorem ue : aw ["_law_found"] ["_law_found"] (af jM) := by kby_int
noncomputable abbrev gn : Stmt := dJ 41
theorem je : aw ["_law_one", "_law_other"] ["_law_one", "_law_other"] (af gn) := by kby_int
noncomputable abbrev ib : Stmt := dJ 42
theorem em : aw ["_law_d", "_law_top", "_law_bottom", "_law_share"] ["_law_d"] (af ib) := by kby_int
noncomputable abbrev qu : Stmt := dJ 43
theorem sj : aw ["_law_top", "_law_bottom", "_law_share"] ["_law_top", "_law_bottom"] (af qu) := by kby_int
noncomputable abbrev lA : Stmt := dJ 44
theorem ya : aw ["_law_one", "_law_other"] ["_law_one", "_law_other"] (af lA) := by kby_int
noncomputable abbrev mM : Stmt := dJ 45
theorem oq : aw ["_law_lo", "_law_hi", "_law_f", "_law_g", "_law_span"] ["_law_lo", "_law_hi", "_law_f", "_law_g"] (af mM) := by kby_int
noncomputable abbrev jO : Stmt := dJ 46
theorem cq : aw ["_law_many", "_law_d", "_law_some", "_law_names", "_law_k", "_law_at", "_law_pair"] ["_law_many", "_law_d"] (af jO) := by kby_int
noncomputable abbrev jP : Stmt := dJ 47
theorem eZ : aw ["_law_kind", "_law_d", "_law_length", "_law_span", "_law_lo"] ["_law_kind", "_law_d"] (af jP) := by kby_int
noncomputable abbrev lT : Stmt := dJ 48
theorem ju : aw ["_law_scale_here", "_law_e", "_law_f", "_law_g"] ["_law_scale_here", "_law_e"] (af lT) := by kby_int
noncomputable abbrev jT : Stmt := dJ 49
theorem fi : aw ["_law_scale_here", "_law_one", "_law_lo", "_law_hi", "_law_top"] ["_law_scale_here", "_law_one"] (af jT) := by kby_int
noncomputable abbrev gd : Stmt := dJ 50
theorem pP : aw ["_law_place_here"] ["_law_place_here"] (af gd) := by kby_int
noncomputable abbrev jL : Stmt := dJ 51
theorem dP : aw ["_law_cell_here", "_law_one", "_law_d", "_law_x", "_law_y"] ["_law_cell_here"] (af jL) := by kby_int
noncomputable abbrev jx : Stmt := dJ 52
theorem bn : aw ["_law_cells", "_law_field_here", "_law_items_here", "_law_own", "_law_cell_here", "_law_d", "_law_rank", "_law_colour", "_law_x", "_law_y", "_law_other"] ["_law_cells", "_law_field_here"] (af jx) := by kby_int
noncomputable abbrev iO : Stmt := dJ 53
theorem xC : aw ["_law_found", "_law_due_here"] ["_law_found", "_law_due_here"] (af iO) := by kby_int
noncomputable abbrev lP : Stmt := dJ 54
theorem gQ : aw ["_law_field_here", "_law_word", "_law_many", "_law_at", "_law_begin"] ["_law_field_here", "_law_word"] (af lP) := by kby_int
noncomputable abbrev mI : Stmt := dJ 55
theorem aP : aw ["_law_field_here", "_law_side", "_law_items_here", "_law_lost", "_law_marks", "_law_low_here", "_law_total", "_law_edge", "_law_own", "_law_x", "_law_y", "_law_other", "_law_rank", "_law_colour", "_law_size", "_law_raised", "_law_ends_here", "_law_beneath"] ["_law_field_here", "_law_side", "_law_items_here", "_law_lost"] (af mI) := by kby_int
noncomputable abbrev iT : Stmt := dJ 56
theorem dk : aw ["_law_field_here", "_law_side", "_law_items_here", "_law_lost", "_law_kept", "_law_item", "_law_marks", "_law_word"] ["_law_field_here", "_law_side", "_law_items_here"] (af iT) := by kby_int
noncomputable abbrev mn : Stmt := dJ 57
theorem fc : aw ["_law_script", "_law_first", "_law_field_here", "_law_items_here", "_law_side", "_law_due_here", "_law_handed", "_law_found", "_law_again"] ["_law_script"] (af mn) := by kby_int
variable {us : List Value}
theorem Gn (h : us.length = 1) : ∃ a0, us = [a0] := by
 match us, h with
 | [a0], _ => exact ⟨a0, rfl⟩
theorem Iq (h : us.length = 2) : ∃ a0 a1, us = [a0, a1] := by
 match us, h with
 | [a0, a1], _ => exact ⟨a0, a1, rfl⟩
theorem KP (h : us.length = 3) : ∃ a0 a1 a2, us = [a0, a1, a2] := by
 match us, h with
 | [a0, a1, a2], _ => exact ⟨a0, a1, a2, rfl⟩
theorem LX (h : us.length = 4) : ∃ a0 a1 a2 a3, us = [a0, a1, a2, a3] := by
 match us, h with
 | [a0, a1, a2, a3], _ => exact ⟨a0, a1, a2, a3, rfl⟩
theorem LP (h : us.length = 5) : ∃ a0 a1 a2 a3 a4, us = [a0, a1, a2, a3, a4] := by
 match us, h with
 | [a0, a1, a2, a3, a4], _ => exact ⟨a0, a1, a2, a3, a4, rfl⟩
structure Fz (K : Fg) (f : Addr) (oc : Value) (od : Option Addr) (n : Str) (st : Stmt) (df kV dc pm : Value) (an : Option Addr) (cd ct : Value) (sl : Array (Option Value)) : Prop where
 a : PySem.W.nsIn K mainGlobals n = some (some (.ref f))
 l : K.lookup f = some ⟨oc, od, .func (PySem.W.fnOf n n (cm st) (bx st) (af st) df kV dc pm an cd ct), sl⟩
 c : PySem.W.codeIn K cd n = true
 k : PySem.W.keepIn K (.ref f) = true
structure Dn (K : Fg) (mg : Str -> Option Value) (n : Str) (st : Stmt) (ps : List Str) (f : Addr) (d : FuncData) : Prop where
 F : DT K n n st f d
 m : mg n = some (.ref f)
 k : PySem.W.keepIn K (.ref f) = true
 b : gy K d ps []
noncomputable abbrev fO (n : Str) (st : Stmt) (kV dc pm : Value) (an : Option Addr) (cd ct : Value) : FuncData := PySem.W.fnOf n n (cm st) (bx st) (af st) .none kV dc pm an cd ct
section
variable {K : Fg} {mg : Str -> Option Value} {h : Heap} (X : K.In h) (G : h.Ns mainGlobals mg) {n p0 p1 p2 p3 p4 : Str} {st : Stmt} {f : Addr} {oc kV dc pm cd ct : Value} {od an : Option Addr} {sl : Array (Option Value)} (x : Fz K f oc od n st .none kV dc pm an cd ct sl)
include X G x
theorem dn1 (hb : ∀ a0, bindArgs (fO n st kV dc pm an cd ct) ⟨[a0], []⟩ = pure [(p0, a0)] := by intros; rfl) : Dn K mg n st [p0] f (fO n st kV dc pm an cd ct) := ⟨kc x.l x.c x.k, PySem.W.mg_of X G x.a, x.k, .all λ us hl => by obtain ⟨_, rfl⟩ := Gn hl; exact hb _⟩
theorem dn2 (hb : ∀ a0 a1, bindArgs (fO n st kV dc pm an cd ct) ⟨[a0, a1], []⟩ = pure [(p0, a0), (p1, a1)] := by intros; rfl) : Dn K mg n st [p0, p1] f (fO n st kV dc pm an cd ct) := ⟨kc x.l x.c x.k, PySem.W.mg_of X G x.a, x.k, .all λ us hl => by obtain ⟨_, _, rfl⟩ := Iq hl; exact hb _ _⟩
theorem dn3 (hb : ∀ a0 a1 a2, bindArgs (fO n st kV dc pm an cd ct) ⟨[a0, a1, a2], []⟩ = pure [(p0, a0), (p1, a1), (p2, a2)] := by intros; rfl) : Dn K mg n st [p0, p1, p2] f (fO n st kV dc pm an cd ct) := ⟨kc x.l x.c x.k, PySem.W.mg_of X G x.a, x.k, .all λ us hl => by obtain ⟨_, _, _, rfl⟩ := KP hl; exact hb _ _ _⟩
theorem dn4 (hb : ∀ a0 a1 a2 a3, bindArgs (fO n st kV dc pm an cd ct) ⟨[a0, a1, a2, a3], []⟩ = pure [(p0, a0), (p1, a1), (p2, a2), (p3, a3)] := by intros; rfl) : Dn K mg n st [p0, p1, p2, p3] f (fO n st kV dc pm an cd ct) := ⟨kc x.l x.c x.k, PySem.W.mg_of X G x.a, x.k, .all λ us hl => by obtain ⟨_, _, _, _, rfl⟩ := LX hl; exact hb _ _ _ _⟩
theorem dn5 (hb : ∀ a0 a1 a2 a3 a4, bindArgs (fO n st kV dc pm an cd ct) ⟨[a0, a1, a2, a3, a4], []⟩ = pure [(p0, a0), (p1, a1), (p2, a2), (p3, a3), (p4, a4)] := by intros; rfl) : Dn K mg n st [p0, p1, p2, p3, p4] f (fO n st kV dc pm an cd ct) := ⟨kc x.l x.c x.k, PySem.W.mg_of X G x.a, x.k, .all λ us hl => by obtain ⟨_, _, _, _, _, rfl⟩ := LP hl; exact hb _ _ _ _ _⟩
end
noncomputable abbrev FO (P : Program) (w : World) (base : Heap) {K : Fg} {mg : Str -> Option Value} {n : Str} {st : Stmt} {ps : List Str} {f : Addr} {d : FuncData} (_ : Dn K mg n st ps f d) (k : Nat) (sp : Sp) : Prop := cr P w K mg base nD k f d ps sp
theorem aY {X : Cx} {k j : Nat} {n : Str} {st : Stmt} {ps : List Str} {f : Addr} {d : FuncData} {sp : Sp} {e : Expr} {es : List Expr} {t : TA} {p pos : Pos} (F : cr X.prog X.w X.K X.mg X.base nD k f d ps sp) (hr : cP j X.A) (D : Dn X.K X.mg n st ps f d) (ha : PA X (e :: es) t) (hj : k <= j := by decide) (hg : Gl X n := by exact rfl) (hdb : (n == ("__debug__" : Str)) = false := by decide) (he : starEach (e :: es) X.env = (false, eval e X.env) :: starEach es X.env := by rfl) (hpl : (backTo pos (starEach es X.env)).any (·.1) = false := by rfl) : PE X (.Call (.Name n p) (e :: es) [] pos) (dm sp [] E0 t) := aZ F (hr.mono hj) hg D.m D.k D.b .nil Bi ha hdb he hpl
set_option genInjectivity false in
structure Mn where
 (f_zaw : Addr) (d_zaw : FuncData)
 (f_za6 : Addr) (d_za6 : FuncData)
 (f_zaa : Addr) (d_zaa : FuncData)
 (f_zac : Addr) (d_zac : FuncData)
 (f_zad : Addr) (d_zad : FuncData)
 (f_zap : Addr) (d_zap : FuncData)
 (f_zam : Addr) (d_zam : FuncData)
 (f_zax : Addr) (d_zax : FuncData)
 (f_zat : Addr) (d_zat : FuncData)
 (f_zau : Addr) (d_zau : FuncData)
 (f_zaq : Addr) (d_zaq : FuncData)
 (f_za7 : Addr) (d_za7 : FuncData)
 (f_za8 : Addr) (d_za8 : FuncData)
 (f_zag : Addr) (d_zag : FuncData)
 (f_zah : Addr) (d_zah : FuncData)
 (f_zai : Addr) (d_zai : FuncData)
 (f_zaj : Addr) (d_zaj : FuncData)
 (f_zak : Addr) (d_zak : FuncData)
 (f_zal : Addr) (d_zal : FuncData)
 (f_za9 : Addr) (d_za9 : FuncData)
 (f_zay : Addr) (d_zay : FuncData)
 (f_zaz : Addr) (d_zaz : FuncData)
 (f_zba : Addr) (d_zba : FuncData)
 (f_zbb : Addr) (d_zbb : FuncData)
 (f_zbc : Addr) (d_zbc : FuncData)
 (f_zbd : Addr) (d_zbd : FuncData)
 (f_zbe : Addr) (d_zbe : FuncData)
 (f_zbf : Addr) (d_zbf : FuncData)
 (f_za0 : Addr) (d_za0 : FuncData)
 (f_zar : Addr) (d_zar : FuncData)
 (f_zav : Addr) (d_zav : FuncData)
 (f_za1 : Addr) (d_za1 : FuncData)
 (f_zas : Addr) (d_zas : FuncData)
 (f_zbg : Addr) (d_zbg : FuncData)
 (f_zae : Addr) (d_zae : FuncData)
 (f_zaf : Addr) (d_zaf : FuncData)
 (f_zbh : Addr) (d_zbh : FuncData)
 (f_zbi : Addr) (d_zbi : FuncData)
 (f_za2 : Addr) (d_za2 : FuncData)
 (f_za3 : Addr) (d_za3 : FuncData)
 (f_zao : Addr) (d_zao : FuncData)
 (f_zan : Addr) (d_zan : FuncData)
 (f_za4 : Addr) (d_za4 : FuncData)
 (f_zbj : Addr) (d_zbj : FuncData)
 (f_zab : Addr) (d_zab : FuncData)
 (f_zbk : Addr) (d_zbk : FuncData)
 (f_zbl : Addr) (d_zbl : FuncData)
 (f_za5 : Addr) (d_za5 : FuncData)
 (f_law : Addr) (d_law : FuncData)
 (c_NoNumber : Addr)
 (g_TENTH : Tok)
 (tab0 : Addr)
 (tab1 : Addr)
structure cD (K : Fg) (mg : Str -> Option Value) (t : Mn) : Prop where
 q_zaw : Dn K mg "is_whole" ic ["thing"] t.f_zaw t.d_zaw
 q_za6 : Dn K mg "divisor_of" eX ["one", "other"] t.f_za6 t.d_za6
 F_zaa : CN K "number" "number" cg t.f_zaa t.d_zaa
 m_zaa : Mm mg "number" t.f_zaa
 k_number : Kp K t.f_zaa
 b_number : gy K t.d_zaa ["top", "bottom"] []
 b_number1 : ∃ ds, aL [V.int 1] ds /\ gy K t.d_zaa ["top", "bottom"] ds
 q_zac : Dn K mg "plus" uM ["one", "other"] t.f_zac t.d_zac
 q_zad : Dn K mg "minus" oZ ["one", "other"] t.f_zad t.d_zad
 q_zap : Dn K mg "times" pG ["one", "other"] t.f_zap t.d_zap
 q_zam : Dn K mg "over" uO ["one", "other"] t.f_zam t.d_zam
 q_zax : Dn K mg "under" pD ["one", "other"] t.f_zax t.d_zax
 q_zat : Dn K mg "rounded" jI ["one"] t.f_zat t.d_zat
 q_zau : Dn K mg "straight_place" cT ["one", "lo", "hi", "begin", "end"] t.f_zau t.d_zau
 q_zaq : Dn K mg "is_within" fR ["one", "lo", "hi"] t.f_zaq t.d_zaq
 q_za7 : Dn K mg "power_of" hV ["base", "exponent"] t.f_za7 t.d_za7
 q_za8 : Dn K mg "power_below" eH ["base", "one"] t.f_za8 t.d_za8
 q_zag : Dn K mg "place_on_straight" cf ["scale", "cell"] t.f_zag t.d_zag
 q_zah : Dn K mg "place_on_turns" cU ["scale", "cell"] t.f_zah t.d_zah
 q_zai : Dn K mg "place_on_broken" cM ["scale", "cell"] t.f_zai t.d_zai
 q_zaj : Dn K mg "place_on_days" dz ["scale", "cell"] t.f_zaj t.d_zaj
 q_zak : Dn K mg "place_on_order" cW ["scale", "cell"] t.f_zak t.d_zak
 q_zal : Dn K mg "place_on" ir ["scale", "cell"] t.f_zal t.d_zal
 q_za9 : Dn K mg "stretch_on" fm ["scale", "word"] t.f_za9 t.d_za9
 q_zay : Dn K mg "put_x" oP ["field", "place"] t.f_zay t.d_zay
 q_zaz : Dn K mg "put_y" qh ["field", "place"] t.f_zaz t.d_zaz
 q_zba : Dn K mg "place_of" ie ["field", "item", "channel"] t.f_zba t.d_zba
 q_zbb : Dn K mg "bar_ends" iz ["field", "word"] t.f_zbb t.d_zbb
 q_zbc : Dn K mg "base_on" jJ ["scale"] t.f_zbc t.d_zbc
 q_zbd : Dn K mg "loss_of" jz ["field", "item", "channels"] t.f_zbd t.d_zbd
 q_zbe : Dn K mg "by_word" cC ["field", "items"] t.f_zbe t.d_zbe
 q_zbf : Dn K mg "loss_ahead" fu ["field", "item"] t.f_zbf t.d_zbf
 q_za0 : Dn K mg "heap_of" gK ["field", "side", "items"] t.f_za0 t.d_za0
 q_zar : Dn K mg "heaps" gI ["field", "side", "items"] t.f_zar t.d_zar
 q_zav : Dn K mg "_law_draws" jK ["_law_cell_here", "_law_tops"] t.f_zav t.d_zav
 q_za1 : Dn K mg "_law_whole" jM ["_law_found"] t.f_za1 t.d_za1
 q_zas : Dn K mg "_law_divisor" gn ["_law_one", "_law_other"] t.f_zas t.d_zas
 q_zbg : Dn K mg "_law_number" ib ["_law_d"] t.f_zbg t.d_zbg
 q_zae : Dn K mg "_law_low" qu ["_law_top", "_law_bottom"] t.f_zae t.d_zae
 q_zaf : Dn K mg "_law_plus" lA ["_law_one", "_law_other"] t.f_zaf t.d_zaf
 q_zbh : Dn K mg "_law_part" mM ["_law_lo", "_law_hi", "_law_f", "_law_g"] t.f_zbh t.d_zbh
 q_zbi : Dn K mg "_law_words" jO ["_law_many", "_law_d"] t.f_zbi t.d_zbi
 q_za2 : Dn K mg "_law_scale" jP ["_law_kind", "_law_d"] t.f_za2 t.d_za2
 q_za3 : Dn K mg "_law_cell" lT ["_law_scale_here", "_law_e"] t.f_za3 t.d_za3
 q_zao : Dn K mg "_law_place" jT ["_law_scale_here", "_law_one"] t.f_zao t.d_zao
 q_zan : Dn K mg "_law_rounded" gd ["_law_place_here"] t.f_zan t.d_zan
 q_za4 : Dn K mg "_law_field" jL ["_law_cell_here"] t.f_za4 t.d_za4
 q_zbj : Dn K mg "_law_items" jx ["_law_cells", "_law_field_here"] t.f_zbj t.d_zbj
 q_zab : Dn K mg "_law_same" iO ["_law_found", "_law_due_here"] t.f_zab t.d_zab
 q_zbk : Dn K mg "_law_ends" lP ["_law_field_here", "_law_word"] t.f_zbk t.d_zbk
 q_zbl : Dn K mg "_law_heap" mI ["_law_field_here", "_law_side", "_law_items_here", "_law_lost"] t.f_zbl t.d_zbl
 q_za5 : Dn K mg "_law_due" iT ["_law_field_here", "_law_side", "_law_items_here"] t.f_za5 t.d_za5
 F_law : DT K "law" "law" mn t.f_law t.d_law
 m_law : Mm mg "law" t.f_law
 k_law : Kp K t.f_law
 b_law : gy K t.d_law ["_law_script"] []
 m_NoNumber : mg "NoNumber" = some (.ref t.c_NoNumber)
 n_NoNumber : PySem.W.nsIn K mainGlobals "NoNumber" = some (some (.ref t.c_NoNumber))
 x_NoNumber : PySem.W.excIn K t.c_NoNumber Fk "ValueError.__new__" = true
 e_NoNumber : PySem.W.exmOne K (.ref t.c_NoNumber) (.ref t.c_NoNumber) = some true
 g_TENTH : mg "TENTH" = some (.int 10 t.g_TENTH)
 z_isinstance : mg "isinstance" = none
 z_int : mg "int" = none
 z_bool : mg "bool" = none
 z_tuple : mg "tuple" = none
 z_str : mg "str" = none
 z_list : mg "list" = none
 z_abs : mg "abs" = none
 z_len : mg "len" = none
 z_range : mg "range" = none
 z_zip : mg "zip" = none
 z_sorted : mg "sorted" = none
 z_all : mg "all" = none
 tb0 : L2.codeHdT K t.d_za0.code t.tab0 = true
 tb1 : L2.codeHdT K t.d_za5.code t.tab1 = true
theorem all_mk {h : Heap} {mg : Str -> Option Value} {fa f0 f1 f2 f3 f4 f5 f6 f7 f8 f9 f10 f11 f12 f13 f14 f15 f16 f17 f18 f19 f20 f21 f22 f23 f24 f25 f26 f27 f28 f29 f30 f31 f32 f33 f34 f35 f36 f37 f38 f39 f40 f41 f42 f43 f44 f45 f46 f47 f48 C_NoNumber dT2 : Addr} (X : K.In h) (G : h.Ns mainGlobals mg) (hfa : mg "law" = some (.ref fa))
  {od2 an2 od48 an48 : Option Addr} {sl2 sl48 : Array (Option Value)} {oc2 kV2 dc2 pm2 cd2 ct2 oc48 kV48 dc48 pm48 cd48 ct48 : Value}
  {d0 d1 d3 d4 d5 d6 d7 d8 d9 d10 d11 d12 d13 d14 d15 d16 d17 d18 d19 d20 d21 d22 d23 d24 d25 d26 d27 d28 d29 d30 d31 d32 d33 d34 d35 d36 d37 d38 d39 d40 d41 d42 d43 d44 d45 d46 d47 : FuncData}
  {g_TENTH : Tok}
  {tc2 : Value} {td2 : Option Addr} {tn2 : Nat} {ts2 : Array (Option Value)} {tk2 : Tok}
  (x0 : Dn K mg "is_whole" ic ["thing"] f0 d0)
  (x1 : Dn K mg "divisor_of" eX ["one", "other"] f1 d1)
  (x2 : Fz K f2 oc2 od2 "number" cg (.ref dT2) kV2 dc2 pm2 an2 cd2 ct2 sl2)
  (dl2 : K.lookup dT2 = some ⟨tc2, td2, .seq #[.int 1 tk2] tn2, ts2⟩)
  (x3 : Dn K mg "plus" uM ["one", "other"] f3 d3)
  (x4 : Dn K mg "minus" oZ ["one", "other"] f4 d4)
  (x5 : Dn K mg "times" pG ["one", "other"] f5 d5)
  (x6 : Dn K mg "over" uO ["one", "other"] f6 d6)
  (x7 : Dn K mg "under" pD ["one", "other"] f7 d7)
  (x8 : Dn K mg "rounded" jI ["one"] f8 d8)
  (x9 : Dn K mg "straight_place" cT ["one", "lo", "hi", "begin", "end"] f9 d9)
  (x10 : Dn K mg "is_within" fR ["one", "lo", "hi"] f10 d10)
  (x11 : Dn K mg "power_of" hV ["base", "exponent"] f11 d11)
  (x12 : Dn K mg "power_below" eH ["base", "one"] f12 d12)
  (x13 : Dn K mg "place_on_straight" cf ["scale", "cell"] f13 d13)
  (x14 : Dn K mg "place_on_turns" cU ["scale", "cell"] f14 d14)
  (x15 : Dn K mg "place_on_broken" cM ["scale", "cell"] f15 d15)
  (x16 : Dn K mg "place_on_days" dz ["scale", "cell"] f16 d16)
  (x17 : Dn K mg "place_on_order" cW ["scale", "cell"] f17 d17)
  (x18 : Dn K mg "place_on" ir ["scale", "cell"] f18 d18)
  (x19 : Dn K mg "stretch_on" fm ["scale", "word"] f19 d19)
  (x20 : Dn K mg "put_x" oP ["field", "place"] f20 d20)
  (x21 : Dn K mg "put_y" qh ["field", "place"] f21 d21)
  (x22 : Dn K mg "place_of" ie ["field", "item", "channel"] f22 d22)
  (x23 : Dn K mg "bar_ends" iz ["field", "word"] f23 d23)
  (x24 : Dn K mg "base_on" jJ ["scale"] f24 d24)
  (x25 : Dn K mg "loss_of" jz ["field", "item", "channels"] f25 d25)
  (x26 : Dn K mg "by_word" cC ["field", "items"] f26 d26)
  (x27 : Dn K mg "loss_ahead" fu ["field", "item"] f27 d27)
  (x28 : Dn K mg "heap_of" gK ["field", "side", "items"] f28 d28)
  (x29 : Dn K mg "heaps" gI ["field", "side", "items"] f29 d29)
  (x30 : Dn K mg "_law_draws" jK ["_law_cell_here", "_law_tops"] f30 d30)
  (x31 : Dn K mg "_law_whole" jM ["_law_found"] f31 d31)
  (x32 : Dn K mg "_law_divisor" gn ["_law_one", "_law_other"] f32 d32)
  (x33 : Dn K mg "_law_number" ib ["_law_d"] f33 d33)
  (x34 : Dn K mg "_law_low" qu ["_law_top", "_law_bottom"] f34 d34)
  (x35 : Dn K mg "_law_plus" lA ["_law_one", "_law_other"] f35 d35)
  (x36 : Dn K mg "_law_part" mM ["_law_lo", "_law_hi", "_law_f", "_law_g"] f36 d36)
  (x37 : Dn K mg "_law_words" jO ["_law_many", "_law_d"] f37 d37)
  (x38 : Dn K mg "_law_scale" jP ["_law_kind", "_law_d"] f38 d38)
  (x39 : Dn K mg "_law_cell" lT ["_law_scale_here", "_law_e"] f39 d39)
  (x40 : Dn K mg "_law_place" jT ["_law_scale_here", "_law_one"] f40 d40)
  (x41 : Dn K mg "_law_rounded" gd ["_law_place_here"] f41 d41)
  (x42 : Dn K mg "_law_field" jL ["_law_cell_here"] f42 d42)
  (x43 : Dn K mg "_law_items" jx ["_law_cells", "_law_field_here"] f43 d43)
  (x44 : Dn K mg "_law_same" iO ["_law_found", "_law_due_here"] f44 d44)
  (x45 : Dn K mg "_law_ends" lP ["_law_field_here", "_law_word"] f45 d45)
  (x46 : Dn K mg "_law_heap" mI ["_law_field_here", "_law_side", "_law_items_here", "_law_lost"] f46 d46)
  (x47 : Dn K mg "_law_due" iT ["_law_field_here", "_law_side", "_law_items_here"] f47 d47)
  (x48 : Fz K f48 oc48 od48 "law" mn .none kV48 dc48 pm48 an48 cd48 ct48 sl48)
  (w_TENTH : PySem.W.nsIn K mainGlobals "TENTH" = some (some (.int 10 g_TENTH)))
  (n_NoNumber : PySem.W.nsIn K mainGlobals "NoNumber" = some (some (.ref C_NoNumber))) (x_NoNumber : PySem.W.excIn K C_NoNumber Fk "ValueError.__new__" = true) (e_NoNumber : PySem.W.exmOne K (.ref C_NoNumber) (.ref C_NoNumber) = some true)
  (z_isinstance : PySem.W.nsIn K mainGlobals "isinstance" = some none)
  (z_int : PySem.W.nsIn K mainGlobals "int" = some none)
  (z_bool : PySem.W.nsIn K mainGlobals "bool" = some none)
  (z_tuple : PySem.W.nsIn K mainGlobals "tuple" = some none)
  (z_str : PySem.W.nsIn K mainGlobals "str" = some none)
  (z_list : PySem.W.nsIn K mainGlobals "list" = some none)
  (z_abs : PySem.W.nsIn K mainGlobals "abs" = some none)
  (z_len : PySem.W.nsIn K mainGlobals "len" = some none)
  (z_range : PySem.W.nsIn K mainGlobals "range" = some none)
  (z_zip : PySem.W.nsIn K mainGlobals "zip" = some none)
  (z_sorted : PySem.W.nsIn K mainGlobals "sorted" = some none)
  (z_all : PySem.W.nsIn K mainGlobals "all" = some none)
  (Pt0 : Addr) (tb0 : L2.codeHdT K d28.code Pt0 = true)
  (Pt1 : Addr) (tb1 : L2.codeHdT K d47.code Pt1 = true)
  : ∃ t : Mn, cD K mg t /\ t.f_law = fa /\ (∀ (s : Shared) (v : Value), BindsTo s t.d_law ⟨[v], []⟩ [("_law_script", v)]) /\ [t.tab0, t.tab1] = [Pt0, Pt1] := by
 have e := hfa.symm.trans (PySem.W.mg_of X G x48.a)
 cases e
 have F2 := CY (st := cg) x2.l x2.c x2.k
 have b2 : gy K (PySem.W.fnOf "number" "number" (cm cg) (bx cg) (af cg) (.ref dT2) kV2 dc2 pm2 an2 cd2 ct2) ["top", "bottom"] [] := λ s us X hl => by obtain ⟨_, _, rfl⟩ := Iq (us := us) (by simpa using hl); exact BindsTo.of_defaults rfl (X _ _ dl2) rfl rfl rfl
 have bd2 : ∃ ds, aL [V.int 1] ds /\ gy K (PySem.W.fnOf "number" "number" (cm cg) (bx cg) (af cg) (.ref dT2) kV2 dc2 pm2 an2 cd2 ct2) ["top", "bottom"] ds := ⟨[.int 1 tk2], .cons ⟨_, rfl⟩ .nil, λ s us X hl => by obtain ⟨_, rfl⟩ := Gn (us := us) (by simpa using hl); exact BindsTo.of_defaults rfl (X _ _ dl2) rfl rfl rfl⟩
 have F48 := kc (st := mn) x48.l x48.c x48.k
 have b48 := F48.binds (ps := ["_law_script"]) λ _ _ _ _ _ _ us hl => by obtain ⟨_, rfl⟩ := Gn hl; rfl
 have T : cD K mg ⟨_, _, _, _, _, _, _, _, _, _, _, _, _, _, _, _, _, _, _, _, _, _, _, _, _, _, _, _, _, _, _, _, _, _, _, _, _, _, _, _, _, _, _, _, _, _, _, _, _, _, _, _, _, _, _, _, _, _, _, _, _, _, _, _, _, _, _, _, _, _, _, _, _, _, _, _, _, _, _, _, _, _, _, _, _, _, _, _, _, _, _, _, _, _, _, _, _, _, C_NoNumber, g_TENTH, Pt0, Pt1⟩ := ⟨x0, x1, F2, PySem.W.mg_of X G x2.a, x2.k, b2, bd2, x3, x4, x5, x6, x7, x8, x9, x10, x11, x12, x13, x14, x15, x16, x17, x18, x19, x20, x21, x22, x23, x24, x25, x26, x27, x28, x29, x30, x31, x32, x33, x34, x35, x36, x37, x38, x39, x40, x41, x42, x43, x44, x45, x46, x47, F48, PySem.W.mg_of X G x48.a, x48.k, b48, PySem.W.mg_of X G n_NoNumber, n_NoNumber, x_NoNumber, e_NoNumber, PySem.W.mg_of X G w_TENTH, o6 X G z_isinstance, o6 X G z_int, o6 X G z_bool, o6 X G z_tuple, o6 X G z_str, o6 X G z_list, o6 X G z_abs, o6 X G z_len, o6 X G z_range, o6 X G z_zip, o6 X G z_sorted, o6 X G z_all, tb0, tb1⟩
 exact ⟨_, T, rfl, λ s v => .of_eq rfl, rfl⟩
open PyProof.Rows in
set_option maxRecDepth 100000 in
set_option maxHeartbeats 0 in
theorem hdY (w : World) (mg : Str -> Option Value) (fa : Addr) (h : Heap) (KX : (hdKs.heap_1 w.params).In h) (G : h.Ns mainGlobals mg) (hmg : mg "law" = some (.ref fa)) : ∃ t : Mn, cD (hdKs.heap_1 w.params) mg t /\ t.f_law = fa /\ (∀ (s : Shared) (v : Value), BindsTo s t.d_law ⟨[v], []⟩ [("_law_script", v)]) /\ [t.tab0, t.tab1] = [236, 365] := by
 refine' all_mk KX G hmg (dn1 KX G ⟨?a0, ?l0, ?c0, ?k0⟩) (dn2 KX G ⟨?a1, ?l1, ?c1, ?k1⟩) ⟨?a2, ?l2, ?c2, ?k2⟩ ?dl2 (dn2 KX G ⟨?a3, ?l3, ?c3, ?k3⟩) (dn2 KX G ⟨?a4, ?l4, ?c4, ?k4⟩) (dn2 KX G ⟨?a5, ?l5, ?c5, ?k5⟩) (dn2 KX G ⟨?a6, ?l6, ?c6, ?k6⟩) (dn2 KX G ⟨?a7, ?l7, ?c7, ?k7⟩) (dn1 KX G ⟨?a8, ?l8, ?c8, ?k8⟩) (dn5 KX G ⟨?a9, ?l9, ?c9, ?k9⟩) (dn3 KX G ⟨?a10, ?l10, ?c10, ?k10⟩) (dn2 KX G ⟨?a11, ?l11, ?c11, ?k11⟩) (dn2 KX G ⟨?a12, ?l12, ?c12, ?k12⟩) (dn2 KX G ⟨?a13, ?l13, ?c13, ?k13⟩) (dn2 KX G ⟨?a14, ?l14, ?c14, ?k14⟩) (dn2 KX G ⟨?a15, ?l15, ?c15, ?k15⟩) (dn2 KX G ⟨?a16, ?l16, ?c16, ?k16⟩) (dn2 KX G ⟨?a17, ?l17, ?c17, ?k17⟩) (dn2 KX G ⟨?a18, ?l18, ?c18, ?k18⟩) (dn2 KX G ⟨?a19, ?l19, ?c19, ?k19⟩) (dn2 KX G ⟨?a20, ?l20, ?c20, ?k20⟩) (dn2 KX G ⟨?a21, ?l21, ?c21, ?k21⟩) (dn3 KX G ⟨?a22, ?l22, ?c22, ?k22⟩) (dn2 KX G ⟨?a23, ?l23, ?c23, ?k23⟩) (dn1 KX G ⟨?a24, ?l24, ?c24, ?k24⟩) (dn3 KX G ⟨?a25, ?l25, ?c25, ?k25⟩) (dn2 KX G ⟨?a26, ?l26, ?c26, ?k26⟩) (dn2 KX G ⟨?a27, ?l27, ?c27, ?k27⟩) (dn3 KX G ⟨?a28, ?l28, ?c28, ?k28⟩) (dn3 KX G ⟨?a29, ?l29, ?c29, ?k29⟩) (dn2 KX G ⟨?a30, ?l30, ?c30, ?k30⟩) (dn1 KX G ⟨?a31, ?l31, ?c31, ?k31⟩) (dn2 KX G ⟨?a32, ?l32, ?c32, ?k32⟩) (dn1 KX G ⟨?a33, ?l33, ?c33, ?k33⟩) (dn2 KX G ⟨?a34, ?l34, ?c34, ?k34⟩) (dn2 KX G ⟨?a35, ?l35, ?c35, ?k35⟩) (dn4 KX G ⟨?a36, ?l36, ?c36, ?k36⟩) (dn2 KX G ⟨?a37, ?l37, ?c37, ?k37⟩) (dn2 KX G ⟨?a38, ?l38, ?c38, ?k38⟩) (dn2 KX G ⟨?a39, ?l39, ?c39, ?k39⟩) (dn2 KX G ⟨?a40, ?l40, ?c40, ?k40⟩) (dn1 KX G ⟨?a41, ?l41, ?c41, ?k41⟩) (dn1 KX G ⟨?a42, ?l42, ?c42, ?k42⟩) (dn2 KX G ⟨?a43, ?l43, ?c43, ?k43⟩) (dn2 KX G ⟨?a44, ?l44, ?c44, ?k44⟩) (dn2 KX G ⟨?a45, ?l45, ?c45, ?k45⟩) (dn4 KX G ⟨?a46, ?l46, ?c46, ?k46⟩) (dn3 KX G ⟨?a47, ?l47, ?c47, ?k47⟩) ⟨?a48, ?l48, ?c48, ?k48⟩ ?w_TENTH ?n_NoNumber ?x_NoNumber ?e_NoNumber ?z_isinstance ?z_int ?z_bool ?z_tuple ?z_str ?z_list ?z_abs ?z_len ?z_range ?z_zip ?z_sorted ?z_all 236 ?tb0 365 ?tb1
 all_goals try k_is
 (case x_NoNumber => k_exc)
 (case e_NoNumber => kts_exm)
 (case tb0 => kernel_rfl)
 (case tb1 => kernel_rfl)
theorem xh {α : Type} (x y : α) : fG [x, y] 0 = some x := rfl
theorem uC {α : Type} (x y : α) : fG [x, y] 1 = some y := rfl
variable {A : Prop} {B : Prop}
theorem Ii {b : Bool} (hb : b = true) (h : A) : if b = true then A else B := by
 rw [h9 hb]; exact h
variable {c : Prop}
theorem ji [Decidable c] (hc : ¬ c) (h : B) : if decide c = true then A else B := by
 rw [kv hc]; exact eD h
theorem ko [Decidable c] (hc : c) (h : A) : if decide c = true then A else B := by
 rw [nS hc]; exact fV h
theorem Jl [Decidable c] (hc : ¬ c) (h : A) : if (!decide c) = true then A else B := by
 rw [kv hc]; exact fV h
theorem tE {n : Int} (h1 : 0 <= n) (h2 : n < 1152921504606846976) : du n := (show My.Bd 60 n by unfold My.Bd; omega).mono (by decide)
noncomputable def AY (K : Fg) : Sp := λ vs H Q _ => ∃ x g, vs = [x] /\ Cq K H x g /\ Q (.bl (match g with | .int => true | _ => false)) H
noncomputable def sp_div : Sp := λ vs H Q _ => ∃ a b : Int, vs = [.int a, .int b] /\ 0 <= b /\ Q (.int ((Int.gcd a b : Nat) : Int)) H
noncomputable def pS (Ps : List Addr) (K : Fg) : Sp := λ vs H Q _ => ∃ (a : Addr) (ns : List Int), vs = [.ref a] /\ br K H a (ns.map V.int) /\ ns.length <= 63 /\ (∀ x ∈ ns, My.Bd 1048576 x) /\ Ps.Nodup /\ (∀ p ∈ Ps, H p = some (.tbl #[])) /\ ∀ H', Q (.bl true) H'
noncomputable def sp_gcd : Sp := λ vs H Q _ => ∃ a b : Int, vs = [.int a, .int b] /\ Q (.int ((Int.gcd a b : Nat) : Int)) H
structure Pr (K : Fg) (H : Hp) (p : Addr) (a b : Int) (n : Nat) : Prop where
 s : bI K H p [.int a, .int b]
 pos : 0 < b
 ba : My.Bd n a
 bb : My.Bd n b
variable {K : Fg} {H : Hp} {p : Addr} {a : Int} {b : Int} {n : Nat}
theorem Pr.ne (h : Pr K H p a b n) : b ≠ 0 := n8 h.pos
theorem Pr.keep {H' : Hp} (h : Pr K H p a b n) (e : am H H') : Pr K H' p a b n := ⟨e.tup h.s, h.pos, h.ba, h.bb⟩
theorem Pr.up {m : Nat} (h : Pr K H p a b n) (e : n <= m) : Pr K H p a b m := ⟨h.s, h.pos, h.ba.mono e, h.bb.mono e⟩
noncomputable def jy (K : Fg) (H : Hp) (Q : VK) (n : Nat) (v : Rat) : Prop := ∀ (p : Addr) (H' : Hp) (x y : Int), am H H' -> Pr K H' p x y n -> Int.gcd x y = 1 -> My.qv x y = v -> Q (.ref p) H'
noncomputable def jv (K : Fg) : Sp := λ vs H Q _ => ∃ (t m : Int) (n : Nat), vs = [.int t, .int m] /\ My.Bd n t /\ My.Bd n m /\ n <= 3900 /\ m ≠ 0 /\ jy K H Q n (My.qv t m)
noncomputable def kh (K : Fg) (f : Rat -> Rat -> Rat) (ok : Int -> Prop) : Sp := λ vs H Q _ => ∃ (p r : Addr) (a b c d : Int) (n1 n2 : Nat), vs = [.ref p, .ref r] /\ Pr K H p a b n1 /\ Pr K H r c d n2 /\ n1 + n2 + 1 <= 3900 /\ ok c /\ jy K H Q (n1 + n2 + 1) (f (My.qv a b) (My.qv c d))
noncomputable def An (K : Fg) (f : Int -> Int -> Int -> Int -> V) : Sp := λ vs H Q _ => ∃ (p r : Addr) (a b c d : Int) (n1 n2 : Nat), vs = [.ref p, .ref r] /\ Pr K H p a b n1 /\ Pr K H r c d n2 /\ n1 + n2 <= 3900 /\ Q (f a b c d) H
section
variable {P : Program} {w : World} {K : Fg} {mg : Str -> Option Value} {base : Heap} {t : Mn}
theorem tF (T : cD K mg t) : FO P w base T.q_zaw 1 (AY K) := by
 refine T.q_zaw.F.ok rG (λ vs H Q E h => ?_) (λ cdv A outer s H vs Q E hr h => ?_)
 ·obtain ⟨x, g, rfl, _⟩ := h
  rfl
 obtain ⟨x, g, rfl, hg, q⟩ := h
 refine ⟨_, (aN (ah (jF (cS wQ rfl rfl T.z_isinstance T.z_int pY (pv 0)) (jU (oF (cS tN rfl rfl T.z_isinstance T.z_bool wG (pv 0))))))), ?_⟩
 refine ⟨_, rfl, _, g, rfl, hg, _, rfl, ?_⟩
 cases g with
 | int => exact fV ⟨_, rfl, _, .int, rfl, hg, _, rfl, q⟩
 | bl => exact fV ⟨_, rfl, _, .bl, rfl, hg, _, rfl, q⟩
 | non => exact eD q
 | str => exact eD q
 | tup => exact eD q
 | lst => exact eD q
 | dic => exact eD q
theorem pV (T : cD K mg t) : cr P w K mg base nD 1 t.f_zas t.d_zas ["_law_one", "_law_other"] sp_div := by
 refine T.q_zas.F.ok je (λ vs H Q E h => ?_) (λ cdv A outer s H vs Q E hr h => ?_)
 ·obtain ⟨a, b, rfl, _⟩ := h
  rfl
 obtain ⟨a, b, rfl, hb, q⟩ := h
 refine ⟨_, (aG (iP oS (ak si (pv 1) ai (ao _)) (aN (FF (i := 0) (j := 1) rfl je.nd rfl rfl (by decide) rfl rfl (ae (pv 1) (ae (ac aX (pv 0) (pv 1)) aA)) rfl)))
 (aN (ah (aV dO rfl T.z_abs ij (ae (pv 0) aA))))), ?_⟩
 refine jg (λ Z H' => ∃ x y : Int, Z = [some (.int x), some (.int y)] /\ H' = H /\ 0 <= y /\ Int.gcd x y = Int.gcd a b)
  (λ Z _ => match Z with | [_, some (.int y)] => y.toNat | _ => 0) ⟨a, b, rfl, rfl, hb, rfl⟩ ?_ ?_
 ·rintro Z H' ⟨x, y, rfl, rfl, hy, hg⟩
  refine ⟨_, rfl, rfl, _, rfl, ?_⟩
  by_cases h0 : y = 0
  ·subst h0
   refine EN rfl ?_
   have e : (if x < 0 then -x else x) = ((Int.gcd a b : Nat) : Int) := by
    rw [<- hg, Int.gcd_zero_right]
    split <;> omega
   refine ⟨_, rfl, _, rfl, ?_⟩
   rw [e]
   exact q
  ·rw [kv (λ z => h0 (V.int.inj z))]
   refine fV ?_
   have hp : 0 < y := by omega
   have h1 := m9 x h0
   have h2 := lG x hp
   refine ⟨_, rfl, _, rfl, _, rfl, _, _, rfl, rfl, hp, _, _, rfl, ⟨y, x % y, rfl, rfl, h1, ?_⟩, ?_⟩
   ·rw [My.gcd_step, hg]
   ·show (x % y).toNat < y.toNat
    omega
 ·rintro Z H' Q1 Q2 hi ⟨v, e, hs, k, ek, q'⟩
  exact ⟨v, e, hs, k, ek, hi _ _ q'⟩
theorem DI (a b : Int) : Int.gcd (if a < 0 then -a else a) (if b < 0 then -b else b) = Int.gcd a b := by
 rw [My.natAbs_abs, My.natAbs_abs]
 rfl
theorem mZ (T : cD K mg t) : cr P w K mg base nD 1 t.f_za6 t.d_za6 ["one", "other"] sp_gcd := by
 refine T.q_za6.F.ok bS (λ vs H Q E h => ?_) (λ cdv A outer s H vs Q E hr h => ?_)
 ·obtain ⟨a, b, rfl, _⟩ := h
  rfl
 obtain ⟨a, b, rfl, q⟩ := h
 refine ⟨_, (aG (aj (i := 2) bS.nd rfl (Or.inl rfl) (aV dO rfl T.z_abs ij (ae (pv 0) aA)))
 (aG (aj (i := 3) bS.nd rfl (Or.inl rfl) (aV dO rfl T.z_abs ij (ae (pv 1) aA)))
 (aG (iP oS (rJ (pv 3) (λ _ => rfl)) (aG (aj (i := 4) bS.nd rfl (Or.inl rfl) (ac aX (pv 2) (pv 3)))
 (aG (aj (i := 2) bS.nd rfl (Or.inl rfl) (pv 3))
 (aN (aj (i := 3) bS.nd rfl (Or.inl rfl) (pv 4))))))
 (aN (ah (pv 2)))))), ?_⟩
 refine ⟨_, rfl, _, rfl, ?_⟩
 refine ⟨_, rfl, _, rfl, ?_⟩
 dsimp only [bu, kI]
 refine jg (λ Z H' => ∃ (x y : Int) (r : Option V), Z = [some (.int a), some (.int b), some (.int x), some (.int y), r] /\ H' = H /\ 0 <= x /\ 0 <= y /\ Int.gcd x y = Int.gcd a b)
  (λ Z _ => match Z with | [_, _, _, some (.int y), _] => y.toNat | _ => 0) ⟨_, _, none, rfl, rfl, by split <;> omega, by split <;> omega, DI a b⟩ ?_ ?_
 ·rintro Z H' ⟨x, y, r, rfl, rfl, hx, hy, hg⟩
  refine ⟨_, rfl, _, rfl, ?_⟩
  by_cases h0 : y = 0
  ·subst h0
   refine eD ?_
   have e : x = ((Int.gcd a b : Nat) : Int) := by
    rw [<- hg, Int.gcd_zero_right]
    omega
   refine ⟨_, rfl, ?_⟩
   rw [e]
   exact q
  ·have hb : (y != 0) = true := by simpa using h0
   refine Ii hb ?_
   have hp : 0 < y := by omega
   have h1 := m9 x h0
   have h2 := lG x hp
   refine ⟨_, rfl, _, rfl, _, _, rfl, rfl, hp, _, rfl, _, rfl, ⟨y, x % y, _, rfl, rfl, hy, h1, ?_⟩, ?_⟩
   ·rw [My.gcd_step, hg]
   ·show (x % y).toNat < y.toNat
    omega
 ·rintro Z H' Q1 Q2 hi ⟨v, e, k, tr, q'⟩
  exact ⟨v, e, k, tr, hi _ _ q'⟩
theorem bU (T : cD K mg t) : cr P w K mg base (oA P w) 2 t.f_zaa t.d_zaa ["top", "bottom"] (jv K) := by
 have G_zaw := @tF P w K mg base t T
 have G_za6 := @mZ P w K mg base t T
 refine T.F_zaa.okE jE (λ vs H Q E h => ?_) (λ cdv A outer s H vs Q E hr h => ?_)
 ·obtain ⟨a, b, n, rfl, _⟩ := h
  rfl
 obtain ⟨tp, m, n, rfl, bt, bm, hn, h0, hQ⟩ := h
 refine ⟨_, (aG (aE (PW.pt (tJ (qH (eE (aY G_zaw hr T.q_zaw (ae (pv 0) aA)))) (lN (qH (eE (aY G_zaw hr T.q_zaw (ae (pv 1) aA))))))) (aN (sC rfl T.x_NoNumber T.n_NoNumber T.m_NoNumber rfl xb (ae au aA))) aq)
 (aG (aE (ak aT (pv 1) ai (ao _)) (aN (sC rfl T.x_NoNumber T.n_NoNumber T.m_NoNumber rfl xb (ae au aA))) aq)
 (aG (aj (i := 2) jE.nd rfl (Or.inl rfl) (aY G_za6 hr T.q_za6 (ae (pv 0) (ae (pv 1) aA))))
 (aG (aE (ak jj (pv 1) ai (ao _)) (aN (aj (i := 2) jE.nd rfl (Or.inl rfl) (kq fU (pv 2)))) aq)
 (aN (ah (aI (ae (ac oj (pv 0) (pv 2)) (ae (ac oj (pv 1) (pv 2)) aA))))))))), ?_⟩
 refine ⟨_, rfl, _, .int, rfl, True.intro, _, rfl, ?_⟩
 refine eD ?_
 refine ⟨_, rfl, _, .int, rfl, True.intro, _, rfl, ?_⟩
 refine eD ?_
 refine ⟨_, rfl, rfl, _, rfl, ?_⟩
 refine ji (λ z => h0 (V.int.inj z)) ?_
 have M := My.made_of (t := tp) h0
 refine ⟨_, rfl, _, rfl, _, _, rfl, ?_⟩
 refine ⟨_, rfl, _, _, rfl, rfl, _, rfl, ?_⟩
 have hg : 0 < Int.gcd tp m := Int.gcd_pos_of_ne_zero_right tp h0
 have hm : du ((Int.gcd tp m : Nat) : Int) := (My.Bd.of_natAbs (x := ((Int.gcd tp m : Nat) : Int)) (y := m) (by
  rw [Int.natAbs_natCast]
  exact Nat.le_of_dvd (by omega) (Nat.gcd_dvd_right tp.natAbs m.natAbs)) bm).mono (by omega)
 by_cases hneg : m < 0
 ·refine ko hneg ?_
  have e : My.sg tp m = -((Int.gcd tp m : Nat) : Int) := h9 hneg
  refine ⟨_, rfl, _, rfl, ?_⟩
  refine ⟨_, rfl, _, rfl, _, _, rfl, rfl, ⟨by omega, hm.neg⟩, _, rfl, _, rfl, _, _, rfl, rfl, ⟨by omega, hm.neg⟩, (by show 2 <= sizeLine; decide), λ p hp => ?_⟩
  exact hQ p _ _ _ (am.new hp _) ⟨bI.of (by rw [e]; exact ar), M.pos, My.Bd.of_natAbs M.ba bt, My.Bd.of_natAbs M.bb bm⟩ M.low (My.qv_eq (n8 M.pos) h0 M.same)
 ·refine ji hneg ?_
  have e : My.sg tp m = ((Int.gcd tp m : Nat) : Int) := gV hneg
  refine ⟨_, rfl, _, rfl, _, _, rfl, rfl, ⟨by omega, hm⟩, _, rfl, _, rfl, _, _, rfl, rfl, ⟨by omega, hm⟩, (by show 2 <= sizeLine; decide), λ p hp => ?_⟩
  exact hQ p _ _ _ (am.new hp _) ⟨bI.of (by rw [e]; exact ar), M.pos, My.Bd.of_natAbs M.ba bt, My.Bd.of_natAbs M.bb bm⟩ M.low (My.qv_eq (n8 M.pos) h0 M.same)
theorem qj {b d : Int} (hb : 0 < b) (hd : 0 < d) : b * d ≠ 0 := n8 (lC hb hd)
theorem pN (T : cD K mg t) : FO P w base T.q_zac 3 (kh K (λ x y => x + y) (λ _ => True)) := by
 have G_zaa := @bU P w K mg base t T
 refine T.q_zac.F.ok DU (λ vs H Q E h => ?_) (λ cdv A outer s H vs Q E hr h => ?_)
 ·obtain ⟨p, r, a, b, c, d, n1, n2, rfl, _⟩ := h
  rfl
 obtain ⟨p, r, a, b, c, d, n1, n2, rfl, h1, h2, hn, hok, q⟩ := h
 have m1 : du a := h1.ba.mono (by omega)
 have m2 : du b := h1.bb.mono (by omega)
 have m3 : du c := h2.ba.mono (by omega)
 have m4 : du d := h2.bb.mono (by omega)
 refine ⟨_, (aN (ah (aZ G_zaa (hr.mono (by decide)) rfl T.m_zaa T.k_number T.b_number .nil bP (ae (ac aO (ac az (aa aC (pv 0) ai (λ _ _ => rfl)) (aa aC (pv 1) ai (λ _ _ => rfl))) (ac az (aa aC (pv 1) ai (λ _ _ => rfl)) (aa aC (pv 0) ai (λ _ _ => rfl)))) (ae (ac az (aa aC (pv 0) ai (λ _ _ => rfl)) (aa aC (pv 1) ai (λ _ _ => rfl))) aA))))), ?_⟩
 exact ⟨_, rfl, _, _, _, _, rfl, rfl, h1.s, xh _ _, _, rfl, _, _, _, _, rfl, rfl, h2.s, uC _ _, _, _, rfl, rfl, ⟨m1, m4⟩, _, rfl, _, _, _, _, rfl, rfl, h2.s, xh _ _, _, rfl, _, _, _, _, rfl, rfl, h1.s, uC _ _, _, _, rfl, rfl, ⟨m3, m2⟩, _, _, rfl, rfl, _, rfl, _, _, _, _, rfl, rfl, h1.s, uC _ _, _, rfl, _, _, _, _, rfl, rfl, h2.s, uC _ _, _, _, rfl, rfl, ⟨m2, m4⟩, _, _, n1 + n2 + 1, rfl, ((h1.ba.mul h2.bb).add ((h2.ba.mul h1.bb).mono (by omega))).mono (by omega), (h1.bb.mul h2.bb).mono (by omega), hn, qj h1.pos h2.pos, λ p' H' x y s' P g e => q p' H' x y s' P g (e.trans (My.qv_plus h1.ne h2.ne))⟩
theorem lR (T : cD K mg t) : FO P w base T.q_zad 3 (kh K (λ x y => x - y) (λ _ => True)) := by
 have G_zaa := @bU P w K mg base t T
 refine T.q_zad.F.ok Bm (λ vs H Q E h => ?_) (λ cdv A outer s H vs Q E hr h => ?_)
 ·obtain ⟨p, r, a, b, c, d, n1, n2, rfl, _⟩ := h
  rfl
 obtain ⟨p, r, a, b, c, d, n1, n2, rfl, h1, h2, hn, hok, q⟩ := h
 have m1 : du a := h1.ba.mono (by omega)
 have m2 : du b := h1.bb.mono (by omega)
 have m3 : du c := h2.ba.mono (by omega)
 have m4 : du d := h2.bb.mono (by omega)
 refine ⟨_, (aN (ah (aZ G_zaa (hr.mono (by decide)) rfl T.m_zaa T.k_number T.b_number .nil bP (ae (ac cN (ac az (aa aC (pv 0) ai (λ _ _ => rfl)) (aa aC (pv 1) ai (λ _ _ => rfl))) (ac az (aa aC (pv 1) ai (λ _ _ => rfl)) (aa aC (pv 0) ai (λ _ _ => rfl)))) (ae (ac az (aa aC (pv 0) ai (λ _ _ => rfl)) (aa aC (pv 1) ai (λ _ _ => rfl))) aA))))), ?_⟩
 exact ⟨_, rfl, _, _, _, _, rfl, rfl, h1.s, xh _ _, _, rfl, _, _, _, _, rfl, rfl, h2.s, uC _ _, _, _, rfl, rfl, ⟨m1, m4⟩, _, rfl, _, _, _, _, rfl, rfl, h2.s, xh _ _, _, rfl, _, _, _, _, rfl, rfl, h1.s, uC _ _, _, _, rfl, rfl, ⟨m3, m2⟩, _, _, rfl, rfl, _, rfl, _, _, _, _, rfl, rfl, h1.s, uC _ _, _, rfl, _, _, _, _, rfl, rfl, h2.s, uC _ _, _, _, rfl, rfl, ⟨m2, m4⟩, _, _, n1 + n2 + 1, rfl, ((h1.ba.mul h2.bb).sub ((h2.ba.mul h1.bb).mono (by omega))).mono (by omega), (h1.bb.mul h2.bb).mono (by omega), hn, qj h1.pos h2.pos, λ p' H' x y s' P g e => q p' H' x y s' P g (e.trans (My.qv_minus h1.ne h2.ne))⟩
theorem re (T : cD K mg t) : FO P w base T.q_zap 3 (kh K (λ x y => x * y) (λ _ => True)) := by
 have G_zaa := @bU P w K mg base t T
 refine T.q_zap.F.ok Bf (λ vs H Q E h => ?_) (λ cdv A outer s H vs Q E hr h => ?_)
 ·obtain ⟨p, r, a, b, c, d, n1, n2, rfl, _⟩ := h
  rfl
 obtain ⟨p, r, a, b, c, d, n1, n2, rfl, h1, h2, hn, hok, q⟩ := h
 have m1 : du a := h1.ba.mono (by omega)
 have m2 : du b := h1.bb.mono (by omega)
 have m3 : du c := h2.ba.mono (by omega)
 have m4 : du d := h2.bb.mono (by omega)
 refine ⟨_, (aN (ah (aZ G_zaa (hr.mono (by decide)) rfl T.m_zaa T.k_number T.b_number .nil bP (ae (ac az (aa aC (pv 0) ai (λ _ _ => rfl)) (aa aC (pv 1) ai (λ _ _ => rfl))) (ae (ac az (aa aC (pv 0) ai (λ _ _ => rfl)) (aa aC (pv 1) ai (λ _ _ => rfl))) aA))))), ?_⟩
 exact ⟨_, rfl, _, _, _, _, rfl, rfl, h1.s, xh _ _, _, rfl, _, _, _, _, rfl, rfl, h2.s, xh _ _, _, _, rfl, rfl, ⟨m1, m3⟩, _, rfl, _, _, _, _, rfl, rfl, h1.s, uC _ _, _, rfl, _, _, _, _, rfl, rfl, h2.s, uC _ _, _, _, rfl, rfl, ⟨m2, m4⟩, _, _, n1 + n2 + 1, rfl, (h1.ba.mul h2.ba).mono (by omega), (h1.bb.mul h2.bb).mono (by omega), hn, qj h1.pos h2.pos, λ p' H' x y s' P g e => q p' H' x y s' P g (e.trans (My.qv_times h1.ne h2.ne))⟩
theorem qr (T : cD K mg t) : FO P w base T.q_zam 3 (kh K (λ x y => x / y) (λ c => c ≠ 0)) := by
 have G_zaa := @bU P w K mg base t T
 refine T.q_zam.F.ok BZ (λ vs H Q E h => ?_) (λ cdv A outer s H vs Q E hr h => ?_)
 ·obtain ⟨p, r, a, b, c, d, n1, n2, rfl, _⟩ := h
  rfl
 obtain ⟨p, r, a, b, c, d, n1, n2, rfl, h1, h2, hn, hok, q⟩ := h
 have m1 : du a := h1.ba.mono (by omega)
 have m2 : du b := h1.bb.mono (by omega)
 have m3 : du c := h2.ba.mono (by omega)
 have m4 : du d := h2.bb.mono (by omega)
 refine ⟨_, (aN (ah (aZ G_zaa (hr.mono (by decide)) rfl T.m_zaa T.k_number T.b_number .nil bP (ae (ac az (aa aC (pv 0) ai (λ _ _ => rfl)) (aa aC (pv 1) ai (λ _ _ => rfl))) (ae (ac az (aa aC (pv 0) ai (λ _ _ => rfl)) (aa aC (pv 1) ai (λ _ _ => rfl))) aA))))), ?_⟩
 exact ⟨_, rfl, _, _, _, _, rfl, rfl, h1.s, xh _ _, _, rfl, _, _, _, _, rfl, rfl, h2.s, uC _ _, _, _, rfl, rfl, ⟨m1, m4⟩, _, rfl, _, _, _, _, rfl, rfl, h1.s, uC _ _, _, rfl, _, _, _, _, rfl, rfl, h2.s, xh _ _, _, _, rfl, rfl, ⟨m2, m3⟩, _, _, n1 + n2 + 1, rfl, (h1.ba.mul h2.bb).mono (by omega), (h1.bb.mul h2.ba).mono (by omega), hn, Int.mul_ne_zero h1.ne hok, λ p' H' x y s' P g e => q p' H' x y s' P g (e.trans (My.qv_over h1.ne h2.ne hok))⟩
theorem AX (T : cD K mg t) : FO P w base T.q_zax 1 (An K λ a b c d => .bl (decide (a * d < c * b))) := by
 refine T.q_zax.F.ok Bc (λ vs H Q E h => ?_) (λ cdv A outer s H vs Q E hr h => ?_)
 ·obtain ⟨p, r, a, b, c, d, n1, n2, rfl, _⟩ := h
  rfl
 obtain ⟨p, r, a, b, c, d, n1, n2, rfl, h1, h2, hn, q⟩ := h
 have m1 : du a := h1.ba.mono (by omega)
 have m2 : du b := h1.bb.mono (by omega)
 have m3 : du c := h2.ba.mono (by omega)
 have m4 : du d := h2.bb.mono (by omega)
 refine ⟨_, (aN (ah (iJ jj (ac az (aa aC (pv 0) ai (λ _ _ => rfl)) (aa aC (pv 1) ai (λ _ _ => rfl))) (ac az (aa aC (pv 1) ai (λ _ _ => rfl)) (aa aC (pv 0) ai (λ _ _ => rfl))) (ao _)))), ?_⟩
 exact ⟨_, rfl, _, _, _, _, rfl, rfl, h1.s, xh _ _, _, rfl, _, _, _, _, rfl, rfl, h2.s, uC _ _, _, _, rfl, rfl, ⟨m1, m4⟩, _, rfl, _, _, _, _, rfl, rfl, h2.s, xh _ _, _, rfl, _, _, _, _, rfl, rfl, h1.s, uC _ _, _, _, rfl, rfl, ⟨m3, m2⟩, _, _, rfl, rfl, q⟩
end
theorem Pr.kp {H' : Hp} (e : am H H') (h : Pr K H p a b n) : Pr K H' p a b n := h.keep e
section
variable {K : Fg} {H : Hp} {Q : VK} {E : XK} {p r : Addr} {a b c d t m : Int} {n1 n2 : Nat} {f : Rat -> Rat -> Rat} {ok : Int -> Prop} {F : Int -> Int -> Int -> Int -> V}
theorem tf (h1 : My.Bd n1 t) (h2 : My.Bd n2 m) (h3 : max n1 n2 <= 3900) (h4 : m ≠ 0) (q : ∀ p H' x y, am H H' -> Pr K H' p x y (max n1 n2) -> Int.gcd x y = 1 -> My.qv x y = My.qv t m -> Q (.ref p) H') : jv K [.int t, .int m] H Q E :=
 ⟨t, m, max n1 n2, rfl, h1.mono (by omega), h2.mono (by omega), h3, h4, q⟩
theorem ye (h1 : My.Bd n1 t) (h2 : My.Bd n2 m) (h3 : max n1 n2 <= 3900) (h4 : m ≠ 0) (q : ∀ p H' x y, am H H' -> Pr K H' p x y (max n1 n2) -> Int.gcd x y = 1 -> My.qv x y = My.qv t m -> Q (.ref p) H') : jv K ([.int t] ++ [.int m]) H Q E := tf h1 h2 h3 h4 q
theorem Ku (h1 : Pr K H p a b n1) (h2 : Pr K H r c d n2) (h3 : n1 + n2 + 1 <= 3900) (h4 : ok c) (q : ∀ p' H' x y, am H H' -> Pr K H' p' x y (n1 + n2 + 1) -> Int.gcd x y = 1 -> My.qv x y = f (My.qv a b) (My.qv c d) -> Q (.ref p') H') : kh K f ok [.ref p, .ref r] H Q E :=
 ⟨p, r, a, b, c, d, n1, n2, rfl, h1, h2, h3, h4, q⟩
theorem IG (h1 : Pr K H p a b n1) (h2 : Pr K H r c d n2) (h3 : n1 + n2 <= 3900) (q : Q (F a b c d) H) : An K F [.ref p, .ref r] H Q E := ⟨p, r, a, b, c, d, n1, n2, rfl, h1, h2, h3, q⟩
end
local macro_rules | `(tactic| accm_open) => `(tactic| repeat (first | exact iE.here | apply iE.next))
local macro_rules | `(tactic| accj_open) => `(tactic| repeat (first | exact gB.here | apply gB.next))
local macro_rules | `(tactic| kpf_lEnd) => `(tactic| first | assumption | exact bI.of (by assumption) | ((apply am.tup); (focus assumption); (kpf_lEnd)) | ((apply BN.tup); (focus assumption); (focus assumption); (kpf_lEnd)))
local macro_rules | `(tactic| kpf_nlEnd) => `(tactic| first | assumption | exact br.of (by assumption) | ((apply am.seq); (focus assumption); (kpf_nlEnd)) | ((apply BN.seq); (focus assumption); (focus assumption); (kpf_nlEnd)))
local macro_rules | `(tactic| dictfold_keysKept) => `(tactic| first | assumption | exact (show am _ _ by assumption) _ _ (by dictfold_keysKept) | exact (show BN _ _ _ by assumption) _ _ (by assumption) (by dictfold_keysKept))
local macro_rules | `(tactic| kpc_if) => `(tactic| first | assumption | exact am.refl _ | ((apply sm2); (focus assumption); (kpc_if)))
local macro_rules | `(tactic| kj_step) => do
  let a0 ← MyLaw.mkAlts "rxg rxv ryn rxG rvq ruK rvo rvF ryt ryj ryw ryy rrn rrA rqV rsG rtZ rtW rvK rvn dxV fxn duw fvE dxy fxF dtQ frY duv fvH"
  `(tactic| ((with_reducible refine Gk ?_); first | $a0:tactic))
local macro_rules | `(tactic| regwhilegen_openM) => do
  let a0 ← MyLaw.mkAlts "rHr rFu rFb rGq rGX rGc rGU rGE"
  `(tactic| first | $a0:tactic)
local macro_rules | `(tactic| regwhilegen_open) => do
  let a0 ← MyLaw.mkAlts "rz_c rKZ rLg rIO rJD rEI rEi rEK rEG rGO rLL rKf rJb rJH rER rJJ rDy rCL rMp rz_U rIJ rLs rJo rGd rJn rFi rKQ rDz rEQ rGN rIg rLA rLM rLR rJe rfV reD rwI rFC rDx rHj rLw rJu rHn rIT rLk rKh rMd rLj rJx rKo rJt rJy rJA rII"
  `(tactic| first | ((with_reducible apply JK); (focus (accm_open))) | $a0:tactic | ((with_reducible apply Hg); (focus (accj_open))) | ((with_reducible apply EZ); (focus (accj_open)); (focus (accj_open))) | ((with_reducible apply Kn); (focus (exact Nat.le_of_ble_eq_true rfl)); (intro p H' n s e)))
local macro_rules | `(tactic| regwhilegenl_has) => do
  let a0 ← MyLaw.mkAlts "iz_I lJO"
  let a1 ← MyLaw.mkAlts "lHe fIm dIz"
  `(tactic| first | $a0:tactic | kj_step | regwhilegen_openM | ((with_reducible apply z_len); (focus (first | exact .inl (by kpf_nlEnd) | exact .inr (by kpf_lEnd)))) | $a1:tactic | ((with_reducible apply Jp); (focus (first | decide | omega)); (focus (first | decide | omega))) | ((with_reducible apply Ip); (focus (first | decide | omega)); (focus (first | decide | omega)); (focus (first | decide | omega)); (focus (first | decide | omega))))
local macro_rules | `(tactic| kt_field) => do
  let a0 ← MyLaw.mkAlts "mMy.Bd.mod mMy.Bd.div"
  `(tactic| first | assumption | (exact Pr.ba (by assumption)) | (exact Pr.bb (by assumption)) | (exact (show My.Bd 64 _ by unfold My.Bd; decide)) | ((with_reducible apply HC) <;> (kt_field)) | ((with_reducible apply GF) <;> (kt_field)) | ((with_reducible apply Hl) <;> (kt_field)) | ((with_reducible apply My.Bd.neg); (kt_field)) | $a0:tactic | (exact nu (by omega) (by omega)) | (exact (show My.Bd 256 _ by unfold My.Bd; decide)))
local macro_rules | `(tactic| row_close2_lm) => `(tactic| first | assumption | ((apply My.Bd.mono); (focus (kt_field)); (first | decide | omega)))
local macro_rules | `(tactic| row_close2_l) => `(tactic| first | assumption | exact True.intro | decide | omega | exact ⟨by first | decide | omega, by first | decide | omega⟩ | exact ⟨by decide, by decide, by decide⟩ | exact .inl ⟨by first | decide | omega, by first | decide | omega⟩ | exact .inr ⟨by first | decide | omega, by first | decide | omega⟩ | exact ⟨by row_close2_lm, by row_close2_lm⟩ | exact ⟨by first | decide | omega | assumption, by row_close2_lm⟩)
local macro_rules | `(tactic| kpc_check) => `(tactic| first | assumption | ((apply Pr.kp); (focus assumption); (kpc_check)))
local macro_rules | `(tactic| k_made) => `(tactic| ((with_reducible apply tf); (focus (kt_field)); (focus (kt_field)); (focus (first | decide | omega)); (focus (first | decide | omega)); (intro p H' x y s R g e)))
local macro_rules | `(tactic| k_made) => `(tactic| ((with_reducible apply ye); (focus (kt_field)); (focus (kt_field)); (focus (first | decide | omega)); (focus (first | decide | omega)); (intro p H' x y s R g e)))
local macro_rules | `(tactic| k_made) => `(tactic| ((with_reducible apply Ku); (focus (kpc_check)); (focus (kpc_check)); (focus (first | decide | omega)); (focus (first | exact True.intro | assumption)); (intro p H' x y s R g e)))
local macro_rules | `(tactic| k_made) => `(tactic| ((with_reducible apply IG); (focus (kpc_check)); (focus (kpc_check)); (focus (first | decide | omega))))
local macro_rules | `(tactic| dictfold_empty) => `(tactic| ((with_reducible apply CJ); (focus ((intro S q); (f_look); (exact q))); (focus ((intro hb S q); (f_look); (exact q))); (focus (accm_open)); (focus (accj_open))))
local macro_rules | `(tactic| f_look) => `(tactic| repeat (first | dictfold_empty | regwhilegen_open | regwhilegenl_has | k_made))
local macro_rules | `(tactic| kmb_kw) => `(tactic| first | assumption | exact nu (by omega) (by omega))
local macro_rules | `(tactic| k_made) => `(tactic| ((with_reducible apply FN); (focus (kpf_nlEnd)); (focus (first | decide | omega))))
section
variable {P : Program} {w : World} {K : Fg} {mg : Str -> Option Value} {base : Heap} {t : Mn}
variable {y : Int}
theorem zw {x : Int} (h : My.qv x y ≠ 0) : x ≠ 0 := λ z => h (by unfold My.qv; rw [z]; grind)
theorem Bp : My.Bd 60 1 := by unfold My.Bd; decide
theorem iq {n : Int} (h1 : -1152921504606846976 < n) (h2 : n < 1152921504606846976) : My.Bd 60 n := by unfold My.Bd; omega
noncomputable def ny (K : Fg) : Sp := λ vs H Q _ => ∃ (po pl ph : Addr) (e f a b c d bg en : Int) (n1 n : Nat), vs = [.ref po, .ref pl, .ref ph, .int bg, .int en] /\ Pr K H po e f n1 /\ Pr K H pl a b n /\ Pr K H ph c d n /\ n1 + 3 * n + 140 <= 3900 /\ My.Bd 60 bg /\ My.Bd 60 (en - bg) /\ My.qv c d - My.qv a b ≠ 0 /\
 jy K H Q (n1 + 3 * n + 140) ((bg : Rat) + (My.qv e f - My.qv a b) / (My.qv c d - My.qv a b) * ((en - bg : Int) : Rat))
theorem ee (T : cD K mg t) : FO P w base T.q_zau 4 (ny K) := by
 have G_zaa := @bU P w K mg base t T
 have G_zad := @lR P w K mg base t T
 have G_zam := @qr P w K mg base t T
 have G_zap := @re P w K mg base t T
 have G_zac := @pN P w K mg base t T
 obtain ⟨ds1, DV_number, BD_number⟩ := T.b_number1
 refine T.q_zau.F.ok dY (λ vs H Q E h => ?_) (λ cdv A outer s H vs Q E hr h => ?_)
 ·obtain ⟨po, pl, ph, e, f, a, b, c, d, bg, en, n1, n, rfl, _⟩ := h
  rfl
 obtain ⟨po, pl, ph, e, f, a, b, c, d, bg, en, n1, n, rfl, P1, P2, P3, hn1, hb, hd, nz, q⟩ := h
 refine ⟨_, (aG (aj (i := 5) dY.nd rfl (Or.inl rfl) (aY G_zam hr T.q_zam (ae (aY G_zad hr T.q_zad (ae (pv 0) (ae (pv 1) aA))) (ae (aY G_zad hr T.q_zad (ae (pv 2) (ae (pv 1) aA))) aA))))
 (aN (ah (aY G_zac hr T.q_zac (ae (aZ G_zaa (hr.mono (by decide)) rfl T.m_zaa T.k_number BD_number DV_number bP (ae (pv 3) aA)) (ae (aY G_zap hr T.q_zap (ae (pv 5) (ae (aZ G_zaa (hr.mono (by decide)) rfl T.m_zaa T.k_number BD_number DV_number bP (ae (ac cN (pv 4) (pv 3)) aA)) aA))) aA)))))), kL (Z := [some _, some _, some _, some _, some _, none]) rfl ?_⟩
 f_look
 rename_i p1 H1 x1 y1 s1 R1 g1 v1 p2 H2 x2 y2 s2 R2 g2 v2
 have nx : x2 ≠ 0 := zw (by rw [v2]; exact nz)
 f_look
 rename_i p3 H3 x3 y3 s3 R3 g3 v3 p4 H4 x4 y4 s4 R4 g4 v4 p5 H5 x5 y5 s5 R5 g5 v5 p6 H6 x6 y6 s6 R6 g6 v6 p7 H7 x7 y7 s7 R7 g7 v7
 refine q p7 H7 x7 y7 (by kpc_if) (R7.up (by omega)) g7 ?_
 rw [v7, v4, v6, v5, v3, v1, v2, My.qv_int, My.qv_int]
noncomputable def pH (e f a b c d : Int) : Bool := !decide (e * b < a * f) && !decide (c * f < e * d)
noncomputable def nq (K : Fg) : Sp := λ vs H Q _ => ∃ (po pl ph : Addr) (e f a b c d : Int) (n1 n2 n3 : Nat), vs = [.ref po, .ref pl, .ref ph] /\ Pr K H po e f n1 /\ Pr K H pl a b n2 /\ Pr K H ph c d n3 /\ n1 + n2 <= 3900 /\ n3 + n1 <= 3900 /\ Q (.bl (pH e f a b c d)) H
variable {H : Hp} {Q : VK} {e : Int} {a : Int} {b : Int} {c : Int} {d : Int}
theorem Aw {K : Fg} {E : XK} {po pl ph : Addr} {f : Int} {n1 n2 n3 : Nat} (h1 : Pr K H po e f n1) (h2 : Pr K H pl a b n2) (h3 : Pr K H ph c d n3) (h4 : n1 + n2 <= 3900) (h5 : n3 + n1 <= 3900) (q : Q (.bl (pH e f a b c d)) H) : nq K [.ref po, .ref pl, .ref ph] H Q E := ⟨po, pl, ph, e, f, a, b, c, d, n1, n2, n3, rfl, h1, h2, h3, h4, h5, q⟩
variable {n : Nat}
theorem yS {K : Fg} {E : XK} {po pl ph : Addr} {f bg en : Int} {n1 : Nat} (h1 : Pr K H po e f n1) (h2 : Pr K H pl a b n) (h3 : Pr K H ph c d n) (h4 : n1 + 3 * n + 140 <= 3900) (h6 : My.Bd 60 bg) (h7 : My.Bd 60 (en - bg)) (h8 : My.qv c d - My.qv a b ≠ 0)
  (q : ∀ (p : Addr) (H' : Hp) (x y : Int), am H H' -> Pr K H' p x y (n1 + 3 * n + 140) -> Int.gcd x y = 1 -> My.qv x y = ((bg : Rat) + (My.qv e f - My.qv a b) / (My.qv c d - My.qv a b) * ((en - bg : Int) : Rat)) -> Q (.ref p) H') : ny K [.ref po, .ref pl, .ref ph, .int bg, .int en] H Q E := ⟨po, pl, ph, e, f, a, b, c, d, bg, en, n1, n, rfl, h1, h2, h3, h4, h6, h7, h8, q⟩
theorem iZ (T : cD K mg t) : FO P w base T.q_zaq 2 (nq K) := by
 have G_zax := @AX P w K mg base t T
 refine T.q_zaq.F.ok oH (λ vs H Q E h => ?_) (λ cdv A outer s H vs Q E hr h => ?_)
 ·obtain ⟨po, pl, ph, e, f, a, b, c, d, n1, n2, n3, rfl, _⟩ := h
  rfl
 obtain ⟨po, pl, ph, e, f, a, b, c, d, n1, n2, n3, rfl, P1, P2, P3, hn, hn2, q⟩ := h
 refine ⟨_, (aN (ah (jF (oF (aY G_zax hr T.q_zax (ae (pv 0) (ae (pv 1) aA)))) (jU (oF (aY G_zax hr T.q_zax (ae (pv 2) (ae (pv 0) aA)))))))), kL (Z := [some _, some _, some _]) rfl ?_⟩
 unfold pH at q
 f_look
 refine aK (λ h1 => ?_) (λ h1 => ?_)
 ·rw [nS h1] at q
  exact q
 ·rw [kv h1] at q
  f_look
  exact q
local macro_rules | `(tactic| k_made) => `(tactic| ((with_reducible apply Aw); (focus (kpc_check)); (focus (kpc_check)); (focus (kpc_check)); (focus (first | decide | omega)); (focus (first | decide | omega))))
local macro_rules | `(tactic| k_made) => `(tactic| ((with_reducible apply yS); (focus (kpc_check)); (focus (kpc_check)); (focus (kpc_check)); (focus (first | decide | omega)); (focus (kmb_kw)); (focus (kmb_kw)); (focus (assumption)); (intro p H' x y s R g e)))
local macro_rules | `(tactic| k_made) => `(tactic| ((with_reducible apply DW); (focus (kpc_check)); (focus (kpc_check)); (focus (kpc_check)); (focus (first | decide | omega)); (focus (kmb_kw)); (focus (kmb_kw)); (focus (omega)); (intro p H' x y s R g e)))
theorem uz (b : Int) (n : Nat) : (b : Rat) ^ (n : Int) = ((b ^ n : Int) : Rat) := by
 induction n with
 | zero => simp
 | succ n ih =>
  by_cases hb : b = 0
  ·subst hb
   rw [Int.pow_succ, Int.mul_zero]
   have e : ((0 : Int) : Rat) = 0 := rfl
   rw [e, Rat.zpow_natCast, Rat.pow_succ, Rat.mul_zero]
  ·rw [show ((n + 1 : Nat) : Int) = (n : Int) + 1 by omega, Rat.zpow_add_one (My.cast_ne hb), ih, Int.pow_succ, kU]
theorem ka (h0 : 2 <= b) (h1 : b <= 10) : ∀ n : Nat, 0 < b ^ n /\ My.Bd (4 * n + 1) (b ^ n)
 | 0 => ⟨by simp, by unfold My.Bd; simp⟩
 | n + 1 => by
  obtain ⟨p, q⟩ := ka h0 h1 n
  rw [Int.pow_succ]
  refine ⟨lC p (by omega), ?_⟩
  have hb : My.Bd 4 b := by unfold My.Bd; omega
  exact (q.mul hb).mono (by omega)
noncomputable def yQ (K : Fg) : Sp := λ vs H Q _ => ∃ b e : Int, vs = [.int b, .int e] /\ 2 <= b /\ b <= 10 /\ -900 <= e /\ e <= 900 /\ jy K H Q (4 * e.natAbs + 1) ((b : Rat) ^ e)
theorem tm (T : cD K mg t) : FO P w base T.q_za7 3 (yQ K) := by
 have G_zaa := @bU P w K mg base t T
 obtain ⟨ds1, DV_number, BD_number⟩ := T.b_number1
 refine T.q_za7.F.ok eC (λ vs H Q E h => ?_) (λ cdv A outer s H vs Q E hr h => ?_)
 ·obtain ⟨b, e, rfl, _⟩ := h
  rfl
 obtain ⟨b, e, rfl, b2, b10, e0, e1, q⟩ := h
 have mb : du b := tE (by omega) (by omega)
 refine ⟨_, (aG (aj (i := 2) eC.nd rfl (Or.inl rfl) ai)
 (aG (dN oS rfl (jH rfl T.z_range (ae (aV dO rfl T.z_abs ij (ae (pv 1) aA)) aA)) (aM (i := 3) eC.nd rfl (Or.inl rfl)) (aN (aj (i := 2) eC.nd rfl (Or.inl rfl) (ac az (pv 2) (pv 0)))))
 (aN (ah (fY (ak zJ (pv 1) ai (ao _)) (aZ G_zaa (hr.mono (by decide)) rfl T.m_zaa T.k_number BD_number DV_number bP (ae (pv 2) aA)) (aZ G_zaa (hr.mono (by decide)) rfl T.m_zaa T.k_number T.b_number .nil bP (ae ai (ae (pv 2) aA)))))))), ?_⟩
 refine ⟨_, rfl, _, rfl, _, rfl, by split <;> omega, by split <;> omega, ?_⟩
 have en : (if e < 0 then -e else e).toNat = e.natAbs := by split <;> omega
 rw [en]
 refine yo (λ i Z H2 => (∃ u, Z = [some (.int b), some (.int e), some (.int (b ^ i)), u]) /\ H2 = H) ⟨⟨none, by rw [qV]; rfl⟩, rfl⟩ ?_ ?_
 ·rintro i Z H2 hi ⟨⟨u, rfl⟩, rfl⟩
  have mp : du (b ^ i) := (ka b2 b10 i).2.mono (by omega)
  refine ⟨_, rfl, _, rfl, _, _, rfl, rfl, ⟨mp, mb⟩, ?_⟩
  exact ⟨⟨_, by rw [Int.pow_succ]; rfl⟩, rfl⟩
 ·rintro Z H2 ⟨⟨u, rfl⟩, rfl⟩
  obtain ⟨pp, pq⟩ := ka b2 b10 e.natAbs
  refine ⟨_, rfl, _, _, rfl, rfl, _, rfl, ?_⟩
  by_cases hs : e >= 0
  ·refine ko hs ?_
   refine ⟨_, rfl, _, _, 4 * e.natAbs + 1, rfl, pq, (show My.Bd 1 1 by unfold My.Bd; decide).mono (by omega), by omega, by decide, λ p H' x y s' R g v => q p H' x y s' R g (v.trans ?_)⟩
   rw [My.qv_int, <- uz, show ((e.natAbs : Nat) : Int) = e by omega]
  ·refine ji hs ?_
   refine ⟨_, rfl, _, _, 4 * e.natAbs + 1, rfl, (show My.Bd 1 1 by unfold My.Bd; decide).mono (by omega), pq, by omega, n8 pp, λ p H' x y s' R g v => q p H' x y s' R g (v.trans ?_)⟩
   unfold My.qv
   rw [<- uz, show ((e.natAbs : Nat) : Int) = -e by omega, Rat.zpow_neg]
   grind
noncomputable def mG (p a b E : Int) : Prop := (0 <= E -> b * p ^ E.toNat <= a /\ a < b * p ^ (E.toNat + 1)) /\ (E < 0 -> b <= a * p ^ (-E).toNat /\ a * p ^ (-E - 1).toNat < b)
noncomputable def Br (K : Fg) : Sp := λ vs H Q _ => ∃ (pr : Addr) (p a b : Int) (n : Nat), vs = [.int p, .ref pr] /\ 2 <= p /\ p <= 10 /\ Pr K H pr a b n /\ 0 < a /\ n <= 800 /\ ∀ E : Int, mG p a b E -> -(n : Int) - 1 <= E -> E <= n -> Q (.int E) H
variable {p : Int}
theorem lF (h : 2 <= p) : ∀ n : Nat, (2 : Int) ^ n <= p ^ n
 | 0 => by simp
 | n + 1 => by
  have ih := lF h n
  rw [Int.pow_succ, Int.pow_succ]
  have z : (0 : Int) <= 2 ^ n := Int.pow_nonneg (by decide)
  exact Int.mul_le_mul ih h (by decide) (Int.le_trans z ih)
theorem om {k : Nat} (h2 : 2 <= p) (hb : 0 < b) (ha : My.Bd n a) (h : b * p ^ k <= a) : k <= n := by
 have e1 := lF h2 k
 have e0 : (0 : Int) <= p ^ k := Int.pow_nonneg (by omega)
 have e2 : p ^ k <= b * p ^ k := by
  have := Int.mul_le_mul_of_nonneg_right (show (1 : Int) <= b by omega) e0
  rw [Int.one_mul] at this
  exact this
 have e3 : (2 : Int) ^ k <= a := by omega
 unfold My.Bd at ha
 rcases Nat.lt_or_ge n k with z | z
 ·have m : (2 : Nat) ^ n <= 2 ^ k := Nat.pow_le_pow_right (by decide) (by omega)
  have c : ((2 ^ k : Nat) : Int) = (2 : Int) ^ k := by simp
  omega
 ·exact z
theorem yr {k j : Nat} (p2 : 2 <= p) (b0 : 0 < b) (a0 : 0 < a) (Ra : My.Bd n a) (Rb : My.Bd n b) (hle : ¬ b * p ^ k * p <= a) (hk : k = 0 ∨ b * p ^ k <= a) (hj : j = 0 ∨ (k = 0 /\ a * p ^ (j - 1) < b)) (hlt : ¬ a * p ^ j < b * p ^ k) :
  mG p a b ((k : Int) - (j : Int)) /\ -(n : Int) - 1 <= (k : Int) - (j : Int) /\ (k : Int) - (j : Int) <= n := by
 by_cases j0 : j = 0
 ·subst j0
  rw [qV, pg] at hlt
  have e : (k : Int) - ((0 : Nat) : Int) = (k : Int) := by omega
  rw [e]
  have l := om (k := k) p2 b0 Ra (by omega)
  refine ⟨⟨λ _ => ?_, λ z => absurd z (by omega)⟩, by omega, by omega⟩
  rw [Int.toNat_natCast, Int.pow_succ, <- Int.mul_assoc]
  exact ⟨by omega, by omega⟩
 ·rcases hj with z | ⟨k0, z⟩
  ·exact absurd z j0
  ·subst k0
   rw [qV, pg] at hlt
   have l := om (k := j - 1) p2 a0 Rb (Int.le_of_lt z)
   refine ⟨⟨λ z => absurd z (by omega), λ _ => ?_⟩, by omega, by omega⟩
   have e1 : (-(((0 : Nat) : Int) - (j : Int))).toNat = j := by omega
   have e2 : (-(((0 : Nat) : Int) - (j : Int)) - 1).toNat = j - 1 := by omega
   rw [e1, e2]
   exact ⟨by omega, z⟩
theorem mP (T : cD K mg t) : FO P w base T.q_za8 1 (Br K) := by
 refine T.q_za8.F.ok be (λ vs H Q E h => ?_) (λ cdv A outer s H vs Q E hr h => ?_)
 ·obtain ⟨pr, p, a, b, n, rfl, _⟩ := h
  rfl
 obtain ⟨pr, p, a, b, n, rfl, p2, p10, R, a0, hn, q⟩ := h
 have b0 := R.pos
 have mp : du p := tE (by omega) (by omega)
 have bp4 : My.Bd 4 p := by unfold My.Bd; omega
 have ma : du a := R.ba.mono (by omega)
 refine ⟨_, (aG (aj (i := 2) be.nd rfl (Or.inl rfl) (aa aC (pv 1) ai (λ _ _ => rfl)))
 (aG (aj (i := 3) be.nd rfl (Or.inl rfl) (aa aC (pv 1) ai (λ _ _ => rfl)))
 (aG (aj (i := 4) be.nd rfl (Or.inl rfl) ai)
 (aG (iP oS (ak wo (ac az (pv 3) (pv 0)) (pv 2) (ao _)) (aG (aj (i := 3) be.nd rfl (Or.inl rfl) (ac az (pv 3) (pv 0)))
 (aN (AW (i := 4) be.nd rfl (Or.inl rfl) ai HR))))
 (aG (iP oS (ak jj (pv 2) (pv 3) (ao _)) (aG (aj (i := 2) be.nd rfl (Or.inl rfl) (ac az (pv 2) (pv 0)))
 (aN (AW (i := 4) be.nd rfl (Or.inl rfl) ai Fh))))
 (aN (ah (pv 4)))))))), ?_⟩
 refine ⟨_, rfl, _, _, _, _, rfl, rfl, R.s, xh _ _, ?_⟩
 refine ⟨_, rfl, _, _, _, _, rfl, rfl, R.s, uC _ _, ?_⟩
 dsimp only [bu, kI]
 refine jg (λ Z H' => ∃ k : Nat, Z = [some (.int p), some (.ref pr), some (.int a), some (.int (b * p ^ k)), some (.int (k : Int))] /\ H' = H /\ (k = 0 ∨ b * p ^ k <= a))
  (λ Z _ => match Z with | [_, _, _, some (.int y), _] => (a + b - y).toNat | _ => 0) ⟨0, by rw [qV, pg]; rfl, rfl, .inl rfl⟩ ?_ ?_
 ·rintro Z H' ⟨k, rfl, rfl, hk⟩
  have pk := (ka p2 p10 k).1
  have bk0 : 0 < b * p ^ k := lC b0 pk
  have bdk : My.Bd 3000 (b * p ^ k) := by
   rcases hk with z | z
   ·subst z
    simp only [qV, pg]
    exact R.bb.mono (by omega)
   ·exact (My.Bd.of_le R.ba (Int.le_of_lt bk0) z).mono (by omega)
  refine ⟨_, rfl, _, rfl, _, _, rfl, rfl, ⟨bdk.mono (by decide), mp⟩, _, rfl, _, _, rfl, rfl, _, rfl, ?_⟩
  have es : b * p ^ (k + 1) = b * p ^ k * p := by rw [Int.pow_succ, Int.mul_assoc]
  by_cases hle : b * p ^ k * p <= a
  ·refine ko hle ?_
   refine ⟨_, rfl, _, rfl, _, _, rfl, rfl, ⟨bdk.mono (by decide), mp⟩, ?_⟩
   refine ⟨_, rfl, _, _, rfl, rfl, ⟨k + 1, ?_, rfl, .inr (by rw [es]; exact hle)⟩, ?_⟩
   ·rw [es]
    rfl
   ·show (a + b - b * p ^ k * p).toNat < (a + b - b * p ^ k).toNat
    have z : b * p ^ k * 2 <= b * p ^ k * p := Int.mul_le_mul_of_nonneg_left p2 (Int.le_of_lt bk0)
    omega
  ·refine ji hle ?_
   dsimp only [bu, kI]
   refine jg (λ Z H'' => ∃ j : Nat, Z = [some (.int p), some (.ref pr), some (.int (a * p ^ j)), some (.int (b * p ^ k)), some (.int ((k : Int) - (j : Int)))] /\ H'' = H' /\ (j = 0 ∨ (k = 0 /\ a * p ^ (j - 1) < b)))
    (λ Z _ => match Z with | [_, _, some (.int x), some (.int y), _] => (y - x).toNat | _ => 0) ⟨0, by rw [qV, pg]; simp, rfl, .inl rfl⟩ ?_ ?_
   ·rintro Z H'' ⟨j, rfl, rfl, hj⟩
    have pj := (ka p2 p10 j).1
    have aj0 : 0 < a * p ^ j := lC a0 pj
    have bdj : My.Bd 3000 (a * p ^ j) := by
     rcases hj with z | ⟨_, z⟩
     ·subst z
      simp only [qV, pg]
      exact R.ba.mono (by omega)
     ·cases j with
      | zero =>
       simp only [qV, pg]
       exact R.ba.mono (by omega)
      | succ i =>
       have z : a * p ^ i < b := z
       have pi := (ka p2 p10 i).1
       have w : My.Bd n (a * p ^ i) := My.Bd.of_le R.bb (Int.le_of_lt (lC a0 pi)) (Int.le_of_lt z)
       rw [Int.pow_succ, <- Int.mul_assoc]
       exact (w.mul bp4).mono (by omega)
    refine ⟨_, rfl, _, rfl, _, _, rfl, rfl, _, rfl, ?_⟩
    by_cases hlt : a * p ^ j < b * p ^ k
    ·refine ko hlt ?_
     have k0 : k = 0 := by
      rcases hk with z | z
      ·exact z
      ·rcases hj with z2 | z2
       ·subst z2
        rw [qV, pg] at hlt
        omega
       ·exact z2.1
     refine ⟨_, rfl, _, rfl, _, _, rfl, rfl, ⟨bdj.mono (by decide), mp⟩, ?_⟩
     refine ⟨_, rfl, _, _, rfl, rfl, ⟨j + 1, ?_, rfl, .inr ⟨k0, ?_⟩⟩, ?_⟩
     ·rw [show a * p ^ (j + 1) = a * p ^ j * p by rw [Int.pow_succ, Int.mul_assoc], show ((j + 1 : Nat) : Int) = (j : Int) + 1 by omega, show (k : Int) - ((j : Int) + 1) = (k : Int) - (j : Int) - 1 by omega]
      rfl
     ·subst k0
      rw [qV, pg] at hlt
      exact hlt
     ·show (b * p ^ k - a * p ^ j * p).toNat < (b * p ^ k - a * p ^ j).toNat
      have z : a * p ^ j * 2 <= a * p ^ j * p := Int.mul_le_mul_of_nonneg_left p2 (Int.le_of_lt aj0)
      omega
    ·refine ji hlt ?_
     obtain ⟨w1, w2, w3⟩ := yr p2 b0 a0 R.ba R.bb hle hk hj hlt
     exact ⟨_, rfl, q _ w1 w2 w3⟩
   ·rintro Z H'' Q1 Q2 hi ⟨v1, e1, v2, e2, i1, j1, e3, e4, kk, ek, q'⟩
    exact ⟨v1, e1, v2, e2, i1, j1, e3, e4, kk, ek, hi _ _ q'⟩
 ·rintro Z H' Q1 Q2 hi ⟨v1, e1, v2, e2, i1, j1, e3, e4, hm, v3, e5, i2, j2, e6, e7, kk, ek, q'⟩
  exact ⟨v1, e1, v2, e2, i1, j1, e3, e4, hm, v3, e5, i2, j2, e6, e7, kk, ek, hi _ _ q'⟩
structure CO (K : Fg) (H : Hp) (sc : Addr) (p low many len : Int) : Prop where
 s : bI K H sc [.str "turns", .int p, .int low, .int many, .int len]
 p2 : 2 <= p
 p10 : p <= 10
 w1 : -200 <= low
 w2 : low <= 200
 m1 : 1 <= many
 m2 : many <= 400
 l1 : 1 <= len
 l2 : len <= 4000
theorem JS (h : 2 <= p) (E : Int) : (p : Rat) ^ E ≠ 0 := by
 have hn : ∀ n : Nat, (p : Rat) ^ (n : Int) ≠ 0 := λ n => by
  rw [uz]
  exact My.cast_ne (n8 (Int.pow_pos (by omega)))
 rcases Int.le_total 0 E with z | z
 ·rw [show E = ((E.toNat : Nat) : Int) by omega]
  exact hn _
 ·rw [show E = -(((-E).toNat : Nat) : Int) by omega, Rat.zpow_neg]
  have := hn (-E).toNat
  grind
theorem vP {x : Int} (h : x = 0) : My.qv x y = 0 := by unfold My.qv; rw [h]; grind
noncomputable def gC (p E : Int) (v : Rat) : Rat := (v - (p : Rat) ^ E) / ((p : Rat) ^ E * ((p - 1 : Int) : Rat))
noncomputable def nV (K : Fg) : Sp := λ vs H Q _ => ∃ (sc pc : Addr) (p low many len e f : Int) (n : Nat), vs = [.ref sc, .ref pc] /\ CO K H sc p low many len /\ Pr K H pc e f n /\ n <= 300 /\ (e <= 0 -> Q (.str "nought") H) /\
 (0 < e -> ∀ E : Int, mG p e f E -> -(n : Int) - 1 <= E -> E <= n ->
  ((E < low ∨ low + many < E) -> Q (.str "outside") H) /\
  (low <= E -> E = low + many -> gC p E (My.qv e f) ≠ 0 -> ∀ H', am H H' -> Q (.str "outside") H') /\
  (low <= E -> E <= low + many -> (E = low + many -> gC p E (My.qv e f) = 0) -> jy K H Q (9 * n + 195) ((((E - low : Int) : Rat) + gC p E (My.qv e f)) * My.qv len many)))
theorem jr (T : cD K mg t) : FO P w base T.q_zah 4 (nV K) := by
 have G_zaa := @bU P w K mg base t T
 have G_zad := @lR P w K mg base t T
 have G_zam := @qr P w K mg base t T
 have G_zap := @re P w K mg base t T
 have G_zac := @pN P w K mg base t T
 have G_za7 := @tm P w K mg base t T
 have G_za8 := @mP P w K mg base t T
 obtain ⟨ds1, DV_number, BD_number⟩ := T.b_number1
 refine T.q_zah.F.ok bi (λ vs H Q E h => ?_) (λ cdv A outer s H vs Q E hr h => ?_)
 ·obtain ⟨sc, pc, p, low, many, len, e, f, n, rfl, _⟩ := h
  rfl
 obtain ⟨sc, pc, p, low, many, len, e, f, n, rfl, S, R, hn, q0, q1⟩ := h
 have p2 := S.p2
 have p10 := S.p10
 have a1 := S.w1
 have a2 := S.w2
 have m1 := S.m1
 have m2 := S.m2
 have l1 := S.l1
 have l2 := S.l2
 refine ⟨_, (aG (aj (i := 2) bi.nd rfl (Or.inl rfl) (aa aC (pv 0) ai (λ _ _ => rfl)))
 (aG (aE (ak wo (aa aC (pv 1) ai (λ _ _ => rfl)) ai (ao _)) (aN (ah au)) aq)
 (aG (aj (i := 3) bi.nd rfl (Or.inl rfl) (aY G_za8 hr T.q_za8 (ae (pv 2) (ae (pv 1) aA))))
 (aG (aj (i := 4) bi.nd rfl (Or.inl rfl) (ac cN (pv 3) (aa aC (pv 0) ai (λ _ _ => rfl))))
 (aG (aE (PW.pt (tJ (ak jj (pv 4) ai (ao _)) (lN (ak Eu (pv 4) (aa aC (pv 0) ai (λ _ _ => rfl)) (ao _))))) (aN (ah au)) aq)
 (aG (aj (i := 5) bi.nd rfl (Or.inl rfl) (aY G_za7 hr T.q_za7 (ae (pv 2) (ae (pv 3) aA))))
 (aG (aj (i := 6) bi.nd rfl (Or.inl rfl) (aY G_zam hr T.q_zam (ae (aY G_zad hr T.q_zad (ae (pv 1) (ae (pv 5) aA))) (ae (aY G_zap hr T.q_zap (ae (pv 5) (ae (aZ G_zaa (hr.mono (by decide)) rfl T.m_zaa T.k_number BD_number DV_number bP (ae (ac cN (pv 2) ai) aA)) aA))) aA))))
 (aG (aE (PW.pt (Fy (ak aT (pv 4) (aa aC (pv 0) ai (λ _ _ => rfl)) (ao _)) (CD (ak si (aa aC (pv 6) ai (λ _ _ => rfl)) ai (ao _))))) (aN (ah au)) aq)
 (aN (ah (aY G_zap hr T.q_zap (ae (aY G_zac hr T.q_zac (ae (aZ G_zaa (hr.mono (by decide)) rfl T.m_zaa T.k_number BD_number DV_number bP (ae (pv 4) aA)) (ae (pv 6) aA))) (ae (aZ G_zaa (hr.mono (by decide)) rfl T.m_zaa T.k_number T.b_number .nil bP (ae (aa aC (pv 0) ai (λ _ _ => rfl)) (ae (aa aC (pv 0) ai (λ _ _ => rfl)) aA))) aA))))))))))))), ?_⟩
 refine ⟨_, rfl, _, _, _, _, rfl, rfl, S.s, rfl, ?_⟩
 refine ⟨_, rfl, _, _, _, _, rfl, rfl, R.s, xh _ _, _, _, rfl, rfl, _, rfl, ?_⟩
 by_cases he : e <= 0
 ·exact ko he (q0 he)
 refine ji he ?_
 refine ⟨_, rfl, _, rfl, pc, p, e, f, n, rfl, p2, p10, R, by omega, by omega, λ E hB hE1 hE2 => ?_⟩
 obtain ⟨qo, qp, qi⟩ := q1 (by omega) E hB hE1 hE2
 refine ⟨_, rfl, _, rfl, _, _, _, _, rfl, rfl, S.s, rfl, _, _, rfl, rfl, ?_⟩
 refine ⟨_, rfl, _, _, rfl, rfl, _, rfl, ?_⟩
 by_cases t0 : E - low < 0
 ·exact ko t0 (qo (.inl (by omega)))
 refine ji t0 ?_
 refine ⟨_, rfl, _, rfl, _, _, _, _, rfl, rfl, S.s, rfl, _, _, rfl, rfl, _, rfl, ?_⟩
 by_cases t1 : E - low > many
 ·exact ko t1 (qo (.inr (by omega)))
 refine ji t1 ?_
 refine ⟨_, rfl, _, rfl, p, E, rfl, p2, p10, by omega, by omega, λ p1 H1 x1 y1 s1 R1 g1 v1 => ?_⟩
 refine ⟨_, rfl, _, rfl, _, _, _, _, _, _, _, _, rfl, R.keep s1, R1, by omega, True.intro, λ p2' H2 x2 y2 s2 R2 g2 v2 => ?_⟩
 refine ⟨_, rfl, _, rfl, _, _, rfl, rfl, _, _, 60, rfl, iq (by omega) (by omega), Bp, by decide, by decide, λ p3 H3 x3 y3 s3 R3 g3 v3 => ?_⟩
 refine ⟨_, _, _, _, _, _, _, _, rfl, R1.keep (s2.trans s3), R3, by omega, True.intro, λ p4 H4 x4 y4 s4 R4 g4 v4 => ?_⟩
 have nz : x4 ≠ 0 := zw (by
  rw [v4, v1, v3, My.qv_int]
  exact λ z => by
   rcases Rat.mul_eq_zero.mp z with z | z
   ·exact JS p2 E z
   ·exact My.cast_ne (show p - 1 ≠ 0 by omega) z)
 refine ⟨_, _, _, _, _, _, _, _, rfl, R2.keep (s3.trans s4), R4, by omega, nz, λ p5 H5 x5 y5 s5 R5 g5 v5 => ?_⟩
 have hpart : My.qv x5 y5 = gC p E (My.qv e f) := by rw [v5, v2, v4, v1, v3, My.qv_int]; rfl
 have sA := s1.trans (s2.trans (s3.trans (s4.trans s5)))
 have fin : (E = low + many -> gC p E (My.qv e f) = 0) -> jy K H Q (9 * n + 195) ((((E - low : Int) : Rat) + gC p E (My.qv e f)) * My.qv len many) := λ z => qi (by omega) (by omega) z
 refine ⟨_, rfl, _, rfl, _, _, _, _, rfl, rfl, sA.tup S.s, rfl, rfl, _, rfl, ?_⟩
 by_cases te : E - low = many
 ·refine ko (congrArg V.int te) ?_
  refine ⟨_, rfl, _, _, _, _, rfl, rfl, R5.s, xh _ _, rfl, _, rfl, ?_⟩
  by_cases x0 : x5 = 0
  ·refine EN (congrArg V.int x0) ?_
   have q := fin (λ _ => by rw [<- hpart]; exact vP x0)
   refine ⟨_, rfl, _, _, 60, rfl, iq (by omega) (by omega), Bp, by decide, by decide, λ p6 H6 x6 y6 s6 R6 g6 v6 => ?_⟩
   refine ⟨_, rfl, _, _, _, _, _, _, _, _, rfl, R6, R5.keep s6, by omega, True.intro, λ p7 H7 x7 y7 s7 R7 g7 v7 => ?_⟩
   have sB := sA.trans (s6.trans s7)
   refine ⟨_, rfl, _, _, _, _, rfl, rfl, sB.tup S.s, rfl, _, rfl, _, _, _, _, rfl, rfl, sB.tup S.s, rfl, _, _, 60, rfl, iq (by omega) (by omega), iq (by omega) (by omega), by decide, by omega, λ p8 H8 x8 y8 s8 R8 g8 v8 => ?_⟩
   refine ⟨_, _, _, _, _, _, _, _, rfl, R7.keep s8, R8, by omega, True.intro, λ p9 H9 x9 y9 s9 R9 g9 v9 => ?_⟩
   exact q p9 H9 x9 y9 (sB.trans (s8.trans s9)) (R9.up (by omega)) g9 (by rw [v9, v7, v6, v8, hpart, My.qv_int])
  ·refine Jl (λ z => x0 (V.int.inj z)) ?_
   refine qp (by omega) (by omega) (λ z => x0 ?_) H5 sA
   have z2 : My.qv x5 y5 = 0 := hpart.trans z
   have z3 := My.eq_of_qv R5.ne (show (1 : Int) ≠ 0 by decide) (z2.trans (show (0 : Rat) = My.qv 0 1 from (vP rfl).symm))
   omega
 ·refine ji (λ z => te (V.int.inj z)) ?_
  refine eD ?_
  have q := fin (λ z => absurd (show E - low = many by omega) te)
  refine ⟨_, rfl, _, _, 60, rfl, iq (by omega) (by omega), Bp, by decide, by decide, λ p6 H6 x6 y6 s6 R6 g6 v6 => ?_⟩
  refine ⟨_, rfl, _, _, _, _, _, _, _, _, rfl, R6, R5.keep s6, by omega, True.intro, λ p7 H7 x7 y7 s7 R7 g7 v7 => ?_⟩
  have sB := sA.trans (s6.trans s7)
  refine ⟨_, rfl, _, _, _, _, rfl, rfl, sB.tup S.s, rfl, _, rfl, _, _, _, _, rfl, rfl, sB.tup S.s, rfl, _, _, 60, rfl, iq (by omega) (by omega), iq (by omega) (by omega), by decide, by omega, λ p8 H8 x8 y8 s8 R8 g8 v8 => ?_⟩
  refine ⟨_, _, _, _, _, _, _, _, rfl, R7.keep s8, R8, by omega, True.intro, λ p9 H9 x9 y9 s9 R9 g9 v9 => ?_⟩
  exact q p9 H9 x9 y9 (sB.trans (s8.trans s9)) (R9.up (by omega)) g9 (by rw [v9, v7, v6, v8, hpart, My.qv_int])
structure Pc where
 (ad pl ph : Addr)
 (a b c d f t : Int)
structure vp (K : Fg) (H : Hp) (n : Nat) (x : Pc) : Prop where
 s : bI K H x.ad [.ref x.pl, .ref x.ph, .int x.f, .int x.t]
 lo : Pr K H x.pl x.a x.b n
 hi : Pr K H x.ph x.c x.d n
 lt : x.a * x.d < x.c * x.b
 f0 : 0 <= x.f
 ft : x.f < x.t
 t9 : x.t <= 4000
theorem wB (hb : b ≠ 0) (hd : d ≠ 0) (h : a * d < c * b) : My.qv c d - My.qv a b ≠ 0 := λ z => by
 have z2 : My.qv c d = My.qv a b := by grind
 have z3 := My.eq_of_qv hd hb z2
 omega
theorem vp.span {K : Fg} {x : Pc} (h : vp K H n x) : My.qv x.c x.d - My.qv x.a x.b ≠ 0 := wB h.lo.ne h.hi.ne h.lt
structure Cs (K : Fg) (H : Hp) (sc ps : Addr) (pcs : List Pc) (len : Int) (n : Nat) : Prop where
 s : bI K H sc [.str "broken", .ref ps, .int len]
 l : br K H ps (pcs.map λ x => V.ref x.ad)
 ok : ∀ x ∈ pcs, vp K H n x
 ne : pcs ≠ []
 hn : n <= 300
noncomputable def Kv (e f : Int) (x : Pc) : Bool := pH e f x.a x.b x.c x.d
noncomputable def Al (e f : Int) (pcs : List Pc) : Bool := match pcs.head?, pcs.getLast? with
 | some x, some y => pH e f x.a x.b y.c y.d
 | _, _ => false
variable {α : Type}
theorem ui {xs : List α} (h : xs ≠ []) : ∃ x, xs.head? = some x /\ xs[0]? = some x /\ x ∈ xs := by
 cases xs with
 | nil => exact absurd rfl h
 | cons x r => exact ⟨x, rfl, rfl, i9⟩
theorem xl {xs : List α} (h : xs ≠ []) : ∃ x, xs.getLast? = some x /\ xs[xs.length - 1]? = some x /\ x ∈ xs := by
 refine ⟨xs.getLast h, List.getLast?_eq_some_getLast h, ?_, List.getLast_mem h⟩
 rw [<- List.getLast?_eq_getElem?, List.getLast?_eq_some_getLast h]
theorem xW {xs : List α} {x : α} (h : xs[0]? = some x) : fG xs 0 = some x := di (j := 0) h
theorem sN {xs : List α} {x : α} (h : xs[xs.length - 1]? = some x) : fG xs (-1) = some x := by
 have hl : 0 < xs.length := by
  rcases Nat.eq_zero_or_pos xs.length with z | z
  ·rw [List.getElem?_eq_none (by omega)] at h; cases h
  ·exact z
 unfold fG BP
 rw [gV (by decide), h9 (by omega)]
 show xs[(-1 + (xs.length : Int)).toNat]? = some x
 rw [show (-1 + (xs.length : Int)).toNat = xs.length - 1 by omega]
 exact h
variable {β : Type}
theorem yP {g : α -> β} {xs : List α} {j : Nat} {x : α} (h : xs[j]? = some x) : (xs.map g)[j]? = some (g x) := by rw [kT, h]; rfl
theorem aS {g : α -> β} {xs : List α} {j : Nat} {v : β} (h : (xs.map g)[j]? = some v) : ∃ x, xs[j]? = some x /\ v = g x := by
 rw [kT] at h
 cases q : xs[j]? with
 | none => rw [q] at h; cases h
 | some x => rw [q] at h; exact ⟨x, rfl, (j9 h).symm⟩
theorem xJ {p : α -> Bool} {xs : List α} {x : α} {i : Nat} (h : ∀ j y, j < i -> xs[j]? = some y -> p y = false) (hx : xs[i]? = some x) (hp : p x = true) : xs.find? p = some x := by
 induction xs generalizing i with
 | nil => simp at hx
 | cons y r ih =>
  cases i with
  | zero =>
   rw [List.getElem?_cons_zero] at hx
   cases hx
   rw [List.find?_cons, hp]
  | succ i =>
   rw [List.find?_cons, h 0 y (by omega) rfl]
   exact ih (i := i) (λ j z hj hz => h (j + 1) z (by omega) (by rw [List.getElem?_cons_succ]; exact hz)) (by rw [List.getElem?_cons_succ] at hx; exact hx)
theorem xI {p : α -> Bool} {xs : List α} (h : ∀ j y, j < xs.length -> xs[j]? = some y -> p y = false) : xs.find? p = none := by
 rw [List.find?_eq_none]
 intro y hy
 obtain ⟨j, hj, e⟩ := List.getElem_of_mem hy
 rw [h j y hj (by rw [dI hj, e])]
 exact ff
noncomputable def mR (K : Fg) : Sp := λ vs H Q _ => ∃ (sc ps pc : Addr) (pcs : List Pc) (len e f : Int) (n1 n : Nat), vs = [.ref sc, .ref pc] /\ Cs K H sc ps pcs len n /\ Pr K H pc e f n1 /\ n1 + 3 * n + 140 <= 3900 /\
 (∀ x, pcs.find? (Kv e f) = some x -> jy K H Q (n1 + 3 * n + 140) ((x.f : Rat) + (My.qv e f - My.qv x.a x.b) / (My.qv x.c x.d - My.qv x.a x.b) * ((x.t - x.f : Int) : Rat))) /\
 (pcs.find? (Kv e f) = none -> Q (.str (if Al e f pcs = true then "gap" else "outside")) H)
theorem ii (T : cD K mg t) : FO P w base T.q_zai 5 (mR K) := by
 have G_zaq := @iZ P w K mg base t T
 have G_zau := @ee P w K mg base t T
 refine T.q_zai.F.ok cu (λ vs H Q E h => ?_) (λ cdv A outer s H vs Q E hr h => ?_)
 ·obtain ⟨sc, ps, pc, pcs, len, e, f, n1, n, rfl, _⟩ := h
  rfl
 obtain ⟨sc, ps, pc, pcs, len, e, f, n1, n, rfl, S, R, hn1, qi, qo⟩ := h
 have hS := S.s
 have hL := S.l
 have hn := S.hn
 refine ⟨_, (aG (aj (i := 2) cu.nd rfl (Or.inl rfl) (aa aC (pv 0) ai (λ _ _ => rfl)))
 (aG (dN oS rfl (cc (pv 2)) (aM (i := 3) cu.nd rfl (Or.inl rfl)) (aN (aE (eE (aY G_zaq hr T.q_zaq (ae (pv 1) (ae (aa aC (pv 3) ai (λ _ _ => rfl)) (ae (aa aC (pv 3) ai (λ _ _ => rfl)) aA))))) (aN (ah (aY G_zau hr T.q_zau (ae (pv 1) (ae (aa aC (pv 3) ai (λ _ _ => rfl)) (ae (aa aC (pv 3) ai (λ _ _ => rfl)) (ae (aa aC (pv 3) ai (λ _ _ => rfl)) (ae (aa aC (pv 3) ai (λ _ _ => rfl)) aA)))))))) aq)))
 (aN (ah (fY (eE (aY G_zaq hr T.q_zaq (ae (pv 1) (ae (aa aC (aa bZ (pv 2) ai (λ _ _ => rfl)) ai (λ _ _ => rfl)) (ae (aa aC (aa bZ (pv 2) (kq fU ai) (λ _ _ => rfl)) ai (λ _ _ => rfl)) aA))))) au au))))), kL (Z := [some _, some _, none, none]) rfl ?_⟩
 f_look
 refine GS (K := K) (xs := pcs.map λ x => V.ref x.ad) (λ i Z H2 => (∃ u, Z = [some (.ref sc), some (.ref pc), some (.ref ps), u]) /\ H2 = H /\ ∀ j y, j < i -> pcs[j]? = some y -> Kv e f y = false) ⟨⟨none, rfl⟩, rfl, λ j y hj => absurd hj (Nat.not_lt_zero _)⟩ (λ i Z H2 _ ⟨_, e2, _⟩ => by subst e2; exact hL) ?_ ?_
 ·rintro i v Z H2 hi ⟨⟨u, rfl⟩, rfl, hw⟩
  obtain ⟨y, hy, rfl⟩ := aS hi
  have OK := S.ok y (i8 hy)
  have k1 := OK.s
  have k2 := OK.lo
  have k3 := OK.hi
  have k4 := OK.f0
  have k5 := OK.ft
  have k6 := OK.t9
  have k7 := OK.span
  f_look
  refine qF (λ hb => ?_) (λ hb => ?_)
  ·have q := qi y (xJ hw hy hb)
   f_look
   rename_i p1 H1 x1 y1 s1 R1 g1 v1
   exact q p1 H1 x1 y1 s1 R1 g1 v1
  ·f_look
   refine ⟨⟨_, rfl⟩, rfl, λ j z hj hz => ?_⟩
   rcases Nat.lt_succ_iff_lt_or_eq.mp hj with h1 | h1
   ·exact hw j z h1 hz
   ·subst h1
    rw [hy] at hz
    cases hz
    exact hb
 ·rintro Z H2 ⟨⟨u, rfl⟩, rfl, hw⟩
  have q := qo (xI λ j y hj hy => hw j y (by rw [b9]; exact hj) hy)
  obtain ⟨x, x1, x2, x3⟩ := ui S.ne
  obtain ⟨z, z1, z2, z3⟩ := xl S.ne
  have eo : Al e f pcs = pH e f x.a x.b z.c z.d := by unfold Al; rw [x1, z1]
  rw [eo] at q
  have ox := S.ok x x3
  have oz := S.ok z z3
  have k1 := ox.s
  have k2 := ox.lo
  have k3 := oz.s
  have k4 := oz.hi
  have a0 : fG (pcs.map λ x => V.ref x.ad) 0 = some (.ref x.ad) := xW (yP x2)
  have a1 : fG (pcs.map λ x => V.ref x.ad) (-1) = some (.ref z.ad) := sN (by rw [b9]; exact yP z2)
  f_look
  refine EC hL a0 ?_
  f_look
  refine EC hL a1 ?_
  f_look
  refine qF (λ hb => ?_) (λ hb => ?_)
  ·rw [hb] at q
   exact q
  ·rw [hb] at q
   exact q
structure DY (K : Fg) (H : Hp) (sc pl ph : Addr) (a b c d len : Int) (n : Nat) : Prop where
 s : bI K H sc [.str "straight", .ref pl, .ref ph, .int len]
 lo : Pr K H pl a b n
 hi : Pr K H ph c d n
 hn : n <= 300
 l1 : 1 <= len
 l2 : len <= 4000
 lt : a * d < c * b
structure CM (K : Fg) (H : Hp) (sc : Addr) (f l len : Int) : Prop where
 s : bI K H sc [.str "days", .int f, .int l, .int len]
 f0 : 0 <= f
 lt : f < l
 l9 : l <= 4000000
 l1 : 1 <= len
 l2 : len <= 4000
noncomputable def iG (K : Fg) : Sp := λ vs H Q _ => ∃ (sc pl ph pc : Addr) (a b c d e f len : Int) (n1 n : Nat), vs = [.ref sc, .ref pc] /\ DY K H sc pl ph a b c d len n /\ Pr K H pc e f n1 /\ n1 + 3 * n + 140 <= 3900 /\ (pH e f a b c d = false -> Q (.str "outside") H) /\
 (pH e f a b c d = true -> jy K H Q (n1 + 3 * n + 140) ((My.qv e f - My.qv a b) / (My.qv c d - My.qv a b) * (len : Rat)))
noncomputable def sE (K : Fg) : Sp := λ vs H Q _ => ∃ (sc : Addr) (f l len c : Int), vs = [.ref sc, .int c] /\ CM K H sc f l len /\ 0 <= c /\ c <= 4000000 /\ (¬ (f <= c /\ c <= l) -> Q (.str "outside") H) /\ (f <= c -> c <= l -> jy K H Q 130 (My.qv ((c - f) * len) (l - f)))
theorem gu (T : cD K mg t) : FO P w base T.q_zag 5 (iG K) := by
 have G_zaq := @iZ P w K mg base t T
 have G_zau := @ee P w K mg base t T
 refine T.q_zag.F.ok gc (λ vs H Q E h => ?_) (λ cdv A outer s H vs Q E hr h => ?_)
 ·obtain ⟨sc, pl, ph, pc, a, b, c, d, e, f, len, n1, n, rfl, _⟩ := h
  rfl
 obtain ⟨sc, pl, ph, pc, a, b, c, d, e, f, len, n1, n, rfl, S, P1, hn1, qo, qi⟩ := h
 have l1 := S.l1
 have l2 := S.l2
 have k1 := S.s
 have k2 := S.lo
 have k3 := S.hi
 have hn := S.hn
 have k4 := wB S.lo.ne S.hi.ne S.lt
 refine ⟨_, (aG (aE (qH (eE (aY G_zaq hr T.q_zaq (ae (pv 1) (ae (aa aC (pv 0) ai (λ _ _ => rfl)) (ae (aa aC (pv 0) ai (λ _ _ => rfl)) aA)))))) (aN (ah au)) aq)
 (aN (ah (aY G_zau hr T.q_zau (ae (pv 1) (ae (aa aC (pv 0) ai (λ _ _ => rfl)) (ae (aa aC (pv 0) ai (λ _ _ => rfl)) (ae ai (ae (aa aC (pv 0) ai (λ _ _ => rfl)) aA))))))))), kL (Z := [some _, some _]) rfl ?_⟩
 f_look
 refine qF (λ hb => ?_) (λ hb => ?_)
 ·have q := qi hb
  f_look
  rename_i p1 H1 x1 y1 s1 R1 g1 v1
  refine q p1 H1 x1 y1 s1 R1 g1 (v1.trans ?_)
  rw [Int.sub_zero]
  grind
 ·have q := qo hb
  f_look
  exact q
theorem jA (T : cD K mg t) : FO P w base T.q_zaj 3 (sE K) := by
 have G_zaa := @bU P w K mg base t T
 refine T.q_zaj.F.ok jX (λ vs H Q E h => ?_) (λ cdv A outer s H vs Q E hr h => ?_)
 ·obtain ⟨sc, f, l, len, c, rfl, _⟩ := h
  rfl
 obtain ⟨sc, f, l, len, c, rfl, S, c0, c9, qo, qi⟩ := h
 have l1 := S.l1
 have l2 := S.l2
 have f0 := S.f0
 have lt := S.lt
 have l9 := S.l9
 have k1 := S.s
 refine ⟨_, (aG (aE (qH (yG wo wo (aa aC (pv 0) ai (λ _ _ => rfl)) (pv 1) (aa aC (pv 0) ai (λ _ _ => rfl)))) (aN (ah au)) aq)
 (aN (ah (aZ G_zaa (hr.mono (by decide)) rfl T.m_zaa T.k_number T.b_number .nil bP (ae (ac az (ac cN (pv 1) (aa aC (pv 0) ai (λ _ _ => rfl))) (aa aC (pv 0) ai (λ _ _ => rfl))) (ae (ac cN (aa aC (pv 0) ai (λ _ _ => rfl)) (aa aC (pv 0) ai (λ _ _ => rfl))) aA)))))), kL (Z := [some _, some _]) rfl ?_⟩
 f_look
 refine aK (λ h1 => ?_) (λ h1 => ?_)
 ·f_look
  refine aK (λ h2 => ?_) (λ h2 => ?_)
  rotate_left
  ·f_look
   exact qo λ z => h2 z.2
  ·have q := qi h1 h2
   f_look
   rename_i p1 H1 x1 y1 s1 R1 g1 v1
   exact q p1 H1 x1 y1 s1 (R1.up (by decide)) g1 v1
 ·f_look
  exact qo λ z => h1 z.1
structure Lz (K : Fg) (H : Hp) (sc ps : Addr) (ws : List Str) (len : Int) : Prop where
 s : bI K H sc [.str "order", .ref ps, .int len]
 l : br K H ps (ws.map V.str)
 n1 : 1 <= ws.length
 n2 : ws.length <= 60
 l1 : 1 <= len
 l2 : len <= 4000
noncomputable def wS (K : Fg) : Sp := λ vs H Q _ => ∃ (sc ps : Addr) (ws : List Str) (len : Int) (z : Str), vs = [.ref sc, .str z] /\ Lz K H sc ps ws len /\ (z ∉ ws -> Q (.str "unknown") H) /\ (∀ j : Nat, ia ws z = some j -> jy K H Q 400 (My.qv ((2 * (j : Int) + 1) * len) (2 * (ws.length : Int))))
variable {ws : List Str} {z : Str}
theorem Gf {K : Fg} {p : Addr} {j : Nat} (h : br K H p (ws.map V.str)) (hj : ia ws z = some j) (k : Q (.int (j : Nat)) H) : pF K (.ref p) [.str z] H Q := by
 obtain ⟨e1, e2⟩ := im hj
 refine Ed (z := .str z) h rfl gq (by rw [kT, e1]; rfl) (show (z == z) = true from beq_self_eq_true z) (λ i u hi hu => ?_) k
 rw [kT] at hu
 cases e : ws[i]? with
 | none => rw [e] at hu; cases hu
 | some x =>
  rw [e] at hu
  cases hu
  have := e2 i x hi e
  show (x == z) = false
  simpa using this
theorem Au {K : Fg} {p : Addr} (h : br K H p (ws.map V.str)) (k : Q (.bl (!decide (z ∈ ws))) H) : KK K true (.str z) (.ref p) H Q := Mo h rfl gq (by rw [pz]; exact k)
theorem iD (T : cD K mg t) : FO P w base T.q_zak 3 (wS K) := by
 have G_zaa := @bU P w K mg base t T
 refine T.q_zak.F.ok iK (λ vs H Q E h => ?_) (λ cdv A outer s H vs Q E hr h => ?_)
 ·obtain ⟨sc, ps, ws, len, z, rfl, _⟩ := h
  rfl
 obtain ⟨sc, ps, ws, len, z, rfl, S, qo, qi⟩ := h
 have k1 := S.s
 have k2 : br K H ps (ws.map V.str) := S.l
 have l1 := S.l1
 have l2 := S.l2
 have n1 := S.n1
 have n2 := S.n2
 refine ⟨_, (aG (aE (ak iV (pv 1) (aa aC (pv 0) ai (λ _ _ => rfl)) rfl) (aN (ah au)) aq)
 (aN (ah (aZ G_zaa (hr.mono (by decide)) rfl T.m_zaa T.k_number T.b_number .nil bP (ae (ac az (ac aO (ac az ai (cH j4 PySem.F.slot_list_index PySem.F.type_list_index lW (aa aC (pv 0) ai (λ _ _ => rfl)) (ae (pv 1) aA))) ai) (aa aC (pv 0) ai (λ _ _ => rfl))) (ae (ac az ai (aV bR rfl T.z_len PySem.boot_len (ae (aa aC (pv 0) ai (λ _ _ => rfl)) aA))) aA)))))), kL (Z := [some _, some _]) rfl ?_⟩
 f_look
 refine Au k2 ?_
 f_look
 refine aK (λ h1 => ?_) (λ h1 => ?_)
 rotate_left
 ·f_look
  exact qo h1
 ·obtain ⟨j, hj⟩ := lh h1
  have hl : j < ws.length := (iL.mp (im hj).1).1
  have hm : (ws.map V.str).length = ws.length := b9 ..
  f_look
  refine JF k2 ?_
  f_look
  refine Gf k2 hj ?_
  f_look
  rename_i p1 H1 x1 y1 s1 R1 g1 v1
  exact qi j hj p1 H1 x1 y1 s1 (R1.up (by decide)) g1 (by rw [v1, hm])
noncomputable def vz (K : Fg) : Sp := λ vs H Q E => (∃ sc : Addr, vs = [.ref sc, .non] /\ Q (.str "nothing") H) ∨ iG K vs H Q E ∨ nV K vs H Q E ∨ mR K vs H Q E ∨ sE K vs H Q E ∨ wS K vs H Q E
theorem kE (T : cD K mg t) : FO P w base T.q_zal 6 (vz K) := by
 have G_zag := @gu P w K mg base t T
 have G_zah := @jr P w K mg base t T
 have G_zai := @ii P w K mg base t T
 have G_zaj := @jA P w K mg base t T
 have G_zak := @iD P w K mg base t T
 refine T.q_zal.F.ok rV (λ vs H Q E h => ?_) (λ cdv A outer s H vs Q E hr h => ?_)
 ·rcases h with ⟨sc, rfl, _⟩ | ⟨sc, pl, ph, pc, a, b, c, d, e, f, len, n1, n, rfl, _⟩ | ⟨sc, pc, p, low, many, len, e, f, n, rfl, _⟩ | ⟨sc, ps, pc, pcs, len, e, f, n1, n, rfl, _⟩ | ⟨sc, f, l, len, c, rfl, _⟩ | ⟨sc, ps, ws, len, z, rfl, _⟩ <;> rfl
 rcases h with ⟨sc, rfl, q⟩ | h | h | h | h | h
 ·refine ⟨_, (aG (aE (ak cG (pv 1) bM (ao _)) (aN (ah au)) aq)
 (aG (aE (ak aT (aa aC (pv 0) ai (λ _ _ => rfl)) au (ao _)) (aN (ah (aY G_zag hr T.q_zag (ae (pv 0) (ae (pv 1) aA))))) aq)
 (aG (aE (ak aT (aa aC (pv 0) ai (λ _ _ => rfl)) au (ao _)) (aN (ah (aY G_zah hr T.q_zah (ae (pv 0) (ae (pv 1) aA))))) aq)
 (aG (aE (ak aT (aa aC (pv 0) ai (λ _ _ => rfl)) au (ao _)) (aN (ah (aY G_zai hr T.q_zai (ae (pv 0) (ae (pv 1) aA))))) aq)
 (aG (aE (ak aT (aa aC (pv 0) ai (λ _ _ => rfl)) au (ao _)) (aN (ah (aY G_zaj hr T.q_zaj (ae (pv 0) (ae (pv 1) aA))))) aq)
 (aN (ah (aY G_zak hr T.q_zak (ae (pv 0) (ae (pv 1) aA)))))))))), kL (Z := [some _, some _]) rfl ?_⟩
  f_look
  exact q
 ·obtain ⟨sc, pl, ph, pc, a, b, c, d, e, f, len, n1, n, rfl, S, eR⟩ := h
  have k1 := S.s
  refine ⟨_, (aG (aE (ak cG (pv 1) bM (ao _)) (aN (ah au)) aq)
 (aG (aE (ak aT (aa aC (pv 0) ai (λ _ _ => rfl)) au (ao _)) (aN (ah (aY G_zag hr T.q_zag (ae (pv 0) (ae (pv 1) aA))))) aq)
 (aG (aE (ak aT (aa aC (pv 0) ai (λ _ _ => rfl)) au (ao _)) (aN (ah (aY G_zah hr T.q_zah (ae (pv 0) (ae (pv 1) aA))))) aq)
 (aG (aE (ak aT (aa aC (pv 0) ai (λ _ _ => rfl)) au (ao _)) (aN (ah (aY G_zai hr T.q_zai (ae (pv 0) (ae (pv 1) aA))))) aq)
 (aG (aE (ak aT (aa aC (pv 0) ai (λ _ _ => rfl)) au (ao _)) (aN (ah (aY G_zaj hr T.q_zaj (ae (pv 0) (ae (pv 1) aA))))) aq)
 (aN (ah (aY G_zak hr T.q_zak (ae (pv 0) (ae (pv 1) aA)))))))))), kL (Z := [some _, some _]) rfl ?_⟩
  f_look
  refine aK (λ _ => ?_) (λ z => absurd rfl z)
  f_look
  exact ⟨sc, pl, ph, pc, a, b, c, d, e, f, len, n1, n, rfl, S, eR⟩
 ·obtain ⟨sc, pc, p, low, many, len, e, f, n, rfl, S, eR⟩ := h
  have k1 := S.s
  refine ⟨_, (aG (aE (ak cG (pv 1) bM (ao _)) (aN (ah au)) aq)
 (aG (aE (ak aT (aa aC (pv 0) ai (λ _ _ => rfl)) au (ao _)) (aN (ah (aY G_zag hr T.q_zag (ae (pv 0) (ae (pv 1) aA))))) aq)
 (aG (aE (ak aT (aa aC (pv 0) ai (λ _ _ => rfl)) au (ao _)) (aN (ah (aY G_zah hr T.q_zah (ae (pv 0) (ae (pv 1) aA))))) aq)
 (aG (aE (ak aT (aa aC (pv 0) ai (λ _ _ => rfl)) au (ao _)) (aN (ah (aY G_zai hr T.q_zai (ae (pv 0) (ae (pv 1) aA))))) aq)
 (aG (aE (ak aT (aa aC (pv 0) ai (λ _ _ => rfl)) au (ao _)) (aN (ah (aY G_zaj hr T.q_zaj (ae (pv 0) (ae (pv 1) aA))))) aq)
 (aN (ah (aY G_zak hr T.q_zak (ae (pv 0) (ae (pv 1) aA)))))))))), kL (Z := [some _, some _]) rfl ?_⟩
  f_look
  refine aK (λ z => absurd z (by decide)) (λ _ => ?_)
  f_look
  refine aK (λ _ => ?_) (λ z => absurd rfl z)
  f_look
  exact ⟨sc, pc, p, low, many, len, e, f, n, rfl, S, eR⟩
 ·obtain ⟨sc, ps, pc, pcs, len, e, f, n1, n, rfl, S, eR⟩ := h
  have k1 := S.s
  refine ⟨_, (aG (aE (ak cG (pv 1) bM (ao _)) (aN (ah au)) aq)
 (aG (aE (ak aT (aa aC (pv 0) ai (λ _ _ => rfl)) au (ao _)) (aN (ah (aY G_zag hr T.q_zag (ae (pv 0) (ae (pv 1) aA))))) aq)
 (aG (aE (ak aT (aa aC (pv 0) ai (λ _ _ => rfl)) au (ao _)) (aN (ah (aY G_zah hr T.q_zah (ae (pv 0) (ae (pv 1) aA))))) aq)
 (aG (aE (ak aT (aa aC (pv 0) ai (λ _ _ => rfl)) au (ao _)) (aN (ah (aY G_zai hr T.q_zai (ae (pv 0) (ae (pv 1) aA))))) aq)
 (aG (aE (ak aT (aa aC (pv 0) ai (λ _ _ => rfl)) au (ao _)) (aN (ah (aY G_zaj hr T.q_zaj (ae (pv 0) (ae (pv 1) aA))))) aq)
 (aN (ah (aY G_zak hr T.q_zak (ae (pv 0) (ae (pv 1) aA)))))))))), kL (Z := [some _, some _]) rfl ?_⟩
  f_look
  refine aK (λ z => absurd z (by decide)) (λ _ => ?_)
  f_look
  refine aK (λ z => absurd z (by decide)) (λ _ => ?_)
  f_look
  refine aK (λ _ => ?_) (λ z => absurd rfl z)
  f_look
  exact ⟨sc, ps, pc, pcs, len, e, f, n1, n, rfl, S, eR⟩
 ·obtain ⟨sc, f, l, len, c, rfl, S, eR⟩ := h
  have k1 := S.s
  refine ⟨_, (aG (aE (ak cG (pv 1) bM (ao _)) (aN (ah au)) aq)
 (aG (aE (ak aT (aa aC (pv 0) ai (λ _ _ => rfl)) au (ao _)) (aN (ah (aY G_zag hr T.q_zag (ae (pv 0) (ae (pv 1) aA))))) aq)
 (aG (aE (ak aT (aa aC (pv 0) ai (λ _ _ => rfl)) au (ao _)) (aN (ah (aY G_zah hr T.q_zah (ae (pv 0) (ae (pv 1) aA))))) aq)
 (aG (aE (ak aT (aa aC (pv 0) ai (λ _ _ => rfl)) au (ao _)) (aN (ah (aY G_zai hr T.q_zai (ae (pv 0) (ae (pv 1) aA))))) aq)
 (aG (aE (ak aT (aa aC (pv 0) ai (λ _ _ => rfl)) au (ao _)) (aN (ah (aY G_zaj hr T.q_zaj (ae (pv 0) (ae (pv 1) aA))))) aq)
 (aN (ah (aY G_zak hr T.q_zak (ae (pv 0) (ae (pv 1) aA)))))))))), kL (Z := [some _, some _]) rfl ?_⟩
  f_look
  refine aK (λ z => absurd z (by decide)) (λ _ => ?_)
  f_look
  refine aK (λ z => absurd z (by decide)) (λ _ => ?_)
  f_look
  refine aK (λ z => absurd z (by decide)) (λ _ => ?_)
  f_look
  refine aK (λ _ => ?_) (λ z => absurd rfl z)
  f_look
  exact ⟨sc, f, l, len, c, rfl, S, eR⟩
 ·obtain ⟨sc, ps, ws, len, z, rfl, S, eR⟩ := h
  have k1 := S.s
  refine ⟨_, (aG (aE (ak cG (pv 1) bM (ao _)) (aN (ah au)) aq)
 (aG (aE (ak aT (aa aC (pv 0) ai (λ _ _ => rfl)) au (ao _)) (aN (ah (aY G_zag hr T.q_zag (ae (pv 0) (ae (pv 1) aA))))) aq)
 (aG (aE (ak aT (aa aC (pv 0) ai (λ _ _ => rfl)) au (ao _)) (aN (ah (aY G_zah hr T.q_zah (ae (pv 0) (ae (pv 1) aA))))) aq)
 (aG (aE (ak aT (aa aC (pv 0) ai (λ _ _ => rfl)) au (ao _)) (aN (ah (aY G_zai hr T.q_zai (ae (pv 0) (ae (pv 1) aA))))) aq)
 (aG (aE (ak aT (aa aC (pv 0) ai (λ _ _ => rfl)) au (ao _)) (aN (ah (aY G_zaj hr T.q_zaj (ae (pv 0) (ae (pv 1) aA))))) aq)
 (aN (ah (aY G_zak hr T.q_zak (ae (pv 0) (ae (pv 1) aA)))))))))), kL (Z := [some _, some _]) rfl ?_⟩
  f_look
  refine aK (λ z => absurd z (by decide)) (λ _ => ?_)
  f_look
  refine aK (λ z => absurd z (by decide)) (λ _ => ?_)
  f_look
  refine aK (λ z => absurd z (by decide)) (λ _ => ?_)
  f_look
  refine aK (λ z => absurd z (by decide)) (λ _ => ?_)
  f_look
  exact ⟨sc, ps, ws, len, z, rfl, S, eR⟩
local macro_rules | `(tactic| kt_join) => `(tactic| repeat (first | exact Gt.here | apply Gt.next))
local macro_rules | `(tactic| acc_open) => `(tactic| repeat (first | exact iA.here | apply iA.next))
local macro_rules | `(tactic| dl_open) => do
  let a0 ← MyLaw.mkAlts "eRk.fz cRk.own cRk.sfz cRk.vw"
  `(tactic| first | $a0:tactic)
local macro_rules | `(tactic| regbin_open) => do
  let a0 ← MyLaw.mkAlts "cJz cHI cFl cGr"
  `(tactic| first | $a0:tactic)
local macro_rules | `(tactic| kpc_close) => do
  let a0 ← MyLaw.mkAlts "rLb rLH rLC rKa rJT rIh rIE rJL rLZ rMa rLd rKW rMf rIP rIl rLv rHc rKs rHq rMj rDv rzH rt_B rKj rKl rLT rJw rHo rJU rJi rJj rFU rFX rIj rGW rIZ rKt rLJ rKS rFc rIC rFZ rFR rJc rEt rKm rJP rDi rJk rFM rHy rfV reD rwI rGu rCw rIY hAN cBs hFn cGz jLK jJf"
  let a1 ← MyLaw.mkAlts "jLo"
  let a2 ← MyLaw.mkAlts "bfX bKc bHH bLr bJM kKb bwX"
  `(tactic| first | regbin_open | $a0:tactic | ((with_reducible apply Mi); (focus ((kt_join); done)); (focus ((acc_open); done)); (focus ((acc_open); done))) | $a1:tactic | ((with_reducible apply Lp); (focus ((acc_open); done)); (focus ((acc_open); done))) | ((with_reducible apply JW); (focus (exact Nat.le_of_ble_eq_true rfl))) | $a2:tactic)
local macro_rules | `(tactic| acc_openK) => `(tactic| first | kpc_close | (with_reducible refine IL ?_))
local macro_rules | `(tactic| obj_index2) => do
  let a0 ← MyLaw.mkAlts "rMg iIx iIy rJv rGZ rLB rHi rGx rGv rGQ rHE rHu rFK rDN rGC rHB rGL rEa rEc rDk bCP bCv bBu bBw ncb nuY gGy gDO oCo oCB kFT kGj gBQ gBe gHd gLU"
  let a1 ← MyLaw.mkAlts "rHf"
  let a2 ← MyLaw.mkAlts "hAz hvt bFD bAV"
  `(tactic| first | ((with_reducible apply AJ); (focus decide); (focus decide)) | $a0:tactic | ((with_reducible apply Ck); (focus (dl_open))) | $a1:tactic | ((with_reducible apply xX); (focus ((kt_join); done)); (focus (o_src)); (focus ((acc_open); done))) | $a2:tactic)
local macro_rules | `(tactic| o_src) => `(tactic| first | (exact Nat.le_of_ble_eq_true rfl) | omega | (simp; omega))
local macro_rules | `(tactic| kd_mark) => `(tactic| repeat (first | acc_openK | obj_index2 | kxi_slice))
local macro_rules | `(tactic| sl_open) => `(tactic| (kd_mark; assumption))
local macro_rules | `(tactic| kxi_slice) => `(tactic| fail)
local macro_rules | `(tactic| kby_none) => `(tactic| repeat (first | kpc_close | obj_index2 | kxi_slice))
noncomputable def N2 (a b : Int) : Tr := .tup [.int a, .int b]
noncomputable def zW : SpT := λ _ as Φ _ => ∃ t g, as = [.fz t] /\ BO t = some g /\ Φ (.fz (.bl (match g with | .int => true | _ => false)))
theorem vJ (T : cD K mg t) : FO P w base T.q_za1 1 (bC K zW) := by
 refine T.q_za1.F.ok ue (aJ (λ B as Φ Ψ h => by obtain ⟨_, _, rfl, _⟩ := h; rfl)) (λ cdv A outer s H vs Q E hr h => ?_)
 obtain ⟨B, as, Φ, Ψ, rfl, hS, hx, go⟩ := aF h
 obtain ⟨t, g, rfl, hg, q⟩ := hS
 refine ⟨_, (aN (ah (jF (cS wQ rfl rfl T.z_isinstance T.z_int pY (pv 0)) (jU (oF (cS tN rfl rfl T.z_isinstance T.z_bool wG (pv 0))))))), go _ _ (cX (τ := [.fz _]) rfl ?_)⟩
 kd_mark
 refine mr rfl hg ?_
 kd_mark
 cases g with
 | int => refine fV ?_; kd_mark; refine mr rfl hg ?_; kd_mark; exact q
 | bl => refine fV ?_; kd_mark; refine mr rfl hg ?_; kd_mark; exact q
 | _ => refine eD ?_; kd_mark; exact q
noncomputable def Ge (p e f k : Int) : Prop := f * p ^ k.toNat <= e * p ^ (-k).toNat
variable {k : Int}
theorem Dt {f : Int} (p2 : 2 <= p) (hf : 0 < f) (he : 0 < e) (h : Ge p e f (k + 1)) : Ge p e f k /\ f * p ^ k.toNat < e * p ^ (-k).toNat := by
 unfold Ge at *
 rcases (show 0 <= k ∨ k < 0 by omega) with z | z
 ·have a1 : (k + 1).toNat = k.toNat + 1 := by omega
  have a2 : (-(k + 1)).toNat = 0 := by omega
  have a3 : (-k).toNat = 0 := by omega
  rw [a1, a2, qV, pg, Int.pow_succ, <- Int.mul_assoc] at h
  rw [a3, qV, pg]
  have w : 0 < f * p ^ k.toNat := lC hf (Int.pow_pos (by omega))
  have w2 : f * p ^ k.toNat * 2 <= f * p ^ k.toNat * p := Int.mul_le_mul_of_nonneg_left p2 (Int.le_of_lt w)
  constructor <;> omega
 ·have a1 : (k + 1).toNat = 0 := by omega
  have a2 : k.toNat = 0 := by omega
  have a3 : (-k).toNat = (-(k + 1)).toNat + 1 := by omega
  rw [a1, qV, pg] at h
  rw [a2, a3, qV, pg, Int.pow_succ, <- Int.mul_assoc]
  have w : 0 < e * p ^ (-(k + 1)).toNat := lC he (Int.pow_pos (by omega))
  have w2 : e * p ^ (-(k + 1)).toNat * 2 <= e * p ^ (-(k + 1)).toNat * p := Int.mul_le_mul_of_nonneg_left p2 (Int.le_of_lt w)
  constructor <;> omega
theorem pU {f : Int} (p2 : 2 <= p) (hf : 0 < f) (he : 0 < e) : ∀ (n : Nat) (k : Int), Ge p e f (k + n) -> Ge p e f k
 | 0, k, h => by simpa using h
 | n + 1, k, h => pU p2 hf he n k (Dt p2 hf he (by rw [show k + (n : Int) + 1 = k + ((n + 1 : Nat) : Int) by omega]; exact h)).1
theorem sY {f E : Int} (h : mG p e f E) : Ge p e f E /\ ¬ Ge p e f (E + 1) := by
 obtain ⟨h1, h2⟩ := h
 unfold Ge
 rcases (show 0 <= E ∨ E < 0 by omega) with z | z
 ·obtain ⟨a1, a2⟩ := h1 z
  have b1 : (-E).toNat = 0 := by omega
  have b2 : (-(E + 1)).toNat = 0 := by omega
  have b3 : (E + 1).toNat = E.toNat + 1 := by omega
  rw [b1, b2, b3, qV, pg]
  exact ⟨a1, by omega⟩
 ·obtain ⟨a1, a2⟩ := h2 z
  have b1 : E.toNat = 0 := by omega
  have b2 : (E + 1).toNat = 0 := by omega
  have b3 : (-(E + 1)).toNat = (-E - 1).toNat := by omega
  rw [b1, b2, b3, qV, pg]
  exact ⟨a1, by omega⟩
theorem xH {f E E' : Int} (p2 : 2 <= p) (hf : 0 < f) (he : 0 < e) (h : mG p e f E) (h' : mG p e f E') : E = E' := by
 obtain ⟨g1, g2⟩ := sY h
 obtain ⟨g3, g4⟩ := sY h'
 rcases Int.lt_trichotomy E E' with w | w | w
 ·exact absurd (pU p2 hf he (E' - (E + 1)).toNat (E + 1) (by rw [show E + 1 + ((E' - (E + 1)).toNat : Int) = E' by omega]; exact g3)) g2
 ·exact w
 ·exact absurd (pU p2 hf he (E - (E' + 1)).toNat (E' + 1) (by rw [show E' + 1 + ((E - (E' + 1)).toNat : Int) = E by omega]; exact g1)) g4
noncomputable abbrev Pi6 := Int × Int × Int × Int × Int × Int
inductive Sc where
 | str (a b c d len : Int) | tur (p low many len : Int) | brk (ps : List Pi6) (len : Int) | day (f l len : Int) | ord (ws : List Str) (len : Int)
inductive Ce where
 | no | num (e f : Int) | day (c : Int) | wd (z : Str)
noncomputable def Ml (x : Pi6) : Tr := .tup [N2 x.1 x.2.1, N2 x.2.2.1 x.2.2.2.1, .int x.2.2.2.2.1, .int x.2.2.2.2.2]
noncomputable def Sc.tr : Sc -> Tr
 | .str a b c d len => .tup [.str "straight", N2 a b, N2 c d, .int len]
 | .tur p low many len => .tup [.str "turns", .int p, .int low, .int many, .int len]
 | .brk ps len => .tup [.str "broken", .lst (ps.map Ml), .int len]
 | .day f l len => .tup [.str "days", .int f, .int l, .int len]
 | .ord ws len => .tup [.str "order", .lst (ws.map Tr.str), .int len]
noncomputable def Ce.tr : Ce -> Tr
 | .no => .non
 | .num e f => N2 e f
 | .day c => .int c
 | .wd z => .str z
structure eh (a b : Int) : Prop where
 pos : 0 < b
 ba : My.Bd 260 a
 bb : My.Bd 260 b
noncomputable def eL : Sc -> Prop
 | .str a b c d len => eh a b /\ eh c d /\ a * d < c * b /\ 1 <= len /\ len <= 4000
 | .tur p low many len => 2 <= p /\ p <= 10 /\ -200 <= low /\ low <= 200 /\ 1 <= many /\ many <= 400 /\ 1 <= len /\ len <= 4000
 | .brk ps len => ps ≠ [] /\ ps.length <= 100 /\ (∀ x ∈ ps, eh x.1 x.2.1 /\ eh x.2.2.1 x.2.2.2.1 /\ x.1 * x.2.2.2.1 < x.2.2.1 * x.2.1 /\ 0 <= x.2.2.2.2.1 /\ x.2.2.2.2.1 < x.2.2.2.2.2 /\ x.2.2.2.2.2 <= 4000) /\ 1 <= len /\ len <= 4000
 | .day _ _ _ => False
 | .ord ws len => 1 <= ws.length /\ ws.length <= 60 /\ 1 <= len /\ len <= 4000
noncomputable def xY : Sc -> Ce -> Prop
 | _, .no => True
 | .str _ _ _ _ _, .num e f => eh e f
 | .tur _ _ _ _, .num e f => eh e f
 | .brk _ _, .num e f => eh e f
 | .day _ _ _, .day c => 0 <= c /\ c <= 4000000
 | .ord _ _, .wd _ => True
 | _, _ => False
inductive Pl where
 | tx (z : Str) | at (q : Rat)
noncomputable def IN (e f : Int) (x : Pi6) : Bool := pH e f x.1 x.2.1 x.2.2.1 x.2.2.2.1
noncomputable def GY (e f : Int) (ps : List Pi6) : Bool := match ps.head?, ps.getLast? with
 | some x, some y => pH e f x.1 x.2.1 y.2.2.1 y.2.2.2.1
 | _, _ => false
noncomputable def Io (e f : Int) (x : Pi6) : Rat := (x.2.2.2.2.1 : Rat) + (My.qv e f - My.qv x.1 x.2.1) / (My.qv x.2.2.1 x.2.2.2.1 - My.qv x.1 x.2.1) * ((x.2.2.2.2.2 - x.2.2.2.2.1 : Int) : Rat)
noncomputable def KD (p low many len e f E : Int) : Pl :=
 if E < low ∨ low + many < E then .tx "outside" else if E = low + many /\ gC p E (My.qv e f) ≠ 0 then .tx "outside" else .at ((((E - low : Int) : Rat) + gC p E (My.qv e f)) * My.qv len many)
noncomputable def BL : Sc -> Ce -> Pl -> Prop
 | _, .no, r => r = .tx "nothing"
 | .str a b c d len, .num e f, r => r = if pH e f a b c d = true then .at ((My.qv e f - My.qv a b) / (My.qv c d - My.qv a b) * (len : Rat)) else .tx "outside"
 | .tur p low many len, .num e f, r => (e <= 0 -> r = .tx "nought") /\ (0 < e -> ∃ E, mG p e f E /\ r = KD p low many len e f E)
 | .brk ps _, .num e f, r => r = match ps.find? (IN e f) with
  | some x => .at (Io e f x)
  | none => .tx (if GY e f ps = true then "gap" else "outside")
 | .day f l len, .day c, r => r = if f <= c /\ c <= l then .at (My.qv ((c - f) * len) (l - f)) else .tx "outside"
 | .ord ws len, .wd z, r => r = match ia ws z with
  | some j => .at (My.qv ((2 * (j : Int) + 1) * len) (2 * (ws.length : Int)))
  | none => .tx "unknown"
 | _, _, _ => False
variable {s : Sc}
theorem BL.one {c : Ce} {r r' : Pl} (hs : eL s) (hc : xY s c) (h : BL s c r) (h' : BL s c r') : r = r' := by
 cases c with
 | no => cases s <;> exact h.trans h'.symm
 | num e f =>
  cases s with
  | str a b c d len => exact h.trans h'.symm
  | brk ps len => exact h.trans h'.symm
  | tur p low many len =>
   rcases (show e <= 0 ∨ 0 < e by omega) with z | z
   ·rw [h.1 z, h'.1 z]
   ·obtain ⟨E, b1, e1⟩ := h.2 z
    obtain ⟨E', b2, e2⟩ := h'.2 z
    have := xH hs.1 hc.pos z b1 b2
    rw [e1, e2, this]
  | day f l len => exact hc.elim
  | ord ws len => exact hc.elim
 | day c =>
  cases s with
  | day f l len => exact h.trans h'.symm
  | _ => exact hc.elim
 | wd z =>
  cases s with
  | ord ws len => exact h.trans h'.symm
  | _ => exact hc.elim
noncomputable def ci (q : Rat) : Tr := N2 q.num q.den
noncomputable def GJ : Pl -> Tr
 | .tx z => .str z
 | .at q => ci q
structure QB (q : Rat) : Prop where
 n : My.Bd 3000 q.num
 d : My.Bd 3000 (q.den : Int)
noncomputable def PB : Pl -> Prop
 | .tx _ => True
 | .at q => QB q
variable {q : Rat}
theorem uG {x : Int} (hy : 0 < y) (g : Int.gcd x y = 1) (e : My.qv x y = q) : x = q.num /\ y = (q.den : Int) := by
 have hd : (0 : Int) < (q.den : Int) := Int.natCast_pos.mpr q.den_pos
 have e2 : My.qv q.num q.den = q := by
  show (q.num : Rat) / ((q.den : Int) : Rat) = q
  rw [<- Rat.divInt_eq_div]
  exact Rat.num_divInt_den q
 refine My.low_unique hy hd g ?_ (My.eq_of_qv (by omega) (by omega) (e.trans e2.symm))
 have := q.reduced
 show Nat.gcd q.num.natAbs (q.den : Int).natAbs = 1
 exact this
noncomputable def qW : SpT := λ _ as Φ _ => ∃ s c, as = [.fz s.tr, .fz c.tr] /\ eL s /\ xY s c /\ ∀ r, BL s c r -> PB r -> Φ (.fz (GJ r))
variable {F : Hp}
theorem mX {K : Fg} {v : V} (h : Is K F v (N2 a b)) : ∃ p, v = .ref p /\ bI K F p [.int a, .int b] := by
 cases h with
 | tup s l =>
  obtain ⟨v1, v2, rfl, h1, h2⟩ := Kk l
  cases h1
  cases h2
  exact ⟨_, rfl, s⟩
variable {vs : List V} {u : Tr}
theorem Ha {K : Fg} {t x : Tr} (h : IsL K F vs [t, u, x]) : ∃ a b c, vs = [a, b, c] /\ Is K F a t /\ Is K F b u /\ Is K F c x := by
 cases h with
 | cons a b => obtain ⟨_, _, rfl, h1, h2⟩ := Kk b; exact ⟨_, _, _, rfl, a, h1, h2⟩
theorem Ds {K : Fg} {t x y : Tr} (h : IsL K F vs [t, u, x, y]) : ∃ a b c d, vs = [a, b, c, d] /\ Is K F a t /\ Is K F b u /\ Is K F c x /\ Is K F d y := by
 cases h with
 | cons a b => obtain ⟨_, _, _, rfl, h1, h2, h3⟩ := Ha b; exact ⟨_, _, _, _, rfl, a, h1, h2, h3⟩
theorem LS {K : Fg} {t x y z : Tr} (h : IsL K F vs [t, u, x, y, z]) : ∃ a b c d e, vs = [a, b, c, d, e] /\ Is K F a t /\ Is K F b u /\ Is K F c x /\ Is K F d y /\ Is K F e z := by
 cases h with
 | cons a b => obtain ⟨_, _, _, _, rfl, h1, h2, h3, h4⟩ := Ds b; exact ⟨_, _, _, _, _, rfl, a, h1, h2, h3, h4⟩
theorem eh.pr {K : Fg} {p : Addr} (h : eh a b) (s : bI K H p [.int a, .int b]) : Pr K H p a b 260 := ⟨s, h.pos, h.ba, h.bb⟩
theorem zm {K : Fg} (i : am F H) : ∀ {ps : List Pi6} {vs : List V}, IsL K F vs (ps.map Ml) -> (∀ x ∈ ps, eh x.1 x.2.1 /\ eh x.2.2.1 x.2.2.2.1 /\ x.1 * x.2.2.2.1 < x.2.2.1 * x.2.1 /\ 0 <= x.2.2.2.2.1 /\ x.2.2.2.2.1 < x.2.2.2.2.2 /\ x.2.2.2.2.2 <= 4000) ->
  ∃ pcs : List Pc, vs = pcs.map (λ x => V.ref x.ad) /\ (∀ x ∈ pcs, vp K H 260 x) /\ pcs.map (λ x => ((x.a, x.b, x.c, x.d, x.f, x.t) : Pi6)) = ps
 | [], _, .nil, _ => ⟨[], rfl, λ _ h => absurd h m8, rfl⟩
 | (a, b, c, d, f, t) :: r, _, .cons h g, ok => by
  obtain ⟨pcs, e1, e2, e3⟩ := zm i g (λ x hx => ok x (j7 _ hx))
  obtain ⟨k1, k2, k3, k4, k5, k6⟩ := ok _ i9
  cases h with
  | tup s l =>
   obtain ⟨v1, v2, v3, v4, rfl, h1, h2, h3, h4⟩ := Ds l
   obtain ⟨p1, rfl, s1⟩ := mX h1
   obtain ⟨p2, rfl, s2⟩ := mX h2
   cases h3
   cases h4
   refine ⟨⟨_, p1, p2, a, b, c, d, f, t⟩ :: pcs, by rw [e1]; rfl, kR.mpr ⟨⟨i.tup s, k1.pr (i.tup s1), k2.pr (i.tup s2), k3, k4, k5, k6⟩, e2⟩, by rw [j8, e3]⟩
theorem sQ (g : α -> β) (q : β -> Bool) : ∀ xs : List α, (xs.map g).find? q = (xs.find? λ x => q (g x)).map g
 | [] => rfl
 | x :: r => by
  rw [j8, List.find?_cons, List.find?_cons, sQ g q r]
  cases q (g x) <;> rfl
theorem jc (T : cD K mg t) : FO P w base T.q_zal 6 (bC K qW) := by
 refine (kE (P := P) (w := w) (base := base) T).imp λ vs H Q E h => ?_
 obtain ⟨B, as, Φ, Ψ, rfl, rfl, bk, la, ⟨s, c, rfl, hs, hc, φ⟩, q, _⟩ := h
 obtain ⟨v, w', rfl, iv, iw⟩ := AR la
 have i := bk.i
 have tx : ∀ z H', am B.H0 H' -> BL s c (.tx z) -> Q (.str z) H' := λ z H' sH hz => q (.str z) _ H' (.fz (.str z)) (KI bk rfl rfl sH) .str (φ _ hz trivial)
 have nm : ∀ n v, n <= 3000 -> BL s c (.at v) -> jy B.K B.H0 Q n v := λ n v hn hz p H' x y sH r g e => by
  obtain ⟨e1, e2⟩ := uG r.pos g e
  have u := KI bk rfl rfl sH
  refine q (.ref p) _ H' (.fz (ci v)) u ?_ (φ _ hz ⟨by rw [<- e1]; exact r.ba.mono hn, by rw [<- e2]; exact r.bb.mono hn⟩)
  show Is B.K _ (.ref p) (N2 v.num v.den)
  rw [<- e1, <- e2]
  exact .tup (bI.addT (i.trans sH) r.s) (.cons .int (.cons .int .nil))
 cases c with
 | no =>
  cases iw
  have : ∃ sc, v = .ref sc := by cases s <;> (cases iv; exact ⟨_, rfl⟩)
  obtain ⟨sc, rfl⟩ := this
  exact .inl ⟨sc, rfl, tx _ _ (am.refl _) (by cases s <;> rfl)⟩
 | num e f =>
  obtain ⟨pc, rfl, sp⟩ := mX iw
  cases s with
  | str a b c d len =>
   obtain ⟨k1, k2, k3, k4, k5⟩ := hs
   cases iv with
   | tup s0 l =>
    obtain ⟨v1, v2, v3, v4, rfl, h1, h2, h3, h4⟩ := Ds l
    cases h1
    obtain ⟨p1, rfl, s1⟩ := mX h2
    obtain ⟨p2, rfl, s2⟩ := mX h3
    cases h4
    refine .inr (.inl ⟨_, p1, p2, pc, a, b, c, d, e, f, len, 260, 260, rfl, ⟨i.tup s0, k1.pr (i.tup s1), k2.pr (i.tup s2), by decide, k4, k5, k3⟩, hc.pr (i.tup sp), by decide, λ hb => tx _ _ (am.refl _) ?_, λ hb => nm _ _ (by decide) ?_⟩)
    ·show _ = _; rw [hb]; rfl
    ·show _ = _; rw [hb]; rfl
  | tur p low many len =>
   obtain ⟨k1, k2, k3, k4, k5, k6, k7, k8⟩ := hs
   cases iv with
   | tup s0 l =>
    obtain ⟨v1, v2, v3, v4, v5, rfl, h1, h2, h3, h4, h5⟩ := LS l
    cases h1; cases h2; cases h3; cases h4; cases h5
    refine .inr (.inr (.inl ⟨_, pc, p, low, many, len, e, f, 260, rfl, ⟨i.tup s0, k1, k2, k3, k4, k5, k6, k7, k8⟩, hc.pr (i.tup sp), by decide, λ he => tx _ _ (am.refl _) ⟨λ _ => rfl, λ z => by omega⟩, λ he E hE _ _ => ⟨λ z => tx _ _ (am.refl _) ⟨λ z => by omega, λ _ => ⟨E, hE, ?_⟩⟩, λ z1 z2 z3 H' sH => tx _ _ sH ⟨λ z => by omega, λ _ => ⟨E, hE, ?_⟩⟩, λ z1 z2 z3 => nm _ _ (by decide) ⟨λ z => by omega, λ _ => ⟨E, hE, ?_⟩⟩⟩⟩))
    ·unfold KD; rw [h9 z]
    ·unfold KD; rw [gV (by omega), h9 ⟨z2, z3⟩]
    ·unfold KD; rw [gV (by omega), gV λ y => y.2 (z3 y.1)]
  | brk ps len =>
   obtain ⟨k0, _, k1, k2, k3⟩ := hs
   cases iv with
   | tup s0 l =>
    obtain ⟨v1, v2, v3, rfl, h1, h2, h3⟩ := Ha l
    cases h1; cases h3
    cases h2 with
    | lst s1 l1 =>
     obtain ⟨pcs, rfl, e2, e3⟩ := zm i l1 k1
     have fe : ps.find? (IN e f) = (pcs.find? (Kv e f)).map (λ x => ((x.a, x.b, x.c, x.d, x.f, x.t) : Pi6)) := by rw [<- e3, sQ]; rfl
     refine .inr (.inr (.inr (.inl ⟨_, _, pc, pcs, len, e, f, 260, 260, rfl, ⟨i.tup s0, i.seq s1, e2, λ z => k0 (by rw [<- e3, z]; rfl), by decide⟩, hc.pr (i.tup sp), by decide, λ x hx => nm _ _ (by decide) ?_, λ hx => tx _ _ (am.refl _) ?_⟩)))
     ·show _ = _
      rw [fe, hx]; rfl
     ·show _ = _
      rw [fe, hx]
      show Pl.tx _ = .tx _
      have : GY e f ps = Al e f pcs := by
       unfold GY Al
       rw [<- e3, List.head?_map, List.getLast?_map]
       cases pcs.head? <;> cases pcs.getLast? <;> rfl
      rw [this]
  | day f l len => exact hc.elim
  | ord ws len => exact hc.elim
 | day c =>
  cases s with
  | day f l len => exact hs.elim
  | _ => exact hc.elim
 | wd z =>
  cases s with
  | ord ws len =>
   obtain ⟨k1, k2, k4, k5⟩ := hs
   cases iw
   cases iv with
   | tup s0 l0 =>
    obtain ⟨v1, v2, v3, rfl, h1, h2, h3⟩ := Ha l0
    cases h1; cases h3
    cases h2 with
    | lst s1 l1 =>
     rw [l1.strs] at s1
     refine .inr (.inr (.inr (.inr (.inr ⟨_, _, ws, len, z, rfl, ⟨i.tup s0, i.seq s1, k1, k2, k4, k5⟩, λ hz => tx _ _ (am.refl _) ?_, λ j hj => nm _ _ (by decide) ?_⟩))))
     ·show _ = _
      have : ia ws z = none := by
       cases e : ia ws z with
       | none => rfl
       | some j => exact absurd (i8 (im e).1) hz
      rw [this]
     ·show _ = _; rw [hj]
  | _ => exact hc.elim
noncomputable def plD : Pl := .tx ""
noncomputable def Db (s : Sc) (c : Ce) : Pl := @Classical.epsilon Pl ⟨plD⟩ (BL s c)
theorem my {c : Ce} {r : Pl} (hs : eL s) (hc : xY s c) (h : BL s c r) : Db s c = r := BL.one hs hc (@Classical.epsilon_spec_aux Pl ⟨plD⟩ (BL s c) ⟨r, h⟩) h
variable {B : Bk} {Φ : Kd -> Prop} {Ψ : Addr -> Prop}
theorem pK {c : Ce} (hs : eL s) (hc : xY s c) (q : PB (Db s c) -> Φ (.fz (GJ (Db s c)))) : qW B [.fz s.tr, .fz c.tr] Φ Ψ :=
 ⟨s, c, rfl, hs, hc, λ r hr hb => by rw [<- my hs hc hr] at hb ⊢; exact q hb⟩
noncomputable def dv (q : Rat) : Int := (2 * q.num + (q.den : Int)) / (2 * (q.den : Int))
noncomputable def rT : SpT := λ _ as Φ _ => ∃ q : Rat, as = [.fz (ci q)] /\ QB q /\ Φ (.fz (.int (dv q)))
theorem km (T : cD K mg t) : FO P w base T.q_zat 1 (bC K rT) := by
 refine T.q_zat.F.ok ug (aJ (λ B as Φ Ψ h => by obtain ⟨_, rfl, _⟩ := h; rfl)) (λ cdv A outer s H vs Q E hr h => ?_)
 obtain ⟨B, as, Φ, Ψ, rfl, hS, hx, go⟩ := aF h
 obtain ⟨q, rfl, hq, φ⟩ := hS
 have hd : (0 : Int) < (q.den : Int) := Int.natCast_pos.mpr q.den_pos
 have b1 := hq.n
 have b2 := hq.d
 unfold ci N2 at *
 refine ⟨_, (aN (ah (ac dj (ac aO (ac az ai (aa aC (pv 0) ai (λ _ _ => rfl))) (aa aC (pv 0) ai (λ _ _ => rfl))) (ac az ai (aa aC (pv 0) ai (λ _ _ => rfl)))))), go _ _ (cX (τ := [.fz _]) rfl ?_)⟩
 sl_open
theorem wL (h : QB q) (k : Φ (.fz (.int (dv q)))) : rT B [.fz (ci q)] Φ Ψ := ⟨q, rfl, h, k⟩
structure Fd where
 (sx sy : Sc)
 (x0 y0 w h : Int)
noncomputable def Fd.tr (f : Fd) : Tr := .tup [f.sx.tr, f.sy.tr, .int f.x0, .int f.y0, .int f.w, .int f.h]
structure Itm where
 own : Int
 (x y o : Ce)
 (rank col siz : Int)
noncomputable def Itm.tr (i : Itm) : Tr := .tup [.int i.own, i.x.tr, i.y.tr, i.o.tr, .int i.rank, .int i.col, .int i.siz]
structure vg (f : Fd) : Prop where
 x : eL f.sx
 y : eL f.sy
structure sR (f : Fd) (i : Itm) : Prop where
 x : xY f.sx i.x
 y : xY f.sy i.y
noncomputable def wH : SpT := λ _ as Φ _ => ∃ (f : Fd) (q : Rat), as = [.fz f.tr, .fz (ci q)] /\ QB q /\ Φ (.fz (.int (f.x0 + dv q)))
theorem xm (T : cD K mg t) : FO P w base T.q_zay 2 (bC K wH) := by
 have G_zat := @km P w K mg base t T
 refine T.q_zay.F.ok Bx (aJ (λ B as Φ Ψ h => by obtain ⟨_, _, rfl, _⟩ := h; rfl)) (λ cdv A outer s H vs Q E hr h => ?_)
 obtain ⟨B, as, Φ, Ψ, rfl, hS, hx, go⟩ := aF h
 obtain ⟨f, q, rfl, hq, φ⟩ := hS
 unfold Fd.tr at *
 refine ⟨_, (aN (ah (ac aO (aa aC (pv 0) ai (λ _ _ => rfl)) (aY G_zat hr T.q_zat (ae (pv 1) aA))))), go _ _ (cX (τ := [.fz _, .fz _]) rfl ?_)⟩
 kd_mark
 intro _ _
 refine wL hq ?_
 sl_open
noncomputable def Du : SpT := λ _ as Φ _ => ∃ (f : Fd) (q : Rat), as = [.fz f.tr, .fz (ci q)] /\ QB q /\ Φ (.fz (.int (f.y0 + f.h - dv q)))
theorem yA (T : cD K mg t) : FO P w base T.q_zaz 2 (bC K Du) := by
 have G_zat := @km P w K mg base t T
 refine T.q_zaz.F.ok yU (aJ (λ B as Φ Ψ h => by obtain ⟨_, _, rfl, _⟩ := h; rfl)) (λ cdv A outer s H vs Q E hr h => ?_)
 obtain ⟨B, as, Φ, Ψ, rfl, hS, hx, go⟩ := aF h
 obtain ⟨f, q, rfl, hq, φ⟩ := hS
 unfold Fd.tr at *
 refine ⟨_, (aN (ah (ac cN (ac aO (aa aC (pv 0) ai (λ _ _ => rfl)) (aa aC (pv 0) ai (λ _ _ => rfl))) (aY G_zat hr T.q_zat (ae (pv 1) aA))))), go _ _ (cX (τ := [.fz _, .fz _]) rfl ?_)⟩
 kd_mark
 intro _ _
 refine wL hq ?_
 sl_open
noncomputable def ze (f : Fd) (i : Itm) (ch : Str) : Pl := if ch = "x" then Db f.sx i.x else Db f.sy i.y
noncomputable def mt : SpT := λ _ as Φ _ => ∃ (f : Fd) (i : Itm) (ch : Str), as = [.fz f.tr, .fz i.tr, .fz (.str ch)] /\ vg f /\ sR f i /\ (ch = "x" ∨ ch = "y") /\ (PB (ze f i ch) -> Φ (.fz (GJ (ze f i ch))))
theorem pR (T : cD K mg t) : FO P w base T.q_zba 7 (bC K mt) := by
 have G_zal := @jc P w K mg base t T
 refine T.q_zba.F.ok rQ (aJ (λ B as Φ Ψ h => by obtain ⟨_, _, _, rfl, _⟩ := h; rfl)) (λ cdv A outer s H vs Q E hr h => ?_)
 obtain ⟨B, as, Φ, Ψ, rfl, hS, hx, go⟩ := aF h
 obtain ⟨f, i, ch, rfl, hf, hi, hch, φ⟩ := hS
 unfold Fd.tr Itm.tr at *
 refine ⟨_, (aG (aE (ak aT (pv 2) au (ao _)) (aN (ah (aY G_zal hr T.q_zal (ae (aa aC (pv 0) ai (λ _ _ => rfl)) (ae (aa aC (pv 1) ai (λ _ _ => rfl)) aA))))) aq)
 (aN (ah (aY G_zal hr T.q_zal (ae (aa aC (pv 0) ai (λ _ _ => rfl)) (ae (fY (ak aT (pv 2) au (ao _)) (aa aC (pv 1) ai (λ _ _ => rfl)) (aa aC (pv 1) ai (λ _ _ => rfl))) aA)))))), go _ _ (cX (τ := [.fz _, .fz _, .fz _]) rfl ?_)⟩
 unfold ze at φ
 kd_mark
 refine aK (λ h => ?_) (λ h => ?_)
 ·rw [h9 h] at φ
  kd_mark
  intro _ _
  exact pK hf.x hi.x φ
 ·rw [gV h] at φ
  have hy : ch = "y" := hch.elim (λ z => absurd z h) id
  kd_mark
  refine aK (λ h2 => ?_) (λ h2 => absurd hy h2)
  kd_mark
  intro _ _
  exact pK hf.y hi.y φ
variable {f : Fd} {i : Itm}
theorem xk {ch : Str} (hf : vg f) (hi : sR f i) (hc : ch = "x" ∨ ch = "y") (q : PB (ze f i ch) -> Φ (.fz (GJ (ze f i ch)))) : mt B [.fz f.tr, .fz i.tr, .fz (.str ch)] Φ Ψ := ⟨f, i, ch, rfl, hf, hi, hc, q⟩
noncomputable def dD (f : Fd) (i : Itm) : List Str -> Option Tr
 | [] => none
 | ch :: r => match ze f i ch with
  | .tx z => some (.tup [.int i.own, .str ch, .str z])
  | .at _ => dD f i r
noncomputable def gU : Option Tr -> Tr
 | none => .non
 | some t => t
noncomputable def BY : SpT := λ _ as Φ _ => ∃ (f : Fd) (i : Itm) (chs : List Str), as = [.fz f.tr, .fz i.tr, .fz (.tup (chs.map Tr.str))] /\ vg f /\ sR f i /\ (∀ ch ∈ chs, ch = "x" ∨ ch = "y") /\ Φ (.fz (gU (dD f i chs)))
theorem io {f : Fd} {i : Itm} : ∀ {chs : List Str} {j : Nat}, (∀ k ch, k < j -> chs[k]? = some ch -> ∃ q, ze f i ch = .at q) -> dD f i chs = dD f i (chs.drop j)
 | chs, 0, _ => rfl
 | [], j + 1, _ => rfl
 | ch :: r, j + 1, h => by
  obtain ⟨q, e⟩ := h 0 ch (by omega) rfl
  have e1 : dD f i (ch :: r) = dD f i r := by simp only [dD, e]
  rw [e1]
  exact io (chs := r) (j := j) λ k c hk hc => h (k + 1) c (by omega) hc
theorem qU (T : cD K mg t) : FO P w base T.q_zbd 8 (bC K BY) := by
 have G_zba := @pR P w K mg base t T
 refine T.q_zbd.F.ok ig (aJ (λ B as Φ Ψ h => by obtain ⟨_, _, _, rfl, _⟩ := h; rfl)) (λ cdv A outer s H vs Q E hr h => ?_)
 obtain ⟨B, as, Φ, Ψ, rfl, hS, hx, go⟩ := aF h
 obtain ⟨f, i, chs, rfl, hf, hi, hch, φ⟩ := hS
 refine ⟨_, (aG (dN oS rfl (FB (pv 2)) (aM (i := 3) ig.nd rfl (Or.inl rfl)) (aG (aj (i := 4) ig.nd rfl (Or.inl rfl) (aY G_zba hr T.q_zba (ae (pv 0) (ae (pv 1) (ae (pv 3) aA)))))
 (aN (aE (eE (cS iR rfl rfl T.z_isinstance T.z_str mm (pv 4))) (aN (ah (aI (ae (aa aC (pv 1) ai (λ _ _ => rfl)) (ae (pv 3) (ae (pv 4) aA)))))) aq))))
 (aN (ah bM))), go _ _ (cX (τ := [.fz _, .fz _, .fz _, .no, .no]) rfl ?_)⟩
 kd_mark
 refine ⟨λ j τ => (∃ u v : Sl, τ = [.fz f.tr, .fz i.tr, .fz (.tup (chs.map Tr.str)), u, v]) /\ ∀ k ch, k < j -> chs[k]? = some ch -> ∃ q, ze f i ch = .at q, ⟨⟨_, _, rfl⟩, λ k ch hk => by omega⟩, ?_, ?_⟩
 ·rintro j tt τ hj ⟨⟨u, v, rfl⟩, hk⟩
  obtain ⟨ch, ech, rfl⟩ : ∃ ch, chs[j]? = some ch /\ tt = .str ch := by
   rw [kT] at hj
   cases e : chs[j]? with
   | none => rw [e] at hj; cases hj
   | some c => rw [e] at hj; cases hj; exact ⟨c, rfl, rfl⟩
  kd_mark
  intro _ _
  refine xk hf hi (hch ch (i8 ech)) ?_
  intro hb
  cases e : ze f i ch with
  | tx z =>
   show GA B _ (.fz (.str z)) _ _
   kd_mark
   have : dD f i chs = some (.tup [.int i.own, .str ch, .str z]) := by
    rw [io hk]
    have hd : chs.drop j = ch :: chs.drop (j + 1) := by
     obtain ⟨hl, e⟩ := iL.mp ech
     rw [List.drop_eq_getElem_cons hl, e]
    rw [hd]
    simp only [dD, e]
   rw [this] at φ
   exact φ
  | «at» q =>
   show GA B _ (.fz (.tup [.int q.num, .int q.den])) _ _
   kd_mark
   refine ⟨⟨_, _, rfl⟩, λ k c hkk hc => ?_⟩
   rcases (show k < j ∨ k = j by omega) with z | z
   ·exact hk k c z hc
   ·subst z
    rw [ech] at hc
    cases hc
    exact ⟨q, e⟩
 ·rintro τ ⟨⟨u, v, rfl⟩, hk⟩
  kd_mark
  have : dD f i chs = none := by
   rw [io hk, b9, List.drop_length]; rfl
  rw [this] at φ
  exact φ
structure QN (n : Nat) (q : Rat) : Prop where
 a : My.Bd n q.num
 b : My.Bd n (q.den : Int)
theorem QN.qb (h : QN n q) (hn : n <= 3000) : QB q := ⟨h.a.mono hn, h.b.mono hn⟩
theorem de (q : Rat) : My.qv q.num q.den = q := by
 show (q.num : Rat) / ((q.den : Int) : Rat) = q
 rw [<- Rat.divInt_eq_div]
 exact Rat.num_divInt_den q
theorem GD {v : Rat} (bk : vd B) (q : ∀ u F' H' k, Up B B.F0 B.H0 F' H' -> sk B F' H' u k -> Φ k -> Q u H') (φ : QN n v -> Φ (.fz (ci v))) : jy B.K B.H0 Q n v := λ p H' x y sH r g e => by
 obtain ⟨e1, e2⟩ := uG r.pos g e
 have u := KI bk rfl rfl sH
 refine q (.ref p) _ H' (.fz (ci v)) u ?_ (φ ⟨by rw [<- e1]; exact r.ba, by rw [<- e2]; exact r.bb⟩)
 show Is B.K _ (.ref p) (N2 v.num v.den)
 rw [<- e1, <- e2]
 exact .tup (bI.addT (bk.i.trans sH) r.s) (.cons .int (.cons .int .nil))
noncomputable def wA : SpT := λ _ as Φ _ => ∃ (t m : Int) (n : Nat), as = [.fz (.int t), .fz (.int m)] /\ My.Bd n t /\ My.Bd n m /\ n <= 3900 /\ m ≠ 0 /\ (QN n (My.qv t m) -> Φ (.fz (ci (My.qv t m))))
theorem eW (T : cD K mg t) : cr P w K mg base (oA P w) 2 t.f_zaa t.d_zaa ["top", "bottom"] (bC K wA) := by
 refine (bU (P := P) (w := w) (base := base) T).imp λ vs H Q E h => ?_
 obtain ⟨B, as, Φ, Ψ, rfl, rfl, bk, la, ⟨a, b, n, rfl, h1, h2, hn, hb, φ⟩, q, _⟩ := h
 obtain ⟨v, w', rfl, iv, iw⟩ := AR la
 cases iv
 cases iw
 exact ⟨a, b, n, rfl, h1, h2, hn, hb, GD bk q φ⟩
theorem nH {t m : Int} (h1 : My.Bd n t) (h2 : My.Bd n m) (hn : n <= 3900) (hm : m ≠ 0) (q : QN n (My.qv t m) -> Φ (.fz (ci (My.qv t m)))) : wA B [.fz (.int t), .fz (.int m)] Φ Ψ := ⟨t, m, n, rfl, h1, h2, hn, hm, q⟩
noncomputable def lu (f : Rat -> Rat -> Rat) (ok : Rat -> Prop) : SpT := λ _ as Φ _ => ∃ (x y : Rat) (n m : Nat), as = [.fz (ci x), .fz (ci y)] /\ QN n x /\ QN m y /\ n + m + 1 <= 3900 /\ ok y /\ (QN (n + m + 1) (f x y) -> Φ (.fz (ci (f x y))))
theorem pO {K : Fg} {f : Rat -> Rat -> Rat} {ok : Rat -> Prop} {ok' : Int -> Prop} (ho : ∀ y : Rat, ok y -> ok' y.num) : ∀ vs H Q E, bC K (lu f ok) vs H Q E -> kh K f ok' vs H Q E := λ vs H Q E h => by
 obtain ⟨B, as, Φ, Ψ, rfl, rfl, bk, la, ⟨x, y, n, m, rfl, h1, h2, hn, hy, φ⟩, q, _⟩ := h
 obtain ⟨v, w', rfl, iv, iw⟩ := AR la
 obtain ⟨p, rfl, s1⟩ := mX iv
 obtain ⟨r, rfl, s2⟩ := mX iw
 refine ⟨p, r, x.num, x.den, y.num, y.den, n, m, rfl, ⟨bk.i.tup s1, Int.natCast_pos.mpr x.den_pos, h1.a, h1.b⟩, ⟨bk.i.tup s2, Int.natCast_pos.mpr y.den_pos, h2.a, h2.b⟩, hn, ho y hy, ?_⟩
 rw [de, de]
 exact GD bk q φ
theorem su (T : cD K mg t) : FO P w base T.q_zac 3 (bC K (lu (λ x y => x + y) λ _ => True)) := by
 exact (pN (P := P) (w := w) (base := base) T).imp (pO λ _ _ => trivial)
theorem xM (T : cD K mg t) : FO P w base T.q_zad 3 (bC K (lu (λ x y => x - y) λ _ => True)) := by
 exact (lR (P := P) (w := w) (base := base) T).imp (pO λ _ _ => trivial)
theorem AC (T : cD K mg t) : FO P w base T.q_zam 3 (bC K (lu (λ x y => x / y) λ y => y.num ≠ 0)) := by
 exact (qr (P := P) (w := w) (base := base) T).imp (pO λ _ h => h)
variable {m : Nat}
theorem ke {x y : Rat} {f : Rat -> Rat -> Rat} {ok : Rat -> Prop} (h1 : QN n x) (h2 : QN m y) (hn : n + m + 1 <= 3900) (hy : ok y) (q : QN (n + m + 1) (f x y) -> Φ (.fz (ci (f x y)))) : lu f ok B [.fz (ci x), .fz (ci y)] Φ Ψ := ⟨x, y, n, m, rfl, h1, h2, hn, hy, q⟩
noncomputable def ux : SpT := λ _ as Φ _ => ∃ (ws : List Str) (len : Int) (z : Str) (j : Nat), as = [.fz (Sc.ord ws len).tr, .fz (.str z)] /\ eL (.ord ws len) /\ ia ws z = some j /\ (QN 40 (My.qv ((j : Int) * len) (ws.length : Int)) -> QN 40 (My.qv (((j : Int) + 1) * len) (ws.length : Int)) -> Φ (.fz (.tup [ci (My.qv ((j : Int) * len) (ws.length : Int)), ci (My.qv (((j : Int) + 1) * len) (ws.length : Int))])))
variable {j : Int}
theorem wx {len : Int} (h0 : 0 <= j) (h1 : j <= 60) (l0 : 1 <= len) (l1 : len <= 4000) : My.Bd 40 (j * len) := by
 have h2 : j * len <= 60 * 4000 := Int.mul_le_mul h1 l1 (by omega) (by decide)
 have h3 : 0 <= j * len := Int.mul_nonneg h0 (by omega)
 generalize j * len = x at *
 unfold My.Bd
 omega
theorem lJ (T : cD K mg t) : FO P w base T.q_za9 3 (bC K ux) := by
 have G_zaa := @eW P w K mg base t T
 refine T.q_za9.F.ok eI (aJ (λ B as Φ Ψ h => by obtain ⟨_, _, _, _, rfl, _⟩ := h; rfl)) (λ cdv A outer s H vs Q E hr h => ?_)
 obtain ⟨B, as, Φ, Ψ, rfl, hS, hx, go⟩ := aF h
 obtain ⟨ws, len, z, j, rfl, ⟨k1, k2, k4, k5⟩, ej, φ⟩ := hS
 have hj : j < ws.length := (iL.mp (im ej).1).1
 have hm2 : ((ws.map Tr.str).length : Int) = (ws.length : Int) := by rw [b9]
 have w1 : My.Bd 40 (ws.length : Int) := by unfold My.Bd; omega
 have j1 := wx (j := (j : Int)) (by omega) (by omega) k4 k5
 have j2 := wx (j := (j : Int) + 1) (by omega) (by omega) k4 k5
 unfold Sc.tr at *
 refine ⟨_, (aG (aj (i := 2) eI.nd rfl (Or.inl rfl) (cH j4 PySem.F.slot_list_index PySem.F.type_list_index lW (aa aC (pv 0) ai (λ _ _ => rfl)) (ae (pv 1) aA)))
 (aG (aj (i := 3) eI.nd rfl (Or.inl rfl) (aV bR rfl T.z_len PySem.boot_len (ae (aa aC (pv 0) ai (λ _ _ => rfl)) aA)))
 (aN (ah (aI (ae (aZ G_zaa (hr.mono (by decide)) rfl T.m_zaa T.k_number T.b_number .nil bP (ae (ac az (pv 2) (aa aC (pv 0) ai (λ _ _ => rfl))) (ae (pv 3) aA))) (ae (aZ G_zaa (hr.mono (by decide)) rfl T.m_zaa T.k_number T.b_number .nil bP (ae (ac az (ac aO (pv 2) ai) (aa aC (pv 0) ai (λ _ _ => rfl))) (ae (pv 3) aA))) aA))))))), go _ _ (cX (τ := [.fz _, .fz _, .no, .no]) rfl ?_)⟩
 kd_mark
 refine sW rfl Rk.fz ej ?_
 kd_mark
 rw [hm2]
 kd_mark
 intro _ _
 refine nH j1 w1 (by decide) (by omega) λ q1 => ?_
 kd_mark
 intro _ _
 refine nH j2 w1 (by decide) (by omega) λ q2 => ?_
 kd_mark
 exact φ q1 q2
noncomputable def fK (ws : List Str) (len : Int) (j : Nat) : Rat := My.qv ((10 * (j : Int) + 1) * len) (10 * (ws.length : Int))
noncomputable def fQ (ws : List Str) (len : Int) (j : Nat) : Rat := My.qv ((10 * (j : Int) + 9) * len) (10 * (ws.length : Int))
theorem za {len n : Int} (hn : 0 < n) : My.qv (j * len) n + (My.qv ((j + 1) * len) n - My.qv (j * len) n) / My.qv 10 1 = My.qv ((10 * j + 1) * len) (10 * n) /\ My.qv ((j + 1) * len) n - (My.qv ((j + 1) * len) n - My.qv (j * len) n) / My.qv 10 1 = My.qv ((10 * j + 9) * len) (10 * n) := by
 have n0 := My.cast_ne (n8 hn)
 rw [My.qv_int]
 unfold My.qv
 simp only [kU, Rat.intCast_add]
 have e10 : ((10 : Int) : Rat) = 10 := rfl
 have e1 : ((1 : Int) : Rat) = 1 := rfl
 have e9 : ((9 : Int) : Rat) = 9 := rfl
 rw [e10, e1, e9]
 generalize (j : Rat) = J at *
 generalize (len : Rat) = L at *
 generalize (n : Rat) = N at *
 have h10 : (10 : Rat) * N ≠ 0 := by grind
 constructor <;> grind
noncomputable def Cz : SpT := λ _ as Φ _ => ∃ (f : Fd) (ws : List Str) (len : Int) (z : Str) (j : Nat), as = [.fz f.tr, .fz (.str z)] /\ f.sx = .ord ws len /\ eL (.ord ws len) /\ ia ws z = some j /\ Φ (.fz (.tup [.int (f.x0 + dv (fK ws len j)), .int (f.x0 + dv (fQ ws len j))]))
theorem pd (T : cD K mg t) : FO P w base T.q_zbb 4 (bC K Cz) := by
 have G_za9 := @lJ P w K mg base t T
 have G_zaa := @eW P w K mg base t T
 have G_zad := @xM P w K mg base t T
 have G_zam := @AC P w K mg base t T
 have G_zac := @su P w K mg base t T
 have G_zay := @xm P w K mg base t T
 obtain ⟨ds1, DV_number, BD_number⟩ := T.b_number1
 refine T.q_zbb.F.ok gw (aJ (λ B as Φ Ψ h => by obtain ⟨_, _, _, _, _, rfl, _⟩ := h; rfl)) (λ cdv A outer s H vs Q E hr h => ?_)
 obtain ⟨B, as, Φ, Ψ, rfl, hS, hx, go⟩ := aF h
 obtain ⟨f, ws, len, z, j, rfl, ef, hs, ej, φ⟩ := hS
 obtain ⟨ee1, ee2⟩ := za (j := (j : Int)) (len := len) (n := (ws.length : Int)) (by have := hs.1; omega)
 refine ⟨_, (aG (aj (i := 2) gw.nd rfl (Or.inl rfl) (aY G_za9 hr T.q_za9 (ae (aa aC (pv 0) ai (λ _ _ => rfl)) (ae (pv 1) aA))))
 (aG (aj (i := 3) gw.nd rfl (Or.inl rfl) (aY G_zam hr T.q_zam (ae (aY G_zad hr T.q_zad (ae (aa aC (pv 2) ai (λ _ _ => rfl)) (ae (aa aC (pv 2) ai (λ _ _ => rfl)) aA))) (ae (aZ G_zaa (hr.mono (by decide)) rfl T.m_zaa T.k_number BD_number DV_number bP (ae (Eh (v := .int 10) rfl T.g_TENTH ⟨_, rfl⟩) aA)) aA))))
 (aN (ah (aI (ae (aY G_zay hr T.q_zay (ae (pv 0) (ae (aY G_zac hr T.q_zac (ae (aa aC (pv 2) ai (λ _ _ => rfl)) (ae (pv 3) aA))) aA))) (ae (aY G_zay hr T.q_zay (ae (pv 0) (ae (aY G_zad hr T.q_zad (ae (aa aC (pv 2) ai (λ _ _ => rfl)) (ae (pv 3) aA))) aA))) aA))))))), go _ _ (cX (τ := [.fz _, .fz _, .no, .no]) rfl ?_)⟩
 have ft : f.tr = .tup [(Sc.ord ws len).tr, f.sy.tr, .int f.x0, .int f.y0, .int f.w, .int f.h] := by unfold Fd.tr; rw [ef]
 have px : ∀ (B' : Bk) (q : Rat) (n : Nat) (Φ' : Kd -> Prop), QN n q -> n <= 3000 -> Φ' (.fz (.int (f.x0 + dv q))) -> wH B' [.fz (.tup [(Sc.ord ws len).tr, f.sy.tr, .int f.x0, .int f.y0, .int f.w, .int f.h]), .fz (ci q)] Φ' λ _ => False := λ B' q n Φ' h hn k => ⟨f, q, by rw [ft], h.qb hn, k⟩
 rw [ft]
 kd_mark
 intro _ _
 refine ⟨ws, len, z, j, rfl, hs, ej, λ q1 q2 => ?_⟩
 kd_mark
 intro _ _
 refine ke q2 q1 (by decide) trivial λ q3 => ?_
 kd_mark
 intro _ _
 refine nH (n := 40) (by unfold My.Bd; decide) (by unfold My.Bd; decide) (by decide) (by decide) λ q4 => ?_
 kd_mark
 intro _ _
 refine ke q3 q4 (by decide) (by rw [My.qv_int]; show (10 : Int) ≠ 0; decide) λ q5 => ?_
 kd_mark
 intro _ _
 refine ke q1 q5 (by decide) trivial λ q6 => ?_
 kd_mark
 intro _ _
 refine px _ _ _ _ q6 (by decide) ?_
 kd_mark
 intro _ _
 refine ke q2 q5 (by decide) trivial λ q7 => ?_
 kd_mark
 intro _ _
 refine px _ _ _ _ q7 (by decide) ?_
 kd_mark
 rw [ee1, ee2]
 exact φ
noncomputable def mF (s : Sc) : Rat := match Db s (.num 0 1) with
 | .at q => q
 | .tx _ => 0
noncomputable def Jm : Sc -> Prop
 | .str _ _ _ _ _ => True
 | .tur _ _ _ _ => True
 | .brk _ _ => True
 | _ => False
theorem Ej : eh 0 1 := ⟨by decide, by unfold My.Bd; decide, by unfold My.Bd; decide⟩
theorem IQ (h : Jm s) : xY s (.num 0 1) := by cases s <;> first | exact Ej | exact h.elim
theorem Ch : My.qv 0 1 = 0 := by rw [My.qv_int]; rfl
noncomputable def Cp : SpT := λ _ as Φ _ => ∃ s : Sc, as = [.fz s.tr] /\ eL s /\ Jm s /\ (QB (mF s) -> Φ (.fz (ci (mF s))))
theorem sL (T : cD K mg t) : FO P w base T.q_zbc 7 (bC K Cp) := by
 have G_zal := @jc P w K mg base t T
 have G_zaa := @eW P w K mg base t T
 obtain ⟨ds1, DV_number, BD_number⟩ := T.b_number1
 refine T.q_zbc.F.ok lD (aJ (λ B as Φ Ψ h => by obtain ⟨_, rfl, _⟩ := h; rfl)) (λ cdv A outer s H vs Q E hr h => ?_)
 obtain ⟨B, as, Φ, Ψ, rfl, hS, hx, go⟩ := aF h
 obtain ⟨s, rfl, hs, hn, φ⟩ := hS
 refine ⟨_, (aG (aj (i := 1) lD.nd rfl (Or.inl rfl) (aY G_zal hr T.q_zal (ae (pv 0) (ae (aZ G_zaa (hr.mono (by decide)) rfl T.m_zaa T.k_number BD_number DV_number bP (ae ai aA)) aA))))
 (aN (ah (fY (eE (cS iR rfl rfl T.z_isinstance T.z_str mm (pv 1))) (aZ G_zaa (hr.mono (by decide)) rfl T.m_zaa T.k_number BD_number DV_number bP (ae ai aA)) (pv 1))))), go _ _ (cX (τ := [.fz _, .no]) rfl ?_)⟩
 kd_mark
 intro _ _
 refine nH (n := 40) (by unfold My.Bd; decide) (by unfold My.Bd; decide) (by decide) (by decide) λ q4 => ?_
 rw [Ch]
 kd_mark
 intro _ _
 refine pK (c := .num 0 1) hs (IQ hn) λ hb => ?_
 unfold mF at φ
 cases e : Db s (.num 0 1) with
 | tx z =>
  rw [e] at φ
  dsimp only [GJ]
  kd_mark
  intro _ _
  refine nH (n := 40) (by unfold My.Bd; decide) (by unfold My.Bd; decide) (by decide) (by decide) λ q5 => ?_
  rw [Ch] at q5 ⊢
  kd_mark
  exact φ (q5.qb (by decide))
 | «at» q =>
  rw [e] at φ hb
  dsimp only [GJ, ci, N2]
  kd_mark
  exact φ hb
noncomputable def mT (big : Bool) : Int -> Int -> Nat -> List Int -> List Int
 | _, _, _, [] => []
 | left, mixed, k, t :: r => if big = true then left % t :: mT big (left / t) mixed (k + 1) r
  else ((mixed * mixed + 69621 * mixed + 7919 * (k : Int) + 11) % 2147483647 * 16807 % 2147483629 % t) :: mT big left ((mixed * mixed + 69621 * mixed + 7919 * (k : Int) + 11) % 2147483647) (k + 1) r
noncomputable def vC (c : Int) : Int := if c < 0 then -c else c
noncomputable def wO (c : Int) : Bool := decide ((10 : Int) ^ (18 : Int).toNat <= vC c)
noncomputable def bh (c : Int) (tops : List Int) : List Int := mT (wO c) (vC c) (c * 48271 % 2147483647) 0 tops
theorem sZ (big : Bool) : ∀ (tops : List Int) (l m : Int) (k : Nat), (mT big l m k tops).length = tops.length
 | [], _, _, _ => rfl
 | t :: r, l, m, k => by
  unfold mT
  split <;> rw [lH, lH, sZ big r]
theorem pT (big : Bool) : ∀ (tops : List Int) (l m : Int) (k i : Nat) (d t : Int), (mT big l m k tops)[i]? = some d -> tops[i]? = some t -> 0 < t -> 0 <= d /\ d < t
 | [], _, _, _, _, _, _, h, _, _ => by simp [mT] at h
 | t0 :: r, l, m, k, i, d, t, h, ht, hp => by
  unfold mT at h
  cases i with
  | zero =>
   cases ht
   split at h
   ·cases h; exact ⟨m9 _ (by omega), lG _ hp⟩
   ·cases h; exact ⟨m9 _ (by omega), lG _ hp⟩
  | succ i =>
   split at h
   ·exact pT big r _ _ _ i d t h ht hp
   ·exact pT big r _ _ _ i d t h ht hp
noncomputable def lK : SpT := λ _ as Φ _ => ∃ (c : Int) (tops : List Int), as = [.fz (.int c), .fz (.lst (tops.map Tr.int))] /\ tops.length <= 100 /\ (∀ t ∈ tops, 0 < t /\ t <= 1000000000) /\ Φ (.nw (.lst ((bh c tops).map Tr.int)))
theorem Ik {g : α -> β} {xs : List α} {i : Nat} {x : α} (h : xs[i]? = some x) : (xs.map g)[i]? = some (g x) := by rw [kT, h]; rfl
theorem FG {xs : List α} {i : Nat} {x : α} (h : xs[i]? = some x) : xs.drop i = x :: xs.drop (i + 1) := by
 obtain ⟨hl, e⟩ := iL.mp h
 rw [List.drop_eq_getElem_cons hl, e]
theorem Bl {xs : List α} {i : Nat} {x : α} (h : xs[i]? = some x) : fG xs (0 + (i : Int)) = some x := by rw [Int.zero_add]; exact di h
theorem kC (T : cD K mg t) : FO P w base T.q_zav 1 (bC K lK) := by
 refine T.q_zav.F.ok cv (aJ (λ B as Φ Ψ h => by obtain ⟨_, _, rfl, _⟩ := h; rfl)) (λ cdv A outer s H vs Q E hr h => ?_)
 obtain ⟨B, as, Φ, Ψ, rfl, hS, hx, go⟩ := aF h
 obtain ⟨c, tops, rfl, hl, ht, φ⟩ := hS
 refine ⟨_, (aG (aj (i := 2) cv.nd rfl (Or.inl rfl) (aW aA))
 (aG (aj (i := 3) cv.nd rfl (Or.inl rfl) (aV dO rfl T.z_abs ij (ae (pv 0) aA)))
 (aG (aj (i := 4) cv.nd rfl (Or.inl rfl) (ac aX (ac dL (pv 0) ai) ai))
 (aG (dN oS rfl (jH rfl T.z_range (ae (aV bR rfl T.z_len PySem.boot_len (ae (pv 1) aA)) aA)) (aM (i := 5) cv.nd rfl (Or.inl rfl)) (aN (aE (ak zJ (aV dO rfl T.z_abs ij (ae (pv 0) aA)) (ac dw ai ai) (ao _)) (aG (bp (cH j4 ml mv aQ (pv 2) (ae (ac aX (pv 3) (aa bZ (pv 1) (pv 5) (λ _ _ => rfl))) aA)))
 (aN (aj (i := 3) cv.nd rfl (Or.inl rfl) (ac dj (pv 3) (aa bZ (pv 1) (pv 5) (λ _ _ => rfl)))))) (aG (aj (i := 4) cv.nd rfl (Or.inl rfl) (ac aX (ac aO (ac aO (ac aO (ac dL (pv 4) (pv 4)) (ac dL ai (pv 4))) (ac dL ai (pv 5))) ai) ai))
 (aN (bp (cH j4 ml mv aQ (pv 2) (ae (ac aX (ac aX (ac dL (pv 4) ai) ai) (aa bZ (pv 1) (pv 5) (λ _ _ => rfl))) aA))))))))
 (aN (ah (pv 2))))))), go _ _ (cX (τ := [.fz _, .fz _, .no, .no, .no, .no]) rfl ?_)⟩
 kd_mark
 have m0 : 0 <= c * 48271 % 2147483647 := m9 _ (by decide)
 have m1 : c * 48271 % 2147483647 < 2147483647 := lG _ (by decide)
 refine ⟨⟨by rw [b9]; omega, by rw [b9]; omega⟩, ?_⟩
 refine ⟨λ i τ => ∃ (left mixed : Int) (fs : List Int) (u : Sl), τ = [.fz (.int c), .fz (.lst (tops.map Tr.int)), .own (.lst (fs.map Tr.int)), .fz (.int left), .fz (.int mixed), u] /\ fs.length = i /\ 0 <= mixed /\ mixed < 2147483647 /\ bh c tops = fs ++ mT (wO c) left mixed i (tops.drop i), ⟨_, _, [], _, rfl, rfl, m0, m1, rfl⟩, ?_, ?_⟩
 ·rintro i tt τ hi ⟨left, mixed, fs, u, rfl, hf, b0, b1, e⟩
  obtain ⟨hin, rfl⟩ := jW hi
  rw [b9] at hin
  have hin : i < tops.length := by omega
  have hti : tops[i]? = some tops[i] := dI hin
  obtain ⟨t0, t1⟩ := ht _ (List.getElem_mem hin)
  generalize tops[i] = tp at *
  have hat : fG (tops.map Tr.int) (0 + (i : Int)) = some (.int tp) := Bl (Ik hti)
  rw [FG hti] at e
  have fl : (fs.map Tr.int).length <= 10000 := by rw [b9]; omega
  kd_mark
  refine aK (λ hb => ?_) (λ hb => ?_)
  ·have hbig : wO c = true := nS hb
   kd_mark
   refine cb rfl Rk.fz hat ?_
   kd_mark
   refine cb rfl Rk.fz hat ?_
   kd_mark
   refine ⟨_, _, fs ++ [left % tp], _, by rw [oD]; rfl, by rw [fI, hf]; rfl, b0, b1, ?_⟩
   rw [e, m7, hbig]
   rfl
  ·have hbig : wO c = false := kv hb
   kd_mark
   generalize hm : (mixed * mixed + 69621 * mixed + 7919 * (0 + (i : Int)) + 11) % 2147483647 = m2
   have b20 : 0 <= m2 := by rw [<- hm]; exact m9 _ (by decide)
   have b21 : m2 < 2147483647 := by rw [<- hm]; exact lG _ (by decide)
   kd_mark
   refine cb rfl Rk.fz hat ?_
   kd_mark
   refine ⟨_, _, fs ++ [m2 * 16807 % 2147483629 % tp], _, by rw [oD]; rfl, by rw [fI, hf]; rfl, b20, b21, ?_⟩
   rw [e, m7, hbig, <- hm, Int.zero_add]
   rfl
 ·rintro τ ⟨left, mixed, fs, u, rfl, hf, b0, b1, e⟩
  kd_mark
  have : bh c tops = fs := by
   rw [e, hW, b9]
   rw [show ((tops.length : Nat) : Int).toNat = tops.length by omega, List.drop_length]
   simp [mT]
  rw [this] at φ
  exact yO (by kt_join) φ
noncomputable def dg (ds : List Int) (k : Int) : Int := ds.getD k.toNat 0
variable {ds : List Int}
theorem atD (h0 : 0 <= k) (h1 : k < (ds.length : Int)) : fG (ds.map Tr.int) k = some (.int (dg ds k)) := by
 have hk : k.toNat < ds.length := by omega
 have e : k = ((k.toNat : Nat) : Int) := by omega
 have h : (ds.map Tr.int)[k.toNat]? = some (.int (dg ds k)) := by
  rw [kT, dI hk]
  unfold dg
  rw [j5, dI hk]
  rfl
 have := di h
 rw [<- e] at this
 exact this
structure cE (ds tops : List Int) : Prop where
 l : ds.length = tops.length
 b : ∀ (i : Nat) (d t : Int), ds[i]? = some d -> tops[i]? = some t -> 0 <= d /\ d < t
variable {tops : List Int}
theorem cE.at (h : cE ds tops) {k t : Int} (h0 : 0 <= k) (e : tops[k.toNat]? = some t) : 0 <= dg ds k /\ dg ds k < t := by
 have hl : k.toNat < ds.length := by rw [h.l]; exact (iL.mp e).1
 have := h.b k.toNat ds[k.toNat] t (dI hl) e
 unfold dg
 rw [j5, dI hl]
 exact this
theorem cE.drop (h : cE ds tops) (n : Nat) : cE (ds.drop n) (tops.drop n) := ⟨by rw [List.length_drop, List.length_drop, h.l], λ i d t h1 h2 => h.b (n + i) d t (by rw [List.getElem?_drop] at h1; exact h1) (by rw [List.getElem?_drop] at h2; exact h2)⟩
theorem cE.take (h : cE ds tops) (n : Nat) : cE (ds.take n) (tops.take n) := ⟨by rw [List.length_take, List.length_take, h.l], λ i d t h1 h2 => by
 rw [List.getElem?_take] at h1 h2
 split at h1
 ·rw [h9 (by assumption)] at h2; exact h.b i d t h1 h2
 ·cases h1⟩
theorem kG (h : ∀ t ∈ tops, 0 < t /\ t <= 1000000000) : cE (bh c tops) tops := ⟨sZ _ _ _ _ _, λ i d t h1 h2 => pT _ tops _ _ _ i d t h1 h2 (h t (i8 h2)).1⟩
theorem gL (ds : List Int) (a b : Nat) : mO (ds.map Tr.int) (some (a : Int)) (some (b : Int)) = ((ds.drop a).take (b - a)).map Tr.int := by
 unfold mO
 rw [HT.sIx_nat, HT.sIx_nat, b9, List.map_take, List.map_drop]
 by_cases h : a <= ds.length
 ·rw [Nat.min_eq_left h]
  by_cases g : b <= ds.length
  ·rw [Nat.min_eq_left g]
  ·rw [Nat.min_eq_right (by omega), List.take_of_length_le (by rw [List.length_drop, b9]; omega), List.take_of_length_le (by rw [List.length_drop, b9]; omega)]
 ·rw [List.drop_of_length_le (by rw [b9]; omega), List.drop_of_length_le (by rw [b9]; omega), List.take_nil, List.take_nil]
noncomputable def LD {α : Type} (k : Int) (a b : α) : α := if k = 0 then a else b
noncomputable def uj {α : Type} (k : Int) (a b c : α) : α := if k = 0 then a else if k = 1 then b else c
noncomputable def yB {α : Type} (k : Int) (a b c d : α) : α := if k = 0 then a else if k = 1 then b else if k = 2 then c else d
theorem LE {a b : α} (h0 : 0 <= k) (h1 : k < 2) : fG [a, b] k = some (LD k a b) := by
 rcases (show k = 0 ∨ k = 1 by omega) with z | z <;> subst z <;> rfl
theorem JQ {a b c : α} (h0 : 0 <= k) (h1 : k < 3) : fG [a, b, c] k = some (uj k a b c) := by
 rcases (show k = 0 ∨ k = 1 ∨ k = 2 by omega) with z | z | z <;> subst z <;> rfl
theorem Hk {a b c d : α} (h0 : 0 <= k) (h1 : k < 4) : fG [a, b, c, d] k = some (yB k a b c d) := by
 rcases (show k = 0 ∨ k = 1 ∨ k = 2 ∨ k = 3 by omega) with z | z | z | z <;> subst z <;> rfl
theorem vX : uj k (Tr.int a) (.int b) (.int c) = .int (uj k a b c) := by unfold uj; split; rfl; split <;> rfl
theorem qG : yB k (Tr.int a) (.int b) (.int c) (.int d) = .int (yB k a b c d) := by unfold yB; split; rfl; split; rfl; split <;> rfl
theorem JY {b : Bool} {x y : α} : fG [x, y] (if b = true then (1 : Int) else 0) = some (if b = true then y else x) := by cases b <;> rfl
theorem ifI {b : Bool} {x : Int} : (if b = true then Tr.int x else Tr.int y) = .int (if b = true then x else y) := by cases b <;> rfl
noncomputable def Hv : SpT := λ _ as Φ _ => ∃ a b : Int, as = [.fz (.int a), .fz (.int b)] /\ 0 <= b /\ Φ (.fz (.int ((Int.gcd a b : Nat) : Int)))
theorem hU (T : cD K mg t) : FO P w base T.q_zas 1 (bC K Hv) := by
 refine (pV (P := P) (w := w) (base := base) T).imp λ vs H Q E h => ?_
 obtain ⟨B, as, Φ, Ψ, rfl, rfl, bk, la, ⟨a, b, rfl, hb, φ⟩, q, _⟩ := h
 obtain ⟨v, w', rfl, iv, iw⟩ := AR la
 cases iv
 cases iw
 exact ⟨a, b, rfl, hb, q _ _ _ (.fz (.int _)) (Up.refl bk.i) .int φ⟩
noncomputable def fT (t b : Int) : Int := t / ((Int.gcd t b : Nat) : Int)
noncomputable def fM (t b : Int) : Int := b / ((Int.gcd t b : Nat) : Int)
theorem dq {t : Int} (hb : 0 < b) : (0 : Int) < ((Int.gcd t b : Nat) : Int) := Int.natCast_pos.mpr (Int.gcd_pos_of_ne_zero_right _ (by omega))
theorem wn {t : Int} (hb : 0 < b) : ((Int.gcd t b : Nat) : Int) <= b := Int.le_of_dvd hb (Int.gcd_dvd_right ..)
theorem pE (t b : Int) : fT t b * ((Int.gcd t b : Nat) : Int) = t := Int.ediv_mul_cancel (Int.gcd_dvd_left ..)
theorem mK (t b : Int) : fM t b * ((Int.gcd t b : Nat) : Int) = b := Int.ediv_mul_cancel (Int.gcd_dvd_right ..)
theorem dR {t : Int} (hb : 0 < b) : 0 < fM t b := by
 have h1 := dq (t := t) hb
 have h2 := mK t b
 rcases Int.lt_trichotomy (fM t b) 0 with z | z | z
 ·have := Int.mul_neg_of_neg_of_pos z h1; omega
 ·rw [z, Int.zero_mul] at h2; omega
 ·exact z
theorem uN {t : Int} (hb : 0 < b) : My.qv (fT t b) (fM t b) = My.qv t b := by
 have h1 := dq (t := t) hb
 refine My.qv_eq (by have := dR (t := t) hb; omega) (by omega) ?_
 have e1 := pE t b
 have e2 := mK t b
 generalize ((Int.gcd t b : Nat) : Int) = g at *
 calc fT t b * b = fT t b * (fM t b * g) := by rw [e2]
  _ = fT t b * g * fM t b := by rw [Int.mul_comm (fM t b) g, Int.mul_assoc]
  _ = t * fM t b := by rw [e1]
theorem wg {x : Int} (h : My.Bd n y) (hx : x.natAbs <= y.natAbs) : My.Bd n x := My.Bd.of_natAbs hx h
theorem lL {t : Int} (hb : 0 < b) (h : My.Bd n t) : My.Bd n (fT t b) := wg h (by
 have e := pE t b
 have h1 := dq (t := t) hb
 have : t.natAbs = (fT t b).natAbs * (Int.gcd t b) := by rw [<- e, Int.natAbs_mul]; rw [e]; rfl
 rw [this]
 exact Nat.le_mul_of_pos_right _ (by omega))
theorem fA {t : Int} (hb : 0 < b) (h : My.Bd n b) : My.Bd n (fM t b) := wg h (by
 have e := mK t b
 have h1 := dq (t := t) hb
 have : b.natAbs = (fM t b).natAbs * (Int.gcd t b) := by rw [<- e, Int.natAbs_mul]; rw [e]; rfl
 rw [this]
 exact Nat.le_mul_of_pos_right _ (by omega))
noncomputable def zr : SpT := λ _ as Φ _ => ∃ t b : Int, as = [.fz (.int t), .fz (.int b)] /\ 0 < b /\ du b /\ Φ (.fz (N2 (fT t b) (fM t b)))
theorem gG (T : cD K mg t) : FO P w base T.q_zae 2 (bC K zr) := by
 have G_zas := @hU P w K mg base t T
 refine T.q_zae.F.ok sj (aJ (λ B as Φ Ψ h => by obtain ⟨_, _, rfl, _⟩ := h; rfl)) (λ cdv A outer s H vs Q E hr h => ?_)
 obtain ⟨B, as, Φ, Ψ, rfl, hS, hx, go⟩ := aF h
 obtain ⟨tp, b, rfl, hb, mb, φ⟩ := hS
 have h1 := dq (t := tp) hb
 have h2 : du ((Int.gcd tp b : Nat) : Int) := wg mb (by have := wn (t := tp) hb; omega)
 refine ⟨_, (aG (aj (i := 2) sj.nd rfl (Or.inl rfl) (aY G_zas hr T.q_zas (ae (pv 0) (ae (pv 1) aA))))
 (aN (ah (aI (ae (ac dj (pv 0) (pv 2)) (ae (ac dj (pv 1) (pv 2)) aA)))))), go _ _ (cX (τ := [.fz _, .fz _, .no]) rfl ?_)⟩
 kd_mark
 intro _ _
 refine ⟨tp, b, rfl, by omega, ?_⟩
 sl_open
theorem rg {t : Int} (hb : 0 < b) (mb : du b) (q : Φ (.fz (N2 (fT t b) (fM t b)))) : zr B [.fz (.int t), .fz (.int b)] Φ Ψ := ⟨t, b, rfl, hb, mb, q⟩
noncomputable def hX (ds : List Int) : Int := yB (dg ds 1) (dg ds 2 % 10) (dg ds 2 % 1000) (dg ds 2) (dg ds 2 * 1000000000 + dg ds 3)
noncomputable def fw (ds : List Int) : Int := if decide (60 <= dg ds 4) = true then 1 else dg ds 4 + 1
noncomputable def zF (ds : List Int) : Int := (1 - 2 * dg ds 0) * hX ds / ((Int.gcd (hX ds) (fw ds) : Nat) : Int)
noncomputable def xN (ds : List Int) : Int := fw ds / ((Int.gcd (hX ds) (fw ds) : Nat) : Int)
noncomputable def tops5 : List Int := [2, 4, 1000000000, 1000000000, 90]
noncomputable def FV : SpT := λ _ as Φ _ => ∃ ds : List Int, as = [.fz (.lst (ds.map Tr.int))] /\ cE ds tops5 /\ Φ (.fz (N2 (zF ds) (xN ds)))
theorem p9 : (10 : Int) ^ (9 : Int).toNat = 1000000000 := by decide
local macro_rules | `(tactic| obj_index2) => `(tactic| ((with_reducible apply cb); (focus rfl); (focus (dl_open)); (focus (exact atD (by first | decide | omega) (by first | decide | omega)))))
theorem pQ (T : cD K mg t) : FO P w base T.q_zbg 2 (bC K FV) := by
 have G_zas := @hU P w K mg base t T
 refine T.q_zbg.F.ok em (aJ (λ B as Φ Ψ h => by obtain ⟨_, rfl, _⟩ := h; rfl)) (λ cdv A outer s H vs Q E hr h => ?_)
 obtain ⟨B, as, Φ, Ψ, rfl, hS, hx, go⟩ := aF h
 obtain ⟨ds, rfl, tp, φ⟩ := hS
 have hl : ds.length = 5 := tp.l
 have b0 := tp.at (k := 0) (by decide) rfl
 have b1 := tp.at (k := 1) (by decide) rfl
 have b2 := tp.at (k := 2) (by decide) rfl
 have b3 := tp.at (k := 3) (by decide) rfl
 have b4 := tp.at (k := 4) (by decide) rfl
 refine ⟨_, (aG (aj (i := 1) em.nd rfl (Or.inl rfl) (aa bZ (aW (ae (ac aX (aa bZ (pv 0) ai (λ _ _ => rfl)) ai) (ae (ac aX (aa bZ (pv 0) ai (λ _ _ => rfl)) ai) (ae (aa bZ (pv 0) ai (λ _ _ => rfl)) (ae (ac aO (ac dL (aa bZ (pv 0) ai (λ _ _ => rfl)) (ac dw ai ai)) (aa bZ (pv 0) ai (λ _ _ => rfl))) aA))))) (aa bZ (pv 0) ai (λ _ _ => rfl)) (λ _ _ => rfl)))
 (aG (aj (i := 2) em.nd rfl (Or.inl rfl) (aa bZ (aW (ae (ac aO (aa bZ (pv 0) ai (λ _ _ => rfl)) ai) (ae ai aA))) (jD nE rfl T.z_int pY (ae (iJ zJ (aa bZ (pv 0) ai (λ _ _ => rfl)) ai (ao _)) aA)) (λ _ _ => rfl)))
 (aG (aj (i := 3) em.nd rfl (Or.inl rfl) (aY G_zas hr T.q_zas (ae (pv 1) (ae (pv 2) aA))))
 (aN (ah (aI (ae (ac dj (ac dL (ac cN ai (ac dL ai (aa bZ (pv 0) ai (λ _ _ => rfl)))) (pv 1)) (pv 3)) (ae (ac dj (pv 2) (pv 3)) aA)))))))), go _ _ (cX (τ := [.fz _, .no, .no, .no]) rfl ?_)⟩
 kd_mark
 rw [p9]
 refine cb rfl Rk.fz (Hk b1.1 b1.2) ?_
 rw [qG]
 kd_mark
 refine cb rfl Rk.fz JY ?_
 rw [ifI]
 have hb : 0 < fw ds := by unfold fw; split <;> omega
 have mb : du (fw ds) := by
  have : fw ds <= 100 := by unfold fw; split <;> omega
  exact (nu (by omega) (by omega)).mono (by decide)
 have h1 := dq (t := hX ds) hb
 have h2 : du ((Int.gcd (hX ds) (fw ds) : Nat) : Int) := wg mb (by have := wn (t := hX ds) hb; omega)
 change GA B _ (.fz (.int (fw ds))) [_, .fz (.int (hX ds)), _, _] _
 have ht : -1152921504606846976 < hX ds /\ hX ds < 1152921504606846976 := by
  unfold hX yB
  split
  ·omega
  split
  ·omega
  split <;> omega
 have hm : 0 < xN ds /\ True := ⟨dR hb, trivial⟩
 unfold zF xN at *
 generalize fw ds = bt at *
 generalize hX ds = tpv at *
 kd_mark
 intro _ _
 refine ⟨_, _, rfl, by omega, ?_⟩
 sl_open
theorem Fo (tp : cE ds tops5) : 0 < xN ds /\ My.Bd 60 (zF ds) /\ My.Bd 60 (xN ds) := by
 have b0 := tp.at (k := 0) (by decide) rfl
 have b1 := tp.at (k := 1) (by decide) rfl
 have b2 := tp.at (k := 2) (by decide) rfl
 have b3 := tp.at (k := 3) (by decide) rfl
 have b4 := tp.at (k := 4) (by decide) rfl
 have hb : 0 < fw ds := by unfold fw; split <;> omega
 have hb2 : fw ds <= 100 := by unfold fw; split <;> omega
 have ht : -1152921504606846976 < hX ds /\ hX ds < 1152921504606846976 := by
  unfold hX yB
  split
  ·omega
  split
  ·omega
  split <;> omega
 refine ⟨dR hb, ?_, fA hb (nu (by omega) (by omega))⟩
 unfold zF
 refine My.Bd.div (dq hb) ?_
 rcases (show dg ds 0 = 0 ∨ dg ds 0 = 1 by omega) with z | z <;> rw [z]
 ·exact nu (by omega) (by omega)
 ·exact nu (by omega) (by omega)
noncomputable abbrev NP := Int × Int
noncomputable def nT (x : NP) : Tr := N2 x.1 x.2
structure NB (n : Nat) (x : NP) : Prop where
 pos : 0 < x.2
 ba : My.Bd n x.1
 bb : My.Bd n x.2
noncomputable def bz (x y : NP) : NP := (fT (x.1 * y.2 + y.1 * x.2) (x.2 * y.2), fM (x.1 * y.2 + y.1 * x.2) (x.2 * y.2))
noncomputable def fP (t b : Int) : NP := (fT t b, fM t b)
noncomputable def qp (x : NP) : Rat := My.qv x.1 x.2
variable {x : NP}
theorem eN {y : NP} (h : NB n x) (g : NB m y) : NB (n + m + 1) (bz x y) := by
 have hp : 0 < x.2 * y.2 := lC h.pos g.pos
 refine ⟨dR hp, lL hp ?_, fA hp ?_⟩
 ·exact ((h.ba.mul g.bb).add ((g.ba.mul h.bb).mono (by omega))).mono (by omega)
 ·exact (h.bb.mul g.bb).mono (by omega)
theorem lY {y : NP} (h : NB n x) (g : NB m y) : qp (bz x y) = qp x + qp y := by
 have hp : 0 < x.2 * y.2 := lC h.pos g.pos
 unfold qp bz
 rw [uN hp, My.qv_plus (by have := h.pos; omega) (by have := g.pos; omega)]
theorem kP {t : Int} (hb : 0 < b) (h1 : My.Bd n t) (h2 : My.Bd n b) : NB n (fP t b) := ⟨dR hb, lL hb h1, fA hb h2⟩
theorem Df {t : Int} (hb : 0 < b) : qp (fP t b) = My.qv t b := uN hb
noncomputable def vV : SpT := λ _ as Φ _ => ∃ (x y : NP) (n m : Nat), as = [.fz (nT x), .fz (nT y)] /\ NB n x /\ NB m y /\ n + m + 1 <= 3900 /\ Φ (.fz (nT (bz x y)))
theorem fo (T : cD K mg t) : FO P w base T.q_zaf 3 (bC K vV) := by
 have G_zae := @gG P w K mg base t T
 refine T.q_zaf.F.ok ya (aJ (λ B as Φ Ψ h => by obtain ⟨_, _, _, _, rfl, _⟩ := h; rfl)) (λ cdv A outer s H vs Q E hr h => ?_)
 obtain ⟨B, as, Φ, Ψ, rfl, hS, hx, go⟩ := aF h
 obtain ⟨⟨a, b⟩, ⟨c, d⟩, n, m, rfl, h1, h2, hn, φ⟩ := hS
 have p1 : 0 < b := h1.pos
 have p2 : 0 < d := h2.pos
 have ba : My.Bd n a := h1.ba
 have bb : My.Bd n b := h1.bb
 have bc : My.Bd m c := h2.ba
 have bd : My.Bd m d := h2.bb
 have ma : du a := ba.mono (by omega)
 have mb : du b := bb.mono (by omega)
 have mc : du c := bc.mono (by omega)
 have md : du d := bd.mono (by omega)
 unfold nT N2 at *
 refine ⟨_, (aN (ah (aY G_zae hr T.q_zae (ae (ac aO (ac az (aa aC (pv 0) ai (λ _ _ => rfl)) (aa aC (pv 1) ai (λ _ _ => rfl))) (ac az (aa aC (pv 1) ai (λ _ _ => rfl)) (aa aC (pv 0) ai (λ _ _ => rfl)))) (ae (ac az (aa aC (pv 0) ai (λ _ _ => rfl)) (aa aC (pv 1) ai (λ _ _ => rfl))) aA))))), go _ _ (cX (τ := [.fz _, .fz _]) rfl ?_)⟩
 kd_mark
 intro _ _
 refine rg (lC p1 p2) ((bb.mul bd).mono (by omega)) ?_
 sl_open
theorem lB {y : NP} (h1 : NB n x) (h2 : NB m y) (hn : n + m + 1 <= 3900) (q : Φ (.fz (nT (bz x y)))) : vV B [.fz (nT x), .fz (nT y)] Φ Ψ := ⟨x, y, n, m, rfl, h1, h2, hn, q⟩
noncomputable def dM (x : NP) : NP := (-x.1, x.2)
theorem eY (h : NB n x) : NB n (dM x) := ⟨h.pos, h.ba.neg, h.bb⟩
noncomputable def vO (lo hi : NP) (f g : Int) : NP := bz lo (fP ((bz hi (dM lo)).1 * f) ((bz hi (dM lo)).2 * g))
noncomputable def DC : SpT := λ _ as Φ _ => ∃ (lo hi : NP) (f g : Int) (n k : Nat), as = [.fz (nT lo), .fz (nT hi), .fz (.int f), .fz (.int g)] /\ NB n lo /\ NB n hi /\ 0 < g /\ My.Bd k f /\ My.Bd k g /\ 3 * n + k + 2 <= 3900 /\ Φ (.fz (nT (vO lo hi f g)))
theorem zE {lo hi : NP} {f g : Int} {k : Nat} (h1 : NB n lo) (h2 : NB n hi) (hg : 0 < g) (hf : My.Bd k f) (hgb : My.Bd k g) : NB (3 * n + k + 2) (vO lo hi f g) := by
 have s := eN h2 (eY h1)
 have l : NB (n + n + 1 + k) (fP ((bz hi (dM lo)).1 * f) ((bz hi (dM lo)).2 * g)) := kP (lC s.pos hg) (s.ba.mul hf) (s.bb.mul hgb)
 have := eN h1 l
 exact ⟨this.pos, this.ba.mono (by omega), this.bb.mono (by omega)⟩
theorem ua (T : cD K mg t) : FO P w base T.q_zbh 4 (bC K DC) := by
 have G_zae := @gG P w K mg base t T
 have G_zaf := @fo P w K mg base t T
 refine T.q_zbh.F.ok oq (aJ (λ B as Φ Ψ h => by obtain ⟨_, _, _, _, _, _, rfl, _⟩ := h; rfl)) (λ cdv A outer s H vs Q E hr h => ?_)
 obtain ⟨B, as, Φ, Ψ, rfl, hS, hx, go⟩ := aF h
 obtain ⟨lo, hi, f, g, n, k, rfl, h1, h2, hg, hf, hgb, hn, φ⟩ := hS
 have s := eN h2 (eY h1)
 have m1 : du (bz hi (dM lo)).1 := s.ba.mono (by omega)
 have m2 : du (bz hi (dM lo)).2 := s.bb.mono (by omega)
 have mf : du f := hf.mono (by omega)
 have mg2 : du g := hgb.mono (by omega)
 have l : NB (n + n + 1 + k) (fP ((bz hi (dM lo)).1 * f) ((bz hi (dM lo)).2 * g)) := kP (lC s.pos hg) (s.ba.mul hf) (s.bb.mul hgb)
 refine ⟨_, (aG (aj (i := 4) oq.nd rfl (Or.inl rfl) (aY G_zaf hr T.q_zaf (ae (pv 1) (ae (aI (ae (kq fU (aa aC (pv 0) ai (λ _ _ => rfl))) (ae (aa aC (pv 0) ai (λ _ _ => rfl)) aA))) aA))))
 (aN (ah (aY G_zaf hr T.q_zaf (ae (pv 0) (ae (aY G_zae hr T.q_zae (ae (ac az (aa aC (pv 4) ai (λ _ _ => rfl)) (pv 2)) (ae (ac az (aa aC (pv 4) ai (λ _ _ => rfl)) (pv 3)) aA))) aA)))))), go _ _ (cX (τ := [.fz _, .fz _, .fz _, .fz _, .no]) rfl ?_)⟩
 kd_mark
 intro _ _
 refine lB (y := dM lo) h2 (eY h1) (by omega) ?_
 kd_mark
 intro _ _
 refine rg (lC s.pos hg) ((s.bb.mul hgb).mono (by omega)) ?_
 kd_mark
 intro _ _
 refine lB (y := fP _ _) h1 l (by omega) ?_
 sl_open
noncomputable def mU : Str := "abcdefghijklmnopqrstuvwxyz"
noncomputable def qO (i : Int) : Str := ⟨#[mU.cps.toList.getD i.toNat 0]⟩
theorem Ja {i : Int} (h0 : 0 <= i) (h1 : i < 26) : fG ("abcdefghijklmnopqrstuvwxyz" : Str).cps.toList i = some (mU.cps.toList.getD i.toNat 0) := by
 have hl : mU.cps.toList.length = 26 := by decide
 have e : i = ((i.toNat : Nat) : Int) := by omega
 have hk : i.toNat < mU.cps.toList.length := by omega
 have h : mU.cps.toList[i.toNat]? = some (mU.cps.toList.getD i.toNat 0) := by
  rw [j5, dI hk]; rfl
 have := di h
 rw [<- e] at this
 exact this
theorem dW (i : Int) : (qO i).length = 1 := rfl
variable {τ : TSt}
theorem mx {Φ : TK} {i : Int} (h0 : 0 <= i) (h1 : i < 26) (q : Φ (.fz (.str (qO i))) τ) : RO B rIxS (.fz (.str "abcdefghijklmnopqrstuvwxyz")) (.fz (.int i)) τ Φ := Fm (by decide) (Ja h0 h1) q
theorem qL {Φ : TK} {u : Str} (h : z.length <= n) (g : u.length <= m) (hl : n + m <= 10000) (q : Φ (.fz (.str (z ++ u))) τ) : RO B rAddS (.fz (.str z)) (.fz (.str u)) τ Φ := DJ (lS (show z.length + u.length <= 10000 by omega) (by decide)) q
theorem vN {a b : Str} (h : a.length <= n) (g : b.length <= m) : (a ++ b).length <= n + m := by rw [Str.length_append]; omega
noncomputable def fJ (ds : List Int) (k : Int) : Str := qO ((7 * k + dg ds 3) % 676 / 26) ++ qO ((7 * k + dg ds 3) % 676 % 26)
noncomputable def gY (ds : List Int) (k : Int) : Str := if decide (0 < (k + dg ds 7) % 3) = true then fZ (qO (dg ds 8 % 26)) (dg ds 2) ++ fJ ds k ++ fZ (qO (dg ds 9 % 26)) (dg ds 6) else fJ ds k
noncomputable def cR (n : Nat) (ds : List Int) : List Str := (List.range n).map λ (i : Nat) => gY ds (0 + (i : Int))
noncomputable def tops26 : List Int := [4000, 2, 4, 1000000000, 1000000000, 90, 3, 1000000000, 60, 60, 900, 50, 1000, 1000, 900, 50, 1000, 1000, 900, 50, 1000, 1000, 900, 50, 1000, 1000]
noncomputable def AH : SpT := λ _ as Φ _ => ∃ (n : Int) (ds : List Int), as = [.fz (.int n), .fz (.lst (ds.map Tr.int))] /\ 0 <= n /\ n <= 100 /\ cE ds tops26 /\ Φ (.nw (.lst ((cR n.toNat ds).map Tr.str)))
theorem sK (T : cD K mg t) : FO P w base T.q_zbi 1 (bC K AH) := by
 refine T.q_zbi.F.ok cq (aJ (λ B as Φ Ψ h => by obtain ⟨_, _, rfl, _⟩ := h; rfl)) (λ cdv A outer s H vs Q E hr h => ?_)
 obtain ⟨B, as, Φ, Ψ, rfl, hS, hx, go⟩ := aF h
 obtain ⟨n, ds, rfl, n0, n1, tp, φ⟩ := hS
 have hl : ds.length = 26 := tp.l
 have b2 := tp.at (k := 2) (by decide) rfl
 have b6 := tp.at (k := 6) (by decide) rfl
 refine ⟨_, (aG (aj (i := 2) cq.nd rfl (Or.inl rfl) au)
 (aG (aj (i := 3) cq.nd rfl (Or.inl rfl) (aW aA))
 (aG (dN oS rfl (jH rfl T.z_range (ae (pv 0) aA)) (aM (i := 4) cq.nd rfl (Or.inl rfl)) (aG (aj (i := 5) cq.nd rfl (Or.inl rfl) (ac aX (ac aO (ac az ai (pv 4)) (aa bZ (pv 1) ai (λ _ _ => rfl))) ai))
 (aG (aj (i := 6) cq.nd rfl (Or.inl rfl) (ac oO (aa mQ (pv 2) (ac dj (pv 5) ai) (λ _ _ => rfl)) (aa mQ (pv 2) (ac aX (pv 5) ai) (λ _ _ => rfl))))
 (aG (aE (ak Eu (ac aX (ac aO (pv 4) (aa bZ (pv 1) ai (λ _ _ => rfl))) ai) ai (ao _)) (aN (aj (i := 6) cq.nd rfl (Or.inl rfl) (ac oO (ac oO (ac wt (aa mQ (pv 2) (ac aX (aa bZ (pv 1) ai (λ _ _ => rfl)) ai) (λ _ _ => rfl)) (aa bZ (pv 1) ai (λ _ _ => rfl))) (pv 6)) (ac wt (aa mQ (pv 2) (ac aX (aa bZ (pv 1) ai (λ _ _ => rfl)) ai) (λ _ _ => rfl)) (aa bZ (pv 1) ai (λ _ _ => rfl)))))) aq)
 (aN (bp (cH j4 ml mv aQ (pv 3) (ae (pv 6) aA))))))))
 (aN (ah (pv 3)))))), go _ _ (cX (τ := [.fz _, .fz _, .no, .no, .no, .no, .no]) rfl ?_)⟩
 kd_mark
 refine ⟨⟨by omega, by omega⟩, ?_⟩
 refine ⟨λ i τ => ∃ (u v x : Sl), τ = [.fz (.int n), .fz (.lst (ds.map Tr.int)), .fz (.str "abcdefghijklmnopqrstuvwxyz"), .own (.lst ((cR i ds).map Tr.str)), u, v, x], ⟨_, _, _, rfl⟩, ?_, ?_⟩
 ·rintro i tt τ hi ⟨u, v, x, rfl⟩
  obtain ⟨hin, rfl⟩ := jW hi
  kd_mark
  generalize hat : (7 * (0 + (i : Int)) + dg ds 3) % 676 = av
  have a0 : 0 <= av := by rw [<- hat]; exact m9 _ (by decide)
  have a1 : av < 676 := by rw [<- hat]; exact lG _ (by decide)
  refine mx (by omega) (by omega) ?_
  kd_mark
  refine mx (by omega) (by omega) ?_
  kd_mark
  refine qL (Nat.le_of_eq (dW _)) (Nat.le_of_eq (dW _)) (by decide) ?_
  have pe : qO (av / 26) ++ qO (av % 26) = fJ ds (0 + (i : Int)) := by unfold fJ; rw [hat]
  rw [pe]
  have pl : (fJ ds (0 + (i : Int))).length <= 2 := vN (Nat.le_of_eq (dW _)) (Nat.le_of_eq (dW _))
  kby_none
  refine JX (λ τ' => ∃ u : Sl, τ' = [.fz (.int n), .fz (.lst (ds.map Tr.int)), .fz (.str "abcdefghijklmnopqrstuvwxyz"), .own (.lst ((cR i ds).map Tr.str)), .fz (.int (0 + (i : Int))), u, .fz (.str (gY ds (0 + (i : Int))))]) ?_ ?_
  ·kd_mark
   refine aK (λ hc => ?_) (λ hc => ?_)
   ·kd_mark
    refine mx (m9 _ (by decide)) (lG _ (by decide)) ?_
    kd_mark
    refine wR (by omega) (by omega) (by rw [dW]; decide) ?_
    kd_mark
    have r1 : (fZ (qO (dg ds 8 % 26)) (dg ds 2)).length <= 10 := by rw [iW, dW]; omega
    have r2 : (fZ (qO (dg ds 9 % 26)) (dg ds 6)).length <= 10 := by rw [iW, dW]; omega
    refine qL r1 pl (by decide) ?_
    kd_mark
    refine mx (m9 _ (by decide)) (lG _ (by decide)) ?_
    kd_mark
    refine wR (by omega) (by omega) (by rw [dW]; decide) ?_
    kd_mark
    refine qL (vN r1 pl) r2 (by decide) ?_
    kd_mark
    refine ⟨.fz (.int av), ?_⟩
    unfold gY
    rw [nS hc, h9 rfl]
   ·kd_mark
    refine ⟨.fz (.int av), ?_⟩
    unfold gY
    rw [kv hc, gV ff]
  ·rintro τ' ⟨u', rfl⟩
   have wl : ((cR i ds).map Tr.str).length <= 10000 := by unfold cR; rw [b9, b9, List.length_range]; omega
   kd_mark
   refine ⟨.fz (.int (0 + (i : Int))), u', .fz (.str (gY ds (0 + (i : Int)))), ?_⟩
   unfold cR
   rw [List.range_succ, oD, oD]
   rfl
 ·rintro τ ⟨u, v, x, rfl⟩
  kd_mark
  rw [hW]
  exact yO (by kt_join) φ
noncomputable def KU (ds : List Int) : NP := (zF ds, xN ds)
noncomputable def HZ (ds : List Int) : NP := KU ((ds.drop 1).take 5)
theorem uc (tp : cE ds tops26) : cE ((ds.drop 1).take 5) tops5 /\ NB 60 (HZ ds) := by
 have h : cE ((ds.drop 1).take 5) tops5 := (tp.drop 1).take 5
 obtain ⟨a, b, c⟩ := Fo h
 exact ⟨h, a, b, c⟩
theorem zI (ha : 0 <= a) (ha' : a <= 1000000000) (hb : 0 < b) (hb' : b <= 1000000) : NB 31 (fP a b) := kP hb (by unfold My.Bd; omega) (by unfold My.Bd; omega)
theorem Dc {y : NP} (h : NB n x) (g : NB m y) (hy : 0 < y.1) : x.1 * (bz x y).2 < (bz x y).1 * x.2 := by
 have e := lY h g
 have p := eN h g
 refine (My.lt_qv h.pos p.pos).mp ?_
 show qp x < qp (bz x y)
 rw [e]
 have : 0 < qp y := by
  have h0 : qp (0, 1) < qp y := (My.lt_qv (by decide) g.pos).mpr (by show (0 : Int) * y.2 < y.1 * 1; omega)
  have z : qp (0, 1) = 0 := by show My.qv 0 1 = 0; rw [My.qv_int]; rfl
  rw [z] at h0
  exact h0
 grind
theorem rj (ha : 0 < a) (hb : 0 < b) : 0 < (fP a b).1 := by
 show 0 < fT a b
 have h1 := dq (t := a) hb
 have h2 := pE a b
 rcases Int.lt_trichotomy (fT a b) 0 with z | z | z
 ·have := Int.mul_neg_of_neg_of_pos z h1; omega
 ·rw [z, Int.zero_mul] at h2; omega
 ·exact z
noncomputable def kB (ds : List Int) : Int := 1 + dg ds 7 % uj (dg ds 6) 10 1000 1000000000
noncomputable def Ep (ds : List Int) : NP := bz (HZ ds) (fP (kB ds) (1 + dg ds 8))
noncomputable def uB (ds : List Int) : Int := 1 + dg ds 7 % uj (dg ds 6) 4 12 60
noncomputable def bG (ds : List Int) : NP := fP (kB ds) (1 + dg ds 8)
noncomputable def f5 (ds : List Int) : Int := dg [4, 4, 2, 3, 4] (dg ds 9 % 5)
noncomputable def Eb (ds : List Int) : NP := vO (dM (bG ds)) (0, 1) (f5 ds) 4
noncomputable def bK (k : Int) (ds : List Int) : Sc :=
 if k = 0 then .str (HZ ds).1 (HZ ds).2 (Ep ds).1 (Ep ds).2 (1 + dg ds 0)
 else if k < 4 then .str (Eb ds).1 (Eb ds).2 (bG ds).1 (bG ds).2 (1 + dg ds 0)
 else .ord (cR (uB ds).toNat ds) (1 + dg ds 0)
noncomputable def Ap : SpT := λ _ as Φ _ => ∃ (k : Int) (ds : List Int), as = [.fz (.int k), .fz (.lst (ds.map Tr.int))] /\ 0 <= k /\ k < 5 /\ cE ds tops26 /\ Φ (.fz (bK k ds).tr)
theorem sI {m : Int} (ha : 0 < a /\ a <= m) (hb : 0 < b /\ b <= m) (hc : 0 < c /\ c <= m) : 0 < uj k a b c /\ uj k a b c <= m := by unfold uj; split; exact ha; split; exact hb; exact hc
theorem oY (tp : cE ds tops26) : 0 < kB ds /\ kB ds <= 1000000000 := by
 have pb := sI (k := dg ds 6) (a := 10) (b := 1000) (c := 1000000000) (m := 1000000000) (by decide) (by decide) (by decide)
 have h0 := m9 (dg ds 7) (show uj (dg ds 6) 10 1000 1000000000 ≠ 0 by omega)
 have h1 := lG (dg ds 7) pb.1
 unfold kB
 omega
theorem qE (tp : cE ds tops26) : NB 31 (bG ds) := by
 have b8 := tp.at (k := 8) (by decide) rfl
 obtain ⟨h0, h1⟩ := oY tp
 exact zI (a := kB ds) (b := 1 + dg ds 8) (by omega) (by omega) (by omega) (by omega)
theorem JV (ds : List Int) : 0 <= dg ds 9 % 5 /\ dg ds 9 % 5 < 5 := ⟨m9 _ (by decide), lG _ (by decide)⟩
theorem Hz (ds : List Int) : 2 <= f5 ds /\ f5 ds <= 4 := by
 obtain ⟨h0, h1⟩ := JV ds
 unfold f5
 generalize dg ds 9 % 5 = k at *
 have hc : k = 0 ∨ k = 1 ∨ k = 2 ∨ k = 3 ∨ k = 4 := by omega
 rcases hc with rfl | rfl | rfl | rfl | rfl <;> exact ⟨by decide, by decide⟩
theorem FQ (tp : cE ds tops26) : NB 100 (Eb ds) /\ (Eb ds).1 * (bG ds).2 < (bG ds).1 * (Eb ds).2 := by
 have b8 := tp.at (k := 8) (by decide) rfl
 obtain ⟨h0, h1⟩ := oY tp
 have s := qE tp
 have ns := eY s
 have z : NB 31 ((0, 1) : NP) := ⟨by decide, by unfold My.Bd; decide, by unfold My.Bd; decide⟩
 obtain ⟨f0, f1⟩ := Hz ds
 have fb : My.Bd 3 (f5 ds) := by unfold My.Bd; omega
 have nb := zE (f := f5 ds) (g := 4) (k := 3) ns z (by decide) fb (by unfold My.Bd; decide)
 have nb : NB 98 (Eb ds) := nb
 refine ⟨⟨nb.pos, nb.ba.mono (by decide), nb.bb.mono (by decide)⟩, (My.lt_qv nb.pos s.pos).mp ?_⟩
 have dn := eN z (eY ns)
 have qd := lY z (eY ns)
 have e1 : dM (dM (bG ds)) = bG ds := by unfold dM; simp
 rw [e1] at qd dn
 have ql : qp (fP ((bz (0, 1) (bG ds)).1 * (f5 ds)) ((bz (0, 1) (bG ds)).2 * 4)) = qp (bz (0, 1) (bG ds)) * My.qv (f5 ds) 4 := by
  rw [Df (lC dn.pos (by decide)), My.qv_times (by have := dn.pos; omega) (by decide)]
  rfl
 have lb := kP (n := 100) (t := (bz (0, 1) (bG ds)).1 * (f5 ds)) (b := (bz (0, 1) (bG ds)).2 * 4) (lC dn.pos (by decide)) ((dn.ba.mul fb).mono (by decide)) ((dn.bb.mul (show My.Bd 3 4 by unfold My.Bd; decide)).mono (by decide))
 have qz : qp (Eb ds) = qp (dM (bG ds)) + qp (fP ((bz (0, 1) (bG ds)).1 * (f5 ds)) ((bz (0, 1) (bG ds)).2 * 4)) := by
  have := lY ns lb
  rw [<- this]
  unfold Eb vO
  rw [e1]
 have qn : qp (dM (bG ds)) = - qp (bG ds) := by
  unfold qp dM My.qv
  rw [Rat.intCast_neg]
  grind
 have q0 : qp ((0, 1) : NP) = 0 := by
  show My.qv 0 1 = 0
  rw [My.qv_int]
  rfl
 have sp : 0 < qp (bG ds) := by
  have := (My.lt_qv (a := 0) (b := 1) (c := (bG ds).1) (d := (bG ds).2) (by decide) s.pos).mpr (by have := rj (a := kB ds) (b := 1 + dg ds 8) h0 (by omega); rw [Int.zero_mul, pg]; exact this)
  rw [My.qv_int] at this
  exact this
 have r1 : My.qv (f5 ds) 4 <= 1 := by
  have := (My.le_qv (a := f5 ds) (b := 4) (c := 1) (d := 1) (by decide) (by decide)).mpr (by omega)
  rw [My.qv_int 1] at this
  exact this
 show qp (Eb ds) < qp (bG ds)
 rw [qz, ql, qd, qn, q0]
 generalize qp (bG ds) = S at *
 generalize My.qv (f5 ds) 4 = r at *
 have : r * S <= 1 * S := Rat.mul_le_mul_of_nonneg_right r1 (Rat.le_of_lt sp)
 grind
theorem sJ (T : cD K mg t) : FO P w base T.q_za2 5 (bC K Ap) := by
 have G_zbg := @pQ P w K mg base t T
 have G_zae := @gG P w K mg base t T
 have G_zaf := @fo P w K mg base t T
 have G_zbh := @ua P w K mg base t T
 have G_zbi := @sK P w K mg base t T
 refine T.q_za2.F.ok eZ (aJ (λ B as Φ Ψ h => by obtain ⟨_, _, rfl, _⟩ := h; rfl)) (λ cdv A outer s H vs Q E hr h => ?_)
 obtain ⟨B, as, Φ, Ψ, rfl, hS, hx, go⟩ := aF h
 obtain ⟨k, ds, rfl, k0, k1, tp, φ⟩ := hS
 have hl : ds.length = 26 := tp.l
 have b0 := tp.at (k := 0) (by decide) rfl
 have b1 := tp.at (k := 1) (by decide) rfl
 have b2 := tp.at (k := 2) (by decide) rfl
 have b3 := tp.at (k := 3) (by decide) rfl
 have b6 := tp.at (k := 6) (by decide) rfl
 have b7 := tp.at (k := 7) (by decide) rfl
 have b8 := tp.at (k := 8) (by decide) rfl
 obtain ⟨l1, l2⟩ := uc tp
 have nb := qE tp
 have pbs := sI (k := dg ds 6) (a := 10) (b := 1000) (c := 1000000000) (m := 1000000000) (by decide) (by decide) (by decide)
 refine ⟨_, (aG (aj (i := 2) eZ.nd rfl (Or.inl rfl) (ac aO ai (aa bZ (pv 1) ai (λ _ _ => rfl))))
 (aG (aj (i := 3) eZ.nd rfl (Or.inl rfl) (aY G_zae hr T.q_zae (ae (ac aO ai (ac aX (aa bZ (pv 1) ai (λ _ _ => rfl)) (aa bZ (aW (ae ai (ae ai (ae (ac dw ai ai) aA)))) (aa bZ (pv 1) ai (λ _ _ => rfl)) (λ _ _ => rfl)))) (ae (ac aO ai (aa bZ (pv 1) ai (λ _ _ => rfl))) aA))))
 (aG (aE (ak aT (pv 0) ai (ao _)) (aG (aj (i := 4) eZ.nd rfl (Or.inl rfl) (aY G_zbg hr T.q_zbg (ae (eU gD (pv 1) (cn ai) (cn ai)) aA)))
 (aN (ah (aI (ae au (ae (pv 4) (ae (aY G_zaf hr T.q_zaf (ae (pv 4) (ae (pv 3) aA))) (ae (pv 2) aA)))))))) aq)
 (aG (aE (ak jj (pv 0) ai (ao _)) (aN (ah (aI (ae au (ae (aY G_zbh hr T.q_zbh (ae (aI (ae (kq fU (aa aC (pv 3) ai (λ _ _ => rfl))) (ae (aa aC (pv 3) ai (λ _ _ => rfl)) aA))) (ae (aI (ae ai (ae ai aA))) (ae (aa bZ (aW (qI [4, 4, 2, 3, 4] rfl)) (ac aX (aa bZ (pv 1) ai (λ _ _ => rfl)) ai) (λ _ _ => rfl)) (ae ai aA))))) (ae (pv 3) (ae (pv 2) aA))))))) aq)
 (aN (ah (aI (ae au (ae (aY G_zbi hr T.q_zbi (ae (ac aO ai (ac aX (aa bZ (pv 1) ai (λ _ _ => rfl)) (aa bZ (aW (ae ai (ae ai (ae ai aA)))) (aa bZ (pv 1) ai (λ _ _ => rfl)) (λ _ _ => rfl)))) (ae (pv 1) aA))) (ae (pv 2) aA)))))))))), go _ _ (cX (τ := [.fz _, .fz _, .no, .no, .no]) rfl ?_)⟩
 unfold bK at φ
 kd_mark
 rw [p9]
 refine cb rfl Rk.fz (JQ b6.1 b6.2) ?_
 rw [vX]
 kd_mark
 intro _ _
 refine rg (by omega) (tE (by omega) (by omega)) ?_
 kd_mark
 refine aK (λ z => ?_) (λ z => ?_)
 ·rw [h9 z] at φ
  kd_mark
  intro _ _
  rw [show mO (ds.map Tr.int) (some 1) (some 6) = ((ds.drop 1).take 5).map Tr.int from gL ds 1 6]
  refine ⟨_, rfl, l1, ?_⟩
  kd_mark
  intro _ _
  refine lB (x := HZ ds) (y := bG ds) l2 nb (by decide) ?_
  sl_open
 rw [gV z] at φ
 kd_mark
 refine aK (λ z3 => ?_) (λ z3 => ?_)
 ·rw [h9 z3] at φ
  obtain ⟨f0, f1⟩ := Hz ds
  obtain ⟨m0, m1⟩ := JV ds
  kd_mark
  intro _ _
  refine ⟨dM (bG ds), (0, 1), f5 ds, 4, 31, 3, rfl, eY nb, ⟨by decide, by unfold My.Bd; decide, by unfold My.Bd; decide⟩, by decide, by unfold My.Bd; omega, by unfold My.Bd; decide, by decide, ?_⟩
  sl_open
 rw [gV z3] at φ
 kd_mark
 refine cb rfl Rk.fz (JQ b6.1 b6.2) ?_
 rw [vX]
 have pb := sI (k := dg ds 6) (a := 4) (b := 12) (c := 60) (m := 60) (by decide) (by decide) (by decide)
 have o0 := m9 (dg ds 7) (show uj (dg ds 6) 4 12 60 ≠ 0 by omega)
 have o1 := lG (dg ds 7) pb.1
 kd_mark
 intro _ _
 refine ⟨_, ds, rfl, by omega, by omega, tp, ?_⟩
 sl_open
theorem rM (h0 : 0 <= k) (h1 : k < 5) (tp : cE ds tops26) : eL (bK k ds) := by
 have b0 := tp.at (k := 0) (by decide) rfl
 have b1 := tp.at (k := 1) (by decide) rfl
 have b2 := tp.at (k := 2) (by decide) rfl
 have b3 := tp.at (k := 3) (by decide) rfl
 have b6 := tp.at (k := 6) (by decide) rfl
 have b7 := tp.at (k := 7) (by decide) rfl
 have b8 := tp.at (k := 8) (by decide) rfl
 obtain ⟨l1, l2⟩ := uc tp
 have nb := qE tp
 unfold bK
 split
 ·have hh := eN l2 nb
  exact ⟨⟨l2.pos, l2.ba.mono (by decide), l2.bb.mono (by decide)⟩, ⟨hh.pos, hh.ba.mono (by decide), hh.bb.mono (by decide)⟩, Dc l2 nb (rj (oY tp).1 (by omega)), by omega, by omega⟩
 split
 ·obtain ⟨zn, zl⟩ := FQ tp
  exact ⟨⟨zn.pos, zn.ba.mono (by decide), zn.bb.mono (by decide)⟩, ⟨nb.pos, nb.ba.mono (by decide), nb.bb.mono (by decide)⟩, zl, by omega, by omega⟩
 ·have pb := sI (k := dg ds 6) (a := 4) (b := 12) (c := 60) (m := 60) (by decide) (by decide) (by decide)
  have o0 := m9 (dg ds 7) (show uj (dg ds 6) 4 12 60 ≠ 0 by omega)
  have o1 := lG (dg ds 7) pb.1
  have hw : (cR (uB ds).toNat ds).length = (uB ds).toNat := by unfold cR; rw [b9, List.length_range]
  have ho : uB ds = 1 + dg ds 7 % uj (dg ds 6) 4 12 60 := rfl
  refine ⟨by rw [hw]; omega, by rw [hw]; omega, by omega, by omega⟩
noncomputable def bj : List Int := [1, 4, 1999999, 1999999] ++ tops26 ++ tops26
noncomputable def scL : Sc -> List Tr
 | .str a b c d len => [.str "straight", N2 a b, N2 c d, .int len]
 | .tur p low many len => [.str "turns", .int p, .int low, .int many, .int len]
 | .brk ps len => [.str "broken", .lst (ps.map Ml), .int len]
 | .day f l len => [.str "days", .int f, .int l, .int len]
 | .ord ws len => [.str "order", .lst (ws.map Tr.str), .int len]
noncomputable def Sc.len : Sc -> Int
 | .str _ _ _ _ len => len
 | .tur _ _ _ len => len
 | .brk _ len => len
 | .day _ _ len => len
 | .ord _ len => len
theorem qf (s : Sc) : s.tr = .tup (scL s) := by cases s <;> rfl
theorem rS (s : Sc) : fG (scL s) (-1) = some (.int s.len) := by cases s <;> rfl
noncomputable def ce (c : Int) : Fd :=
 ⟨bK 4 (((bh c bj).drop 4).take 26), bK (dg (bh c bj) 1) (((bh c bj).drop 30).take 26), dg (bh c bj) 2 - 999999, dg (bh c bj) 3 - 999999,
  (bK 4 (((bh c bj).drop 4).take 26)).len, (bK (dg (bh c bj) 1) (((bh c bj).drop 30).take 26)).len⟩
theorem tG : ∀ t ∈ bj, 0 < t /\ t <= 1000000000 := by decide
theorem fB (c : Int) : cE (bh c bj) bj /\ cE (((bh c bj).drop 4).take 26) tops26 /\ cE (((bh c bj).drop 30).take 26) tops26 := by
 have h := kG (c := c) tG
 exact ⟨h, (h.drop 4).take 26, (h.drop 30).take 26⟩
theorem Bz (c : Int) : vg (ce c) := by
 obtain ⟨h, h1, h2⟩ := fB c
 have b1 := h.at (k := 1) (by decide) rfl
 exact ⟨rM (k := 4) (by decide) (by decide) h1, rM b1.1 (by omega) h2⟩
noncomputable def BI : SpT := λ _ as Φ _ => ∃ c : Int, as = [.fz (.int c)] /\ Φ (.fz (ce c).tr)
theorem sh (T : cD K mg t) : FO P w base T.q_za4 6 (bC K BI) := by
 have G_zav := @kC P w K mg base t T
 have G_za2 := @sJ P w K mg base t T
 refine T.q_za4.F.ok dP (aJ (λ B as Φ Ψ h => by obtain ⟨_, rfl, _⟩ := h; rfl)) (λ cdv A outer s H vs Q E hr h => ?_)
 obtain ⟨B, as, Φ, Ψ, rfl, hS, hx, go⟩ := aF h
 obtain ⟨c, rfl, φ⟩ := hS
 obtain ⟨h, h1, h2⟩ := fB c
 have hl : (bh c bj).length = 56 := h.l
 have b1 := h.at (k := 1) (by decide) rfl
 refine ⟨_, (aG (aj (i := 1) dP.nd rfl (Or.inl rfl) (ac gF (aW (ae ai (ae ai (ae ai (ae (ac dw ai ai) (ae (ac dw ai ai) (ae ai (ae ai (ae (ac dw ai ai) (ae ai (ae ai aA))))))))))) (ac zj (aW (qI [900, 50, 1000, 1000] rfl)) ai)))
 (aG (aj (i := 2) dP.nd rfl (Or.inl rfl) (aY G_zav hr T.q_zav (ae (pv 0) (ae (ac gF (ac gF (aW (qI [1, 4, 1999999, 1999999] rfl)) (pv 1)) (pv 1)) aA))))
 (aG (aj (i := 3) dP.nd rfl (Or.inl rfl) (aY G_za2 hr T.q_za2 (ae ai (ae (eU gD (pv 2) (cn ai) (cn ai)) aA))))
 (aG (aj (i := 4) dP.nd rfl (Or.inl rfl) (aY G_za2 hr T.q_za2 (ae (aa bZ (pv 2) ai (λ _ _ => rfl)) (ae (eU gD (pv 2) (cn ai) (cn ai)) aA))))
 (aN (ah (aI (ae (pv 3) (ae (pv 4) (ae (ac cN (aa bZ (pv 2) ai (λ _ _ => rfl)) ai) (ae (ac cN (aa bZ (pv 2) ai (λ _ _ => rfl)) ai) (ae (aa aC (pv 3) (kq fU ai) (λ _ _ => rfl)) (ae (aa aC (pv 4) (kq fU ai) (λ _ _ => rfl)) aA))))))))))))), go _ _ (cX (τ := [.fz _, .no, .no, .no, .no]) rfl ?_)⟩
 kd_mark
 refine gO rfl Rk.fz Rk.fz (by decide) ?_
 change GA B _ (.nw (.lst (tops26.map Tr.int))) _ _
 kd_mark
 refine gO rfl Rk.fz (by dl_open) (by decide) ?_
 kd_mark
 refine gO rfl Rk.fz (by dl_open) (by decide) ?_
 kd_mark
 intro _ _
 change lK _ [.fz (.int c), .fz (.lst (bj.map Tr.int))] _ _
 refine ⟨c, bj, rfl, by decide, tG, ?_⟩
 kd_mark
 intro _ _
 rw [show mO ((bh c bj).map Tr.int) (some 4) (some 30) = (((bh c bj).drop 4).take 26).map Tr.int from gL _ 4 30]
 refine ⟨_, _, rfl, by decide, by decide, h1, ?_⟩
 kd_mark
 intro _ _
 rw [show mO ((bh c bj).map Tr.int) (some 30) (some 56) = (((bh c bj).drop 30).take 26).map Tr.int from gL _ 30 56]
 refine ⟨_, _, rfl, b1.1, by omega, h2, ?_⟩
 kd_mark
 first
 | (rw [qf (bK 4 _)]; refine uY rfl (by dl_open) (rS _) ?_; kd_mark)
 | skip
 rw [qf (bK (dg (bh c bj) 1) _)]
 refine uY rfl (by dl_open) (rS _) ?_
 kd_mark
 unfold ce Fd.tr at φ
 rw [qf, qf] at φ
 exact φ
noncomputable def jV : List Int := [14, 1000000000, 4, 1000000000, 60]
noncomputable def JZ (x : NP) : Ce := .num x.1 x.2
noncomputable def HL (e : List Int) : Int := 1 + dg e 1 % 4
noncomputable def Fj (s : Sc) (e : List Int) : Int := yB (dg e 2) (1 + dg e 3 % 12) (2 * s.len) (1 + dg e 3 % 1000) (4 + dg e 3 % 60)
noncomputable def sM (a b c d : Int) (e0 f g : Int) : NP := if e0 = 1 then (0, 1) else if e0 = 2 then fP (-f) g else if e0 = 3 then bz (a, b) (f, 1) else fP (vC c * f) (d * g)
noncomputable def eM (s : Sc) (e : List Int) : Ce :=
 if dg e 0 = 0 then .no else match s with
 | .ord ws _ => if dg e 0 = 1 then .wd (qO (dg e 1 % 26)) else .wd (ws.getD (dg e 1 % (ws.length : Int)).toNat "")
 | .str a b c d _ => JZ (sM a b c d (dg e 0) (HL e) (Fj s e))
 | _ => .no
theorem atS (h0 : 0 <= k) (h1 : k < (ws.length : Int)) : fG (ws.map Tr.str) k = some (.str (ws.getD k.toNat "")) := by
 have hk : k.toNat < ws.length := by omega
 have e : k = ((k.toNat : Nat) : Int) := by omega
 have h : (ws.map Tr.str)[k.toNat]? = some (.str (ws.getD k.toNat "")) := by
  rw [kT, dI hk, j5, dI hk]
  rfl
 have := di h
 rw [<- e] at this
 exact this
noncomputable def SO : Sc -> Prop
 | .str _ _ _ _ _ => True
 | .ord _ _ => True
 | _ => False
theorem EB {e : List Int} (tp : cE e jV) (hs : 1 <= s.len /\ s.len <= 4000) : 0 < Fj s e /\ Fj s e <= 8000 := by
 have b3 := tp.at (k := 3) (by decide) rfl
 unfold Fj yB
 split
 ·omega
 split
 ·omega
 split <;> omega
theorem Ex (e : List Int) : 1 <= HL e /\ HL e <= 4 := by
 have h1 := m9 (dg e 1) (show (4 : Int) ≠ 0 by decide)
 have h2 := lG (dg e 1) (show (0 : Int) < 4 by decide)
 unfold HL; omega
theorem Ez (hs : eL s) : 1 <= s.len /\ s.len <= 4000 := by
 cases s with
 | str a b c d len => exact ⟨hs.2.2.2.1, hs.2.2.2.2⟩
 | tur p low many len => exact ⟨hs.2.2.2.2.2.2.1, hs.2.2.2.2.2.2.2⟩
 | brk ps len => exact ⟨hs.2.2.2.1, hs.2.2.2.2⟩
 | day f l len => exact hs.elim
 | ord ws len => exact ⟨hs.2.2.1, hs.2.2.2⟩
noncomputable def Cy : SpT := λ _ as Φ _ => ∃ (s : Sc) (e : List Int), as = [.fz s.tr, .fz (.lst (e.map Tr.int))] /\ eL s /\ SO s /\ cE e jV /\ Φ (.fz (eM s e).tr)
theorem uE (T : cD K mg t) : FO P w base T.q_za3 4 (bC K Cy) := by
 have G_zae := @gG P w K mg base t T
 have G_zaf := @fo P w K mg base t T
 refine T.q_za3.F.ok ju (aJ (λ B as Φ Ψ h => by obtain ⟨_, _, rfl, _⟩ := h; rfl)) (λ cdv A outer s H vs Q E hr h => ?_)
 obtain ⟨B, as, Φ, Ψ, rfl, hS, hx, go⟩ := aF h
 obtain ⟨sc, e, rfl, hs, so, tp, φ⟩ := hS
 have el : e.length = 5 := tp.l
 have b0 := tp.at (k := 0) (by decide) rfl
 have b1 := tp.at (k := 1) (by decide) rfl
 have b2 := tp.at (k := 2) (by decide) rfl
 have b3 := tp.at (k := 3) (by decide) rfl
 have len4 := Ez hs
 have g0 := EB tp len4
 have f0 := Ex e
 refine ⟨_, (aG (aE (ak aT (aa bZ (pv 1) ai (λ _ _ => rfl)) ai (ao _)) (aN (ah bM)) aq)
 (aG (aE (ak aT (aa aC (pv 0) ai (λ _ _ => rfl)) au (ao _)) (aG (aE (ak aT (aa bZ (pv 1) ai (λ _ _ => rfl)) ai (ao _)) (aN (ah (aa mQ au (ac aX (aa bZ (pv 1) ai (λ _ _ => rfl)) ai) (λ _ _ => rfl)))) aq)
 (aN (ah (aa bZ (aa aC (pv 0) ai (λ _ _ => rfl)) (ac aX (aa bZ (pv 1) ai (λ _ _ => rfl)) (aV bR rfl T.z_len PySem.boot_len (ae (aa aC (pv 0) ai (λ _ _ => rfl)) aA))) (λ _ _ => rfl))))) aq)
 (aG (aj (i := 2) ju.nd rfl (Or.inl rfl) (ac aO ai (ac aX (aa bZ (pv 1) ai (λ _ _ => rfl)) ai)))
 (aG (aj (i := 3) ju.nd rfl (Or.inl rfl) (aa bZ (aW (ae (ac aO ai (ac aX (aa bZ (pv 1) ai (λ _ _ => rfl)) ai)) (ae (ac az ai (aa aC (pv 0) (kq fU ai) (λ _ _ => rfl))) (ae (ac aO ai (ac aX (aa bZ (pv 1) ai (λ _ _ => rfl)) ai)) (ae (ac aO ai (ac aX (aa bZ (pv 1) ai (λ _ _ => rfl)) ai)) aA))))) (aa bZ (pv 1) ai (λ _ _ => rfl)) (λ _ _ => rfl)))
 (aG (aE (ak aT (aa bZ (pv 1) ai (λ _ _ => rfl)) ai (ao _)) (aN (ah (aI (ae ai (ae ai aA))))) aq)
 (aG (aE (ak aT (aa bZ (pv 1) ai (λ _ _ => rfl)) ai (ao _)) (aN (ah (aY G_zae hr T.q_zae (ae (kq fU (pv 2)) (ae (pv 3) aA))))) aq)
 (aG (aE (ak aT (aa bZ (pv 1) ai (λ _ _ => rfl)) ai (ao _)) (aN (ah (aY G_zaf hr T.q_zaf (ae (aa aC (pv 0) ai (λ _ _ => rfl)) (ae (aI (ae (pv 2) (ae ai aA))) aA))))) aq)
 (aN (ah (aY G_zae hr T.q_zae (ae (ac az (aV dO rfl T.z_abs ij (ae (aa aC (aa aC (pv 0) ai (λ _ _ => rfl)) ai (λ _ _ => rfl)) aA)) (pv 2)) (ae (ac az (aa aC (aa aC (pv 0) ai (λ _ _ => rfl)) ai (λ _ _ => rfl)) (pv 3)) aA)))))))))))), go _ _ (cX (τ := [.fz _, .fz _, .no, .no]) rfl ?_)⟩
 unfold eM at φ
 kd_mark
 refine aK (λ z => ?_) (λ z => ?_)
 ·rw [h9 z] at φ
  sl_open
 rw [gV z] at φ
 cases sc with
 | tur p low many len => exact so.elim
 | brk ps len => exact so.elim
 | day f l len => exact so.elim
 | ord ws len =>
  obtain ⟨k1, k2, k4, k5⟩ := hs
  unfold Sc.tr at *
  kd_mark
  refine aK (λ _ => ?_) (λ y => absurd rfl y)
  kd_mark
  refine aK (λ z1 => ?_) (λ z1 => ?_)
  ·have φ : Φ (.fz (Ce.tr (if dg e 0 = 1 then .wd (qO (dg e 1 % 26)) else .wd (ws.getD (dg e 1 % (ws.length : Int)).toNat "")))) := φ
   rw [h9 z1] at φ
   kd_mark
   refine mx (m9 _ (by decide)) (lG _ (by decide)) ?_
   sl_open
  ·have φ : Φ (.fz (Ce.tr (if dg e 0 = 1 then .wd (qO (dg e 1 % 26)) else .wd (ws.getD (dg e 1 % (ws.length : Int)).toNat "")))) := φ
   rw [gV z1] at φ
   have hm2 : ((ws.map Tr.str).length : Int) = (ws.length : Int) := by rw [b9]
   have e0 := m9 (dg e 1) (show (ws.length : Int) ≠ 0 by omega)
   have e1 := lG (dg e 1) (show 0 < (ws.length : Int) by omega)
   kd_mark
   rw [hm2]
   kd_mark
   refine cb rfl Rk.fz (atS e0 e1) ?_
   sl_open
 | str a b c d len =>
  obtain ⟨k1, k2, k3, k4, k5⟩ := hs
  have n1 : NB 260 (a, b) := ⟨k1.pos, k1.ba, k1.bb⟩
  have φ : Φ (.fz (nT (sM a b c d (dg e 0) (HL e) (Fj (Sc.str a b c d len) e)))) := φ
  generalize hg : Fj (Sc.str a b c d len) e = g at *
  unfold Fj at hg
  unfold Sc.tr at *
  kd_mark
  refine aK (λ y => absurd y (by decide)) (λ _ => ?_)
  kd_mark
  refine cb rfl Rk.fz (Hk b2.1 b2.2) ?_
  rw [qG]
  rw [show yB (dg e 2) (1 + dg e 3 % 12) (2 * len) (1 + dg e 3 % 1000) (4 + dg e 3 % 60) = g from hg]
  change GA B _ (.fz (.int g)) _ _
  unfold sM at φ
  kd_mark
  refine aK (λ c1 => ?_) (λ c1 => ?_)
  ·rw [h9 c1] at φ
   sl_open
  rw [gV c1] at φ
  kd_mark
  refine aK (λ c2 => ?_) (λ c2 => ?_)
  ·rw [h9 c2] at φ
   kd_mark
   intro _ _
   refine rg g0.1 (tE (by omega) (by omega)) ?_
   sl_open
  rw [gV c2] at φ
  kd_mark
  refine aK (λ c3 => ?_) (λ c3 => ?_)
  ·rw [h9 c3] at φ
   kd_mark
   intro _ _
   refine lB (x := (a, b)) (y := (HL e, 1)) n1 (m := 10) ⟨by show (0 : Int) < 1; decide, by show My.Bd 10 (HL e); unfold My.Bd; omega, by show My.Bd 10 1; unfold My.Bd; decide⟩ (by decide) ?_
   sl_open
  rw [gV c3] at φ
  have dg1 : 0 < d * g := lC k2.pos g0.1
  have dgm : du (d * g) := (k2.bb.mul (show My.Bd 20 g by unfold My.Bd; omega)).mono (by decide)
  have mc : du (if c < 0 then -c else c) := by
   have h1 : du c := k2.ba.mono (by decide)
   split
   ·exact h1.neg
   ·exact h1
  have md : du d := k2.bb.mono (by decide)
  have mg : du g := tE (by omega) (by omega)
  kd_mark
  intro _ _
  refine rg dg1 dgm ?_
  sl_open
theorem zZ {t : Int} (hb : 0 < b) : Int.gcd (fT t b) (fM t b) = 1 := Int.gcd_ediv_gcd_ediv_gcd (Int.gcd_pos_of_ne_zero_right _ (by omega))
theorem mw {t : Int} (hb : 0 < b) : fT t b = (My.qv t b).num /\ fM t b = ((My.qv t b).den : Int) := uG (dR hb) (zZ hb) (uN hb)
theorem HF {t : Int} (hb : 0 < b) : nT (fP t b) = ci (My.qv t b) := by
 obtain ⟨e1, e2⟩ := mw (t := t) hb
 show N2 (fT t b) (fM t b) = N2 _ _
 rw [e1, e2]
theorem IS {t : Int} (hb : 0 < b) (h1 : My.Bd n t) (h2 : My.Bd n b) : QN n (My.qv t b) := by
 obtain ⟨e1, e2⟩ := mw (t := t) hb
 exact ⟨by rw [<- e1]; exact lL hb h1, by rw [<- e2]; exact fA hb h2⟩
noncomputable def rp (q : Rat) : NP := (q.num, (q.den : Int))
theorem den_pos (q : Rat) : (0 : Int) < (q.den : Int) := Int.natCast_pos.mpr q.den_pos
theorem DZ (x y : Rat) : nT (bz (rp x) (rp y)) = ci (x + y) := by
 have hx := den_pos x
 have hy := den_pos y
 have e : My.qv (x.num * (y.den : Int) + y.num * (x.den : Int)) ((x.den : Int) * (y.den : Int)) = x + y := by
  rw [My.qv_plus (by omega) (by omega), de, de]
 show nT (fP (x.num * (y.den : Int) + y.num * (x.den : Int)) ((x.den : Int) * (y.den : Int))) = _
 rw [HF (lC hx hy), e]
theorem Eo (h : QN n q) : NB n (rp q) := ⟨den_pos q, h.a, h.b⟩
noncomputable def xR (D : Int) (v : Rat) : Prop := ∃ n g : Int, 0 < g /\ My.Bd 13 g /\ My.Bd 257 n /\ v = My.qv n (D * g)
noncomputable def xK (D : Int) (k : Nat) (q : Rat) : Prop := ∃ n g : Int, 0 < g /\ My.Bd (13 * k + 1) g /\ My.Bd (14 * k + 260) n /\ q = My.qv n (D * g)
theorem tj (D : Int) : xK D 0 0 := ⟨0, 1, by decide, by unfold My.Bd; decide, by unfold My.Bd; decide, by unfold My.qv; rw [show ((0 : Int) : Rat) = 0 from rfl, Rat.div_def, Rat.zero_mul]⟩
theorem wE {D : Int} {k : Nat} {v : Rat} (hD : 0 < D) (bD : My.Bd 120 D) (h : xK D k q) (g : xR D v) : xK D (k + 1) (q + v) := by
 obtain ⟨N, G, g0, g1, g2, rfl⟩ := h
 obtain ⟨n, w, w0, w1, w2, rfl⟩ := g
 refine ⟨N * w + n * G, G * w, lC g0 w0, (g1.mul w1).mono (by omega), ?_, ?_⟩
 ·exact (((g2.mul w1).mono (n := 14 * k + 273) (by omega)).add ((w2.mul g1).mono (by omega))).mono (by omega)
 ·have a1 : D * G ≠ 0 := n8 (lC hD g0)
  have a2 : D * w ≠ 0 := n8 (lC hD w0)
  have a3 : D * (G * w) ≠ 0 := n8 (lC hD (lC g0 w0))
  rw [<- My.qv_plus a1 a2]
  refine My.qv_eq (Int.mul_ne_zero a1 a2) a3 ?_
  grind
theorem pZ {D : Int} {k : Nat} (hD : 0 < D) (bD : My.Bd 120 D) (hk : k <= 60) (h : xK D k q) : QN 1100 q := by
 obtain ⟨N, G, g0, g1, g2, rfl⟩ := h
 exact IS (lC hD g0) (g2.mono (by omega)) ((bD.mul g1).mono (by omega))
noncomputable def qP (a b c d len : Int) (q : Rat) : Pl := if pH q.num (q.den : Int) a b c d = true then .at ((q - My.qv a b) / (My.qv c d - My.qv a b) * (len : Rat)) else .tx "outside"
noncomputable def xE : SpT := λ _ as Φ _ => ∃ (a b c d len : Int) (q : Rat), as = [.fz (Sc.str a b c d len).tr, .fz (ci q)] /\ eL (.str a b c d len) /\ QN 1100 q /\ (PB (qP a b c d len q) -> Φ (.fz (GJ (qP a b c d len q))))
theorem oG (T : cD K mg t) : FO P w base T.q_zal 6 (bC K xE) := by
 refine (kE (P := P) (w := w) (base := base) T).imp λ vs H Q E h => ?_
 obtain ⟨B, as, Φ, Ψ, rfl, rfl, bk, la, ⟨a, b, c, d, len, q, rfl, ⟨k1, k2, k3, k4, k5⟩, hq, φ⟩, qq, _⟩ := h
 obtain ⟨v, w', rfl, iv, iw⟩ := AR la
 obtain ⟨pc, rfl, sp⟩ := mX iw
 have i := bk.i
 cases iv with
 | tup s0 l =>
  obtain ⟨v1, v2, v3, v4, rfl, h1, h2, h3, h4⟩ := Ds l
  cases h1
  obtain ⟨p1, rfl, s1⟩ := mX h2
  obtain ⟨p2, rfl, s2⟩ := mX h3
  cases h4
  refine .inr (.inl ⟨_, p1, p2, pc, a, b, c, d, q.num, q.den, len, 1100, 260, rfl, ⟨i.tup s0, k1.pr (i.tup s1), k2.pr (i.tup s2), by decide, k4, k5, k3⟩, ⟨i.tup sp, den_pos q, hq.a, hq.b⟩, by decide, λ hb => ?_, λ hb => ?_⟩)
  ·unfold qP at φ
   rw [gV (by rw [hb]; exact ff)] at φ
   exact qq (.str _) _ _ (.fz (.str _)) (KI bk rfl rfl (am.refl _)) .str (φ trivial)
  ·unfold qP at φ
   rw [h9 hb] at φ
   have e := de q
   rw [e]
   refine GD bk qq λ hn => φ ?_
   exact hn.qb (by decide)
noncomputable def Ce.yv : Ce -> Rat
 | .num e f => My.qv e f
 | _ => 0
noncomputable def Sc.dd : Sc -> Int
 | .str _ b _ d _ => b * d
 | _ => 1
structure wV (f : Fd) (i : Itm) : Prop where
 k : sR f i
 y : i.y = .no ∨ ∃ v : Rat, i.y = .num v.num (v.den : Int) /\ xR f.sy.dd v
structure HW (f : Fd) : Prop where
 k : vg f
 x : ∃ ws, f.sx = .ord ws f.w
 y : ∃ a b c d len, f.sy = .str a b c d len /\ My.Bd 60 b /\ My.Bd 60 d
noncomputable def bH (i : Itm) (ch z : Str) : Tr := .tup [.int i.own, .str ch, .str z]
noncomputable def wZ (f : Fd) (i : Itm) : Option Tr := match dD f i ["x"] with
 | some t => some t
 | none => match i.y with
  | .num e _ => if e < 0 then some (bH i "y" "below") else none
  | _ => some (bH i "y" "nothing")
theorem tI : ∀ {chs : List Str} {t : Tr}, dD f i chs = some t -> ∃ a b c, t = .tup [a, b, c]
 | [], _, h => by cases h
 | ch :: r, t, h => by
  unfold dD at h
  split at h
  ·cases h; exact ⟨_, _, _, rfl⟩
  ·exact tI h
noncomputable def Ao : SpT := λ _ as Φ _ => ∃ (f : Fd) (i : Itm), as = [.fz f.tr, .fz i.tr] /\ vg f /\ wV f i /\ Φ (.fz (gU (wZ f i)))
theorem lX (T : cD K mg t) : FO P w base T.q_zbf 9 (bC K Ao) := by
 have G_zbd := @qU P w K mg base t T
 refine T.q_zbf.F.ok gZ (aJ (λ B as Φ Ψ h => by obtain ⟨_, _, rfl, _⟩ := h; rfl)) (λ cdv A outer s H vs Q E hr h => ?_)
 obtain ⟨B, as, Φ, Ψ, rfl, hS, hx, go⟩ := aF h
 obtain ⟨f, i, rfl, hf, hi, φ⟩ := hS
 refine ⟨_, (aG (aj (i := 2) gZ.nd rfl (Or.inl rfl) (aY G_zbd hr T.q_zbd (ae (pv 0) (ae (pv 1) (ae (aI (ae au aA)) aA)))))
 (aG (aE (ak mL (pv 2) bM (ao _)) (aN (ah (pv 2))) aq)
 (aG (aE (ak cG (aa aC (pv 1) ai (λ _ _ => rfl)) bM (ao _)) (aN (ah (aI (ae (aa aC (pv 1) ai (λ _ _ => rfl)) (ae au (ae au aA)))))) aq)
 (aN (ah (fY (ak jj (aa aC (aa aC (pv 1) ai (λ _ _ => rfl)) ai (λ _ _ => rfl)) ai (ao _)) (aI (ae (aa aC (pv 1) ai (λ _ _ => rfl)) (ae au (ae au aA)))) bM)))))), go _ _ (cX (τ := [.fz _, .fz _, .no]) rfl ?_)⟩
 kd_mark
 intro _ _
 refine ⟨f, i, ["x"], rfl, hf, hi.k, λ ch hc => by cases o5.mp hc; exact .inl rfl, ?_⟩
 unfold wZ at φ
 cases e : dD f i ["x"] with
 | some t0 =>
  obtain ⟨a, b, c, rfl⟩ := tI e
  rw [e] at φ
  dsimp only [gU]
  sl_open
 | none =>
  rw [e] at φ
  dsimp only [gU]
  unfold Itm.tr at *
  rcases hi.y with y | ⟨v, y, _⟩
  ·rw [y] at φ ⊢
   sl_open
  ·rw [y] at φ ⊢
   kd_mark
   refine aK (λ hc => ?_) (λ hc => ?_)
   ·have φ : Φ (.fz (gU (if v.num < 0 then some (bH i "y" "below") else none))) := φ
    rw [h9 hc] at φ
    sl_open
   ·have φ : Φ (.fz (gU (if v.num < 0 then some (bH i "y" "below") else none))) := φ
    rw [gV hc] at φ
    sl_open
noncomputable def aB : Ce -> Str
 | .wd z => z
 | _ => ""
noncomputable def fN (ws : List Str) (is : List Itm) : List (List Itm) := (ws.map λ z => is.filter λ i => decide (aB i.x = z)).filter λ g => !g.isEmpty
theorem qm {α β : Type} {f : α -> β} : ∀ {xs : List α} {os : List β}, os.length = xs.length -> (∀ (i : Nat) (o : β), os[i]? = some o -> ∃ x, xs[i]? = some x /\ o = f x) -> os = xs.map f
 | [], [], _, _ => rfl
 | x :: xs, o :: os, hl, h => by
  obtain ⟨y, e, rfl⟩ := h 0 o rfl
  cases e
  rw [j8, qm (xs := xs) (os := os) (by simpa using hl) λ i o' ho => h (i + 1) o' ho]
theorem iF {f : α -> Option β} {xs : List α} {os : List (Option β)} (hl : os.length = xs.length) (h : ∀ (i : Nat) (o : Option β), os[i]? = some o -> ∃ x, xs[i]? = some x /\ o = f x) : os.filterMap id = xs.filterMap f := by
 rw [qm hl h, List.filterMap_map]; rfl
theorem jq {p : α -> Bool} {g : α -> Tr} (xs : List α) : (xs.filterMap λ x => if p x = true then some (g x) else none) = (xs.filter p).map g := by
 induction xs with
 | nil => rfl
 | cons x r ih =>
  cases h : p x with
  | true => rw [o8, o4, h9 h, h9 h, j8, ih]
  | false => rw [o8, o4, gV (by rw [h]; exact ff), gV (by rw [h]; exact ff), ih]
noncomputable def grpT (g : List Itm) : Tr := .lst (g.map Itm.tr)
noncomputable def tU : Scope := match bx cC with
 | .Assign _ (.ListComp _ _ sc _) _ :: _ => sc
 | _ => af cC
noncomputable def yb : SpT := λ _ as Φ _ => ∃ (f : Fd) (ws : List Str) (is : List Itm), as = [.fz f.tr, .fz (.lst (is.map Itm.tr))] /\ f.sx = .ord ws f.w /\ ws.length <= 60 /\ is.length <= 60 /\ (∀ i ∈ is, ∃ z, i.x = .wd z) /\ Φ (.nw (.lst ((fN ws is).map grpT)))
theorem rq (T : cD K mg t) : FO P w base T.q_zbe 1 (bC K yb) := by
 refine T.q_zbe.F.ok lm (aJ (λ B as Φ Ψ h => by obtain ⟨_, _, _, rfl, _⟩ := h; rfl)) (λ cdv A outer s H vs Q E hr h => ?_)
 obtain ⟨B, as, Φ, Ψ, rfl, hS, hx, go⟩ := aF h
 obtain ⟨f, ws, is, rfl, ef, hw, hl, hi, φ⟩ := hS
 refine ⟨_, (aG (xA (iy := 2) lm.nd rfl (Or.inl rfl) rfl (uL (fr := [("items", 1)]) (osc := af cC) (N := ["field", "items", "groups"]) rfl rfl (by decide +kernel)) (cc (aa aC (aa aC (pv 0) ai (λ _ _ => rfl)) ai (λ _ _ => rfl))) (λ _ _ _ _ _ => (wy (tg := "item") (fr := [("word", 0)]) rfl (ik (osc := rL tU (af cC)) (N := ["word", "items"]) (ud rfl) rfl (by decide +kernel)) (show PI _ _ _ (wD B.K _) from (cc (pv 1))) (λ _ _ _ _ _ => (ak aT (aa (r := kb B.K) aC (pv 0) ai (λ _ _ => rfl)) (pv 1) (ao _))) (λ _ _ _ _ _ => (pv 0)))))
 (aN (ah (wy (tg := "group") (fr := []) rfl (ik (osc := af cC) (N := ["field", "items", "groups"]) (rfl) rfl (by decide +kernel)) (cc (pv 2)) (λ _ _ _ _ _ => (Gi (K := B.K) (pv 0) (λ _ => rfl))) (λ _ _ _ _ _ => (pv 0)))))), go _ _ (cX (τ := [.fz _, .fz _, .no]) rfl ?_)⟩
 have ft : f.tr = .tup [(Sc.ord ws f.w).tr, f.sy.tr, .int f.x0, .int f.y0, .int f.w, .int f.h] := by unfold Fd.tr; rw [ef]
 rw [ft, show (Sc.ord ws f.w).tr = .tup [.str "order", .lst (ws.map Tr.str), .int f.w] from rfl]
 kd_mark
 refine JB (fX rfl ?_)
 kd_mark
 refine ⟨[.fz (.lst (is.map Itm.tr))], by repeat (first | exact .nil | refine .fz (by kt_join) ?_), by rw [b9]; omega, λ j o => ∃ z, ws[j]? = some z /\ o = grpT (is.filter λ i => decide (aB i.x = z)), λ j tt ht => ?_, λ os hl2 ho => ?_⟩
 ·obtain ⟨z, hz, rfl⟩ := aS ht
  refine uS (fX rfl ?_)
  kd_mark
  refine ⟨[.fz (.str z)], by repeat (first | exact .nil | refine .fz (by kt_join) ?_), by rw [b9]; omega, λ k o => ∃ i, is[k]? = some i /\ o = if decide (aB i.x = z) = true then some i.tr else none, λ k tt ht => ?_, λ os hl3 ho => ?_⟩
  ·obtain ⟨i, hi2, rfl⟩ := aS ht
   obtain ⟨u, hu⟩ := hi i (i8 hi2)
   refine ?_
   have it : i.tr = .tup [.int i.own, .str u, i.y.tr, i.o.tr, .int i.rank, .int i.col, .int i.siz] := by unfold Itm.tr; rw [hu]; rfl
   have wu : aB i.x = u := by rw [hu]; rfl
   have fin : ∀ b, b = decide (u = z) -> ∃ i', is[k]? = some i' /\ (if b = true then some i.tr else none) = if decide (aB i'.x = z) = true then some i'.tr else none := λ b hb => ⟨i, hi2, by rw [wu, hb]⟩
   rw [it] at fin ⊢
   kd_mark
   cases hb : decide (u = z) with
   | true =>
    refine fV ?_
    kd_mark
    exact fin true hb.symm
   | false =>
    refine eD ?_
    exact fin false hb.symm
  ·rw [iF (f := λ i : Itm => if decide (aB i.x = z) = true then some i.tr else none) (by rw [hl3, b9]) ho, jq]
   kd_mark
   exact ⟨z, hz, rfl⟩
 rw [qm (f := λ z => grpT (is.filter λ i => decide (aB i.x = z))) (by rw [hl2, b9]) ho]
 kd_mark
 refine uS (fX rfl ?_)
 kd_mark
 refine ⟨[], .nil, by rw [b9]; omega, λ j o => ∃ z, ws[j]? = some z /\ o = (λ z : Str => if (!(is.filter λ i => decide (aB i.x = z)).isEmpty) = true then some (grpT (is.filter λ i => decide (aB i.x = z))) else none) z, λ j tt ht => ?_, λ os hl2 ho => ?_⟩
 ·obtain ⟨z, hz, rfl⟩ := aS ht
  generalize hg : is.filter (λ i => decide (aB i.x = z)) = g
  have fin : ∃ z, ws[j]? = some z /\ (if (!g.isEmpty) = true then some (grpT g) else none) = (λ z : Str => if (!(is.filter λ i => decide (aB i.x = z)).isEmpty) = true then some (grpT (is.filter λ i => decide (aB i.x = z))) else none) z := ⟨z, hz, by rw [<- hg]⟩
  have ge : (g.map Itm.tr).isEmpty = g.isEmpty := by cases g <;> rfl
  unfold grpT at fin ⊢
  refine Gp rfl ?_
  kd_mark
  refine ⟨_, Rk.fz, ?_⟩
  rw [ge]
  cases hb : !g.isEmpty with
  | true =>
   rw [hb] at fin
   refine fV ?_
   kd_mark
   exact fin
  | false =>
   rw [hb] at fin
   refine eD ?_
   exact fin
 ·have e1 : (ws.filterMap λ z : Str => if (!(is.filter λ i => decide (aB i.x = z)).isEmpty) = true then some (grpT (is.filter λ i => decide (aB i.x = z))) else none) = (fN ws is).map grpT := by
   unfold fN
   rw [<- jq, List.filterMap_map]
   rfl
  rw [iF (by rw [hl2, b9]) ho, e1]
  exact Jd φ
noncomputable def dZ (f : Fd) : Int := f.y0 + f.h - dv (mF f.sy)
noncomputable def LO : Sc -> Rat -> Pl
 | .str a b c d len, q => qP a b c d len q
 | _, _ => .tx ""
noncomputable def xc (side : Str) (e0 e1 b0 b1 : Int) (i : Itm) : Tr := .tup [.tup [.str "part", .str side, .int e0, .int e1, .int b0, .int b1, .int i.col], .lst [.int i.own]]
structure HSt where
 (tot : Rat) (beg : Int) (ms ls : List Tr)
noncomputable def ca (f : Fd) (side : Str) (e0 e1 : Int) (s : HSt) (i : Itm) : HSt := match LO f.sy (s.tot + i.y.yv) with
 | .tx z => ⟨s.tot, s.beg, s.ms, s.ls ++ [bH i "y" z]⟩
 | .at q => ⟨s.tot + i.y.yv, f.y0 + f.h - dv q, s.ms ++ [xc side e0 e1 s.beg (f.y0 + f.h - dv q) i], s.ls⟩
noncomputable def fH (f : Fd) (side : Str) (e0 e1 : Int) (is : List Itm) : HSt := is.foldl (ca f side e0 e1) ⟨0, dZ f, [], []⟩
noncomputable def fF (i : Itm) : Int × Int := (i.rank, i.own)
variable {κ : Type}
theorem rE {r : κ -> κ -> Bool} {g : α -> β} {kz : List κ} {xs : List α} {us : List β} (h : bY r kz (xs.map g) us) : ∃ ys, us = ys.map g /\ bY r kz xs ys := by
 obtain ⟨ps, hp, rfl, hs⟩ := h
 have z : ∀ (xs : List α) (kz : List κ), Paired (λ (p : κ × α) (q : κ × β) => p.1 = q.1 /\ q.2 = g p.2) (kz.zip xs) (kz.zip (xs.map g)) := by
  intro xs
  induction xs with
  | nil => intro kz; cases kz <;> exact .nil
  | cons x r ih =>
   intro kz
   cases kz with
   | nil => exact .nil
   | cons k kz => exact .cons ⟨rfl, rfl⟩ (ih kz)
 obtain ⟨qs, a, c⟩ := oU hp (z xs kz)
 have sn : ∀ {ps : List (κ × α)} {qs : List (κ × β)}, Paired (λ (p : κ × α) (q : κ × β) => p.1 = q.1 /\ q.2 = g p.2) ps qs -> qs.map Prod.snd = (ps.map Prod.snd).map g /\ ps.map Prod.fst = qs.map Prod.fst := λ {ps qs} c => by
  induction c with
  | nil => exact ⟨rfl, rfl⟩
  | cons h _ ih => exact ⟨by rw [j8, j8, j8, h.2, ih.1], by rw [j8, j8, h.1, ih.2]⟩
 obtain ⟨d, e⟩ := sn c
 exact ⟨_, d, qs, a, rfl, by rw [e]; exact hs⟩
theorem dQ {r : κ -> κ -> Bool} {kz : List κ} {xs ys : List α} (h : bY r kz xs ys) : ys.length <= xs.length /\ ∀ y ∈ ys, y ∈ xs := by
 obtain ⟨ps, hp, rfl, _⟩ := h
 refine ⟨by rw [b9, hp.length_eq, List.length_zip]; omega, λ y hy => ?_⟩
 obtain ⟨p, hp2, rfl⟩ := List.mem_map.mp hy
 exact (List.of_mem_zip (hp.mem_iff.mp hp2)).2
variable {ts : List Tr}
theorem rR {K : Fg} {x : V} {i : Int} (ix : Is K H x (.tup ts)) (ha : fG ts i = some (.int a)) (hb : fG ts j = some (.int b)) : xq (bq (AA (kb K) (fE 0) (tC (.int i))) (bq (AA (kb K) (fE 0) (tC (.int j))) tNil)) [some x] H λ u H3 => ∃ p, u = .ref p /\ am H H3 /\ H3 p = some (.tup [.int a, .int b]) := by
 cases ix with
 | @tup p vs _ s l =>
  obtain ⟨v, ev, iv⟩ := qB l ha
  obtain ⟨w, ew, iw⟩ := qB l hb
  cases iv
  cases iw
  exact ⟨.ref p, rfl, p, vs, i, .int a, rfl, rfl, s, ev, .ref p, rfl, p, vs, j, .int b, rfl, rfl, s, ew, by show (2 : Nat) <= _; decide, λ q hq => ⟨q, rfl, am.new hq _, ar⟩⟩
noncomputable def gM : Pos := match (bx gK) with
 | [_, _, _, _, _, .For _ (.Call _ _ [⟨_, .Lambda _ _ _ p, _⟩] _) _ _ _, _] => p
 | _ => ⟨0, 0, 0, 0⟩
noncomputable def eQ : Str := ("heap_of" : Str) ++ ".<locals>." ++ "<lambda>"
structure HQ (f : Fd) (z : Str) (i : Itm) : Prop where
 k : sR f i
 x : i.x = .wd z
 y : ∃ v : Rat, i.y = .num v.num (v.den : Int) /\ xR f.sy.dd v
noncomputable def CC (Pt : Addr) : SpT := λ B as Φ _ => ∃ (f : Fd) (ws : List Str) (side : Str) (z : Str) (j : Nat) (is : List Itm), as = [.fz f.tr, .fz (.str side), .fz (.lst (is.map Itm.tr))] /\ cw Pt gM eQ B /\ HW f /\ f.sx = .ord ws f.w /\ ia ws z = some j /\ is ≠ [] /\ is.length <= 60 /\ (∀ i ∈ is, HQ f z i) /\ (is.map fF).Nodup /\
 ∀ ys, bY lt2 (is.map fF) is ys -> Φ (.fz (.tup [.lst (fH f side (f.x0 + dv (fK ws f.w j)) (f.x0 + dv (fQ ws f.w j)) ys).ms, .lst (fH f side (f.x0 + dv (fK ws f.w j)) (f.x0 + dv (fQ ws f.w j)) ys).ls]))
theorem rh (T : cD K mg t) (hB : L2.BMods mg base) : cr P w K mg base nD 8 t.f_za0 t.d_za0 ["field", "side", "items"] (bC K (CC t.tab0)) := by
 have G_zbb := @pd P w K mg base t T
 have G_zaa := @eW P w K mg base t T
 have G_zbc := @sL P w K mg base t T
 have G_zaz := @yA P w K mg base t T
 have G_zal := @oG P w K mg base t T
 have G_zac := @su P w K mg base t T
 obtain ⟨ds1, DV_number, BD_number⟩ := T.b_number1
 obtain ⟨c, ec, hC⟩ := L2.codeHdT_of T.tb0
 refine T.q_za0.F.okC bv (aJ (λ B as Φ Ψ h => by obtain ⟨_, _, _, _, _, _, rfl, _⟩ := h; rfl)) (λ A outer s H vs Q E hr h => ?_)
 obtain ⟨B, as, Φ, Ψ, rfl, hS, hx, go⟩ := aF h
 obtain ⟨f, ws, side, z, j, is, rfl, hT, hf, ef, ej, hne, hl, hi, hnd, φ⟩ := hS
 obtain ⟨a, b, c', d, len, ey, bb, bd⟩ := hf.y
 have oky := hf.k.y
 have okx := hf.k.x
 rw [ey] at oky
 rw [ef] at okx
 obtain ⟨i0, r0, e0⟩ : ∃ i0 r0, is = i0 :: r0 := by cases is with | nil => exact absurd rfl hne | cons x r => exact ⟨x, r, rfl⟩
 have h0 := hi i0 (by rw [e0]; exact i9)
 have hD : f.sy.dd = b * d := by rw [ey]; rfl
 have D0 : 0 < b * d := lC oky.1.pos oky.2.1.pos
 have DB : My.Bd 120 (b * d) := bb.mul bd
 refine ⟨_, (aG (aj (i := 3) bv.nd rfl (Or.inl rfl) (aY G_zbb hr T.q_zbb (ae (pv 0) (ae (aa aC (aa bZ (pv 2) ai (λ _ _ => rfl)) ai (λ _ _ => rfl)) aA))))
 (aG (aj (i := 4) bv.nd rfl (Or.inl rfl) (aZ G_zaa (hr.mono (by decide)) rfl T.m_zaa T.k_number BD_number DV_number bP (ae ai aA)))
 (aG (aj (i := 5) bv.nd rfl (Or.inl rfl) (aY G_zaz hr T.q_zaz (ae (pv 0) (ae (aY G_zbc hr T.q_zbc (ae (aa aC (pv 0) ai (λ _ _ => rfl)) aA)) aA))))
 (aG (aj (i := 6) bv.nd rfl (Or.inl rfl) (aW aA))
 (aG (aj (i := 7) bv.nd rfl (Or.inl rfl) (aW aA))
 (aG (dN oS rfl (cc (tO hr rfl T.z_sorted (pv 2) ⟨rfl, rfl, rfl, by decide +kernel, rfl⟩ ec hC hB rfl (vS rfl) (Ai rfl) (λ _ _ _ _ _ _ _ => rfl) (λ _ _ _ _ _ _ _ => (aI (ae (aa (r := kb B.K) aC (pv 0) ai (λ _ _ => rfl)) (ae (aa (r := kb B.K) aC (pv 0) ai (λ _ _ => rfl)) aA)))))) (aM (i := 8) bv.nd rfl (Or.inl rfl)) (aG (aj (i := 9) bv.nd rfl (Or.inl rfl) (aY G_zal hr T.q_zal (ae (aa aC (pv 0) ai (λ _ _ => rfl)) (ae (aY G_zac hr T.q_zac (ae (pv 4) (ae (aa aC (pv 8) ai (λ _ _ => rfl)) aA))) aA))))
 (aN (aE (eE (cS iR rfl rfl T.z_isinstance T.z_str mm (pv 9))) (aN (bp (cH j4 ml mv aQ (pv 7) (ae (aI (ae (aa aC (pv 8) ai (λ _ _ => rfl)) (ae au (ae (pv 9) aA)))) aA)))) (aG (aj (i := 10) bv.nd rfl (Or.inl rfl) (aY G_zaz hr T.q_zaz (ae (pv 0) (ae (pv 9) aA))))
 (aG (bp (cH j4 ml mv aQ (pv 6) (ae (aI (ae (aI (ae au (ae (pv 1) (ae (aa aC (pv 3) ai (λ _ _ => rfl)) (ae (aa aC (pv 3) ai (λ _ _ => rfl)) (ae (pv 5) (ae (pv 10) (ae (aa aC (pv 8) ai (λ _ _ => rfl)) aA)))))))) (ae (aW (ae (aa aC (pv 8) ai (λ _ _ => rfl)) aA)) aA))) aA)))
 (aG (aj (i := 4) bv.nd rfl (Or.inl rfl) (aY G_zac hr T.q_zac (ae (pv 4) (ae (aa aC (pv 8) ai (λ _ _ => rfl)) aA))))
 (aN (aj (i := 5) bv.nd rfl (Or.inl rfl) (pv 10))))))))))
 (aN (ah (aI (ae (pv 6) (ae (pv 7) aA))))))))))), go _ _ (cX (τ := [.fz _, .fz _, .fz _, .no, .no, .no, .no, .no, .no, .no, .no]) rfl ?_)⟩
 have ft : f.tr = .tup [(Sc.ord ws f.w).tr, (Sc.str a b c' d len).tr, .int f.x0, .int f.y0, .int f.w, .int f.h] := by unfold Fd.tr; rw [ef, ey]
 kd_mark
 refine cb rfl Rk.fz (show fG (is.map Itm.tr) 0 = some i0.tr from by rw [e0]; exact di (j := 0) rfl) ?_
 have it0 : i0.tr = .tup [.int i0.own, .str z, i0.y.tr, i0.o.tr, .int i0.rank, .int i0.col, .int i0.siz] := by unfold Itm.tr; rw [h0.x]; rfl
 rw [it0]
 kd_mark
 intro _ _
 refine ⟨f, ws, f.w, z, j, rfl, ef, okx, ej, ?_⟩
 generalize hA : f.x0 + dv (fK ws f.w j) = eA at *
 generalize hE : f.x0 + dv (fQ ws f.w j) = eB at *
 kd_mark
 intro _ _
 refine nH (n := 40) (by unfold My.Bd; decide) (by unfold My.Bd; decide) (by decide) (by decide) λ _ => ?_
 rw [Ch]
 kd_mark
 intro _ _
 refine ⟨f.sy, rfl, hf.k.y, by rw [ey]; trivial, λ hq => ?_⟩
 kd_mark
 intro _ _
 refine ⟨f, mF f.sy, rfl, hq, ?_⟩
 change GA _ _ (.fz (.int (dZ f))) _ _
 kd_mark
 refine vY rfl hT ?_
 kd_mark
 refine ⟨_, is.map fF, rfl, by rw [b9]; omega, by rw [b9, b9], hnd, λ H2 n x tt k ht hk ix => ?_, λ us hu => ?_⟩
 ·obtain ⟨i, ei, rfl⟩ := aS ht
  rw [kT, ei] at hk
  cases hk
  exact rR (ts := [.int i.own, i.x.tr, i.y.tr, i.o.tr, .int i.rank, .int i.col, .int i.siz]) ix (di (j := 4) rfl) (di (j := 0) rfl)
 obtain ⟨ys, rfl, hy⟩ := rE hu
 have φ := φ ys hy
 obtain ⟨yl, ym⟩ := dQ hy
 have tk : ∀ n (y : Itm), ys[n]? = some y -> ys.take (n + 1) = ys.take n ++ [y] := λ n y e => by rw [List.take_succ, e]; rfl
 kd_mark
 refine ⟨λ n τ => ∃ (st : HSt) (u1 u2 u3 : Sl), τ = [.fz f.tr, .fz (.str side), .fz (.lst (is.map Itm.tr)), .fz (.tup [.int eA, .int eB]), .fz (ci st.tot), .fz (.int st.beg), .own (.lst st.ms), .own (.lst st.ls), u1, u2, u3] /\ st = fH f side eA eB (ys.take n) /\ (∃ k, k <= n /\ xK (b * d) k st.tot) /\ st.ms.length <= n /\ st.ls.length <= n, ⟨⟨0, dZ f, [], []⟩, _, _, _, rfl, rfl, ⟨0, eT _, tj _⟩, eT _, eT _⟩, ?_, ?_⟩
 ·rintro n tt τ hj ⟨⟨tot, beg, ms, ls⟩, u1, u2, u3, rfl, hst, ⟨k, hk, ht⟩, m1, m2⟩
  have m1 : ms.length <= n := m1
  have m2 : ls.length <= n := m2
  obtain ⟨it, ei, rfl⟩ := aS hj
  have hn : n < ys.length := (iL.mp ei).1
  have hit := hi it (ym it (i8 ei))
  obtain ⟨v, ev, hv⟩ := hit.y
  rw [hD] at hv
  have yv : it.y.yv = v := by rw [ev]; exact de v
  have hq1 := pZ D0 DB (by omega) ht
  have ht2 := wE D0 DB ht hv
  have hq2 := pZ D0 DB (by omega) ht2
  have hvq : QN 260 v := by
   have h := hit.k.y
   rw [ey, ev] at h
   exact ⟨h.ba, h.bb⟩
  have hs : fH f side eA eB (ys.take (n + 1)) = ca f side eA eB ⟨tot, beg, ms, ls⟩ it := by
   rw [tk n it ei]
   unfold fH
   rw [List.foldl_append]
   show ca f side eA eB (fH f side eA eB (ys.take n)) it = _
   rw [<- hst]
  have pe : LO f.sy (tot + v) = qP a b c' d len (tot + v) := by rw [ey]; rfl
  unfold ca at hs
  dsimp only at hs ⊢
  rw [yv, pe] at hs
  have wl1 : ms.length <= 10000 := lS m1 (by omega)
  have wl2 : ls.length <= 10000 := lS m2 (by omega)
  have ity : it.tr = .tup [.int it.own, it.x.tr, ci v, it.o.tr, .int it.rank, .int it.col, .int it.siz] := by unfold Itm.tr; rw [ev]; rfl
  rw [ity]
  kd_mark
  intro _ _
  refine ke hq1 hvq (by decide) trivial λ _ => ?_
  kd_mark
  intro _ _
  refine ⟨a, b, c', d, len, tot + v, by rw [ey], oky, hq2, λ hpb => ?_⟩
  cases e : qP a b c' d len (tot + v) with
  | tx zt =>
   rw [e] at hs
   show GA B _ (.fz (.str zt)) _ _
   kd_mark
   exact ⟨⟨tot, beg, ms, ls ++ [bH it "y" zt]⟩, _, _, _, rfl, hs.symm, ⟨k, Nat.le_succ_of_le hk, ht⟩, Nat.le_succ_of_le m1, by rw [fI]; exact Nat.succ_le_succ m2⟩
  | «at» q =>
   rw [e] at hs hpb
   show GA B _ (.fz (.tup [.int q.num, .int (q.den : Int)])) _ _
   kd_mark
   intro _ _
   refine ⟨f, q, rfl, hpb, ?_⟩
   kd_mark
   intro _ _
   refine ke hq1 hvq (by decide) trivial λ _ => ?_
   kd_mark
   exact ⟨⟨tot + v, f.y0 + f.h - dv q, ms ++ [xc side eA eB beg (f.y0 + f.h - dv q) it], ls⟩, _, _, _, rfl, hs.symm, ⟨k + 1, Nat.succ_le_succ hk, ht2⟩, by rw [fI]; exact Nat.succ_le_succ m1, Nat.le_succ_of_le m2⟩
 ·rintro τ ⟨⟨tot, beg, ms, ls⟩, u1, u2, u3, rfl, hst, _, _, _⟩
  rw [b9, List.take_length] at hst
  rw [<- hst] at φ
  sl_open
noncomputable def dl (ws : List Str) (i : Itm) : Option Tr := match i.x with
 | .no => some (bH i "x" "nothing")
 | .wd z => if z ∈ ws then none else some (bH i "x" "unknown")
 | _ => none
noncomputable def ll (i : Itm) : Option Tr := match i.y with
 | .num e _ => if e < 0 then some (bH i "y" "below") else none
 | _ => some (bH i "y" "nothing")
theorem Da (ef : f.sx = .ord ws f.w) (hs : eL f.sx) (hi : xY f.sx i.x) : dD f i ["x"] = dl ws i := by
 have c1 : ze f i "x" = Db f.sx i.x := by unfold ze; rw [h9 rfl]
 rw [ef] at hs hi
 unfold dl
 simp only [dD, c1]
 rw [ef]
 cases hx : i.x with
 | no =>
  rw [my (s := .ord ws f.w) (c := .no) (r := .tx "nothing") hs trivial rfl]
  rfl
 | num e g => rw [hx] at hi; exact hi.elim
 | day c => rw [hx] at hi; exact hi.elim
 | wd z =>
  by_cases hz : z ∈ ws
  ·obtain ⟨j, ej⟩ := lh hz
   rw [my (s := .ord ws f.w) (c := .wd z) (r := .at (My.qv ((2 * (j : Int) + 1) * f.w) (2 * (ws.length : Int)))) hs (by trivial) (by show _ = _; rw [ej])]
   dsimp only
   rw [h9 hz]
  ·have e0 : ia ws z = none := by
    cases e : ia ws z with
    | none => rfl
    | some j => exact absurd (i8 (im e).1) hz
   rw [my (s := .ord ws f.w) (c := .wd z) (r := .tx "unknown") hs (by trivial) (by show _ = _; rw [e0])]
   dsimp only
   rw [gV hz]
   rfl
noncomputable def bo (ws : List Str) (i : Itm) : Option Tr := match dl ws i with
 | some t => some t
 | none => ll i
theorem gR {t : Tr} (h : bo ws i = some t) : ∃ ch z, t = bH i ch z := by
 unfold bo at h
 cases e : dl ws i with
 | some t0 =>
  rw [e] at h
  cases h
  unfold dl at e
  split at e
  ·cases e; exact ⟨_, _, rfl⟩
  ·split at e
   ·cases e
   ·cases e; exact ⟨_, _, rfl⟩
  ·cases e
 | none =>
  rw [e] at h
  have h : ll i = some t := h
  unfold ll at h
  split at h
  ·split at h
   ·cases h; exact ⟨_, _, rfl⟩
   ·cases h
  ·cases h; exact ⟨_, _, rfl⟩
theorem yT (ef : f.sx = .ord ws f.w) (hs : eL f.sx) (hi : xY f.sx i.x) : wZ f i = bo ws i := by
 unfold wZ bo ll
 rw [Da ef hs hi]
 all_goals (cases dl ws i <;> first | rfl | (cases i.y <;> rfl))
theorem oK (ef : f.sx = .ord ws f.w) (hi : wV f i) (h : bo ws i = none) : ∃ z, z ∈ ws /\ HQ f z i /\ 0 <= i.y.yv := by
 unfold bo at h
 cases e : dl ws i with
 | some t => rw [e] at h; cases h
 | none =>
  rw [e] at h
  have h : ll i = none := h
  have hx := hi.k.x
  rw [ef] at hx
  unfold dl at e
  cases ex : i.x with
  | no => rw [ex] at e; cases e
  | num a b => rw [ex] at hx; exact hx.elim
  | day c => rw [ex] at hx; exact hx.elim
  | wd z =>
   rw [ex] at e
   have e : (if z ∈ ws then none else some (bH i "x" "unknown")) = none := e
   by_cases hz : z ∈ ws
   ·unfold ll at h
    rcases hi.y with y | ⟨v, y, hv⟩
    ·rw [y] at h; cases h
    ·rw [y] at h
     have h : (if v.num < 0 then some (bH i "y" "below") else none) = none := h
     by_cases hn : v.num < 0
     ·rw [h9 hn] at h; cases h
     ·refine ⟨z, hz, ⟨hi.k, ex, v, y, hv⟩, ?_⟩
      rw [y]
      show 0 <= My.qv v.num v.den
      rw [de]
      exact Rat.num_nonneg.mp (by omega)
   ·rw [gV hz] at e; cases e
noncomputable def bX (is : List Itm) : List Itm := @Classical.epsilon (List Itm) ⟨[]⟩ λ ys => bY lt2 (is.map fF) is ys
theorem nM {r : κ -> κ -> Bool} (S : iI r) {kz : List κ} {xs ys zs : List α} (h : bY r kz xs ys) (g : bY r kz xs zs) : ys = zs := by
 obtain ⟨ps, p1, rfl, p2⟩ := h
 obtain ⟨qs, q1, rfl, q2⟩ := g
 rw [List.pairwise_map] at p2 q2
 rw [List.Perm.eq_of_pairwise (le := λ a b : κ × α => r a.1 b.1 = true) (λ a b _ _ h1 h2 => by rw [S.asy _ _ h1] at h2; cases h2) p2 q2 (p1.trans q1.symm)]
theorem jp {is ys : List Itm} (h : bY lt2 (is.map fF) is ys) : bX is = ys := nM hZ (@Classical.epsilon_spec_aux (List Itm) ⟨[]⟩ (λ ys => bY lt2 (is.map fF) is ys) ⟨ys, h⟩) h
noncomputable def gJ (ws : List Str) (g : List Itm) : Nat := match g with
 | [] => 0
 | i :: _ => (ia ws (aB i.x)).getD 0
noncomputable def cB (f : Fd) (ws : List Str) (side : Str) (g : List Itm) : HSt := fH f side (f.x0 + dv (fK ws f.w (gJ ws g))) (f.x0 + dv (fQ ws f.w (gJ ws g))) (bX g)
noncomputable def bL (ws : List Str) (is : List Itm) : List Itm := is.filter λ i => (bo ws i).isNone
noncomputable def uQ (f : Fd) (ws : List Str) (side : Str) (is : List Itm) : List Tr := (fN ws (bL ws is)).flatMap λ g => (cB f ws side g).ms
noncomputable def cV (f : Fd) (ws : List Str) (side : Str) (is : List Itm) : List Tr := is.filterMap (bo ws) ++ (fN ws (bL ws is)).flatMap λ g => (cB f ws side g).ls
noncomputable def fk : Tr -> Int
 | .tup (.int k :: _) => k
 | _ => 0
variable {g : List Itm}
theorem xf {is : List Itm} (h : g ∈ fN ws is) : ∃ z, z ∈ ws /\ g = is.filter (λ i => decide (aB i.x = z)) /\ g ≠ [] := by
 unfold fN at h
 obtain ⟨h1, h2⟩ := nI.mp h
 obtain ⟨z, hz, e⟩ := List.mem_map.mp h1
 exact ⟨z, hz, e.symm, λ y => by rw [y] at h2; cases h2⟩
theorem Hs {is : List Itm} (ef : f.sx = .ord ws f.w) (hi : ∀ i ∈ is, wV f i) (hg : g ∈ fN ws (bL ws is)) : ∃ z j, ia ws z = some j /\ gJ ws g = j /\ g ≠ [] /\ g.Sublist is /\ (∀ i ∈ g, i ∈ is /\ HQ f z i) := by
 obtain ⟨z, hz, e, hne⟩ := xf hg
 obtain ⟨j, ej⟩ := lh hz
 have hm : ∀ i ∈ g, i ∈ is /\ HQ f z i := λ i m => by
  rw [e] at m
  obtain ⟨m1, m2⟩ := nI.mp m
  obtain ⟨m3, m4⟩ := nI.mp m1
  obtain ⟨z', _, k, _⟩ := oK ef (hi i m3) (by simpa using m4)
  have : aB i.x = z := of_decide_eq_true m2
  rw [k.x] at this
  have this : z' = z := this
  rw [this] at k
  exact ⟨m3, k⟩
 refine ⟨z, j, ej, ?_, hne, ?_, hm⟩
 ·cases g with
  | nil => exact absurd rfl hne
  | cons i r =>
   have := (hm i i9).2.x
   unfold gJ
   dsimp only
   rw [this]
   show (ia ws z).getD 0 = j
   rw [ej]; rfl
 ·rw [e]
  exact List.filter_sublist.trans List.filter_sublist
theorem zP {f : Fd} {side : Str} {a b : Int} : ∀ (ys : List Itm) (st : HSt), (ys.foldl (ca f side a b) st).ms.length <= st.ms.length + ys.length /\ (ys.foldl (ca f side a b) st).ls.length <= st.ls.length + ys.length
 | [], st => ⟨eT _, eT _⟩
 | y :: r, st => by
  obtain ⟨h1, h2⟩ := zP (f := f) (side := side) (a := a) (b := b) r (ca f side a b st y)
  have h3 : (ca f side a b st y).ms.length <= st.ms.length + 1 /\ (ca f side a b st y).ls.length <= st.ls.length + 1 := by
   unfold ca
   split
   ·exact ⟨Nat.le_succ _, by rw [fI]; exact eT _⟩
   ·exact ⟨by rw [fI]; exact eT _, Nat.le_succ _⟩
  rw [rm, lH]
  omega
theorem iX : ∀ {ws : List Str} {is : List Itm}, ws.Nodup -> (∀ i ∈ is, aB i.x ∈ ws) -> (ws.map λ z => is.filter λ i => decide (aB i.x = z)).flatten.Perm is
 | [], is, _, h => by
  cases is with
  | nil => exact .refl _
  | cons i r => exact absurd (h i i9) m8
 | z :: r, is, nd, h => by
  obtain ⟨n1, n2⟩ := nQ.mp nd
  have ih := iX (ws := r) (is := is.filter λ i => !decide (aB i.x = z)) n2 λ i m => by
   obtain ⟨m1, m2⟩ := nI.mp m
   rcases j3.mp (h i m1) with y | y
   ·rw [y] at m2; simp at m2
   ·exact y
  have e : (r.map λ u => is.filter λ i => decide (aB i.x = u)) = r.map λ u => (is.filter λ i => !decide (aB i.x = z)).filter λ i => decide (aB i.x = u) := by
   refine List.map_congr_left λ u hu => ?_
   rw [List.filter_filter]
   refine List.filter_congr λ i _ => ?_
   by_cases y : aB i.x = u
   ·have : aB i.x ≠ z := λ q => n1 (by rw [<- q, y]; exact hu)
    rw [nS y, kv this]; rfl
   ·rw [kv y]; rfl
  rw [j8, List.flatten_cons, e]
  exact ((List.Perm.refl _).append ih).trans (List.filter_append_perm _ _)
theorem qD : ∀ gs : List (List α), (gs.filter λ g => !g.isEmpty).flatten = gs.flatten
 | [] => rfl
 | g :: r => by
  rw [List.flatten_cons, o4]
  cases g with
  | nil => exact qD r
  | cons x t => rw [h9 (show (!(x :: t).isEmpty) = true from rfl), List.flatten_cons, qD r]
theorem nY {is : List Itm} (nd : ws.Nodup) (h : ∀ i ∈ is, aB i.x ∈ ws) : (fN ws is).flatten.Perm is := by
 unfold fN
 rw [qD]
 exact iX nd h
theorem Dw {r : κ -> κ -> Bool} (S : iI r) {kz : List κ} {xs : List α} (hl : kz.length = xs.length) (nd : kz.Nodup) : ∃ ys, bY r kz xs ys := by
 refine ⟨_, (kz.zip xs).mergeSort (λ a b => !r b.1 a.1), List.mergeSort_perm _ _, rfl, ?_⟩
 have nt : ∀ a b : κ, r a b = false -> r b a = false -> a = b := λ a b h1 h2 => Classical.byContradiction λ z => by rw [S.tot _ _ z h1] at h2; cases h2
 have irr : ∀ a : κ, r a a = false := λ a => by
  cases e : r a a with
  | false => rfl
  | true => rw [S.asy _ _ e] at e; cases e
 have sp := List.pairwise_mergeSort (le := λ a b : κ × α => !r b.1 a.1) (λ a b c h1 h2 => by
  have h1 : r b.1 a.1 = false := by simpa using h1
  have h2 : r c.1 b.1 = false := by simpa using h2
  cases e : r c.1 a.1 with
  | false => rfl
  | true =>
   exfalso
   by_cases z : a.1 = b.1
   ·rw [z, h2] at e; cases e
   ·have hab := S.tot _ _ (Ne.symm z) h1
    rw [S.tr _ _ _ e hab] at h2
    cases h2) (λ a b => by
  cases e : r b.1 a.1 with
  | false => rfl
  | true => rw [S.asy _ _ e]; rfl) (kz.zip xs)
 have kp : (((kz.zip xs).mergeSort (λ a b => !r b.1 a.1)).map Prod.fst).Perm kz := by
  have := (List.mergeSort_perm (kz.zip xs) (λ a b => !r b.1 a.1)).map Prod.fst
  rwa [List.map_fst_zip (by omega)] at this
 have nd2 : (((kz.zip xs).mergeSort (λ a b => !r b.1 a.1)).map Prod.fst).Nodup := kp.nodup_iff.mpr nd
 have sp2 : (((kz.zip xs).mergeSort (λ a b => !r b.1 a.1)).map Prod.fst).Pairwise (λ a b => r b a = false) := by
  rw [List.pairwise_map]
  exact sp.imp λ h => by simpa using h
 exact List.Pairwise.imp₂ (λ a b (h1 : r b a = false) (h2 : a ≠ b) => S.tot _ _ h2.symm h1) sp2 nd2
theorem gz {is : List Itm} (nd : (is.map fF).Nodup) : bY lt2 (is.map fF) is (bX is) :=
 @Classical.epsilon_spec (List Itm) (λ ys => bY lt2 (is.map fF) is ys) (Dw hZ (b9 _) nd)
theorem nK {r : κ -> κ -> Bool} {kz : List κ} {xs ys : List α} (hl : kz.length = xs.length) (h : bY r kz xs ys) : ys.Perm xs := by
 obtain ⟨ps, hp, rfl, _⟩ := h
 have := hp.map Prod.snd
 rwa [List.map_snd_zip (by omega)] at this
theorem lf {is : List Itm} (h : (is.map (·.own)).Nodup) : (is.map fF).Nodup := by
 rw [show is.map (·.own) = (is.map fF).map Prod.snd by rw [List.map_map]; rfl] at h
 exact List.Pairwise.of_map Prod.snd (λ a b h z => h (congrArg _ z)) h
noncomputable def lq (t : Tr) : Prop := ∃ (i : Itm) (ch z : Str), t = bH i ch z
theorem lq.at {t : Tr} (h : lq t) : ∃ us, t = .tup (.int (fk t) :: us) := by
 obtain ⟨i, ch, z, rfl⟩ := h
 exact ⟨_, rfl⟩
theorem wq {f : Fd} {side : Str} {a b : Int} : ∀ (ys : List Itm) (st : HSt), ∃ l : List Tr, (ys.foldl (ca f side a b) st).ls = st.ls ++ l /\ (l.map fk).Sublist (ys.map (·.own)) /\ ∀ t ∈ l, lq t
 | [], st => ⟨[], (o7 _).symm, .slnil, λ _ h => nomatch h⟩
 | y :: r, st => by
  obtain ⟨l, h1, h2, h3⟩ := wq (f := f) (side := side) (a := a) (b := b) r (ca f side a b st y)
  rw [rm, h1]
  unfold ca
  split
  ·rename_i z _
   refine ⟨bH y "y" z :: l, by rw [m7]; rfl, .cons₂ _ h2, λ t ht => ?_⟩
   rcases j3.mp ht with rfl | ht
   ·exact ⟨_, _, _, rfl⟩
   ·exact h3 t ht
  ·exact ⟨l, rfl, .cons _ h2, h3⟩
variable {side : Str}
theorem uR (nd : (g.map (·.own)).Nodup) : (∀ k, ((cB f ws side g).ls.map fk).count k <= (g.map (·.own)).count k) /\ (cB f ws side g).ls.length <= g.length /\ ∀ t ∈ (cB f ws side g).ls, lq t := by
 have sp := nK (b9 _) (gz (lf nd))
 obtain ⟨l, h1, h2, h3⟩ := wq (f := f) (side := side) (a := f.x0 + dv (fK ws f.w (gJ ws g))) (b := f.x0 + dv (fQ ws f.w (gJ ws g))) (bX g) ⟨0, dZ f, [], []⟩
 have e : (cB f ws side g).ls = l := by
  unfold cB fH
  rw [h1]; rfl
 rw [e]
 refine ⟨λ k => ?_, ?_, h3⟩
 ·exact lS (h2.count_le k) (Nat.le_of_eq ((sp.map _).count_eq k))
 ·have := h2.length_le
  rw [b9, b9, sp.length_eq] at this
  exact this
theorem xt (g : Itm -> Option α) (is : List Itm) : (is.filterMap g).length + (is.filter λ i => (g i).isNone).length = is.length := by
 induction is with
 | nil => rfl
 | cons i r ih =>
  rw [o8, o4]
  cases e : g i with
  | none => simp only [Option.isNone_none, if_true, lH]; omega
  | some t => simp only [Option.isNone_some, qx, if_false, lH]; omega
theorem uX (k : Int) (is : List Itm) : ((is.filterMap (bo ws)).map fk).count k + ((bL ws is).map (·.own)).count k = (is.map (·.own)).count k := by
 unfold bL
 induction is with
 | nil => rfl
 | cons i r ih =>
  rw [o8, o4, j8, List.count_cons]
  cases e : bo ws i with
  | none =>
   simp only [Option.isNone_none, if_true, j8, List.count_cons]
   omega
  | some t =>
   obtain ⟨ch, z, rfl⟩ := gR e
   simp only [Option.isNone_some, qx, if_false, j8, List.count_cons]
   have : fk (bH i ch z) = i.own := rfl
   rw [this]
   omega
theorem fD {f : Fd} {ws : List Str} {side : Str} (k : Int) : ∀ gs : List (List Itm), (∀ g ∈ gs, (g.map (·.own)).Nodup) -> ((gs.flatMap λ g => (cB f ws side g).ls).map fk).count k <= (gs.flatten.map (·.own)).count k /\ (gs.flatMap λ g => (cB f ws side g).ls).length <= gs.flatten.length /\ ∀ t ∈ gs.flatMap (λ g => (cB f ws side g).ls), lq t
 | [], _ => ⟨eT _, eT _, λ _ h => nomatch h⟩
 | g :: r, h => by
  obtain ⟨h1, h2, h3⟩ := fD (f := f) (ws := ws) (side := side) k r λ g hg => h g (j7 _ hg)
  obtain ⟨g1, g2, g3⟩ := uR (f := f) (ws := ws) (side := side) (h g i9)
  rw [List.flatMap_cons, List.flatten_cons, oD, oD, List.count_append, List.count_append, fI, fI]
  have := g1 k
  refine ⟨by omega, by omega, λ t ht => ?_⟩
  rcases rl.mp ht with z | z
  ·exact g3 t z
  ·exact h3 t z
theorem oh {is : List Itm} (nd : ws.Nodup) (hk : ∀ i ∈ bL ws is, aB i.x ∈ ws) (ho : (is.map (·.own)).Nodup) : ((cV f ws side is).map fk).Nodup /\ (cV f ws side is).length <= is.length /\ ∀ t ∈ cV f ws side is, lq t := by
 have gp := nY nd hk
 have gnd : ∀ g ∈ fN ws (bL ws is), (g.map (·.own)).Nodup := λ g hg => by
  obtain ⟨z, _, e, _⟩ := xf hg
  rw [e]
  exact ((List.filter_sublist.trans List.filter_sublist).map _).nodup ho
 have sn := xt (bo ws) is
 have kn : (bL ws is).length = (is.filter λ i => (bo ws i).isNone).length := rfl
 have fl := gp.length_eq
 refine ⟨List.nodup_iff_count.mpr λ k => ?_, ?_, λ t ht => ?_⟩
 ·have c1 := uX (ws := ws) k is
  have c2 := (fD (f := f) (ws := ws) (side := side) k (fN ws (bL ws is)) gnd).1
  have c3 := (gp.map (·.own)).count_eq k
  have c4 := List.nodup_iff_count.mp ho k
  unfold cV
  rw [oD, List.count_append]
  omega
 ·have c2 := (fD (f := f) (ws := ws) (side := side) 0 (fN ws (bL ws is)) gnd).2.1
  unfold cV
  rw [fI]
  omega
 ·unfold cV at ht
  rcases rl.mp ht with z | z
  ·obtain ⟨i, _, e⟩ := List.mem_filterMap.mp z
   obtain ⟨ch, u, rfl⟩ := gR e
   exact ⟨_, _, _, rfl⟩
  ·exact (fD (f := f) (ws := ws) (side := side) 0 (fN ws (bL ws is)) gnd).2.2 t z
theorem AD (gs : List (List α)) (n : Nat) (g : List α) (e : gs[n]? = some g) : ((gs.take n).map List.length).sum + g.length <= (gs.map List.length).sum := by
 have h : gs = gs.take n ++ g :: gs.drop (n + 1) := by
  obtain ⟨hl, e'⟩ := iL.mp e
  rw [<- e', <- List.drop_eq_getElem_cons hl, List.take_append_drop]
 have : (gs.map List.length).sum = ((gs.take n).map List.length).sum + (g.length + ((gs.drop (n + 1)).map List.length).sum) := by
  conv => lhs; rw [h]
  rw [oD, List.sum_append, j8, List.sum_cons]
 omega
theorem IU {D : cQ} {t : TS} {ts : List Ar} (h : cJ n ts = τ) (q : vA B D t τ) : vA B D t (cJ n ts) := by rw [h]; exact q
noncomputable def zA (Pt : Addr) : SpR := λ B as Φ => ∃ (f : Fd) (ws : List Str) (side : Str) (is : List Itm), as = [.fz f.tr, .fz (.str side), .fz (.lst (is.map Itm.tr))] /\ cw Pt gM eQ B /\ HW f /\ f.sx = .ord ws f.w /\ ws.Nodup /\ is.length <= 60 /\ (∀ i ∈ is, wV f i) /\ (is.map (·.own)).Nodup /\
 ∀ us, bY rO ((cV f ws side is).map fk) (cV f ws side is) us -> Φ (uQ f ws side is) us
theorem xZ (T : cD K mg t) (hB : L2.BMods mg base) : cr P w K mg base nD 10 t.f_zar t.d_zar ["field", "side", "items"] (mo K (zA t.tab0)) := by
 have G_zbf := @lX P w K mg base t T
 have G_zbe := @rq P w K mg base t T
 have G_za0 := @rh P w K mg base t T hB
 refine T.q_zar.F.ok eV (xS (λ B as Φ h => by obtain ⟨_, _, _, _, rfl, _⟩ := h; rfl)) (λ cdv A outer s H vs Q E hr h => ?_)
 obtain ⟨B, as, Φ, rfl, hS, go⟩ := uo h
 obtain ⟨f, ws, side, is, rfl, hT, hf, ef, nd, hl, hi, hown, φ⟩ := hS
 have okx := hf.k.x
 have okx2 := okx
 rw [ef] at okx2
 obtain ⟨w1, w2, _, _⟩ := okx2
 refine ⟨_, (aG (zC (iy := 3) eV.nd rfl (Or.inl rfl) rfl (cY (fr := [("field", 0)]) (osc := af gI) (N := ["field", "side", "items", "losses", "lost", "marks", "group", "both"]) rfl rfl (by decide +kernel)) (cc (pv 2)) (λ _ _ _ _ _ => (aY G_zbf hr T.q_zbf (ae (pv 1) (ae (pv 0) aA)))))
 (aG (vi (iy := 4) eV.nd rfl (Or.inl rfl) (tg := "loss") (fr := []) rfl (ik (osc := af gI) (N := ["field", "side", "items", "losses", "lost", "marks", "group", "both"]) (rfl) rfl (by decide +kernel)) (cc (pv 3)) (λ _ _ _ _ _ => (ak mL (pv 0) bM (ao _))) (λ _ _ _ _ _ => (pv 0)))
 (aG (aj (i := 5) eV.nd rfl (Or.inl rfl) (aW aA))
 (aG (dN oS rfl (cc (aY G_zbe hr T.q_zbe (ae (pv 0) (ae (Bg (fr := []) rfl (kr (osc := af gI) (N := ["field", "side", "items", "losses", "lost", "marks", "group", "both"]) rfl rfl (by decide +kernel) (by decide +kernel) (by decide)) (yV rfl T.z_zip (ae (pv 2) (ae (pv 3) aA))) (λ _ _ _ _ _ => (ak cG (pv 1) bM (ao _))) (λ _ _ _ _ _ => (pv 0))) aA)))) (aM (i := 6) eV.nd rfl (Or.inl rfl)) (aG (aj (i := 7) eV.nd rfl (Or.inl rfl) (aY G_za0 hr T.q_za0 (ae (pv 0) (ae (pv 1) (ae (pv 6) aA)))))
 (aG (bp (cH j4 PySem.F.slot_list_extend PySem.F.type_list_extend mE (pv 5) (ae (aa aC (pv 7) ai (λ _ _ => rfl)) aA)))
 (aN (bp (cH j4 PySem.F.slot_list_extend PySem.F.type_list_extend mE (pv 4) (ae (aa aC (pv 7) ai (λ _ _ => rfl)) aA)))))))
 (aN (ah (aI (ae (pv 5) (ae (aV nO rfl T.z_sorted og (ae (pv 4) aA)) aA))))))))), go _ _ λ D hD => ?_⟩
 refine IU (τ := [.fz _, .fz _, .fz _, .no, .no, .no, .no, .no]) rfl (dU ?_)
 kd_mark
 refine JB (fX rfl ?_)
 kd_mark
 refine ⟨[.fz f.tr], by repeat (first | exact .nil | refine .fz (by kt_join) ?_), by rw [b9]; omega, λ j o => ∃ i, is[j]? = some i /\ o = gU (bo ws i), λ j tt ht => ?_, λ os hl2 ho => ?_⟩
 ·obtain ⟨i, hi2, rfl⟩ := aS ht
  have mi := hi i (i8 hi2)
  kd_mark
  intro _ _
  refine ⟨f, i, rfl, hf.k, mi, ?_⟩
  rw [yT ef okx mi.k.x]
  kd_mark
  exact ⟨i, hi2, rfl⟩
 rw [qm (f := λ i => gU (bo ws i)) (by rw [hl2, b9]) ho]
 kd_mark
 refine dU ?_
 kd_mark
 refine uS (fX rfl ?_)
 kd_mark
 refine ⟨[], .nil, by rw [b9]; omega, λ j o => ∃ i, is[j]? = some i /\ o = bo ws i, λ j tt ht => ?_, λ os hl2 ho => ?_⟩
 ·obtain ⟨i, hi2, rfl⟩ := aS ht
  have fin : ∃ i', is[j]? = some i' /\ bo ws i = bo ws i' := ⟨i, hi2, rfl⟩
  cases e : bo ws i with
  | none =>
   rw [e] at fin
   dsimp only [gU]
   kd_mark
   exact fin
  | some t0 =>
   obtain ⟨ch, z, rfl⟩ := gR e
   rw [e] at fin
   dsimp only [gU]
   unfold bH at fin ⊢
   kd_mark
   exact fin
 rw [iF (f := bo ws) (by rw [hl2, b9]) ho]
 kd_mark
 refine dU ?_
 kd_mark
 refine dU ?_
 kd_mark
 refine AM rfl (BB rfl ?_)
 kd_mark
 have zl : (eO (is.map Itm.tr) (is.map λ i => gU (bo ws i))).length = is.length := by rw [gE, b9, b9, Nat.min_self]
 refine ⟨_, is.map Itm.tr, _, is.map (λ i => gU (bo ws i)), rfl, rfl, [], .nil, by rw [zl]; omega, λ j o => ∃ i, is[j]? = some i /\ o = (if (bo ws i).isNone = true then some i.tr else none), λ j tt ht => ?_, λ os hl2 ho => ?_⟩
 ·obtain ⟨x, y, ex, ey, rfl⟩ := gg _ _ j tt ht
  obtain ⟨i, hi2, rfl⟩ := aS ex
  rw [kT, hi2] at ey
  have ey : gU (bo ws i) = y := j9 ey
  refine ⟨_, _, rfl, ?_⟩
  rw [<- ey]
  have fin : ∃ i', is[j]? = some i' /\ (if (bo ws i).isNone = true then some i.tr else none) = (if (bo ws i').isNone = true then some i'.tr else none) := ⟨i, hi2, rfl⟩
  cases e : bo ws i with
  | none =>
   rw [e] at fin
   dsimp only [gU]
   kd_mark
   exact fin
  | some t0 =>
   obtain ⟨ch, z, rfl⟩ := gR e
   rw [e] at fin
   dsimp only [gU]
   unfold bH at fin ⊢
   kd_mark
   exact fin
 rw [iF (f := λ i : Itm => if (bo ws i).isNone = true then some i.tr else none) (by rw [hl2, zl]) ho, jq]
 change FL (.nw (.lst ((bL ws is).map Itm.tr))) _ _
 have kl : (bL ws is).length <= is.length := List.length_filter_le _ _
 have kx : ∀ i ∈ bL ws is, ∃ z, z ∈ ws /\ HQ f z i /\ 0 <= i.y.yv := λ i m => by
  obtain ⟨m1, m2⟩ := nI.mp m
  exact oK ef (hi i m1) (by simpa using m2)
 kd_mark
 intro _ _
 refine ⟨f, ws, bL ws is, rfl, ef, w2, by omega, λ i m => ?_, ?_⟩
 ·obtain ⟨z, _, k, _⟩ := kx i m
  exact ⟨z, k.x⟩
 kd_mark
 have gp := nY (is := bL ws is) nd λ i m => by obtain ⟨z, hz, k, _⟩ := kx i m; rw [k.x]; exact hz
 have gl := gp.length_eq
 rw [List.length_flatten] at gl
 generalize hgs : fN ws (bL ws is) = gs at *
 refine ⟨λ n τ => ∃ (u1 u2 : Sl), τ = [.fz f.tr, .fz (.str side), .fz (.lst (is.map Itm.tr)), .fz (.lst (is.map λ i => gU (bo ws i))), .own (.lst (is.filterMap (bo ws) ++ (gs.take n).flatMap λ g => (cB f ws side g).ls)), .own (.lst ((gs.take n).flatMap λ g => (cB f ws side g).ms)), u1, u2] /\ ((gs.take n).flatMap λ g => (cB f ws side g).ls).length <= ((gs.take n).map List.length).sum /\ ((gs.take n).flatMap λ g => (cB f ws side g).ms).length <= ((gs.take n).map List.length).sum, ⟨.no, .no, by rw [List.take_zero, List.flatMap_nil, o7, List.flatMap_nil], nW _, nW _⟩, ?_, ?_⟩
 ·rintro n tt τ hj ⟨u1, u2, rfl, m1, m2⟩
  obtain ⟨g, eg, rfl⟩ := aS hj
  have hgm : g ∈ fN ws (bL ws is) := by rw [hgs]; exact i8 eg
  obtain ⟨z, j, ej, gj, gne, gsub, gm⟩ := Hs ef hi hgm
  have gl2 := gsub.length_le
  have gnd : (g.map fF).Nodup := by
   have h := (gsub.map (·.own)).nodup hown
   rw [show g.map (·.own) = (g.map fF).map Prod.snd by rw [List.map_map]; rfl] at h
   exact List.Pairwise.of_map Prod.snd (λ a b h z => h (congrArg _ z)) h
  kd_mark
  intro _ _
  refine ⟨f, ws, side, z, j, g, rfl, hT.now _ _, hf, ef, ej, gne, by omega, λ i m => (gm i m).2, gnd, λ ys hy => ?_⟩
  have yl := (dQ hy).1
  have hv : fH f side (f.x0 + dv (fK ws f.w j)) (f.x0 + dv (fQ ws f.w j)) ys = cB f ws side g := by unfold cB; rw [jp hy, gj]
  have hle := zP (f := f) (side := side) (a := f.x0 + dv (fK ws f.w j)) (b := f.x0 + dv (fQ ws f.w j)) ys ⟨0, dZ f, [], []⟩
  change (fH f side _ _ ys).ms.length <= 0 + _ /\ (fH f side _ _ ys).ls.length <= 0 + _ at hle
  rw [hv] at hle ⊢
  obtain ⟨l1, l2⟩ := hle
  have tk : gs.take (n + 1) = gs.take n ++ [g] := by rw [List.take_succ, eg]; rfl
  have sb := AD gs n g eg
  have f0 : (is.filterMap (bo ws)).length <= is.length := List.length_filterMap_le _ _
  kd_mark
  refine wC rfl (by kt_join) (by omega) (by acc_open) ?_
  kd_mark
  refine wC rfl (by kt_join) (by rw [fI]; omega) (by acc_open) ?_
  kd_mark
  refine ⟨_, _, by rw [tk, List.flatMap_append, List.flatMap_append, List.flatMap_singleton, List.flatMap_singleton, <- m7], ?_, ?_⟩
  ·rw [tk, List.flatMap_append, List.flatMap_singleton, fI, oD, List.sum_append]
   show _ <= _ + (g.length + 0)
   omega
  ·rw [tk, List.flatMap_append, List.flatMap_singleton, fI, oD, List.sum_append]
   show _ <= _ + (g.length + 0)
   omega
 ·rintro τ ⟨u1, u2, rfl, m1, m2⟩
  rw [b9, List.take_length] at *
  rw [<- hgs] at *
  refine HU hD (by kt_join) ?_
  kd_mark
  obtain ⟨n1, n2, n3⟩ := oh (f := f) (side := side) nd (λ i m => by obtain ⟨z, hz, k, _⟩ := kx i m; rw [k.x]; exact hz) hown
  refine vT (kz := (cV f ws side is).map fk) rfl (by dl_open) (by rw [b9]) (λ n k hk => ?_) n1 (Nat.lt_of_le_of_lt n2 (by omega)) λ us hu => ⟨us, rfl, by kt_join, φ us hu⟩
  obtain ⟨t0, et, rfl⟩ := aS hk
  obtain ⟨us, e⟩ := (n3 t0 (i8 et)).at
  exact ⟨us, by rw [<- e]; exact et⟩
structure NA (n m : Nat) (x : NP) : Prop where
 pos : 0 < x.2
 ba : My.Bd n x.1
 bb : My.Bd m x.2
theorem NA.mono {n' m' : Nat} (h : NA n m x) (h1 : n <= n') (h2 : m <= m') : NA n' m' x := ⟨h.pos, h.ba.mono h1, h.bb.mono h2⟩
theorem qc {t : Int} (hb : 0 < b) (h1 : My.Bd n t) (h2 : My.Bd m b) : NA n m (fP t b) := ⟨dR hb, lL hb h1, fA hb h2⟩
theorem ln {n' m' N : Nat} {y : NP} (h : NA n m x) (g : NA n' m' y) (h1 : n + m' <= N) (h2 : n' + m <= N) : NA (N + 1) (m + m') (bz x y) :=
 qc (lC h.pos g.pos) (((h.ba.mul g.bb).mono h1).add ((g.ba.mul h.bb).mono h2)) (h.bb.mul g.bb)
theorem pB (h : NA n m x) : NA n m (dM x) := ⟨h.pos, h.ba.neg, h.bb⟩
theorem Hw (tp : cE ds tops26) : NA 60 6 (HZ ds) := by
 obtain ⟨h, g⟩ := uc tp
 refine ⟨g.pos, g.ba, ?_⟩
 have b4 := h.at (k := 4) (by decide) rfl
 have hb : 0 < fw ((ds.drop 1).take 5) := by unfold fw; split <;> omega
 have hb2 : fw ((ds.drop 1).take 5) <= 60 := by unfold fw; split <;> rename_i z <;> simp only [decide_eq_true_eq] at z <;> omega
 exact fA (t := hX ((ds.drop 1).take 5)) hb (by unfold My.Bd; omega)
noncomputable def IW : Sc -> Prop
 | .str a b c d _ => NA 120 60 (a, b) /\ NA 120 60 (c, d)
 | _ => True
theorem rZ (tp : cE ds tops26) : IW (bK k ds) := by
 have b8 := tp.at (k := 8) (by decide) rfl
 have l := Hw tp
 obtain ⟨sp0, sp1⟩ := oY tp
 have l1 : NA 31 6 (bG ds) := qc (n := 31) (m := 6) (t := kB ds) (b := 1 + dg ds 8) (by omega) (by unfold My.Bd; omega) (by unfold My.Bd; omega)
 unfold bK
 split
 ·exact ⟨l.mono (by decide) (by decide), (ln (N := 66) l l1 (by decide) (by decide)).mono (by decide) (by decide)⟩
 split
 ·obtain ⟨f0, f1⟩ := Hz ds
  have z : NA 1 1 ((0, 1) : NP) := ⟨by decide, by unfold My.Bd; decide, by unfold My.Bd; decide⟩
  have s := ln (N := 32) z (pB (pB l1)) (by decide) (by decide)
  have lo := qc (t := (bz (0, 1) (dM (dM (bG ds)))).1 * f5 ds) (b := (bz (0, 1) (dM (dM (bG ds)))).2 * 4) (lC s.pos (by decide)) (s.ba.mul (show My.Bd 3 (f5 ds) by unfold My.Bd; omega)) (s.bb.mul (show My.Bd 3 4 by unfold My.Bd; decide))
  exact ⟨(ln (N := 60) (pB l1) lo (by decide) (by decide)).mono (by decide) (by decide), l1.mono (by decide) (by decide)⟩
 ·exact trivial
theorem sD : SO (bK k ds) := by
 unfold bK
 split
 ·trivial
 split
 ·trivial
 ·trivial
theorem zD (D : Int) : My.qv 0 D = 0 := by unfold My.qv; rw [show ((0 : Int) : Rat) = 0 from rfl, Rat.div_def, Rat.zero_mul]
theorem xQ {e0 f g : Int} (h1 : NA 120 60 (a, b)) (h2 : NA 120 60 (c, d)) (hf : 1 <= f /\ f <= 4) (hg : 0 < g /\ g <= 8000) : ∃ v : Rat, sM a b c d e0 f g = (v.num, (v.den : Int)) /\ xR (b * d) v /\ eh v.num (v.den : Int) := by
 have B0 : 0 < b := h1.pos
 have D0 : 0 < d := h2.pos
 have BD : 0 < b * d := lC B0 D0
 have ba : My.Bd 120 a := h1.ba
 have bb : My.Bd 60 b := h1.bb
 have bc : My.Bd 120 c := h2.ba
 have bd : My.Bd 60 d := h2.bb
 have fb : My.Bd 3 f := by unfold My.Bd; omega
 have gb : My.Bd 13 g := by unfold My.Bd; omega
 have low : ∀ t u : Int, 0 < u -> My.Bd 260 t -> My.Bd 260 u -> fP t u = ((My.qv t u).num, ((My.qv t u).den : Int)) /\ eh (My.qv t u).num ((My.qv t u).den : Int) := λ t u hu ht hb => by
  obtain ⟨e1, e2⟩ := mw (t := t) hu
  exact ⟨by show (fT t u, fM t u) = _; rw [e1, e2], den_pos _, by rw [<- e1]; exact lL hu ht, by rw [<- e2]; exact fA hu hb⟩
 unfold sM
 split
 ·refine ⟨0, rfl, ⟨0, 1, by decide, by unfold My.Bd; decide, (show My.Bd 1 0 by unfold My.Bd; decide).mono (by decide), (zD _).symm⟩, ?_⟩
  exact ⟨by decide, by unfold My.Bd; decide, by unfold My.Bd; decide⟩
 split
 ·obtain ⟨e, n⟩ := low (-f) g hg.1 (fb.neg.mono (by decide)) (gb.mono (by decide))
  exact ⟨_, e, ⟨-f * (b * d), g, hg.1, gb, (fb.neg.mul (bb.mul bd)).mono (by decide), My.qv_eq (by omega) (n8 (lC BD hg.1)) (by grind)⟩, n⟩
 split
 ·obtain ⟨e, n⟩ := low (a * 1 + f * b) (b * 1) (by omega) (((ba.mul (show My.Bd 1 1 by unfold My.Bd; decide)).add ((fb.mul bb).mono (by decide))).mono (by decide)) ((bb.mul (show My.Bd 1 1 by unfold My.Bd; decide)).mono (by decide))
  refine ⟨_, e, ⟨(a * 1 + f * b) * d, 1, by decide, by unfold My.Bd; decide, ((((ba.mul (show My.Bd 1 1 by unfold My.Bd; decide)).add ((fb.mul bb).mono (by decide)))).mul bd).mono (by decide), My.qv_eq (by omega) (by omega) ?_⟩, n⟩
  grind
 ·have ab : My.Bd 120 (vC c) := by unfold vC; split; exact bc.neg; exact bc
  obtain ⟨e, n⟩ := low (vC c * f) (d * g) (lC D0 hg.1) ((ab.mul fb).mono (by decide)) ((bd.mul gb).mono (by decide))
  refine ⟨_, e, ⟨vC c * f * b, g, hg.1, gb, ((ab.mul fb).mul bb).mono (by decide), My.qv_eq (n8 (lC D0 hg.1)) (n8 (lC BD hg.1)) ?_⟩, n⟩
  grind
theorem Ah {e : List Int} (ho : ∃ ws len, s = .ord ws len) : xY s (eM s e) := by
 obtain ⟨ws, len, rfl⟩ := ho
 unfold eM
 split
 ·exact trivial
 ·show xY (.ord ws len) (if _ then _ else _)
  split <;> exact trivial
theorem At {len : Int} {e : List Int} (hs : eL (.str a b c d len)) (hm : IW (.str a b c d len)) (tp : cE e jV) : xY (.str a b c d len) (eM (.str a b c d len) e) /\ (eM (.str a b c d len) e = .no ∨ ∃ v : Rat, eM (.str a b c d len) e = .num v.num (v.den : Int) /\ xR (b * d) v) := by
 unfold eM
 split
 ·exact ⟨trivial, .inl rfl⟩
 ·obtain ⟨v, e1, e2, e3⟩ := xQ (e0 := dg e 0) hm.1 hm.2 (Ex e) (EB tp (Ez hs))
  dsimp only
  rw [e1]
  exact ⟨e3, .inr ⟨v, rfl, e2⟩⟩
noncomputable def tops22 : List Int := [4, 1000000, 6, 3, 3, 1000000000, 1000000000] ++ (jV ++ jV ++ jV)
noncomputable def Ie {α : Type} (k : Int) (a b c d e f : α) : α := if k = 0 then a else if k = 1 then b else if k = 2 then c else if k = 3 then d else if k = 4 then e else f
theorem Kr {a b c d e f : α} (h0 : 0 <= k) (h1 : k < 6) : fG [a, b, c, d, e, f] k = some (Ie k a b c d e f) := by
 rcases (show k = 0 ∨ k = 1 ∨ k = 2 ∨ k = 3 ∨ k = 4 ∨ k = 5 by omega) with z | z | z | z | z | z <;> subst z <;> rfl
theorem wc {f : Int} : Ie k (Tr.int a) (.int b) (.int c) (.int d) (.int e) (.int f) = .int (Ie k a b c d e f) := by unfold Ie; split; rfl; split; rfl; split; rfl; split; rfl; split <;> rfl
noncomputable def jw (c : Int) : List Int := bh c tops22
noncomputable def lV (c o : Int) : Int := o + yB (dg (jw c) 0) 0 1 (2 + dg (jw c) 1 % 9) (1 + dg (jw c) 1)
noncomputable def Ek (c : Int) : Int := Ie (dg (jw c) 2) (dg (jw c) 3) (dg (jw c) 3) (dg (jw c) 3) (dg (jw c) 3) (dg (jw c) 5 % 60) (dg (jw c) 5)
noncomputable def Mk (c : Int) : Int := Ie (dg (jw c) 2) (dg (jw c) 4) 0 (Ek c % 12) (dg (jw c) 4) (dg (jw c) 6) (dg (jw c) 4 * 7)
noncomputable def Mc (c : Int) : Int := 1 + dg (jw c) 6 % (if decide (dg (jw c) 2 = 4) = true then 1000000000 else 20)
noncomputable def AG (f : Fd) (c o : Int) : Itm := ⟨lV c o, eM f.sx (((jw c).drop 7).take 5), eM f.sy (((jw c).drop 12).take 5), .no, Ek c, Mk c, Mc c⟩
noncomputable def cI (cs : List Int) : Nat -> Int
 | 0 => 0
 | j + 1 => lV (cs.getD j 0) (cI cs j) + 1
noncomputable def cy (f : Fd) (cs : List Int) (j : Nat) : List Itm := (List.range j).map λ i => AG f (cs.getD i 0) (cI cs i)
theorem ss (f : Fd) (cs : List Int) (j : Nat) : cy f cs (j + 1) = cy f cs j ++ [AG f (cs.getD j 0) (cI cs j)] := by unfold cy; rw [List.range_succ, oD]; rfl
theorem sT : ∀ t ∈ tops22, 0 < t /\ t <= 1000000000 := by decide
theorem mH (c : Int) : cE (jw c) tops22 := kG sT
noncomputable def Ag : SpT := λ _ as Φ _ => ∃ (cs : List Int) (f : Fd), as = [.fz (.lst (cs.map Tr.int)), .fz f.tr] /\ cs.length <= 100 /\ vg f /\ SO f.sx /\ SO f.sy /\ Φ (.nw (.lst ((cy f cs cs.length).map Itm.tr)))
theorem rz (T : cD K mg t) : FO P w base T.q_zbj 5 (bC K Ag) := by
 have G_zav := @kC P w K mg base t T
 have G_za3 := @uE P w K mg base t T
 refine T.q_zbj.F.ok bn (aJ (λ B as Φ Ψ h => by obtain ⟨_, _, rfl, _⟩ := h; rfl)) (λ cdv A outer s H vs Q E hr h => ?_)
 obtain ⟨B, as, Φ, Ψ, rfl, hS, hx, go⟩ := aF h
 obtain ⟨cs, f, rfl, hl, hf, hsx, hsy, φ⟩ := hS
 unfold Fd.tr at *
 refine ⟨_, (aG (aj (i := 2) bn.nd rfl (Or.inl rfl) (aW aA))
 (aG (aj (i := 3) bn.nd rfl (Or.inl rfl) ai)
 (aG (dN oS rfl (cc (pv 0)) (aM (i := 4) bn.nd rfl (Or.inl rfl)) (aG (aj (i := 5) bn.nd rfl (Or.inl rfl) (aY G_zav hr T.q_zav (ae (pv 4) (ae (ac gF (aW (ae ai (ae (ac dw ai ai) (ae ai (ae ai (ae ai (ae (ac dw ai ai) (ae (ac dw ai ai) aA)))))))) (ac zj (aW (ae ai (ae (ac dw ai ai) (ae ai (ae (ac dw ai ai) (ae ai aA)))))) ai)) aA))))
 (aG (aj (i := 3) bn.nd rfl (Or.inl rfl) (ac aO (pv 3) (aa bZ (aW (ae ai (ae ai (ae (ac aO ai (ac aX (aa bZ (pv 5) ai (λ _ _ => rfl)) ai)) (ae (ac aO ai (aa bZ (pv 5) ai (λ _ _ => rfl))) aA))))) (aa bZ (pv 5) ai (λ _ _ => rfl)) (λ _ _ => rfl))))
 (aG (aj (i := 6) bn.nd rfl (Or.inl rfl) (aa bZ (aW (ae (aa bZ (pv 5) ai (λ _ _ => rfl)) (ae (aa bZ (pv 5) ai (λ _ _ => rfl)) (ae (aa bZ (pv 5) ai (λ _ _ => rfl)) (ae (aa bZ (pv 5) ai (λ _ _ => rfl)) (ae (ac aX (aa bZ (pv 5) ai (λ _ _ => rfl)) ai) (ae (aa bZ (pv 5) ai (λ _ _ => rfl)) aA))))))) (aa bZ (pv 5) ai (λ _ _ => rfl)) (λ _ _ => rfl)))
 (aG (aj (i := 7) bn.nd rfl (Or.inl rfl) (aa bZ (aW (ae (aa bZ (pv 5) ai (λ _ _ => rfl)) (ae ai (ae (ac aX (pv 6) ai) (ae (aa bZ (pv 5) ai (λ _ _ => rfl)) (ae (aa bZ (pv 5) ai (λ _ _ => rfl)) (ae (ac dL (aa bZ (pv 5) ai (λ _ _ => rfl)) ai) aA))))))) (aa bZ (pv 5) ai (λ _ _ => rfl)) (λ _ _ => rfl)))
 (aG (aj (i := 8) bn.nd rfl (Or.inl rfl) (aY G_za3 hr T.q_za3 (ae (aa aC (pv 1) ai (λ _ _ => rfl)) (ae (eU gD (pv 5) (cn ai) (cn ai)) aA))))
 (aG (aj (i := 9) bn.nd rfl (Or.inl rfl) (aY G_za3 hr T.q_za3 (ae (aa aC (pv 1) ai (λ _ _ => rfl)) (ae (eU gD (pv 5) (cn ai) (cn ai)) aA))))
 (aG (aj (i := 10) bn.nd rfl (Or.inl rfl) bM)
 (aG (bp (cH j4 ml mv aQ (pv 2) (ae (aI (ae (pv 3) (ae (pv 8) (ae (pv 9) (ae (pv 10) (ae (pv 6) (ae (pv 7) (ae (ac aO ai (ac aX (aa bZ (pv 5) ai (λ _ _ => rfl)) (aa bZ (aW (ae ai (ae (ac dw ai ai) aA))) (jD nE rfl T.z_int pY (ae (iJ aT (aa bZ (pv 5) ai (λ _ _ => rfl)) ai (ao _)) aA)) (λ _ _ => rfl)))) aA)))))))) aA)))
 (aN (aj (i := 3) bn.nd rfl (Or.inl rfl) (ac aO (pv 3) ai))))))))))))
 (aN (ah (pv 2)))))), go _ _ (cX (τ := [.fz _, .fz _, .no, .no, .no, .no, .no, .no, .no, .no, .no]) rfl ?_)⟩
 kd_mark
 refine ⟨λ j τ => ∃ u1 u2 u3 u4 u5 u6 u7 : Sl, τ = [.fz (.lst (cs.map Tr.int)), .fz (.tup [f.sx.tr, f.sy.tr, .int f.x0, .int f.y0, .int f.w, .int f.h]), .own (.lst ((cy f cs j).map Itm.tr)), .fz (.int (cI cs j)), u1, u2, u3, u4, u5, u6, u7], ⟨_, _, _, _, _, _, _, rfl⟩, ?_, ?_⟩
 ·rintro j tt τ hj ⟨u1, u2, u3, u4, u5, u6, u7, rfl⟩
  obtain ⟨c, ec, rfl⟩ : ∃ c, cs[j]? = some c /\ tt = .int c := by
   rw [kT] at hj
   cases e : cs[j]? with
   | none => rw [e] at hj; cases hj
   | some c => rw [e] at hj; cases hj; exact ⟨c, rfl, rfl⟩
  have ed : cs.getD j 0 = c := by rw [j5, ec]; rfl
  have tp := mH c
  have tl : (jw c).length = 22 := tp.l
  have b0 := tp.at (k := 0) (by decide) rfl
  have b1 := tp.at (k := 1) (by decide) rfl
  have b2 := tp.at (k := 2) (by decide) rfl
  have b3 := tp.at (k := 3) (by decide) rfl
  have b4 := tp.at (k := 4) (by decide) rfl
  have b5 := tp.at (k := 5) (by decide) rfl
  have b6 := tp.at (k := 6) (by decide) rfl
  kd_mark
  refine gO rfl Rk.fz Rk.fz (by decide) ?_
  kd_mark
  intro _ _
  change lK _ [.fz (.int c), .fz (.lst (tops22.map Tr.int))] _ _
  refine ⟨c, tops22, rfl, by decide, sT, ?_⟩
  change GA B _ (.nw (.lst ((jw c).map Tr.int))) _ _
  kd_mark
  refine cb rfl Rk.fz (Hk b0.1 b0.2) ?_
  rw [qG]
  kd_mark
  refine cb rfl Rk.fz (Kr b2.1 b2.2) ?_
  rw [wc]
  kd_mark
  refine cb rfl Rk.fz (Kr b2.1 b2.2) ?_
  rw [wc]
  kd_mark
  intro _ _
  rw [show mO ((jw c).map Tr.int) (some 7) (some 12) = (((jw c).drop 7).take 5).map Tr.int from gL _ 7 12]
  refine ⟨_, _, rfl, hf.x, hsx, (tp.drop 7).take 5, ?_⟩
  kd_mark
  intro _ _
  rw [show mO ((jw c).map Tr.int) (some 12) (some 17) = (((jw c).drop 12).take 5).map Tr.int from gL _ 12 17]
  refine ⟨_, _, rfl, hf.y, hsy, (tp.drop 12).take 5, ?_⟩
  kd_mark
  refine cb rfl Rk.fz JY ?_
  rw [ifI]
  refine Ix (show 0 < (if decide (dg (jw c) 2 = 4) = true then (10 : Int) ^ (9 : Int).toNat else 20) by split <;> decide) ?_
  have e1 : (cy f cs (j + 1)).map Itm.tr = (cy f cs j).map Itm.tr ++ [(AG f c (cI cs j)).tr] := by rw [ss, ed, oD]; rfl
  have hjl : j < cs.length := (iL.mp ec).1
  have wl : ((cy f cs j).map Itm.tr).length <= 10000 := by unfold cy; rw [b9, b9, List.length_range]; omega
  have e2 : cI cs (j + 1) = lV c (cI cs j) + 1 := by rw [<- ed]; rfl
  kd_mark
  simp only [e1, e2]
  exact ⟨_, _, _, _, _, _, _, rfl⟩
 ·rintro τ ⟨u1, u2, u3, u4, u5, u6, u7, rfl⟩
  rw [b9]
  kd_mark
  exact yO (by kt_join) φ
theorem gf (a b : Str) : (a ++ b).cps.toList = a.cps.toList ++ b.cps.toList := by
 show (a.cps ++ b.cps).toList = _
 simp
theorem wF {i : Int} (h0 : 0 <= i) (h1 : i < 26) (g0 : 0 <= j) (g1 : j < 26) (h : qO i = qO j) : i = j := by
 have e : mU.cps.toList = List.range' 97 26 := by decide
 have at_ : ∀ k : Int, 0 <= k -> k < 26 -> mU.cps.toList.getD k.toNat 0 = 97 + k.toNat := λ k k0 k1 => by
  rw [e, j5, List.getElem?_range' (by omega)]
  simp
 have h : mU.cps.toList.getD i.toNat 0 = mU.cps.toList.getD j.toNat 0 := by
  have := congrArg (λ z : Str => z.cps.toList) h
  unfold qO at this
  simpa using this
 rw [at_ i h0 h1, at_ j g0 g1] at h
 omega
theorem xD {i : Int} (h0 : 0 <= i) (h1 : i < 60) (g0 : 0 <= j) (g1 : j < 60) (h : (fJ ds i).cps.toList = (fJ ds j).cps.toList) : i = j := by
 unfold fJ at h
 rw [gf, gf] at h
 have m : ∀ k : Int, 0 <= (7 * k + dg ds 3) % 676 /\ (7 * k + dg ds 3) % 676 < 676 := λ k => ⟨m9 _ (by decide), lG _ (by decide)⟩
 have mi := m i
 have mj := m j
 obtain ⟨e1, e2⟩ := List.append_inj h (by rfl)
 have st : ∀ a b : Str, a.cps.toList = b.cps.toList -> a = b := λ a b z => by
  cases a; cases b
  congr 1
  exact Array.toList_inj.mp z
 have c1 := wF (by omega) (by omega) (by omega) (by omega) (st _ _ e1)
 have c2 := wF (by omega) (by omega) (by omega) (by omega) (st _ _ e2)
 omega
theorem nL (ds : List Int) (k : Int) : (fJ ds k).cps.toList.length = 2 := by
 unfold fJ
 rw [gf, fI]
 rfl
theorem xo {i : Int} (h0 : 0 <= i) (h1 : i < 60) (g0 : 0 <= j) (g1 : j < 60) (h : gY ds i = gY ds j) : i = j := by
 have h : (gY ds i).cps.toList = (gY ds j).cps.toList := by rw [h]
 refine xD (ds := ds) h0 h1 g0 g1 ?_
 have li := nL ds i
 have lj := nL ds j
 unfold gY at h
 generalize fZ (qO (dg ds 8 % 26)) (dg ds 2) = a at h
 generalize fZ (qO (dg ds 9 % 26)) (dg ds 6) = b at h
 generalize fJ ds i = x at *
 generalize fJ ds j = y at *
 have nil : ∀ l : List Nat, l.length = 0 -> l = [] := λ l z => List.length_eq_zero_iff.mp z
 split at h <;> split at h
 ·rw [gf, gf, gf, gf] at h
  exact List.append_cancel_left (List.append_cancel_right h)
 ·rw [gf, gf] at h
  have hl := congrArg List.length h
  rw [fI, fI] at hl
  rw [nil a.cps.toList (by omega), nil b.cps.toList (by omega), List.nil_append, o7] at h
  exact h
 ·rw [gf, gf] at h
  have hl := congrArg List.length h
  rw [fI, fI] at hl
  rw [nil a.cps.toList (by omega), nil b.cps.toList (by omega), List.nil_append, o7] at h
  exact h
 ·exact h
theorem qZ (hn : n <= 60) : (cR n ds).Nodup := by
 unfold cR
 refine List.pairwise_map.mpr (List.Pairwise.imp_of_mem (λ {a b} ha hb hab z => hab ?_) (List.nodup_range (n := n)))
 have ha := List.mem_range.mp ha
 have hb := List.mem_range.mp hb
 have := xo (ds := ds) (i := 0 + (a : Int)) (j := 0 + (b : Int)) (by omega) (by omega) (by omega) (by omega) z
 omega
theorem zz (c : Int) : SO (ce c).sx /\ SO (ce c).sy := by
 unfold ce
 dsimp only
 exact ⟨sD, sD⟩
theorem tL (c : Int) : IW (ce c).sx /\ IW (ce c).sy := by
 obtain ⟨h, h1, h2⟩ := fB c
 unfold ce
 dsimp only
 exact ⟨rZ h1, rZ h2⟩
theorem CH (c : Int) : HW (ce c) /\ ∃ ws, (ce c).sx = .ord ws (ce c).w /\ ws.Nodup := by
 obtain ⟨h, h1, h2⟩ := fB c
 have b1 := h.at (k := 1) (by decide) rfl
 have sm := (tL c).2
 have e4 : ∀ ds, bK 4 ds = .ord (cR (uB ds).toNat ds) (1 + dg ds 0) := λ ds => by unfold bK; rw [gV (by decide), gV (by decide)]
 have ex : (ce c).sx = .ord (cR (uB (((bh c bj).drop 4).take 26)).toNat (((bh c bj).drop 4).take 26)) (ce c).w := by
  show bK 4 _ = .ord _ (bK 4 _).len
  rw [e4]
  rfl
 have ey : ∃ a b c' d len, (ce c).sy = .str a b c' d len := by
  show ∃ a b c' d len, bK (dg (bh c bj) 1) _ = .str a b c' d len
  unfold bK
  split
  ·exact ⟨_, _, _, _, _, rfl⟩
  split
  ·exact ⟨_, _, _, _, _, rfl⟩
  ·omega
 obtain ⟨a, b, c', d, len, ey⟩ := ey
 rw [ey] at sm
 refine ⟨⟨Bz c, ⟨_, ex⟩, a, b, c', d, len, ey, sm.1.bb, sm.2.bb⟩, _, ex, qZ ?_⟩
 have tp := h1
 generalize ((bh c bj).drop 4).take 26 = ds at *
 have b7 := tp.at (k := 7) (by decide) rfl
 have pb := sI (k := dg ds 6) (a := 4) (b := 12) (c := 60) (m := 60) (by decide) (by decide) (by decide)
 have o0 := m9 (dg ds 7) (show uj (dg ds 6) 4 12 60 ≠ 0 by omega)
 have o1 := lG (dg ds 7) pb.1
 have ho : uB ds = 1 + dg ds 7 % uj (dg ds 6) 4 12 60 := rfl
 omega
theorem Cg {cs : List Int} (hf : HW f) (h2 : IW f.sy) (n : Nat) : ∀ i ∈ cy f cs n, wV f i := λ i hi => by
 obtain ⟨j, _, rfl⟩ := List.mem_map.mp hi
 obtain ⟨ws, ex⟩ := hf.x
 obtain ⟨a, b, c', d, len, ey, _⟩ := hf.y
 have oky := hf.k.y
 rw [ey] at oky h2
 have tp := ((mH (cs.getD j 0)).drop 12).take 5
 obtain ⟨y1, y2⟩ := At oky h2 tp
 refine ⟨⟨Ah ⟨_, _, ex⟩, ?_⟩, ?_⟩
 ·show xY f.sy (eM f.sy _)
  rw [ey]; exact y1
 ·show eM f.sy _ = .no ∨ ∃ v : Rat, eM f.sy _ = _ /\ xR f.sy.dd v
  rw [ey]; exact y2
theorem Ad {cs : List Int} : ∀ {j k : Nat}, j < k -> lV (cs.getD j 0) (cI cs j) < lV (cs.getD k 0) (cI cs k) := λ {j k} h => by
 have up : ∀ c o : Int, o <= lV c o := λ c o => by
  have tp := mH c
  have b0 := tp.at (k := 0) (by decide) rfl
  have b1 := tp.at (k := 1) (by decide) rfl
  unfold lV yB
  split
  ·omega
  split
  ·omega
  split <;> omega
 have st : ∀ n, cI cs (j + 1) <= cI cs (j + 1 + n) := λ n => by
  induction n with
  | zero => exact Int.le_refl _
  | succ n ih =>
   have := up (cs.getD (j + 1 + n) 0) (cI cs (j + 1 + n))
   have e : cI cs (j + 1 + (n + 1)) = lV (cs.getD (j + 1 + n) 0) (cI cs (j + 1 + n)) + 1 := rfl
   omega
 have h1 := st (k - (j + 1))
 rw [show j + 1 + (k - (j + 1)) = k by omega] at h1
 have h2 := up (cs.getD k 0) (cI cs k)
 have h3 : cI cs (j + 1) = lV (cs.getD j 0) (cI cs j) + 1 := rfl
 omega
theorem yq (f : Fd) (cs : List Int) (n : Nat) : ((cy f cs n).map (·.own)).Nodup := by
 unfold cy
 rw [List.map_map]
 refine List.pairwise_map.mpr (List.Pairwise.imp (λ {a b} hab z => ?_) (List.nodup_range (n := n)))
 have z : lV (cs.getD a 0) (cI cs a) = lV (cs.getD b 0) (cI cs b) := z
 rcases Nat.lt_or_gt_of_ne hab with y | y
 ·have := Ad (cs := cs) y; omega
 ·have := Ad (cs := cs) y; omega
noncomputable def xr : SpT := λ _ as Φ _ => ∃ x y : Int, as = [.fz (.tup [.int x, .int y])] /\ 0 < y /\ My.Bd 3900 y /\ Φ (.fz (.int ((2 * x + y) / (2 * y))))
theorem hR (T : cD K mg t) : FO P w base T.q_zan 1 (bC K xr) := by
 refine T.q_zan.F.ok pP (aJ (λ B as Φ Ψ h => by obtain ⟨_, _, rfl, _⟩ := h; rfl)) (λ cdv A outer s H vs Q E hr h => ?_)
 obtain ⟨B, as, Φ, Ψ, rfl, hS, hx, go⟩ := aF h
 obtain ⟨x, y, rfl, hy, by_, φ⟩ := hS
 refine ⟨_, (aN (ah (ac dj (ac aO (ac dL ai (aa aC (pv 0) ai (λ _ _ => rfl))) (aa aC (pv 0) ai (λ _ _ => rfl))) (ac dL ai (aa aC (pv 0) ai (λ _ _ => rfl)))))), go _ _ (cX (τ := [.fz _]) rfl ?_)⟩
 have m2 : du (2 * y) := ((show My.Bd 2 2 by unfold My.Bd; decide).mul by_).mono (by decide)
 sl_open
theorem oX {x : Int} (hy : 0 < y) (e : My.qv x y = q) : (2 * x + y) / (2 * y) = dv q := by
 have hd : (0 : Int) < (q.den : Int) := Int.natCast_pos.mpr q.den_pos
 have e2 : My.qv q.num q.den = q := by
  show (q.num : Rat) / ((q.den : Int) : Rat) = q
  rw [<- Rat.divInt_eq_div]
  exact Rat.num_divInt_den q
 have h := My.eq_of_qv (by omega) (by omega) (e.trans e2.symm)
 unfold dv
 generalize q.num = n at *
 generalize (q.den : Int) = d at *
 have k1 : (2 * x + y) / (2 * y) = ((2 * x + y) * d) / ((2 * y) * d) := (Int.mul_ediv_mul_of_pos_left _ _ hd).symm
 have k2 : (2 * n + d) / (2 * d) = ((2 * n + d) * y) / ((2 * d) * y) := (Int.mul_ediv_mul_of_pos_left _ _ hy).symm
 rw [k1, k2]
 have a1 : (2 * x + y) * d = (2 * n + d) * y := by
  rw [Int.add_mul, Int.add_mul, Int.mul_assoc, Int.mul_assoc, h, Int.mul_comm y d]
 have a2 : 2 * y * d = 2 * d * y := by rw [Int.mul_assoc, Int.mul_assoc, Int.mul_comm y d]
 rw [a1, a2]
noncomputable def yX : SpT := λ _ as Φ _ => ∃ (f : Fd) (ws : List Str) (z : Str) (j : Nat), as = [.fz f.tr, .fz (.str z)] /\ f.sx = .ord ws f.w /\ eL (.ord ws f.w) /\ ia ws z = some j /\ Φ (.fz (.tup [.int (f.x0 + dv (fK ws f.w j)), .int (f.x0 + dv (fQ ws f.w j))]))
theorem uH (T : cD K mg t) : FO P w base T.q_zbk 2 (bC K yX) := by
 have G_zan := @hR P w K mg base t T
 refine T.q_zbk.F.ok gQ (aJ (λ B as Φ Ψ h => by obtain ⟨_, _, _, _, rfl, _⟩ := h; rfl)) (λ cdv A outer s H vs Q E hr h => ?_)
 obtain ⟨B, as, Φ, Ψ, rfl, hS, hx, go⟩ := aF h
 obtain ⟨f, ws, z, j, rfl, ew, ⟨k1, k2, k4, k5⟩, ej, φ⟩ := hS
 have hj : j < ws.length := (iL.mp (im ej).1).1
 have hm2 : ((ws.map Tr.str).length : Int) = (ws.length : Int) := by rw [b9]
 have w1 : My.Bd 3900 (10 * (ws.length : Int)) := (show My.Bd 40 (10 * (ws.length : Int)) by unfold My.Bd; omega).mono (by decide)
 have m1 : du (10 * (j : Int) + 1) := tE (by omega) (by omega)
 have m2 : du (10 * (j : Int) + 9) := tE (by omega) (by omega)
 have m3 : du f.w := tE (by omega) (by omega)
 have y0 : 0 < 10 * (ws.length : Int) := by omega
 refine ⟨_, (aG (aj (i := 2) gQ.nd rfl (Or.inl rfl) (aV bR rfl T.z_len PySem.boot_len (ae (aa aC (aa aC (pv 0) ai (λ _ _ => rfl)) ai (λ _ _ => rfl)) aA)))
 (aG (aj (i := 3) gQ.nd rfl (Or.inl rfl) (cH j4 PySem.F.slot_list_index PySem.F.type_list_index lW (aa aC (aa aC (pv 0) ai (λ _ _ => rfl)) ai (λ _ _ => rfl)) (ae (pv 1) aA)))
 (aG (aj (i := 4) gQ.nd rfl (Or.inl rfl) (aY G_zan hr T.q_zan (ae (aI (ae (ac az (ac aO (ac az ai (pv 3)) ai) (aa aC (pv 0) ai (λ _ _ => rfl))) (ae (ac az ai (pv 2)) aA))) aA)))
 (aN (ah (aI (ae (ac aO (aa aC (pv 0) ai (λ _ _ => rfl)) (pv 4)) (ae (ac aO (aa aC (pv 0) ai (λ _ _ => rfl)) (aY G_zan hr T.q_zan (ae (aI (ae (ac az (ac aO (ac az ai (pv 3)) ai) (aa aC (pv 0) ai (λ _ _ => rfl))) (ae (ac az ai (pv 2)) aA))) aA))) aA)))))))), go _ _ (cX (τ := [.fz _, .fz _, .no, .no, .no]) rfl ?_)⟩
 have ft : f.tr = .tup [.tup [.str "order", .lst (ws.map Tr.str), .int f.w], f.sy.tr, .int f.x0, .int f.y0, .int f.w, .int f.h] := by unfold Fd.tr; rw [ew]; rfl
 rw [ft]
 kd_mark
 rw [hm2]
 kd_mark
 refine sW rfl Rk.fz ej ?_
 kd_mark
 intro _ _
 refine ⟨_, _, rfl, y0, w1, ?_⟩
 kd_mark
 intro _ _
 refine ⟨_, _, rfl, y0, w1, ?_⟩
 kd_mark
 rw [oX y0 rfl, oX y0 rfl]
 exact φ
theorem FE {s t f : Int} (hb : 0 < b) (hd : 0 < d) (hf : 0 < f) (h : a * d < c * b) : 0 < f * (c * b - a * d) /\ My.qv (s * (f * (c * b - a * d)) + (e * b - a * f) * d * (t - s)) (f * (c * b - a * d)) = (s : Rat) + (My.qv e f - My.qv a b) / (My.qv c d - My.qv a b) * ((t - s : Int) : Rat) := by
 have h0 : 0 < c * b - a * d := by omega
 have n0 := My.cast_ne (n8 h0)
 have n1 := My.cast_ne (n8 hf)
 have n2 := My.cast_ne (n8 hb)
 have n3 := My.cast_ne (n8 hd)
 refine ⟨lC hf h0, ?_⟩
 have e1 : My.qv c d - My.qv a b = ((c * b - a * d : Int) : Rat) / ((d : Rat) * (b : Rat)) := by
  rw [Rat.intCast_sub, kU, kU]
  unfold My.qv
  grind
 have e2 : My.qv e f - My.qv a b = ((e * b - a * f : Int) : Rat) / ((f : Rat) * (b : Rat)) := by
  rw [Rat.intCast_sub, kU, kU]
  unfold My.qv
  grind
 rw [e1, e2]
 unfold My.qv
 rw [Rat.intCast_add, kU, kU, kU, kU]
 generalize ((c * b - a * d : Int) : Rat) = M at *
 generalize ((e * b - a * f : Int) : Rat) = U at *
 generalize ((t - s : Int) : Rat) = W at *
 have n4 : (f : Rat) * M ≠ 0 := by grind
 have n5 : (f : Rat) * (b : Rat) ≠ 0 := by grind
 have n6 : (d : Rat) * (b : Rat) ≠ 0 := by grind
 grind
noncomputable def Iw (a b c d len : Int) (q : Rat) : Int := (q.num * b - a * (q.den : Int)) * d * len
noncomputable def Fp (a b c d : Int) (q : Rat) : Int := (q.den : Int) * (c * b - a * d)
noncomputable def BK (a b c d len : Int) (q : Rat) : Tr := if pH q.num (q.den : Int) a b c d = true then .tup [.int (Iw a b c d len q), .int (Fp a b c d q)] else .non
theorem EA {len : Int} (hs : eL (.str a b c d len)) (hq : QN 1100 q) : 0 < Fp a b c d q /\ My.Bd 3900 (Fp a b c d q) /\ My.qv (Iw a b c d len q) (Fp a b c d q) = (q - My.qv a b) / (My.qv c d - My.qv a b) * (len : Rat) := by
 obtain ⟨k1, k2, k3, k4, k5⟩ := hs
 have := FE (e := q.num) (f := (q.den : Int)) (s := 0) (t := len) k1.pos k2.pos (den_pos q) k3
 obtain ⟨h1, h2⟩ := this
 refine ⟨h1, (hq.b.mul ((k2.ba.mul k1.bb).sub (k1.ba.mul k2.bb))).mono (by decide), ?_⟩
 rw [de, Int.zero_mul, Int.zero_add, Int.sub_zero, show ((0 : Int) : Rat) = 0 from rfl, Rat.zero_add] at h2
 exact h2
noncomputable def yx : SpT := λ _ as Φ _ => ∃ (a b c d len : Int) (q : Rat), as = [.fz (Sc.str a b c d len).tr, .fz (ci q)] /\ eL (.str a b c d len) /\ QN 1100 q /\ Φ (.fz (BK a b c d len q))
theorem tw (T : cD K mg t) : FO P w base T.q_zao 1 (bC K yx) := by
 refine T.q_zao.F.ok fi (aJ (λ B as Φ Ψ h => by obtain ⟨_, _, _, _, _, _, rfl, _⟩ := h; rfl)) (λ cdv A outer s H vs Q E hr h => ?_)
 obtain ⟨B, as, Φ, Ψ, rfl, hS, hx, go⟩ := aF h
 obtain ⟨a, b, c, d, len, q, rfl, ⟨k1, k2, k3, k4, k5⟩, hq, φ⟩ := hS
 have ba : My.Bd 260 a := k1.ba
 have bb : My.Bd 260 b := k1.bb
 have bc : My.Bd 260 c := k2.ba
 have bd : My.Bd 260 d := k2.bb
 have qa : My.Bd 1100 q.num := hq.a
 have qb : My.Bd 1100 (q.den : Int) := hq.b
 have bl : My.Bd 13 len := by unfold My.Bd; omega
 unfold BK Iw Fp at φ
 refine ⟨_, (aG (aj (i := 2) fi.nd rfl (Or.inl rfl) (aa aC (pv 0) ai (λ _ _ => rfl)))
 (aG (aj (i := 3) fi.nd rfl (Or.inl rfl) (aa aC (pv 0) ai (λ _ _ => rfl)))
 (aG (aE (PW.pt (tJ (ak jj (ac az (aa aC (pv 1) ai (λ _ _ => rfl)) (aa aC (pv 2) ai (λ _ _ => rfl))) (ac az (aa aC (pv 2) ai (λ _ _ => rfl)) (aa aC (pv 1) ai (λ _ _ => rfl))) (ao _)) (lN (ak jj (ac az (aa aC (pv 3) ai (λ _ _ => rfl)) (aa aC (pv 1) ai (λ _ _ => rfl))) (ac az (aa aC (pv 1) ai (λ _ _ => rfl)) (aa aC (pv 3) ai (λ _ _ => rfl))) (ao _))))) (aN (ah bM)) aq)
 (aG (aj (i := 4) fi.nd rfl (Or.inl rfl) (ac az (ac az (ac cN (ac az (aa aC (pv 1) ai (λ _ _ => rfl)) (aa aC (pv 2) ai (λ _ _ => rfl))) (ac az (aa aC (pv 2) ai (λ _ _ => rfl)) (aa aC (pv 1) ai (λ _ _ => rfl)))) (aa aC (pv 3) ai (λ _ _ => rfl))) (aa aC (pv 0) ai (λ _ _ => rfl))))
 (aN (ah (aI (ae (pv 4) (ae (ac az (aa aC (pv 1) ai (λ _ _ => rfl)) (ac cN (ac az (aa aC (pv 3) ai (λ _ _ => rfl)) (aa aC (pv 2) ai (λ _ _ => rfl))) (ac az (aa aC (pv 2) ai (λ _ _ => rfl)) (aa aC (pv 3) ai (λ _ _ => rfl))))) aA))))))))), go _ _ (cX (τ := [.fz _, .fz _, .no, .no, .no]) rfl ?_)⟩
 unfold ci N2
 generalize q.num = x at *
 generalize (q.den : Int) = y at *
 rw [show (Sc.str a b c d len).tr = .tup [.str "straight", .tup [.int a, .int b], .tup [.int c, .int d], .int len] from rfl]
 kd_mark
 unfold pH at φ
 refine aK (λ h1 => ?_) (λ h1 => ?_)
 ·rw [nS h1] at φ
  refine fV ?_
  sl_open
 rw [kv h1] at φ
 kd_mark
 refine aK (λ h2 => ?_) (λ h2 => ?_)
 ·rw [nS h2] at φ
  sl_open
 rw [kv h2] at φ
 sl_open
noncomputable def ck (f : Fd) (side : Str) (e0 e1 : Int) (s : HSt) (i : Itm) : HSt := if i.y.yv.num < 0 then ⟨s.tot, s.beg, s.ms, s.ls ++ [bH i "y" "below"]⟩ else ca f side e0 e1 s i
noncomputable def dF (f : Fd) (side : Str) (e0 e1 : Int) (ts : List Tr) (is : List Itm) : HSt := is.foldl (ck f side e0 e1) ⟨0, dZ f, [], ts⟩
theorem zU {len : Int} (hs : eL (.str a b c d len)) : mF (.str a b c d len) = match qP a b c d len 0 with
  | .at q => q
  | .tx _ => 0 := by
 unfold mF
 have : Db (.str a b c d len) (.num 0 1) = qP a b c d len 0 := my hs Ej (by
  show qP a b c d len 0 = if pH 0 1 a b c d = true then _ else _
  unfold qP
  rw [Ch]
  rfl)
 rw [this]
 all_goals (cases qP a b c d len 0 <;> rfl)
theorem EF {len : Int} (h : ¬ pH q.num (q.den : Int) a b c d = true) : qP a b c d len q = .tx "outside" := by unfold qP; rw [gV h]
theorem EH {len : Int} (h : pH q.num (q.den : Int) a b c d = true) : qP a b c d len q = .at ((q - My.qv a b) / (My.qv c d - My.qv a b) * (len : Rat)) := by unfold qP; rw [h9 h]
theorem FA {k : Nat} {r : Addr} {s : TS} {N nx : TSt -> Prop} (h : SA B k r s τ N) (g : ∀ τ', N τ' -> nx τ') : SA B k r s τ nx := λ D Z F H rp a e => h D Z F H rp a λ σ' F' H' τ' s' r' a' n => e σ' F' H' τ' s' r' a' (g τ' n)
noncomputable def AI : SpO := λ B as ts Φ => ∃ (f : Fd) (ws : List Str) (side : Str) (z : Str) (j : Nat) (is : List Itm), as = [.fz f.tr, .fz (.str side), .fz (.lst (is.map Itm.tr))] /\ HW f /\ f.sx = .ord ws f.w /\ ia ws z = some j /\ is.length <= 60 /\ ts.length <= 9000 /\ (∀ i ∈ is, HQ f z i) /\
 Φ (dF f side (f.x0 + dv (fK ws f.w j)) (f.x0 + dv (fQ ws f.w j)) ts is).ms (dF f side (f.x0 + dv (fK ws f.w j)) (f.x0 + dv (fQ ws f.w j)) ts is).ls
theorem uV (T : cD K mg t) : FO P w base T.q_zbl 4 (wK K AI) := by
 have G_zao := @tw P w K mg base t T
 have G_zan := @hR P w K mg base t T
 have G_zaf := @fo P w K mg base t T
 have G_zbk := @uH P w K mg base t T
 refine T.q_zbl.F.ok aP (xu (n := 3) (λ B as ts Φ h => by obtain ⟨_, _, _, _, _, _, rfl, _⟩ := h; rfl)) (λ cdv A outer s H vs Q E hr h => ?_)
 obtain ⟨B, as, r, ts, Φ, rfl, hS, go⟩ := tX h
 obtain ⟨f, ws, side, z, j, is, rfl, hf, ef, ej, hl, hts, hi, φ⟩ := hS
 obtain ⟨a, b, c', d, len, ey, bb, bd⟩ := hf.y
 have oky := hf.k.y
 have okx := hf.k.x
 rw [ey] at oky
 rw [ef] at okx
 have hD : f.sy.dd = b * d := by rw [ey]; rfl
 have D0 : 0 < b * d := lC oky.1.pos oky.2.1.pos
 have DB : My.Bd 120 (b * d) := bb.mul bd
 have q0 : QN 1100 (0 : Rat) := ⟨(show My.Bd 1 0 by unfold My.Bd; decide).mono (by decide), (show My.Bd 2 1 by unfold My.Bd; decide).mono (by decide)⟩
 have bs : dZ f = f.y0 + f.h - dv (match qP a b c' d len 0 with
  | .at q => q
  | .tx _ => 0) := by unfold dZ; rw [ey, zU oky]
 refine ⟨_, (aG (aj (i := 4) aP.nd rfl (Or.inl rfl) (aW aA))
 (aG (aj (i := 5) aP.nd rfl (Or.inl rfl) (ac aO (aa aC (pv 0) ai (λ _ _ => rfl)) (aa aC (pv 0) ai (λ _ _ => rfl))))
 (aG (aj (i := 6) aP.nd rfl (Or.inl rfl) (aI (ae ai (ae ai aA))))
 (aG (aj (i := 7) aP.nd rfl (Or.inl rfl) (pv 5))
 (aG (aE (ak mL (aY G_zao hr T.q_zao (ae (aa aC (pv 0) ai (λ _ _ => rfl)) (ae (pv 6) aA))) bM (ao _)) (aN (aj (i := 7) aP.nd rfl (Or.inl rfl) (ac cN (pv 5) (aY G_zan hr T.q_zan (ae (aY G_zao hr T.q_zao (ae (aa aC (pv 0) ai (λ _ _ => rfl)) (ae (pv 6) aA))) aA))))) aq)
 (aG (dN oS rfl (cc (pv 2)) (qy rfl (bE (aM (i := 8) aP.nd rfl (Or.inl rfl)) (bE (aM (i := 9) aP.nd rfl (Or.inl rfl)) (bE (aM (i := 10) aP.nd rfl (Or.inl rfl)) (bE (aM (i := 11) aP.nd rfl (Or.inl rfl)) (bE (aM (i := 12) aP.nd rfl (Or.inl rfl)) (bE (aM (i := 13) aP.nd rfl (Or.inl rfl)) (bE (aM (i := 14) aP.nd rfl (Or.inl rfl)) lc)))))))) (aG (aj (i := 15) aP.nd rfl (Or.inl rfl) (aY G_zaf hr T.q_zaf (ae (pv 6) (ae (pv 10) aA))))
 (aN (aE (ak jj (aa aC (pv 10) ai (λ _ _ => rfl)) ai (ao _)) (aN (bp (cH j4 ml mv aQ (pv 3) (ae (aI (ae (pv 8) (ae au (ae au aA)))) aA)))) (aN (aE (ak cG (aY G_zao hr T.q_zao (ae (aa aC (pv 0) ai (λ _ _ => rfl)) (ae (pv 15) aA))) bM (ao _)) (aN (bp (cH j4 ml mv aQ (pv 3) (ae (aI (ae (pv 8) (ae au (ae au aA)))) aA)))) (aG (aj (i := 16) aP.nd rfl (Or.inl rfl) (aY G_zbk hr T.q_zbk (ae (pv 0) (ae (pv 9) aA))))
 (aG (aj (i := 6) aP.nd rfl (Or.inl rfl) (pv 15))
 (aG (aj (i := 17) aP.nd rfl (Or.inl rfl) (pv 7))
 (aG (aj (i := 7) aP.nd rfl (Or.inl rfl) (ac cN (pv 5) (aY G_zan hr T.q_zan (ae (aY G_zao hr T.q_zao (ae (aa aC (pv 0) ai (λ _ _ => rfl)) (ae (pv 6) aA))) aA))))
 (aN (bp (cH j4 ml mv aQ (pv 4) (ae (aI (ae (aI (ae au (ae (pv 1) (ae (aa aC (pv 16) ai (λ _ _ => rfl)) (ae (aa aC (pv 16) ai (λ _ _ => rfl)) (ae (pv 17) (ae (pv 7) (ae (pv 13) aA)))))))) (ae (aW (ae (pv 8) aA)) aA))) aA))))))))))))))
 (aN (ah (pv 4))))))))), go _ _ _ (show 3 < 18 by decide) rfl ?_⟩
 show IB B 3 r _ [.fz f.tr, .fz (.str side), .fz (.lst (is.map Itm.tr)), .own (.lst ts), .no, .no, .no, .no, .no, .no, .no, .no, .no, .no, .no, .no, .no, .no] Φ
 refine gP (eG (bT (by decide)) ?_)
 kd_mark
 refine gP (eG (bT (by decide)) ?_)
 kd_mark
 refine gP (eG (bT (by decide)) ?_)
 kd_mark
 refine gP (eG (bT (by decide)) ?_)
 kd_mark
 refine gP (FA (N := λ τ' => τ' = [.fz f.tr, .fz (.str side), .fz (.lst (is.map Itm.tr)), .own (.lst ts), .own (.lst []), .fz (.int (f.y0 + f.h)), .fz (ci 0), .fz (.int (dZ f)), .no, .no, .no, .no, .no, .no, .no, .no, .no, .no]) (zd ?_) ?_)
 ·kd_mark
  intro _ _
  refine ⟨a, b, c', d, len, 0, by rw [ey]; rfl, oky, q0, ?_⟩
  by_cases hin : pH (0 : Rat).num ((0 : Rat).den : Int) a b c' d = true
  ·obtain ⟨y0, y1, y2⟩ := EA oky q0
   have el : BK a b c' d len 0 = .tup [.int (Iw a b c' d len 0), .int (Fp a b c' d 0)] := by unfold BK; rw [h9 hin]
   rw [EH hin] at bs
   rw [el]
   kd_mark
   refine eG (bT (by decide)) ?_
   kd_mark
   intro _ _
   refine ⟨a, b, c', d, len, 0, by rw [ey]; rfl, oky, q0, ?_⟩
   rw [el]
   kd_mark
   intro _ _
   refine ⟨_, _, rfl, y0, y1, ?_⟩
   rw [oX y0 y2]
   kd_mark
   rw [bs]
   rfl
  ·have el : BK a b c' d len 0 = .non := by unfold BK; rw [gV hin]
   rw [EF hin] at bs
   rw [el]
   kd_mark
   refine Do ?_
   rw [bs, show dv 0 = 0 from rfl, Int.sub_zero]
   rfl
 rintro τ' rfl
 have tk : ∀ n (y : Itm), is[n]? = some y -> is.take (n + 1) = is.take n ++ [y] := λ n y e => by rw [List.take_succ, e]; rfl
 generalize hA : f.x0 + dv (fK ws f.w j) = eA at *
 generalize hE : f.x0 + dv (fQ ws f.w j) = eB at *
 refine gP (Gg (AZ (cZ (by decide) (cZ (by decide) (cZ (by decide) (cZ (by decide) (cZ (by decide) (cZ (by decide) (cZ (by decide) Bv)))))))) (fX rfl ?_))
 kd_mark
 refine ⟨λ n τ => ∃ (st : HSt) (u1 u2 u3 u4 u5 u6 u7 u8 u9 u10 : Sl), τ = [.fz f.tr, .fz (.str side), .fz (.lst (is.map Itm.tr)), .own (.lst st.ls), .own (.lst st.ms), .fz (.int (f.y0 + f.h)), .fz (ci st.tot), .fz (.int st.beg), u1, u2, u3, u4, u5, u6, u7, u8, u9, u10] /\ st = dF f side eA eB ts (is.take n) /\ (∃ k, k <= n /\ xK (b * d) k st.tot) /\ st.ms.length <= n /\ st.ls.length <= ts.length + n, ⟨⟨0, dZ f, [], ts⟩, _, _, _, _, _, _, _, _, _, _, rfl, rfl, ⟨0, eT _, tj _⟩, eT _, eT _⟩, ?_, ?_⟩
 ·rintro n tt τ hj ⟨⟨tot, beg, ms, ls⟩, u1, u2, u3, u4, u5, u6, u7, u8, u9, u10, rfl, hst, ⟨k, hk, ht⟩, m1, m2⟩
  have m1 : ms.length <= n := m1
  have m2 : ls.length <= ts.length + n := m2
  obtain ⟨it, ei, rfl⟩ := aS hj
  have hn : n < is.length := (iL.mp ei).1
  have hit := hi it (i8 ei)
  obtain ⟨v, ev, hv⟩ := hit.y
  rw [hD] at hv
  have yv : it.y.yv = v := by rw [ev]; exact de v
  have hq1 := pZ D0 DB (by omega) ht
  have ht2 := wE D0 DB ht hv
  have hq2 := pZ D0 DB (by omega) ht2
  have hvq : QN 260 v := by
   have h := hit.k.y
   rw [ey, ev] at h
   exact ⟨h.ba, h.bb⟩
  have hs : dF f side eA eB ts (is.take (n + 1)) = ck f side eA eB ⟨tot, beg, ms, ls⟩ it := by
   rw [tk n it ei]
   unfold dF
   rw [List.foldl_append]
   show ck f side eA eB (dF f side eA eB ts (is.take n)) it = _
   rw [<- hst]
  have pe : LO f.sy (tot + v) = qP a b c' d len (tot + v) := by rw [ey]; rfl
  unfold ck ca at hs
  dsimp only at hs ⊢
  rw [yv, pe] at hs
  have wl1 : ms.length <= 10000 := lS m1 (by omega)
  have wl2 : ls.length <= 10000 := lS m2 (by omega)
  have ity : it.tr = .tup [.int it.own, .str z, ci v, it.o.tr, .int it.rank, .int it.col, .int it.siz] := by unfold Itm.tr; rw [ev, hit.x]; rfl
  rw [ity]
  kd_mark
  refine lZ (eG (bT (by decide)) ?_)
  kd_mark
  intro _ _
  refine lB (x := rp tot) (y := rp v) (Eo hq1) (Eo hvq) (by decide) ?_
  rw [DZ]
  kd_mark
  refine zd ?_
  kd_mark
  refine aK (λ hc => ?_) (λ hc => ?_)
  ·rw [h9 hc] at hs
   refine pL ?_
   kd_mark
   exact ⟨⟨tot, beg, ms, ls ++ [bH it "y" "below"]⟩, _, _, _, _, _, _, _, _, _, _, rfl, hs.symm, ⟨k, Nat.le_succ_of_le hk, ht⟩, Nat.le_succ_of_le m1, by rw [fI]; show ls.length + 1 <= _; omega⟩
  rw [gV hc] at hs
  refine zd ?_
  kd_mark
  intro _ _
  refine ⟨a, b, c', d, len, tot + v, by rw [ey], oky, hq2, ?_⟩
  by_cases hin : pH (tot + v).num ((tot + v).den : Int) a b c' d = true
  ·obtain ⟨y0, y1, y2⟩ := EA oky hq2
   have el : BK a b c' d len (tot + v) = .tup [.int (Iw a b c' d len (tot + v)), .int (Fp a b c' d (tot + v))] := by unfold BK; rw [h9 hin]
   rw [EH hin] at hs
   dsimp only at hs
   rw [el]
   kd_mark
   refine lZ (eG (bT (by decide)) ?_)
   kd_mark
   intro _ _
   refine ⟨f, ws, z, j, rfl, ef, okx, ej, ?_⟩
   rw [hA, hE]
   kd_mark
   refine lZ (eG (bT (by decide)) ?_)
   kd_mark
   refine lZ (eG (bT (by decide)) ?_)
   kd_mark
   refine lZ (eG (bT (by decide)) ?_)
   kd_mark
   intro _ _
   refine ⟨a, b, c', d, len, tot + v, by rw [ey], oky, hq2, ?_⟩
   rw [el]
   kd_mark
   intro _ _
   refine ⟨_, _, rfl, y0, y1, ?_⟩
   rw [oX y0 y2]
   kd_mark
   refine pL ?_
   kd_mark
   exact ⟨⟨tot + v, f.y0 + f.h - dv ((tot + v - My.qv a b) / (My.qv c' d - My.qv a b) * (len : Rat)), ms ++ [xc side eA eB beg (f.y0 + f.h - dv ((tot + v - My.qv a b) / (My.qv c' d - My.qv a b) * (len : Rat))) it], ls⟩, _, _, _, _, _, _, _, _, _, _, rfl, hs.symm, ⟨k + 1, Nat.succ_le_succ hk, ht2⟩, by rw [fI]; exact Nat.succ_le_succ m1, Nat.le_succ_of_le m2⟩
  ·have el : BK a b c' d len (tot + v) = .non := by unfold BK; rw [gV hin]
   rw [EF hin] at hs
   dsimp only at hs
   rw [el]
   kd_mark
   refine pL ?_
   kd_mark
   exact ⟨⟨tot, beg, ms, ls ++ [bH it "y" "outside"]⟩, _, _, _, _, _, _, _, _, _, _, rfl, hs.symm, ⟨k, Nat.le_succ_of_le hk, ht⟩, Nat.le_succ_of_le m1, by rw [fI]; show ls.length + 1 <= _; omega⟩
 ·rintro τ ⟨⟨tot, beg, ms, ls⟩, u1, u2, u3, u4, u5, u6, u7, u8, u9, u10, rfl, hst, _, _, _⟩
  rw [b9, List.take_length] at hst
  rw [<- hst] at φ
  exact Cj (by kt_join) (by kt_join) (by decide) φ
noncomputable def bW (ws : List Str) (i : Itm) : Option Tr := match dl ws i with
 | some t => some t
 | none => match i.y with
  | .num _ _ => none
  | _ => some (bH i "y" "nothing")
noncomputable def yz (i : Itm) : Tr := .tup [.int i.rank, .int i.own, i.tr]
noncomputable def bJ (ws : List Str) (is : List Itm) : List Itm := is.filter λ i => (bW ws i).isNone
theorem jf (ef : f.sx = .ord ws f.w) (hi : wV f i) (h : bW ws i = none) : ∃ z, z ∈ ws /\ HQ f z i := by
 unfold bW at h
 cases e : dl ws i with
 | some t => rw [e] at h; cases h
 | none =>
  rw [e] at h
  have hx := hi.k.x
  rw [ef] at hx
  unfold dl at e
  cases ex : i.x with
  | no => rw [ex] at e; cases e
  | num a b => rw [ex] at hx; exact hx.elim
  | day c => rw [ex] at hx; exact hx.elim
  | wd z =>
   rw [ex] at e
   have e : (if z ∈ ws then none else some (bH i "x" "unknown")) = none := e
   by_cases hz : z ∈ ws
   ·rcases hi.y with y | ⟨v, y, hv⟩
    ·rw [y] at h; cases h
    ·exact ⟨z, hz, hi.k, ex, v, y, hv⟩
   ·rw [gV hz] at e; cases e
noncomputable def kO : Pos := match (bx iT) with
 | [_, _, _, _, .Assign _ (.Call _ _ [⟨_, .Lambda _ _ _ p, _⟩] _) _, _, _] => p
 | _ => ⟨0, 0, 0, 0⟩
noncomputable def jd : Str := ("_law_due" : Str) ++ ".<locals>." ++ "<lambda>"
theorem nC (is : List Itm) : (dF f side a b ts is).ms = (dF f side a b [] is).ms /\ (dF f side a b ts is).ls = ts ++ (dF f side a b [] is).ls := by
 have key : ∀ (is : List Itm) (tot : Rat) (beg : Int) (ms l1 l2 : List Tr), (is.foldl (ck f side a b) ⟨tot, beg, ms, l1 ++ l2⟩).ms = (is.foldl (ck f side a b) ⟨tot, beg, ms, l2⟩).ms /\ (is.foldl (ck f side a b) ⟨tot, beg, ms, l1 ++ l2⟩).ls = l1 ++ (is.foldl (ck f side a b) ⟨tot, beg, ms, l2⟩).ls := by
  intro is
  induction is with
  | nil => intro tot beg ms l1 l2; exact ⟨rfl, rfl⟩
  | cons i r ih =>
   intro tot beg ms l1 l2
   rw [rm, rm]
   unfold ck ca
   dsimp only
   split
   ·rw [m7]; exact ih _ _ _ _ _
   ·split
    ·rw [m7]; exact ih _ _ _ _ _
    ·exact ih _ _ _ _ _
 have := key is 0 (dZ f) [] ts []
 rw [o7] at this
 exact this
theorem ng (is : List Itm) : (dF f side a b [] is).ms.length <= is.length /\ (dF f side a b [] is).ls.length <= is.length := by
 have key : ∀ (is : List Itm) (st : HSt), (is.foldl (ck f side a b) st).ms.length <= st.ms.length + is.length /\ (is.foldl (ck f side a b) st).ls.length <= st.ls.length + is.length := by
  intro is
  induction is with
  | nil => intro st; exact ⟨eT _, eT _⟩
  | cons i r ih =>
   intro st
   obtain ⟨h1, h2⟩ := ih (ck f side a b st i)
   have h3 : (ck f side a b st i).ms.length <= st.ms.length + 1 /\ (ck f side a b st i).ls.length <= st.ls.length + 1 := by
    unfold ck ca
    split
    ·exact ⟨Nat.le_succ _, by rw [fI]; exact eT _⟩
    ·split
     ·exact ⟨Nat.le_succ _, by rw [fI]; exact eT _⟩
     ·exact ⟨by rw [fI]; exact eT _, Nat.le_succ _⟩
   rw [rm, lH]
   omega
 have := key is ⟨0, dZ f, [], []⟩
 simpa [dF] using this
noncomputable def dC (f : Fd) (ws : List Str) (side : Str) (ys : List Itm) (z : Str) : HSt := dF f side (f.x0 + dv (fK ws f.w ((ia ws z).getD 0))) (f.x0 + dv (fQ ws f.w ((ia ws z).getD 0))) [] (ys.filter λ i => decide (aB i.x = z))
noncomputable def kM (f : Fd) (ws : List Str) (side : Str) (is : List Itm) : List Tr := ws.flatMap λ z => (dC f ws side (bX (bJ ws is)) z).ms
noncomputable def kN (f : Fd) (ws : List Str) (side : Str) (is : List Itm) : List Tr := is.filterMap (bW ws) ++ ws.flatMap λ z => (dC f ws side (bX (bJ ws is)) z).ls
noncomputable def Gs (Pt : Addr) : SpT := λ B as Φ _ => ∃ (f : Fd) (ws : List Str) (side : Str) (is : List Itm), as = [.fz f.tr, .fz (.str side), .fz (.lst (is.map Itm.tr))] /\ cw Pt kO jd B /\ HW f /\ f.sx = .ord ws f.w /\ ws.Nodup /\ is.length <= 60 /\ (∀ i ∈ is, wV f i) /\ (is.map (·.own)).Nodup /\
 ((kN f ws side is).map fk).Nodup /\ (kN f ws side is).length <= 60 /\ (∀ t ∈ kN f ws side is, lq t) /\
 ∀ us, bY rO ((kN f ws side is).map fk) (kN f ws side is) us -> Φ (.fz (.tup [.lst (kM f ws side is), .lst us]))
theorem xU (T : cD K mg t) (hB : L2.BMods mg base) : cr P w K mg base nD 5 t.f_za5 t.d_za5 ["_law_field_here", "_law_side", "_law_items_here"] (bC K (Gs t.tab1)) := by
 have G_zbl := @uV P w K mg base t T
 obtain ⟨c, ec, hC⟩ := L2.codeHdT_of T.tb1
 refine T.q_za5.F.okC dk (aJ (λ B as Φ Ψ h => by obtain ⟨_, _, _, _, rfl, _⟩ := h; rfl)) (λ A outer s H vs Q E hr h => ?_)
 obtain ⟨B, as, Φ, Ψ, rfl, hS, hx, go⟩ := aF h
 obtain ⟨f, ws, side, is, rfl, hT, hf, ef, nd, hl, hi, hown, d1, d2, d3, φ⟩ := hS
 have okx := hf.k.x
 have okx2 := okx
 rw [ef] at okx2
 obtain ⟨w1, w2, _, _⟩ := okx2
 have ft : ∃ ts, f.tr = .tup ts /\ fG ts 0 = some (.tup [.str "order", .lst (ws.map Tr.str), .int f.w]) := ⟨_, rfl, by rw [ef]; rfl⟩
 refine ⟨_, (aG (aj (i := 3) dk.nd rfl (Or.inl rfl) (aW aA))
 (aG (aj (i := 4) dk.nd rfl (Or.inl rfl) (aW aA))
 (aG (dN oS rfl (cc (pv 2)) (aM (i := 5) dk.nd rfl (Or.inl rfl)) (aN (aE (ak cG (aa aC (pv 5) ai (λ _ _ => rfl)) bM (ao _)) (aN (bp (cH j4 ml mv aQ (pv 3) (ae (aI (ae (aa aC (pv 5) ai (λ _ _ => rfl)) (ae au (ae au aA)))) aA)))) (aN (aE (ak iV (aa aC (pv 5) ai (λ _ _ => rfl)) (aa aC (aa aC (pv 0) ai (λ _ _ => rfl)) ai (λ _ _ => rfl)) rfl) (aN (bp (cH j4 ml mv aQ (pv 3) (ae (aI (ae (aa aC (pv 5) ai (λ _ _ => rfl)) (ae au (ae au aA)))) aA)))) (aN (aE (ak cG (aa aC (pv 5) ai (λ _ _ => rfl)) bM (ao _)) (aN (bp (cH j4 ml mv aQ (pv 3) (ae (aI (ae (aa aC (pv 5) ai (λ _ _ => rfl)) (ae au (ae au aA)))) aA)))) (aN (bp (cH j4 ml mv aQ (pv 4) (ae (aI (ae (aa aC (pv 5) ai (λ _ _ => rfl)) (ae (aa aC (pv 5) ai (λ _ _ => rfl)) (ae (pv 5) aA)))) aA)))))))))))
 (aG (aj (i := 6) dk.nd rfl (Or.inl rfl) (aW aA))
 (aG (aj (i := 4) dk.nd rfl (Or.inl rfl) (tO hr rfl T.z_sorted (pv 4) ⟨rfl, rfl, rfl, by decide +kernel, rfl⟩ ec hC hB rfl (vS rfl) (Ai rfl) (λ _ _ _ _ _ _ _ => rfl) (λ _ _ _ _ _ _ _ => (aI (ae (aa (r := kb B.K) aC (pv 0) ai (λ _ _ => rfl)) (ae (aa (r := kb B.K) aC (pv 0) ai (λ _ _ => rfl)) aA))))))
 (aG (dN oS rfl (cc (aa aC (aa aC (pv 0) ai (λ _ _ => rfl)) ai (λ _ _ => rfl))) (aM (i := 7) dk.nd rfl (Or.inr rfl)) (aN (aj (i := 6) dk.nd rfl (Or.inl rfl) (ac gF (pv 6) (aY G_zbl hr T.q_zbl (ae (pv 0) (ae (pv 1) (ae (Aj (fr := [("_law_word", 7)]) rfl (rX (osc := af iT) (N := ["_law_field_here", "_law_side", "_law_items_here", "_law_lost", "_law_kept", "_law_item", "_law_marks", "_law_word"]) rfl rfl (by decide +kernel) (by decide +kernel) (by decide +kernel) (by decide) (by decide) (by decide)) (cc (pv 4)) (λ _ _ _ _ _ => (ak aT (aa (r := kb B.K) aC (pv 2) ai (λ _ _ => rfl)) (pv 3) (ao _))) (λ _ _ _ _ _ => (pv 2))) (ae (pv 3) aA)))))))))
 (aN (ah (aI (ae (pv 6) (ae (aV nO rfl T.z_sorted og (ae (pv 3) aA)) aA))))))))))), go _ _ (cX (τ := [.fz _, .fz _, .fz _, .no, .no, .no, .no, .no]) rfl ?_)⟩
 kd_mark
 refine ⟨λ n τ => ∃ u1 : Sl, τ = [.fz f.tr, .fz (.str side), .fz (.lst (is.map Itm.tr)), .own (.lst ((is.take n).filterMap (bW ws))), .own (.lst (((is.take n).filter λ i => (bW ws i).isNone).map yz)), u1, .no, .no], ⟨_, rfl⟩, ?_, ?_⟩
 ·rintro n tt τ hj ⟨u1, rfl⟩
  obtain ⟨it, ei, rfl⟩ := aS hj
  have hn : n < is.length := (iL.mp ei).1
  have hit := hi it (i8 ei)
  have hfx := hit.k.x
  rw [ef] at hfx
  have tk : is.take (n + 1) = is.take n ++ [it] := by rw [List.take_succ, ei]; rfl
  have wl1 : ((is.take n).filterMap (bW ws)).length <= 10000 := lS (List.length_filterMap_le _ _) (by rw [List.length_take]; omega)
  have wl2 : (((is.take n).filter λ i => (bW ws i).isNone).map yz).length <= 10000 := by rw [b9]; exact lS (List.length_filter_le _ _) (by rw [List.length_take]; omega)
  simp only [tk, List.filterMap_append, List.filter_append, oD, o8, List.filterMap_nil, o4, List.filter_nil]
  have ity : it.tr = .tup [.int it.own, it.x.tr, it.y.tr, it.o.tr, .int it.rank, .int it.col, .int it.siz] := rfl
  cases hx : it.x with
  | num a b => rw [hx] at hfx; exact hfx.elim
  | day c => rw [hx] at hfx; exact hfx.elim
  | no =>
   have e1 : bW ws it = some (bH it "x" "nothing") := by unfold bW dl; rw [hx]
   rw [e1]
   simp only [Option.isNone_some, qx, if_false, List.map_nil, o7]
   rw [ity, hx]
   kd_mark
   exact ⟨_, rfl⟩
  | wd z =>
   rw [ity, hx, show (Ce.wd z).tr = .str z from rfl]
   kd_mark
   rw [ef, show (Sc.ord ws f.w).tr = .tup [.str "order", .lst (ws.map Tr.str), .int f.w] from rfl]
   kd_mark
   refine zM rfl Rk.fz ?_
   kd_mark
   refine qF (λ hz => ?_) (λ hz => ?_)
   ·have hm : z ∈ ws := of_decide_eq_true hz
    have lx : dl ws it = none := by unfold dl; rw [hx]; exact h9 hm
    rcases hit.y with y | ⟨v, y, hv⟩
    ·have e1 : bW ws it = some (bH it "y" "nothing") := by unfold bW; rw [lx, y]
     rw [e1]
     simp only [Option.isNone_some, qx, if_false, List.map_nil, o7]
     rw [y]
     kd_mark
     exact ⟨_, rfl⟩
    ·have e1 : bW ws it = none := by unfold bW; rw [lx, y]
     rw [e1]
     simp only [Option.isNone_none, if_true, j8, List.map_nil, o7]
     have r1 : yz it = .tup [.int it.rank, .int it.own, .tup [.int it.own, .str z, N2 v.num (v.den : Int), it.o.tr, .int it.rank, .int it.col, .int it.siz]] := by unfold yz; rw [ity, hx, y]; rfl
     rw [r1, y, show (Ce.num v.num (v.den : Int)).tr = N2 v.num (v.den : Int) from rfl]
     kd_mark
     exact ⟨_, rfl⟩
   ·have hm : z ∉ ws := of_decide_eq_false hz
    have e1 : bW ws it = some (bH it "x" "unknown") := by
     have lx : dl ws it = some (bH it "x" "unknown") := by unfold dl; rw [hx]; exact gV hm
     unfold bW; rw [lx]
    rw [e1]
    simp only [Option.isNone_some, qx, if_false, List.map_nil, o7]
    kd_mark
    exact ⟨_, rfl⟩
 ·rintro τ ⟨u1, rfl⟩
  rw [b9, List.take_length]
  change SV B _ [_, _, _, _, .own (.lst ((bJ ws is).map yz)), _, _, _] _
  have kl : (bJ ws is).length <= is.length := List.length_filter_le _ _
  have knd : ((bJ ws is).map fF).Nodup := lf ((List.filter_sublist.map _).nodup hown)
  kd_mark
  refine vY rfl hT ?_
  kd_mark
  refine ⟨_, (bJ ws is).map fF, rfl, by rw [b9]; omega, by rw [b9, b9], knd, λ H2 n x tt k ht hk ix => ?_, λ us hu => ?_⟩
  ·obtain ⟨i, ei, rfl⟩ := aS ht
   rw [kT, ei] at hk
   cases hk
   exact rR (ts := [.int i.rank, .int i.own, i.tr]) ix (di (j := 0) rfl) (di (j := 1) rfl)
  obtain ⟨ys, rfl, hy⟩ := rE hu
  obtain ⟨yl, ym⟩ := dQ hy
  have sy := jp hy
  unfold kM kN at φ
  unfold kN at d1 d2 d3
  rw [sy] at φ d1 d2 d3
  refine Jf (by acc_open) ?_
  refine zY (k := 4) (by kt_join) (by acc_open) ?_
  kd_mark
  rw [ef, show (Sc.ord ws f.w).tr = .tup [.str "order", .lst (ws.map Tr.str), .int f.w] from rfl]
  kd_mark
  have hwl : ∀ z, (dC f ws side ys z).ms.length <= 60 /\ (dC f ws side ys z).ls.length <= 60 := λ z => by
   obtain ⟨h1, h2⟩ := ng (f := f) (side := side) (a := f.x0 + dv (fK ws f.w ((ia ws z).getD 0))) (b := f.x0 + dv (fQ ws f.w ((ia ws z).getD 0))) (ys.filter λ i => decide (aB i.x = z))
   have h3 : (ys.filter λ i => decide (aB i.x = z)).length <= ys.length := List.length_filter_le _ _
   unfold dC
   omega
  have f0 : (is.filterMap (bW ws)).length <= is.length := List.length_filterMap_le _ _
  refine ⟨λ n τ => (∃ u1 u2 : Sl, τ = [.fz f.tr, .fz (.str side), .fz (.lst (is.map Itm.tr)), .own (.lst (is.filterMap (bW ws) ++ (ws.take n).flatMap λ z => (dC f ws side ys z).ls)), .fz (.lst (ys.map yz)), u1, .own (.lst ((ws.take n).flatMap λ z => (dC f ws side ys z).ms)), u2]) /\ ((ws.take n).flatMap λ z => (dC f ws side ys z).ls).length <= 60 * n /\ ((ws.take n).flatMap λ z => (dC f ws side ys z).ms).length <= 60 * n, ⟨⟨_, _, by rw [List.take_zero, List.flatMap_nil, o7, List.flatMap_nil]⟩, nW _, nW _⟩, ?_, ?_⟩
  ·rintro n tt τ hj ⟨⟨u1, u2, rfl⟩, m1, m2⟩
   obtain ⟨z, ez, rfl⟩ := aS hj
   have hn : n < ws.length := (iL.mp ez).1
   obtain ⟨j, ej⟩ := lh (i8 ez)
   have tk : ws.take (n + 1) = ws.take n ++ [z] := by rw [List.take_succ, ez]; rfl
   obtain ⟨h1, h2⟩ := hwl z
   kd_mark
   refine Dq rfl (by kt_join) (by kt_join) ?_
   refine IM rfl (fX rfl ?_)
   kd_mark
   refine ⟨[.fz (.str z)], by repeat (first | exact .nil | refine .fz (by kt_join) ?_), by rw [b9]; omega, λ k o => ∃ i, ys[k]? = some i /\ o = if decide (aB i.x = z) = true then some i.tr else none, λ k tt ht => ?_, λ os hl3 ho => ?_⟩
   ·obtain ⟨i, hi2, rfl⟩ := aS ht
    have mk := ym i (i8 hi2)
    obtain ⟨m3, m4⟩ := nI.mp mk
    obtain ⟨u, hu2, ku⟩ := jf ef (hi i m3) (by simpa using m4)
    refine ⟨_, _, _, rfl, ?_⟩
    have it : i.tr = .tup [.int i.own, .str u, i.y.tr, i.o.tr, .int i.rank, .int i.col, .int i.siz] := by unfold Itm.tr; rw [ku.x]; rfl
    have wu : aB i.x = u := by rw [ku.x]; rfl
    have fin : ∀ b, b = decide (u = z) -> ∃ i', ys[k]? = some i' /\ (if b = true then some i.tr else none) = if decide (aB i'.x = z) = true then some i'.tr else none := λ b hb => ⟨i, hi2, by rw [wu, hb]⟩
    rw [it] at fin ⊢
    kd_mark
    cases hb : decide (u = z) with
    | true =>
     refine fV ?_
     kd_mark
     exact fin true hb.symm
    | false =>
     refine eD ?_
     exact fin false hb.symm
   rw [iF (f := λ i : Itm => if decide (aB i.x = z) = true then some i.tr else none) (by rw [hl3, b9]) ho, jq]
   kd_mark
   have hw : dC f ws side ys z = dF f side (f.x0 + dv (fK ws f.w j)) (f.x0 + dv (fQ ws f.w j)) [] (ys.filter λ i => decide (aB i.x = z)) := by unfold dC; rw [ej]; rfl
   have fl : (ys.filter λ i => decide (aB i.x = z)).length <= ys.length := List.length_filter_le _ _
   refine ⟨_, by kt_join, λ F1 H1 l1 => ⟨f, ws, side, z, j, ys.filter λ i => decide (aB i.x = z), rfl, hf, ef, ej, by omega, by rw [fI]; omega, λ i m => ?_, ?_⟩⟩
   ·obtain ⟨m0, m5⟩ := nI.mp m
    obtain ⟨m3, m4⟩ := nI.mp (ym i m0)
    obtain ⟨u, _, ku⟩ := jf ef (hi i m3) (by simpa using m4)
    have wu : aB i.x = z := of_decide_eq_true m5
    rw [ku.x] at wu
    have wu : u = z := wu
    rw [wu] at ku
    exact ku
   rw [(nC _).1, (nC _).2, <- hw]
   refine ⟨_, by acc_open, ?_⟩
   kd_mark
   refine gO rfl (by dl_open) (by dl_open) (by omega) ?_
   kd_mark
   refine ⟨⟨_, _, by rw [tk, List.flatMap_append, List.flatMap_append, List.flatMap_singleton, List.flatMap_singleton, <- m7]⟩, ?_, ?_⟩
   ·rw [tk, List.flatMap_append, List.flatMap_singleton, fI]; omega
   ·rw [tk, List.flatMap_append, List.flatMap_singleton, fI]; omega
  ·rintro τ ⟨⟨u1, u2, rfl⟩, m1, m2⟩
   rw [b9, List.take_length]
   kd_mark
   refine vT (kz := (is.filterMap (bW ws) ++ ws.flatMap λ z => (dC f ws side ys z).ls).map fk) rfl (by dl_open) (by rw [b9]) (λ n k hk => ?_) d1 (Nat.lt_of_le_of_lt d2 (by decide)) λ us hu => ?_
   ·obtain ⟨t0, et, rfl⟩ := aS hk
    obtain ⟨us, e⟩ := (d3 t0 (i8 et)).at
    exact ⟨us, by rw [<- e]; exact et⟩
   ·kd_mark
    exact φ us hu
noncomputable def fL (i : Itm) : Bool := decide (i.y.yv.num < 0)
noncomputable def mD (i : Itm) : Tr := bH i "y" "below"
theorem vU (h : wV f i) : bo ws i = match bW ws i with
  | some t => some t
  | none => if fL i = true then some (mD i) else none := by
 unfold bo bW ll fL mD
 cases dl ws i with
 | some t => rfl
 | none =>
  rcases h.y with y | ⟨v, y, hv⟩
  ·rw [y]
  ·rw [y]
   have e : (Ce.num v.num (v.den : Int)).yv = v := de v
   rw [e]
   dsimp only
   by_cases hn : v.num < 0
   ·rw [h9 hn, nS hn]; rfl
   ·rw [gV hn, kv hn]; rfl
theorem tK {f : Fd} {ws : List Str} : ∀ {is : List Itm}, (∀ i ∈ is, wV f i) -> bL ws is = (bJ ws is).filter λ i => !fL i
 | [], _ => rfl
 | i :: r, h => by
  have ih := tK (ws := ws) λ j m => h j (j7 _ m)
  have e := vU (ws := ws) (h i i9)
  unfold bL bJ at ih ⊢
  rw [o4, o4, e, ih]
  cases bW ws i with
  | some t => rfl
  | none =>
   cases hn : fL i with
   | true => simp [hn]
   | false => simp [hn]
theorem tH {f : Fd} {ws : List Str} : ∀ {is : List Itm}, (∀ i ∈ is, wV f i) -> (is.filterMap (bo ws)).Perm (is.filterMap (bW ws) ++ ((bJ ws is).filter fL).map mD)
 | [], _ => List.Perm.refl _
 | i :: r, h => by
  have ih := tH (ws := ws) λ j m => h j (j7 _ m)
  have e := vU (ws := ws) (h i i9)
  unfold bJ at ih ⊢
  rw [o8, o8, o4, e]
  cases bW ws i with
  | some t => exact ih.cons t
  | none =>
   cases hn : fL i with
   | true =>
    simp only [Option.isNone_none, if_true, o4, hn, j8]
    exact (ih.cons _).trans List.perm_middle.symm
   | false =>
    simp only [Option.isNone_none, if_true, o4, hn]
    exact ih
theorem kW : ∀ (ys : List Itm) (tot : Rat) (beg : Int) (ms l1 l2 ns : List Tr), l1.Perm (ns ++ l2) -> (ys.foldl (ck f side a b) ⟨tot, beg, ms, l1⟩).ms = ((ys.filter λ i => !fL i).foldl (ca f side a b) ⟨tot, beg, ms, l2⟩).ms /\ (ys.foldl (ck f side a b) ⟨tot, beg, ms, l1⟩).ls.Perm (ns ++ ((ys.filter fL).map mD ++ ((ys.filter λ i => !fL i).foldl (ca f side a b) ⟨tot, beg, ms, l2⟩).ls))
 | [], _, _, _, _, _, _, h => ⟨rfl, h⟩
 | i :: r, tot, beg, ms, l1, l2, ns, h => by
  rw [rm, o4, o4]
  by_cases hn : i.y.yv.num < 0
  ·have e : fL i = true := nS hn
   rw [e]
   have s1 : ck f side a b ⟨tot, beg, ms, l1⟩ i = ⟨tot, beg, ms, l1 ++ [mD i]⟩ := h9 hn
   rw [s1, h9 rfl, gV (by decide)]
   have p : (l1 ++ [mD i]).Perm ((ns ++ [mD i]) ++ l2) := by
    refine (h.append_right _).trans ?_
    rw [m7, m7]
    exact List.perm_append_comm.append_left ns
   obtain ⟨h1, h2⟩ := kW r tot beg ms _ l2 _ p
   refine ⟨h1, h2.trans ?_⟩
   rw [m7]
   exact List.Perm.refl _
  ·have e : fL i = false := kv hn
   rw [e]
   have s1 : ck f side a b ⟨tot, beg, ms, l1⟩ i = ca f side a b ⟨tot, beg, ms, l1⟩ i := gV hn
   rw [s1]
   simp only [Bool.not_false, if_true, qx, if_false]
   rw [rm]
   unfold ca
   dsimp only
   split
   ·refine kW r _ _ _ _ _ _ ?_
    rw [<- m7]
    exact h.append_right _
   ·exact kW r _ _ _ _ _ _ h
theorem qQ {r : κ -> κ -> Bool} {k : α -> κ} {xs ys : List α} (p : α -> Bool) (h : bY r (xs.map k) xs ys) : bY r ((xs.filter p).map k) (xs.filter p) (ys.filter p) := by
 obtain ⟨ps, hp, rfl, hs⟩ := h
 have z : ∀ l : List α, (l.map k).zip l = l.map λ x => (k x, x) := λ l => by
  induction l with
  | nil => rfl
  | cons x r ih => rw [j8, List.zip_cons_cons, ih, j8]
 refine ⟨ps.filter λ q => p q.2, ?_, ?_, ?_⟩
 ·rw [z] at hp
  rw [z]
  refine (hp.filter _).trans ?_
  rw [List.filter_map]
  exact List.Perm.refl _
 ·rw [List.filter_map]
  rfl
 ·exact hs.sublist (List.filter_sublist.map _)
theorem jk {is : List Itm} (p : Itm -> Bool) (nd : (is.map fF).Nodup) : (bX is).filter p = bX (is.filter p) := (jp (qQ p (gz nd))).symm
theorem xT : bX [] = [] := jp ⟨[], List.Perm.refl _, rfl, .nil⟩
theorem yD {is : List Itm} (hi : ∀ i ∈ is, wV f i) (nd : ((bJ ws is).map fF).Nodup) :
  (dC f ws side (bX (bJ ws is)) z).ms = (if (!((bL ws is).filter λ i => decide (aB i.x = z)).isEmpty) = true then (cB f ws side ((bL ws is).filter λ i => decide (aB i.x = z))).ms else []) /\ (dC f ws side (bX (bJ ws is)) z).ls.Perm ((((bX (bJ ws is)).filter fL).filter λ i => decide (aB i.x = z)).map mD ++ (if (!((bL ws is).filter λ i => decide (aB i.x = z)).isEmpty) = true then (cB f ws side ((bL ws is).filter λ i => decide (aB i.x = z))).ls else [])) := by
 have ek := tK (ws := ws) hi
 have e1 : ((bX (bJ ws is)).filter λ i => decide (aB i.x = z)).filter (λ i => !fL i) = bX ((bL ws is).filter λ i => decide (aB i.x = z)) := by
  rw [ek, jk _ nd, jk]
  ·rw [List.filter_filter, List.filter_filter]
   congr 1
   congr 1
   funext i
   exact Bool.and_comm _ _
  ·exact (List.filter_sublist.map _).nodup nd
 have e2 : ((bX (bJ ws is)).filter λ i => decide (aB i.x = z)).filter fL = ((bX (bJ ws is)).filter fL).filter λ i => decide (aB i.x = z) := by
  rw [List.filter_filter, List.filter_filter]
  congr 1
  funext i
  exact Bool.and_comm _ _
 obtain ⟨h1, h2⟩ := kW (f := f) (side := side) (a := f.x0 + dv (fK ws f.w ((ia ws z).getD 0))) (b := f.x0 + dv (fQ ws f.w ((ia ws z).getD 0))) ((bX (bJ ws is)).filter λ i => decide (aB i.x = z)) 0 (dZ f) [] [] [] [] (List.Perm.refl _)
 rw [e1] at h1 h2
 rw [e2, List.nil_append] at h2
 unfold dC dF
 generalize hg : (bL ws is).filter (λ i => decide (aB i.x = z)) = g at *
 cases g with
 | nil =>
  rw [xT] at h1 h2
  exact ⟨h1, h2⟩
 | cons i r =>
  have wi : aB i.x = z := of_decide_eq_true (nI.mp (show i ∈ (bL ws is).filter (λ i => decide (aB i.x = z)) by rw [hg]; exact i9)).2
  have eg : cB f ws side (i :: r) = (bX (i :: r)).foldl (ca f side (f.x0 + dv (fK ws f.w ((ia ws z).getD 0))) (f.x0 + dv (fQ ws f.w ((ia ws z).getD 0)))) ⟨0, dZ f, [], []⟩ := by
   unfold cB fH gJ
   dsimp only
   rw [wi]
  rw [<- eg] at h1 h2
  exact ⟨h1, h2⟩
theorem fj {γ : Type} (h : α -> β) (p : β -> Bool) (F : β -> List γ) : ∀ ws : List α, ((ws.map h).filter p).flatMap F = ws.flatMap λ z => if p (h z) = true then F (h z) else []
 | [] => rfl
 | z :: r => by
  rw [j8, o4, List.flatMap_cons, <- fj h p F r]
  cases p (h z) with
  | true => rfl
  | false => rfl
theorem kF {F A C : α -> List β} : ∀ {ws : List α}, (∀ z, (F z).Perm (A z ++ C z)) -> (ws.flatMap F).Perm (ws.flatMap A ++ ws.flatMap C)
 | [], _ => List.Perm.refl _
 | z :: r, h => by
  rw [List.flatMap_cons, List.flatMap_cons, List.flatMap_cons]
  refine ((h z).append (kF h)).trans ?_
  rw [m7, m7]
  refine List.Perm.append_left _ ?_
  rw [<- m7, <- m7]
  exact List.perm_append_comm.append_right _
theorem nZ {is : List Itm} (ef : f.sx = .ord ws f.w) (wd : ws.Nodup) (hi : ∀ i ∈ is, wV f i) (ho : (is.map (·.own)).Nodup) : uQ f ws side is = kM f ws side is /\ (cV f ws side is).Perm (kN f ws side is) := by
 have nd : ((bJ ws is).map fF).Nodup := lf ((List.filter_sublist.map _).nodup ho)
 have hw := λ z => yD (f := f) (ws := ws) (side := side) (z := z) hi nd
 refine ⟨?_, ?_⟩
 ·unfold uQ kM fN
  rw [fj]
  refine congrArg (λ F => ws.flatMap F) (funext λ z => (hw z).1.symm)
 ·unfold cV kN fN
  rw [fj]
  have p1 := kF (ws := ws) λ z => (hw z).2
  have kw : ∀ i ∈ (bX (bJ ws is)).filter fL, aB i.x ∈ ws := λ i m => by
   have m2 := (dQ (gz nd)).2 i (nI.mp m).1
   obtain ⟨m3, m4⟩ := nI.mp m2
   obtain ⟨u, hu, ku⟩ := jf ef (hi i m3) (by simpa using m4)
   rw [ku.x]
   exact hu
  have p2 : (ws.flatMap λ z => (((bX (bJ ws is)).filter fL).filter λ i => decide (aB i.x = z)).map mD).Perm (((bJ ws is).filter fL).map mD) := by
   have := (iX wd kw).map mD
   rw [List.map_flatten, List.map_map] at this
   rw [List.flatMap_def]
   refine this.trans ?_
   exact ((nK (by rw [b9]) (gz nd)).filter _).map _
  refine ((tH hi).append_right _).trans ?_
  rw [m7]
  exact List.Perm.append_left _ ((p2.symm.append_right _).trans p1.symm)
variable {us : List Tr}
theorem yp {is js : List Tr} (h : is.Perm js) (g : bY rO (is.map fk) is us) : bY rO (js.map fk) js us := by
 obtain ⟨ps, hp, e, hs⟩ := g
 have z : ∀ l : List Tr, (l.map fk).zip l = l.map λ x => (fk x, x) := λ l => by
  induction l with
  | nil => rfl
  | cons x r ih => rw [j8, List.zip_cons_cons, ih, j8]
 rw [z] at hp
 exact ⟨ps, by rw [z]; exact hp.trans (h.map _), e, hs⟩
theorem Ee {is : List Itm} (ef : f.sx = .ord ws f.w) (wd : ws.Nodup) (hi : ∀ i ∈ is, wV f i) (ho : (is.map (·.own)).Nodup) : ((kN f ws side is).map fk).Nodup /\ (kN f ws side is).length <= is.length /\ ∀ t ∈ kN f ws side is, lq t := by
 have p := (nZ (side := side) ef wd hi ho).2
 obtain ⟨h1, h2, h3⟩ := oh (f := f) (side := side) (is := is) wd (λ i m => by
  obtain ⟨m3, m4⟩ := nI.mp m
  obtain ⟨z, hz, k, _⟩ := oK ef (hi i m3) (by simpa using m4)
  rw [k.x]
  exact hz) ho
 exact ⟨(p.map fk).nodup_iff.mp h1, by rw [<- p.length_eq]; exact h2, λ t ht => h3 t (p.mem_iff.mpr ht)⟩
noncomputable def SmT (D : Tr -> Prop) : Tr -> Prop
 | .int _ => True
 | .str _ => True
 | .tup ts => ts.length <= 1000 /\ ∀ t ∈ ts, D t
 | .lst ts => ts.length <= 1000 /\ ∀ t ∈ ts, D t
 | _ => False
noncomputable def gA (D : Tr -> Prop) : SpT := λ _ as Φ _ => ∃ t, as = [.fz t, .fz t] /\ D t /\ Φ (.fz (.bl true))
local macro_rules | `(tactic| kd_mark) => `(tactic| repeat (first | ((with_reducible apply wX); (focus rfl)) | acc_openK | obj_index2 | kxi_slice))
theorem Bq (h : ts.length <= 1000) : (eO ts us).length <= 100000 := by rw [gE]; omega
theorem pM : ∀ {os : List (Option Tr)}, (∀ (i : Nat) (o : Option Tr), os[i]? = some o -> o = some (Tr.bl true)) -> os.filterMap id = (List.replicate os.length true).map Tr.bl
 | [], _ => rfl
 | o :: r, h => by
  have e := h 0 o rfl
  subst e
  have := pM (os := r) λ i x hx => h (i + 1) x hx
  rw [lH, o9, j8, <- this]
  rfl
theorem uW (T : cD K mg t) {m : Nat} {D : Tr -> Prop} (G_zab : cr P w K mg base nD (m + 1) t.f_zab t.d_zab ["_law_found", "_law_due_here"] (bC K (gA D))) : cr P w K mg base nD (m + 2) t.f_zab t.d_zab ["_law_found", "_law_due_here"] (bC K (gA (SmT D))) := by
 have G_za1 := @vJ P w K mg base t T
 refine T.q_zab.F.ok xC (aJ (λ B as Φ Ψ h => by obtain ⟨_, rfl, _⟩ := h; rfl)) (λ cdv A outer s H vs Q E hr h => ?_)
 obtain ⟨B, as, Φ, Ψ, rfl, hS, hx, go⟩ := aF h
 obtain ⟨t0, rfl, hd, φ⟩ := hS
 refine ⟨_, (aG (aE (eE (aV HP rfl T.z_isinstance hI (ae (pv 1) (ae (aI (ae (oV (v := .ty "tuple") rfl T.z_tuple lU rfl) (ae (oV (v := .ty "list") rfl T.z_list kZ rfl) aA))) aA)))) (aG (aE (ak si (cS ni rfl rfl T.z_isinstance T.z_tuple lU (pv 0)) (cS ni rfl rfl T.z_isinstance T.z_tuple lU (pv 1)) (ao _)) (aN (ah AU)) aq)
 (aG (aE (PW.pt (tJ (ak si (cS rD rfl rfl T.z_isinstance T.z_list kZ (pv 0)) (cS rD rfl rfl T.z_isinstance T.z_list kZ (pv 1)) (ao _)) (lN (ak si (aV bR rfl T.z_len PySem.boot_len (ae (pv 0) aA)) (aV bR rfl T.z_len PySem.boot_len (ae (pv 1) aA)) (ao _))))) (aN (ah AU)) aq)
 (aN (ah (aV (Bo rfl) rfl T.z_all Hh (ae (Gh (fr := []) rfl (kr (osc := af iO) (N := ["_law_found", "_law_due_here"]) rfl rfl (by decide +kernel) (by decide +kernel) (by decide)) (yV rfl T.z_zip (ae (pv 0) (ae (pv 1) aA))) (λ _ _ _ _ _ => (aZ G_zab (hr.mono (by omega)) rfl T.q_zab.m T.q_zab.k T.q_zab.b .nil Bi (ae (pv 0) (ae (pv 1) aA))))) aA)))))) aq)
 (aG (aE (eE (cS iR rfl rfl T.z_isinstance T.z_str mm (pv 1))) (aN (ah (jF (cS iR rfl rfl T.z_isinstance T.z_str mm (pv 0)) (jU (iJ aT (pv 0) (pv 1) (ao _)))))) aq)
 (aN (ah (jF (aZ G_za1 (hr.mono (by omega)) rfl T.q_za1.m T.q_za1.k T.q_za1.b .nil Bi (ae (pv 0) aA)) (jU (iJ aT (pv 0) (pv 1) (ao _)))))))), go _ _ (cX (τ := [.fz _, .fz _]) rfl ?_)⟩
 cases t0 with
 | int i =>
  kd_mark
  intro _ _
  refine ⟨_, .int, rfl, rfl, ?_⟩
  kd_mark
  rw [nS rfl]
  exact φ
 | str x =>
  kd_mark
  rw [nS rfl]
  exact φ
 | tup ts =>
  kd_mark
  refine aK (λ _ => ?_) (λ y => absurd rfl y)
  kd_mark
  refine aK (λ _ => ?_) (λ y => absurd rfl y)
  kd_mark
  refine aK (λ _ => ?_) (λ y => absurd rfl y)
  kd_mark
  refine AM rfl (BB rfl ?_)
  kd_mark
  refine ⟨_, ts, _, ts, rfl, rfl, [], .nil, Bq hd.1, λ i o => o = some (.bl true), ?_, ?_⟩
  ·rintro i t0 ht
   obtain ⟨x, y, ex, ey, rfl⟩ := gg ts ts i t0 ht
   rw [ex] at ey
   cases ey
   refine ⟨x, x, rfl, ?_⟩
   kd_mark
   intro _ _
   refine ⟨x, rfl, hd.2 x (i8 ex), ?_⟩
   kd_mark
   rfl
  ·intro os hl ho
   rw [pM ho]
   kd_mark
   refine Af rfl Rk.fz ?_
   rw [show ((List.replicate os.length true).all λ b => b) = true by rw [List.all_eq_true]; intro x hx; exact (List.eq_of_mem_replicate hx)]
   sl_open
 | lst ts =>
  kd_mark
  refine aK (λ _ => ?_) (λ y => absurd rfl y)
  kd_mark
  refine aK (λ _ => ?_) (λ y => absurd rfl y)
  kd_mark
  refine aK (λ _ => ?_) (λ y => absurd rfl y)
  kd_mark
  refine AM rfl (BB rfl ?_)
  kd_mark
  refine ⟨_, ts, _, ts, rfl, rfl, [], .nil, Bq hd.1, λ i o => o = some (.bl true), ?_, ?_⟩
  ·rintro i t0 ht
   obtain ⟨x, y, ex, ey, rfl⟩ := gg ts ts i t0 ht
   rw [ex] at ey
   cases ey
   refine ⟨x, x, rfl, ?_⟩
   kd_mark
   intro _ _
   refine ⟨x, rfl, hd.2 x (i8 ex), ?_⟩
   kd_mark
   rfl
  ·intro os hl ho
   rw [pM ho]
   kd_mark
   refine Af rfl Rk.fz ?_
   rw [show ((List.replicate os.length true).all λ b => b) = true by rw [List.all_eq_true]; intro x hx; exact (List.eq_of_mem_replicate hx)]
   sl_open
 | _ => exact hd.elim
noncomputable def ID : Nat -> Tr -> Prop
 | 0 => λ _ => False
 | n + 1 => SmT (ID n)
noncomputable def CW : SpT := gA (ID 8)
theorem lz (T : cD K mg t) : ∀ n : Nat, cr P w K mg base nD (n + 1) t.f_zab t.d_zab ["_law_found", "_law_due_here"] (bC K (gA (ID n)))
 | 0 => by
  have no : ∀ vs H Q E, ¬ bC K (gA (ID 0)) vs H Q E := λ vs H Q E h => by
   obtain ⟨B, as, Φ, Ψ, rfl, rfl, bk, la, ⟨t, rfl, hd, φ⟩, q, _⟩ := h
   exact hd
  exact ⟨λ vs H Q E h => (no _ _ _ _ h).elim, λ A outer s H args us vs Q E _ _ _ _ h => (no _ _ _ _ h).elim⟩
 | n + 1 => uW T (lz T n)
theorem ur (T : cD K mg t) : FO P w base T.q_zab 9 (bC K CW) := by
 exact lz T 8
noncomputable def sO (t : Tr) : Prop := ∃ (side : Str) (e0 e1 b0 b1 : Int) (i : Itm), t = xc side e0 e1 b0 b1 i
theorem sf : ∀ (ys : List Itm) (st : HSt), (∀ t ∈ st.ms, sO t) -> ∀ t ∈ (ys.foldl (ck f side a b) st).ms, sO t
 | [], _, h => h
 | i :: r, st, h => by
  rw [rm]
  refine sf r _ λ t ht => ?_
  unfold ck ca at ht
  split at ht
  ·exact h t ht
  ·split at ht
   ·exact h t ht
   ·rcases rl.mp ht with m | m
    ·exact h t m
    ·rw [o5.mp m]; exact ⟨_, _, _, _, _, _, rfl⟩
theorem wN {γ : Type} {F : α -> List β} {G : α -> List γ} : ∀ ws : List α, (∀ z, (F z).length <= (G z).length) -> (ws.flatMap F).length <= (ws.flatMap G).length
 | [], _ => eT _
 | z :: r, h => by
  rw [List.flatMap_cons, List.flatMap_cons, fI, fI]
  have := wN r h
  have := h z
  omega
theorem DF {is : List Itm} (ef : f.sx = .ord ws f.w) (wd : ws.Nodup) (hi : ∀ i ∈ is, wV f i) (ho : (is.map (·.own)).Nodup) : (kM f ws side is).length <= is.length /\ ∀ t ∈ kM f ws side is, sO t := by
 have nd : ((bJ ws is).map fF).Nodup := lf ((List.filter_sublist.map _).nodup ho)
 have sb := gz nd
 have kw : ∀ i ∈ bX (bJ ws is), aB i.x ∈ ws := λ i m => by
  obtain ⟨m3, m4⟩ := nI.mp ((dQ sb).2 i m)
  obtain ⟨u, hu, ku⟩ := jf ef (hi i m3) (by simpa using m4)
  rw [ku.x]
  exact hu
 refine ⟨?_, λ t ht => ?_⟩
 ·have h1 := wN (F := λ z => (dC f ws side (bX (bJ ws is)) z).ms) (G := λ z => (bX (bJ ws is)).filter λ i => decide (aB i.x = z)) ws λ z => (ng (f := f) (side := side) (a := f.x0 + dv (fK ws f.w ((ia ws z).getD 0))) (b := f.x0 + dv (fQ ws f.w ((ia ws z).getD 0))) ((bX (bJ ws is)).filter λ i => decide (aB i.x = z))).1
  have h2 := (iX wd kw).length_eq
  rw [<- List.flatMap_def] at h2
  have h3 := (dQ sb).1
  have h4 : (bJ ws is).length <= is.length := List.length_filter_le _ _
  unfold kM
  omega
 ·obtain ⟨z, _, m⟩ := List.mem_flatMap.mp ht
  exact sf _ _ (λ t h => absurd h m8) t m
theorem zX {t : Tr} (h : sO t) : Aa t := by
 obtain ⟨side, e0, e1, b0, b1, i, rfl⟩ := h
 refine .tup λ t ht => ?_
 rcases j3.mp ht with rfl | ht
 ·refine .tup λ t ht => ?_
  simp only [j3, m8, or_false] at ht
  rcases ht with rfl | rfl | rfl | rfl | rfl | rfl | rfl <;> first | exact .int | exact .str
 ·rw [o5.mp ht]; exact .one
theorem Dh {t : Tr} (h : lq t) : Aa t := by
 obtain ⟨i, ch, z, rfl⟩ := h
 refine .tup λ t ht => ?_
 simp only [j3, m8, or_false] at ht
 rcases ht with rfl | rfl | rfl <;> first | exact .int | exact .str
theorem HD {ms : List Tr} (h1 : ms.length <= 1000) (h2 : us.length <= 1000) (hm : ∀ t ∈ ms, sO t) (hu : ∀ t ∈ us, lq t) : ID 8 (.tup [.lst ms, .lst us]) := by
 refine ⟨(by decide : 2 <= 1000), kR.mpr ⟨⟨h1, λ t ht => ?_⟩, kR.mpr ⟨⟨h2, λ t ht => ?_⟩, λ _ h => absurd h m8⟩⟩⟩
 ·obtain ⟨side, e0, e1, b0, b1, i, rfl⟩ := hm t ht
  refine ⟨(by decide : 2 <= 1000), kR.mpr ⟨⟨(by decide : 7 <= 1000), ?_⟩, kR.mpr ⟨⟨(by decide : 1 <= 1000), ?_⟩, λ _ h => absurd h m8⟩⟩⟩
  ·exact kR.mpr ⟨trivial, kR.mpr ⟨trivial, kR.mpr ⟨trivial, kR.mpr ⟨trivial, kR.mpr ⟨trivial, kR.mpr ⟨trivial, kR.mpr ⟨trivial, λ _ h => absurd h m8⟩⟩⟩⟩⟩⟩⟩
  ·exact kR.mpr ⟨trivial, λ _ h => absurd h m8⟩
 ·obtain ⟨i, ch, z, rfl⟩ := hu t ht
  exact ⟨(by decide : 3 <= 1000), kR.mpr ⟨trivial, kR.mpr ⟨trivial, kR.mpr ⟨trivial, λ _ h => absurd h m8⟩⟩⟩⟩
theorem En (s : Sc) : Dp 5 s.tr := by
 have n2 : ∀ a b n, Dp (n + 1) (N2 a b) := λ a b n => .tup (aD .int (aD .int eJ))
 cases s with
 | str a b c d len => exact .tup (aD .str (aD (n2 _ _ _) (aD (n2 _ _ _) (aD .int eJ))))
 | tur p low many len => exact .tup (aD .str (aD .int (aD .int (aD .int (aD .int eJ)))))
 | brk ps len =>
  refine .tup (aD .str (aD (.lst λ t ht => ?_) (aD .int eJ)))
  obtain ⟨x, _, rfl⟩ := List.mem_map.mp ht
  exact .tup (aD (n2 _ _ _) (aD (n2 _ _ _) (aD .int (aD .int eJ))))
 | day f l len => exact .tup (aD .str (aD .int (aD .int (aD .int eJ))))
 | ord ws len =>
  refine .tup (aD .str (aD (.lst λ t ht => ?_) (aD .int eJ)))
  obtain ⟨x, _, rfl⟩ := List.mem_map.mp ht
  exact .str
theorem zi (c : Ce) : Dp 5 c.tr := by
 cases c with
 | no => exact .non
 | num e f => exact .tup (aD .int (aD .int eJ))
 | day c => exact .int
 | wd z => exact .str
theorem Fq (i : Itm) : Dp 6 i.tr := .tup (aD .int (aD (zi _) (aD (zi _) (aD (zi _) (aD .int (aD .int (aD .int eJ)))))))
theorem HN (T : cD K mg t) (hB : L2.BMods mg base) : cr P w K mg base nD 11 t.f_law t.d_law ["_law_script"] (pS [t.tab0, t.tab1] K) := by
 have G_za4 := @sh P w K mg base t T
 have G_zbj := @rz P w K mg base t T
 have G_za5 := @xU P w K mg base t T hB
 have G_zab := @ur P w K mg base t T
 have G_zar := @xZ P w K mg base t T hB
 refine T.F_law.ok fc (λ vs H Q E h => ?_) (λ cdv A outer s H vs Q E hr h => ?_)
 ·obtain ⟨a, ns, rfl, _⟩ := h
  rfl
 obtain ⟨a, ns, rfl, hS, hn, _, nd0, hP, q⟩ := h
 refine ⟨_, (aG (aj (i := 1) fc.nd rfl (Or.inl rfl) (aa bZ (ac gF (pv 0) (aW (ae ai aA))) ai (λ _ _ => rfl)))
 (aG (aj (i := 2) fc.nd rfl (Or.inl rfl) (aY G_za4 hr T.q_za4 (ae (pv 1) aA)))
 (aG (aj (i := 3) fc.nd rfl (Or.inl rfl) (aY G_zbj hr T.q_zbj (ae (eU gD (pv 0) (cn ai) (cn ai)) (ae (pv 2) aA))))
 (aG (aj (i := 4) fc.nd rfl (Or.inl rfl) (aa bZ (aW (ae au (ae au aA))) (ac aX (ac aX (pv 1) ai) ai) (λ _ _ => rfl)))
 (aG (aj (i := 5) fc.nd rfl (Or.inl rfl) (aY G_za5 hr T.q_za5 (ae (pv 2) (ae (pv 4) (ae (pv 3) aA)))))
 (aG (aj (i := 6) fc.nd rfl (Or.inl rfl) (jD oQ rfl T.z_list kZ (ae (pv 3) aA)))
 (aG (aj (i := 7) fc.nd rfl (Or.inl rfl) (aY G_zar hr T.q_zar (ae (pv 2) (ae (pv 4) (ae (pv 6) aA)))))
 (aG (aE (PW.pt (tJ (ak (Bt hr.un150) (pv 6) (pv 3) (ao _)) (lN (ak (Bt hr.un150) (pv 2) (aY G_za4 hr T.q_za4 (ae (pv 1) aA)) (ao _))))) (aN (ah AU)) aq)
 (aG (bp (vk j4 PySem.F.slot_list_reverse PySem.F.type_list_reverse vx (pv 6)))
 (aG (bp (vk j4 PySem.F.slot_list_clear PySem.F.type_list_clear sw (pv 6)))
 (aG (aj (i := 8) fc.nd rfl (Or.inl rfl) (aY G_zar hr T.q_zar (ae (pv 2) (ae (pv 4) (ae (pv 3) aA)))))
 (aG (bp (cH j4 ml mv aQ (aa aC (pv 8) ai (λ _ _ => rfl)) (ae bM aA)))
 (aG (bp (vk j4 PySem.F.slot_list_clear PySem.F.type_list_clear sw (aa aC (pv 8) ai (λ _ _ => rfl))))
 (aN (ah (jF (aY G_zab hr T.q_zab (ae (pv 7) (ae (pv 5) aA))) (jU (aY G_zab hr T.q_zab (ae (aY G_zar hr T.q_zar (ae (pv 2) (ae (pv 4) (ae (pv 3) aA)))) (ae (pv 5) aA)))))))))))))))))))), tV (L := [(t.tab0, gM, eQ), (t.tab1, kO, jd)]) nd0 hS hP q _ _ λ B D eK hT hD => ?_⟩
 subst eK
 have hT0 : cw t.tab0 gM eQ B := hT (t.tab0, gM, eQ) i9
 have hT1 : cw t.tab1 kO jd B := hT (t.tab1, kO, jd) (j7 _ i9)
 refine IU (τ := [.fz _, .no, .no, .no, .no, .no, .no, .no, .no]) rfl (dU ?_)
 have e0 : ns.map Tr.int ++ [.int 0] = (ns ++ [0]).map Tr.int := by rw [oD]; rfl
 have l0 : (ns ++ [0]).length = ns.length + 1 := by rw [fI]; rfl
 generalize hc : dg (ns ++ [0]) 0 = c
 obtain ⟨hf, ws, ef, wd⟩ := CH c
 have hso := zz c
 have hsm := tL c
 generalize hF : ce c = f at *
 generalize hcs : (ns.drop 1).take 60 = cs
 have lcs : cs.length <= 60 := by rw [<- hcs, List.length_take]; omega
 have hit := Cg (cs := cs) hf hsm.2 cs.length
 have hown := yq f cs cs.length
 have lis : (cy f cs cs.length).length <= 60 := by unfold cy; rw [b9, List.length_range]; exact lcs
 kd_mark
 refine gO rfl Rk.fz Rk.fz (by rw [b9]; show ns.length + 1 <= _; omega) ?_
 rw [e0]
 kd_mark
 rw [hc]
 refine dU ?_
 kd_mark
 intro _ _
 refine ⟨c, rfl, ?_⟩
 rw [hF]
 kd_mark
 refine dU ?_
 kd_mark
 intro _ _
 rw [show mO (ns.map Tr.int) (some 1) (some 61) = ((ns.drop 1).take 60).map Tr.int from gL _ 1 61, hcs]
 refine ⟨cs, f, rfl, by omega, hf.k, hso.1, hso.2, ?_⟩
 generalize cy f cs cs.length = is at *
 kd_mark
 refine dU ?_
 have m0 : 0 <= c % 7 % 2 /\ c % 7 % 2 < 2 := by omega
 kd_mark
 refine cb rfl Rk.fz (LE m0.1 m0.2) ?_
 obtain ⟨side, hside⟩ : ∃ z : Str, LD (c % 7 % 2) (Tr.str "left") (.str "right") = .str z := by unfold LD; split <;> exact ⟨_, rfl⟩
 rw [hside]
 obtain ⟨hp1, hp2⟩ := nZ (side := side) ef wd hit hown
 obtain ⟨d1, d2, d3⟩ := Ee (side := side) ef wd hit hown
 obtain ⟨d4, d5⟩ := DF (side := side) ef wd hit hown
 kd_mark
 refine dU ?_
 kd_mark
 intro _ _
 refine ⟨f, ws, side, is, rfl, hT1.now _ _, hf, ef, wd, lis, hit, hown, d1, by omega, d3, λ us hu => ?_⟩
 obtain ⟨ul, um⟩ := dQ hu
 have d6 : ∀ t ∈ us, lq t := λ t ht => d3 t (um t ht)
 have sm := HD (ms := kM f ws side is) (us := us) (by omega) (by omega) d5 d6
 have same : ∀ us2, bY rO ((cV f ws side is).map fk) (cV f ws side is) us2 -> us2 = us := λ us2 h2 => nM mq (yp hp2 h2) hu
 kd_mark
 refine dU ?_
 kd_mark
 refine dU ?_
 refine Et ?_
 refine CF rfl (by kt_join) (by kt_join) (by kt_join) ?_ ?_
 ·intro u hu
  obtain ⟨i, _, rfl⟩ := List.mem_map.mp hu
  exact ⟨_, rfl⟩
 intro _ _
 refine ⟨f, ws, side, is, rfl, hT0.now _ _, hf, ef, wd, lis, hit, hown, λ us2 h2 => ?_⟩
 rw [same us2 h2, hp1]
 refine ⟨λ t ht => zX (d5 t ht), λ t ht => Dh (d6 t ht), ?_⟩
 kd_mark
 refine dU ?_
 kd_mark
 refine CU rfl (n := 6) (λ t ht => by obtain ⟨i, _, rfl⟩ := List.mem_map.mp ht; exact Fq i) (by decide) (by dl_open) Rk.fz ?_
 kd_mark
 intro _ _
 refine ⟨c, rfl, ?_⟩
 rw [hF]
 kd_mark
 refine BW (ts := [f.sx.tr, f.sy.tr, .int f.x0, .int f.y0, .int f.w, .int f.h]) rfl (n := 5) (aD (En _) (aD (En _) (aD .int (aD .int (aD .int (aD .int eJ)))))) (by decide) Rk.fz Rk.fz ?_
 kd_mark
 refine dU ?_
 kd_mark
 refine dU ?_
 kd_mark
 refine yL (τ' := [.fz (.lst (ns.map Tr.int)), .fz (.int c), .fz f.tr, .fz (.lst (is.map Itm.tr)), .fz (.str side), .fz (.tup [.lst (kM f ws side is), .lst us]), .no, .fz (.tup [.lst (kM f ws side is), .lst us]), .no]) (by first | acc_open | (repeat constructor)) ?_
 refine FH rfl ?_
 kd_mark
 refine ⟨Ct rfl, λ F1 H1 => ⟨f, ws, side, is, rfl, hT0.now _ _, hf, ef, wd, lis, hit, hown, λ us2 h2 F2 H2 p a1 b vs ws2 rb => ?_⟩⟩
 rw [same us2 h2, hp1] at rb
 refine xi (τ' := [.fz (.lst (ns.map Tr.int)), .fz (.int c), .fz f.tr, .fz (.lst (is.map Itm.tr)), .fz (.str side), .fz (.tup [.lst (kM f ws side is), .lst us]), .no, .fz (.tup [.lst (kM f ws side is), .lst us]), .no]) sS ve rb (by kt_join) (by first | acc_open | walk_at "tst" | (repeat constructor)) (Ct rfl) (by omega) (by omega) λ F3 H3 => ?_
 have hT3 : cw t.tab0 gM eQ (DV B F3 H3 p []) := zO hT0
 refine Hx (rt := λ _ => True) hD ?_
 kd_mark
 intro _ _
 refine ⟨_, rfl, sm, ?_⟩
 kd_mark
 refine BR rfl ?_
 kd_mark
 intro _ _
 refine ⟨f, ws, side, is, rfl, hT3.now _ _, hf, ef, wd, lis, hit, hown, λ us2 h2 => ?_⟩
 rw [same us2 h2, hp1]
 kd_mark
 intro _ _
 refine ⟨_, rfl, sm, ?_⟩
 kd_mark
 rfl
end
theorem walk {l : PySem.W.OpenLaw} {q : Program} {loose : List Str} {XP : (Str -> Option Value) -> Heap -> Prop} {YP : World -> Heap -> Prop} {d : DefRec} {K : Params -> Fg} (Ps : List Addr) (hnd : Ps.Nodup) (hn : l.most = some 63) (hdf : d.params.defaults = [])
  (hY : ∀ (w : World) (h : Heap), YP w h -> (K w.params).In h /\ ∀ P ∈ Ps, h.get? P = some (PySem.W.tabObj #[])) (hKP : ∀ w : World, ∀ P ∈ Ps, (K w.params).lookup P = none)
  (F : ∀ (w : World) (mg : Str -> Option Value) (fa : Addr) (h : Heap), (K w.params).In h -> h.Ns mainGlobals mg -> mg d.name = some (.ref fa) ->
   ∃ fd : FuncData, (∀ (s : Shared) (u : Value), BindsTo s fd ⟨[u], []⟩ [("_law_script", u)]) /\ (∀ P ∈ Ps, ∃ c, PySem.W.codeHdIn (K w.params) c P = true) /\ ∀ base : Heap, (K w.params).In base -> base.Ns mainGlobals mg -> L2.BMods mg base -> cr l.prog w (K w.params) mg base nD 11 fa fd ["_law_script"] (pS Ps (K w.params))) :
  PySem.W.WalkO q loose XP YP l.row.toRowW d [] (λ f vs => PySem.call f vs) :=
 L2.walk_ofTs (Ps := Ps) (n := 63) (k := 11) (x := "_law_script") (CX := λ _ => nD) (sp := λ w => pS Ps (K w.params)) hn (by decide) hdf ⟨rfl, by decide, by decide⟩ hY hKP F (λ _ _ a ns hl hbt _ hP hS => ⟨a, ns, rfl, hS, hl, hbt, hnd, hP, λ _ => rfl⟩) λ _ _ _ _ _ z => z
end MyLaw
open PySem PySem.W PyProof.Rows
set_option maxRecDepth 100000 in
set_option maxHeartbeats 0 in
theorem PySem.Challenge.cw_markscale_k41_heaps_holds : PySem.Challenge.rw_markscale_k41_heaps.Holds := by
 refine MyLaw.hdZ.2 ?_
 delta MyLaw.hdZ
 dsimp only
 k_fill
 refine MyLaw.walk (l := PySem.Challenge.rw_markscale_k41_heaps) [236, 365] (by decide) rfl rfl (λ w h Y => ⟨PySem.W.km_in_of Y, λ P hP => PySem.W.km_tabs_of Y P (List.mem_reverse.mp hP)⟩) (λ w => kR.mpr ⟨by kernel_rfl, kR.mpr ⟨by kernel_rfl, λ _ z => nomatch z⟩⟩) ?F
 case F =>
  intro w mg fa h KX G hmg
  obtain ⟨t, T, rfl, hb, q⟩ := MyLaw.hdY w mg fa h KX G hmg
  rw [← q]
  exact ⟨t.d_law, hb, kR.mpr ⟨(let ⟨c, _, hc⟩ := L2.codeHdT_of T.tb0; ⟨c, hc⟩), kR.mpr ⟨(let ⟨c, _, hc⟩ := L2.codeHdT_of T.tb1; ⟨c, hc⟩), λ _ z => nomatch z⟩⟩, λ base _ _ hB => MyLaw.HN T hB⟩
