import PyProof.Rows.All
import Wide.All
import OpenK.AllK
import Wide.FinOn
import Lean
import PyProof.EqAt
import PyProof.EqKinds
import PyProof.TupleCall
import PyProof.NeKinds
import PyProof.SumWalkG
import PySem.Challenge.RW_markscale_k32_what_is_a_telling
set_option compiler.extract_closed false
set_option Elab.async false
set_option linter.all false
set_option maxRecDepth 100000
noncomputable section
abbrev Fg := PySem.W.Frag
abbrev Pn := List (PySem.Addr × PySem.Obj)
section
set_option maxRecDepth 100000
set_option maxHeartbeats 0
namespace MyLaw
open PySem PySem.W
def hdF (s : String) : Str := ⟨⟨(PySem.W.S.toListS s).map Char.toNat⟩⟩
theorem hdFe : @Str.ofString = hdF := by
 rw [Str.ofString_eq_byList]; funext s
 show (⟨⟨(String.toList s).map Char.toNat⟩⟩ : Str) = _
 rw [PySem.W.S.toListS_eq]; rfl
abbrev hdP : Program := PySem.Challenge.pw_markscale_k32_what_is_a_telling
abbrev Dj : OpenRow := OpenLaw.row PySem.Challenge.rw_markscale_k32_what_is_a_telling
noncomputable def hdG : PSigma fun G : (String -> Str) -> Program => PySem.Challenge.pw_markscale_k32_what_is_a_telling = G Str.ofString := by
 refine ⟨?G, (?g : PySem.Challenge.pw_markscale_k32_what_is_a_telling = (?G : (String -> Str) -> Program) Str.ofString -> _) ?p⟩
 case p =>
  delta PySem.Challenge.pw_markscale_k32_what_is_a_telling
  generalize Str.ofString = f
  exact rfl
 case g =>
  intro _
  exact rfl
def DK : List Nat := [1, 2, 3, 4, 5, 6, 7, 8, 9, 10, 12, 13, 14, 15, 17, 18, 20, 21, 22, 23, 24, 26, 27, 28, 29, 30, 31, 32, 33, 35, 36, 37, 38, 39, 40, 41, 42, 43, 44, 45, 46, 47, 48, 49, 50, 51, 52, 53, 54, 56, 57, 58, 59, 60, 61, 62, 63, 64, 65, 66, 67, 68, 69, 70, 71, 72, 73, 74, 75, 76, 77, 78, 79, 80, 81]
def hdV : Program := PySem.W.view hdP DK
end MyLaw
noncomputable def PySem.W.Fast.tw5887849510163766457 : PySem.Program := MyLaw.hdG.1 MyLaw.hdF
theorem PySem.W.Fast.te5887849510163766457 : PySem.Challenge.pw_markscale_k32_what_is_a_telling = PySem.W.Fast.tw5887849510163766457 := MyLaw.hdG.2.trans (congrArg MyLaw.hdG.1 MyLaw.hdFe)
namespace MyLaw
open PySem PySem.W
noncomputable abbrev tG : Program := PySem.W.Fast.tw5887849510163766457
noncomputable def hdT : Program := PySem.W.view tG DK
theorem hdE : hdV = hdT := congrArg (fun p => PySem.W.view p DK) PySem.W.Fast.te5887849510163766457
abbrev hdX (q : Program) (s : Shared) : Bool := xlAt q [] s && recOk (OpenRow.toRowW Dj).records s
def HdHyp (K : Params -> Frag) (as : List Addr) : Prop := ∀ (K' : Params -> Frag) (as' : List Addr), (∀ P, as' = (K' P).map (·.1)) -> K' = K -> as' = as -> Dj.Holds
def yY (K : Params -> Frag) (as : List Addr) (_ : HdHyp K as -> Dj.Holds) (e : ∀ P, as = (K P).map (·.1)) : List Addr := let _ := e; as
local macro_rules
 | `(tactic| o_head (kHook $K $as $e)) => `(tactic| exact (show MyLaw.HdHyp _ _ from by assumption) $K $as $e rfl rfl)
def hdKs : List Addr := by
 apply yY
 case x => intro hyp; k_head
 case e => intro P; kernel_rfl
abbrev wK : Params -> Frag := MyLaw.hdKs.heap_1
theorem hdKe : ∀ P, hdKs = (MyLaw.hdKs.heap_1 P).map (·.1) := by intro P; kernel_rfl
noncomputable def tM : PSigma fun G : (String -> Str) -> Params -> Frag => MyLaw.hdKs.heap_1 = G Str.ofString := by
 refine ⟨?G, (?g : MyLaw.hdKs.heap_1 = (?G : (String -> Str) -> Params -> Frag) Str.ofString -> _) ?p⟩
 case p =>
  delta MyLaw.hdKs.heap_1
  generalize Str.ofString = f
  exact rfl
 case g =>
  intro _
  exact rfl
noncomputable def xq (tb : String -> Option Builtin) (p : Program) (w : World) (n₀ : Nat) (ann : Option Value) : Nat -> SharedT -> Thread -> Option SharedT
 | 0, _, _ => none
 | n + 1, s, t => match through t with
  | true => some s
  | false => match PySem.W.Fast.tw6613529449190102663 n₀ ann t with
   | false => none
   | true => match PySem.W.Fast.tw10156331382660048174 (PySem.W.Fast.tw11892475500146522536 tb) p w s t with
    | some (s', t') => xq tb p w n₀ ann n s' t'
    | none => none
theorem rN {tb : String -> Option Builtin} {p : Program} {w : World} {n₀ : Nat} {ann : Option Value} : ∀ {n : Nat} {s r : SharedT} {t : Thread}, xq tb p w n₀ ann n s t = some r -> topRun tb p w n₀ ann n s.abs t = some r.abs
 | 0, _, _, _, h => by cases h
 | n + 1, s, r, t, h => by
  unfold xq at h
  rw [<- PySem.W.Fast.te6613529449190102663, <- PySem.W.Fast.te10156331382660048174, <- PySem.W.Fast.te11892475500146522536] at h
  unfold topRun
  cases he : through t with
  | true => rw [he] at h; cases h; rfl
  | false =>
   rw [he] at h
   cases hk : stepOk n₀ ann t with
   | false => rw [hk] at h; cases h
   | true =>
    rw [hk] at h
    cases hs : stepT (denote tb) p w s t with
    | none => rw [hs] at h; cases h
    | some q => obtain ⟨s₂, t₂⟩ := q; rw [hs] at h; rw [stepT_spec hs]; exact rN h
noncomputable def vO : List Obj -> Nat -> BT -> BT
 | [], _, t => t
 | o :: r, i, t => vO r (i + 1) (t.ins i o)
noncomputable def As (s : Shared) : SharedT := ⟨vO s.heap.objs.toList 0 .nil, s.heap.objs.size, s.heap.life, s.gens, s.drawn, s.toks, s.os⟩
noncomputable abbrev hdTb := PySem.W.Fast.tw14364793385576792824
noncomputable abbrev Cj (s₀ s₁ : Shared) : Option Shared := match staticsOk (importedModules tG.main.body) s₀.heap s₁.heap && namesBound tG s₁.heap && gensDone s₁ && laidKept s₀.heap s₁.heap with
 | true => some s₁
 | false => none
noncomputable def pU (w : World) (s₀ : Shared) : Option Shared := match s₀.heap.isNs mainGlobals && s₀.gens.size == 0 with
 | true => (xq hdTb tG w s₀.heap.objs.size (s₀.heap.nsMap mainGlobals "__annotations__") 7874 (As s₀) (topStub tG)).bind fun r => Cj s₀ r.abs
 | false => none
noncomputable def kh (w : World) : Option Shared := (fencedOpening hdTb tG w 7874).bind (pU w)
theorem hdO : ∀ w : World, (fencedOpening hdTb tG w 7874).map (fun s => (As s).abs) = fencedOpening hdTb tG w 7874 := by intro w; kernel_rfl
theorem uW {w : World} {s : Shared} (h : kh w = some s) : openEnds hdTb tG w 7874 = some s := by
 unfold kh at h
 unfold openEnds
 have o := hdO w
 generalize fencedOpening hdTb tG w 7874 = x at h o ⊢
 cases x with
 | none => cases h
 | some s₀ =>
  have o : (As s₀).abs = s₀ := Option.some.inj o
  have h : pU w s₀ = some s := h
  show topFrom hdTb tG w 7874 s₀ = some s
  unfold pU at h
  unfold topFrom
  cases hb : (s₀.heap.isNs mainGlobals && s₀.gens.size == 0) with
  | false => rw [hb] at h; cases h
  | true =>
   rw [hb] at h
   dsimp only at h ⊢
   obtain ⟨r, h1, h2⟩ := Option.bind_eq_some_iff.mp h
   have h3 := rN h1
   rw [o] at h3
   rw [h3]
   exact h2
noncomputable abbrev hW (s : Shared) := PySem.W.Fast.tw4187177175401517315 hdT [] (PySem.W.Fast.tw5923862056798008813 tG.main.body) (hdX hdT) true s
noncomputable abbrev hdGood := openGood hdT []
open PyProof PyProof.Rows
theorem hdA : ∀ w : World, Option.map (fun s => (hW s).1) (kh w) = some (expectedOf hdT) := by intro w; kernel_rfl
theorem hdB : ∀ w : World, Option.map (fun s => ((hW s).2.1, (hW s).2.2.1, (hW s).2.2.2.1)) (kh w) = some (bltViewBooted, true, true) := by intro w; kernel_rfl
theorem Do : ∀ w : World, Option.map (fun s => (hW s).2.2.2.2) (kh w) = some (pinGoodD (drecsOf hdT), plainGoodE hdT (looseW hdT []), plainGoodD hdT [], wideGood hdT, clsGoodW hdT []) := by intro w; kernel_rfl
theorem DI : ∀ w : World, Option.map (fun s => hdKs.map s.heap.get?) (kh w) = some ((tM.1 hdF w.params).map fun p => some p.2) := by intro w; kernel_rfl
theorem hdL : LeftO Dj.prog hdV [] (hdX hdV) (kHook wK hdKs hdKe).obs (kHook wK hdKs hdKe).val 7874 := by
 intro w
 show Option.map (fun s => (openSeen hdV [] (importedModules (PySem.Challenge.pw_markscale_k32_what_is_a_telling).main.body) (hdX hdV) true s, hdKs.map s.heap.get?)) (openEnds treeTable PySem.Challenge.pw_markscale_k32_what_is_a_telling w 7874) = some (openGood hdV [], (wK w.params).map fun p => some p.2)
 have eK : wK = tM.1 hdF := tM.2.trans (congrArg tM.1 hdFe)
 rw [hdE, PySem.W.Fast.te5887849510163766457, PySem.W.Fast.te4187177175401517315, PySem.W.Fast.te5923862056798008813, PySem.W.Fast.te14364793385576792824, eK]
 have a := hdA w
 have b := hdB w
 have c := Do w
 have d := DI w
 cases hx : kh w with
 | none => rw [hx] at a; cases a
 | some s =>
  rw [hx] at a b c d
  rw [show openEnds PySem.W.Fast.tw14364793385576792824 PySem.W.Fast.tw5887849510163766457 w 7874 = some s from uW hx]
  have a : (hW s).1 = expectedOf hdT := Option.some.inj a
  have b := Option.some.inj b
  have c : (hW s).2.2.2.2 = _ := Option.some.inj c
  have d : hdKs.map s.heap.get? = (tM.1 hdF w.params).map fun p => some p.2 := Option.some.inj d
  obtain ⟨b1, b2⟩ := Prod.mk.inj b
  obtain ⟨b2, b3⟩ := Prod.mk.inj b2
  show some (hW s, hdKs.map s.heap.get?) = some (hdGood, _)
  rw [d]
  generalize hW s = y at a b1 b2 b3 c ⊢
  obtain ⟨y1, y2, y3, y4, y5⟩ := y
  subst a b1 b2 b3 c
  rfl
open PyProof.Rows in
set_option maxRecDepth 100000 in
set_option maxHeartbeats 0 in
noncomputable def hdZ : PSigma fun G : Prop => G → PySem.Challenge.rw_markscale_k32_what_is_a_telling.Holds := by
 apply PSigma.mk
 case snd =>
  intro hc
  w_on; o_law
  refine holds_open (q := MyLaw.hdV) (loose := []) (Xt := MyLaw.hdX MyLaw.hdV) (XP := XL MyLaw.hdV [])
   (Yf := Hook.obs (kHook MyLaw.hdKs.heap_1 MyLaw.hdKs MyLaw.hdKe)) (Ya := Hook.val (kHook MyLaw.hdKs.heap_1 MyLaw.hdKs MyLaw.hdKe)) (YP := Hook.says (kHook MyLaw.hdKs.heap_1 MyLaw.hdKs MyLaw.hdKe)) (N := 7874)
   MyLaw.hdL (Hook.of _) (Hook.keeps _) (fun s z => xl_of s (Bool.and_eq_true_iff.mp z).1) XL.keeps (by rfl)
   (by rfl) (by rfl) (fun s z => recFacts_of (Bool.and_eq_true_iff.mp z).2) (by rfl)
   (by first | assumption | decide +kernel) (by decide +kernel)
   ⟨rfl, rfl, rfl, rfl, rfl, by decide +kernel⟩ ?hw ?hcc
  (case hw => w_witness2)
  exact hc
end MyLaw
end
namespace L2
open PySem PySem.Spec PyProof.Rows
noncomputable abbrev Key := Sum Int Str
noncomputable def xX : Key -> Value -> Bool
 | .inl k, v => Value.isInt k v
 | .inr x, v => Value.isStrOf x v
noncomputable def Ej (w : World) : Key -> Int
 | .inl k => hashInt k
 | .inr x => hashStr w x
theorem bH : ∀ {k : Key} {v : Value}, xX k v = true -> (∃ i t, k = Sum.inl i /\ v = Value.int i t) ∨ (∃ x t, k = Sum.inr x /\ v = Value.str x t)
 | .inl i, v, h => by
  obtain ⟨t, e⟩ := Value.isInt_shape (k := i) (v := v) h
  exact .inl ⟨i, t, rfl, e⟩
 | .inr x, v, h => by
  obtain ⟨t, e⟩ := Value.isStrOf_shape (x := x) (v := v) h
  exact .inr ⟨x, t, rfl, e⟩
theorem zW (a b : Int) : decide ((Sum.inl a : Key) = Sum.inl b) = (a == b) := by
 by_cases e : a = b
 ·subst e; simp
 ·have h : ¬ (Sum.inl a : Key) = Sum.inl b := fun q => e (Sum.inl.inj q)
  rw [decide_eq_false h]
  exact (beq_eq_false_iff_ne.mpr e).symm
theorem zH (a b : Str) : decide ((Sum.inr a : Key) = Sum.inr b) = decide (a = b) := by
 by_cases e : a = b
 ·subst e; simp
 ·have h : ¬ (Sum.inr a : Key) = Sum.inr b := fun q => e (Sum.inr.inj q)
  rw [decide_eq_false h, decide_eq_false e]
theorem zp (a : Int) (b : Str) : decide ((Sum.inl a : Key) = Sum.inr b) = false := decide_eq_false (fun q => nomatch q)
theorem zU (a : Str) (b : Int) : decide ((Sum.inr a : Key) = Sum.inl b) = false := decide_eq_false (fun q => nomatch q)
noncomputable def ia (prog : Program) (w : World) : PySem.KeyKind prog w Key where
 is := xX
 hash := Ej w
 inj := fun v a b ha hb => by
  rcases bH ha with ⟨i, t, rfl, rfl⟩ | ⟨x, t, rfl, rfl⟩
  ·rcases bH hb with ⟨j, u, rfl, e⟩ | ⟨y, u, rfl, e⟩
   ·injection e with e1 _; rw [e1]
   ·exact nomatch e
  ·rcases bH hb with ⟨j, u, rfl, e⟩ | ⟨y, u, rfl, e⟩
   ·exact nomatch e
   ·injection e with e1 _; rw [e1]
 byValue := fun k v h => by
  rcases bH h with ⟨i, t, rfl, rfl⟩ | ⟨x, t, rfl, rfl⟩ <;> rfl
 pyHash := fun hv h => by
  rcases bH hv with ⟨i, t, rfl, rfl⟩ | ⟨x, t, rfl, rfl⟩
  ·exact wpAny_pyHash_int h
  ·exact wpAny_pyHash_str h
 eqBool := fun hu hv h => by
  rcases bH hu with ⟨i, t, rfl, rfl⟩ | ⟨x, t, rfl, rfl⟩
  ·rcases bH hv with ⟨j, u, rfl, rfl⟩ | ⟨y, u, rfl, rfl⟩
   ·rw [zW] at h; exact wpAny_eqBool_int h
   ·rw [zp] at h; exact SeqAt.EqAt.int_str i t y u _ _ _ _ h
  ·rcases bH hv with ⟨j, u, rfl, rfl⟩ | ⟨y, u, rfl, rfl⟩
   ·rw [zU] at h; exact SeqAt.EqAt.str_int x t j u _ _ _ _ h
   ·rw [zH] at h; exact wpAny_eqBool_str h
 «strs» := fun k x t v h => by
  rcases bH h with ⟨i, u, rfl, e⟩ | ⟨y, u, rfl, e⟩
  ·exact nomatch e
  ·injection e with e1 _
   subst e1
   cases v <;> rfl
end L2
namespace L2
open PySem PySem.Spec PyProof.Rows
inductive V where
 | non | bl (b : Bool) | int (i : Int) | str (x : Str) | byt (b : Array UInt8) | flt (b : UInt64) | ref (a : Addr) | ty (n : String)
 deriving DecidableEq
noncomputable def bu : V -> Value -> Prop
 | .non, u => u = Value.none
 | .bl b, u => u = Value.bool b
 | .int i, u => ∃ t, u = Value.int i t
 | .str x, u => ∃ t, u = Value.str x t
 | .byt b, u => ∃ t, u = Value.bytes b t
 | .flt b, u => ∃ t, u = Value.float b t
 | .ref a, u => u = Value.ref a
 | .ty n, u => u = Value.type n
noncomputable abbrev bd : List V -> List Value -> Prop := Paired bu
theorem bd.length {xs : List V} {us : List Value} (r : bd xs us) : xs.length = us.length := Paired.length r
theorem bd.get : ∀ {xs : List V} {us : List Value} {i : Nat} {x : V}, bd xs us -> xs[i]? = some x -> ∃ u, us[i]? = some u /\ bu x u
 | _, _, _, _, .nil, e => by simp at e
 | _, _, 0, _, .cons r _, e => by simp at e; subst e; exact ⟨_, rfl, r⟩
 | _, _, i + 1, x, .cons _ t, e => by
  obtain ⟨u, h1, h2⟩ := bd.get (i := i) (x := x) t (by simpa using e)
  exact ⟨u, by simpa using h1, h2⟩
theorem bd.set {x : V} {u : Value} (r : bu x u) : ∀ {xs : List V} {us : List Value} (i : Nat), bd xs us -> bd (xs.set i x) (us.set i u)
 | _, _, _, .nil => .nil
 | _, _, 0, .cons _ t => .cons r t
 | _, _, i + 1, .cons q t => .cons q (bd.set r i t)
theorem bd.append : ∀ {xs ys : List V} {us ws : List Value}, bd xs us -> bd ys ws -> bd (xs ++ ys) (us ++ ws)
 | _, _, _, _, .nil, s => s
 | _, _, _, _, .cons r t, s => .cons r (bd.append t s)
theorem bd.take : ∀ {xs : List V} {us : List Value} (n : Nat), bd xs us -> bd (xs.take n) (us.take n)
 | _, _, 0, _ => .nil
 | _, _, _ + 1, .nil => .nil
 | _, _, n + 1, .cons r t => .cons r (bd.take n t)
theorem bd.drop : ∀ {xs : List V} {us : List Value} (n : Nat), bd xs us -> bd (xs.drop n) (us.drop n)
 | _, _, 0, r => r
 | _, _, _ + 1, .nil => .nil
 | _, _, n + 1, .cons _ t => bd.drop n t
noncomputable def vE : Option V -> Option Value -> Prop
 | some v, some u => bu v u
 | none, none => True
 | _, _ => False
noncomputable def KV {κ : Type} : List (κ × V) -> List (κ × Value) -> Prop := Paired fun (p : κ × V) (q : κ × Value) => p.1 = q.1 /\ bu p.2 q.2
noncomputable def kV : Key -> V
 | .inl i => .int i
 | .inr x => .str x
inductive HO where
 | lst (xs : List V)
 | tup (xs : List V)
 | dK (kvs : List (Key × V)) | dT (kvs : List (List Key × V))
 | set (S : Int -> Bool) (n : Nat)
 | ins (C dx : Addr) (fs : List (Str × V))
 | own (x : Addr)
 | xd (fs : List (Str × V))
 | met (f x : Addr)
 | rng (lo hi : Int)
 | frz (o : Obj) (u : HO)
 | tbl (ps : Array Value)
 | ext (φ : Heap -> Prop)
noncomputable abbrev Hp := Addr -> Option HO
noncomputable def upd (H : Hp) (a : Addr) (o : HO) : Hp := fun b => if b = a then some o else H b
variable {H : Hp} {a : Addr} {o : HO}
theorem aL : upd H a o a = some o := by unfold upd; rw [if_pos rfl]
theorem aE {b : Addr} (h : b ≠ a) : upd H a o b = H b := by unfold upd; rw [if_neg h]
theorem yd {b : Addr} {u : HO} (h : H a = some o) (h' : H b = some u) (d : o ≠ u) : a ≠ b := by
 intro e; subst e; rw [h] at h'; exact d (Option.some.inj h')
theorem dm {b : Addr} (h : H a = some o) (h' : H b = none) : a ≠ b := by
 intro e; subst e; rw [h] at h'; cases h'
section
variable (P : Program) (w : World)
noncomputable def bz (H : Hp) (h : Heap) (a : Addr) : HO -> Prop
 | .lst xs => xs.length <= sizeLine /\ ∃ (its : List Value) (n : Nat), bd xs its /\ h.get? a = some { cls := .type "list", data := .seq its.toArray n }
 | .tup xs => xs.length <= sizeLine /\ ∃ its : List Value, bd xs its /\ IsTup h a its.toArray
 | .dK kvs => kvs.length <= sizeLine /\ (a == sysModules) = false /\ ∃ vs, KV kvs vs /\ h.DictOf (ia P w) a vs
 | .dT kvs => kvs.length <= sizeLine /\ (a == sysModules) = false /\ ∃ xs : List (List Key × Addr × Value),
   Paired (fun (p : List Key × V) (q : List Key × Addr × Value) => p.1 = q.1 /\ H q.2.1 = some (.tup (p.1.map kV)) /\ bu p.2 q.2.2) kvs xs /\
   ∃ o es ep, h.get? a = some o /\ o.ExactDict /\ o.data = .dict es ep /\ es.toList = xs.map (entryOfKey (tupleKind (ia P w))) /\ (xs.map (·.1)).Nodup
 | .set S n => h.SetOf (intKind P w) a S n
 | .ins C dx fs => H dx = some (.own a) /\ fs.length <= 1000 /\ dx ≠ a /\ h.get? a = some (PySem.W.instObj C dx) /\
   ∃ mA, h.Ns1 dx mA /\ (∀ f, vE (fs.lookup f) (mA f)) /\ PySem.Within mA (fs.map (·.1))
 | .own _ => ∃ o, h.get? a = some o
 | .xd fs => ∃ mA, h.Ns1 a mA /\ ∀ f, vE (fs.lookup f) (mA f)
 | .rng lo hi => ∃ t u v, h.get? a = some { cls := .type "range", data := .fields #[.int lo t, .int hi u, .int 1 v] }
 | .frz o u => h.get? a = some o /\ bz H h a u
 | .tbl ps => h.get? a = some { cls := .none, data := .fields ps }
 | .met f x => h.get? a = some (PySem.W.methodObj (.ref f) (.ref x))
 | .ext φ => φ h /\ (∃ o, h.get? a = some o) /\ ∀ h1 h2 : Heap, φ h1 -> (∀ o, h1.get? a = some o -> h2.get? a = some o) -> φ h2
noncomputable def iX (H : Hp) (h : Heap) : Prop := ∀ a o, H a = some o -> bz P w H h a o
end
section
variable {P : Program} {w : World} {H H' : Hp} {h h' : Heap} {a : Addr} {o : HO}
theorem bz.lt (x : bz P w H h a o) : a < h.objs.size := by
 cases o with
 | lst xs => obtain ⟨_, _, _, _, e⟩ := x; exact Heap.lt_size e
 | tup xs => obtain ⟨_, _, _, p⟩ := x; exact p.lt
 | dK kvs => obtain ⟨_, _, _, _, o, _, _, e, _⟩ := x; exact Heap.lt_size e
 | dT kvs => obtain ⟨_, _, _, _, o, _, _, e, _⟩ := x; exact Heap.lt_size e
 | set S n => obtain ⟨o, _, _, _, e, _⟩ := x; exact Heap.lt_size e
 | ins C dx fs => obtain ⟨_, _, _, e, _⟩ := x; exact Heap.lt_size e
 | own y => obtain ⟨_, e⟩ := x; exact Heap.lt_size e
 | xd fs => obtain ⟨_, ⟨_, _, _, e, _⟩, _⟩ := x; exact Heap.lt_size e
 | rng lo hi => obtain ⟨_, _, _, e⟩ := x; exact Heap.lt_size e
 | frz ob u => obtain ⟨e, _⟩ := x; exact Heap.lt_size e
 | tbl ps => exact Heap.lt_size (show h.get? a = some _ from x)
 | met f y => exact Heap.lt_size (show h.get? a = some _ from x)
 | ext φ => obtain ⟨_, ⟨_, e⟩, _⟩ := x; exact Heap.lt_size e
theorem Paired.mapP {α β : Type} {F G : α -> β -> Prop} : ∀ {l₁ : List α} {l₂ : List β}, Paired F l₁ l₂ -> (∀ a b, F a b -> G a b) -> Paired G l₁ l₂
 | _, _, .nil, _ => .nil
 | _, _, .cons r t, f => .cons (f _ _ r) (Paired.mapP t f)
theorem bz.stay (x : bz P w H h a o) (k : ∀ b u, (b = a ∨ H b = some (.own a)) -> h.get? b = some u -> h'.get? b = some u)
  (ho : ∀ b, H b = some (.own a) -> H' b = some (.own a)) (ht : ∀ b xs, H b = some (.tup xs) -> H' b = some (.tup xs)) : bz P w H' h' a o := by
 induction o with
 | lst xs => obtain ⟨z, its, n, r, e⟩ := x; exact ⟨z, its, n, r, k _ _ (.inl rfl) e⟩
 | tup xs => obtain ⟨z, its, r, ob, e, c⟩ := x; exact ⟨z, its, r, ob, k _ _ (.inl rfl) e, c⟩
 | dK kvs => obtain ⟨z, y, vs, r, ob, es, ep, e, c⟩ := x; exact ⟨z, y, vs, r, ob, es, ep, k _ _ (.inl rfl) e, c⟩
 | dT kvs =>
  obtain ⟨z, y, xs, r, ob, es, ep, e, c⟩ := x
  exact ⟨z, y, xs, Paired.mapP r fun p q z => ⟨z.1, ht _ _ z.2.1, z.2.2⟩, ob, es, ep, k _ _ (.inl rfl) e, c⟩
 | set S n => obtain ⟨ob, es, ep, t, e, c⟩ := x; exact ⟨ob, es, ep, t, k _ _ (.inl rfl) e, c⟩
 | ins C dx fs =>
  obtain ⟨d, z, ne, e, mA, ⟨od, es, ep, e2, c⟩, r⟩ := x
  exact ⟨ho _ d, z, ne, k _ _ (.inl rfl) e, mA, ⟨od, es, ep, k _ _ (.inr d) e2, c⟩, r⟩
 | own y => obtain ⟨ob, e⟩ := x; exact ⟨ob, k _ _ (.inl rfl) e⟩
 | xd fs => obtain ⟨mA, ⟨od, es, ep, e, c⟩, r⟩ := x; exact ⟨mA, ⟨od, es, ep, k _ _ (.inl rfl) e, c⟩, r⟩
 | rng lo hi => obtain ⟨t, u, v, e⟩ := x; exact ⟨t, u, v, k _ _ (.inl rfl) e⟩
 | frz ob u ih => obtain ⟨e, q⟩ := x; exact ⟨k _ _ (.inl rfl) e, ih q⟩
 | tbl ps =>
  have e : h.get? a = some { cls := .none, data := .fields ps } := x
  show h'.get? a = some { cls := .none, data := .fields ps }
  exact k a _ (.inl rfl) e
 | met f y =>
  have e : h.get? a = some (PySem.W.methodObj (.ref f) (.ref y)) := x
  show h'.get? a = some (PySem.W.methodObj (.ref f) (.ref y))
  exact k a _ (.inl rfl) e
 | ext φ => obtain ⟨p, ⟨o, e⟩, st⟩ := x; exact ⟨st _ _ p fun o q => k _ _ (.inl rfl) q, ⟨o, k _ _ (.inl rfl) e⟩, st⟩
theorem iX.lt (x : iX P w H h) (e : H a = some o) : a < h.objs.size := (x a o e).lt
theorem iX.fresh (x : iX P w H h) (e : h.objs.size <= a) : H a = none := by
 cases q : H a with
 | none => rfl
 | some u => exact absurd (Nat.lt_of_lt_of_le (x.lt q) e) (Nat.lt_irrefl _)
theorem iX.kept (x : iX P w H h) (k : ∀ b u, h.get? b = some u -> h'.get? b = some u) : iX P w H h' := fun a o e =>
 (x a o e).stay (fun b u _ q => k b u q) (fun _ q => q) fun _ _ q => q
theorem iX.laid (x : iX P w H h) (k : ∀ b u, h.get? b = some u -> h'.get? b = some u) (hp : h.objs.size <= a) (new : bz P w (upd H a o) h' a o) : iX P w (upd H a o) h' := fun b u e => by
 have hn := x.fresh hp
 by_cases hb : b = a
 ·subst hb; rw [aL] at e; cases e; exact new
 ·rw [aE hb] at e
  exact (x b u e).stay (fun c v _ q => k c v q) (fun c q => by rw [aE (dm q hn)]; exact q) fun c xs q => by rw [aE (dm q hn)]; exact q
end
noncomputable def Rd (H : Hp) (a : Addr) (u : HO) : Prop := H a = some u ∨ ∃ o, H a = some (.frz o u)
variable {h : Heap}
theorem Rd.ok {P : Program} {w : World} {u : HO} (r : Rd H a u) (x : iX P w H h) : bz P w H h a u := by
 rcases r with r | ⟨o, r⟩
 ·exact x a u r
 ·obtain ⟨_, q⟩ := x a _ r
  exact q
noncomputable def DC : Option HO -> Prop
 | some (.lst _) => True
 | some (.dK _) => True
 | some (.dT _) => True
 | some (.set _ _) => True
 | some (.ins _ _ _) => True
 | some (.ext _) => True
 | _ => False
section
variable {P : Program} {w : World} {H : Hp} {h h' : Heap} {x e : Addr} {o' : HO}
theorem iX.write (ok : iX P w H h) (mu : DC (H x)) (he : e = x ∨ H e = some (.own x)) (k : ∀ b u, b ≠ e -> h.get? b = some u -> h'.get? b = some u) (heo : ∃ u, h'.get? e = some u)
  (new : bz P w (upd H x o') h' x o') : iX P w (upd H x o') h' := fun b u q => by
 have nown : ∀ c y, H c = some (.own y) -> c ≠ x := fun c y r z => by subst z; rw [r] at mu; exact mu
 have ntup : ∀ c xs, H c = some (.tup xs) -> c ≠ x := fun c xs r z => by subst z; rw [r] at mu; exact mu
 by_cases hb : b = x
 ·subst hb; rw [aL] at q; cases q; exact new
 ·rw [aE hb] at q
  by_cases hbe : b = e
  ·have q' : H b = some (.own x) := by
    rcases he with z | z
    ·exact absurd (hbe.trans z) hb
    ·rw [hbe]; exact z
   rw [q] at q'; cases q'
   obtain ⟨v, hv⟩ := heo
   exact ⟨v, by rw [hbe]; exact hv⟩
  ·refine (ok b u q).stay (fun c v hc r => k c v ?_ r) (fun c r => by rw [aE (nown c b r)]; exact r) fun c xs r => by rw [aE (ntup c xs r)]; exact r
   rcases hc with rfl | hc
   ·exact hbe
   ·rintro rfl
    rcases he with z | z
    ·exact nown c b hc z
    ·rw [hc] at z; cases z; exact hb rfl
end
structure Un (fs ex : List Addr) (H H' : Hp) (h h' : Heap) : Prop where
 keep : ∀ b o, h.get? b = some o -> H b = none -> b ∉ fs -> b ∉ ex -> h'.get? b = some o
 slot : ∀ b o, h.get? b = some o -> H b = none -> b ∈ fs -> b ∉ ex -> ∃ sl, h'.get? b = some { o with slots := sl }
 free : ∀ b o, h.get? b = some o -> H b = none -> b ∉ ex -> H' b = none
 there : ∀ b o, h.get? b = some o -> b ∉ ex -> ∃ o', h'.get? b = some o'
 tups : ∀ b xs, H b = some (.tup xs) -> H' b = some (.tup xs)
 frzs : ∀ b o u, H b = some (.frz o u) -> H' b = some (.frz o u)
 tbls : ∀ b ps, H b = some (.tbl ps) -> ∃ more, H' b = some (.tbl (ps ++ more))
section
variable {fs fs' ex ex' : List Addr} {H H1 H2 : Hp} {h h1 h2 h' : Heap} {a x e : Addr} {o : HO}
theorem Un.any (u : Un fs ex H H1 h h1) {b : Addr} {ob : Obj} (q : h.get? b = some ob) (n : H b = none) (hx : b ∉ ex) : ∃ sl, h1.get? b = some { ob with slots := sl } := by
 by_cases hb : b ∈ fs
 ·exact u.slot b ob q n hb hx
 ·exact ⟨ob.slots, u.keep b ob q n hb hx⟩
theorem Un.kept (k : ∀ b u, h.get? b = some u -> h'.get? b = some u) : Un fs ex H H h h' :=
 ⟨fun b ob q _ _ _ => k b ob q, fun b ob q _ _ _ => ⟨ob.slots, k b ob q⟩, fun _ _ _ n _ => n, fun b ob q _ => ⟨ob, k b ob q⟩, fun _ _ q => q, fun _ _ _ q => q, fun _ ps q => ⟨#[], by rw [q]; simp⟩⟩
theorem Un.refl : Un fs ex H H h h := Un.kept fun _ _ q => q
theorem Un.laid (k : ∀ b u, h.get? b = some u -> h'.get? b = some u) (hp : h.objs.size <= a) (hn : H a = none) : Un fs ex H (upd H a o) h h' where
 keep := fun b u q _ _ _ => k b u q
 slot := fun b u q _ _ _ => ⟨u.slots, k b u q⟩
 free := fun b u q n _ => by rw [aE (Nat.ne_of_lt (Nat.lt_of_lt_of_le (Heap.lt_size q) hp))]; exact n
 there := fun b u q _ => ⟨u, k b u q⟩
 tups := fun b xs q => by rw [aE (dm q hn)]; exact q
 frzs := fun b u xs q => by rw [aE (dm q hn)]; exact q
 tbls := fun b ps q => ⟨#[], by rw [aE (dm q hn), q]; simp⟩
theorem Un.write (mu : DC (H x)) (he : e = x ∨ H e = some (.own x)) (k : ∀ b u, b ≠ e -> h.get? b = some u -> h'.get? b = some u) (heo : ∃ u, h'.get? e = some u) : Un fs ex H (upd H x o) h h' := by
 have hx : ∀ b, H b = none -> b ≠ x := fun b n z => by subst z; rw [n] at mu; exact mu
 have hb : ∀ b, H b = none -> b ≠ e := fun b n z => by
  subst z
  rcases he with r | r
  ·exact hx b n r
  ·rw [n] at r; cases r
 have hm : ∀ b u, H b = some u -> ¬ DC (some u) -> b ≠ x := fun b u q nm z => by subst z; rw [q] at mu; exact nm mu
 refine ⟨fun b u q n _ _ => k b u (hb b n) q, fun b u q n _ _ => ⟨u.slots, k b u (hb b n) q⟩, fun b u q n _ => by rw [aE (hx b n)]; exact n, fun b u q _ => ?_,
  fun b xs q => by rw [aE (hm b _ q fun z => z)]; exact q, fun b u xs q => by rw [aE (hm b _ q fun z => z)]; exact q, fun b ps q => ⟨#[], by rw [aE (hm b _ q fun z => z), q]; simp⟩⟩
 by_cases hbe : b = e
 ·subst hbe; exact heo
 ·exact ⟨u, k b u hbe q⟩
end
noncomputable def Dd (h : Heap) (H : Hp) : List Addr := (List.range h.objs.size).filter fun a => (H a).isSome
noncomputable def mE (h : Heap) (H : Hp) : Heap := PySem.W.hideAll h (Dd h H)
theorem sr (h : Heap) (H : Hp) : (mE h H).objs.size = h.objs.size := PySem.W.hideAll_size _ _
theorem vm {b : Addr} {o : Obj} (e : h.get? b = some o) (n : H b = none) : (mE h H).get? b = some o :=
 PySem.W.hideAll_get _ e fun hm => by
  have q : (H b).isSome = true := (List.mem_filter.mp hm).2
  rw [n] at q; simp at q
theorem vX {b : Addr} {o : Obj} (e : (mE h H).get? b = some o) : h.get? b = some o /\ H b = none := by
 have e' : h.get? b = some o := PySem.W.of_hideAll (Dd h H) e
 refine ⟨e', ?_⟩
 cases q : H b with
 | none => rfl
 | some x =>
  have hm : b ∈ Dd h H := List.mem_filter.mpr ⟨List.mem_range.mpr (Heap.lt_size e'), by simp [q]⟩
  have z : (mE h H).get? b = none := PySem.W.hideAll_none (Dd h H) hm
  rw [z] at e; cases e
end L2
namespace L2
open PySem PySem.Spec PyProof.Rows
structure Mod (K : Fg) (mg : Str -> Option Value) (base : Heap) : Prop where
 kin : K.In base
 glob : base.Ns mainGlobals mg
 blt : ∃ mb, base.Ns builtinsNs mb /\ ∀ x : Str, x ≠ "__name__" -> mb x = bootBuiltins x
 nolimit : base.NoLimit
structure Cx where
 prog : Program
 w : World
 K : Fg
 mg : Str -> Option Value
 base : Heap
 A : Around
 N : List Str
 s₀ : Shared
 H₀ : Hp
 env : Env
 outer : List Env
 stack : List Env
 ex : List Addr
 fn : Str -> Bool
 calm : Bool
 pn : Pn
 xe : Value -> Shared -> Prop
noncomputable def dW (l : List Env) : List Addr := l.filterMap (·.frame)
noncomputable abbrev Cx.fs (X : Cx) : List Addr := dW X.outer
noncomputable def Bo (sc : Scope) (x : Str) : Prop := sc.names.lookup x = some .local ∨ sc.names.lookup x = some .cell ∨ sc.names.lookup x = some .free
noncomputable def zE (sc : Scope) (x : Str) : Prop := sc.names.lookup x = some .local ∨ sc.names.lookup x = some .cell
noncomputable def CO (env : Env) (h : Heap) (m : Str -> Option Value) (x : Str) (u : Value) : Prop :=
 (env.kindOf x = some .local /\ m x = some u) ∨ ((env.kindOf x = some .cell ∨ env.kindOf x = some .free) /\ ∃ c, env.cells.lookup x = some c /\ h.IsCell c (some u))
structure Cx.Ok (X : Cx) : Prop where
 mod : Mod X.K X.mg X.base
 kind : X.env.scope.kind = .function
 glob : X.env.globals = mainGlobals
 blt : X.env.builtins = builtinsNs
 above : X.s₀.heap.objs.size <= X.env.locals
 inj : ∀ x y c, X.env.cells.lookup x = some c -> X.env.cells.lookup y = some c -> x = y
 has : ∀ x, (X.env.kindOf x = some .cell ∨ X.env.kindOf x = some .free) -> ∃ c, X.env.cells.lookup x = some c
 cab : ∀ x c, X.fn x = true -> X.env.cells.lookup x = some c -> X.s₀.heap.objs.size <= c
 hd : X.calm = true -> X.A.handled = none
 frames : X.A.frames = some X.stack
 stk : X.stack = X.outer ∨ (X.stack = X.env :: X.outer /\ X.env.frame = some X.env.locals)
 exf : ∀ b ∈ X.ex, b ≠ X.env.locals /\ ∀ x c, X.env.cells.lookup x = some c -> c ≠ b
 bs : ∀ b o, X.base.get? b = some o -> X.s₀.heap.get? b = some o /\ X.H₀ b = none
 bsz : X.base.objs.size <= X.s₀.heap.objs.size
 noex : ∀ b o, X.base.get? b = some o -> b ∉ X.ex
 exfs : ∀ b ∈ X.ex, b ∉ X.fs
 funs : X.s₀.heap.FunFrames X.base X.outer
 frf : ∀ b ∈ X.fs, X.H₀ b = none
structure aJ (X : Cx) (pins : Pn) (σ : List (Option V)) (H : Hp) (s : Shared) : Prop where
 ok : X.Ok
 os : s.os = X.s₀.os
 bare : AllBare s.gens
 base : Un X.fs X.ex X.H₀ H X.s₀.heap s.heap
 loc : ∃ m, s.heap.Ns X.env.locals m /\ ∀ (i : Nat) (x : Str) (v : V), X.N[i]? = some x -> σ[i]? = some (some v) -> Bo X.env.scope x -> ∃ u, bu v u /\ CO X.env s.heap m x u
 cell : ∀ x c, X.env.cells.lookup x = some c -> ∃ v, s.heap.IsCell c v
 free : H X.env.locals = none
 freeC : ∀ x c, X.env.cells.lookup x = some c -> H c = none
 pin : ∀ p ∈ X.pn ++ pins, s.heap.get? p.1 = some p.2 /\ H p.1 = none /\ p.1 ≠ X.env.locals /\ p.1 ∉ X.fs /\ ∀ v, p.2.data ≠ .cell v
 hok : iX X.prog X.w H s.heap
 len : σ.length = X.N.length
section
variable {X : Cx} {pins : Pn} {σ : List (Option V)} {H H' : Hp} {s : Shared} {h' : Heap}
theorem Cx.Ok.nofr (ok : X.Ok) {b : Addr} {o : Obj} (e : X.base.get? b = some o) : b ∉ X.fs := fun hb => by
 have := (ok.funs.mem hb).1
 rw [e] at this; cases this
theorem aJ.bs (I : aJ X pins σ H s) : ∀ b o, X.base.get? b = some o -> s.heap.get? b = some o /\ H b = none := fun b o e =>
 ⟨I.base.keep b o (I.ok.bs b o e).1 (I.ok.bs b o e).2 (I.ok.nofr e) (I.ok.noex b o e), I.base.free b o (I.ok.bs b o e).1 (I.ok.bs b o e).2 (I.ok.noex b o e)⟩
theorem aJ.bk (I : aJ X pins σ H s) : ∀ b o, X.base.get? b = some o -> s.heap.get? b = some o := fun b o e => (I.bs b o e).1
theorem aJ.mod (I : aJ X pins σ H s) : Mod X.K X.mg X.base := I.ok.mod
theorem aJ.kIn (I : aJ X pins σ H s) : X.K.In s.heap := I.ok.mod.kin.keeps I.bk
theorem aJ.lt (I : aJ X pins σ H s) : X.env.locals < s.heap.objs.size := let ⟨_, hn, _⟩ := I.loc; hn.lt
theorem aJ.sz (I : aJ X pins σ H s) : X.s₀.heap.objs.size <= s.heap.objs.size := Nat.le_trans I.ok.above (Nat.le_of_lt I.lt)
theorem aJ.nofs (I : aJ X pins σ H s) {a : Addr} (h : s.heap.objs.size <= a) : a ∉ X.fs := fun hb => by
 obtain ⟨_, o, ho, _⟩ := I.ok.funs.mem hb
 exact absurd (Nat.lt_of_lt_of_le (Heap.lt_size ho) (Nat.le_trans I.sz h)) (Nat.lt_irrefl _)
theorem aJ.cne (I : aJ X pins σ H s) : ∀ x c, X.env.cells.lookup x = some c -> c ≠ X.env.locals := fun x c e z => by
 obtain ⟨v, o, ho, hd⟩ := I.cell x c e
 obtain ⟨m, ⟨o', es, ep, ho', hd', _⟩, _⟩ := I.loc
 rw [z, ho'] at ho; cases ho; rw [hd'] at hd; cases hd
theorem aJ.funs (I : aJ X pins σ H s) : s.heap.FunFrames X.base X.outer := by
 have all : ∀ (l : List Env), (∀ b ∈ dW l, b ∈ X.fs) -> X.s₀.heap.FunFrames X.base l -> s.heap.FunFrames X.base l := by
  intro l
  induction l with
  | nil => intro _ _; trivial
  | cons env r ih =>
   intro hs hl
   obtain ⟨hk, ⟨L, o, hf, hn, ho, hd⟩, hr⟩ := hl
   have hL : L ∈ X.fs := hs L (by unfold dW; rw [List.filterMap_cons, hf]; exact List.mem_cons_self)
   obtain ⟨sl, e⟩ := I.base.slot L o ho (I.ok.frf L hL) hL fun z => I.ok.exfs L z hL
   exact ⟨hk, ⟨L, _, hf, hn, e, hd⟩, ih (fun b hb => hs b (by unfold dW; rw [List.filterMap_cons, hf]; exact List.mem_cons_of_mem _ hb)) hr⟩
 exact all X.outer (fun _ hb => hb) I.ok.funs
theorem aJ.stack (I : aJ X pins σ H s) : s.heap.FunFrames X.base X.stack := by
 rcases I.ok.stk with e | ⟨e, hf⟩
 ·rw [e]; exact I.funs
 ·rw [e]
  obtain ⟨m, hn, _⟩ := I.loc
  refine .cons (by rw [I.ok.kind]; decide) hf hn ?_ I.funs
  exact Heap.get?_none_of_le (Nat.le_trans I.ok.bsz I.ok.above)
theorem aJ.stkSub (I : aJ X pins σ H s) : ∀ b ∈ dW X.stack, b ∈ X.env.locals :: X.fs := fun b hb => by
 rcases I.ok.stk with e | ⟨e, hf⟩
 ·rw [e] at hb; exact List.mem_cons_of_mem _ hb
 ·rw [e] at hb
  unfold dW at hb
  rw [List.filterMap_cons, hf] at hb
  exact hb
theorem aJ.stkFree (I : aJ X pins σ H s) : ∀ b ∈ dW X.stack, H b = none := fun b hb => by
 rcases List.mem_cons.mp (I.stkSub b hb) with e | hb
 ·rw [e]; exact I.free
 ·obtain ⟨_, o, ho, _⟩ := I.ok.funs.mem hb
  exact I.base.free b o ho (I.ok.frf b hb) fun z => I.ok.exfs b z hb
theorem aJ.step {g' : Array GenState} {t' : Nat} {d' : Drawn} {ch : List Addr} (I : aJ X pins σ H s)
  (hch : ∀ b ∈ ch, (b ∈ X.ex ∨ X.s₀.heap.objs.size <= b) /\ b ≠ X.env.locals /\ (∀ x c, X.env.cells.lookup x = some c -> c ≠ b) /\ ∀ p ∈ X.pn ++ pins, p.1 ≠ b)
  (keep : ∀ b o, b ≠ X.env.locals -> b ∉ X.fs -> b ∉ ch -> s.heap.get? b = some o -> H b = none -> h'.get? b = some o)
  (slot : ∀ b o, b ≠ X.env.locals -> b ∈ X.fs -> b ∉ ch -> s.heap.get? b = some o -> H b = none -> ∃ sl, h'.get? b = some { o with slots := sl }) (free : ∀ b o, b ∉ ch -> s.heap.get? b = some o -> H b = none -> H' b = none)
  (there : ∀ b o, b ∉ ch -> s.heap.get? b = some o -> ∃ o', h'.get? b = some o')
  (tups : ∀ b xs, H b = some (.tup xs) -> H' b = some (.tup xs)) (frzs : ∀ b o u, H b = some (.frz o u) -> H' b = some (.frz o u)) (tbls : ∀ b ps, H b = some (.tbl ps) -> ∃ more, H' b = some (.tbl (ps ++ more)))
  (ns : ∀ m, s.heap.Ns X.env.locals m -> h'.Ns X.env.locals m) (hok : iX X.prog X.w H' h') (hg : AllBare g') :
  aJ X pins σ H' { s with heap := h', gens := g', drawn := d', toks := t' } := by
 have neL : ∀ b o, X.s₀.heap.get? b = some o -> b ≠ X.env.locals := fun b o e => Nat.ne_of_lt (Nat.lt_of_lt_of_le (Heap.lt_size e) I.ok.above)
 have neC : ∀ b o, X.s₀.heap.get? b = some o -> b ∉ X.ex -> b ∉ ch := fun b o e hx hb => by
  rcases (hch b hb).1 with z | z
  ·exact hx z
  ·exact absurd (Nat.lt_of_lt_of_le (Heap.lt_size e) z) (Nat.lt_irrefl _)
 have cellK : ∀ x c, X.env.cells.lookup x = some c -> ∀ v, s.heap.IsCell c v -> h'.IsCell c v := fun x c e v ⟨o, ho, hd⟩ => by
  have nch : c ∉ ch := fun z => (hch c z).2.2.1 x c e rfl
  by_cases hc : c ∈ X.fs
  ·obtain ⟨sl, q⟩ := slot c o (I.cne x c e) hc nch ho (I.freeC x c e)
   exact ⟨_, q, hd⟩
  ·exact ⟨o, keep c o (I.cne x c e) hc nch ho (I.freeC x c e), hd⟩
 refine ⟨I.ok, I.os, hg, ⟨fun b o e n hb hx => ?_, fun b o e n hb hx => ?_, fun b o e n hx => ?_, fun b o e hx => ?_, fun b xs e => tups b xs (I.base.tups b xs e), fun b o xs e => frzs b o xs (I.base.frzs b o xs e), fun b ps e => ?_⟩, ?_, fun x c e => ?_, ?_, fun x c e => ?_, fun p hp => ?_, hok, I.len⟩
 ·exact keep b o (neL b o e) hb (neC b o e hx) (I.base.keep b o e n hb hx) (I.base.free b o e n hx)
 ·obtain ⟨sl, e1⟩ := I.base.slot b o e n hb hx
  obtain ⟨sl', e2⟩ := slot b _ (neL b o e) hb (neC b o e hx) e1 (I.base.free b o e n hx)
  exact ⟨sl', e2⟩
 ·obtain ⟨o', e1⟩ := I.base.there b o e hx
  exact free b o' (neC b o e hx) e1 (I.base.free b o e n hx)
 ·obtain ⟨o', e1⟩ := I.base.there b o e hx
  exact there b o' (neC b o e hx) e1
 ·obtain ⟨m1, e1⟩ := I.base.tbls b ps e
  obtain ⟨m2, e2⟩ := tbls b _ e1
  exact ⟨m1 ++ m2, by rw [e2, Array.append_assoc]⟩
 ·obtain ⟨m, hn, hl⟩ := I.loc
  refine ⟨m, ns m hn, fun i x v e1 e2 e3 => ?_⟩
  obtain ⟨u, r, l⟩ := hl i x v e1 e2 e3
  refine ⟨u, r, ?_⟩
  rcases l with l | ⟨k, c, e, z⟩
  ·exact .inl l
  ·exact .inr ⟨k, c, e, cellK x c e _ z⟩
 ·obtain ⟨v, z⟩ := I.cell x c e
  exact ⟨v, cellK x c e v z⟩
 ·obtain ⟨m, ⟨o, _, _, ho, _⟩, _⟩ := I.loc
  exact free _ o (fun z => (hch _ z).2.1 rfl) ho I.free
 ·obtain ⟨v, o, ho, hd⟩ := I.cell x c e
  exact free c o (fun z => (hch c z).2.2.1 x c e rfl) ho (I.freeC x c e)
 ·obtain ⟨e, n, ne, nf, d⟩ := I.pin p hp
  have nch : p.1 ∉ ch := fun z => (hch p.1 z).2.2.2 p hp rfl
  exact ⟨keep p.1 p.2 ne nf nch e n, free p.1 p.2 nch e n, ne, nf, d⟩
theorem aJ.un {t' : Nat} (I : aJ X pins σ H s) (u : Un X.fs [] H H' s.heap h') (hok : iX X.prog X.w H' h') : aJ X pins σ H' { s with heap := h', toks := t' } := by
 obtain ⟨m, ⟨o, es, ep, ho, r⟩, _⟩ := id I.loc
 obtain ⟨sl, hL⟩ := u.any ho I.free (by simp)
 exact I.step (g' := s.gens) (d' := s.drawn) (ch := []) (fun _ z => nomatch z) (fun b o _ hb _ e n => u.keep b o e n hb (by simp)) (fun b o _ hb _ e n => u.slot b o e n hb (by simp)) (fun b o _ e n => u.free b o e n (by simp)) (fun b o _ e => u.there b o e (by simp)) u.tups u.frzs u.tbls (fun m' hm => by
  obtain ⟨o', es', ep', ho', r'⟩ := hm
  rw [ho] at ho'; cases ho'
  exact ⟨_, es', ep', hL, r'⟩) hok I.bare
theorem aJ.call {g' : Array GenState} {t' : Nat} {d' : Drawn} {ch : List Addr} (I : aJ X pins σ H s) (u : Un (dW X.stack) ch H H' s.heap h') (hok : iX X.prog X.w H' h') (hg : AllBare g')
  (hch : ∀ b ∈ ch, (b ∈ X.ex ∨ X.s₀.heap.objs.size <= b) /\ b ≠ X.env.locals /\ (∀ x c, X.env.cells.lookup x = some c -> c ≠ b) /\ ∀ p ∈ X.pn ++ pins, p.1 ≠ b) :
  aJ X pins σ H' { s with heap := h', gens := g', drawn := d', toks := t' } := by
 obtain ⟨m, ⟨o, es, ep, ho, r⟩, _⟩ := id I.loc
 obtain ⟨sl, hL⟩ := u.any ho I.free fun z => (hch _ z).2.1 rfl
 exact I.step (ch := ch) hch (fun b o hL hb hc e n => u.keep b o e n (fun z => (List.mem_cons.mp (I.stkSub b z)).elim hL hb) hc) (fun b o _ _ hc e n => u.any e n hc) (fun b o hc e n => u.free b o e n hc) (fun b o hc e => u.there b o e hc) u.tups u.frzs u.tbls (fun m' hm => by
  obtain ⟨o', es', ep', ho', r'⟩ := hm
  rw [ho] at ho'; cases ho'
  exact ⟨_, es', ep', hL, r'⟩) hok hg
theorem aJ.turned {t' : Nat} {it : Addr} (I : aJ X pins σ H s) (k : ∀ b o, b ≠ it -> s.heap.get? b = some o -> h'.get? b = some o) (hn : H it = none) (hL : it ≠ X.env.locals)
  (h1 : it ∈ X.ex ∨ X.s₀.heap.objs.size <= it) (h2 : ∀ x c, X.env.cells.lookup x = some c -> c ≠ it) (h3 : ∀ p ∈ X.pn ++ pins, p.1 ≠ it) : aJ X pins σ H { s with heap := h', toks := t' } := by
 have nit : ∀ b u, H b = some u -> b ≠ it := fun b u e z => by rw [z, hn] at e; cases e
 refine I.step (g' := s.gens) (d' := s.drawn) (ch := [it]) (fun b hb => ?_) (fun b o _ _ hc e _ => k b o (fun z => hc (by simp [z])) e) (fun b o _ _ hc e _ => ⟨o.slots, k b o (fun z => hc (by simp [z])) e⟩) (fun _ _ _ _ n => n)
  (fun b o hc e => ⟨o, k b o (fun z => hc (by simp [z])) e⟩) (fun _ _ e => e) (fun _ _ _ e => e) (fun b ps e => ⟨#[], by rw [e]; simp⟩) (fun m hm => ?_) (fun b u e => ?_) I.bare
 ·have e : b = it := by simpa using hb
  subst e
  exact ⟨h1, hL, h2, h3⟩
 ·obtain ⟨o, es, ep, ho, r⟩ := hm
  exact ⟨o, es, ep, k _ o (Ne.symm hL) ho, r⟩
 ·refine (I.hok b u e).stay (fun c v hc q => k c v ?_ q) (fun _ q => q) fun _ _ q => q
  rcases hc with z | z
  ·rw [z]; exact nit b u e
  ·exact nit c _ z
theorem aJ.tok (I : aJ X pins σ H s) (t : Nat) : aJ X pins σ H { s with toks := t } := I.un (h' := s.heap) (t' := t) Un.refl I.hok
theorem aJ.kept {t' : Nat} (I : aJ X pins σ H s) (k : ∀ b u, s.heap.get? b = some u -> h'.get? b = some u) : aJ X pins σ H { s with heap := h', toks := t' } := I.un (Un.kept k) (I.hok.kept k)
theorem aJ.laid {a : Addr} {o : HO} {t' : Nat} (I : aJ X pins σ H s) (k : ∀ b u, s.heap.get? b = some u -> h'.get? b = some u) (hp : s.heap.objs.size <= a) (new : bz X.prog X.w (upd H a o) h' a o) :
  aJ X pins σ (upd H a o) { s with heap := h', toks := t' } := I.un (Un.laid k hp (I.hok.fresh hp)) (I.hok.laid k hp new)
theorem aJ.write {x e : Addr} {o : HO} {t' : Nat} (I : aJ X pins σ H s) (mu : DC (H x)) (he : e = x ∨ H e = some (.own x)) (k : ∀ b u, b ≠ e -> s.heap.get? b = some u -> h'.get? b = some u) (heo : ∃ u, h'.get? e = some u)
  (new : bz X.prog X.w (upd H x o) h' x o) : aJ X pins σ (upd H x o) { s with heap := h', toks := t' } := I.un (Un.write mu he k heo) (I.hok.write mu he k heo new)
theorem aJ.pins_of {pins' : Pn} (I : aJ X pins σ H s) (h : ∀ p ∈ pins', s.heap.get? p.1 = some p.2 /\ H p.1 = none /\ p.1 ≠ X.env.locals /\ p.1 ∉ X.fs /\ ∀ v, p.2.data ≠ .cell v) : aJ X pins' σ H s :=
 ⟨I.ok, I.os, I.bare, I.base, I.loc, I.cell, I.free, I.freeC, fun p hp => (List.mem_append.mp hp).elim (fun z => I.pin p (List.mem_append_left _ z)) (h p), I.hok, I.len⟩
theorem jB {N : List Str} (hN : N.Nodup) {i j : Nat} {x : Str} (a : N[i]? = some x) (b : N[j]? = some x) : i = j := by
 obtain ⟨h1, e1⟩ := List.getElem?_eq_some_iff.mp a
 obtain ⟨h2, e2⟩ := List.getElem?_eq_some_iff.mp b
 exact (List.getElem_inj hN).mp (e1.trans e2.symm)
theorem lA {M : Model} {A : Around} {E : Value -> Shared -> Prop} {i : Nat} {x : Str} {v : V} {u : Value} {Q : Unit -> Shared -> Prop} (I : aJ X pins σ H s) (hN : X.N.Nodup) (hi : X.N[i]? = some x) (hx : zE X.env.scope x) (r : bu v u)
  (h : ∀ s', aJ X pins (σ.set i (some v)) H s' -> (∃ a, Heap.SameBut a s.heap s'.heap /\ (a = X.env.locals ∨ X.env.cells.lookup x = some a)) -> Q () s') (hf : X.fn x = true ∨ X.env.scope.names.lookup x = some .local := by first | exact .inl rfl | exact .inr rfl | assumption) : wpAny M A (storeName X.env x u) Q E s := by
 obtain ⟨m, hn, hl⟩ := id I.loc
 have hcls : (X.env.scope.kind == .class || (X.env.scope.kind == .module && X.env.locals != X.env.globals)) = false := by rw [I.ok.kind]; rfl
 have hiσ : i < σ.length := by rw [I.len]; exact (List.getElem?_eq_some_iff.mp hi).1
 have cne := I.cne
 have tracked : ∀ {a : Addr} {h' : Heap}, (∃ o, s.heap.get? a = some o /\ H a = none) -> Heap.SameBut a s.heap h' -> iX X.prog X.w H h' := fun {a h'} ha hs b ob e => by
  obtain ⟨_, _, hfree⟩ := ha
  refine (I.hok b ob e).stay (fun c w' hc q => (hs.2 c ?_).trans q) (fun _ q => q) fun _ _ q => q
  rintro rfl
  rcases hc with rfl | hc
  ·rw [hfree] at e; cases e
  ·rw [hfree] at hc; cases hc
 rcases hx with hk | hk
 ·refine wpAny_storeName_local hk hn (fun h' hn' hs => ?_) hcls
  obtain ⟨oL, _, _, hoL, _⟩ := id hn
  refine h _ ⟨I.ok, I.os, I.bare, ⟨fun b o e n hb hx => ?_, fun b o e n hb hx => ?_, I.base.free, fun b o e hx => ?_, I.base.tups, I.base.frzs, I.base.tbls⟩, ⟨_, hn', fun j y v' e1 e2 e3 => ?_⟩, fun y c e => ?_, I.free, I.freeC, fun p hp => ?_, tracked ⟨oL, hoL, I.free⟩ hs, by simpa using I.len⟩ ⟨_, hs, .inl rfl⟩
  ·exact (hs.2 b (Nat.ne_of_lt (Nat.lt_of_lt_of_le (Heap.lt_size e) I.ok.above))).trans (I.base.keep b o e n hb hx)
  ·obtain ⟨sl, e1⟩ := I.base.slot b o e n hb hx
   exact ⟨sl, (hs.2 b (Nat.ne_of_lt (Nat.lt_of_lt_of_le (Heap.lt_size e) I.ok.above))).trans e1⟩
  ·obtain ⟨o', e1⟩ := I.base.there b o e hx
   exact ⟨o', (hs.2 b (Nat.ne_of_lt (Nat.lt_of_lt_of_le (Heap.lt_size e) I.ok.above))).trans e1⟩
  ·by_cases hj : j = i
   ·subst hj
    rw [hi] at e1; cases e1
    rw [List.getElem?_set_self hiσ] at e2
    cases e2
    exact ⟨u, r, .inl ⟨hk, by simp⟩⟩
   ·rw [List.getElem?_set_ne (Ne.symm hj)] at e2
    obtain ⟨u', r', q⟩ := hl j y v' e1 e2 e3
    refine ⟨u', r', ?_⟩
    rcases q with ⟨k, e⟩ | ⟨k, c, e, z⟩
    ·refine .inl ⟨k, ?_⟩
     have : y ≠ x := fun e => hj (jB hN e1 (e ▸ hi))
     simp [this, e]
    ·exact .inr ⟨k, c, e, z.sameBut hs (cne y c e)⟩
  ·obtain ⟨w', z⟩ := I.cell y c e
   exact ⟨w', z.sameBut hs (cne y c e)⟩
  ·obtain ⟨e, n, ne, nf, d⟩ := I.pin p hp
   exact ⟨(hs.2 p.1 ne).trans e, n, ne, nf, d⟩
 ·have hfn : X.fn x = true := by
   rcases hf with z | z
   ·exact z
   ·rw [z] at hk; cases hk
  obtain ⟨c, hc⟩ := I.ok.has x (.inl hk)
  obtain ⟨w', z⟩ := I.cell x c hc
  refine wpAny_storeName_cell I.ok.kind hk hc z (fun h' hc' hs => ?_)
  obtain ⟨oc, hoc, hocd⟩ := id z
  refine h { s with heap := h' } ⟨I.ok, I.os, I.bare, ⟨fun b o e n hb hx => ?_, fun b o e n hb hx => ?_, I.base.free, fun b o e hx => ?_, I.base.tups, I.base.frzs, I.base.tbls⟩, ⟨m, hn.sameBut hs (Ne.symm (cne x c hc)), fun j y v' e1 e2 e3 => ?_⟩, fun y c' e => ?_, I.free, I.freeC, fun p hp => ?_, tracked ⟨oc, hoc, I.freeC x c hc⟩ hs, by simpa using I.len⟩ ⟨c, hs, .inr hc⟩
  ·exact (hs.2 b (Nat.ne_of_lt (Nat.lt_of_lt_of_le (Heap.lt_size e) (I.ok.cab x c hfn hc)))).trans (I.base.keep b o e n hb hx)
  ·obtain ⟨sl, e1⟩ := I.base.slot b o e n hb hx
   exact ⟨sl, (hs.2 b (Nat.ne_of_lt (Nat.lt_of_lt_of_le (Heap.lt_size e) (I.ok.cab x c hfn hc)))).trans e1⟩
  ·obtain ⟨o', e1⟩ := I.base.there b o e hx
   exact ⟨o', (hs.2 b (Nat.ne_of_lt (Nat.lt_of_lt_of_le (Heap.lt_size e) (I.ok.cab x c hfn hc)))).trans e1⟩
  ·by_cases hj : j = i
   ·subst hj
    rw [hi] at e1; cases e1
    rw [List.getElem?_set_self hiσ] at e2
    cases e2
    exact ⟨u, r, .inr ⟨.inl hk, c, hc, hc'⟩⟩
   ·rw [List.getElem?_set_ne (Ne.symm hj)] at e2
    obtain ⟨u', r', q⟩ := hl j y v' e1 e2 e3
    refine ⟨u', r', ?_⟩
    rcases q with q | ⟨k, c', e, z'⟩
    ·exact .inl q
    ·refine .inr ⟨k, c', e, z'.sameBut hs ?_⟩
     rintro rfl
     exact hj (jB hN e1 (I.ok.inj _ _ _ e hc ▸ hi))
  ·by_cases hcc : c' = c
   ·subst hcc; exact ⟨_, hc'⟩
   ·obtain ⟨w2, z2⟩ := I.cell y c' e
    exact ⟨w2, z2.sameBut hs hcc⟩
  ·obtain ⟨e, n, ne, nf, d⟩ := I.pin p hp
   refine ⟨(hs.2 p.1 ?_).trans e, n, ne, nf, d⟩
   intro q
   rw [q, hoc] at e
   have q' : oc = p.2 := Option.some.inj e
   exact d w' (by rw [<- q']; exact hocd)
theorem io {M : Model} {A : Around} {E : Value -> Shared -> Prop} {i : Nat} {x : Str} {v : V} {u : Value} {Q : Unit -> Shared -> Prop} (I : aJ X pins σ H s) (hN : X.N.Nodup) (hi : X.N[i]? = some x) (hx : zE X.env.scope x) (r : bu v u)
  (h : ∀ s', aJ X pins (σ.set i (some v)) H s' -> Q () s') (hf : X.fn x = true ∨ X.env.scope.names.lookup x = some .local := by first | exact .inl rfl | exact .inr rfl | assumption) : wpAny M A (storeName X.env x u) Q E s :=
 lA I hN hi hx r (fun s' I' _ => h s' I') hf
end
noncomputable abbrev XK := Value -> Option Addr -> Hp -> Prop
noncomputable abbrev St := List (Option V)
noncomputable abbrev VK := V -> Hp -> Prop
noncomputable abbrev TE := St -> Hp -> VK -> Prop
noncomputable abbrev TT := St -> Hp -> (Bool -> Hp -> Prop) -> Prop
noncomputable abbrev TA := St -> Hp -> (List V -> Hp -> Prop) -> Prop
structure Ends where
 nx : St -> Hp -> Prop
 rt : VK
 bk : St -> Hp -> Prop := fun _ _ => False
 ct : St -> Hp -> Prop := fun _ _ => False
noncomputable abbrev TS := Ends -> St -> Hp -> Prop
noncomputable def EP (X : Cx) (pins : Pn) (σ : St) (Q : VK) (u : Value) (s' : Shared) : Prop := ∃ v H', aJ X pins σ H' s' /\ bu v u /\ Q v H'
noncomputable def TP (X : Cx) (pins : Pn) (σ : St) (Q : Bool -> Hp -> Prop) (b : Bool) (s' : Shared) : Prop := ∃ H', aJ X pins σ H' s' /\ Q b H'
noncomputable def AP (X : Cx) (pins : Pn) (σ : St) (Q : List V -> Hp -> Prop) (us : List Value) (s' : Shared) : Prop := ∃ vs H', aJ X pins σ H' s' /\ bd vs us /\ Q vs H'
noncomputable def SP (X : Cx) (pins : Pn) (D : Ends) (f : Flow) (s' : Shared) : Prop :=
 match f with
 | .next => ∃ σ' H', aJ X pins σ' H' s' /\ D.nx σ' H'
 | .brk => ∃ σ' H', aJ X pins σ' H' s' /\ D.bk σ' H'
 | .cont => ∃ σ' H', aJ X pins σ' H' s' /\ D.ct σ' H'
 | .ret u => ∃ v σ' H', aJ X pins σ' H' s' /\ bu v u /\ D.rt v H'
noncomputable def PE (X : Cx) (e : Expr) (t : TE) : Prop :=
 ∀ (pins : Pn) (s : Shared) (σ : St) (H : Hp) (Q : VK), aJ X pins σ H s -> t σ H Q -> wpAny (model X.prog X.w) X.A (eval e X.env) (EP X pins σ Q) X.xe s
noncomputable def PT (X : Cx) (e : Expr) (t : TT) : Prop :=
 ∀ (pins : Pn) (s : Shared) (σ : St) (H : Hp) (Q : Bool -> Hp -> Prop), aJ X pins σ H s -> t σ H Q -> wpAny (model X.prog X.w) X.A (isTrue e X.env (eval e X.env)) (TP X pins σ Q) X.xe s
noncomputable def PW (X : Cx) (e : Expr) (t : TT) : Prop :=
 ∀ (whole : Sem Value) (pins : Pn) (s : Shared) (σ : St) (H : Hp) (Q : Bool -> Hp -> Prop), aJ X pins σ H s -> t σ H Q -> wpAny (model X.prog X.w) X.A (isTrue e X.env whole) (TP X pins σ Q) X.xe s
theorem PW.pt {X : Cx} {e : Expr} {t : TT} (h : PW X e t) : PT X e t := h _
noncomputable def PA (X : Cx) (es : List Expr) (t : TA) : Prop :=
 ∀ (pos : Pos) (pins : Pn) (s : Shared) (σ : St) (H : Hp) (Q : List V -> Hp -> Prop), aJ X pins σ H s -> t σ H Q -> wpAny (model X.prog X.w) X.A (spliced (backTo pos (starEach es X.env))) (AP X pins σ Q) X.xe s
noncomputable def PS (X : Cx) (st : Stmt) (t : TS) : Prop :=
 ∀ (pins : Pn) (s : Shared) (σ : St) (H : Hp) (D : Ends), aJ X pins σ H s -> t D σ H -> wpAny (model X.prog X.w) X.A (exec st X.env) (SP X pins D) X.xe s
noncomputable def nA (X : Cx) (st : List Stmt) (t : TS) : Prop :=
 ∀ (pins : Pn) (s : Shared) (σ : St) (H : Hp) (D : Ends), aJ X pins σ H s -> t D σ H -> wpAny (model X.prog X.w) X.A (execs st X.env) (SP X pins D) X.xe s
theorem bQ {α : Type} {t : Sem α} {Q Q' : α -> Shared -> Prop} {M : Model} {A : Around} {E : Value -> Shared -> Prop} {s : Shared} (h : wpAny M A t Q E s) (hQ : ∀ a s, Q a s -> Q' a s) : wpAny M A t Q' E s := wpAny_mono h hQ fun _ _ x => x
end L2
namespace L2
open PySem PySem.Spec PyProof.Rows
section
variable {X : Cx}
noncomputable def qd (i : Nat) : TE := fun σ H Q => ∃ v, σ[i]? = some (some v) /\ Q v H
noncomputable def tC (v : V) : TE := fun _ H Q => Q v H
variable {x : Str}
theorem Ay {i : Nat} {pos : Pos} (hN : X.N[i]? = some x) (hv : Bo X.env.scope x) (hd : (x == ("__debug__" : Str)) = false := by decide) (hcd : (x == ("__classdict__" : Str)) = false := by decide) : PE X (.Name x pos) (qd i) := by
 intro pins s σ H Q I h
 obtain ⟨v, e, h⟩ := h
 obtain ⟨m, hn, hl⟩ := I.loc
 obtain ⟨u, r, l⟩ := hl i x v hN e hv
 have fin : EP X pins σ Q u s := ⟨v, H, I, r, h⟩
 rcases l with ⟨hk, hm⟩ | ⟨hk, c, hc, hcell⟩
 ·exact wpAny_Name (wpAny_loadName_local I.ok.kind hk hn hm fin) hd
 ·rcases hk with hk | hk
  ·exact wpAny_Name (wpAny_loadName_cell I.ok.kind hk hc hcell fin) hd
  ·exact wpAny_Name (wpAny_loadName_free I.ok.kind hk hc hcell fin hcd) hd
theorem au {i j pos} : PE X (.Constant (.int i) j pos) (tC (.int i)) := fun _ _ _ H _ I h => wpAny_Constant_int ⟨.int i, H, I.tok _, ⟨_, rfl⟩, h⟩
theorem bc {b j pos} : PE X (.Constant (.bool b) j pos) (tC (.bl b)) := fun _ _ _ H _ I h => Constant_bool ⟨.bl b, H, I, rfl, h⟩
theorem aN {j pos} : PE X (.Constant .none j pos) (tC .non) := fun _ _ _ H _ I h => Constant_none ⟨.non, H, I, rfl, h⟩
theorem aa {x j pos} : PE X (.Constant (.str x) j pos) (tC (.str x)) := fun _ _ _ H _ I h => Calls.Constant_str ⟨.str x, H, I.tok _, ⟨_, rfl⟩, h⟩
noncomputable def Gl (X : Cx) (x : Str) : Prop := X.env.kindOf x = some .globalImplicit
variable {u : Value}
theorem hZ {E : Value -> Shared -> Prop} {pins : Pn} {s : Shared} {σ : St} {H : Hp} {pos : Pos} {Q : Value -> Shared -> Prop} (I : aJ X pins σ H s) (hg : Gl X x) (hm : X.mg x = some u) (h : Q u s)
  (hd : (x == ("__debug__" : Str)) = false := by decide) : wpAny (model X.prog X.w) X.A (eval (.Name x pos) X.env) Q E s :=
 Calls.Name_function_global I.ok.kind hg (Calls.loadGlobal_global (by rw [I.ok.glob]; exact I.mod.glob.keeps I.bk) hm h) hd
theorem iO {E : Value -> Shared -> Prop} {pins : Pn} {s : Shared} {σ : St} {H : Hp} {pos : Pos} {Q : Value -> Shared -> Prop} (I : aJ X pins σ H s) (hg : Gl X x) (hm : X.mg x = none) (hv : bootBuiltins x = some u) (h : Q u s)
  (hn : x ≠ "__name__" := by decide) (hd : (x == ("__debug__" : Str)) = false := by decide) : wpAny (model X.prog X.w) X.A (eval (.Name x pos) X.env) Q E s := by
 obtain ⟨mb, h1, h2⟩ := I.mod.blt
 exact Calls.Name_function_global I.ok.kind hg (Calls.loadGlobal_builtin (by rw [I.ok.glob]; exact I.mod.glob.keeps I.bk) hm (by rw [I.ok.blt]; exact h1.keeps I.bk) ((h2 x hn).trans hv) h) hd
theorem aY {v : V} {pos : Pos} (hg : Gl X x) (hm : X.mg x = some u) (r : bu v u) (hd : (x == ("__debug__" : Str)) = false := by decide) : PE X (.Name x pos) (tC v) :=
 fun _ _ _ H _ I h => hZ I hg hm ⟨v, H, I, r, h⟩ hd
theorem rP {v : V} {pos : Pos} (hg : Gl X x) (hm : X.mg x = none) (hv : bootBuiltins x = some u) (r : bu v u) (hn : x ≠ "__name__" := by decide) (hd : (x == ("__debug__" : Str)) = false := by decide) : PE X (.Name x pos) (tC v) :=
 fun _ _ _ H _ I h => iO I hg hm hv ⟨v, H, I, r, h⟩ hn hd
variable {a b : Expr} {ta tb : TE} {pos : Pos}
noncomputable def tB (t : TE) : TT := fun σ H Q => t σ H fun x H1 => ∃ c, x = .bl c /\ Q c H1
theorem aI {e : Expr} {t : TE} (h : PE X e t) (he : ∀ whole, isTrue e X.env whole = (do let v <- whole; standAt e.pos; holding [v] (truthy v)) := by intro _; rfl) : PT X e (tB t) := by
 intro pins s σ H Q I hw
 refine isTrue_plain (bQ (h pins s σ H _ I hw) fun v s1 ⟨x, H1, I1, r1, q1⟩ => ?_) (he _)
 obtain ⟨d, rfl, q⟩ := q1
 cases r1
 exact wpAny_truthy_bool ⟨H1, I1, q⟩
variable {tA tB' : TT} {rest : List Expr}
noncomputable def Al (t u : TT) : TT := fun σ H Q => t σ H fun c H1 => if c = true then u σ H1 Q else Q false H1
noncomputable def EC (t u : TT) : TT := fun σ H Q => t σ H fun c H1 => if c = true then Q true H1 else u σ H1 Q
noncomputable def zZ (t : TT) : TT := fun σ H Q => t σ H fun c H1 => Q (!c) H1
theorem ce (ha : PT X a tA) : PW X (.BoolOp .And [a] pos) tA := by
 intro wh pins s σ H Q I h
 refine isTrue_and (bQ (ha pins s σ H Q I h) fun c s1 e => ?_)
 cases c with
 | true => exact isTrue_and_nil e
 | false => exact e
theorem bh (ha : PT X a tA) : PW X (.BoolOp .Or [a] pos) tA := by
 intro wh pins s σ H Q I h
 refine isTrue_or (bQ (ha pins s σ H Q I h) fun c s1 e => ?_)
 cases c with
 | false => exact isTrue_or_nil e
 | true => exact e
theorem cV (ha : PT X a tA) (hb : PW X (.BoolOp .And (b :: rest) pos) tB') : PW X (.BoolOp .And (a :: b :: rest) pos) (Al tA tB') := by
 intro wh pins s σ H Q I h
 refine isTrue_and (bQ (ha pins s σ H _ I h) fun c s1 ⟨H1, I1, q1⟩ => ?_)
 cases c with
 | true => exact hb wh pins s1 σ H1 Q I1 q1
 | false => exact ⟨H1, I1, q1⟩
theorem bf (ha : PT X a tA) (hb : PW X (.BoolOp .Or (b :: rest) pos) tB') : PW X (.BoolOp .Or (a :: b :: rest) pos) (EC tA tB') := by
 intro wh pins s σ H Q I h
 refine isTrue_or (bQ (ha pins s σ H _ I h) fun c s1 ⟨H1, I1, q1⟩ => ?_)
 cases c with
 | true => exact ⟨H1, I1, q1⟩
 | false => exact hb wh pins s1 σ H1 Q I1 q1
theorem aC (ha : PT X a tA) : PT X (.UnaryOp .Not a pos) (zZ tA) := by
 intro pins s σ H Q I h
 exact isTrue_not (ha pins s σ H (fun c H1 => Q (!c) H1) I h)
noncomputable def yc (ta tb : TE) : TE := fun σ H Q => ta σ H fun x H1 => ∃ c, x = .bl c /\ if c = true then tb σ H1 Q else Q (.bl false) H1
noncomputable def Ce (ta tb : TE) : TE := fun σ H Q => ta σ H fun x H1 => ∃ c, x = .bl c /\ if c = true then Q (.bl true) H1 else tb σ H1 Q
noncomputable def yj (ta : TE) : TE := fun σ H Q => ta σ H fun x H1 => ∃ c, x = .bl c /\ Q (.bl (!c)) H1
theorem bq {op} {t : TE} (h : PE X a t) : PE X (.BoolOp op [a] pos) t := fun pins s σ H Q I hw => BoolOp_one (h pins s σ H Q I hw)
theorem bv (ha : PE X a ta) (hb : PE X (.BoolOp .And (b :: rest) pos) tb) : PE X (.BoolOp .And (a :: b :: rest) pos) (yc ta tb) := by
 intro pins s σ H Q I h
 refine BoolOp_and (bQ (ha pins s σ H _ I h) fun v s1 ⟨x, H1, I1, r1, q1⟩ => ?_)
 obtain ⟨c, rfl, q1⟩ := q1
 cases r1
 refine wpAny_truthy_bool ?_
 cases c with
 | true => exact hb pins s1 σ H1 Q I1 q1
 | false => exact ⟨.bl false, H1, I1, rfl, q1⟩
theorem jX (ha : PE X a ta) (hb : PE X (.BoolOp .Or (b :: rest) pos) tb) : PE X (.BoolOp .Or (a :: b :: rest) pos) (Ce ta tb) := by
 intro pins s σ H Q I h
 refine BoolOp_or (bQ (ha pins s σ H _ I h) fun v s1 ⟨x, H1, I1, r1, q1⟩ => ?_)
 obtain ⟨c, rfl, q1⟩ := q1
 cases r1
 refine wpAny_truthy_bool ?_
 cases c with
 | false => exact hb pins s1 σ H1 Q I1 q1
 | true => exact ⟨.bl true, H1, I1, rfl, q1⟩
theorem qk (ha : PE X a ta) : PE X (.UnaryOp .Not a pos) (yj ta) := by
 intro pins s σ H Q I h
 refine UnaryOp_ (bQ (ha pins s σ H _ I h) fun v s1 ⟨x, H1, I1, r1, q1⟩ => ?_)
 obtain ⟨c, rfl, q1⟩ := q1
 cases r1
 exact not_of (wpAny_truthy_bool ⟨.bl (!c), H1, I1, rfl, q1⟩)
noncomputable def tIf (t : TT) (ta tb : TE) : TE := fun σ H Q => t σ H fun c H1 => if c = true then ta σ H1 Q else tb σ H1 Q
theorem jQ {c : Expr} (hc : PT X c tA) (ha : PE X a ta) (hb : PE X b tb) : PE X (.IfExp c a b pos) (tIf tA ta tb) := by
 intro pins s σ H Q I h
 refine wpAny_IfExp (bQ (hc pins s σ H _ I h) fun d s1 ⟨H1, I1, q1⟩ => ?_)
 cases d with
 | true => exact ha pins s1 σ H1 Q I1 q1
 | false => exact hb pins s1 σ H1 Q I1 q1
end
end L2
namespace L2
open PySem PySem.Spec PyProof.Rows
noncomputable def cg (K : Fg) (H : Hp) (a : Addr) (xs : List V) : Prop :=
 Rd H a (.lst xs) ∨
  ∃ (o : Obj) (its : Array Value) (n : Nat), K.lookup a = some o /\ o.cls = .type "list" /\ o.dict = none /\ o.data = .seq its n /\ its.size <= sizeLine /\ bd xs its.toList
noncomputable def ci (K : Fg) (H : Hp) (a : Addr) (xs : List V) : Prop :=
 Rd H a (.tup xs) ∨
  ∃ (o : Obj) (its : Array Value) (n : Nat), K.lookup a = some o /\ o.cls = .type "tuple" /\ o.data = .seq its n /\ its.size <= sizeLine /\ bd xs its.toList
noncomputable def DO : Value -> Option V
 | .none => some .non
 | .bool b => some (.bl b)
 | .int i _ => some (.int i)
 | .str x _ => some (.str x)
 | .bytes b _ => some (.byt b)
 | .float b _ => some (.flt b)
 | .ref a => some (.ref a)
 | .type n => some (.ty n)
 | _ => none
variable {u : Value}
theorem bu.abs {x : V} (r : bu x u) : DO u = some x := by
 cases x with
 | non => cases r; rfl
 | bl _ => cases r; rfl
 | int _ => obtain ⟨t, rfl⟩ := r; rfl
 | str _ => obtain ⟨t, rfl⟩ := r; rfl
 | byt _ => obtain ⟨t, rfl⟩ := r; rfl
 | flt _ => obtain ⟨t, rfl⟩ := r; rfl
 | ref _ => cases r; rfl
 | ty _ => cases r; rfl
theorem bu.inj {x y : V} (r : bu x u) (q : bu y u) : x = y := Option.some.inj (r.abs.symm.trans q.abs)
theorem bd.inj : ∀ {xs ys : List V} {us : List Value}, bd xs us -> bd ys us -> xs = ys
 | _, _, _, .nil, .nil => rfl
 | _, _, _, .cons r t, .cons r' t' => by rw [r.inj r', bd.inj t t']
section
variable {X : Cx} {pins : Pn} {σ : St} {H : Hp} {s : Shared} {a : Addr} {xs ys : List V}
theorem cg.of {K : Fg} (h : H a = some (.lst xs)) : cg K H a xs := .inl (.inl h)
theorem ci.of {K : Fg} (h : H a = some (.tup xs)) : ci K H a xs := .inl (.inl h)
theorem aJ.list (I : aJ X pins σ H s) (h : cg X.K H a xs) : ∃ its : List Value, bd xs its /\ PlainL s.heap a its.toArray /\ xs.length <= sizeLine := by
 rcases h with h | ⟨o, its, n, hk, hc, hd, hs, hz, r⟩
 ·obtain ⟨z, its, n, r, e⟩ := h.ok I.hok
  exact ⟨its, r, ⟨_, n, e, rfl, rfl, rfl⟩, z⟩
 ·refine ⟨its.toList, r, ⟨o, n, I.kIn a o hk, hc, hd, by simpa using hs⟩, ?_⟩
  have e := r.length
  simp only [Array.length_toList] at e
  omega
theorem aJ.tuple (I : aJ X pins σ H s) (h : ci X.K H a xs) : ∃ its : List Value, bd xs its /\ IsTup s.heap a its.toArray /\ xs.length <= sizeLine := by
 rcases h with h | ⟨o, its, n, hk, hc, hs, hz, r⟩
 ·obtain ⟨z, its, r, p⟩ := h.ok I.hok
  exact ⟨its, r, p, z⟩
 ·refine ⟨its.toList, r, ⟨o, I.kIn a o hk, hc, n, by simpa using hs⟩, ?_⟩
  have e := r.length
  simp only [Array.length_toList] at e
  omega
theorem aJ.list_inj (I : aJ X pins σ H s) (h : cg X.K H a xs) (h' : cg X.K H a ys) : xs = ys := by
 obtain ⟨its, r, ⟨o, n, e, _, _, d⟩, _⟩ := I.list h
 obtain ⟨its', r', ⟨o', n', e', _, _, d'⟩, _⟩ := I.list h'
 rw [e] at e'; cases e'
 rw [d] at d'
 injection d' with d1 _
 have : its = its' := by simpa using congrArg Array.toList d1
 subst this
 exact r.inj r'
theorem aJ.tuple_inj (I : aJ X pins σ H s) (h : ci X.K H a xs) (h' : ci X.K H a ys) : xs = ys := by
 obtain ⟨its, r, ⟨o, e, _, n, d⟩, _⟩ := I.tuple h
 obtain ⟨its', r', ⟨o', e', _, n', d'⟩, _⟩ := I.tuple h'
 rw [e] at e'; cases e'
 rw [d] at d'
 injection d' with d1 _
 have : its = its' := by simpa using congrArg Array.toList d1
 subst this
 exact r.inj r'
end
noncomputable abbrev Cx.wish (X : Cx) (E : Value -> Shared -> Prop) : Cx := { X with xe := E }
noncomputable abbrev Cx.nox (X : Cx) : Cx := X.wish fun _ _ => False
variable {X : Cx}
theorem Cx.Ok.wish (ok : X.Ok) (E : Value -> Shared -> Prop) : (X.wish E).Ok :=
 ⟨ok.mod, ok.kind, ok.glob, ok.blt, ok.above, ok.inj, ok.has, ok.cab, ok.hd, ok.frames, ok.stk, ok.exf, ok.bs, ok.bsz, ok.noex, ok.exfs, ok.funs, ok.frf⟩
theorem Cx.Ok.unwish {E : Value -> Shared -> Prop} (ok : (X.wish E).Ok) : X.Ok :=
 ⟨ok.mod, ok.kind, ok.glob, ok.blt, ok.above, ok.inj, ok.has, ok.cab, ok.hd, ok.frames, ok.stk, ok.exf, ok.bs, ok.bsz, ok.noex, ok.exfs, ok.funs, ok.frf⟩
section
variable {X : Cx} {pins : Pn} {σ : St} {H : Hp} {s : Shared} {E : Value -> Shared -> Prop}
theorem aJ.wish (I : aJ X pins σ H s) (E : Value -> Shared -> Prop) : aJ (X.wish E) pins σ H s := ⟨I.ok.wish E, I.os, I.bare, I.base, I.loc, I.cell, I.free, I.freeC, I.pin, I.hok, I.len⟩
theorem aJ.unwish (I : aJ (X.wish E) pins σ H s) : aJ X pins σ H s := ⟨I.ok.unwish, I.os, I.bare, I.base, I.loc, I.cell, I.free, I.freeC, I.pin, I.hok, I.len⟩
theorem SP.unwish {D : Ends} {f : Flow} {s' : Shared} (h : SP (X.wish E) pins D f s') : SP X pins D f s' := by
 cases f with
 | next => obtain ⟨σ', H', I, q⟩ := h; exact ⟨σ', H', I.unwish, q⟩
 | brk => obtain ⟨σ', H', I, q⟩ := h; exact ⟨σ', H', I.unwish, q⟩
 | cont => obtain ⟨σ', H', I, q⟩ := h; exact ⟨σ', H', I.unwish, q⟩
 | ret u => obtain ⟨v, σ', H', I, r, q⟩ := h; exact ⟨v, σ', H', I.unwish, r, q⟩
theorem nA.nox {st : List Stmt} {t : TS} (h : nA X.nox st t) : nA X st t := fun pins s σ H D I hw =>
 wpAny_mono (h pins s σ H D (I.wish _) hw) (fun _ _ q => q.unwish) fun _ _ z => False.elim z
end
section
variable {X : Cx} {st : Stmt} {rest : List Stmt} {t u : TS} {e : Expr} {te : TE} {pos : Pos}
noncomputable def tNext : TS := fun D σ H => D.nx σ H
noncomputable def wC (t u : TS) : TS := fun D σ H => t { D with nx := u D } σ H
theorem ar : nA X [] tNext := fun _ _ σ H _ I h => wpAny_execs_nil ⟨σ, H, I, h⟩
theorem aV (h1 : PS X st t) (h2 : nA X rest u) : nA X (st :: rest) (wC t u) := by
 intro pins s σ H D I h
 refine wpAny_execs_cons (bQ (h1 pins s σ H { D with nx := u D } I h) fun f s1 q => ?_)
 cases f with
 | next =>
  obtain ⟨σ', H', I', q⟩ := q
  exact h2 pins s1 σ' H' D I' q
 | ret v => exact q
 | brk => exact q
 | cont => exact q
theorem aZ (h1 : PS X st t) : nA X [st] t := by
 intro pins s σ H D I h
 refine wpAny_execs_cons (bQ (h1 pins s σ H D I h) fun f s1 q => ?_)
 cases f with
 | next => exact wpAny_execs_nil q
 | ret v => exact q
 | brk => exact q
 | cont => exact q
theorem aJ.quiet {pins : Pn} {σ : St} {H : Hp} {s : Shared} (I : aJ X pins σ H s) : interactive X.env = false := by simp [interactive, I.ok.kind]
noncomputable def uF (te : TE) : TS := fun D σ H => te σ H fun _ H1 => D.nx σ H1
theorem jw (he : PE X e te) (hs : swapsWith e none pos.line X.env = pure false := by rfl) : PS X (.Expr e pos) (uF te) := by
 intro pins s σ H D I h
 exact wpAny_Expr_any (bQ (he pins s σ H _ I h) fun v s1 ⟨x, H1, I1, r1, q1⟩ => ⟨σ, H1, I1, q1⟩) I.quiet hs
noncomputable def Ac (te : TE) : TS := fun D σ H => te σ H D.rt
theorem aj (he : PE X e te) : PS X (.Return (some e) pos) (Ac te) := by
 intro pins s σ H D I h
 exact wpAny_Return_some (bQ (he pins s σ H _ I h) fun v s1 ⟨x, H1, I1, r1, q1⟩ => ⟨x, σ, H1, I1, r1, q1⟩)
noncomputable def zj (c : TT) (t u : TS) : TS := fun D σ H => c σ H fun b H1 => if b = true then t D σ H1 else u D σ H1
theorem aG {c : Expr} {a b : List Stmt} {tc : TT} (hc : PT X c tc) (ha : nA X a t) (hb : nA X b u) : PS X (.If c a b pos) (zj tc t u) := by
 intro pins s σ H D I h
 refine wpAny_If (bQ (hc pins s σ H _ I h) fun d s1 ⟨H1, I1, q1⟩ => ?_)
 cases d with
 | true => exact ha pins s1 σ H1 D I1 q1
 | false => exact hb pins s1 σ H1 D I1 q1
end
noncomputable abbrev TG := V -> St -> Hp -> (St -> Hp -> Prop) -> Prop
noncomputable abbrev TGs := List V -> St -> Hp -> (St -> Hp -> Prop) -> Prop
noncomputable def PG (X : Cx) (target : Expr) (t : TG) : Prop :=
 ∀ (pins : Pn) (s : Shared) (σ : St) (H : Hp) (v : V) (u : Value) (Q : St -> Hp -> Prop), aJ X pins σ H s -> bu v u -> t v σ H Q ->
  wpAny (model X.prog X.w) X.A (assign target X.env u) (fun _ s' => ∃ σ' H', aJ X pins σ' H' s' /\ Q σ' H') X.xe s
noncomputable def Dq (X : Cx) (ts : List Expr) (t : TGs) : Prop :=
 ∀ (pins : Pn) (s : Shared) (σ : St) (H : Hp) (vs : List V) (us : List Value) (Q : St -> Hp -> Prop), aJ X pins σ H s -> bd vs us -> t vs σ H Q ->
  wpAny (model X.prog X.w) X.A (assignInOrder ((assignEach ts X.env).map (·.2)) us) (fun _ s' => ∃ σ' H', aJ X pins σ' H' s' /\ Q σ' H') X.xe s
noncomputable abbrev TSet := V -> V -> V -> Hp -> (Hp -> Prop) -> Prop
noncomputable def Ca (X : Cx) (t : TSet) : Prop :=
 ∀ (pins : Pn) (s : Shared) (σ : St) (H : Hp) (o i v : V) (ov iv u : Value) (Q : Hp -> Prop), aJ X pins σ H s -> bu o ov -> bu i iv -> bu v u -> t o i v H Q ->
  wpAny (model X.prog X.w) X.A (setItem ov iv u) (fun _ s' => ∃ H', aJ X pins σ H' s' /\ Q H') X.xe s
section
variable {X : Cx} {pos : Pos}
noncomputable def cG (i : Nat) : TG := fun v σ H Q => Q (σ.set i (some v)) H
variable {i : Nat} {x : Str}
theorem br (hN : X.N.Nodup) (hi : X.N[i]? = some x) (hx : zE X.env.scope x) (hf : X.fn x = true ∨ X.env.scope.names.lookup x = some .local := by first | exact .inl rfl | exact .inr rfl | assumption) : PG X (.Name x pos) (cG i) := by
 intro pins s σ H v u Q I r h
 exact wpAny_assign_Name (io I hN hi hx r (fun s' I' => ⟨_, H, I', h⟩) hf)
noncomputable def gNil : TGs := fun vs σ H Q => vs = [] /\ Q σ H
noncomputable def lG (t : TG) (u : TGs) : TGs := fun vs σ H Q => ∃ v r, vs = v :: r /\ t v σ H fun σ' H' => u r σ' H' Q
theorem nv : Dq X [] gNil := by
 intro pins s σ H vs us Q I r h
 obtain ⟨e, h⟩ := h
 subst e
 cases r
 exact assignInOrder_nil ⟨σ, H, I, h⟩
variable {e : Expr}
theorem bX {es : List Expr} {t : TG} {u : TGs} (h1 : PG X e t) (h2 : Dq X es u)
  (hs : (assignEach (e :: es) X.env).map (·.2) = assign e X.env :: (assignEach es X.env).map (·.2) := by rfl) : Dq X (e :: es) (lG t u) := by
 intro pins s σ H vs us Q I r h
 obtain ⟨v, vr, e1, h⟩ := h
 subst e1
 cases r with
 | cons r rr =>
  rw [hs]
  refine assignInOrder_cons (bQ (h1 pins s σ H _ _ _ I r h) fun _ s1 ⟨σ1, H1, I1, q1⟩ => ?_)
  exact h2 pins s1 σ1 H1 _ _ Q I1 rr q1
noncomputable def wJ (K : Fg) (n : Nat) (t : TGs) : TG := fun v σ H Q => ∃ a xs, v = .ref a /\ ci K H a xs /\ xs.length = n /\ t xs σ H Q
theorem qg {es : List Expr} {k : Nat} {t : TGs} {n : Nat} (hc : X.calm = true) (h : Dq X es t)
  (hn : (assignEach es X.env).length = n := by rfl) (hst : (assignEach es X.env).findIdx? (·.1) = none := by rfl) : PG X (.Tuple es k pos) (wJ X.K n t) := by
 intro pins s σ H v u Q I r hw
 obtain ⟨a, xs, e1, hq, hl, hw⟩ := hw
 subst e1
 cases r
 obtain ⟨its, rv, ht, hz⟩ := I.tuple hq
 refine assign_Tuple_tuple (I.ok.hd hc) ht (by simp [hn, <- hl, rv.length]) hst fun h' hx => ?_
 have I1 : aJ X pins σ H { s with heap := h' } := I.kept (t' := s.toks) fun b o e => hx b o (Nat.ne_of_lt (Heap.lt_size e)) e
 exact h pins _ σ H xs _ Q I1 (by simpa using rv) hw
noncomputable def CQ (to ti : TE) (t : TSet) : TG := fun v σ H Q => to σ H fun o H1 => ti σ H1 fun i H2 => t o i v H2 fun H3 => Q σ H3
theorem zc {o i : Expr} {to ti : TE} {t : TSet} (ho : PE X o to) (hi : PE X i ti) (hs : Ca X t)
  (ha : ∀ v, assign (.Subscript o i pos) X.env v = (do
   let ov <- holding [v] (eval o X.env)
   let iv <- holding [v, ov] (eval i X.env)
   standAt pos
   holding [v, ov, iv] (setItem ov iv v)
   release [v, ov, iv] []) := by intro _; rfl) : PG X (.Subscript o i pos) (CQ to ti t) := by
 intro pins s σ H v u Q I r h
 rw [ha]
 refine wpAny_bind (wpAny_holding (bQ (ho pins s σ H _ I h) fun ov s1 ⟨x, H1, I1, r1, q1⟩ => ?_))
 refine wpAny_bind (wpAny_holding (bQ (hi pins s1 σ H1 _ I1 q1) fun iv s2 ⟨y, H2, I2, r2, q2⟩ => ?_))
 refine wpAny_bind (wpAny_standAt (wpAny_bind (wpAny_holding (bQ (hs pins s2 σ H2 x y v ov iv u _ I2 r1 r2 r q2) fun _ s3 ⟨H3, I3, q3⟩ => ?_))))
 exact wpAny_release ⟨σ, H3, I3, q3⟩
noncomputable def pJ (te : TE) (g : TG) : TS := fun D σ H => te σ H fun x H1 => g x σ H1 D.nx
theorem uC {tg : Expr} {te : TE} {g : TG} (he : PE X e te) (hg : PG X tg g) (hs : swapsWithSole [tg] e pos.line X.env = pure false := by rfl) (hw : swappedStores [tg] e X.env = pure none := by rfl)
  (h1 : (assignEach [tg] X.env).map (·.2) = [assign tg X.env] := by rfl) : PS X (.Assign [tg] e pos) (pJ te g) := by
 intro pins s σ H D I h
 refine wpAny_Assign_stores (bQ (he pins s σ H _ I h) fun v s1 ⟨x, H1, I1, r1, q1⟩ => ?_) hs hw
 rw [h1]
 exact bQ (hg pins s1 σ H1 x v _ I1 r1 q1) fun _ s2 q => q
theorem az {te : TE} {pos' : Pos} (hN : X.N.Nodup) (hi : X.N[i]? = some x) (hx : zE X.env.scope x) (he : PE X e te) (hs : swapsWith e (some (.Name x pos')) pos.line X.env = pure false := by rfl) (hf : X.fn x = true ∨ X.env.scope.names.lookup x = some .local := by first | exact .inl rfl | exact .inr rfl | assumption) :
  PS X (.Assign [.Name x pos'] e pos) (pJ te (cG i)) := by
 intro pins s σ H D I h
 refine wpAny_Assign_Name (bQ (he pins s σ H _ I h) fun v s1 ⟨y, H1, I1, r1, q1⟩ => ?_) hs
 exact io I1 hN hi hx r1 (fun s2 I2 => ⟨_, H1, I2, q1⟩) hf
noncomputable def AQ (i j : Nat) (ta : TA) : TS := fun D σ H => ta σ H fun vs H1 => ∃ v w, vs = [v, w] /\ D.nx ((σ.set i (some v)).set j (some w)) H1
theorem yx {j : Nat} {y : Str} {a b : Expr} {ta : TA} {px py pt : Pos} {kt k2 pt2} (hc : X.calm = true) (hN : X.N.Nodup) (hi : X.N[i]? = some x) (hj : X.N[j]? = some y) (hij : i ≠ j)
  (hx : X.env.scope.names.lookup x = some .local) (hy : X.env.scope.names.lookup y = some .local) (ha : PA X [a, b] ta)
  (hw : swappedStores [.Tuple [.Name x px, .Name y py] kt pt] (.Tuple [a, b] k2 pt2) X.env = pure (some [x, y]))
  (hs : swapsWithSole [.Tuple [.Name x px, .Name y py] kt pt] (.Tuple [a, b] k2 pt2) pos.line X.env = pure false := by rfl) :
  PS X (.Assign [.Tuple [.Name x px, .Name y py] kt pt] (.Tuple [a, b] k2 pt2) pos) (AQ i j ta) := by
 intro pins s σ H D I h
 rw [exec_Assign_arm]
 refine wpAny_bind (wpAny_standAt ?_)
 rw [hs]
 refine wpAny_bind (wpAny_pure ?_)
 rw [if_neg (by decide)]
 refine wpAny_bind (Tuple_ (bQ (ha _ pins s σ H _ I h) fun us s1 ⟨vs, H1, I1, r1, q1⟩ => ?_))
 obtain ⟨v, w, e1, q1⟩ := q1
 subst e1
 obtain ⟨u1, u2, rfl, rv, rw'⟩ : ∃ u1 u2, us = [u1, u2] /\ bu v u1 /\ bu w u2 := by
  cases r1 with
  | cons p q =>
   cases q with
   | cons p' q' =>
    cases q'
    exact ⟨_, _, rfl, p, p'⟩
 refine wpAny_newObj_type ?_ (by show 2 <= sizeLine; decide)
 have I2 : aJ X pins σ H1 { s1 with heap := s1.heap.push { cls := .type "tuple", data := .seq [u1, u2].toArray } } := I1.kept (t' := s1.toks) fun b o e => Heap.get?_push_of_some _ e
 rw [hw]
 refine wpAny_bind (wpAny_pure ?_)
 show wpAny (model X.prog X.w) X.A (do rule "assign.swapped-stores"; let items <- unpackItems (.ref s1.heap.objs.size) 2 none; assignInOrder [fun v => bindName X.env y v, fun v => bindName X.env x v] items.reverse; pure Flow.next) _ _ _
 refine wpAny_bind (wpAny_rule (wpAny_bind (unpackItems_tuple (items := #[u1, u2]) (I.ok.hd hc) (IsTup.new s1.heap _) fun h' hx' => ?_)))
 have I3 := I2.kept (h' := h') (t' := s1.toks) fun b o e => hx' b o (Nat.ne_of_lt (Heap.lt_size e)) e
 show wpAny _ _ (assignInOrder [fun v => bindName X.env y v, fun v => bindName X.env x v] [u2, u1] >>= fun _ => pure Flow.next) _ _ _
 refine wpAny_bind (assignInOrder_cons (wpAny_bindName (io I3 hN hj (.inl hy) rw' (fun s2 I4 => ?_) (.inr hy))))
 refine assignInOrder_cons (wpAny_bindName (io I4 hN hi (.inl hx) rv (fun s3 I5 => assignInOrder_nil (wpAny_pure ?_)) (.inr hx)))
 rw [List.set_comm _ _ (Ne.symm hij)] at I5
 exact ⟨_, H1, I5, q1⟩
end
section
variable {X : Cx} {pos : Pos}
noncomputable def qB (c : TT) (tb : TS) : TS := fun D σ H => ∃ W : Nat -> St -> Hp -> Prop, (∃ m, W m σ H) /\ ∀ m σ H, W m σ H ->
 c σ H fun b H1 => if b = true then ∃ N : St -> Hp -> Prop, (∀ σ' H', N σ' H' -> ∃ m', m' < m /\ W m' σ' H') /\ tb { D with nx := N, ct := N, bk := D.nx } σ H1 else D.nx σ H1
theorem oJ {c : Expr} {body : List Stmt} {tc : TT} {tb : TS} (hp : PassesOwn (model X.prog X.w) X.A X.env X.xe) (hc : PT X c tc) (hb : nA X body tb) : PS X (.While c body [] pos) (qB tc tb) := by
 intro pins s σ H D I h
 obtain ⟨W, ⟨m0, w0⟩, turn⟩ := h
 refine wpAny_While (codeAny_whileLoop (fun n s' => ∃ σ' H', aJ X pins σ' H' s' /\ W n σ' H') ?_ m0 ⟨σ, H, I, w0⟩)
 rintro n s1 ⟨σ1, H1, I1, w1⟩
 refine wpAny_passesOwn hp (bQ (hc pins s1 σ1 H1 _ I1 (turn n σ1 H1 w1)) fun b s2 ⟨H2, I2, q2⟩ => ?_)
 cases b with
 | true =>
  obtain ⟨N, hN, q2⟩ := q2
  rw [if_pos rfl]
  refine wpAny_passesOwn hp (bQ (hb pins s2 σ1 H2 _ I2 q2) fun f s3 q3 => ?_)
  cases f with
  | next =>
   obtain ⟨σ3, H3, I3, n3⟩ := q3
   obtain ⟨m', hm, w3⟩ := hN σ3 H3 n3
   exact ⟨m', hm, σ3, H3, I3, w3⟩
  | cont =>
   obtain ⟨σ3, H3, I3, n3⟩ := q3
   obtain ⟨m', hm, w3⟩ := hN σ3 H3 n3
   exact ⟨m', hm, σ3, H3, I3, w3⟩
  | brk => exact q3
  | ret v => exact q3
 | false =>
  rw [if_neg Bool.false_ne_true]
  exact wpAny_execs_nil ⟨σ1, H2, I2, q2⟩
end
structure It where
 go : Nat -> Hp -> Prop
 yld : Nat -> Hp -> V -> Hp -> Prop
 stop : Nat -> Hp -> Prop
noncomputable def gW (X : Cx) (pins : Pn) (H : Hp) (b : Addr) : Prop :=
 H b = none /\ b ≠ X.env.locals /\ b ∉ X.fs /\ (b ∈ X.ex ∨ X.s₀.heap.objs.size <= b) /\ (∀ x c, X.env.cells.lookup x = some c -> c ≠ b) /\ ∀ p ∈ X.pn ++ pins, p.1 ≠ b
theorem aJ.fpOk {pins : Pn} {σ : St} {H H' : Hp} {s : Shared} {b : Addr} (I : aJ X pins σ H s) (hb : s.heap.objs.size <= b) (hn : H' b = none) : gW X pins H' b := by
 refine ⟨hn, Nat.ne_of_gt (Nat.lt_of_lt_of_le I.lt hb), I.nofs hb, .inr (Nat.le_trans I.sz hb), fun x c e z => ?_, fun p hp z => ?_⟩
 ·obtain ⟨v, q⟩ := I.cell x c e
  exact absurd (Nat.lt_of_lt_of_le q.lt (by rw [z]; exact hb)) (Nat.lt_irrefl _)
 ·exact absurd (Nat.lt_of_lt_of_le (Heap.lt_size (I.pin p hp).1) (by rw [z]; exact hb)) (Nat.lt_irrefl _)
structure pi (P : Program) (w : World) (K : Fg) (tg : Expr) (J : It) (fp : List Addr) (it : Addr) (tn : Nat -> Heap -> Prop) : Prop where
 mem : it ∈ fp
 obj : ∀ i h, tn i h -> ∀ b ∈ fp, ∃ o, h.get? b = some o /\ ∀ v, o.data ≠ .cell v
 keep : ∀ i h h', tn i h -> (∀ b ∈ fp, ∀ o, h.get? b = some o -> h'.get? b = some o) -> tn i h'
 item : ∀ (X : Cx), X.prog = P -> X.w = w -> X.K = K -> X.calm = true -> ∀ (i : Nat) (pins : Pn) (s : Shared) (σ : St) (H : Hp) (E : Value -> Shared -> Prop), aJ X pins σ H s -> (∀ b ∈ fp, gW X pins H b) -> tn i s.heap -> J.go i H ->
  wpAny (model P w) X.A (pyNext (.ref it)) (fun r s1 => ∃ u, r = some u /\
   wpAny (model P w) X.A (letOwnedTupleGo tg (.ref it) u) (fun _ s2 => ∃ x H', aJ X pins σ H' s2 /\ bu x u /\ J.yld i H x H' /\ tn (i + 1) s2.heap /\ ∀ b ∈ fp, H' b = none) E s1) E s
 done : ∀ (X : Cx), X.prog = P -> X.w = w -> X.K = K -> X.calm = true -> ∀ (i : Nat) (pins : Pn) (s : Shared) (σ : St) (H : Hp) (E : Value -> Shared -> Prop), aJ X pins σ H s -> (∀ b ∈ fp, gW X pins H b) -> tn i s.heap -> J.stop i H ->
  wpAny (model P w) X.A (pyNext (.ref it)) (fun r s1 => r = none /\ aJ X pins σ H s1) E s
 self : ∀ (A : Around) (i : Nat) (s : Shared) (Q : Value -> Shared -> Prop) (E : Value -> Shared -> Prop), tn i s.heap -> Q (.ref it) s -> wpAny (model P w) A (pyIter (.ref it)) Q E s
noncomputable abbrev TI := St -> Hp -> (It -> Hp -> Prop) -> Prop
noncomputable def PIE (X : Cx) (pins : Pn) (σ : St) (tg : Expr) (R : It -> Hp -> Prop) (itv : Value) (s2 : Shared) : Prop :=
 ∃ (it : Addr) (fp : List Addr) (tn : Nat -> Heap -> Prop) (J : It) (H' : Hp), itv = .ref it /\ aJ X pins σ H' s2 /\ pi X.prog X.w X.K tg J fp it tn /\ tn 0 s2.heap /\ (∀ b ∈ fp, gW X pins H' b) /\ R J H'
noncomputable def PI (X : Cx) (tg iter : Expr) (wi : TI) : Prop :=
 ∀ (pins : Pn) (s : Shared) (σ : St) (H : Hp) (R : It -> Hp -> Prop), aJ X pins σ H s -> wi σ H R ->
  wpAny (model X.prog X.w) X.A (eval iter X.env) (fun v s1 => wpAny (model X.prog X.w) X.A (pyIter v) (PIE X pins σ tg R) X.xe s1) X.xe s
variable {tg : Expr}
theorem nJ {M : Model} {A : Around} {E : Value -> Shared -> Prop} {s : Shared} {it : Addr} {o : Obj} {n : String} {vs : Array Value} {Q : Unit -> Shared -> Prop} (ho : s.heap.get? it = some o) (hc : o.cls = .type n) (hd : o.data = .fields vs)
    (hn : ["enumerate", "zip", "dict_itemiterator", "dict_reverseitemiterator", "odict_iterator", "itertools.zip_longest", "itertools.pairwise"].contains n = false) (hQ : Q () s) : wpAny M A (letOwnedTupleGo tg (.ref it) u) Q E s := by
  unfold letOwnedTupleGo
  cases tg <;> first
    | exact wpAny_pure hQ
    | (cases u <;> first
        | exact wpAny_pure hQ
        | (refine wpAny_bind (wpAny_load ho ?_)
           rw [hc, hd]
           show wpAny M A (if (["enumerate", "zip", "dict_itemiterator", "dict_reverseitemiterator", "odict_iterator", "itertools.zip_longest", "itertools.pairwise"].contains n && vs[0]? == some (rawInt _)) = true then _ else _) Q E s
           rw [if_neg (by intro h; rw [hn, Bool.false_and] at h; cases h)]
           exact wpAny_pure hQ))
noncomputable def Itl (K : Fg) (a : Addr) : It :=
 ⟨fun i H => ∃ xs x, cg K H a xs /\ xs[i]? = some x, fun i H x H' => H' = H /\ ∀ xs, cg K H a xs -> xs[i]? = some x, fun i H => ∃ xs, cg K H a xs /\ xs.length <= i⟩
noncomputable def Itt (K : Fg) (a : Addr) : It :=
 ⟨fun i H => ∃ xs x, ci K H a xs /\ xs[i]? = some x, fun i H x H' => H' = H /\ ∀ xs, ci K H a xs -> xs[i]? = some x, fun i H => ∃ xs, ci K H a xs /\ xs.length <= i⟩
noncomputable def vp (lo : Int) (n : Nat) : It := ⟨fun i _ => i < n, fun i H x H' => H' = H /\ x = .int (lo + i), fun i _ => n <= i⟩
variable {P : Program} {w : World} {K : Fg}
theorem sV (a it : Addr) : pi P w K tg (Itl K a) [it] it (fun i h => h.IsListIter it a i) where
 mem := by simp
 obj := fun i h st b hb => by
  have e : b = it := by simpa using hb
  subst e
  obtain ⟨o, e, c, d⟩ := st
  exact ⟨o, e, fun v z => by rw [d] at z; cases z⟩
 keep := fun i h h' st k => st.at fun o e => k it (by simp) o e
 item := by
  intro X hP hw hK hc i pins s σ H E I hf st hg
  subst hP hw hK
  obtain ⟨xs, x, hq, hx⟩ := hg
  obtain ⟨its, rv, p, hz⟩ := I.list hq
  obtain ⟨u, hu, ru⟩ := rv.get hx
  obtain ⟨f0, f1, f2, f3, f4, f5⟩ := hf it (by simp)
  refine wpAny_pyNext_list_item st p.isList (x := u) (by simpa using hu) fun h' st' sb => ?_
  have I1 : aJ X pins σ H { s with heap := h' } := I.turned (t' := s.toks) (fun b o hb e => (sb.2 b hb).trans e) f0 f1 f3 f4 f5
  obtain ⟨o, e, c, d⟩ := id st'
  exact ⟨u, rfl, nJ (s := { s with heap := h' }) e c d (by decide) ⟨x, H, I1, ru, ⟨rfl, fun ys hy => by rw [I.list_inj hy hq]; exact hx⟩, st', fun b hb => (hf b hb).1⟩⟩
 done := by
  intro X hP hw hK hc i pins s σ H E I hf st hg
  subst hP hw hK
  obtain ⟨xs, hq, hx⟩ := hg
  obtain ⟨its, rv, p, hz⟩ := I.list hq
  obtain ⟨f0, f1, f2, f3, f4, f5⟩ := hf it (by simp)
  have hl := rv.length
  exact wpAny_pyNext_list_end (I.ok.hd hc) st p.isList (by simp; omega) fun h' eb => ⟨rfl, I.turned (t' := s.toks) (fun b o hb e => eb b o hb e) f0 f1 f3 f4 f5⟩
 self := fun _ _ _ _ _ st h => wpAny_pyIter_listiter st h
theorem qF (a it : Addr) : pi P w K tg (Itt K a) [it] it (fun i h => h.IsTupleIter it a i) where
 mem := by simp
 obj := fun i h st b hb => by
  have e : b = it := by simpa using hb
  subst e
  obtain ⟨o, e, c, d⟩ := st
  exact ⟨o, e, fun v z => by rw [d] at z; cases z⟩
 keep := fun i h h' st k => st.at fun o e => k it (by simp) o e
 item := by
  intro X hP hw hK hc i pins s σ H E I hf st hg
  subst hP hw hK
  obtain ⟨xs, x, hq, hx⟩ := hg
  obtain ⟨its, rv, p, hz⟩ := I.tuple hq
  obtain ⟨u, hu, ru⟩ := rv.get hx
  obtain ⟨f0, f1, f2, f3, f4, f5⟩ := hf it (by simp)
  refine wpAny_pyNext_tuple_item st (show s.heap.IsTuple a its.toArray from p) (x := u) (by simpa using hu) fun h' st' sb => ?_
  have I1 : aJ X pins σ H { s with heap := h' } := I.turned (t' := s.toks) (fun b o hb e => (sb.2 b hb).trans e) f0 f1 f3 f4 f5
  obtain ⟨o, e, c, d⟩ := id st'
  exact ⟨u, rfl, nJ (s := { s with heap := h' }) e c d (by decide) ⟨x, H, I1, ru, ⟨rfl, fun ys hy => by rw [I.tuple_inj hy hq]; exact hx⟩, st', fun b hb => (hf b hb).1⟩⟩
 done := by
  intro X hP hw hK hc i pins s σ H E I hf st hg
  subst hP hw hK
  obtain ⟨xs, hq, hx⟩ := hg
  obtain ⟨its, rv, p, hz⟩ := I.tuple hq
  obtain ⟨f0, f1, f2, f3, f4, f5⟩ := hf it (by simp)
  have hl := rv.length
  exact wpAny_pyNext_tuple_end (I.ok.hd hc) st (show s.heap.IsTuple a its.toArray from p) (by simp; omega) fun h' eb => ⟨rfl, I.turned (t' := s.toks) (fun b o hb e => eb b o hb e) f0 f1 f3 f4 f5⟩
 self := fun _ _ _ _ _ st h => wpAny_pyIter_tupleiter st h
theorem pP (it : Addr) (lo : Int) (n : Nat) : pi P w K tg (vp lo n) [it] it (fun i h => IsRangeIter h it (lo + (i : Nat) * 1) ((n : Int) - (i : Nat)) 1) where
 mem := by simp
 obj := fun i h st b hb => by
  have e : b = it := by simpa using hb
  subst e
  exact ⟨_, st, fun v z => by
   have z' : Data.fields _ = Data.cell v := z
   cases z'⟩
 keep := fun i h h' st k => k it (by simp) _ st
 item := by
  intro X hP hw hK hc i pins s σ H E I hf st hg
  subst hP hw hK
  obtain ⟨f0, f1, f2, f3, f4, f5⟩ := hf it (by simp)
  have W := Walks.range (prog := X.prog) (w := X.w) (I.ok.hd hc) it lo 1 n
  refine W.item i s _ _ hg st fun v h' tk hv st' kk => ?_
  obtain ⟨t, rfl⟩ := hv
  have I1 : aJ X pins σ H { s with heap := h', toks := tk } := I.turned (fun b o hb e => kk b o (by simpa using hb) e) f0 f1 f3 f4 f5
  refine ⟨_, rfl, nJ (s := { s with heap := h', toks := tk }) (n := "range_iterator") st' rfl rfl (by decide) ⟨.int (lo + i), H, I1, ⟨t, ?_⟩, ⟨rfl, rfl⟩, st', fun b hb => (hf b hb).1⟩⟩
  rw [Int.mul_one]
 done := by
  intro X hP hw hK hc i pins s σ H E I hf st hg
  subst hP hw hK
  obtain ⟨f0, f1, f2, f3, f4, f5⟩ := hf it (by simp)
  exact wpAny_pyNext_range_end (I.ok.hd hc) st (by have : n <= i := hg; omega) fun h' eb => ⟨rfl, I.turned (t' := s.toks) (fun b o hb e => eb b o hb e) f0 f1 f3 f4 f5⟩
 self := fun _ _ _ _ _ st h => wpAny_pyIter_rangeiter st h
end L2
namespace L2
open PySem PySem.Spec PyProof.Rows
section
variable {X : Cx} {tg : Expr}
noncomputable def xJ (K : Fg) (tl : TE) : TI := fun σ H R => tl σ H fun x H1 => ∃ a, x = .ref a /\ (∃ xs, cg K H1 a xs) /\ R (Itl K a) H1
noncomputable def By (K : Fg) (tl : TE) : TI := fun σ H R => tl σ H fun x H1 => ∃ a, x = .ref a /\ (∃ xs, ci K H1 a xs) /\ R (Itt K a) H1
theorem wB {l : Expr} {tl : TE} (hl : PE X l tl) : PI X tg l (xJ X.K tl) := by
 intro pins s σ H R I h
 refine bQ (hl pins s σ H _ I h) fun v s1 ⟨x, H1, I1, r1, q1⟩ => ?_
 obtain ⟨a, e, ⟨xs, hq⟩, q⟩ := q1
 subst e
 cases r1
 obtain ⟨its, rv, p, hz⟩ := I1.list hq
 refine wpAny_pyIter_list p.isList ?_
 refine ⟨s1.heap.objs.size, [s1.heap.objs.size], _, _, H1, rfl, I1.kept (t' := s1.toks) fun b o e => Heap.get?_push_of_some _ e, sV a _, ⟨_, Heap.get?_push_size _ rfl, rfl, rfl⟩, fun b hb => ?_, q⟩
 have e : b = s1.heap.objs.size := by simpa using hb
 subst e
 exact I1.fpOk (Nat.le_refl _) (I1.hok.fresh (Nat.le_refl _))
theorem ck {l : Expr} {tl : TE} (hl : PE X l tl) : PI X tg l (By X.K tl) := by
 intro pins s σ H R I h
 refine bQ (hl pins s σ H _ I h) fun v s1 ⟨x, H1, I1, r1, q1⟩ => ?_
 obtain ⟨a, e, ⟨xs, hq⟩, q⟩ := q1
 subst e
 cases r1
 obtain ⟨its, rv, p, hz⟩ := I1.tuple hq
 refine wpAny_pyIter_tuple (show s1.heap.IsTuple a its.toArray from p) ?_
 refine ⟨s1.heap.objs.size, [s1.heap.objs.size], _, _, H1, rfl, I1.kept (t' := s1.toks) fun b o e => Heap.get?_push_of_some _ e, qF a _, ⟨_, Heap.get?_push_size _ rfl, rfl, rfl⟩, fun b hb => ?_, q⟩
 have e : b = s1.heap.objs.size := by simpa using hb
 subst e
 exact I1.fpOk (Nat.le_refl _) (I1.hok.fresh (Nat.le_refl _))
variable {pins : Pn} {σ : St} {H : Hp} {s : Shared}
theorem uE {R : It -> Hp -> Prop} {E : Value -> Shared -> Prop} {lo hi : Int} {t u v : Tok} {tk : Nat} (I : aJ X pins σ H s) (h1 : -(2 ^ 62) <= lo) (h2 : lo < 2 ^ 62) (h3 : -(2 ^ 62) <= hi) (h4 : hi < 2 ^ 62)
  (q : R (vp lo (hi - lo).toNat) H) : wpAny (model X.prog X.w) X.A (pyIter (.ref s.heap.objs.size)) (PIE X pins σ tg R) E { s with heap := s.heap.push { cls := .type "range", data := .fields #[.int lo t, .int hi u, .int 1 v] }, toks := tk } := by
 refine wpAny_pyIter_range (IsRange.new ..) (small_one h1 h2 h3 h4) ?_
 have I1 : aJ X pins σ H { s with heap := s.heap.push { cls := .type "range", data := .fields #[.int lo t, .int hi u, .int 1 v] }, toks := tk } := I.kept fun b o e => Heap.get?_push_of_some _ e
 refine ⟨(s.heap.push { cls := .type "range", data := .fields #[.int lo t, .int hi u, .int 1 v] }).objs.size, [(s.heap.push { cls := .type "range", data := .fields #[.int lo t, .int hi u, .int 1 v] }).objs.size], _, _, H, rfl,
  I1.kept (t' := tk) fun b o e => Heap.get?_push_of_some _ e, pP _ lo (hi - lo).toNat, ?_, fun b hb => ?_, q⟩
 ·have e1 : lo + ((0 : Nat) : Int) * 1 = lo := by simp
  have e2 : (((hi - lo).toNat : Nat) : Int) - ((0 : Nat) : Int) = Builtin.Range.rangeSize lo hi 1 := by rw [rangeSize_one]; split <;> omega
  show IsRangeIter _ _ (lo + ((0 : Nat) : Int) * 1) ((((hi - lo).toNat : Nat) : Int) - ((0 : Nat) : Int)) 1
  rw [e1, e2]
  exact Heap.get?_push_size _ rfl
 ·have e : b = (s.heap.push { cls := .type "range", data := .fields #[.int lo t, .int hi u, .int 1 v] }).objs.size := by simpa using hb
  subst e
  exact I1.fpOk (Nat.le_refl _) (I1.hok.fresh (Nat.le_refl _))
noncomputable def uM (ta : TA) : TI := fun σ H R => ta σ H fun vs H1 => ∃ j : Int, vs = [.int j] /\ -(2 ^ 62) <= j /\ j < 2 ^ 62 /\ R (vp 0 j.toNat) H1
theorem cF {a : Expr} {ta : TA} {p pos : Pos} (hg : Gl X "range") (hm : X.mg "range" = none) (ha : PA X [a] ta) (hs : starEach [a] X.env = [(false, eval a X.env)] := by rfl) : PI X tg (.Call (.Name "range" p) [a] [] pos) (uM ta) := by
 intro pins s σ H R I h
 refine Call_ (iO I hg hm boot_range (PyProof.Rows.callWith_type1 (bQ (ha pos pins s σ H _ I h) fun us s1 ⟨vs, H1, I1, r1, q1⟩ => ?_) hs rfl))
 obtain ⟨j, e, q1, q2, q⟩ := q1
 subst e
 cases r1 with
 | cons r rr =>
  cases rr
  obtain ⟨t, rfl⟩ := r
  exact call_range_1 (uE I1 (by omega) (by omega) q1 q2 (by simpa using q))
noncomputable def zz (wi : TI) (g : TG) (tb : TS) : TS := fun D σ H => wi σ H fun J H1 => ∃ W : Nat -> Nat -> St -> Hp -> Prop, (∃ m, W 0 m σ H1) /\ ∀ i m σ H, W i m σ H ->
 (J.stop i H /\ D.nx σ H) ∨ (J.go i H /\ ∃ N : St -> Hp -> Prop, (∀ σ' H', N σ' H' -> ∃ m', m' < m /\ W (i + 1) m' σ' H') /\ ∀ x H', J.yld i H x H' -> g x σ H' fun σ2 H2 => tb { D with nx := N, ct := N, bk := D.nx } σ2 H2)
noncomputable def lU (fp : List Addr) (h : Heap) : Pn := fp.filterMap fun b => (h.get? b).map fun o => (b, o)
variable {fp : List Addr}
theorem dj {h : Heap} {b : Addr} {o : Obj} (hb : b ∈ fp) (e : h.get? b = some o) : (b, o) ∈ lU fp h := List.mem_filterMap.mpr ⟨b, hb, by rw [e]; rfl⟩
theorem rZ {h : Heap} {p : Addr × Obj} (hp : p ∈ lU fp h) : p.1 ∈ fp /\ h.get? p.1 = some p.2 := by
 obtain ⟨b, hb, e⟩ := List.mem_filterMap.mp hp
 cases q : h.get? b with
 | none => rw [q] at e; cases e
 | some o =>
  rw [q] at e
  have e' : (b, o) = p := Option.some.inj e
  subst e'
  exact ⟨hb, q⟩
theorem aJ.pinned (I : aJ X pins σ H s) (hf : ∀ b ∈ fp, gW X pins H b) (ho : ∀ b ∈ fp, ∃ o, s.heap.get? b = some o /\ ∀ v, o.data ≠ .cell v) : aJ X (pins ++ lU fp s.heap) σ H s :=
 I.pins_of fun p hp => (List.mem_append.mp hp).elim (fun z => I.pin p (List.mem_append_right _ z)) fun z => by
  obtain ⟨hb, e⟩ := rZ z
  obtain ⟨f0, f1, f2, _⟩ := hf p.1 hb
  obtain ⟨o, e', d⟩ := ho p.1 hb
  rw [e] at e'; cases e'
  exact ⟨e, f0, f1, f2, d⟩
theorem aJ.unpinned {pl : Pn} (I : aJ X (pins ++ pl) σ H s) : aJ X pins σ H s := I.pins_of fun p hp => I.pin p (List.mem_append_right _ (List.mem_append_left _ hp))
theorem gX {iter : Expr} {body : List Stmt} {wi : TI} {g : TG} {tb : TS} {pos : Pos} (hp : PassesOwn (model X.prog X.w) X.A X.env X.xe) (hc : X.calm = true) (hi : PI X tg iter wi) (hg : PG X tg g) (hb : nA X body tb)
  (hs : ∀ x, foldedSetIterable iter X.env x = pure x := by intro _; rfl) : PS X (.For tg iter body [] pos) (zz wi g tb) := by
 intro pins s σ H D I h
 refine wpAny_For (bQ (hi pins s σ H _ I h) fun v s1 h1 => bQ h1 fun itv s2 h2 => ?_) hs
 obtain ⟨it, fp, tn, J, H2, e, I2, T, st2, f2, W, ⟨m0, w0⟩, turn⟩ := h2
 subst e
 have stat : ∀ {H' : Hp}, (∀ b ∈ fp, H' b = none) -> ∀ b ∈ fp, gW X pins H' b := fun hn b hb => ⟨hn b hb, (f2 b hb).2⟩
 refine codeAny_forLoop_any (fun n s' => ∃ i σ' H', aJ X pins σ' H' s' /\ tn i s'.heap /\ (∀ b ∈ fp, H' b = none) /\ W i n σ' H') ?_ m0 ⟨0, σ, H2, I2, st2, fun b hb => (f2 b hb).1, w0⟩
 rintro n s3 ⟨i, σ3, H3, I3, st3, fr3, w3⟩
 rcases turn i n σ3 H3 w3 with ⟨stop, qn⟩ | ⟨go, N, hN, step⟩
 ·refine wpAny_passesOwn hp (bQ (T.done X rfl rfl rfl hc i pins s3 σ3 H3 X.xe I3 (stat fr3) st3 stop) fun r s4 ⟨hr, I4⟩ => ?_)
  subst hr
  exact wpAny_execs_nil ⟨σ3, H3, I4, qn⟩
 ·refine wpAny_passesOwn hp (bQ (T.item X rfl rfl rfl hc i pins s3 σ3 H3 X.xe I3 (stat fr3) st3 go) fun r s4 ⟨u, hr, h4⟩ => ?_)
  subst hr
  refine wpAny_passesOwn hp (bQ h4 fun _ s5 ⟨x, H5, I5, r5, y5, st5, fr5⟩ => ?_)
  have I5' := I5.pinned (stat fr5) (T.obj _ _ st5)
  refine wpAny_passesOwn hp (bQ (hg _ s5 σ3 H5 x u _ I5' r5 (step x H5 y5)) fun _ s6 ⟨σ6, H6, I6, q6⟩ => ?_)
  refine wpAny_passesOwn hp (bQ (hb _ s6 σ6 H6 _ I6 q6) fun f s7 q7 => ?_)
  have again : ∀ {σ7 : St} {H7 : Hp}, aJ X (pins ++ lU fp s5.heap) σ7 H7 s7 -> N σ7 H7 -> ∃ m, m < n /\ ∃ i σ' H', aJ X pins σ' H' s7 /\ tn i s7.heap /\ (∀ b ∈ fp, H' b = none) /\ W i m σ' H' := fun {σ7 H7} I7 n7 => by
   obtain ⟨m', hm, w7⟩ := hN σ7 H7 n7
   refine ⟨m', hm, i + 1, σ7, H7, I7.unpinned, T.keep _ _ _ st5 fun b hb o e => (I7.pin (b, o) (List.mem_append_right _ (List.mem_append_right _ (dj hb e)))).1, fun b hb => ?_, w7⟩
   obtain ⟨o, e, d⟩ := T.obj _ _ st5 b hb
   exact (I7.pin (b, o) (List.mem_append_right _ (List.mem_append_right _ (dj hb e)))).2.1
  cases f with
  | next => obtain ⟨σ7, H7, I7, n7⟩ := q7; exact again I7 n7
  | cont => obtain ⟨σ7, H7, I7, n7⟩ := q7; exact again I7 n7
  | brk => obtain ⟨σ7, H7, I7, q7⟩ := q7; exact ⟨σ7, H7, I7.unpinned, q7⟩
  | ret v => obtain ⟨x7, σ7, H7, I7, r7, q7⟩ := q7; exact ⟨x7, σ7, H7, I7.unpinned, r7, q7⟩
end
theorem sT {lo : Int} {n : Nat} {g : TG} {tb : TS} {D : Ends} {σ : St} {H : Hp} (Pv : Nat -> St -> Hp -> Prop) (h0 : Pv 0 σ H)
  (hs : ∀ i σ H, i < n -> Pv i σ H -> g (.int (lo + i)) σ H fun σ2 H2 => tb { D with nx := Pv (i + 1), ct := Pv (i + 1), bk := D.nx } σ2 H2) (hd : ∀ σ H, Pv n σ H -> D.nx σ H) :
  ∃ W : Nat -> Nat -> St -> Hp -> Prop, (∃ m, W 0 m σ H) /\ ∀ i m σ H, W i m σ H ->
   ((vp lo n).stop i H /\ D.nx σ H) ∨ ((vp lo n).go i H /\ ∃ N : St -> Hp -> Prop, (∀ σ' H', N σ' H' -> ∃ m', m' < m /\ W (i + 1) m' σ' H') /\ ∀ x H', (vp lo n).yld i H x H' -> g x σ H' fun σ2 H2 => tb { D with nx := N, ct := N, bk := D.nx } σ2 H2) := by
 refine ⟨fun i m σ H => m = n - i /\ i <= n /\ Pv i σ H, ⟨n, by simp, Nat.zero_le _, h0⟩, ?_⟩
 rintro i m σ H ⟨rfl, hi, p⟩
 by_cases hlt : i < n
 ·refine .inr ⟨hlt, Pv (i + 1), fun σ' H' p' => ⟨n - (i + 1), by omega, rfl, hlt, p'⟩, fun x H' y => ?_⟩
  obtain ⟨e, y⟩ := y
  subst e y
  exact hs i σ _ hlt p
 ·have e : i = n := by omega
  subst e
  exact .inl ⟨Nat.le_refl _, hd σ H p⟩
theorem tY {c : TT} {tb : TS} {D : Ends} {σ : St} {H : Hp} (Pv : St -> Hp -> Prop) (μ : St -> Hp -> Nat) (h0 : Pv σ H)
  (hs : ∀ σ H, Pv σ H -> c σ H fun b H1 => if b = true then tb { D with nx := fun σ' H' => Pv σ' H' /\ μ σ' H' < μ σ H, ct := fun σ' H' => Pv σ' H' /\ μ σ' H' < μ σ H, bk := D.nx } σ H1 else D.nx σ H1)
  (mono : ∀ σ H Q Q', (∀ b H1, Q b H1 -> Q' b H1) -> c σ H Q -> c σ H Q') : qB c tb D σ H := by
 refine ⟨fun m σ H => m = μ σ H /\ Pv σ H, ⟨_, rfl, h0⟩, ?_⟩
 rintro m σ H ⟨rfl, p⟩
 refine mono σ H _ _ (fun b H1 q => ?_) (hs σ H p)
 cases b with
 | true => exact ⟨_, fun σ' H' ⟨p', l⟩ => ⟨_, l, rfl, p'⟩, q⟩
 | false => exact q
end L2
namespace L2
open PySem PySem.Spec PyProof.Rows
noncomputable abbrev R2 := V -> V -> Hp -> VK -> Prop
noncomputable def eG (X : Cx) (f : Value -> Value -> Sem Value) (r : R2) : Prop :=
 ∀ (pins : Pn) (s : Shared) (σ : St) (H : Hp) (x y : V) (v u : Value) (Q : VK), aJ X pins σ H s -> bu x v -> bu y u -> r x y H Q ->
  wpAny (model X.prog X.w) X.A (f v u) (EP X pins σ Q) X.xe s
noncomputable def DV (X : Cx) (f : Value -> Sem Value) (r : V -> Hp -> VK -> Prop) : Prop :=
 ∀ (pins : Pn) (s : Shared) (σ : St) (H : Hp) (x : V) (v : Value) (Q : VK), aJ X pins σ H s -> bu x v -> r x H Q ->
  wpAny (model X.prog X.w) X.A (f v) (EP X pins σ Q) X.xe s
noncomputable def bY (X : Cx) (f : Value) (r : List V -> Hp -> VK -> Prop) : Prop :=
 ∀ (pins : Pn) (s : Shared) (σ : St) (H : Hp) (xs : List V) (us : List Value) (Q : VK), aJ X pins σ H s -> bd xs us -> r xs H Q ->
  wpAny (model X.prog X.w) X.A (call f us) (EP X pins σ Q) X.xe s
noncomputable def Eg (X : Cx) (r : V -> Hp -> (Bool -> Hp -> Prop) -> Prop) : Prop :=
 ∀ (pins : Pn) (s : Shared) (σ : St) (H : Hp) (x : V) (v : Value) (Q : Bool -> Hp -> Prop), aJ X pins σ H s -> bu x v -> r x H Q ->
  wpAny (model X.prog X.w) X.A (truthy v) (TP X pins σ Q) X.xe s
noncomputable def AI (r : R2) (ta tb : TE) : TE := fun σ H Q => ta σ H fun x H1 => tb σ H1 fun y H2 => r x y H2 Q
noncomputable def tUn (r : V -> Hp -> VK -> Prop) (ta : TE) : TE := fun σ H Q => ta σ H fun x H1 => r x H1 Q
noncomputable def rI (C : Int -> Int -> Prop) (g : Int -> Int -> V) : R2 := fun x y H Q => ∃ i j, x = .int i /\ y = .int j /\ C i j /\ Q (g i j) H
noncomputable def va (g : Int -> Int -> V) : R2 := fun x y H Q => ∃ i j, x = .int i /\ y = .int j /\ Q (g i j) H
noncomputable def rU (g : Int -> V) : V -> Hp -> VK -> Prop := fun x H Q => ∃ i, x = .int i /\ Q (g i) H
section
variable {X : Cx} {a b c : Expr} {ta tb tc : TE} {pos : Pos}
theorem yE (ha : PE X a ta) (hb : PE X b tb) {pins : Pn} {s : Shared} {σ : St} {H : Hp} {R : V -> V -> Hp -> Prop} (I : aJ X pins σ H s)
  (h : ta σ H fun x H1 => tb σ H1 fun y H2 => R x y H2) {Q : Value -> Shared -> Prop} {f : Value -> Value -> Sem Value}
  (hf : ∀ v u s2 x y H2, aJ X pins σ H2 s2 -> bu x v -> bu y u -> R x y H2 -> wpAny (model X.prog X.w) X.A (f v u) Q X.xe s2) :
  wpAny (model X.prog X.w) X.A (eval a X.env) (fun v s₁ => wpAny (model X.prog X.w) X.A (eval b X.env) (fun u s₂ => wpAny (model X.prog X.w) X.A (f v u) Q X.xe s₂) X.xe s₁) X.xe s := by
 refine bQ (ha pins s σ H _ I h) fun v s1 ⟨x, H1, I1, r1, q1⟩ => ?_
 refine bQ (hb pins s1 σ H1 _ I1 q1) fun u s2 ⟨y, H2, I2, r2, q2⟩ => ?_
 exact hf v u s2 x y H2 I2 r1 r2 q2
theorem al {op : Operator} {r : R2} (ho : eG X (binaryOp op) r) (ha : PE X a ta) (hb : PE X b tb) : PE X (.BinOp a op b pos) (AI r ta tb) := by
 intro pins s σ H Q I h
 exact wpAny_BinOp (yE ha hb I h fun v u s2 x y H2 I2 rx ry q => ho pins s2 σ H2 x y v u Q I2 rx ry q)
theorem CD {op : UnaryOp} {r : V -> Hp -> VK -> Prop} (ho : DV X (unaryOp op) r) (ha : PE X a ta) : PE X (.UnaryOp op a pos) (tUn r ta) := by
 intro pins s σ H Q I h
 exact UnaryOp_ (bQ (ha pins s σ H _ I h) fun v s1 ⟨x, H1, I1, r1, q1⟩ => ho pins s1 σ H1 x v Q I1 r1 q1)
theorem CI {f : Value -> Value -> Sem Value} {C : Int -> Int -> Prop} {g : Int -> Int -> Int}
  (rule : ∀ (i j : Int) (t u : Tok) (s : Shared) (Q : Value -> Shared -> Prop) (E : Value -> Shared -> Prop), C i j -> Q (.int (g i j) s.toks) { s with toks := s.toks + 1 } -> wpAny (model X.prog X.w) X.A (f (.int i t) (.int j u)) Q E s) :
  eG X f (rI C fun i j => .int (g i j)) := by
 intro pins s σ H x y v u Q I rx ry h
 obtain ⟨i, j, rfl, rfl, hc, q⟩ := h
 obtain ⟨t, rfl⟩ := rx
 obtain ⟨t', rfl⟩ := ry
 exact rule i j t t' s _ _ hc ⟨.int (g i j), H, I.tok _, ⟨_, rfl⟩, q⟩
theorem Cp {f : Value -> Value -> Sem Value} {g : Int -> Int -> Int}
  (rule : ∀ (i j : Int) (t u : Tok) (s : Shared) (Q : Value -> Shared -> Prop) (E : Value -> Shared -> Prop), Q (.int (g i j) s.toks) { s with toks := s.toks + 1 } -> wpAny (model X.prog X.w) X.A (f (.int i t) (.int j u)) Q E s) :
  eG X f (va fun i j => .int (g i j)) := by
 intro pins s σ H x y v u Q I rx ry h
 obtain ⟨i, j, rfl, rfl, q⟩ := h
 obtain ⟨t, rfl⟩ := rx
 obtain ⟨t', rfl⟩ := ry
 exact rule i j t t' s _ _ ⟨.int (g i j), H, I.tok _, ⟨_, rfl⟩, q⟩
variable {f : Value -> Value -> Sem Value}
theorem we {g : Int -> Int -> Bool}
  (rule : ∀ (i j : Int) (t u : Tok) (s : Shared) (Q : Value -> Shared -> Prop) (E : Value -> Shared -> Prop), Q (.bool (g i j)) s -> wpAny (model X.prog X.w) X.A (f (.int i t) (.int j u)) Q E s) :
  eG X f (va fun i j => .bl (g i j)) := by
 intro pins s σ H x y v u Q I rx ry h
 obtain ⟨i, j, rfl, rfl, q⟩ := h
 obtain ⟨t, rfl⟩ := rx
 obtain ⟨t', rfl⟩ := ry
 exact rule i j t t' s _ _ ⟨.bl (g i j), H, I, rfl, q⟩
noncomputable def Er (i j : Int) : Prop := 0 <= j /\ j <= 1000000 /\ i.natAbs < 2 ^ 64
theorem bo : eG X (binaryOp .Add) (va fun i j => .int (i + j)) := Cp fun _ _ _ _ _ _ _ q => add_int q
theorem jZ : eG X (binaryOp .Sub) (va fun i j => .int (i - j)) := Cp fun _ _ _ _ _ _ _ q => sub_int q
theorem aQ : eG X (binaryOp .Mod) (rI (fun _ j => 0 < j) fun i j => .int (i % j)) := CI fun i j _ _ _ _ _ hc q => by
 have h1 : (0 : Int) < j := hc
 exact mod_int' (by omega) (by rw [Int.fmod_eq_emod_of_nonneg i (by omega)]; exact q)
theorem eM : eG X (binaryOp .Pow) (rI Er fun i j => .int (i ^ j.toNat)) := CI fun _ _ _ _ _ _ _ hc q => pow_int_small hc.1 hc.2.1 hc.2.2 q
theorem unI {f : Value -> Sem Value} {g : Int -> Int}
  (rule : ∀ (i : Int) (t : Tok) (s : Shared) (Q : Value -> Shared -> Prop) (E : Value -> Shared -> Prop), Q (.int (g i) s.toks) { s with toks := s.toks + 1 } -> wpAny (model X.prog X.w) X.A (f (.int i t)) Q E s) :
  DV X f (rU fun i => .int (g i)) := by
 intro pins s σ H x v Q I rx h
 obtain ⟨i, rfl, q⟩ := h
 obtain ⟨t, rfl⟩ := rx
 exact rule i t s _ _ ⟨.int (g i), H, I.tok _, ⟨_, rfl⟩, q⟩
theorem zT : DV X (unaryOp .USub) (rU fun i => .int (-i)) := unI fun _ _ _ _ _ q => neg_int q
end
noncomputable def Cz : V -> V -> Bool
 | .non, .non => true | .non, .int _ => true | .int _, .non => true | .non, .bl _ => true | .bl _, .non => true | .non, .str _ => true | .str _, .non => true
 | .int _, .int _ => true | .bl _, .bl _ => true | .str _, .str _ => true | .byt _, .byt _ => true
 | .int _, .str _ => true | .str _, .int _ => true | .bl _, .str _ => true | .str _, .bl _ => true
 | _, _ => false
noncomputable def rEq : R2 := fun x y H Q => Cz x y = true /\ Q (.bl (decide (x = y))) H
noncomputable def rNe : R2 := fun x y H Q => Cz x y = true /\ Q (.bl (!decide (x = y))) H
theorem rQ {i j : Int} : decide (V.int i = V.int j) = (i == j) := by
 rw [Bool.eq_iff_iff]
 simp
theorem vn {i j : Bool} : decide (V.bl i = V.bl j) = (i == j) := by
 rw [Bool.eq_iff_iff]
 simp
theorem rT {i j : Str} : decide (V.str i = V.str j) = (i == j) := by
 rw [Bool.eq_iff_iff]
 simp
theorem rs {i j : Array UInt8} : decide (V.byt i = V.byt j) = (i.toList == j.toList) := by
 rw [Bool.eq_iff_iff]
 cases i
 cases j
 simp
section
variable {X : Cx} {a b c : Expr} {ta tb tc : TE} {pos : Pos}
theorem bg {pins : Pn} {σ : St} {H : Hp} {s : Shared} {Q : VK} {k k' : Bool} (I : aJ X pins σ H s) (q : Q (.bl k) H) (e : k = k') : EP X pins σ Q (.bool k') s := by
 subst e
 exact ⟨.bl k, H, I, rfl, q⟩
theorem bI : eG X (compareOp .Eq) rEq := by
 intro pins s σ H x y v u Q I rx ry h
 obtain ⟨hs, q⟩ := h
 cases x with
 | non =>
  cases rx
  cases y with
  | non => cases ry; exact PySem.EqNone.eq_none_none (bg I q (by simp))
  | bl j => cases ry; exact PySem.EqNone.eq_none_bool (bg I q (by simp))
  | int j => obtain ⟨t', rfl⟩ := ry; exact PySem.EqNone.eq_none_int (bg I q (by simp))
  | str j => obtain ⟨t', rfl⟩ := ry; exact PySem.EqNone.eq_none_str (bg I q (by simp))
  | _ => exact absurd (show false = true from hs) Bool.false_ne_true
 | bl i =>
  cases rx
  cases y with
  | non => cases ry; exact PySem.EqNone.eq_bool_none (bg I q (by simp))
  | bl j => cases ry; exact eq_bool (bg I q vn)
  | str j => obtain ⟨t', rfl⟩ := ry; exact PySem.EqMixed.eq_bool_str (bg I q (by simp))
  | _ => exact absurd (show false = true from hs) Bool.false_ne_true
 | int i =>
  obtain ⟨t, rfl⟩ := rx
  cases y with
  | non => cases ry; exact PySem.EqNone.eq_int_none (bg I q (by simp))
  | int j => obtain ⟨t', rfl⟩ := ry; exact eq_int (bg I q rQ)
  | str j => obtain ⟨t', rfl⟩ := ry; exact PySem.EqMixed.eq_int_str (bg I q (by simp))
  | _ => exact absurd (show false = true from hs) Bool.false_ne_true
 | str i =>
  obtain ⟨t, rfl⟩ := rx
  cases y with
  | non => cases ry; exact PySem.EqNone.eq_str_none (bg I q (by simp))
  | bl j => cases ry; exact PySem.EqMixed.eq_str_bool (bg I q (by simp))
  | int j => obtain ⟨t', rfl⟩ := ry; exact PySem.EqMixed.eq_str_int (bg I q (by simp))
  | str j => obtain ⟨t', rfl⟩ := ry; exact eq_str (bg I q rT)
  | _ => exact absurd (show false = true from hs) Bool.false_ne_true
 | byt i =>
  obtain ⟨t, rfl⟩ := rx
  cases y with
  | byt j => obtain ⟨t', rfl⟩ := ry; exact PySem.W.eq_bytes (bg I q rs)
  | _ => exact absurd (show false = true from hs) Bool.false_ne_true
 | _ => cases y <;> exact absurd (show false = true from hs) Bool.false_ne_true
theorem dH : eG X (compareOp .NotEq) rNe := by
 intro pins s σ H x y v u Q I rx ry h
 obtain ⟨hs, q⟩ := h
 cases x with
 | non =>
  cases rx
  cases y with
  | non => cases ry; exact PySem.EqNone.ne_none_none (bg I q (by simp))
  | bl j => cases ry; exact PySem.EqNone.ne_none_bool (bg I q (by simp))
  | int j => obtain ⟨t', rfl⟩ := ry; exact PySem.EqNone.ne_none_int (bg I q (by simp))
  | str j => obtain ⟨t', rfl⟩ := ry; exact PySem.EqNone.ne_none_str (bg I q (by simp))
  | _ => exact absurd (show false = true from hs) Bool.false_ne_true
 | bl i =>
  cases rx
  cases y with
  | non => cases ry; exact PySem.EqNone.ne_bool_none (bg I q (by simp))
  | bl j => cases ry; exact ne_bool (bg I q (congrArg not vn))
  | str j => obtain ⟨t', rfl⟩ := ry; exact PySem.EqMixed.ne_bool_str (bg I q (by simp))
  | _ => exact absurd (show false = true from hs) Bool.false_ne_true
 | int i =>
  obtain ⟨t, rfl⟩ := rx
  cases y with
  | non => cases ry; exact PySem.EqNone.ne_int_none (bg I q (by simp))
  | int j => obtain ⟨t', rfl⟩ := ry; exact ne_int (bg I q (congrArg not rQ))
  | str j => obtain ⟨t', rfl⟩ := ry; exact PySem.EqMixed.ne_int_str (bg I q (by simp))
  | _ => exact absurd (show false = true from hs) Bool.false_ne_true
 | str i =>
  obtain ⟨t, rfl⟩ := rx
  cases y with
  | non => cases ry; exact PySem.EqNone.ne_str_none (bg I q (by simp))
  | bl j => cases ry; exact PySem.EqMixed.ne_str_bool (bg I q (by simp))
  | int j => obtain ⟨t', rfl⟩ := ry; exact PySem.EqMixed.ne_str_int (bg I q (by simp))
  | str j => obtain ⟨t', rfl⟩ := ry; exact ne_str (bg I q (congrArg not rT))
  | _ => exact absurd (show false = true from hs) Bool.false_ne_true
 | byt i =>
  obtain ⟨t, rfl⟩ := rx
  cases y with
  | byt j => obtain ⟨t', rfl⟩ := ry; exact PySem.W.ne_bytes (bg I q (congrArg not rs))
  | _ => exact absurd (show false = true from hs) Bool.false_ne_true
 | _ => cases y <;> exact absurd (show false = true from hs) Bool.false_ne_true
theorem vA : eG X (compareOp .Lt) (va fun i j => .bl (decide (i < j))) := we fun _ _ _ _ _ _ _ q => lt_int q
theorem bJ : eG X (compareOp .LtE) (va fun i j => .bl (decide (i <= j))) := we fun _ _ _ _ _ _ _ q => le_int q
theorem rL : eG X (compareOp .Gt) (va fun i j => .bl (decide (j < i))) := we fun _ _ _ _ _ _ _ q => gt_int q
theorem rh : eG X (compareOp .GtE) (va fun i j => .bl (decide (j <= i))) := we fun _ _ _ _ _ _ _ q => ge_int q
theorem sy : eG X (compareOp .In) (fun x y H Q => ∃ i j, x = .str i /\ y = .str j /\ Q (.bl (!(Builtin.Str.occurrences j i 0 j.length 1).isEmpty)) H) := by
 intro pins s σ H x y v u Q I rx ry h
 obtain ⟨i, j, rfl, rfl, q⟩ := h
 obtain ⟨t, rfl⟩ := rx
 obtain ⟨t', rfl⟩ := ry
 exact in_str (bg I q rfl)
theorem zG : eG X (compareOp .Is) (fun x y H Q => y = .non /\ Q (.bl (decide (x = .non))) H) := by
 intro pins s σ H x y v u Q I rx ry h
 obtain ⟨rfl, q⟩ := h
 cases ry
 refine is_none_gen (bg I q ?_)
 cases x <;> first
  | (cases rx; rfl)
  | (obtain ⟨t, rfl⟩ := rx; rfl)
theorem wx : eG X (compareOp .IsNot) (fun x y H Q => y = .non /\ Q (.bl (!decide (x = .non))) H) := by
 intro pins s σ H x y v u Q I rx ry h
 obtain ⟨rfl, q⟩ := h
 cases ry
 refine isnot_none_gen (bg I q ?_)
 cases x <;> first
  | (cases rx; rfl)
  | (obtain ⟨t, rfl⟩ := rx; rfl)
theorem ay (b : Expr) {op : CmpOp} (h : op ≠ .In := by decide) (h2 : op ≠ .NotIn := by decide) : behindInMarks op b = false := by
 have e1 : (op == CmpOp.In) = false := by cases op <;> first | rfl | exact absurd rfl h
 have e2 : (op == CmpOp.NotIn) = false := by cases op <;> first | rfl | exact absurd rfl h2
 cases b <;> simp [behindInMarks, e1, e2]
variable {op : CmpOp}
theorem aK {r : R2} (ho : eG X (compareOp op) r) (ha : PE X a ta) (hb : PE X b tb) (hm : behindInMarks op b = false) : PE X (.Compare a [op] [b] pos) (AI r ta tb) := by
 intro pins s σ H Q I h
 exact wpAny_Compare1 (yE ha hb I h fun v u s2 x y H2 I2 rx ry q => ho pins s2 σ H2 x y v u Q I2 rx ry q) hm
noncomputable def rg (t : TE) : TT := fun σ H Q => t σ H fun x H' => ∃ k, x = .bl k /\ Q k H'
theorem ao {r : R2} (ho : eG X (compareOp op) r) (ha : PE X a ta) (hb : PE X b tb) (hm : behindInMarks op b = false) : PT X (.Compare a [op] [b] pos) (rg (AI r ta tb)) := by
 intro pins s σ H Q I h
 refine wpAny_isTrue_Compare1 (bQ (ha pins s σ H _ I h) fun v s1 ⟨x, H1, I1, r1, q1⟩ => bQ (hb pins s1 σ H1 _ I1 q1) fun u s2 ⟨y, H2, I2, r2, q2⟩ =>
  bQ (ho pins s2 σ H2 x y v u _ I2 r1 r2 q2) fun c s3 ⟨z, H3, I3, r3, k, e, q3⟩ => ?_) hm
 subst e
 cases r3
 exact wpAny_truthy_bool ⟨H3, I3, q3⟩
noncomputable def pH (r r' : R2) (ta tb tc : TE) : TE := fun σ H Q => ta σ H fun x H1 => tb σ H1 fun y H2 => r x y H2 fun z H3 => ∃ k, z = .bl k /\
 (if k = true then tc σ H3 fun w' H4 => r' y w' H4 Q else Q (.bl false) H3)
theorem vd {op' : CmpOp} {r r' : R2} (ho : eG X (compareOp op) r) (ho' : eG X (compareOp op') r') (ha : PE X a ta) (hb : PE X b tb) (hc : PE X c tc)
  (hm : lastMarks [op, op'] [b, c] = false := by with_unfolding_all rfl) : PE X (.Compare a [op, op'] [b, c] pos) (pH r r' ta tb tc) := by
 intro pins s σ H Q I h
 refine Compare_chain (bQ (ha pins s σ H _ I h) fun v s1 ⟨x, H1, I1, r1, q1⟩ => chain_link (bQ (hb pins s1 σ H1 _ I1 q1) fun u s2 ⟨y, H2, I2, r2, q2⟩ =>
  bQ (ho pins s2 σ H2 x y v u _ I2 r1 r2 q2) fun d s3 ⟨z, H3, I3, r3, k, e, q3⟩ => ?_)) hm
 subst e
 cases r3
 refine wpAny_truthy_bool ?_
 cases k with
 | false => exact ite_ff ⟨.bl false, H3, I3, rfl, q3⟩
 | true => exact ite_tt (chain_last (bQ (hc pins s3 σ H3 _ I3 q3) fun w' s4 ⟨z', H4, I4, r4, q4⟩ => ho' pins s4 σ H4 y z' u w' Q I4 r2 r4 q4))
theorem cn {op' : CmpOp} {r r' : R2} (ho : eG X (compareOp op) r) (ho' : eG X (compareOp op') r') (ha : PE X a ta) (hb : PE X b tb) (hc : PE X c tc)
  (hm : lastMarks [op, op'] [b, c] = false := by with_unfolding_all rfl) : PT X (.Compare a [op, op'] [b, c] pos) (rg (pH r r' ta tb tc)) := by
 intro pins s σ H Q I h
 refine isTrue_chain (bQ (ha pins s σ H _ I h) fun v s1 ⟨x, H1, I1, r1, q1⟩ => test_link (bQ (hb pins s1 σ H1 _ I1 q1) fun u s2 ⟨y, H2, I2, r2, q2⟩ =>
  bQ (ho pins s2 σ H2 x y v u _ I2 r1 r2 q2) fun d s3 ⟨z, H3, I3, r3, k, e, q3⟩ => ?_)) hm
 subst e
 cases r3
 refine wpAny_truthy_bool ?_
 cases k with
 | false =>
  obtain ⟨k', e', q'⟩ := q3
  cases e'
  exact ite_ff ⟨H3, I3, q'⟩
 | true =>
  refine ite_tt (test_last (bQ (hc pins s3 σ H3 _ I3 q3) fun w' s4 ⟨z', H4, I4, r4, q4⟩ => bQ (ho' pins s4 σ H4 y z' u w' _ I4 r2 r4 q4) fun d' s5 ⟨z2, H5, I5, r5, k2, e2, q5⟩ => ?_))
  subst e2
  cases r5
  exact wpAny_truthy_bool ⟨H5, I5, q5⟩
noncomputable def CG (K : Fg) (x : V) (H : Hp) (k : Bool) : Prop :=
 match x with
 | .non => k = false
 | .bl b => k = b
 | .int i => k = (i != 0)
 | .str y => y.length <= sizeLine /\ k = ((y.length : Int) != 0)
 | .byt y => y.size <= sizeLine /\ k = ((y.size : Int) != 0)
 | .ref p => (∃ xs, cg K H p xs /\ k = !xs.isEmpty) ∨ (∃ xs, ci K H p xs /\ k = !xs.isEmpty) ∨ ∃ kvs, H p = some (.dK kvs) /\ k = !kvs.isEmpty
 | _ => False
theorem qo {κ : Type} {kvs : List (κ × V)} {vs : List (κ × Value)} (r : KV kvs vs) : (!vs.isEmpty) = !kvs.isEmpty := by
 cases r <;> rfl
theorem kC {xs : List V} {its : List Value} (r : bd xs its) : (!its.toArray.isEmpty) = !xs.isEmpty := by
 cases r <;> simp
theorem gO : (sizeLine : Nat) < 2 ^ 63 := by rw [sizeLine_eq]; decide
theorem zP : Eg X (fun x H Q => ∃ k, CG X.K x H k /\ Q k H) := by
 intro pins s σ H x v Q I rx h
 obtain ⟨k, e, q⟩ := h
 have hl := gO
 have hs : sizeLine = 16777216 := sizeLine_eq
 cases x with
 | non =>
  cases rx
  have e' : k = false := e
  subst e'
  exact truthy_none ⟨H, I, q⟩
 | bl b =>
  cases rx
  have e' : k = b := e
  subst e'
  exact wpAny_truthy_bool ⟨H, I, q⟩
 | int i =>
  obtain ⟨t, rfl⟩ := rx
  have e' : k = (i != 0) := e
  subst e'
  exact PySem.P.truthy_int ⟨H, I, q⟩
 | str y =>
  obtain ⟨t, rfl⟩ := rx
  obtain ⟨hy, e'⟩ : y.length <= sizeLine /\ k = ((y.length : Int) != 0) := e
  subst e'
  exact PySem.P.truthy_str (by omega) ⟨H, I.tok _, q⟩
 | byt y =>
  obtain ⟨t, rfl⟩ := rx
  obtain ⟨hy, e'⟩ : y.size <= sizeLine /\ k = ((y.size : Int) != 0) := e
  subst e'
  exact PySem.W.truthy_bytes (by omega) ⟨H, I.tok _, q⟩
 | ref p =>
  cases rx
  have e' : (∃ xs, cg X.K H p xs /\ k = !xs.isEmpty) ∨ (∃ xs, ci X.K H p xs /\ k = !xs.isEmpty) ∨ ∃ kvs, H p = some (.dK kvs) /\ k = !kvs.isEmpty := e
  rcases e' with ⟨xs, hx, e'⟩ | ⟨xs, hx, e'⟩ | ⟨kvs, hx, e'⟩
  ·subst e'
   obtain ⟨its, r, pl, hz⟩ := I.list hx
   have hlen := r.length
   exact wpAny_truthy_list pl.isList (by simp only [List.size_toArray]; omega) ⟨H, I.tok _, by rw [kC r]; exact q⟩
  ·subst e'
   obtain ⟨its, r, pl, hz⟩ := I.tuple hx
   have hlen := r.length
   exact truthy_tuple pl (by simp only [List.size_toArray]; omega) ⟨H, I.tok _, by rw [kC r]; exact q⟩
  ·subst e'
   obtain ⟨hz, hS, vs, r, m⟩ : kvs.length <= sizeLine /\ (p == sysModules) = false /\ ∃ vs, KV kvs vs /\ s.heap.DictOf (ia X.prog X.w) p vs := I.hok p _ hx
   have hlen : kvs.length = vs.length := Paired.length r
   exact wpAny_truthy_dict hS m (by omega) ⟨H, I.tok _, by rw [qo r]; exact q⟩
 | _ => exact (show False from e).elim
theorem vN (ha : PE X a ta) (he : ∀ whole, isTrue a X.env whole = (do let v <- whole; standAt a.pos; holding [v] (truthy v))) :
  PT X a (fun σ H Q => ta σ H fun x H' => ∃ k, CG X.K x H' k /\ Q k H') := by
 intro pins s σ H Q I h
 exact isTrue_plain (bQ (ha pins s σ H _ I h) fun v s1 ⟨x, H1, I1, r1, q1⟩ => zP pins s1 σ H1 x v Q I1 r1 q1) (he _)
theorem pW : eG X (binaryOp .Add) (fun x y H Q => ∃ i j, x = .str i /\ y = .str j /\ i.length + j.length <= sizeLine /\ Q (.str (i ++ j)) H) := by
 intro pins s σ H x y v u Q I rx ry h
 obtain ⟨i, j, rfl, rfl, hz, q⟩ := h
 obtain ⟨t, rfl⟩ := rx
 obtain ⟨t', rfl⟩ := ry
 exact add_str (fun t' tk => ⟨.str (i ++ j), H, I.tok _, ⟨_, rfl⟩, q⟩) hz
theorem jV {x : V} {us : List Value} (r : bd [x] us) : ∃ u, us = [u] /\ bu x u := by
 cases r with
 | cons r1 r2 => cases r2; exact ⟨_, rfl, r1⟩
theorem nL {x y : V} {us : List Value} (r : bd [x, y] us) : ∃ u w', us = [u, w'] /\ bu x u /\ bu y w' := by
 cases r with
 | cons r1 r2 =>
  cases r2 with
  | cons r3 r4 => cases r4; exact ⟨_, _, rfl, r1, r3⟩
theorem eZ : bY X (.builtin "abs") (fun xs H Q => ∃ i, xs = [.int i] /\ Q (.int (if i < 0 then -i else i)) H) := by
 intro pins s σ H xs us Q I r h
 obtain ⟨i, rfl, q⟩ := h
 obtain ⟨u, rfl, t, rfl⟩ := jV r
 exact call_abs_int fun u tk => ⟨.int (if i < 0 then -i else i), H, I.tok _, ⟨_, rfl⟩, q⟩
theorem sO (hc : X.calm = true) : bY X (.builtin "max") (fun xs H Q => ∃ i j, xs = [.int i, .int j] /\ Q (.int (if j > i then j else i)) H) := by
 intro pins s σ H xs us Q I r h
 obtain ⟨i, j, rfl, q⟩ := h
 obtain ⟨u, w', rfl, ⟨t, rfl⟩, ⟨t', rfl⟩⟩ := nL r
 refine max_two_ints (I.ok.hd hc) fun h' tk k => ⟨_, H, I.kept k, ?_, q⟩
 by_cases hj : j > i
 ·rw [if_pos hj, if_pos hj]; exact ⟨_, rfl⟩
 ·rw [if_neg hj, if_neg hj]; exact ⟨_, rfl⟩
theorem sE (hc : X.calm = true) : bY X (.builtin "min") (fun xs H Q => ∃ i j, xs = [.int i, .int j] /\ Q (.int (if j < i then j else i)) H) := by
 intro pins s σ H xs us Q I r h
 obtain ⟨i, j, rfl, q⟩ := h
 obtain ⟨u, w', rfl, ⟨t, rfl⟩, ⟨t', rfl⟩⟩ := nL r
 refine min_two_ints (I.ok.hd hc) fun h' tk k => ⟨_, H, I.kept k, ?_, q⟩
 by_cases hj : j < i
 ·rw [if_pos hj, if_pos hj]; exact ⟨_, rfl⟩
 ·rw [if_neg hj, if_neg hj]; exact ⟨_, rfl⟩
theorem gn : bY X (.type "int") (fun xs H Q => (∃ i, xs = [.int i] /\ Q (.int i) H) ∨ ∃ k, xs = [.bl k] /\ Q (.int (if k then 1 else 0)) H) := by
 intro pins s σ H xs us Q I r h
 rcases h with ⟨i, rfl, q⟩ | ⟨k, rfl, q⟩
 ·obtain ⟨u, rfl, t, rfl⟩ := jV r
  exact call_int_int ⟨.int i, H, I, ⟨_, rfl⟩, q⟩
 ·obtain ⟨u, rfl, r1⟩ := jV r
  cases r1
  exact call_int_bool ⟨.int (if k then 1 else 0), H, I.tok _, ⟨_, rfl⟩, q⟩
end
end L2
namespace L2
open PySem PySem.Spec PyProof.Rows
theorem tE {h : Heap} {dx : Addr} {mA : Str -> Option Value} (n : h.Ns1 dx mA) : ∃ od, h.get? dx = some od /\ ∀ name, PySem.W.lookIn name od = some (mA name) := by
 obtain ⟨o, es, ep, ho, hd, hk, _, hm⟩ := n
 refine ⟨o, ho, fun name => ?_⟩
 have e := hm name
 unfold nsFind findBy at e
 rw [<- Array.find?_toList] at e
 unfold PySem.W.lookIn
 rw [hd]
 dsimp only
 split
 ·rename_i y q
  rw [q] at e
  exact congrArg some e
 ·rename_i q
  rw [q] at e
  have a : es.toList.any (·.refKey) = false := by
   rw [List.any_eq_false]
   intro y hy
   obtain ⟨z, t, hkey⟩ := hk y (Array.mem_toList_iff.mp hy)
   simp [DictEntry.refKey, hkey]
  have a' : ¬ es.toList.any (·.refKey) = true := by rw [a]; exact Bool.false_ne_true
  rw [if_neg a']
  exact congrArg some e
section
variable {prog : Program} {w : World} {A : Around} {E : Value -> Shared -> Prop} {s : Shared} {K : Fg} {x dx C f : Addr} {mA : Str -> Option Value} {name : Str} {v : Value}
end
theorem vE.some_of {v : V} {o : Option Value} (r : vE (some v) o) : ∃ u, o = some u /\ bu v u := by
 cases o with
 | none => exact (show False from r).elim
 | some u => exact ⟨u, rfl, r⟩
theorem se {v : V} {u : Value} (r : bu v u) : PySem.W.handedIn u = true := by
 cases v with
 | non => cases (show u = Value.none from r); rfl
 | bl b => cases (show u = Value.bool b from r); rfl
 | int i => obtain ⟨t, e⟩ := (show ∃ t, u = Value.int i t from r); cases e; rfl
 | str x => obtain ⟨t, e⟩ := (show ∃ t, u = Value.str x t from r); cases e; rfl
 | byt b => obtain ⟨t, e⟩ := (show ∃ t, u = Value.bytes b t from r); cases e; rfl
 | flt b => obtain ⟨t, e⟩ := (show ∃ t, u = Value.float b t from r); cases e; rfl
 | ref a => cases (show u = Value.ref a from r); rfl
 | ty n => cases (show u = Value.type n from r); rfl
section
variable {P : Program} {w : World} {H H' : Hp} {h h' : Heap} {a C dx : Addr} {fs fs' : List (Str × V)}
end
noncomputable def vP (K : Fg) (C : Addr) (f : Str) : Prop := PySem.W.findIn K (.ref C) f = some none
section
variable {X : Cx} {pins : Pn} {σ : St} {H : Hp} {s : Shared} {a C dx : Addr} {fs : List (Str × V)} {f : Str} {v : V} {A : Around} {E : Value -> Shared -> Prop}
theorem wF {prog : Program} {w : World} {env : Env} {e : Expr} {f : Str} {pos : Pos} {s : Shared} {Q : Value -> Shared -> Prop} (hb : attributeBase e f env (eval e env) = eval e env)
  (h : wpAny (model prog w) A (eval e env) (fun o s₁ => wpAny (model prog w) A (getAttr o f true) Q E s₁) E s) : wpAny (model prog w) A (eval (.Attribute e f pos) env) Q E s :=
 Attribute_any_ h (by rw [arm_eval_Attribute, hb])
end
section
variable {X : Cx} {o e value : Expr} {f : Str} {pos pos' tpos : Pos} {ta tv : TE}
end
section
variable {X : Cx} {pins : Pn} {σ : St} {H : Hp} {s : Shared} {A : Around} {E : Value -> Shared -> Prop} {Q : Value -> Shared -> Prop} {c : Value} {b : Bool}
end
end L2
namespace L2
open PySem PySem.Spec PyProof.Rows
structure cU (k : Nat) (A : Around) : Prop where
 hd : A.handled = none
 dp : A.depth + 3 * k + 5 < recursionLimit
 un : A.units + 16 * k + 200 < cLine
variable {k : Nat} {A : Around}
theorem cU.mono {j : Nat} (r : cU k A) (h : j <= k) : cU j A := ⟨r.hd, by have := r.dp; omega, by have := r.un; omega⟩
theorem cU.deeper (r : cU (k + 1) A) (env : Env) : cU k (A.deeper env) :=
 ⟨r.hd, by have := r.dp; show A.depth + 1 + 3 * k + 5 < _; omega, by have := r.un; show A.units + 3 + 16 * k + 200 < _; omega⟩
variable {us : List Value}
theorem qu {C : Addr} {kw : List (Str × Value)} : (A.under (.builtin "type.__call__" ⟨.ref C :: us, kw⟩)).depth = A.depth + 1 := by
 first | rfl | simp [Around.under, Code.weight, Code.isCreation, Code.isGuard, Code.isCaller, Code.frames, Code.isFrame, guardIds]
theorem qp {C : Addr} {kw : List (Str × Value)} : (A.under (.builtin "type.__call__" ⟨.ref C :: us, kw⟩)).units = A.units + 1 := by
 first | rfl | simp [Around.under, Code.cUnits, Code.frames, Code.isFrame]
theorem cU.make (r : cU (k + 1) A) (C : Addr) (us : List Value) (kw : List (Str × Value)) : cU k (A.under (.builtin "type.__call__" ⟨.ref C :: us, kw⟩)) :=
 ⟨r.hd, by have := r.dp; rw [qu]; omega, by have := r.un; rw [qp]; omega⟩
theorem cU.depth (r : cU k A) : A.depth < recursionLimit := by have := r.dp; omega
theorem cU.units0 (r : cU k A) : A.units < cLine := by have := r.un; omega
noncomputable def tNil : TA := fun _ H Q => Q [] H
noncomputable def cH (ta : TE) (tr : TA) : TA := fun σ H Q => ta σ H fun x H1 => tr σ H1 fun xs H2 => Q (x :: xs) H2
section
variable {X : Cx} {e : Expr} {es : List Expr} {te : TE} {t : TA} {pos : Pos}
theorem aq : PA X [] tNil := fun _ _ _ _ H Q I h => Calls.spliced_nil ⟨[], H, I, .nil, h⟩
theorem ac (ha : PE X e te) (hr : PA X es t) (hs : starEach (e :: es) X.env = (false, eval e X.env) :: starEach es X.env := by rfl) : PA X (e :: es) (cH te t) := by
 intro pos pins s σ H Q I h
 rw [hs]
 show wpAny _ _ (spliced ((false, eval e X.env) :: backTo pos (starEach es X.env))) _ _ s
 refine Calls.spliced_cons (bQ (ha pins s σ H _ I h) fun u s1 ⟨x, H1, I1, r1, q1⟩ => ?_)
 exact bQ (hr pos pins s1 σ H1 _ I1 q1) fun us s2 ⟨xs, H2, I2, r2, q2⟩ => ⟨x :: xs, H2, I2, .cons r1 r2, q2⟩
noncomputable def zr (t : TA) : TE := fun σ H Q => t σ H fun xs H1 => xs.length <= sizeLine /\ ∀ p, H1 p = none -> Q (.ref p) (upd H1 p (.tup xs))
noncomputable def zd (t : TA) : TE := fun σ H Q => t σ H fun xs H1 => xs.length <= sizeLine /\ ∀ p, H1 p = none -> Q (.ref p) (upd H1 p (.lst xs))
theorem ag {x1} (h : PA X es t) : PE X (.Tuple es x1 pos) (zr t) := by
 intro pins s σ H Q I hq
 refine wpAny_Tuple_spliced (bQ (h pos pins s σ H _ I hq) fun us s1 ⟨xs, H1, I1, r, z, q⟩ => ⟨by rw [<- r.length]; exact z, ?_⟩)
 have hf : H1 s1.heap.objs.size = none := I1.hok.fresh (Nat.le_refl _)
 refine ⟨.ref s1.heap.objs.size, upd H1 s1.heap.objs.size (.tup xs), I1.laid (t' := s1.toks) (fun b u e => Heap.get?_push_of_some _ e) (Nat.le_refl _) ?_, rfl, q _ hf⟩
 exact ⟨z, us, r, ⟨_, Heap.get?_push_size _ rfl, rfl, _, rfl⟩⟩
theorem aD (h : PA X es t) : PE X (.List es pos) (zd t) := by
 intro pins s σ H Q I hq
 refine wpAny_List_spliced (bQ (h pos pins s σ H _ I hq) fun us s1 ⟨xs, H1, I1, r, z, q⟩ => ⟨by rw [<- r.length]; exact z, ?_⟩)
 have hf : H1 s1.heap.objs.size = none := I1.hok.fresh (Nat.le_refl _)
 refine ⟨.ref s1.heap.objs.size, upd H1 s1.heap.objs.size (.lst xs), I1.laid (t' := s1.toks) (fun b u e => Heap.get?_push_of_some _ e) (Nat.le_refl _) ?_, rfl, q _ hf⟩
 exact ⟨z, us, 0, r, Heap.get?_push_size _ rfl⟩
end
noncomputable abbrev Sp := List V -> Hp -> VK -> XK -> Prop
noncomputable abbrev CXT := List Env -> Hp -> Shared -> XK -> Value -> Shared -> Prop
structure qA (P : Program) (w : World) (K : Fg) (mg : Str -> Option Value) (base : Heap) (A : Around) (outer : List Env) (s : Shared) (H : Hp) : Prop where
 frames : A.frames = some outer
 mod : Mod K mg base
 bs : ∀ b o, base.get? b = some o -> s.heap.get? b = some o /\ H b = none
 bsz : base.objs.size <= s.heap.objs.size
 funs : s.heap.FunFrames base outer
 frf : ∀ b ∈ dW outer, H b = none
 hok : iX P w H s.heap
 bare : AllBare s.gens
noncomputable def CE (outer : List Env) (P : Program) (w : World) (H : Hp) (s : Shared) (Q : VK) (u : Value) (s' : Shared) : Prop :=
 ∃ v H', s'.os = s.os /\ AllBare s'.gens /\ Un (dW outer) [] H H' s.heap s'.heap /\ iX P w H' s'.heap /\ bu v u /\ Q v H'
noncomputable def CR (CX : CXT) (outer : List Env) (P : Program) (w : World) (H : Hp) (s : Shared) (Q : VK) (E : XK) (r : Result) (s' : Shared) : Prop :=
 match r with
 | .ok (.ret u) => CE outer P w H s Q u s'
 | .ok _ => False
 | .error e => CX outer H s E e s'
structure dR (P : Program) (w : World) (K : Fg) (mg : Str -> Option Value) (base : Heap) (CX : CXT) (k : Nat) (f : Addr) (fd : FuncData) (ps : List Str) (sp : Sp) : Prop where
 len : ∀ vs H Q E, sp vs H Q E -> vs.length = ps.length
 run : ∀ (A : Around) (outer : List Env) (s : Shared) (H : Hp) (args : Args) (us : List Value) (vs : List V) (Q : VK) (E : XK), cU k A -> qA P w K mg base A outer s H -> BindsTo s fd args (ps.zip us) -> bd vs us -> sp vs H Q E ->
  codeAny (model P w) A (.call (.ref f) args) (CR CX outer P w H s Q E) s
variable {P : Program} {w : World} {K : Fg} {mg : Str -> Option Value} {base : Heap} {CX : CXT} {f : Addr} {ps : List Str}
theorem dR.imp {fd : FuncData} {sp sp' : Sp} (F : dR P w K mg base CX k f fd ps sp)
  (h : ∀ vs H Q E, sp' vs H Q E -> sp vs H Q E) : dR P w K mg base CX k f fd ps sp' :=
 ⟨fun vs H Q E q => F.len vs H Q E (h _ _ _ _ q), fun A outer s H args us vs Q E hr he hb hv hs => F.run A outer s H args us vs Q E hr he hb hv (h _ _ _ _ hs)⟩
theorem qA.make {outer : List Env} {s : Shared} {H : Hp} (e : qA P w K mg base A outer s H) (C : Addr) (us : List Value) (kw : List (Str × Value)) :
  qA P w K mg base (A.under (.builtin "type.__call__" ⟨.ref C :: us, kw⟩)) outer s H := ⟨by first | exact e.frames | (simpa [Around.under, Code.envs, Code.isFrame, pushEnvs] using e.frames), e.mod, e.bs, e.bsz, e.funs, e.frf, e.hok, e.bare⟩
section
variable {X : Cx} {pins : Pn} {σ : St} {H : Hp} {s s' : Shared}
theorem aJ.env0 (I : aJ X pins σ H s) : qA X.prog X.w X.K X.mg X.base X.A X.stack s H :=
 ⟨I.ok.frames, I.ok.mod, I.bs, Nat.le_trans I.ok.bsz I.sz, I.stack, I.stkFree, I.hok, I.bare⟩
theorem aJ.after {Q : VK} {u : Value} (I : aJ X pins σ H s) (h : CE X.stack X.prog X.w H s Q u s') : EP X pins σ Q u s' := by
 obtain ⟨v, H', os, bare, un, hok, r, q⟩ := h
 obtain ⟨hh, g, d, t, os'⟩ := s'
 obtain rfl : os' = s.os := os
 exact ⟨v, H', I.call (h' := hh) (g' := g) (d' := d) (t' := t) (ch := []) un hok bare (fun b z => absurd z (by simp)), r, q⟩
end
noncomputable def kb (sp : Sp) (dvs : List V) (E : XK) (t : TA) : TE := fun σ H Q => t σ H fun vs H1 => sp (vs ++ dvs) H1 Q E
noncomputable def fV (K : Fg) (fd : FuncData) (ps : List Str) (ds : List Value) : Prop :=
 ∀ (s : Shared) (us : List Value), K.In s.heap -> (us ++ ds).length = ps.length -> BindsTo s fd ⟨us, []⟩ (ps.zip (us ++ ds))
theorem fV.all {fd : FuncData} (h : ∀ us : List Value, us.length = ps.length -> bindArgs fd ⟨us, []⟩ = pure (ps.zip us)) : fV K fd ps [] := fun s us _ hl => by
 rw [List.append_nil] at hl ⊢
 exact .of_eq (h us hl)
noncomputable def pk (CX : CXT) (X : Cx) (E : XK) : Prop := ∀ (pins : Pn) (σ : St) (H : Hp) (s : Shared) (e : Value) (s' : Shared), aJ X pins σ H s -> CX X.stack H s E e s' -> X.xe e s'
section
variable {X : Cx} {CX : CXT} {k : Nat} {f C : Addr} {fd : FuncData} {ps : List Str} {sp : Sp} {dvs : List V} {ds : List Value} {E : XK} {x m : Str} {p pos apos : Pos} {e o : Expr} {es : List Expr} {ta : TE} {t : TA}
theorem Av {pins : Pn} {σ : St} {H : Hp} {s : Shared} {Q : VK} {us : List Value} {vs : List V} (F : dR X.prog X.w X.K X.mg X.base CX k f fd ps sp) (hr : cU k X.A) (hb : fV X.K fd ps ds) (hd : bd dvs ds) (hx : pk CX X E)
  (I : aJ X pins σ H s) (r : bd vs us) (h : sp (vs ++ dvs) H Q E) : wpAny (model X.prog X.w) X.A (call (.ref f) us) (EP X pins σ Q) X.xe s := by
 have r2 : bd (vs ++ dvs) (us ++ ds) := r.append hd
 have hl : (us ++ ds).length = ps.length := by rw [<- r2.length]; exact F.len _ _ _ _ h
 refine wpAny_call (codeAny_mono (F.run X.A X.stack s H ⟨us, []⟩ (us ++ ds) (vs ++ dvs) Q E hr I.env0 (hb s us I.kIn hl) r2 h) fun r s' hq => ?_)
 cases r with
 | error e => exact hx pins σ H s e s' I hq
 | ok fl =>
  cases fl with
  | ret u => exact I.after hq
  | next => exact False.elim hq
  | brk => exact False.elim hq
  | cont => exact False.elim hq
theorem wH (F : dR X.prog X.w X.K X.mg X.base CX k f fd ps sp) (hr : cU k X.A) (hg : Gl X x) (hm : X.mg x = some (.ref f)) (hk : PySem.W.keepIn X.K (.ref f) = true) (hb : fV X.K fd ps ds) (hd : bd dvs ds) (hx : pk CX X E)
  (ha : PA X (e :: es) t) (hdb : (x == ("__debug__" : Str)) = false := by decide) (he : starEach (e :: es) X.env = (false, eval e X.env) :: starEach es X.env := by rfl) (hpl : (backTo pos (starEach es X.env)).any (·.1) = false := by rfl) :
  PE X (.Call (.Name x p) (e :: es) [] pos) (kb sp dvs E t) := by
 intro pins s σ H Q I h
 refine wpAny_Call_Name_kw (hZ I hg hm ?_ hdb)
 refine PySem.W.callWith_K (h₀ := X.base) I.ok.mod.kin hk (bQ (ha pos pins s σ H _ I h) fun us s1 ⟨vs, H1, I1, r, q⟩ => ⟨I1.kIn, ?_⟩) he hpl
 exact Av F hr hb hd hx I1 r q
end
section
variable {X : Cx} {CX : CXT} {k : Nat} {f C : Addr} {fd : FuncData} {ps ks : List Str} {sp : Sp} {E : XK} {x m : Str} {p pos apos kpos : Pos} {e o : Expr} {es : List Expr} {kws : List Keyword} {te ta : TE} {t tk : TA} {nm : Option Str}
variable {g : List Value -> List Value -> List Value} {gV : List V -> List V -> List V}
end
structure aB (N P : List Str) (sc : Scope) : Prop where
 kind : sc.kind = .function
 co : sc.isCoroutine = false
 gen : sc.isGenerator = false
 nd : N.Nodup
 pre : N.take P.length = P
 par : ∀ x ∈ P, sc.names.lookup x = some .local ∨ sc.names.lookup x = some .cell
 nofree : ∀ y ∈ sc.names, y.2 ≠ .free
variable {kindOf : Str -> Option NameKind} {x : Str}
theorem lO : ∀ {binds : List (Str × Value)} {m : Str -> Option Value}, (∀ v, (x, v) ∉ binds) -> bindL kindOf binds m x = m x
 | [], _, _ => rfl
 | (n, v) :: r, m, h => by
  unfold bindL
  rw [lO fun w hw => h w (List.mem_cons_of_mem _ hw)]
  split
  ·have : x ≠ n := by rintro rfl; exact h v List.mem_cons_self
   simp [this]
  ·rfl
theorem lx : ∀ {binds : List (Str × Value)} {m : Str -> Option Value}, (∀ v, (x, v) ∉ binds) -> bindC kindOf binds m x = m x
 | [], _, _ => rfl
 | (n, v) :: r, m, h => by
  unfold bindC
  rw [lx fun w hw => h w (List.mem_cons_of_mem _ hw)]
  split
  ·rfl
  ·have : x ≠ n := by rintro rfl; exact h v List.mem_cons_self
   simp [this]
theorem lM {v : Value} : ∀ {P : List Str} {vs : List Value} {i : Nat} {m : Str -> Option Value}, P.Nodup -> P[i]? = some x -> vs[i]? = some v -> kindOf x = some .local ->
  bindL kindOf (P.zip vs) m x = some v
 | [], _, _, _, _, h, _, _ => by simp at h
 | _ :: _, [], _, _, _, _, h, _ => by simp at h
 | p :: P, w :: vs, 0, m, nd, h1, h2, hk => by
  simp at h1 h2; subst h1; subst h2
  show bindL kindOf ((p, w) :: P.zip vs) m p = _
  unfold bindL
  rw [lO fun v hv => (List.nodup_cons.mp nd).1 (List.of_mem_zip hv).1, if_pos hk]
  simp
 | p :: P, w :: vs, i + 1, m, nd, h1, h2, hk => by
  show bindL kindOf ((p, w) :: P.zip vs) m x = _
  unfold bindL
  exact lM (i := i) (List.nodup_cons.mp nd).2 (by simpa using h1) (by simpa using h2) hk
theorem lN {v : Value} : ∀ {P : List Str} {vs : List Value} {i : Nat} {m : Str -> Option Value}, P.Nodup -> P[i]? = some x -> vs[i]? = some v -> kindOf x ≠ some .local ->
  bindC kindOf (P.zip vs) m x = some v
 | [], _, _, _, _, h, _, _ => by simp at h
 | _ :: _, [], _, _, _, _, h, _ => by simp at h
 | p :: P, w :: vs, 0, m, nd, h1, h2, hk => by
  simp at h1 h2; subst h1; subst h2
  show bindC kindOf ((p, w) :: P.zip vs) m p = _
  unfold bindC
  rw [lx fun v hv => (List.nodup_cons.mp nd).1 (List.of_mem_zip hv).1, if_neg hk]
  simp
 | p :: P, w :: vs, i + 1, m, nd, h1, h2, hk => by
  show bindC kindOf ((p, w) :: P.zip vs) m x = _
  unfold bindC
  exact lN (i := i) (List.nodup_cons.mp nd).2 (by simpa using h1) (by simpa using h2) hk
noncomputable def cT (N : List Str) (vs : List V) : St := vs.map some ++ List.replicate (N.length - vs.length) none
noncomputable def cI (CX : CXT) (P : Program) (w : World) (K : Fg) (mg : Str -> Option Value) (base : Heap) (N : List Str) (qual : Str) (scope : Scope) (f : Addr) (cd : Value) (A : Around) (outer : List Env) (s : Shared) (H : Hp) (E : XK) : Cx where
 prog := P
 w := w
 K := K
 mg := mg
 base := base
 A := A.deeper (envOfC qual scope s.heap.objs.size f cd)
 N := N
 s₀ := s
 H₀ := H
 env := envOfC qual scope s.heap.objs.size f cd
 outer := outer
 stack := envOfC qual scope s.heap.objs.size f cd :: outer
 ex := []
 calm := true
 fn := fun _ => true
 pn := []
 xe := fun e s' => wpAny (model P w) (A.deeper (envOfC qual scope s.heap.objs.size f cd)) (leaving (envOfC qual scope s.heap.objs.size f cd) e) (fun _ s'' => CX outer H s E e s'') (fun e' s'' => CX outer H s E e' s'') s'
theorem nX {sc : Scope} {n : Nat} (h : sc.names.lookup x = some .cell) : ∃ c, (cellsFrom n sc.names []).lookup x = some c := by
 have q := PySem.W.cellsFrom_some sc.names n [] (.inl h)
 exact Option.isSome_iff_exists.mp q
theorem sk {N : List Str} {qual : Str} {scope : Scope} {cd : Value} {outer : List Env} {s s1 : Shared} {H : Hp} {E : XK} {vs : List V}
  (S : aB N ps scope) (hd : A.handled = none) (e0 : qA P w K mg base A outer s H) (hl : vs.length = ps.length) (r : bd vs us)
  (x : InCallC s s.heap.objs.size (bindL (envOfC qual scope s.heap.objs.size f cd).kindOf (ps.zip us) fun _ => none) (cellsFrom (s.heap.objs.size + 1) scope.names []) (bindC (envOfC qual scope s.heap.objs.size f cd).kindOf (ps.zip us) fun _ => none) s1) :
  aJ (cI CX P w K mg base N qual scope f cd A outer s H E) [] (cT N vs) H s1 := by
 have hpl : ps.length <= N.length := by have := congrArg List.length S.pre; rw [List.length_take] at this; omega
 obtain ⟨h1, tk, rfl, hk⟩ := x.done
 have noA : ∀ b : Addr, b ∉ (cI CX P w K mg base N qual scope f cd A outer s H E).ex := fun b z => absurd (show b ∈ ([] : List Addr) from z) (by simp)
 refine ⟨⟨e0.mod, S.kind, rfl, rfl, Nat.le_refl _, fun y z c h1 h2 => ?_, fun y hy => ?_, fun y c _ h => ?_, fun _ => hd, Around.frames_deeper e0.frames, .inr ⟨rfl, rfl⟩, fun b z => absurd z (noA b), e0.bs, e0.bsz, fun b _ _ => noA b, fun b z => absurd z (noA b), e0.funs, e0.frf⟩,
  rfl, e0.bare, Un.kept hk, ⟨_, x.toInCall.ns, fun i y v h1 h2 h3 => ?_⟩, fun y c h => ⟨_, x.cell y c h⟩, e0.hok.fresh (Nat.le_refl _), fun y c h => ?_, fun p hp => absurd (show p ∈ ([] : Pn) from hp) (by simp), e0.hok.kept hk, ?_⟩
 ·exact name_of_addr x.apart (PySem.mem_of_lookup h1) (PySem.mem_of_lookup h2)
 ·have hy : scope.names.lookup y = some .cell ∨ scope.names.lookup y = some .free := hy
  rcases hy with hy | hy
  ·exact nX hy
  ·exact absurd rfl (S.nofree _ (PySem.mem_of_lookup hy))
 ·exact Nat.le_of_lt (x.above y c (PySem.mem_of_lookup h))
 ·have hi : i < vs.length := by
   unfold cT at h2
   by_cases hi : i < vs.length
   ·exact hi
   ·rw [List.getElem?_append_right (by simpa using hi)] at h2
    rw [List.getElem?_replicate] at h2
    split at h2 <;> cases h2
  have ha : vs[i]? = some v := by
   unfold cT at h2
   rw [List.getElem?_append_left (by simpa using hi), List.getElem?_map] at h2
   cases e : vs[i]? with
   | none => rw [e] at h2; cases h2
   | some a => rw [e] at h2; cases h2; rfl
  obtain ⟨u, hu, rv⟩ := r.get ha
  have hp : ps[i]? = some y := by
   rw [<- S.pre, List.getElem?_take_of_lt (by omega)]; exact h1
  have ndP : ps.Nodup := by rw [<- S.pre]; exact S.nd.sublist (List.take_sublist _ _)
  refine ⟨u, rv, ?_⟩
  rcases S.par y (List.mem_of_getElem? hp) with k | k
  ·exact .inl ⟨k, lM ndP hp hu k⟩
  ·obtain ⟨c, e⟩ := nX (n := s.heap.objs.size + 1) k
   refine .inr ⟨.inl k, c, e, ?_⟩
   have q := x.cell y c e
   rw [lN ndP hp hu (by show scope.names.lookup y ≠ _; rw [k]; decide)] at q
   exact q
 ·exact e0.hok.fresh (Nat.le_of_lt (x.above y c (PySem.mem_of_lookup h)))
 ·unfold cT
  show _ = N.length
  rw [List.length_append, List.length_map, List.length_replicate]
  omega
theorem xI {name qual : Str} {params : Arguments} {body : List Stmt} {scope : Scope} {dV kV doc pm cdv ct oc : Value} {an od : Option Addr}
  {osl : Array (Option Value)} {N ps : List Str} {sp : Sp} (lk : K.lookup f = some ⟨oc, od, .func (PySem.W.fnOf name qual params body scope dV kV doc pm an cdv ct), osl⟩) (hcd : PySem.W.codeIn K cdv qual = true) (S : aB N ps scope)
  (len : ∀ vs H Q E, sp vs H Q E -> vs.length = ps.length)
  (hbody : ∀ (A : Around) (outer : List Env) (s : Shared) (H : Hp) (vs : List V) (Q : VK) (E : XK), cU k (A.deeper (envOfC qual scope s.heap.objs.size f cdv)) -> sp vs H Q E ->
   ∃ t, nA (cI CX P w K mg base N qual scope f cdv A outer s H E) body t /\ t { nx := fun _ H' => Q .non H', rt := Q } (cT N vs) H) :
  dR P w K mg base CX (k + 1) f (PySem.W.fnOf name qual params body scope dV kV doc pm an cdv ct) ps sp := by
 refine ⟨len, fun A outer s H args us vs Q E hr e0 hb r hsp => ?_⟩
 have hl := len _ _ _ _ hsp
 have KX : K.In s.heap := e0.mod.kin.keeps fun b o e => (e0.bs b o e).1
 have lim : s.heap.NoLimit := e0.mod.nolimit.keeps fun b o e => (e0.bs b o e).1
 have hkind : ∀ y ∈ ps.zip us, scope.names.lookup y.1 = some .local ∨ (scope.names.lookup y.1 = some .cell /\ ((cellsFrom (s.heap.objs.size + 1) scope.names []).lookup y.1).isSome = true) := fun ⟨n, v⟩ hy => by
  rcases S.par n (List.of_mem_zip hy).1 with q | q
  ·exact .inl q
  ·exact .inr ⟨q, PySem.W.cellsFrom_some _ _ _ (.inl q)⟩
 refine codeAny_call_function hr.depth (KX _ _ lk) rfl S.co S.gen rfl (PySem.W.codeRec_of KX hcd) (hb _ _ _ _ ?_)
 refine wpAny_newFunctionEnv_cells S.kind hkind fun env he s1 x => ?_
 subst he
 refine ⟨lim.keeps x.toInCall.keep, codeAny_func ?_⟩
 obtain ⟨t, ht, hq⟩ := hbody A outer s H vs Q E (hr.deeper _) hsp
 have I : aJ (cI CX P w K mg base N qual scope f cdv A outer s H E) [] (cT N vs) H s1 := sk S hr.hd e0 hl r x
 refine wpAny_mono (ht [] s1 (cT N vs) H _ I hq) (fun fl s' hs => ?_) fun e s' hs => hs
 have fin : ∀ {σ' : St} {H' : Hp} {v : V} {u : Value}, aJ (cI CX P w K mg base N qual scope f cdv A outer s H E) [] σ' H' s' -> bu v u -> Q v H' -> CE outer P w H s Q u s' :=
  fun {σ' H' v u} J rv q => ⟨v, H', J.os, J.bare, J.base, J.hok, rv, q⟩
 cases fl with
 | ret u =>
  obtain ⟨v, σ', H', J, rv, q⟩ := hs
  exact fin J rv q
 | next =>
  obtain ⟨σ', H', J, q⟩ := hs
  exact fin (v := V.non) (u := Value.none) J rfl q
 | brk =>
  obtain ⟨_, _, _, q⟩ := hs
  exact False.elim q
 | cont =>
  obtain ⟨_, _, _, q⟩ := hs
  exact False.elim q
end L2
namespace L2
open PySem PySem.Spec PyProof.Rows
section
variable {X : Cx} {x : Str} {p pos : Pos} {e : Expr} {es : List Expr} {t : TA} {id T : String} {r : List V -> Hp -> VK -> Prop}
noncomputable def wc (r : List V -> Hp -> VK -> Prop) (t : TA) : TE := fun σ H Q => t σ H fun vs H1 => r vs H1 Q
theorem am (hc : bY X (.builtin id) r) (hg : Gl X x) (hm : X.mg x = none) (hv : bootBuiltins x = some (.builtin id)) (ha : PA X (e :: es) t) (hn : x ≠ "__name__" := by decide) (hdb : (x == ("__debug__" : Str)) = false := by decide)
  (he : starEach (e :: es) X.env = (false, eval e X.env) :: starEach es X.env := by rfl) (hpl : (backTo pos (starEach es X.env)).any (·.1) = false := by rfl) : PE X (.Call (.Name x p) (e :: es) [] pos) (wc r t) := by
 intro pins s σ H Q I h
 refine wpAny_Call_Name_kw (iO I hg hm hv ?_ hn hdb)
 exact PyProof.Rows.callWith_builtin1 (bQ (ha pos pins s σ H _ I h) fun us s1 ⟨vs, H1, I1, r1, q1⟩ => hc pins s1 σ H1 vs us Q I1 r1 q1) he hpl
theorem bB (hc : bY X (.type T) r) (hg : Gl X x) (hm : X.mg x = none) (hv : bootBuiltins x = some (.type T)) (ha : PA X (e :: es) t) (hn : x ≠ "__name__" := by decide) (hdb : (x == ("__debug__" : Str)) = false := by decide)
  (he : starEach (e :: es) X.env = (false, eval e X.env) :: starEach es X.env := by rfl) (hpl : (backTo pos (starEach es X.env)).any (·.1) = false := by rfl) : PE X (.Call (.Name x p) (e :: es) [] pos) (wc r t) := by
 intro pins s σ H Q I h
 refine wpAny_Call_Name_kw (iO I hg hm hv ?_ hn hdb)
 exact PyProof.Rows.callWith_type1 (bQ (ha pos pins s σ H _ I h) fun us s1 ⟨vs, H1, I1, r1, q1⟩ => hc pins s1 σ H1 vs us Q I1 r1 q1) he hpl
end
end L2
namespace HT
open PySem PyProof.Rows
section
open PySem.SeqAt
open PySem.AutoSeq1 (wpAny_loadPart')
open PySem.MeetsSeq PySem.MeetsSeq2 PySem.MeetsSeq3
end
section
variable {prog : Program} {w : World} {A : Around} {E : Value -> Shared -> Prop} {s : Shared}
theorem cat_tup {t b : Addr} {vs ws : List Value} {Q : Value -> Shared -> Prop} (ht : IsTup s.heap t vs.toArray) (hb : IsTup s.heap b ws.toArray) (hv : vs ≠ [])
  (h1 : ws = [] -> Q (.ref t) s) (h2 : ws ≠ [] -> Q (.ref s.heap.objs.size) { s with heap := s.heap.push { cls := .type "tuple", data := .seq (vs ++ ws).toArray } })
  (hsz : vs.length + ws.length <= sizeLine) : wpAny (model prog w) A (binaryOp .Add (.ref t) (.ref b)) Q E s := by
 obtain ⟨⟨cls, dd, data, sl⟩, ho, hc, n, hd⟩ := id ht
 obtain ⟨⟨cls2, dd2, data2, sl2⟩, ho2, hc2, n2, hd2⟩ := id hb
 simp only at hc hd hc2 hd2
 subst hc hd hc2 hd2
 have e : vs.toArray ++ ws.toArray = (vs ++ ws).toArray := by simp
 by_cases hw : ws = []
 ·exact concat_meets ⟨_, ho, rfl⟩ ⟨_, ho2, rfl⟩ noFill_tuple_add seq_tuple_add PySem.F.slot_tuple_add PySem.F.entry_tuple_add (PySem.F.args_tuple_add_2 _ _)
   (tuple_addW1 t b vs.toArray ws.toArray n n2 dd dd2 sl sl2 (by simpa using hv) (by simp [hw])) ⟨ho, ho2, h1 hw⟩
 ·refine concat_meets ⟨_, ho, rfl⟩ ⟨_, ho2, rfl⟩ noFill_tuple_add seq_tuple_add PySem.F.slot_tuple_add PySem.F.entry_tuple_add (PySem.F.args_tuple_add_2 _ _)
   (tuple_addW2 t b vs.toArray ws.toArray n n2 dd dd2 sl sl2 (by simpa using hv) (by simpa using hw) (by rw [List.size_toArray, List.size_toArray]; exact hsz)) ⟨ho, ho2, ?_⟩
  rw [e]
  exact h2 hw
noncomputable def sIx (n d : Nat) : Option Int -> Nat
 | none => d
 | some v => if v < 0 then (v + (n : Int)).toNat else min v.toNat n
theorem sIx_nat (n d k : Nat) : sIx n d (some (k : Int)) = min k n := by
 show (if (k : Int) < 0 then ((k : Int) + (n : Int)).toNat else min (k : Int).toNat n) = min k n
 rw [if_neg (by omega), Int.toNat_natCast]
theorem sIx_le (n d : Nat) (hd : d <= n) (o : Option Int) : sIx n d o <= n := by
 cases o with
 | none => exact hd
 | some v =>
  show (if v < 0 then (v + (n : Int)).toNat else min v.toNat n) <= n
  by_cases hv : v < 0
  ·rw [if_pos hv]; omega
  ·rw [if_neg hv]; exact Nat.min_le_right _ _
theorem clip_eq (v : Int) (n d : Nat) : (if v < 0 then max (v + (n : Int)) 0 else min v (n : Int)) = ((sIx n d (some v) : Nat) : Int) := by
 show (if v < 0 then max (v + (n : Int)) 0 else min v (n : Int)) = (((if v < 0 then (v + (n : Int)).toNat else min v.toNat n) : Nat) : Int)
 by_cases hv : v < 0
 ·simp only [if_pos hv]; omega
 ·simp only [if_neg hv]; omega
theorem adjust_gen (lo hi : Option Int) (n : Nat) : Builtin.Slice.sliceAdjust lo hi 1 (n : Int) = (((sIx n 0 lo : Nat) : Int), ((sIx n n hi : Nat) : Int)) := by
 have h1 : ¬ ((1 : Int) < 0) := by omega
 unfold Builtin.Slice.sliceAdjust
 simp only [h1, if_false]
 refine Prod.ext ?_ ?_
 ·cases lo with
  | none => rfl
  | some v => exact clip_eq v n 0
 ·cases hi with
  | none => rfl
  | some v => exact clip_eq v n n
theorem places_gen (i j : Nat) : Builtin.Slice.slicePlaces (i : Int) (j : Int) 1 = j - i := by
 unfold Builtin.Slice.slicePlaces
 have h1 : (1 : Int) > 0 := by omega
 simp only [h1, if_true, Int.ediv_one]
 split <;> omega
theorem slicePart_ {v : Value} {o : Option Int} {Q : Option Int -> Shared -> Prop} (p : IsPart v o) (h : Q o s) : wpAny (model prog w) A (Builtin.Slice.slicePartIndex v) Q E s := by
 cases p with
 | none => exact slicePart_none h
 | int i t => exact slicePart_int h
theorem sliceApplied_gen {sl : Addr} {vl vu : Value} {lo hi : Option Int} {n : Nat} {Q : Int × Int × Nat -> Shared -> Prop} (hs : s.heap.IsSliceOf sl vl vu .none) (pl : IsPart vl lo) (pu : IsPart vu hi)
  (h : Q (((sIx n 0 lo : Nat) : Int), 1, sIx n n hi - sIx n 0 lo) s) : wpAny (model prog w) A (Builtin.Slice.sliceApplied (.ref sl) (pure (n : Int))) Q E s := by
 obtain ⟨os, hos, hcs, hds⟩ := id hs
 unfold Builtin.Slice.sliceApplied Builtin.Slice.sliceFields
 refine wpAny_bind (wpAny_bind (wpAny_field hos hds (x := vl) rfl (wpAny_bind (wpAny_field hos hds (x := vu) rfl (wpAny_bind (wpAny_field hos hds (x := .none) rfl (wpAny_pure ?_)))))))
 refine wpAny_bind (slicePart_none ?_)
 show wpAny _ _ (if ((1 : Int) == 0) = true then _ else _) _ _ s
 rw [if_neg (by decide)]
 refine wpAny_bind (slicePart_ pl (wpAny_bind (slicePart_ pu (wpAny_bind (wpAny_pure ?_)))))
 show wpAny _ _ (match Builtin.Slice.sliceAdjust lo hi 1 (n : Int) with | (lo, hi) => pure (lo, (1 : Int), Builtin.Slice.slicePlaces lo hi 1)) _ _ s
 rw [adjust_gen lo hi n]
 show wpAny _ _ (pure (((sIx n 0 lo : Nat) : Int), (1 : Int), Builtin.Slice.slicePlaces ((sIx n 0 lo : Nat) : Int) ((sIx n n hi : Nat) : Int) 1)) _ _ s
 rw [places_gen]
 exact wpAny_pure h
theorem pick_gen (xs : Array Value) (i k : Nat) : ((List.range k).filterMap fun (m : Nat) => xs[((i : Int) + (m : Int) * 1).toNat]?).toArray = ((xs.toList.drop i).take k).toArray := by
 have e : (fun (m : Nat) => xs[((i : Int) + (m : Int) * 1).toNat]?) = fun m => xs[i + m]? := by
  funext m
  have : ((i : Int) + (m : Int) * 1).toNat = i + m := by omega
  rw [this]
 rw [e]
 have := pick_run xs i k
 rw [List.filterMap_map] at this
 have e2 : ((fun x => xs[x]?) ∘ fun x => i + x) = fun m => xs[i + m]? := rfl
 rw [e2] at this
 rw [this]
theorem getItem_tuple_cut {t sl : Addr} {items : Array Value} {vl vu : Value} {lo hi : Option Int} {Q : Value -> Shared -> Prop} (ht : IsTup s.heap t items) (hs : s.heap.IsSliceOf sl vl vu .none) (pl : IsPart vl lo) (pu : IsPart vu hi)
  (hw : ¬ (sIx items.size 0 lo = 0 /\ sIx items.size items.size hi = items.size))
  (h : Q (.ref s.heap.objs.size) { s with heap := s.heap.push { cls := .type "tuple", data := .seq ((items.toList.drop (sIx items.size 0 lo)).take (sIx items.size items.size hi - sIx items.size 0 lo)).toArray } })
  (hsz : items.size <= sizeLine) : wpAny (model prog w) A (getItem (.ref t) (.ref sl)) Q E s := by
 have htake : sizeOk (.seq ((items.toList.drop (sIx items.size 0 lo)).take (sIx items.size items.size hi - sIx items.size 0 lo)).toArray) := by
  show ((items.toList.drop (sIx items.size 0 lo)).take (sIx items.size items.size hi - sIx items.size 0 lo)).toArray.size <= sizeLine
  rw [List.size_toArray, List.length_take, List.length_drop, Array.length_toList]
  omega
 have hj : sIx items.size items.size hi <= items.size := sIx_le _ _ (Nat.le_refl _) hi
 obtain ⟨os, hos, hcs, hds⟩ := id hs
 have hTs : s.TypeIs (.ref sl) "slice" := ⟨os, hos, hcs⟩
 unfold getItem
 try with_reducible refine wpAny_holding ?_
 first | refine wpAny_bind (wpAny_pure ?_) | skip
 refine wpAny_bind (wpAny_sequenceKey ht.typeIs (by decide) ?_)
 refine wpAny_bind (wpAny_callSpecial?_slot (name := Str.ofString "__getitem__") ht.typeIs PyProof.Rows.slot_tuple_getitem
  (wpAny_call_entry PyProof.Rows.slot_tuple_getitem ht.typeIs entry_tuple_getitem ?_ (args_tuple_getitem _ _)))
 show wpAny _ _ (Builtin.Tuple.tupleItemsOf (.ref t) >>= _) _ _ s
 refine wpAny_bind (tupleItemsOf_ ht ?_)
 refine wpAny_bind (wpAny_typeOf hTs ?_)
 rw [if_pos (by decide)]
 refine wpAny_bind (sliceApplied_gen hs pl pu ?_)
 have hno : ¬ ((((sIx items.size 0 lo : Nat) : Int) == 0 && (1 : Int) == 1 && (sIx items.size items.size hi - sIx items.size 0 lo) == items.size) = true) := by
  intro q
  rw [Bool.and_eq_true, Bool.and_eq_true] at q
  have q1 : ((sIx items.size 0 lo : Nat) : Int) = 0 := eq_of_beq q.1.1
  have q2 : sIx items.size items.size hi - sIx items.size 0 lo = items.size := eq_of_beq q.2
  exact hw ⟨by omega, by omega⟩
 show wpAny _ _ (if (((sIx items.size 0 lo : Nat) : Int) == 0 && (1 : Int) == 1 && (sIx items.size items.size hi - sIx items.size 0 lo) == items.size) = true then _ else _) _ _ s
 rw [if_neg hno, pick_gen]
 first
  | exact wpAny_bind (m := Builtin.Tuple.tupleExact _) (wpAny_newObj_type (wpAny_pure ⟨_, rfl, wpAny_pure h⟩) htake)
  | exact wpAny_bind (m := Builtin.Tuple.tupleExact _) (wpAny_newObj_type (wpAny_bind (wpAny_pure (wpAny_pure ⟨_, rfl, wpAny_pure h⟩))) htake)
  | exact wpAny_bind (wpAny_bind (m := Builtin.Tuple.tupleExact _) (wpAny_newObj_type (wpAny_pure (wpAny_pure ⟨_, rfl, wpAny_pure h⟩)) htake))
  | exact wpAny_bind (wpAny_bind (m := Builtin.Tuple.tupleExact _) (wpAny_newObj_type (wpAny_pure ⟨_, rfl, wpAny_pure h⟩) htake))
end
end HT
namespace L2
open PySem PySem.Spec PyProof.Rows
noncomputable abbrev TO := St -> Hp -> (Option Int -> Hp -> Prop) -> Prop
noncomputable def PO (X : Cx) (e : Option Expr) (t : TO) : Prop :=
 ∀ (pins : Pn) (s : Shared) (σ : St) (H : Hp) (Q : Option Int -> Hp -> Prop), aJ X pins σ H s -> t σ H Q ->
  wpAny (model X.prog X.w) X.A (evalPart e X.env) (fun u s' => ∃ o H', aJ X pins σ H' s' /\ IsPart u o /\ Q o H') X.xe s
noncomputable def tNoPart : TO := fun _ H Q => Q none H
noncomputable def tV (t : TE) : TO := fun σ H Q => t σ H fun x H1 => ∃ i, x = .int i /\ Q (some i) H1
theorem kq {ns : List Int} : ∀ {us : List Value}, bd (ns.map V.int) us -> IntsAre us ns := by
 induction ns with
 | nil => intro us r; rw [List.map_nil] at r; cases r; exact .nil
 | cons n ns ih =>
  intro us r
  rw [List.map_cons] at r
  cases r with
  | cons r1 r2 =>
   obtain ⟨t, e⟩ := r1
   subst e
   exact .cons n t (ih r2)
section
variable {X : Cx} {e : Expr} {te : TE} {lo hi : Option Expr} {tl th : TO} {pos p2 : Pos}
theorem cf : PO X none tNoPart := by
 intro pins s σ H Q I h
 rw [evalPart_none]
 exact wpAny_pure ⟨none, H, I, .none, h⟩
theorem aM (h : PE X e te) : PO X (some e) (tV te) := by
 intro pins s σ H Q I hw
 rw [evalPart_some]
 refine bQ (h pins s σ H _ I hw) fun u s1 ⟨x, H1, I1, r1, q1⟩ => ?_
 obtain ⟨i, rfl, q⟩ := q1
 obtain ⟨t, rfl⟩ := r1
 exact ⟨some i, H1, I1, .int i t, q⟩
noncomputable def Dh (X : Cx) (r : V -> Option Int -> Option Int -> Hp -> VK -> Prop) : Prop :=
 ∀ (pins : Pn) (s : Shared) (σ : St) (H : Hp) (x : V) (v vl vu : Value) (lo hi : Option Int) (sl : Addr) (Q : VK), aJ X pins σ H s -> bu x v -> s.heap.IsSliceOf sl vl vu .none -> IsPart vl lo -> IsPart vu hi -> r x lo hi H Q ->
  ∃ T id, typeLookup (.type T) "__getitem__" = pure (some (.builtin id)) /\ s.TypeIs v T /\ wpAny (model X.prog X.w) X.A (getItem v (.ref sl)) (EP X pins σ Q) X.xe s
noncomputable def DG (r : V -> Option Int -> Option Int -> Hp -> VK -> Prop) (te : TE) (tl th : TO) : TE := fun σ H Q => te σ H fun x H1 => tl σ H1 fun l H2 => th σ H2 fun u H3 => r x l u H3 Q
theorem aT {r : V -> Option Int -> Option Int -> Hp -> VK -> Prop} (hr : Dh X r) (he : PE X e te) (hl : PO X lo tl) (hu : PO X hi th) : PE X (.Subscript e (.Slice lo hi none p2) pos) (DG r te tl th) := by
 intro pins s σ H Q I h
 refine Subscript_ (bQ (he pins s σ H _ I h) fun v s1 ⟨x, H1, I1, r1, q1⟩ => ?_)
 refine wpAny_Slice (bQ (hl pins s1 σ H1 _ I1 q1) fun vl s2 ⟨l, H2, I2, pl, q2⟩ => bQ (hu pins s2 σ H2 _ I2 q2) fun vu s3 ⟨u, H3, I3, pu, q3⟩ => ?_)
 rw [evalPart_none]
 refine wpAny_pure ?_
 have I4 : aJ X pins σ H3 { s3 with heap := s3.heap.push { cls := .type "slice", data := .fields #[vl, vu, .none] } } := I3.kept (t' := s3.toks) fun b ob q => Heap.get?_push_of_some _ q
 obtain ⟨T, id, hT, ht, hg⟩ := hr pins { s3 with heap := s3.heap.push { cls := .type "slice", data := .fields #[vl, vu, .none] } } σ H3 x v vl vu l u s3.heap.objs.size Q I4 r1 (Heap.IsSliceOf.new ..) pl pu q3
 show wpAny (model X.prog X.w) X.A (subscriptTail e (.Slice lo hi none p2) v (.ref s3.heap.objs.size)) (EP X pins σ Q) X.xe { s3 with heap := s3.heap.push { cls := .type "slice", data := .fields #[vl, vu, .none] } }
 exact tail_any (ops := [.ref s3.heap.objs.size, v]) ht hT hg (by with_unfolding_all rfl)
noncomputable def oW (xs : List V) (lo hi : Option Int) : List V := (xs.drop (HT.sIx xs.length 0 lo)).take (HT.sIx xs.length xs.length hi - HT.sIx xs.length 0 lo)
theorem jh (xs : List V) (lo hi : Option Int) : (oW xs lo hi).length <= xs.length := by
 unfold oW
 rw [List.length_take, List.length_drop]
 omega
noncomputable def Bf (K : Fg) : V -> Option Int -> Option Int -> Hp -> VK -> Prop := fun x lo hi H Q => ∃ a xs, x = .ref a /\ ci K H a xs /\
 ¬ (HT.sIx xs.length 0 lo = 0 /\ HT.sIx xs.length xs.length hi = xs.length) /\ ∀ p, H p = none -> Q (.ref p) (upd H p (.tup (oW xs lo hi)))
theorem gL : Dh X (Bf X.K) := by
 intro pins s σ H x v vl vu lo hi sl Q I rx hs pl pu h
 obtain ⟨a, xs, rfl, hx, hw, q⟩ := h
 cases rx
 obtain ⟨its, r, ht, hz⟩ := I.tuple hx
 have hlen : its.toArray.size = xs.length := by rw [List.size_toArray]; exact r.length.symm
 refine ⟨"tuple", _, PyProof.Rows.slot_tuple_getitem.lookup, ht.typeIs, ?_⟩
 refine HT.getItem_tuple_cut ht hs pl pu (by rw [hlen]; exact hw) ?_ (by rw [hlen]; exact hz)
 rw [hlen]
 refine ⟨.ref s.heap.objs.size, _, I.laid (t' := s.toks) (o := .tup (oW xs lo hi)) (fun b ob q => Heap.get?_push_of_some _ q) (Nat.le_refl _) ?_, rfl, q _ (I.hok.fresh (Nat.le_refl _))⟩
 exact ⟨Nat.le_trans (jh xs lo hi) hz, _, (r.drop (HT.sIx xs.length 0 lo)).take (HT.sIx xs.length xs.length hi - HT.sIx xs.length 0 lo), IsTup.new _ _⟩
noncomputable def Cg (K : Fg) : R2 := fun x y H Q => ∃ a b xs ys, x = .ref a /\ y = .ref b /\ ci K H a xs /\ ci K H b ys /\ xs ≠ [] /\ xs.length + ys.length <= sizeLine /\
 (ys = [] -> Q (.ref a) H) /\ (ys ≠ [] -> ∀ p, H p = none -> Q (.ref p) (upd H p (.tup (xs ++ ys))))
theorem bd.nil_iff {xs : List V} {us : List Value} (r : bd xs us) : us = [] ↔ xs = [] := by
 cases r with
 | nil => simp
 | cons _ _ => simp
theorem xg : eG X (binaryOp .Add) (Cg X.K) := by
 intro pins s σ H x y v u Q I rx ry h
 obtain ⟨a, b, xs, ys, rfl, rfl, ha, hb, hx, hz, q1, q2⟩ := h
 cases rx
 cases ry
 obtain ⟨its, r1, p1, _⟩ := I.tuple ha
 obtain ⟨its2, r2, p2, _⟩ := I.tuple hb
 refine HT.cat_tup p1 p2 (fun z => hx (r1.nil_iff.mp z)) (fun z => ⟨.ref a, H, I, rfl, q1 (r2.nil_iff.mp z)⟩) (fun z => ?_) (by rw [<- r1.length, <- r2.length]; exact hz)
 refine ⟨.ref s.heap.objs.size, _, I.laid (t' := s.toks) (o := .tup (xs ++ ys)) (fun b ob q => Heap.get?_push_of_some _ q) (Nat.le_refl _) ?_, rfl, q2 (fun w => z (r2.nil_iff.mpr w)) _ (I.hok.fresh (Nat.le_refl _))⟩
 exact ⟨by rw [List.length_append]; exact hz, _, r1.append r2, IsTup.new _ _⟩
end
end L2
namespace L2
open PySem PySem.Spec PyProof.Rows
noncomputable def vT (n : Nat) (i : Int) : Option Nat := if 0 <= i then (if i < n then some i.toNat else none) else if -(n : Int) <= i then some (i + n).toNat else none
noncomputable def eI {α : Type} (xs : List α) (i : Int) : Option α := (vT xs.length i).bind fun j => xs[j]?
theorem rJ {n : Nat} {i : Int} {j : Nat} (h : vT n i = some j) : seqIndex? i n = some j /\ j < n /\ -(n : Int) <= i /\ i < n := by
 unfold vT at h
 by_cases h0 : 0 <= i
 ·rw [if_pos h0] at h
  by_cases h1 : i < n
  ·rw [if_pos h1] at h
   have e : i.toNat = j := Option.some.inj h
   exact ⟨by rw [seqIndex_of h0 h1, e], by omega, by omega, h1⟩
  ·rw [if_neg h1] at h; cases h
 ·rw [if_neg h0] at h
  by_cases h1 : -(n : Int) <= i
  ·rw [if_pos h1] at h
   have e : (i + n).toNat = j := Option.some.inj h
   exact ⟨by rw [seqIndex_neg (by omega) h1, e], by omega, h1, by omega⟩
  ·rw [if_neg h1] at h; cases h
theorem mn {α : Type} {xs : List α} {i : Int} {v : α} (h : eI xs i = some v) : ∃ j, seqIndex? i xs.length = some j /\ xs[j]? = some v /\ j < xs.length /\ -(xs.length : Int) <= i /\ i < xs.length := by
 unfold eI at h
 cases e : vT xs.length i with
 | none => rw [e] at h; cases h
 | some j =>
  rw [e] at h
  obtain ⟨h1, h2, h3, h4⟩ := rJ e
  exact ⟨j, h1, h, h2, h3, h4⟩
theorem bp {α : Type} {xs : List α} {j : Nat} {v : α} (h : xs[j]? = some v) : eI xs (j : Int) = some v := by
 have hj : j < xs.length := (List.getElem?_eq_some_iff.mp h).1
 have e : vT xs.length (j : Int) = some j := by
  unfold vT
  rw [if_pos (by omega), if_pos (by omega)]; simp
 unfold eI; rw [e]; exact h
noncomputable def xx (b : Expr) : Prop := ∀ o i, subscripted b false o i = operate [o, i] (getItem o i)
noncomputable def vY (X : Cx) (r : R2) : Prop :=
 ∀ (value slice : Expr) (pins : Pn) (s : Shared) (σ : St) (H : Hp) (x y : V) (v u : Value) (Q : VK), aJ X pins σ H s -> bu x v -> bu y u -> r x y H Q ->
  subscripted slice false v u = operate [v, u] (getItem v u) -> wpAny (model X.prog X.w) X.A (subscriptTail value slice v u) (EP X pins σ Q) X.xe s
noncomputable def MtR (X : Cx) (id : String) (r : V -> List V -> Hp -> VK -> Prop) : Prop :=
 ∀ (pins : Pn) (s : Shared) (σ : St) (H : Hp) (x : V) (xs : List V) (v : Value) (us : List Value) (Q : VK), aJ X pins σ H s -> bu x v -> bd xs us -> r x xs H Q ->
  wpAny (model X.prog X.w) X.A (call (.builtin id) (v :: us)) (EP X pins σ Q) X.xe s
section
variable {X : Cx} {a b : Expr} {ta tb : TE} {pos : Pos}
theorem vY.or {r r' : R2} (h : vY X r) (h' : vY X r') : vY X (fun x y H Q => r x y H Q ∨ r' x y H Q) := by
 intro value slice pins s σ H x y v u Q I rx ry q hs
 rcases q with q | q
 ·exact h value slice pins s σ H x y v u Q I rx ry q hs
 ·exact h' value slice pins s σ H x y v u Q I rx ry q hs
theorem af {r : R2} (hr : vY X r) (ha : PE X a ta) (hb : PE X b tb) (hs : xx b) : PE X (.Subscript a b pos) (AI r ta tb) := by
 intro pins s σ H Q I h
 exact Subscript_ (yE ha hb I h fun v u s2 x y H2 I2 rx ry q => hr a b pins s2 σ H2 x y v u Q I2 rx ry q (hs _ _))
noncomputable def pg (K : Fg) : R2 := fun x y H Q => ∃ p xs i v, x = .ref p /\ y = .int i /\ cg K H p xs /\ eI xs i = some v /\ Q v H
noncomputable def iV (K : Fg) : R2 := fun x y H Q => ∃ p xs i v, x = .ref p /\ y = .int i /\ ci K H p xs /\ eI xs i = some v /\ Q v H
noncomputable def rIxS : R2 := fun x y H Q => ∃ z i c, x = .str z /\ y = .int i /\ z.length <= sizeLine /\ eI z.cps.toList i = some c /\ Q (.str ⟨#[c]⟩) H
theorem cz : vY X (pg X.K) := by
 intro value slice pins s σ H x y v u Q I rx ry h hs
 obtain ⟨p, xs, i, z, rfl, rfl, hq, he, q⟩ := h
 cases rx
 obtain ⟨t, rfl⟩ := ry
 obtain ⟨its, r, pl, hz⟩ := I.list hq
 obtain ⟨j, h1, h2, h3, h4, h5⟩ := mn he
 obtain ⟨w, ew, rw'⟩ := r.get h2
 have hl := r.length
 have hn := gO
 have fin : EP X pins σ Q w s := ⟨z, H, I, rw', q⟩
 by_cases h0 : 0 <= i
 ·have hj : i.toNat = j := by
   rw [seqIndex_of h0 h5] at h1
   exact Option.some.inj h1
  exact item_listR pl.isList h0 (by omega) (by rw [hj]; simpa using ew) fin hs
 ·have hj : (i + (its.toArray.size : Int)).toNat = j := by
   rw [seqIndex_neg (by omega) h4] at h1
   rw [List.size_toArray, <- hl]
   exact Option.some.inj h1
  exact subscriptTail_builtinR (x := w) pl.isList.typeIs slot_list_getitem.lookup
   (wpAny_getItem_list_neg (Q := fun r s' => r = w /\ EP X pins σ Q r s') pl.isList (by omega) (by rw [List.size_toArray] <;> omega) (by omega) (by rw [hj]; simpa using ew) ⟨rfl, fin⟩) hs
theorem bn : vY X (iV X.K) := by
 intro value slice pins s σ H x y v u Q I rx ry h hs
 obtain ⟨p, xs, i, z, rfl, rfl, hq, he, q⟩ := h
 cases rx
 obtain ⟨t, rfl⟩ := ry
 obtain ⟨its, r, pl, hz⟩ := I.tuple hq
 obtain ⟨j, h1, h2, h3, h4, h5⟩ := mn he
 obtain ⟨w, ew, rw'⟩ := r.get h2
 have hl := r.length
 have hn := gO
 have fin : EP X pins σ Q w s := ⟨z, H, I, rw', q⟩
 exact subscriptTail_builtinR (x := w) pl.typeIs slot_tuple_getitem.lookup
  (getItem_tuple (j := j) (Q := fun r s' => r = w /\ EP X pins σ Q r s') pl (by omega) (by omega) (by rw [List.size_toArray, <- hl]; exact h1) (by simpa using ew) ⟨rfl, fin⟩) hs
theorem pX : vY X rIxS := by
 intro value slice pins s σ H x y v u Q I rx ry h hs
 obtain ⟨z, i, c, rfl, rfl, hz, he, q⟩ := h
 obtain ⟨t, rfl⟩ := rx
 obtain ⟨t', rfl⟩ := ry
 obtain ⟨j, h1, h2, h3, h4, h5⟩ := mn he
 have hl : z.cps.toList.length = z.length := by simp [Str.length]
 rw [hl] at h1 h4 h5
 have hn := gO
 exact tail_any (typeIs_str s z t) slot_str_getitem.lookup (getItem_str (c := c) (by
  have e1 : decide (i < -(2 ^ 63 : Int)) = false := decide_eq_false (by omega)
  have e2 : decide (i >= 2 ^ 63) = false := decide_eq_false (by omega)
  rw [e1, e2, Bool.or_false]) (by rw [h1]; simpa using h2) ⟨.str ⟨#[c]⟩, H, I.tok _, ⟨_, rfl⟩, q⟩) hs
noncomputable def rIx (K : Fg) : R2 := fun x y H Q => pg K x y H Q ∨ iV K x y H Q ∨ rIxS x y H Q
theorem jP : vY X (rIx X.K) := cz.or (bn.or pX)
theorem qJ (its : List Value) (n j : Nat) (u : Value) : Obj.mapSeq (·.setIfInBounds j u) { cls := .type "list", data := .seq its.toArray n } = { cls := .type "list", data := .seq (its.set j u).toArray n } := by
 simp [Obj.mapSeq]
theorem aJ.lst {pins : Pn} {σ : St} {H : Hp} {s : Shared} {p : Addr} {xs : List V} (I : aJ X pins σ H s) (h : H p = some (.lst xs)) :
  ∃ (its : List Value) (n : Nat), bd xs its /\ s.heap.get? p = some { cls := .type "list", data := .seq its.toArray n } /\ xs.length <= sizeLine := by
 obtain ⟨z, its, n, r, e⟩ := I.hok p _ h
 exact ⟨its, n, r, e, z⟩
variable {s : Shared}
theorem aJ.lstUpd {pins : Pn} {σ : St} {H : Hp} {p : Addr} {xs ys : List V} {its its' : List Value} {n n' : Nat} {f : Obj -> Obj} (I : aJ X pins σ H s) (h : H p = some (.lst xs))
  (ho : s.heap.get? p = some { cls := .type "list", data := .seq its.toArray n }) (hf : f { cls := .type "list", data := .seq its.toArray n } = { cls := .type "list", data := .seq its'.toArray n' }) (r : bd ys its') (hz : ys.length <= sizeLine) (t : Nat) :
  aJ X pins σ (upd H p (.lst ys)) { s with heap := s.heap.update p f, toks := t } := by
 have e : (s.heap.update p f).get? p = some { cls := .type "list", data := .seq its'.toArray n' } := by
  rw [Heap.get?_update_self f ho (by rw [hf] <;> rfl), hf]
 refine I.write (x := p) (e := p) (by rw [h]; trivial) (.inl rfl) (fun b u hb q => (Heap.get?_update_other _ _ (Ne.symm hb)).trans q) ⟨_, e⟩ ?_
 exact ⟨hz, its', n', r, e⟩
noncomputable def rSetL : V -> V -> V -> Hp -> (Hp -> Prop) -> Prop := fun o i v H Q => ∃ p xs k j, o = .ref p /\ i = .int k /\ H p = some (.lst xs) /\ vT xs.length k = some j /\ Q (upd H p (.lst (xs.set j v)))
theorem vI : Ca X rSetL := by
 intro pins s σ H o i v ov iv u Q I ro ri rv h
 obtain ⟨p, xs, k, j, rfl, rfl, hp, hj, q⟩ := h
 cases ro
 obtain ⟨t, rfl⟩ := ri
 obtain ⟨its, n, r, ho, hz⟩ := I.lst hp
 obtain ⟨h1, h2, h3, h4⟩ := rJ hj
 have hl := r.length
 have hn := gO
 have I' : aJ X pins σ (upd H p (.lst (xs.set j v))) { s with heap := s.heap.update p (Obj.mapSeq (·.setIfInBounds j u)) } :=
  I.lstUpd hp ho (qJ its n j u) (r.set rv j) (by rw [List.length_set]; exact hz) s.toks
 by_cases h0 : 0 <= k
 ·have hk : k.toNat = j := by
   rw [seqIndex_of h0 h4] at h1
   exact Option.some.inj h1
  exact PySem.W.ki_setAt ho h0 (by omega) (by rw [List.size_toArray, <- hl]; exact h4) (by rw [hk]; exact ⟨_, I', q⟩)
 ·have hk : (k + (its.toArray.size : Int)).toNat = j := by
   rw [seqIndex_neg (by omega) h3] at h1
   rw [List.size_toArray, <- hl]
   exact Option.some.inj h1
  exact PySem.W.ki_setBack ho (by omega) (by rw [List.size_toArray, <- hl]; exact h3) (by omega) (by rw [hk]; exact ⟨_, I', q⟩)
theorem mH (lo hi : Option Int) (n : Nat) : (sliceBounds lo hi none n).1 = ((HT.sIx n 0 lo : Nat) : Int) /\ (sliceBounds lo hi none n).2.1 = ((HT.sIx n n hi : Nat) : Int) /\ (sliceBounds lo hi none n).2.2 = 1 := by
 refine ⟨?_, ?_, rfl⟩
 ·cases lo with
  | none => simp [sliceBounds, HT.sIx]
  | some i =>
   simp only [sliceBounds, HT.sIx, Option.getD_none, show (1 : Int) > 0 by decide, if_true]
   by_cases h : i < 0
   ·simp only [h, if_true] <;> omega
   ·simp only [h, if_false] <;> omega
 ·cases hi with
  | none => simp [sliceBounds, HT.sIx]
  | some i =>
   simp only [sliceBounds, HT.sIx, Option.getD_none, show (1 : Int) > 0 by decide, if_true]
   by_cases h : i < 0
   ·simp only [h, if_true] <;> omega
   ·simp only [h, if_false] <;> omega
theorem kK (its : List Value) (lo hi : Option Int) : slicePick its.toArray lo hi none = ((its.drop (HT.sIx its.length 0 lo)).take (HT.sIx its.length its.length hi - HT.sIx its.length 0 lo)).toArray := by
 obtain ⟨h1, h2, h3⟩ := mH lo hi its.toArray.size
 unfold slicePick
 rw [h1, h2, h3]
 simp only [sliceRange_one, pick_run, List.size_toArray] <;> rfl
noncomputable def At (K : Fg) : V -> Option Int -> Option Int -> Hp -> VK -> Prop := fun x lo hi H Q => ∃ a xs, x = .ref a /\ cg K H a xs /\ ∀ p, H p = none -> Q (.ref p) (upd H p (.lst (oW xs lo hi)))
theorem bE : Dh X (At X.K) := by
 intro pins s σ H x v vl vu lo hi sl Q I rx hs pl pu h
 obtain ⟨a, xs, rfl, hx, q⟩ := h
 cases rx
 obtain ⟨its, r, ht, hz⟩ := I.list hx
 have hlen := r.length
 refine ⟨"list", _, slot_list_getitem.lookup, ht.isList.typeIs, ?_⟩
 refine wpAny_getItem_list_slice ht.isList hs pl pu .none (by simp) ?_ (by rw [List.size_toArray] <;> omega)
 rw [kK, <- hlen]
 refine ⟨.ref s.heap.objs.size, _, I.laid (t' := s.toks) (o := .lst (oW xs lo hi)) (fun b ob q => Heap.get?_push_of_some _ q) (Nat.le_refl _) ?_, rfl, q _ (I.hok.fresh (Nat.le_refl _))⟩
 exact ⟨Nat.le_trans (jh xs lo hi) hz, _, 0, (r.drop (HT.sIx xs.length 0 lo)).take (HT.sIx xs.length xs.length hi - HT.sIx xs.length 0 lo), Heap.get?_push_size _ rfl⟩
noncomputable def eE : V -> Bool
 | .non => true
 | .bl _ => true
 | .int _ => true
 | .str _ => true
 | _ => false
noncomputable def yo : V -> V -> Bool
 | .non, .non => true
 | .bl a, .bl b => a == b
 | .bl a, .int b => (if a then 1 else 0) == b
 | .int a, .bl b => a == (if b then 1 else 0)
 | .int a, .int b => a == b
 | .str a, .str b => a == b
 | _, _ => false
variable {x : V}
theorem AB {A : Around} {y : V} {u v : Value} (ry : bu y u) (rx : bu x v) (fy : eE y = true) (fx : eE x = true) : SeqAt.EqAt A s u v (yo y x) := by
 cases y with
 | non =>
  cases ry
  cases x with
  | non => cases rx; exact SeqAt.EqAt.same _
  | bl b => cases rx; exact SeqAt.EqAt.none_bool b
  | int b => obtain ⟨t, rfl⟩ := rx; exact SeqAt.EqAt.none_int b t
  | str b => obtain ⟨t, rfl⟩ := rx; exact SeqAt.EqAt.none_str b t
  | _ => exact absurd (show false = true from fx) Bool.false_ne_true
 | bl a =>
  cases ry
  cases x with
  | non => cases rx; exact SeqAt.EqAt.bool_none a
  | bl b => cases rx; exact SeqAt.EqAt.bool_bool a b
  | int b => obtain ⟨t, rfl⟩ := rx; exact SeqAt.EqAt.bool_int a b t
  | str b => obtain ⟨t, rfl⟩ := rx; exact SeqAt.EqAt.bool_str a b t
  | _ => exact absurd (show false = true from fx) Bool.false_ne_true
 | int a =>
  obtain ⟨t', rfl⟩ := ry
  cases x with
  | non => cases rx; exact SeqAt.EqAt.int_none a t'
  | bl b => cases rx; exact SeqAt.EqAt.int_bool a t' b
  | int b => obtain ⟨t, rfl⟩ := rx; exact SeqAt.EqAt.int_int a t' b t
  | str b => obtain ⟨t, rfl⟩ := rx; exact SeqAt.EqAt.int_str a t' b t
  | _ => exact absurd (show false = true from fx) Bool.false_ne_true
 | str a =>
  obtain ⟨t', rfl⟩ := ry
  cases x with
  | non => cases rx; exact SeqAt.EqAt.str_none a t'
  | bl b => cases rx; exact SeqAt.EqAt.str_bool a t' b
  | int b => obtain ⟨t, rfl⟩ := rx; exact SeqAt.EqAt.str_int a t' b t
  | str b => obtain ⟨t, rfl⟩ := rx; exact SeqAt.EqAt.str_str a t' b t
  | _ => exact absurd (show false = true from fx) Bool.false_ne_true
 | _ => exact absurd (show false = true from fy) Bool.false_ne_true
noncomputable def nB (x : V) (u : Value) : Bool := match u with
 | .none => yo .non x
 | .bool b => yo (.bl b) x
 | .int i _ => yo (.int i) x
 | .str z _ => yo (.str z) x
 | _ => false
theorem lV {y : V} {u : Value} (r : bu y u) (f : eE y = true) : nB x u = yo y x := by
 cases y with
 | non => cases r; rfl
 | bl b => cases r; rfl
 | int i => obtain ⟨t, rfl⟩ := r; rfl
 | str z => obtain ⟨t, rfl⟩ := r; rfl
 | _ => exact absurd (show false = true from f) Bool.false_ne_true
theorem ie : ∀ {xs : List V} {us : List Value}, bd xs us -> xs.all eE = true -> us.any (nB x) = xs.any fun y => yo y x
 | _, _, .nil, _ => rfl
 | y :: xs, u :: us, .cons r t, f => by
  rw [List.all_cons, Bool.and_eq_true] at f
  rw [List.any_cons, List.any_cons, lV r f.1, ie t f.2]
theorem eU {A : Around} {v : Value} (rx : bu x v) (fx : eE x = true) : ∀ {xs : List V} {us : List Value}, bd xs us -> xs.all eE = true -> ∀ u ∈ us, SeqAt.EqAt A s u v (nB x u)
 | _, _, .nil, _ => fun u hu => by cases hu
 | y :: xs, u :: us, .cons r t, f => fun u' hu => by
  rw [List.all_cons, Bool.and_eq_true] at f
  rcases List.mem_cons.mp hu with rfl | hu
  ·rw [lV r f.1]; exact AB r rx f.1 fx
  ·exact eU rx fx t f.2 u' hu
noncomputable def uS (x : V) (xs : List V) : Bool := xs.any fun y => yo y x
noncomputable def vS (K : Fg) (neg : Bool) : R2 := fun x y H Q => ∃ p xs, y = .ref p /\ (cg K H p xs ∨ ci K H p xs) /\ eE x = true /\ xs.all eE = true /\ Q (.bl (if neg then !uS x xs else uS x xs)) H
theorem aP : eG X (compareOp .In) (vS X.K false) := by
 intro pins s σ H x y v u Q I rx ry h
 obtain ⟨p, xs, rfl, hq, fx, fs, q⟩ := h
 cases ry
 rcases hq with hq | hq
 ·obtain ⟨its, r, pl, hz⟩ := I.list hq
  refine SeqAt.in_listAt (nB x) pl.isList (fun w hw => eU rx fx r fs w (by simpa using hw)) ⟨.bl _, H, I, rfl, ?_⟩
  rw [show its.toArray.any (nB x) = its.any (nB x) by simp, ie r fs]
  exact q
 ·obtain ⟨its, r, pl, hz⟩ := I.tuple hq
  refine SeqAt.in_tupleAt (nB x) pl (fun w hw => eU rx fx r fs w (by simpa using hw)) ⟨.bl _, H, I, rfl, ?_⟩
  rw [show its.toArray.any (nB x) = its.any (nB x) by simp, ie r fs]
  exact q
theorem cq : eG X (compareOp .NotIn) (vS X.K true) := by
 intro pins s σ H x y v u Q I rx ry h
 obtain ⟨p, xs, rfl, hq, fx, fs, q⟩ := h
 cases ry
 rcases hq with hq | hq
 ·obtain ⟨its, r, pl, hz⟩ := I.list hq
  refine SeqAt.notIn_listAt (nB x) pl.isList (fun w hw => eU rx fx r fs w (by simpa using hw)) ⟨.bl _, H, I, rfl, ?_⟩
  rw [show its.toArray.any (nB x) = its.any (nB x) by simp, ie r fs]
  exact q
 ·obtain ⟨its, r, pl, hz⟩ := I.tuple hq
  refine SeqAt.notIn_tupleAt (nB x) pl (fun w hw => eU rx fx r fs w (by simpa using hw)) ⟨.bl _, H, I, rfl, ?_⟩
  rw [show its.toArray.any (nB x) = its.any (nB x) by simp, ie r fs]
  exact q
theorem mw : eG X (compareOp .NotIn) (fun x y H Q => ∃ i j, x = .str i /\ y = .str j /\ Q (.bl (!(!(Builtin.Str.occurrences j i 0 j.length 1).isEmpty))) H) := by
 intro pins s σ H x y v u Q I rx ry h
 obtain ⟨i, j, rfl, rfl, q⟩ := h
 obtain ⟨t, rfl⟩ := rx
 obtain ⟨t', rfl⟩ := ry
 exact notIn_str ⟨.bl _, H, I, rfl, q⟩
theorem aw : bY X (.builtin "len") (fun xs H Q => ∃ p ys, xs = [.ref p] /\ (cg X.K H p ys ∨ ci X.K H p ys) /\ Q (.int ys.length) H) := by
 intro pins s σ H xs us Q I r h
 obtain ⟨p, ys, rfl, hq, q⟩ := h
 obtain ⟨u, rfl, rx⟩ := jV r
 cases rx
 have hn := gO
 rcases hq with hq | hq
 ·obtain ⟨its, r', pl, hz⟩ := I.list hq
  have hlen := r'.length
  exact Calls.call_len_list pl.isList (by simp only [List.size_toArray] <;> omega) ⟨.int ys.length, H, I.tok _, ⟨s.toks + 1, by rw [List.size_toArray, hlen]⟩, q⟩
 ·obtain ⟨its, r', pl, hz⟩ := I.tuple hq
  have hlen := r'.length
  exact len_tuple pl (by simp only [List.size_toArray] <;> omega) ⟨.int ys.length, H, I.tok _, ⟨s.toks + 1, by rw [List.size_toArray, hlen]⟩, q⟩
theorem iA : bY X (.builtin "len") (fun xs H Q => ∃ z, xs = [.str z] /\ z.length <= sizeLine /\ Q (.int z.length) H) := by
 intro pins s σ H xs us Q I r h
 obtain ⟨z, rfl, hz, q⟩ := h
 obtain ⟨u, rfl, t, rfl⟩ := jV r
 have hn := gO
 exact len_str (by omega) ⟨.int z.length, H, I.tok _, ⟨_, rfl⟩, q⟩
theorem ft : bY X (.type "list") (fun xs H Q => ∃ p ys, xs = [.ref p] /\ (cg X.K H p ys ∨ ci X.K H p ys) /\ ∀ l, H l = none -> Q (.ref l) (upd H l (.lst ys))) := by
 intro pins s σ H xs us Q I r h
 obtain ⟨p, ys, rfl, hq, q⟩ := h
 obtain ⟨u, rfl, rx⟩ := jV r
 cases rx
 have fin : ∀ (its : List Value), bd ys its -> ys.length <= sizeLine -> ∀ (h' : Heap) (c' : Nat), (∀ b o', s.heap.get? b = some o' -> h'.get? b = some o') ->
   h'.get? s.heap.objs.size = some { cls := .type "list", dict := none, data := .seq its.toArray c', slots := #[] } -> EP X pins σ Q (.ref s.heap.objs.size) { s with heap := h' } := fun its r' hz h' c' kp e =>
  ⟨.ref s.heap.objs.size, _, I.laid (t' := s.toks) kp (Nat.le_refl _) (show bz X.prog X.w _ h' _ (.lst ys) from ⟨hz, its, c', r', e⟩), rfl, q _ (I.hok.fresh (Nat.le_refl _))⟩
 rcases hq with hq | hq
 ·obtain ⟨its, r', pl, hz⟩ := I.list hq
  have hlen := r'.length
  obtain ⟨o, ho, hc, n, hd⟩ := pl.isList
  exact call_list_seq p (.inl rfl) ho hc hd (fun h' c' kp e => fin its r' hz h' c' kp e) (by simp only [List.size_toArray] <;> omega)
 ·obtain ⟨its, r', pl, hz⟩ := I.tuple hq
  have hlen := r'.length
  obtain ⟨o, ho, hc, n, hd⟩ := pl
  exact call_list_seq p (.inr rfl) ho hc hd (fun h' c' kp e => fin its r' hz h' c' kp e) (by simp only [List.size_toArray] <;> omega)
theorem du : bY X (.type "tuple") (fun xs H Q => ∃ p ys, xs = [.ref p] /\ ((cg X.K H p ys /\ ∀ l, H l = none -> Q (.ref l) (upd H l (.tup ys))) ∨ (ci X.K H p ys /\ Q (.ref p) H))) := by
 intro pins s σ H xs us Q I r h
 obtain ⟨p, ys, rfl, h⟩ := h
 obtain ⟨u, rfl, rx⟩ := jV r
 cases rx
 rcases h with ⟨hq, q⟩ | ⟨hq, q⟩
 ·obtain ⟨its, r', pl, hz⟩ := I.list hq
  have hlen := r'.length
  refine call_tuple_list pl.isList (fun h' kp => ?_) (by simp only [List.size_toArray] <;> omega)
  have I1 : aJ X pins σ H { s with heap := h' } := I.kept (t' := s.toks) kp
  have I2 : aJ X pins σ (upd H h'.objs.size (.tup ys)) { s with heap := h'.push { cls := .type "tuple", data := .seq its.toArray } } :=
   I1.laid (t' := s.toks) (fun b o e => Heap.get?_push_of_some _ e) (Nat.le_refl _) (show bz X.prog X.w _ _ _ (.tup ys) from ⟨hz, its, r', IsTup.new _ _⟩)
  exact ⟨.ref h'.objs.size, _, I2, rfl, q _ (I1.hok.fresh (Nat.le_refl _))⟩
 ·obtain ⟨its, r', pl, hz⟩ := I.tuple hq
  exact call_tuple_same pl ⟨.ref p, H, I, rfl, q⟩
noncomputable def AS (K : Fg) (T : String) (x : V) (H : Hp) : Prop := match x with
 | .str _ => T = "str"
 | .int _ => T = "int"
 | .ref p => (T = "list" /\ ∃ xs, cg K H p xs) ∨ (T = "tuple" /\ ∃ o, K.lookup p = some o /\ o.cls = .type "tuple" /\ o.dict = none) ∨
   (T = "dict" /\ ((∃ kvs, H p = some (.dK kvs)) ∨ ∃ kvs, H p = some (.dT kvs))) ∨ (T = "set" /\ ∃ S n, H p = some (.set S n))
 | _ => False
theorem Aj {pins : Pn} {σ : St} {H : Hp} {T : String} {v : Value} (I : aJ X pins σ H s) (r : bu x v) (ty : AS X.K T x H) :
  s.TypeIs v T /\ ∀ a, v = .ref a -> ∃ ob, s.heap.get? a = some ob /\ ob.dict = none := by
 cases x with
 | str z =>
  obtain ⟨t, rfl⟩ := r
  cases (show T = "str" from ty)
  exact ⟨typeIs_str s z t, fun _ e => nomatch e⟩
 | int i =>
  obtain ⟨t, rfl⟩ := r
  cases (show T = "int" from ty)
  exact ⟨typeIs_int s i t, fun _ e => nomatch e⟩
 | ref p =>
  cases r
  rcases ty with ⟨rfl, xs, hq⟩ | ⟨rfl, o, hk, hc, hd⟩ | ⟨rfl, hk⟩ | ⟨rfl, S, n, hk⟩
  ·obtain ⟨its, _, pl, _⟩ := I.list hq
   refine ⟨pl.isList.typeIs, fun a e => ?_⟩
   cases e
   obtain ⟨o, n, e, c, hd, _⟩ := pl
   exact ⟨o, e, hd⟩
  ·refine ⟨⟨o, I.kIn p o hk, hc⟩, fun a e => ?_⟩
   cases e
   exact ⟨o, I.kIn _ o hk, hd⟩
  ·have z : ∃ o, s.heap.get? p = some o /\ o.ExactDict := by
    rcases hk with ⟨kvs, hk⟩ | ⟨kvs, hk⟩
    ·obtain ⟨_, _, _, _, o, _, _, e, ex, _⟩ := I.hok p _ hk
     exact ⟨o, e, ex⟩
    ·obtain ⟨_, _, _, _, o, _, _, e, ex, _⟩ := I.hok p _ hk
     exact ⟨o, e, ex⟩
   obtain ⟨o, e, ex⟩ := z
   refine ⟨⟨o, e, ex.1⟩, fun a e2 => ?_⟩
   cases e2
   exact ⟨o, e, ex.2.1⟩
  ·obtain ⟨o, _, _, _, e, ex, _⟩ := I.hok p _ hk
   refine ⟨⟨o, e, ex.1⟩, fun a e2 => ?_⟩
   cases e2
   exact ⟨o, e, ex.2.1⟩
 | _ => exact False.elim ty
noncomputable def EH (K : Fg) (T : String) (r : V -> List V -> Hp -> VK -> Prop) (to : TE) (t : TA) : TE := fun σ H Q => to σ H fun x H1 => AS K T x H1 /\ t σ H1 fun xs H2 => r x xs H2 Q
variable {o e : Expr} {es : List Expr} {to : TE} {t : TA} {name : Str} {apos cpos : Pos} {T id : String} {r : V -> List V -> Hp -> VK -> Prop}
theorem lr (pa : PlainAttrs T) (slot : Slot T name id) (hty : typeOf (.builtin id) = pure (.type "method_descriptor")) (hm : MtR X id r) (ho : PE X o to) (ha : PA X (e :: es) t)
  (hbase : attributeBase o name X.env (eval o X.env) = eval o X.env := by rfl)
  (hfew : ((backTo cpos (starEach (e :: es) X.env)).all (fun x => !x.1) && (backToKw cpos (keywordEach [] X.env)).all (fun x => x.1.isSome)
   && decide ((e :: es).length + ([] : List Keyword).length + (if ([] : List Keyword).isEmpty then 0 else 1) < 30)) = true := by rfl)
  (hline : (apos.endLine == cpos.line) = true := by rfl) (hs : starEach (e :: es) X.env = (false, eval e X.env) :: starEach es X.env := by rfl) (hplain : (backTo cpos (starEach es X.env)).any (·.1) = false := by rfl) :
  PE X (.Call (.Attribute o name apos) (e :: es) [] cpos) (EH X.K T r to t) := by
 intro pins s σ H Q I h
 refine wpAny_Call_method_late hbase hfew hline rfl (bQ (ho pins s σ H _ I h) fun v s1 ⟨x, H1, I1, r1, ty, q1⟩ => ?_)
 obtain ⟨h1, h2⟩ := Aj I1 r1 ty
 refine ⟨T, id, pa, slot, hty, h1, h2, ?_⟩
 have hA := ha cpos pins s1 σ H1 _ I1 q1
 rw [hs] at hA ⊢
 refine Calls.callWith_builtin (by show (false || (backTo cpos (starEach es X.env)).any (·.1)) = false; rw [hplain] <;> rfl) (Calls.evalArgs_plain ?_)
 exact bQ hA fun us s2 ⟨vs, H2, I2, r2, q2⟩ => hm pins s2 σ H2 x vs v us Q I2 r1 r2 q2
end
end L2
namespace L2
open PySem PySem.Spec PyProof.Rows
noncomputable def En (X : Cx) (id : String) (r : V -> List V -> Hp -> VK -> Prop) : Prop :=
 ∀ (pins : Pn) (s : Shared) (σ : St) (H : Hp) (x : V) (xs : List V) (v : Value) (us : List Value) (Q : VK), aJ X pins σ H s -> bu x v -> bd xs us -> r x xs H Q ->
  wpAny (model X.prog X.w) X.A (call (.builtin id) (v :: us)) (EP X pins σ Q) X.xe s
theorem bd.one : ∀ {x : V} {us : List Value}, bd [x] us -> ∃ u, us = [u] /\ bu x u
 | _, _, .cons r .nil => ⟨_, rfl, r⟩
section
variable {X : Cx} {pins : Pn} {σ : St} {H : Hp} {s : Shared} {l b : Addr} {xs ys zs : List V}
theorem aJ.lset {its its' : List Value} {n : Nat} {f : Array Value -> Array Value} {t' : Nat} (I : aJ X pins σ H s) (hH : H l = some (.lst xs))
  (e : s.heap.get? l = some { cls := .type "list", data := .seq its.toArray n }) (hf : f its.toArray = its'.toArray) (hv : bd ys its') (hz : ys.length <= sizeLine) :
  aJ X pins σ (upd H l (.lst ys)) { s with heap := s.heap.update l (Obj.mapSeq f), toks := t' } := by
 have q := PySem.IsL.update e f
 rw [hf] at q
 refine I.write (x := l) (e := l) (by rw [hH]; exact trivial) (.inl rfl) (fun b' u hb hu => (Heap.get?_update_other s.heap (Obj.mapSeq f) (Ne.symm hb)).trans hu) ⟨_, q⟩ ?_
 exact ⟨hz, its', _, hv, q⟩
theorem aJ.lnew {its : List Value} {t' : Nat} (I : aJ X pins σ H s) (hv : bd ys its) (hz : ys.length <= sizeLine) :
  aJ X pins σ (upd H s.heap.objs.size (.lst ys)) { s with heap := s.heap.push { cls := .type "list", data := .seq its.toArray }, toks := t' } :=
 I.laid (fun _ _ q => Heap.get?_push_of_some _ q) (Nat.le_refl _) ⟨hz, its, 0, hv, Heap.get?_push_size _ rfl⟩
theorem aJ.fresh (I : aJ X pins σ H s) : H s.heap.objs.size = none := I.hok.fresh (Nat.le_refl _)
theorem aJ.lstM (I : aJ X pins σ H s) (hH : H l = some (.lst xs)) : xs.length <= sizeLine /\ ∃ (its : List Value) (n : Nat), bd xs its /\ xs.length = its.length /\ s.heap.get? l = some { cls := .type "list", data := .seq its.toArray n } := by
 obtain ⟨z, its, n, r, e⟩ := I.hok l _ hH
 exact ⟨z, its, n, r, r.length, e⟩
end
section
variable {X : Cx}
noncomputable def rAppend : V -> List V -> Hp -> VK -> Prop := fun x vs H Q => ∃ l xs y, x = .ref l /\ vs = [y] /\ H l = some (.lst xs) /\ xs.length < sizeLine /\ Q .non (upd H l (.lst (xs ++ [y])))
theorem dJ : En X "list.append" rAppend := by
 intro pins s σ H x vs v us Q I rx rv h
 obtain ⟨l, xs, y, rfl, rfl, hH, hz, q⟩ := h
 cases rx
 obtain ⟨u, rfl, ru⟩ := rv.one
 obtain ⟨z, its, n, r, hl, e⟩ := I.lstM hH
 refine call_meets F.slot_list_append ⟨_, e, rfl⟩ F.entry_list_append (F.args_list_append_2 _ _) (PySem.list_append l its.toArray n u (by rw [List.size_toArray]; omega)) ⟨e, ?_⟩
 refine ⟨.non, _, I.lset (its' := its ++ [u]) hH e (by simp) (r.append (.cons ru .nil)) ?_, rfl, q⟩
 rw [List.length_append, List.length_singleton]
 omega
end
section
variable {prog : Program} {w : World} {A : Around} {E : Value -> Shared -> Prop} {s : Shared}
set_option maxRecDepth 100000 in
end
section
variable {X : Cx}
end
end L2
namespace Att
open PySem PySem.W PySem.Calls PyProof.Rows
theorem ints_of_wellAll {P : Params} {h : Heap} : ∀ (ns : List Int) (vs : List Value), WellAll P h vs (ns.map WData.int) -> IntsAre vs ns := by
 intro ns
 induction ns with
 | nil =>
  intro vs w
  rw [List.map_nil] at w
  cases w
  exact .nil
 | cons n ns ih =>
  intro vs w
  rw [List.map_cons] at w
  cases w with
  | cons a b =>
   cases a
   exact .cons _ _ (ih _ b)
theorem script_of {l : OpenLaw} {n : Nat} (hn : l.most = some n) {P : Params} {h : Heap} {args : List WData} {vals : List Value}
  (hpre : l.row.toRowW.claim.pre args = true) (hwl : WellAll P h vals args) :
  ∃ a vs ns, vals = [Value.ref a] /\ args = [WData.list (ns.map WData.int)] /\ h.get? a = some { cls := .type "list", data := .seq vs.toArray } /\ IntsAre vs ns /\ ns.length <= n := by
 have hsh : WShape.hasAll [] args [.list .int] = true := (pre_splitW hpre).1
 have hc : l.pre.holds [] { args := args } = true := (pre_splitW hpre).2
 obtain ⟨d, r, rfl, h1, h2⟩ := hasAllW_cons hsh
 obtain rfl := hasAllW_nil h2
 obtain ⟨xs, rfl, h3⟩ := hasW_list h1
 obtain ⟨ns, rfl⟩ := items_int h3
 have hlen : ns.length <= n := by
  unfold OpenLaw.pre at hc
  have h4 : (WTm.not (.lt (.lit (.int (n : Int))) (.len (.arg 0)))).holds [] { args := [.list (ns.map .int)] } = true := by
   have h4 := (holds_andW hc).1
   rw [hn] at h4
   exact h4
  have h5 := condW_of h4 (w_not (w_lt w_lit (w_len_list (w_arg rfl))))
  rw [List.length_map] at h5
  refine Nat.le_of_not_lt fun q => ?_
  have q' : (n : Int) < ((ns.length : Nat) : Int) := by omega
  first
   | (rw [decide_eq_true q'] at h5; exact absurd h5 (by decide))
   | (simp at h5; omega)
 cases hwl with
 | cons w1 w2 =>
  cases w2
  cases w1 with
  | list ho hall => exact ⟨_, _, ns, rfl, rfl, ho, ints_of_wellAll ns _ hall, hlen⟩
theorem post_true (l : OpenLaw) (args : List WData) : l.row.toRowW.claim.post args (.bool true) args = true :=
 postW_of (r := l.row.toRowW) (X := (true == true))
  (show WShape.has [] (.bool true) .bool = true by first | rfl | decide | simp [WShape.has, WShape.arms, WShape.armsAll])
  (show (WTm.eq .res (.lit (.bool true))).value [] { args := args, res := some (.bool true), after := args } = some (.bool (true == true)) from w_eq_bool (w_res rfl) w_lit) rfl
section
variable {prog : Program} {w : World} {A : Around} {E : Value -> Shared -> Prop} {s : Shared} {K : Frag}
end
end Att
namespace L2
open PySem PySem.Spec PyProof.Rows
theorem lQ : ∀ {vs : List Value} {ns : List Int}, IntsAre vs ns -> bd (ns.map V.int) vs
 | _, _, .nil => .nil
 | _, _, .cons n t h => .cons ⟨t, rfl⟩ (lQ h)
noncomputable def zQ (H : Hp) : Prop := ∀ b, H b = none ∨ ∃ o xs, H b = some (.frz o (.lst xs))
theorem uG {P : Program} {w : World} {K : Fg} {mg mb : Str -> Option Value} {CX : CXT} {k : Nat} {fa a : Addr} {fd : FuncData} {x : Str} {sp : Sp} {s₁ : Shared} {vs : List Value} {ns : List Int}
  (KX : K.In s₁.heap) (hns : s₁.heap.Ns mainGlobals mg) (hb : s₁.heap.Ns builtinsNs mb) (hbb : ∀ x : Str, x ≠ "__name__" -> mb x = bootBuiltins x) (hlim : s₁.heap.NoLimit) (hg : s₁.gens = #[])
  (ha : s₁.heap.get? a = some { cls := .type "list", data := .seq vs.toArray }) (hi : IntsAre vs ns) (hl : ns.length <= sizeLine) (hr : cU k callerA)
  (F : ∀ base : Heap, K.In base -> base.Ns mainGlobals mg -> dR P w K mg base CX k fa fd [x] sp) (hbind : ∀ (s : Shared) (u : Value), BindsTo s fd ⟨[u], []⟩ [(x, u)])
  (hsp : ∀ H : Hp, zQ H -> cg K H a (ns.map V.int) -> sp [.ref a] H (fun v _ => v = .bl true) fun _ _ _ => False)
  (hCX : ∀ H e s', CX [] H s₁ (fun _ _ _ => False) e s' -> False) :
  codeAny (model P w) callerA (.call (.ref fa) ⟨[.ref a], []⟩) (fun r s' => r = .ok (.ret (.bool true)) /\ OldK s₁.heap s'.heap /\ s'.os = s₁.os /\ AllBare s'.gens) s₁ := by
 have rv := lQ hi
 have lenV := hi.length
 have core : ∀ H : Hp, zQ H -> cg K H a (ns.map V.int) -> iX P w H s₁.heap -> (∀ b, H b ≠ none -> b = a) -> (H a ≠ none -> K.lookup a = none) ->
   codeAny (model P w) callerA (.call (.ref fa) ⟨[.ref a], []⟩) (fun r s' => r = .ok (.ret (.bool true)) /\ OldK s₁.heap s'.heap /\ s'.os = s₁.os /\ AllBare s'.gens) s₁ := by
  intro H hO hS hok hA hK
  have base_of : ∀ {b : Addr} {o : Obj}, s₁.heap.get? b = some o -> H b = none -> (mE s₁.heap H).get? b = some o := fun e n => vm e n
  have noA : ∀ {b : Addr} {o : Obj} {es : Array DictEntry} {ep : Nat}, s₁.heap.get? b = some o -> o.data = .dict es ep -> H b = none := fun {b o es ep} e d => by
   cases q : H b with
   | none => rfl
   | some u =>
    have e' : b = a := hA b (by rw [q]; simp)
    subst e'
    rw [ha] at e; cases e
    have d' : Data.seq vs.toArray _ = Data.dict es ep := d
    cases d'
  have nsK : ∀ {b : Addr} {m : Str -> Option Value}, s₁.heap.Ns b m -> (mE s₁.heap H).Ns b m := fun {b m} ⟨o, es, ep, e, d, r⟩ => ⟨o, es, ep, base_of e (noA e d), d, r⟩
  have hKb : K.In (mE s₁.heap H) := fun b o e => base_of (KX b o e) (by
   cases q : H b with
   | none => rfl
   | some u =>
    have e' : b = a := hA b (by rw [q]; simp)
    subst e'
    rw [hK (by rw [q]; simp)] at e; cases e)
  have hM : Mod K mg (mE s₁.heap H) := ⟨hKb, nsK hns, ⟨mb, nsK hb, hbb⟩, let ⟨mc, h1, h2⟩ := hlim; ⟨mc, nsK h1, h2⟩⟩
  have e0 : qA P w K mg (mE s₁.heap H) callerA [] s₁ H := ⟨rfl, hM, fun b o e => vX e, Nat.le_of_eq (sr _ _), trivial, fun b hb => absurd (show b ∈ ([] : List Addr) from hb) (by simp), hok, .of_eq hg⟩
  refine codeAny_mono ((F _ hKb (nsK hns)).run callerA [] s₁ H ⟨[.ref a], []⟩ [.ref a] [.ref a] _ _ hr e0 (hbind s₁ (.ref a)) (.cons rfl .nil) (hsp H hO hS)) fun r s' h => ?_
  cases r with
  | error e => exact (hCX H e s' h).elim
  | ok fl =>
   cases fl with
   | next => exact False.elim h
   | brk => exact False.elim h
   | cont => exact False.elim h
   | ret u =>
    obtain ⟨v, H', os, bare, un, hok', r', q⟩ := h
    have q' : v = .bl true := q
    subst q'
    obtain rfl : u = Value.bool true := r'
    refine ⟨rfl, OldK.of_keep fun b o e => ?_, os, bare⟩
    cases q : H b with
    | none => exact un.keep b o e q (by intro z; exact absurd (show b ∈ ([] : List Addr) from z) (by simp)) (by simp)
    | some u =>
     rcases hO b with z | ⟨ob, xs, z⟩
     ·rw [q] at z; cases z
     ·have z2 := un.frzs b ob _ z
      obtain ⟨e1, _⟩ := hok b _ z
      obtain ⟨e2, _⟩ := hok' b _ z2
      rw [e] at e1; cases e1
      exact e2
 cases hk : K.lookup a with
 | some o =>
  have e := KX a o hk
  rw [ha] at e
  cases e
  refine core (fun _ => none) (fun _ => .inl rfl) (.inr ⟨_, vs.toArray, _, hk, rfl, rfl, rfl, by rw [List.size_toArray, lenV]; exact hl, by simpa using rv⟩) (fun b u z => by have z' : (none : Option HO) = some u := z; cases z') (fun b z => absurd rfl z) fun z => absurd rfl z
 | none =>
  refine core (fun b => if b = a then some (.frz { cls := .type "list", data := .seq vs.toArray } (.lst (ns.map V.int))) else none) (fun b => ?_) (.inl (.inr ⟨{ cls := .type "list", data := .seq vs.toArray }, if_pos rfl⟩)) (fun b u z => ?_) (fun b z => ?_) fun _ => hk
  ·by_cases hb : b = a
   ·exact .inr ⟨_, _, if_pos hb⟩
   ·exact .inl (if_neg hb)
  ·by_cases hb : b = a
   ·have z' := (if_pos hb).symm.trans z
    cases z'
    subst hb
    exact ⟨ha, by rw [List.length_map]; exact hl, vs, _, rv, ha⟩
   ·have z' := (if_neg hb).symm.trans z
    cases z'
  ·by_cases hb : b = a
   ·exact hb
   ·exact absurd (if_neg hb) z
end L2
namespace L2
open PySem PySem.Spec PyProof.Rows
noncomputable abbrev KOf {K : Fg} {h : Heap} (_ : K.In h) : Fg := K
end L2
namespace L2
open PySem PySem.Spec PyProof.Rows
noncomputable def dI (s : Stmt) : Arguments := match s with
 | .FunctionDef _ a _ _ _ _ _ _ _ _ => a
 | _ => { posonlyargs := [], args := [], vararg := none, kwonlyargs := [], kw_defaults := [], kwarg := none, defaults := [] }
noncomputable def cr (s : Stmt) : List Stmt := match s with
 | .FunctionDef _ _ b _ _ _ _ _ _ _ => b
 | _ => []
noncomputable def ae (s : Stmt) : Scope := match s with
 | .FunctionDef _ _ _ _ _ _ sc _ _ _ => sc
 | _ => { kind := .function, names := [], isGenerator := false, isCoroutine := false }
noncomputable abbrev tF : CXT := fun _ _ _ _ _ _ => False
noncomputable abbrev E0 : XK := fun _ _ _ => False
theorem AZ {X : Cx} : pk tF X E0 := fun _ _ _ _ _ _ _ h => h.elim
structure vR (K : Fg) (x qual : Str) (st : Stmt) (f : Addr) (fd : FuncData) : Prop where
 ex : ∃ (oc : Value) (od : Option Addr) (kV doc pm : Value) (an : Option Addr) (cdv ct : Value) (osl : Array (Option Value)),
  fd = PySem.W.fnOf x qual (dI st) (cr st) (ae st) .none kV doc pm an cdv ct /\ K.lookup f = some ⟨oc, od, .func fd, osl⟩ /\ PySem.W.codeIn K cdv qual = true
 kp : PySem.W.keepIn K (.ref f) = true
section
variable {P : Program} {w : World} {K : Fg} {mg : Str -> Option Value} {base : Heap}
variable {x : Str} {qual : Str} {st : Stmt} {f : Addr}
theorem vR.ok {fd : FuncData} {N ps : List Str} {k : Nat} {sp : Sp} (F : vR K x qual st f fd) (S : aB N ps (ae st)) (len : ∀ vs H Q E, sp vs H Q E -> vs.length = ps.length)
  (hbody : ∀ (cdv : Value) (A : Around) (outer : List Env) (s : Shared) (H : Hp) (vs : List V) (Q : VK) (E : XK), cU k (A.deeper (envOfC qual (ae st) s.heap.objs.size f cdv)) -> sp vs H Q E ->
   ∃ t, nA (cI tF P w K mg base N qual (ae st) f cdv A outer s H E).nox (cr st) t /\ t { nx := fun _ H' => Q .non H', rt := Q } (cT N vs) H) : dR P w K mg base tF (k + 1) f fd ps sp := by
 obtain ⟨oc, od, kV, doc, pm, an, cdv, ct, osl, rfl, lk, hcd⟩ := F.ex
 refine xI lk hcd S len fun A outer s H vs Q E hr hsp => ?_
 obtain ⟨t, h, q⟩ := hbody cdv A outer s H vs Q E hr hsp
 exact ⟨t, h.nox, q⟩
theorem vR.binds {fd : FuncData} {ps : List Str} (F : vR K x qual st f fd)
  (h : ∀ (kV doc pm : Value) (an : Option Addr) (cdv ct : Value) (us : List Value), us.length = ps.length -> bindArgs (PySem.W.fnOf x qual (dI st) (cr st) (ae st) .none kV doc pm an cdv ct) ⟨us, []⟩ = pure (ps.zip us)) : fV K fd ps [] := by
 obtain ⟨oc, od, kV, doc, pm, an, cdv, ct, osl, rfl, lk, hcd⟩ := F.ex
 exact .all (h kV doc pm an cdv ct)
theorem jK {oc : Value} {od an : Option Addr} {osl : Array (Option Value)} {kV doc pm cdv ct : Value} (l : K.lookup f = some ⟨oc, od, .func (PySem.W.fnOf x qual (dI st) (cr st) (ae st) .none kV doc pm an cdv ct), osl⟩)
  (c : PySem.W.codeIn K cdv qual = true) (k : PySem.W.keepIn K (.ref f) = true) : vR K x qual st f (PySem.W.fnOf x qual (dI st) (cr st) (ae st) .none kV doc pm an cdv ct) := ⟨⟨oc, od, kV, doc, pm, an, cdv, ct, osl, rfl, l, c⟩, k⟩
end
section
variable {X : Cx}
theorem pv (i : Nat) {x : Str} {pos : Pos} (hN : X.N[i]? = some x := by rfl) (hv : Bo X.env.scope x := by first | exact Or.inl rfl | exact Or.inr (Or.inl rfl) | exact Or.inr (Or.inr rfl)) (hd : (x == ("__debug__" : Str)) = false := by decide)
  (hcd : (x == ("__classdict__" : Str)) = false := by decide) : PE X (.Name x pos) (qd i) := Ay hN hv hd hcd
end
variable {A : Prop} {B : Prop}
theorem gA (h : B) : if false = true then A else B := by
 rw [if_neg Bool.false_ne_true]
 exact h
theorem gU (h : A) : if true = true then A else B := by
 rw [if_pos rfl]
 exact h
theorem DN {c : Prop} [Decidable c] (h1 : c -> A) (h2 : ¬ c -> B) : if c then A else B := by
 by_cases h : c
 ·rw [if_pos h]
  exact h1 h
 ·rw [if_neg h]
  exact h2 h
noncomputable def aF (H H' : Hp) : Prop := ∀ b o, H b = some o -> H' b = some o
theorem aF.refl (H : Hp) : aF H H := fun _ _ h => h
variable {H : Hp}
theorem aF.trans {H1 H2 : Hp} (a : aF H H1) (b : aF H1 H2) : aF H H2 := fun c o h => b c o (a c o h)
theorem aF.free {H' : Hp} (e : aF H H') {l : Addr} (h : H' l = Option.none) : H l = Option.none := by
 cases q : H l with
 | none => rfl
 | some o =>
  rw [e l o q] at h
  cases h
theorem aF.seq {K : Fg} {H' : Hp} {a : Addr} {xs : List V} (e : aF H H') (h : cg K H a xs) : cg K H' a xs := by
 rcases h with (h | ⟨o, h⟩) | h
 ·exact .inl (.inl (e _ _ h))
 ·exact .inl (.inr ⟨o, e _ _ h⟩)
 ·exact .inr h
end L2
set_option maxHeartbeats 4000000
namespace My
noncomputable def Bd (n : Nat) (x : Int) : Prop := x.natAbs < 2 ^ n
variable {n : Nat} {x : Int}
theorem Bd.mono {m : Nat} (h : Bd m x) (hn : m <= n) : Bd n x := Nat.lt_of_lt_of_le h (Nat.pow_le_pow_right (by decide) hn)
variable {y : Int}
theorem Bd.mul {m : Nat} (h : Bd m x) (g : Bd n y) : Bd (m + n) (x * y) := by
 unfold Bd at *
 rw [Int.natAbs_mul, Nat.pow_add]
 exact Nat.mul_lt_mul'' h g
theorem Bd.add (h : Bd n x) (g : Bd n y) : Bd (n + 1) (x + y) := by
 unfold Bd at *
 rw [Nat.pow_succ]
 have := Int.natAbs_add_le x y
 omega
theorem Bd.mod (hy : 0 < y) (g : Bd n y) : Bd n (x % y) := by
 unfold Bd at *
 have h1 := Int.emod_nonneg x (Int.ne_of_gt hy)
 have h2 := Int.emod_lt_of_pos x hy
 omega
theorem Bd.of_le (g : Bd n y) (h0 : 0 <= x) (h : x <= y) : Bd n x := by
 unfold Bd at *
 omega
theorem gcd_step (a b : Int) : Int.gcd b (a % b) = Int.gcd a b := by
 apply Nat.dvd_antisymm
 ·apply Int.dvd_gcd
  ·have h1 : ((Int.gcd b (a % b) : Nat) : Int) ∣ b := Int.gcd_dvd_left ..
   have h2 : ((Int.gcd b (a % b) : Nat) : Int) ∣ a % b := Int.gcd_dvd_right ..
   have h3 := Int.mul_ediv_add_emod a b
   have h4 := Int.dvd_add (Int.dvd_trans h1 (Int.dvd_mul_right b (a / b))) h2
   rw [h3] at h4
   exact h4
  ·exact Int.gcd_dvd_left ..
 ·apply Int.dvd_gcd
  ·exact Int.gcd_dvd_right ..
  ·have h1 : ((Int.gcd a b : Nat) : Int) ∣ a := Int.gcd_dvd_left ..
   have h2 : ((Int.gcd a b : Nat) : Int) ∣ b := Int.gcd_dvd_right ..
   have h3 := Int.mul_ediv_add_emod a b
   have h4 : a % b = a - b * (a / b) := by omega
   rw [h4]
   exact Int.dvd_sub h1 (Int.dvd_trans h2 (Int.dvd_mul_right b (a / b)))
theorem gcd_pos {a b : Int} (hb : 0 < b) : 0 < ((Int.gcd a b : Nat) : Int) := by
 have : 0 < Int.gcd a b := Int.gcd_pos_of_ne_zero_right a (Int.ne_of_gt hb)
 omega
theorem gcd_le {a b : Int} (hb : 0 < b) : ((Int.gcd a b : Nat) : Int) <= b :=
 Int.le_of_dvd hb (Int.gcd_dvd_right ..)
end My
namespace My
noncomputable def sg (t m : Int) : Int := if m < 0 then -((Int.gcd t m : Nat) : Int) else ((Int.gcd t m : Nat) : Int)
theorem Cv {t m : Int} (hm : m ≠ 0) : sg t m ≠ 0 := by
 have h : 0 < Int.gcd t m := Int.gcd_pos_of_ne_zero_right t hm
 unfold sg
 split <;> omega
theorem nM (t m : Int) : sg t m ∣ t := by
 unfold sg
 split
 ·exact Int.neg_dvd.mpr (Int.gcd_dvd_left ..)
 ·exact Int.gcd_dvd_left ..
theorem mU (t m : Int) : sg t m ∣ m := by
 unfold sg
 split
 ·exact Int.neg_dvd.mpr (Int.gcd_dvd_right ..)
 ·exact Int.gcd_dvd_right ..
theorem nC {a b : Int} (hb : b ≠ 0) (h : b ∣ a) : a.fdiv b * b = a := Int.fdiv_mul_cancel h
theorem lu (t m : Int) : (sg t m).natAbs = Int.gcd t m := by
 unfold sg
 split
 ·rw [Int.natAbs_neg, Int.natAbs_natCast]
 ·rw [Int.natAbs_natCast]
structure DW (t m a b : Int) : Prop where
 pos : 0 < b
 low : Int.gcd a b = 1
 same : a * m = t * b
 ba : a.natAbs <= t.natAbs
 bb : b.natAbs <= m.natAbs
theorem made_of {t m : Int} (hm : m ≠ 0) : DW t m (t.fdiv (sg t m)) (m.fdiv (sg t m)) := by
 have hs := Cv (t := t) hm
 have e1 := nC hs (nM t m)
 have e2 := nC hs (mU t m)
 have hg : 0 < Int.gcd t m := Int.gcd_pos_of_ne_zero_right t hm
 generalize ha : t.fdiv (sg t m) = a at *
 generalize hb : m.fdiv (sg t m) = b at *
 have n1 : a.natAbs * Int.gcd t m = t.natAbs := by rw [<- lu, <- Int.natAbs_mul, e1]
 have n2 : b.natAbs * Int.gcd t m = m.natAbs := by rw [<- lu, <- Int.natAbs_mul, e2]
 refine ⟨?_, ?_, ?_, ?_, ?_⟩
 ·
  unfold sg at e2
  by_cases h : m < 0
  ·rw [if_pos h, Int.mul_neg] at e2
   rcases Int.lt_or_le 0 b with q | q
   ·exact q
   ·have := Int.mul_nonpos_of_nonpos_of_nonneg q (show (0 : Int) <= ((Int.gcd t m : Nat) : Int) by omega)
    omega
  ·rw [if_neg h] at e2
   rcases Int.lt_or_le 0 b with q | q
   ·exact q
   ·have := Int.mul_nonpos_of_nonpos_of_nonneg q (show (0 : Int) <= ((Int.gcd t m : Nat) : Int) by omega)
    omega
 ·have q : Int.gcd a b * Int.gcd t m = Int.gcd t m := by
   have h := Nat.gcd_mul_right a.natAbs (Int.gcd t m) b.natAbs
   rw [n1, n2] at h
   exact h.symm
  exact Nat.eq_of_mul_eq_mul_right hg (by rw [q, Nat.one_mul])
 ·have q : a * m = a * (b * sg t m) := by rw [e2]
  have q2 : t * b = a * sg t m * b := by rw [e1]
  rw [q, q2, Int.mul_assoc, Int.mul_comm b]
 ·rw [<- n1]; exact Nat.le_mul_of_pos_right _ hg
 ·rw [<- n2]; exact Nat.le_mul_of_pos_right _ hg
theorem natAbs_abs (i : Int) : (if i < 0 then -i else i) = ((i.natAbs : Nat) : Int) := by split <;> omega
end My
namespace L2
open PySem PySem.Spec PyProof.Rows
noncomputable abbrev mC (x : Int) : Prop := My.Bd 4000 x
section
variable {X : Cx}
theorem bA : eG X (binaryOp .Mult) (rI (fun i j => mC i /\ mC j) fun i j => .int (i * j)) := CI fun _ _ _ _ _ _ _ hc q =>
 mul_int q (IntMulOk.of_le (PySem.intBits_le_iff.mpr hc.1) (PySem.intBits_le_iff.mpr hc.2) (by decide))
theorem oo {j : Int} (h : mC j) : j.natAbs.log2 < 9000 := by
 by_cases h0 : j.natAbs = 0
 ·rw [h0]; decide +kernel
 ·have h1 : j.natAbs.log2 < 4000 := (Nat.log2_lt h0).mpr h
  omega
theorem bG : eG X (binaryOp .FloorDiv) (rI (fun _ j => 0 < j /\ mC j) fun i j => .int (i / j)) := CI fun i j _ _ _ _ _ hc q => by
 have h1 : (0 : Int) < j := hc.1
 exact floordiv_int (by omega) (by rw [Int.fdiv_eq_ediv_of_nonneg i (by omega)]; exact q) (.inl (PyProof.noPylong_of_log2 (oo hc.2)))
end
theorem iF : bootBuiltins "int" = some (.type "int") := by decide +kernel
theorem jA : bootBuiltins "bool" = some (.type "bool") := by decide +kernel
theorem mI : bootBuiltins "str" = some (.type "str") := by decide +kernel
theorem gu : bootBuiltins "list" = some (.type "list") := by decide +kernel
theorem aU : bootBuiltins "tuple" = some (.type "tuple") := by decide +kernel
theorem iT : bootBuiltins "abs" = some (.builtin "abs") := by decide +kernel
theorem bj : bootBuiltins "isinstance" = some (.builtin "isinstance") := by decide +kernel
inductive Tg where
 | non | bl | int | str | tup | lst | dic
noncomputable def Cr (K : Fg) (H : Hp) : V -> Tg -> Prop
 | .non, .non => True
 | .bl _, .bl => True
 | .int _, .int => True
 | .str _, .str => True
 | .ref a, .tup => ∃ xs, ci K H a xs
 | .ref a, .lst => ∃ xs, cg K H a xs
 | .ref a, .dic => ∃ kvs, H a = some (.dK kvs)
 | _, _ => False
noncomputable def Tg.isInt : Tg -> Bool
 | .int => true | .bl => true | _ => false
noncomputable def Tg.isBool : Tg -> Bool
 | .bl => true | _ => false
noncomputable def Tg.isStr : Tg -> Bool
 | .str => true | _ => false
noncomputable def Tg.isTup : Tg -> Bool
 | .tup => true | _ => false
noncomputable def Tg.isLst : Tg -> Bool
 | .lst => true | _ => false
noncomputable def gZ (K : Fg) (n : String) (f : Tg -> Bool) : List V -> Hp -> VK -> Prop := fun xs H Q => ∃ x g, xs = [x, .ty n] /\ Cr K H x g /\ Q (.bl (f g)) H
section
variable {X : Cx}
theorem jT {n : String} {f : Tg -> Bool}
  (h1 : ∀ {A : Around} {E : Value -> Shared -> Prop} {s : Shared} {Q : Value -> Shared -> Prop}, (∀ t, Q (.bool (f .non)) { s with toks := t }) -> wpAny (model X.prog X.w) A (call (.builtin "isinstance") [.none, .type n]) Q E s)
  (h2 : ∀ {A : Around} {E : Value -> Shared -> Prop} {s : Shared} {Q : Value -> Shared -> Prop} {b : Bool}, (∀ t, Q (.bool (f .bl)) { s with toks := t }) -> wpAny (model X.prog X.w) A (call (.builtin "isinstance") [.bool b, .type n]) Q E s)
  (h3 : ∀ {A : Around} {E : Value -> Shared -> Prop} {s : Shared} {Q : Value -> Shared -> Prop} {b : Int} {u : Tok}, (∀ t, Q (.bool (f .int)) { s with toks := t }) -> wpAny (model X.prog X.w) A (call (.builtin "isinstance") [.int b u, .type n]) Q E s)
  (h4 : ∀ {A : Around} {E : Value -> Shared -> Prop} {s : Shared} {Q : Value -> Shared -> Prop} {b : Str} {u : Tok}, (∀ t, Q (.bool (f .str)) { s with toks := t }) -> wpAny (model X.prog X.w) A (call (.builtin "isinstance") [.str b u, .type n]) Q E s)
  (h5 : ∀ {A : Around} {E : Value -> Shared -> Prop} {s : Shared} {Q : Value -> Shared -> Prop} {a : Addr} {o : Obj}, s.heap.get? a = some o -> o.cls = .type "tuple" -> (∀ t, Q (.bool (f .tup)) { s with toks := t }) -> wpAny (model X.prog X.w) A (call (.builtin "isinstance") [.ref a, .type n]) Q E s)
  (h6 : ∀ {A : Around} {E : Value -> Shared -> Prop} {s : Shared} {Q : Value -> Shared -> Prop} {a : Addr} {o : Obj}, s.heap.get? a = some o -> o.cls = .type "list" -> (∀ t, Q (.bool (f .lst)) { s with toks := t }) -> wpAny (model X.prog X.w) A (call (.builtin "isinstance") [.ref a, .type n]) Q E s)
  (h7 : ∀ {A : Around} {E : Value -> Shared -> Prop} {s : Shared} {Q : Value -> Shared -> Prop} {a : Addr} {o : Obj}, s.heap.get? a = some o -> o.cls = .type "dict" -> (∀ t, Q (.bool (f .dic)) { s with toks := t }) -> wpAny (model X.prog X.w) A (call (.builtin "isinstance") [.ref a, .type n]) Q E s) :
  bY X (.builtin "isinstance") (gZ X.K n f) := by
 intro pins s σ H xs us Q I r h
 obtain ⟨x, g, rfl, e, q⟩ := h
 obtain ⟨u, w, rfl, rx, rw'⟩ := nL r
 cases rw'
 have fin : ∀ k : Bool, Q (.bl k) H -> ∀ t, EP X pins σ Q (.bool k) { s with toks := t } := fun k q t => ⟨.bl k, H, I.tok t, rfl, q⟩
 cases x with
 | non => cases g <;> first | exact (show False from e).elim | (cases rx; exact h1 (fin _ q))
 | bl b => cases g <;> first | exact (show False from e).elim | (cases rx; exact h2 (fin _ q))
 | int i => cases g <;> first | exact (show False from e).elim | (obtain ⟨t, rfl⟩ := rx; exact h3 (fin _ q))
 | str y => cases g <;> first | exact (show False from e).elim | (obtain ⟨t, rfl⟩ := rx; exact h4 (fin _ q))
 | ref a =>
  cases rx
  cases g with
  | tup =>
   obtain ⟨xs, hx⟩ := (show ∃ xs, ci X.K H a xs from e)
   obtain ⟨its, _, ⟨o, ho, hc, _⟩, _⟩ := I.tuple hx
   exact h5 ho hc (fin _ q)
  | lst =>
   obtain ⟨xs, hx⟩ := (show ∃ xs, cg X.K H a xs from e)
   obtain ⟨its, _, ⟨o, n, ho, hc, _⟩, _⟩ := I.list hx
   exact h6 ho hc (fin _ q)
  | dic =>
   obtain ⟨kvs, hx⟩ := (show ∃ kvs, H a = some (.dK kvs) from e)
   obtain ⟨_, _, vs, _, o, es, ep, ho, hc, _⟩ := (show bz X.prog X.w H s.heap a (.dK kvs) from I.hok a _ hx)
   exact h7 ho hc.1 (fin _ q)
  | non => exact (show False from e).elim
  | bl => exact (show False from e).elim
  | int => exact (show False from e).elim
  | str => exact (show False from e).elim
 | _ => exact (show False from e).elim
theorem rK : bY X (.builtin "isinstance") (gZ X.K "int" Tg.isInt) := jT (fun q => IsiPair.NoneType_int (q _)) (fun q => IsiPair.bool_int (q _)) (fun q => IsiPair.int_int (q _)) (fun q => IsiPair.str_int (q _))
 (fun ho hc q => call_isinstance (isinstance_false_tuple (by decide) PySem.F.isi_meta_int PySem.F.sub_tuple_int) ⟨⟨_, ho, hc⟩, q _⟩) (fun ho hc q => call_isinstance (isinstance_false_list (by decide) PySem.F.isi_meta_int PySem.F.sub_list_int) ⟨⟨_, ho, hc⟩, q _⟩) (fun ho hc q => call_isinstance (isinstance_false_dict (by decide) PySem.F.isi_meta_int PySem.F.sub_dict_int) ⟨⟨_, ho, hc⟩, q _⟩)
theorem ix : bY X (.builtin "isinstance") (gZ X.K "bool" Tg.isBool) := jT (fun q => IsiPair.NoneType_bool (q _)) (fun q => IsiPair.bool_bool (q _)) (fun q => IsiPair.int_bool (q _)) (fun q => IsiPair.str_bool (q _))
 (fun ho hc q => call_isinstance (isinstance_false_tuple (by decide) PySem.F.isi_meta_bool PySem.F.sub_tuple_bool) ⟨⟨_, ho, hc⟩, q _⟩) (fun ho hc q => call_isinstance (isinstance_false_list (by decide) PySem.F.isi_meta_bool PySem.F.sub_list_bool) ⟨⟨_, ho, hc⟩, q _⟩) (fun ho hc q => call_isinstance (isinstance_false_dict (by decide) PySem.F.isi_meta_bool PySem.F.sub_dict_bool) ⟨⟨_, ho, hc⟩, q _⟩)
theorem jv : bY X (.builtin "isinstance") (gZ X.K "str" Tg.isStr) := jT (fun q => IsiPair.NoneType_str (q _)) (fun q => IsiPair.bool_str (q _)) (fun q => IsiPair.int_str (q _)) (fun q => IsiPair.str_str (q _))
 (fun ho hc q => call_isinstance (isinstance_false_tuple (by decide) PySem.F.isi_meta_str PySem.F.sub_tuple_str) ⟨⟨_, ho, hc⟩, q _⟩) (fun ho hc q => call_isinstance (isinstance_false_list (by decide) PySem.F.isi_meta_str PySem.F.sub_list_str) ⟨⟨_, ho, hc⟩, q _⟩) (fun ho hc q => call_isinstance (isinstance_false_dict (by decide) PySem.F.isi_meta_str PySem.F.sub_dict_str) ⟨⟨_, ho, hc⟩, q _⟩)
theorem aW : bY X (.builtin "isinstance") (gZ X.K "tuple" Tg.isTup) := jT (fun q => IsiPair.NoneType_tuple (q _)) (fun q => IsiPair.bool_tuple (q _)) (fun q => IsiPair.int_tuple (q _)) (fun q => IsiPair.str_tuple (q _))
 (fun ho hc q => call_isinstance (isinstance_true (Tx := "tuple") PySem.F.isi_meta_tuple PySem.F.sub_tuple_tuple) ⟨⟨_, ho, hc⟩, q _⟩) (fun ho hc q => call_isinstance (isinstance_false_list (by decide) PySem.F.isi_meta_tuple PySem.F.sub_list_tuple) ⟨⟨_, ho, hc⟩, q _⟩) (fun ho hc q => call_isinstance (isinstance_false_dict (by decide) PySem.F.isi_meta_tuple PySem.F.sub_dict_tuple) ⟨⟨_, ho, hc⟩, q _⟩)
theorem kB : bY X (.builtin "isinstance") (gZ X.K "list" Tg.isLst) := jT (fun q => IsiPair.NoneType_list (q _)) (fun q => IsiPair.bool_list (q _)) (fun q => IsiPair.int_list (q _)) (fun q => IsiPair.str_list (q _))
 (fun ho hc q => call_isinstance (isinstance_false_tuple (by decide) PySem.F.isi_meta_list PySem.F.sub_tuple_list) ⟨⟨_, ho, hc⟩, q _⟩) (fun ho hc q => call_isinstance (isinstance_true (Tx := "list") PySem.F.isi_meta_list PySem.F.sub_list_list) ⟨⟨_, ho, hc⟩, q _⟩) (fun ho hc q => call_isinstance (isinstance_false_dict (by decide) PySem.F.isi_meta_list PySem.F.sub_dict_list) ⟨⟨_, ho, hc⟩, q _⟩)
theorem be {e : Expr} {te : TE} {n : Str} {T : String} {f : Tg -> Bool} {p p2 pos : Pos} (hc : bY X (.builtin "isinstance") (gZ X.K T f)) (hg : Gl X "isinstance") (hg2 : Gl X n) (hm : X.mg "isinstance" = none) (hm2 : X.mg n = none) (hb : bootBuiltins n = some (.type T)) (he : PE X e te)
  (hn : n ≠ "__name__" := by decide) (hd : (n == ("__debug__" : Str)) = false := by decide)
  (hs1 : starEach [e, .Name n p2] X.env = (false, eval e X.env) :: starEach [.Name n p2] X.env := by rfl) (hs2 : starEach [.Name n p2] X.env = (false, eval (.Name n p2) X.env) :: starEach [] X.env := by rfl)
  (hpl : (backTo pos (starEach [.Name n p2] X.env)).any (·.1) = false := by rfl) :
  PE X (.Call (.Name "isinstance" p) [e, .Name n p2] [] pos) (wc (gZ X.K T f) (cH te (cH (tC (.ty T)) tNil))) :=
 am hc hg hm bj (ac he (ac (rP (v := .ty T) hg2 hm2 hb rfl hn hd) aq hs2) hs1) (by decide) (by decide) hs1 hpl
end
noncomputable def Cm (lo c : Int) (n : Nat) : It := ⟨fun i _ => i < n, fun i H x H' => H' = H /\ x = .int (lo + (i : Nat) * c), fun i _ => n <= i⟩
theorem oI {P : Program} {w : World} {K : Fg} {tg : Expr} (it : Addr) (lo c : Int) (n : Nat) : pi P w K tg (Cm lo c n) [it] it (fun i h => IsRangeIter h it (lo + (i : Nat) * c) ((n : Int) - (i : Nat)) c) where
 mem := by simp
 obj := fun i h st b hb => by
  have e : b = it := by simpa using hb
  subst e
  exact ⟨_, st, fun v z => by
   have z' : Data.fields _ = Data.cell v := z
   cases z'⟩
 keep := fun i h h' st k => k it (by simp) _ st
 item := by
  intro X hP hw hK hc i pins s σ H E I hf st hg
  subst hP hw hK
  obtain ⟨f0, f1, f2, f3, f4, f5⟩ := hf it (by simp)
  have W := Walks.range (prog := X.prog) (w := X.w) (I.ok.hd hc) it lo c n
  refine W.item i s _ _ hg st fun v h' tk hv st' kk => ?_
  obtain ⟨t, rfl⟩ := hv
  have I1 : aJ X pins σ H { s with heap := h', toks := tk } := I.turned (fun b o hb e => kk b o (by simpa using hb) e) f0 f1 f3 f4 f5
  exact ⟨_, rfl, nJ (s := { s with heap := h', toks := tk }) (n := "range_iterator") st' rfl rfl (by decide) ⟨.int (lo + (i : Nat) * c), H, I1, ⟨t, rfl⟩, ⟨rfl, rfl⟩, st', fun b hb => (hf b hb).1⟩⟩
 done := by
  intro X hP hw hK hc i pins s σ H E I hf st hg
  subst hP hw hK
  obtain ⟨f0, f1, f2, f3, f4, f5⟩ := hf it (by simp)
  exact wpAny_pyNext_range_end (I.ok.hd hc) st (by have : n <= i := hg; omega) fun h' eb => ⟨rfl, I.turned (t' := s.toks) (fun b o hb e => eb b o hb e) f0 f1 f3 f4 f5⟩
 self := fun _ _ _ _ _ st h => wpAny_pyIter_rangeiter st h
noncomputable def pK (i j c : Int) : Nat := (Builtin.Range.rangeSize i j c).toNat
noncomputable def ye (ta : TA) : TI := fun σ H R => ta σ H fun vs H1 => ∃ i j c : Int, vs = [.int i, .int j, .int c] /\ 0 < c /\ c < 1073741824 /\ Builtin.Range.small i j c = true /\ R (Cm i c (pK i j c)) H1
theorem qO {i j c : Int} (hc : 0 < c) : 0 <= Builtin.Range.rangeSize i j c := by
 unfold Builtin.Range.rangeSize
 rw [if_pos hc]
 by_cases h : i < j
 ·rw [if_pos h]
  have := Int.ediv_nonneg (show 0 <= j - i - 1 by omega) (Int.le_of_lt hc)
  omega
 ·rw [if_neg h]; exact Int.le_refl _
section
variable {X : Cx} {tg : Expr}
theorem tu {a b c : Expr} {ta : TA} {p pos : Pos} (hg : Gl X "range") (hm : X.mg "range" = none) (ha : PA X [a, b, c] ta) (hs : starEach [a, b, c] X.env = (false, eval a X.env) :: starEach [b, c] X.env := by rfl) (hs2 : (backTo pos (starEach [b, c] X.env)).any (·.1) = false := by rfl) :
  PI X tg (.Call (.Name "range" p) [a, b, c] [] pos) (ye ta) := by
 intro pins s σ H R I h
 refine Call_ (iO I hg hm boot_range (PyProof.Rows.callWith_type1 (bQ (ha pos pins s σ H _ I h) fun us s1 ⟨vs, H1, I1, r1, q1⟩ => ?_) hs hs2))
 obtain ⟨i, j, d, e, h0, h1, hsm, q⟩ := q1
 subst e
 cases r1 with
 | cons r rr =>
  cases rr with
  | cons r' rr =>
   cases rr with
   | cons r'' rr =>
    cases rr
    obtain ⟨t, rfl⟩ := r
    obtain ⟨t', rfl⟩ := r'
    obtain ⟨t'', rfl⟩ := r''
    refine call_range_3 (Int.ne_of_gt h0) ?_ (.inl (PyProof.noPylong_small (by omega)))
    refine wpAny_pyIter_range (IsRange.new ..) hsm ?_
    have I2 : aJ X pins σ H1 { s1 with heap := s1.heap.push { cls := .type "range", data := .fields #[.int i t, .int j t', .int d t''] }, toks := s1.toks } := I1.kept fun b o e => Heap.get?_push_of_some _ e
    refine ⟨(s1.heap.push { cls := .type "range", data := .fields #[.int i t, .int j t', .int d t''] }).objs.size, [(s1.heap.push { cls := .type "range", data := .fields #[.int i t, .int j t', .int d t''] }).objs.size], _, _, H1, rfl,
     I2.kept (t' := s1.toks) fun b o e => Heap.get?_push_of_some _ e, oI _ i d (pK i j d), ?_, fun b hb => ?_, q⟩
    ·have e1 : i + ((0 : Nat) : Int) * d = i := by simp
     have e2 : ((pK i j d : Nat) : Int) - ((0 : Nat) : Int) = Builtin.Range.rangeSize i j d := by
      have := qO (i := i) (j := j) h0
      unfold pK
      omega
     show IsRangeIter _ _ (i + ((0 : Nat) : Int) * d) (((pK i j d : Nat) : Int) - ((0 : Nat) : Int)) d
     rw [e1, e2]
     exact Heap.get?_push_size _ rfl
    ·have e : b = (s1.heap.push { cls := .type "range", data := .fields #[.int i t, .int j t', .int d t''] }).objs.size := by simpa using hb
     subst e
     exact I2.fpOk (Nat.le_refl _) (I2.hok.fresh (Nat.le_refl _))
end
theorem aF.new {H : Hp} {p : Addr} (h : H p = none) (o : HO) : aF H (upd H p o) := fun b u q => by rw [aE (dm q h)]; exact q
theorem aF.tup {K : Fg} {H H' : Hp} {a : Addr} {xs : List V} (e : aF H H') (h : ci K H a xs) : ci K H' a xs := by
 rcases h with (h | ⟨o, h⟩) | h
 ·exact .inl (.inl (e _ _ h))
 ·exact .inl (.inr ⟨o, e _ _ h⟩)
 ·exact .inr h
structure pA (K : Fg) (x qual : Str) (st : Stmt) (f : Addr) (fd : FuncData) : Prop where
 ex : ∃ (oc : Value) (od : Option Addr) (dV kV doc pm : Value) (an : Option Addr) (cdv ct : Value) (osl : Array (Option Value)),
  fd = PySem.W.fnOf x qual (dI st) (cr st) (ae st) dV kV doc pm an cdv ct /\ K.lookup f = some ⟨oc, od, .func fd, osl⟩ /\ PySem.W.codeIn K cdv qual = true
 kp : PySem.W.keepIn K (.ref f) = true
theorem vR.toD {K : Fg} {x qual : Str} {st : Stmt} {f : Addr} {fd : FuncData} (F : vR K x qual st f fd) : pA K x qual st f fd := by
 obtain ⟨oc, od, kV, doc, pm, an, cdv, ct, osl, e, l, c⟩ := F.ex
 exact ⟨⟨oc, od, .none, kV, doc, pm, an, cdv, ct, osl, e, l, c⟩, F.kp⟩
section
variable {X : Cx}
end
end L2
namespace PySem
theorem Obj.dict_mapFields (o : Obj) (f : Array Value -> Array Value) : (Obj.mapFields f o).dict = o.dict := by
 obtain ⟨c, d, dt, sl⟩ := o
 cases dt <;> rfl
noncomputable def Heap.TrX (h base : Heap) (e : Addr) (cls : Value) (dx : Option Addr) (fl : Value) : Prop :=
 ∃ (x : Obj) (vs : Array Value) (T : Addr) (y : Obj) (ts : Array Value), h.get? e = some x /\ (x.cls = cls /\ x.dict = dx /\ (dx = none -> vs[2]? = some .none)) /\ x.data = .fields vs /\ vs[1]? = some (.ref T) /\ base.get? T = none /\ T ≠ e /\
  h.get? T = some y /\ y.data = .fields ts /\ ts[3]? = some fl
noncomputable def Heap.OnX (base : Heap) (l : List Env) (e : Addr) (cls : Value) (dx : Option Addr) (fl : Value) (h : Heap) : Prop := base.StaysIn h /\ base.get? e = none /\ h.FunFrames base l /\ h.TrX base e cls dx fl
noncomputable abbrev Heap.FlyX (base : Heap) (l : List Env) (e : Addr) (cls : Value) (dx : Option Addr) (h : Heap) : Prop := Heap.OnX base l e cls dx .none h
section
variable {M : Model} {A : Around} {E : Value -> Shared -> Prop} {s : Shared} {base : Heap} {env : Env} {outer l : List Env} {L e : Addr} {cls : Value} {dx : Option Addr} {Q : Unit -> Shared -> Prop}
theorem Heap.OnX.there {h : Heap} {fl : Value} (z : Heap.OnX base l e cls dx fl h) : ∃ ob, h.get? e = some ob /\ ob.cls = cls := by
 obtain ⟨_, _, _, x, _, _, _, _, he, hc, _⟩ := z
 exact ⟨x, he, hc.1⟩
theorem noteX {x : Obj} {vs : Array Value} {head : Value} {more : Bool} (hA : A.frames = some (env :: outer)) (hF : s.heap.FunFrames base (env :: outer)) (hL : env.frame = some L)
  (hx : s.heap.get? e = some x) (hB : base.StaysIn s.heap) (hn : base.get? e = none) (hv : x.data = .fields vs) (h2 : 1 < vs.size) (hc2 : x.dict = none -> vs[2]? = some .none)
  (k : ∀ h', Heap.OnX base (env :: outer) e x.cls x.dict (rawInt L) h' -> s.heap.UpToSlots h' -> Q () { s with heap := h' }) :
  wpAny M A (do let a <- frameOf env; let pl <- entryPlaceOf L more; let b <- EntryCells.newEntry head a .none (rawInt L) .none pl; setField (.ref e) 1 b) Q E s := by
 have out : e ∉ (env :: outer).filterMap (·.frame) := fun z => by
  obtain ⟨_, o, ho, hnf⟩ := hF.mem z
  rw [hx] at ho; cases ho; exact hnf vs hv
 refine wpAny_bind (wpAny_frameOf_fun hA hF hL fun g sg => ?_)
 refine wpAny_bind (wpAny_entryPlaceOf fun pl hpl => ?_)
 unfold EntryCells.newEntry newFields
 refine wpAny_bind (wpAny_newObj_type ?_ (hpl.sizeOk5 _ _ _ _ _))
 have x1 : g.get? e = some x := (sg.2.1 e out).trans hx
 have B1 : base.StaysIn g := fun b o q => (sg.2.1 b fun z => by rw [(hF.mem z).1] at q; cases q).trans (hB b o q)
 have x2 := Heap.get?_push_of_some (h := g) { cls := .type "traceback", dict := none, data := .fields ([head, .ref L, .none, rawInt L, .none] ++ (if pl.isEmpty then List.replicate 6 Value.none else pl)).toArray } x1
 refine wpAny_setField x2 hv h2 (k _ ?_ ?_)
 all_goals have neT : g.objs.size ≠ e := Nat.ne_of_gt (Heap.lt_size x1)
 all_goals have kp : ∀ b o, b ≠ e -> g.get? b = some o -> ((g.push { cls := .type "traceback", dict := none, data := .fields ([head, .ref L, .none, rawInt L, .none] ++ (if pl.isEmpty then List.replicate 6 Value.none else pl)).toArray }).update e (Obj.mapFields (·.setIfInBounds 1 (Value.ref g.objs.size)))).get? b = some o := fun b o hb q => (Heap.get?_update_other _ _ (Ne.symm hb)).trans (Heap.get?_push_of_some _ q)
 all_goals have nr : ∀ b o, s.heap.get? b = some o -> (∀ vs, o.data ≠ .fields vs) -> b ≠ e := fun b o q hnf z => by rw [z, hx] at q; cases q; exact hnf vs hv
 ·have hv3 := Obj.data_mapFields hv (·.setIfInBounds 1 (Value.ref g.objs.size))
  refine ⟨fun b o q => kp b o (fun z => by rw [z, hn] at q; cases q) (B1 b o q), hn, hF.of_keeps fun b o q hnf => ?_, ?_⟩
  ·obtain ⟨sl, q2⟩ := sg.2.2 b o q
   exact ⟨_, kp b _ (nr b o q hnf) q2, rfl⟩
  ·exact ⟨_, _, g.objs.size, _, _, Heap.get?_update_self _ x2 (Obj.isFreed_of_fields hv3), ⟨Obj.cls_mapFields _ _, Obj.dict_mapFields _ _, fun z => by rw [Array.getElem?_setIfInBounds_ne (by decide)]; exact hc2 z⟩, hv3, by simp [h2], B1.fresh, neT, (Heap.get?_update_other _ _ (Ne.symm neT)).trans (Heap.get?_push_size g rfl), rfl, by
    first | (simp; done) | (rcases hpl with rfl | ⟨_, _, _, _, _, _, _, rfl⟩ <;> simp)⟩
 ·intro b o q hnf
  obtain ⟨sl, q2⟩ := sg.2.2 b o q
  exact ⟨sl, kp b _ (nr b o q hnf) q2⟩
theorem looksX (hA : A.frames = some (env :: outer)) (hL : env.frame = some L) (z : Heap.FlyX base (env :: outer) e cls dx s.heap)
  (k : ∀ h', Heap.OnX base (env :: outer) e cls dx (rawInt L) h' -> s.heap.UpToSlots h' -> Q () { s with heap := h' }) : wpAny M A (noteFrame (.ref e) env) Q E s := by
 obtain ⟨hB, hn, hF, x, vs, T, y, ts, hx, ⟨hc, hd, hc2⟩, hv, h1, nT, Te, hT, hy, h3⟩ := z
 subst hc hd
 unfold noteFrame
 simp only [hL]
 refine wpAny_bind (wpAny_field hx hv h1 ?_)
 rw [if_pos (show (Value.ref T != Value.none) = true from by simp)]
 refine wpAny_bind (wpAny_field hT hy h3 ?_)
 rw [if_neg (show ¬ ((Value.none == rawInt L) = true) from by simp [rawInt])]
 refine wpAny_bind (wpAny_setField hT hy (Array.getElem?_eq_some_iff.mp h3).1 ?_)
 have ot : ∀ b, b ≠ T -> (s.heap.update T (Obj.mapFields (·.setIfInBounds 3 Value.none))).get? b = s.heap.get? b := fun b hb => Heap.get?_update_other _ _ (Ne.symm hb)
 have nr : ∀ b o, s.heap.get? b = some o -> (∀ vs, o.data ≠ .fields vs) -> b ≠ T := fun b o q hnf z => by rw [z, hT] at q; cases q; exact hnf ts hy
 exact noteX (s := { s with heap := s.heap.update T (Obj.mapFields (·.setIfInBounds 3 Value.none)) }) hA (hF.of_keeps fun b o q hnf => ⟨o, (ot b (nr b o q hnf)).trans q, rfl⟩) hL ((ot e (Ne.symm Te)).trans hx)
  (fun b o q => (ot b fun z => by rw [z, nT] at q; cases q).trans (hB b o q)) hn hv (Array.getElem?_eq_some_iff.mp h1).1 hc2 fun h' z us => k h' z fun b o q hnf => us b o ((ot b (nr b o q hnf)).trans q) hnf
theorem landsX {fl : Value} (z : Heap.OnX base l e cls dx fl s.heap) (k : ∀ h', Heap.FlyX base l e cls dx h' -> s.heap.UpToSlots h' -> Q () { s with heap := h' }) : wpAny M A (setFlight (.ref e) none) Q E s := by
 obtain ⟨hB, hn, hF, x, vs, T, y, ts, hx, hc, hv, h1, nT, Te, hT, hy, h3⟩ := z
 have ot : ∀ b, b ≠ T -> (s.heap.update T (Obj.mapFields (·.setIfInBounds 3 ((none : Option Addr).elim Value.none fun f => rawInt f)))).get? b = s.heap.get? b := fun b hb => Heap.get?_update_other _ _ (Ne.symm hb)
 have nr : ∀ b o, s.heap.get? b = some o -> (∀ vs, o.data ≠ .fields vs) -> b ≠ T := fun b o q hnf z => by rw [z, hT] at q; cases q; exact hnf ts hy
 have sz := (Array.getElem?_eq_some_iff.mp h3).1
 unfold setFlight
 refine wpAny_bind (wpAny_field hx hv h1 ?_)
 rw [if_pos (show (Value.ref T != Value.none) = true from by simp)]
 refine wpAny_setField hT hy sz (k _ ⟨fun b o q => (ot b fun z => by rw [z, nT] at q; cases q).trans (hB b o q), hn, hF.of_keeps fun b o q hnf => ⟨o, (ot b (nr b o q hnf)).trans q, rfl⟩,
  x, vs, T, _, _, (ot e (Ne.symm Te)).trans hx, hc, hv, h1, nT, Te, Heap.get?_update_self _ hT (Obj.isFreed_of_fields (Obj.data_mapFields hy _)), Obj.data_mapFields hy _, by simp [sz]⟩
  fun b o q hnf => ⟨o.slots, (ot b (nr b o q hnf)).trans q⟩)
end
end PySem
namespace L2
open PySem PySem.Spec PyProof.Rows
noncomputable def hI (P : Program) (w : World) : CXT := fun outer H s E e s' => ∃ (a C : Addr) (dx : Option Addr) (H' : Hp) (B : Heap),
 e = .ref a /\ s'.os = s.os /\ AllBare s'.gens /\ Un (dW outer) [] H H' s.heap s'.heap /\ iX P w H' B /\ Heap.FlyX B outer a (.ref C) dx s'.heap /\
 (∀ b o, s.heap.get? b = some o -> H b = none -> b ∉ dW outer -> B.get? b = some o) /\ (∀ b o, s.heap.get? b = some o -> b ∉ dW outer -> ∃ o', B.get? b = some o') /\ E (.ref C) dx H'
section
variable {P : Program} {w : World} {K : Fg} {mg : Str -> Option Value} {base : Heap} {N : List Str} {qual : Str} {scope : Scope} {f : Addr} {cd : Value} {A : Around} {outer : List Env} {s : Shared} {H : Hp} {E : XK}
 {pins : Pn} {σ : St} {H1 : Hp} {s1 : Shared}
theorem xu {CX : CXT} {b : Addr} : b ∈ dW (cI CX P w K mg base N qual scope f cd A outer s H E).stack ↔ b = s.heap.objs.size ∨ b ∈ dW outer := by
 show b ∈ (envOfC qual scope s.heap.objs.size f cd :: outer).filterMap (·.frame) ↔ _
 rw [List.filterMap_cons]
 exact List.mem_cons
theorem pA.okE {x qual : Str} {st : Stmt} {f : Addr} {fd : FuncData} {N ps : List Str} {k : Nat} {sp : Sp} (F : pA K x qual st f fd) (S : aB N ps (ae st)) (len : ∀ vs H Q E, sp vs H Q E -> vs.length = ps.length)
  (hbody : ∀ (cdv : Value) (A : Around) (outer : List Env) (s : Shared) (H : Hp) (vs : List V) (Q : VK) (E : XK), cU k (A.deeper (envOfC qual (ae st) s.heap.objs.size f cdv)) -> sp vs H Q E ->
   ∃ t, nA (cI (hI P w) P w K mg base N qual (ae st) f cdv A outer s H E) (cr st) t /\ t { nx := fun _ H' => Q .non H', rt := Q } (cT N vs) H) : dR P w K mg base (hI P w) (k + 1) f fd ps sp := by
 obtain ⟨oc, od, dV, kV, doc, pm, an, cdv, ct, osl, rfl, lk, hcd⟩ := F.ex
 exact xI lk hcd S len fun A outer s H vs Q E hr hsp => hbody cdv A outer s H vs Q E hr hsp
end
noncomputable abbrev su : List Value := [.type "ValueError", .type "Exception", .type "BaseException", .type "object"]
section
variable {X : Cx} {E : XK} {x : Str} {np cpos pos : Pos} {e0 : Expr} {es : List Expr} {t : TA} {C : Addr}
end
noncomputable abbrev Cx.marked (X : Cx) (a : Addr) : Cx := { X with A := X.A.mark (some (.ref a)), calm := false }
section
variable {X : Cx} {pins : Pn} {σ : St} {H H' : Hp} {s s' : Shared}
theorem Cx.Ok.marked (ok : X.Ok) (a : Addr) : (X.marked a).Ok :=
 ⟨ok.mod, ok.kind, ok.glob, ok.blt, ok.above, ok.inj, ok.has, ok.cab, (fun z => nomatch z), ok.frames, ok.stk, ok.exf, ok.bs, ok.bsz, ok.noex, ok.exfs, ok.funs, ok.frf⟩
theorem aJ.marked (I : aJ X pins σ H s) (a : Addr) : aJ (X.marked a) pins σ H s := ⟨I.ok.marked a, I.os, I.bare, I.base, I.loc, I.cell, I.free, I.freeC, I.pin, I.hok, I.len⟩
theorem aJ.unmarked {a : Addr} (I : aJ (X.marked a) pins σ H s) (ok : X.Ok) : aJ X pins σ H s := ⟨ok, I.os, I.bare, I.base, I.loc, I.cell, I.free, I.freeC, I.pin, I.hok, I.len⟩
theorem aJ.flown {B h2 : Heap} (I : aJ X pins σ H s) (os : s'.os = s.os) (bare : AllBare s'.gens) (un : Un (dW X.stack) [] H H' s.heap s'.heap) (hB : iX X.prog X.w H' B) (ff : s'.heap.FunFrames B X.stack)
  (kU : ∀ b o, s.heap.get? b = some o -> H b = none -> b ∉ dW X.stack -> B.get? b = some o) (kT : ∀ b o, s.heap.get? b = some o -> b ∉ dW X.stack -> ∃ o', B.get? b = some o') (st : B.StaysIn h2) (us : s'.heap.UpToSlots h2) :
  aJ X pins σ H' { s' with heap := h2 } := by
 have cs : ∀ b ∈ dW X.stack, ∀ o, s'.heap.get? b = some o -> ∃ sl, h2.get? b = some { o with slots := sl } := fun b hb o e => by
  obtain ⟨_, o', e', hd⟩ := ff.mem hb
  rw [e] at e'; cases e'
  exact us b o e hd
 have u2 : Un (dW X.stack) [] H H' s.heap h2 := {
  keep := fun b o e n hb _ => st b o (kU b o e n hb)
  slot := fun b o e n hb hx => by
   obtain ⟨sl, e1⟩ := un.slot b o e n hb hx
   obtain ⟨sl', e2⟩ := cs b hb _ e1
   exact ⟨sl', e2⟩
  free := un.free
  there := fun b o e hx => by
   by_cases hb : b ∈ dW X.stack
   ·obtain ⟨o2, e2⟩ := un.there b o e hx
    obtain ⟨sl, e3⟩ := cs b hb _ e2
    exact ⟨_, e3⟩
   ·obtain ⟨o2, e2⟩ := kT b o e hb
    exact ⟨o2, st b o2 e2⟩
  tups := un.tups
  frzs := un.frzs
  tbls := un.tbls }
 obtain ⟨hh, g, d, t, os'⟩ := s'
 obtain rfl : os' = s.os := os
 show aJ X pins σ H' { s with heap := h2, gens := g, drawn := d, toks := t }
 exact I.call (h' := h2) (g' := g) (d' := d) (t' := t) (ch := []) u2 (hB.kept st) bare (fun b z => absurd z (by simp))
end
structure vg (X : Cx) (x : Str) (T : Addr) (C : Addr) (b : Bool) : Prop where
 gl : Gl X x
 m : X.mg x = some (.ref T)
 ex : PySem.W.exmOne X.K (.ref C) (.ref T) = some b
 db : (x == ("__debug__" : Str)) = false
section
variable {X : Cx} {pins : Pn} {σ : St} {H : Hp} {s s' : Shared} {E : XK} {ex : Value} {x : Str} {T : Addr} {np hpos : Pos} {b0 : Stmt} {suite : List Stmt} {ts : TS} {D : Ends} {Q0 : Hp -> Prop}
end
section
variable {X : Cx} {k : Nat} {f : Addr} {fd : FuncData} {ps : List Str} {sp : Sp} {dvs : List V} {ds : List Value} {fx x cx : Str} {p cpos px apos np hpos pos : Pos} {e : Expr} {es : List Expr} {t : TA} {T : Addr} {b0 : Stmt} {suite : List Stmt} {ts : TS} {i : Nat}
end
end L2
namespace L2
open PySem PySem.Spec PyProof.Rows
section
variable {prog : Program} {w : World} {A : Around} {R : Result -> Shared -> Prop} {s : Shared}
noncomputable abbrev NB (prog : Program) (w : World) (A : Around) (env : Env) (R : Result -> Shared -> Prop) : Value -> Shared -> Prop := notedBy (model prog w) A env fun e s' => R (.error e) s'
theorem AE {elt tg iter : Expr} {scope : Scope} {pos : Pos} {itv acc : Value} {env : Env} (J : Nat -> Shared -> Prop)
  (turn : ∀ n s, J n s -> wpAny (model prog w) A (pyNext itv) (fun r s1 => match r with
   | none => R (.ok .next) s1
   | some v => wpAny (model prog w) A (letOwnedTupleGo tg itv v) (fun _ s2 => wpAny (model prog w) A (assign tg env v) (fun _ s3 => wpAny (model prog w) A (eval elt env) (fun x s4 =>
     wpAny (model prog w) A (call (.builtin "list.append") [acc, x]) (fun _ s5 => ∃ m, m < n /\ J m s5) (NB prog w A env R) s4) (NB prog w A env R) s3) (NB prog w A env R) s2) (NB prog w A env R) s1) (NB prog w A env R) s)
  (n : Nat) (h : J n s) : codeAny (model prog w) A (.compLoop (.ListComp elt [⟨tg, iter, [], 0⟩] scope pos) 0 itv acc env) R s := by
 refine codeAny_loop rfl J (fun n s hJ => ?_) n h
 show wpAny _ _ ((compTurn (.ListComp elt [⟨tg, iter, [], 0⟩] scope pos) 0 itv acc env).onRaise (fun x => do noteFrame x env; theTreesLotGoes x)) _ _ s
 refine wpAny_noted ?_
 rw [compTurn_list1]
 refine wpAny_bind (wpAny_standAt (wpAny_bind (wpAny_mono (turn n s hJ) (fun r s1 z => ?_) fun _ _ q => q)))
 match r, z with
 | none, z => exact wpAny_pure z
 | some v, z =>
  exact wpAny_bind (wpAny_mono z (fun _ s2 z => wpAny_bind (wpAny_mono z (fun _ s3 z => wpAny_bind (wpAny_bind (wpAny_mono z (fun x s4 z =>
   wpAny_bind (wpAny_mono z (fun _ s5 z => wpAny_pure (wpAny_pure ⟨rfl, z⟩)) fun _ _ q => q)) fun _ _ q => q))) fun _ _ q => q)) fun _ _ q => q)
end
theorem fm {env : Env} : ∀ (names : List (Str × NameKind)) (acc : List (Str × Addr)), (∀ y ∈ names, y.2 = .free -> ∃ c, env.cells.lookup y.1 = some c) -> (∀ x c, acc.lookup x = some c -> env.cells.lookup x = some c) ->
  ∃ cl, (forIn names acc (fun (x : Str × NameKind) cs => if (x.2 == NameKind.free) = true then (do let __do_lift <- cellOf env x.1; pure (ForInStep.yield ((x.1, __do_lift) :: cs))) else pure (ForInStep.yield cs)) : Sem (List (Str × Addr))) = pure cl /\
   (∀ x c, cl.lookup x = some c -> env.cells.lookup x = some c) /\ (∀ x, (∃ c, acc.lookup x = some c) -> ∃ c, cl.lookup x = some c) /\ ∀ y ∈ names, y.2 = .free -> ∃ c, cl.lookup y.1 = some c
 | [], acc, _, ha => ⟨acc, rfl, ha, fun _ h => h, fun _ h => nomatch h⟩
 | y :: r, acc, hn, ha => by
  by_cases hf : y.2 = .free
  ·obtain ⟨c, hc⟩ := hn y List.mem_cons_self hf
   obtain ⟨cl, e, h1, h2, h3⟩ := fm r ((y.1, c) :: acc) (fun z hz => hn z (List.mem_cons_of_mem _ hz)) (fun x d e => by
    rw [List.lookup_cons] at e
    cases q : x == y.1 with
    | true => rw [q] at e; cases e; rw [eq_of_beq q]; exact hc
    | false => rw [q] at e; exact ha x d e)
   refine ⟨cl, ?_, h1, fun x ⟨d, hd⟩ => h2 x ?_, fun z hz zf => ?_⟩
   ·rw [List.forIn_cons, if_pos (by rw [hf]; rfl)]
    have ec : cellOf env y.1 = pure c := by unfold cellOf; rw [hc]
    rw [ec]
    exact e
   ·rw [List.lookup_cons]
    cases q : x == y.1 with
    | true => exact ⟨c, rfl⟩
    | false => exact ⟨d, hd⟩
   ·rcases List.mem_cons.mp hz with z1 | z1
    ·subst z1
     exact h2 z.1 ⟨c, by rw [List.lookup_cons, beq_self_eq_true]⟩
    ·exact h3 z z1 zf
  ·obtain ⟨cl, e, h1, h2, h3⟩ := fm r acc (fun z hz => hn z (List.mem_cons_of_mem _ hz)) ha
   refine ⟨cl, ?_, h1, h2, fun z hz zf => ?_⟩
   ·rw [List.forIn_cons, if_neg (by simpa using hf)]
    exact e
   ·rcases List.mem_cons.mp hz with z1 | z1
    ·subst z1; exact absurd zf hf
    ·exact h3 z z1 zf
theorem kn {env : Env} {sc : Scope} (h : ∀ y ∈ sc.names, y.2 = .free -> ∃ c, env.cells.lookup y.1 = some c) :
  ∃ cl, closureFor sc env = pure cl /\ (∀ x c, cl.lookup x = some c -> env.cells.lookup x = some c) /\ ∀ y ∈ sc.names, y.2 = .free -> ∃ c, cl.lookup y.1 = some c := by
 obtain ⟨cl, e, h1, _, h3⟩ := fm sc.names [] h (fun x c e => by simp at e)
 refine ⟨cl, ?_, h1, h3⟩
 unfold closureFor
 simp only [e]
 rfl
structure qL (X : Cx) (tg : Str) (sc : Scope) (fr : List (Str × Nat)) : Prop where
 kind : sc.kind = .function
 nocell : ∀ y ∈ sc.names, y.2 ≠ .cell
 locs : ∀ y ∈ sc.names, y.2 = .local -> sc.names.lookup y.1 = some .local
 tgl : sc.names.lookup tg = some .local
 fre : ∀ y ∈ sc.names, y.2 = .free -> X.env.scope.names.lookup y.1 = some .cell ∨ X.env.scope.names.lookup y.1 = some .free
 nd : (tg :: fr.map (·.1)).Nodup
 vis : ∀ p ∈ fr, X.N[p.2]? = some p.1 /\ (X.env.scope.names.lookup p.1 = some .cell ∨ X.env.scope.names.lookup p.1 = some .free) /\ sc.names.lookup p.1 = some .free
noncomputable abbrev Cx.blk (X : Cx) (Nc : List Str) (sc : Scope) (cl : List (Str × Addr)) (C : Addr) (s3 : Shared) (H3 : Hp) (fp : List Addr) : Cx :=
 { X with N := Nc, s₀ := s3, H₀ := H3, env := compEnvC sc cl C X.env, outer := X.stack, ex := fp, fn := fun _ => false, pn := [], xe := fun _ _ => False }
theorem fk {env : Env} : ∀ {names : List (Str × NameKind)} {x : Str} {k : NameKind}, (∀ y ∈ names, y.2 ≠ .cell) -> (k = .cell ∨ k = .free) ->
  (names.map fun (n, k) => if (k == NameKind.free && env.scope.kind == .function && env.kindOf n == some .cell) then (n, NameKind.cell) else (n, k)).lookup x = some k -> ∃ y ∈ names, y.1 = x /\ y.2 = .free
 | [], _, _, _, _, e => by simp at e
 | (n, k') :: r, x, k, hn, hk, e => by
  have ih := @fk env r x k (fun y hy => hn y (List.mem_cons_of_mem _ hy)) hk
  rw [List.map_cons] at e
  by_cases hc : (k' == NameKind.free && env.scope.kind == .function && env.kindOf n == some .cell) = true
  ·simp only [hc, if_true, List.lookup_cons] at e
   cases q : x == n with
   | true =>
    have hf : k' = .free := by
     simp only [Bool.and_eq_true, beq_iff_eq] at hc
     exact hc.1.1
    exact ⟨(n, k'), List.mem_cons_self, (eq_of_beq q).symm, hf⟩
   | false =>
    rw [q] at e
    obtain ⟨y, h1, h2⟩ := ih e
    exact ⟨y, List.mem_cons_of_mem _ h1, h2⟩
  ·simp only [hc, Bool.false_eq_true, if_false, List.lookup_cons] at e
   cases q : x == n with
   | true =>
    rw [q] at e
    have ek : k' = k := Option.some.inj e
    rcases hk with z | z
    ·exact absurd (ek.trans z) (hn (n, k') List.mem_cons_self)
    ·exact ⟨(n, k'), List.mem_cons_self, (eq_of_beq q).symm, ek.trans z⟩
   | false =>
    rw [q] at e
    obtain ⟨y, h1, h2⟩ := ih e
    exact ⟨y, List.mem_cons_of_mem _ h1, h2⟩
theorem fc {env : Env} : ∀ {names : List (Str × NameKind)} {x : Str}, names.lookup x = some .free ->
  (names.map fun (n, k) => if (k == NameKind.free && env.scope.kind == .function && env.kindOf n == some .cell) then (n, NameKind.cell) else (n, k)).lookup x = some .cell ∨
  (names.map fun (n, k) => if (k == NameKind.free && env.scope.kind == .function && env.kindOf n == some .cell) then (n, NameKind.cell) else (n, k)).lookup x = some .free
 | [], _, e => by simp at e
 | (n, k') :: r, x, e => by
  have ih := @fc env r x
  rw [List.map_cons]
  rw [List.lookup_cons] at e
  by_cases hc : (k' == NameKind.free && env.scope.kind == .function && env.kindOf n == some .cell) = true
  ·simp only [hc, if_true, List.lookup_cons]
   cases q : x == n with
   | true => exact .inl rfl
   | false => rw [q] at e; exact ih e
  ·simp only [hc, Bool.false_eq_true, if_false, List.lookup_cons]
   cases q : x == n with
   | true => rw [q] at e; exact .inr e
   | false => rw [q] at e; exact ih e
section
variable {X : Cx} {pins : Pn} {σ : St} {H : Hp} {s3 s4 : Shared} {tg : Str} {sc : Scope} {fr : List (Str × Nat)} {fp : List Addr} {cl : List (Str × Addr)}
noncomputable def ib (σ : St) (fr : List (Str × Nat)) : St := fr.map fun p => (σ[p.2]?).join
end
section
variable {X : Cx} {elt iter : Expr} {x : Str} {px pos : Pos} {sc : Scope} {fr : List (Str × Nat)} {wi : TI} {te : TE}
end
end L2
namespace L2
open PySem PySem.Spec PyProof.Rows
section
variable {X : Cx}
theorem rM {vs : List Value} {ns : List Int} (h : IntsAre vs ns) : ∀ {j : Nat} {v : Value}, vs[j]? = some v -> ∃ n t, ns[j]? = some n /\ v = .int n t := by
 induction h with
 | nil => intro j v e; simp at e
 | cons n t h ih =>
  intro j v e
  cases j with
  | zero => exact ⟨n, t, rfl, (Option.some.inj e).symm⟩
  | succ j => exact ih e
theorem xa {ns ms : List Int} {e : Nat -> Bool} (he : ∀ j, j < ns.length -> j < ms.length -> e j = decide (ns[j]? = ms[j]?)) : ((List.range (min ns.length ms.length)).all e && ns.length == ms.length) = decide (ns = ms) := by
 by_cases h : ns = ms
 ·subst h
  rw [decide_eq_true rfl, Nat.min_self, beq_self_eq_true, Bool.and_true, List.all_eq_true]
  intro j hj
  have := List.mem_range.mp hj
  rw [he j this this, decide_eq_true rfl]
 ·rw [decide_eq_false h]
  by_cases hl : ns.length = ms.length
  ·rw [hl, Nat.min_self, beq_self_eq_true, Bool.and_true, Bool.eq_false_iff]
   intro z
   rw [List.all_eq_true] at z
   apply h
   apply List.ext_getElem?
   intro j
   by_cases hj : j < ms.length
   ·have q := z j (List.mem_range.mpr hj)
    rw [he j (by omega) hj] at q
    exact of_decide_eq_true q
   ·rw [List.getElem?_eq_none (by omega), List.getElem?_eq_none (by omega)]
  ·have : (ns.length == ms.length) = false := by simpa using hl
   rw [this, Bool.and_false]
noncomputable def Cy (K : Fg) (f : Bool -> Bool) : R2 := fun x y H Q => ∃ (a b : Addr) (ns ms : List Int), x = .ref a /\ y = .ref b /\ ci K H a (ns.map V.int) /\ ci K H b (ms.map V.int) /\ Q (.bl (f (decide (ns = ms)))) H
end
section
variable {X : Cx} {elt iter : Expr} {x : Str} {px pos : Pos} {sc : Scope} {fr : List (Str × Nat)} {wi : TI} {te : TE}
end
end L2
namespace L2
open PySem PySem.Spec PyProof.Rows
noncomputable def iu (osc : Scope) (N : List Str) (tg : Str) (sc : Scope) (fr : List (Str × Nat)) : Bool :=
 decide (sc.kind = .function) && (sc.names.all fun y => decide (y.2 ≠ .cell)) && (sc.names.all fun y => decide (y.2 ≠ .local) || decide (sc.names.lookup y.1 = some .local)) && decide (sc.names.lookup tg = some .local) &&
 (sc.names.all fun y => decide (y.2 ≠ .free) || decide (osc.names.lookup y.1 = some .cell) || decide (osc.names.lookup y.1 = some .free)) && decide ((tg :: fr.map (·.1)).Nodup) &&
 (fr.all fun p => decide (N[p.2]? = some p.1) && (decide (osc.names.lookup p.1 = some .cell) || decide (osc.names.lookup p.1 = some .free)) && decide (sc.names.lookup p.1 = some .free))
theorem bi {X : Cx} {tg : Str} {sc : Scope} {fr : List (Str × Nat)} {osc : Scope} {N : List Str} (ho : X.env.scope = osc) (hN : X.N = N) (h : iu osc N tg sc fr = true) : qL X tg sc fr := by
 subst ho hN
 unfold iu at h
 simp only [Bool.and_eq_true, decide_eq_true_eq, List.all_eq_true, Bool.or_eq_true] at h
 obtain ⟨⟨⟨⟨⟨⟨h1, h2⟩, h3⟩, h4⟩, h5⟩, h6⟩, h7⟩ := h
 refine ⟨h1, h2, fun y hy e => ?_, h4, fun y hy e => ?_, h6, fun p hp => ?_⟩
 ·rcases h3 y hy with z | z
  ·exact absurd e z
  ·exact z
 ·rcases h5 y hy with (z | z) | z
  ·exact absurd e z
  ·exact .inl z
  ·exact .inr z
 ·obtain ⟨⟨a, b⟩, c⟩ := h7 p hp
  exact ⟨a, b, c⟩
end L2
namespace L2
open PySem
end L2
namespace L2
open PySem
theorem vL {X : Cx} {es : List Expr} {t : TA} {i : Int} {j} {pos : Pos} (hr : PA X es t) : PA X (.Constant (.int i) j pos :: es) (cH (tC (.int i)) t) := ac au hr rfl
end L2
namespace L2
open PySem
noncomputable def mX : List Expr -> Option (List Int)
 | [] => some []
 | .Constant (.int i) _ _ :: es => (mX es).map (i :: ·)
 | _ :: _ => none
noncomputable def yb (ns : List Int) : TA := fun _ H Q => Q (ns.map V.int) H
theorem xo {X : Cx} {es : List Expr} (ns : List Int) (h : mX es = some ns) : PA X es (yb ns) := by
 induction es generalizing ns with
 | nil =>
  have e : ns = [] := (Option.some.inj h).symm
  subst e
  exact aq
 | cons e es ih =>
  unfold mX at h
  split at h
  ·rename_i he; cases he
  ·rename_i i j pos es' he
   obtain ⟨rfl, rfl⟩ := List.cons.inj he
   cases hr : mX es with
   | none => rw [hr] at h; cases h
   | some ms =>
    rw [hr] at h
    have e : ns = i :: ms := (Option.some.inj h).symm
    subst e
    exact vL (j := j) (pos := pos) (ih ms hr)
  ·cases h
end L2
namespace L2
open PySem PySem.Spec PyProof.Rows
section
variable {prog : Program} {w : World} {A : Around} {R : Result -> Shared -> Prop} {s : Shared}
noncomputable abbrev rd (ifs : List Expr) (env : Env) : Sem Bool := forIn ifs true fun c r => if r = true then do let ok <- isTrue c env (eval c env); pure (ForInStep.yield ok) else pure (ForInStep.yield r)
theorem kf {elt tg iter : Expr} {ifs : List Expr} {scope : Scope} {pos : Pos} {itv acc : Value} {env : Env} (J : Nat -> Shared -> Prop)
  (turn : ∀ n s, J n s -> wpAny (model prog w) A (pyNext itv) (fun r s1 => match r with
   | none => R (.ok .next) s1
   | some v => wpAny (model prog w) A (letOwnedTupleGo tg itv v) (fun _ s2 => wpAny (model prog w) A (assign tg env v) (fun _ s3 => wpAny (model prog w) A (rd ifs env) (fun ok s4 =>
     if ok = true then wpAny (model prog w) A (eval elt env) (fun x s5 => wpAny (model prog w) A (call (.builtin "list.append") [acc, x]) (fun _ s6 => ∃ m, m < n /\ J m s6) (NB prog w A env R) s5) (NB prog w A env R) s4
     else ∃ m, m < n /\ J m s4) (NB prog w A env R) s3) (NB prog w A env R) s2) (NB prog w A env R) s1) (NB prog w A env R) s)
  (n : Nat) (h : J n s) : codeAny (model prog w) A (.compLoop (.ListComp elt [⟨tg, iter, ifs, 0⟩] scope pos) 0 itv acc env) R s := by
 refine codeAny_loop rfl J (fun n s hJ => ?_) n h
 show wpAny _ _ ((compTurn (.ListComp elt [⟨tg, iter, ifs, 0⟩] scope pos) 0 itv acc env).onRaise (fun x => do noteFrame x env; theTreesLotGoes x)) _ _ s
 refine wpAny_noted ?_
 rw [compTurn_list]
 refine wpAny_bind (wpAny_standAt (wpAny_bind (wpAny_mono (turn n s hJ) (fun r s1 z => ?_) fun _ _ q => q)))
 match r, z with
 | none, z => exact wpAny_pure z
 | some v, z =>
  refine wpAny_bind (wpAny_mono z (fun _ s2 z => wpAny_bind (wpAny_mono z (fun _ s3 z => wpAny_bind (wpAny_mono z (fun ok s4 z => ?_) fun _ _ q => q)) fun _ _ q => q)) fun _ _ q => q)
  cases ok with
  | true =>
   have z' := (if_pos rfl).mp z
   exact wpAny_bind (wpAny_bind (wpAny_mono z' (fun x s5 z => wpAny_bind (wpAny_mono z (fun _ s6 z => wpAny_pure (wpAny_pure ⟨rfl, z⟩)) fun _ _ q => q)) fun _ _ q => q))
  | false =>
   have z' := (if_neg Bool.false_ne_true).mp z
   exact wpAny_bind (wpAny_pure (wpAny_pure ⟨rfl, z'⟩))
end
structure eB (X : Cx) (tgs : List Str) (sc : Scope) (fr : List (Str × Nat)) : Prop where
 kind : sc.kind = .function
 nocell : ∀ y ∈ sc.names, y.2 ≠ .cell
 locs : ∀ y ∈ sc.names, y.2 = .local -> sc.names.lookup y.1 = some .local
 fre : ∀ y ∈ sc.names, y.2 = .free -> X.env.scope.names.lookup y.1 = some .cell ∨ X.env.scope.names.lookup y.1 = some .free
 nd : (tgs ++ fr.map (·.1)).Nodup
 vis : ∀ p ∈ fr, X.N[p.2]? = some p.1 /\ (X.env.scope.names.lookup p.1 = some .cell ∨ X.env.scope.names.lookup p.1 = some .free) /\ sc.names.lookup p.1 = some .free
noncomputable def Dv (X : Cx) (ifs : List Expr) (t : TT) : Prop :=
 ∀ (pins : Pn) (s : Shared) (σ : St) (H : Hp) (Q : Bool -> Hp -> Prop), aJ X pins σ H s -> t σ H Q -> wpAny (model X.prog X.w) X.A (rd ifs X.env) (TP X pins σ Q) X.xe s
noncomputable def tYes : TT := fun _ H Q => Q true H
theorem mL {X : Cx} : Dv X [] tYes := fun _ _ _ H _ I h => wpAny_tests_nil ⟨H, I, h⟩
theorem qQ {X : Cx} {c : Expr} {t : TT} (h : PT X c t) : Dv X [c] t := fun pins s σ H Q I q => wpAny_tests_one (h pins s σ H Q I q)
section
variable {X : Cx} {pins : Pn} {σ : St} {H : Hp} {s3 s4 : Shared} {tgs : List Str} {sc : Scope} {fr : List (Str × Nat)} {fp : List Addr} {cl : List (Str × Addr)}
theorem kc (ok : eB X tgs sc fr) (I : aJ X pins σ H s3) (hf : ∀ b ∈ fp, gW X pins H b) (hfo : ∀ b ∈ fp, ∃ o, s3.heap.get? b = some o) (hk : ∀ x c, cl.lookup x = some c -> X.env.cells.lookup x = some c) (hc : ∀ y ∈ sc.names, y.2 = .free -> ∃ c, cl.lookup y.1 = some c)
  {h4 : Heap} {t4 : Nat} (hns : ∃ m, h4.Ns s3.heap.objs.size m) (hkeep : ∀ b o, s3.heap.get? b = some o -> h4.get? b = some o) :
  aJ (X.blk (tgs ++ fr.map (·.1)) sc cl s3.heap.objs.size s3 H fp) [] (List.replicate tgs.length none ++ ib σ fr) H { s3 with heap := h4, toks := t4 } := by
 have hasc : ∀ x, ((relabel sc X.env).names.lookup x = some .cell ∨ (relabel sc X.env).names.lookup x = some .free) -> ∃ c, cl.lookup x = some c := fun x hx => by
  obtain ⟨y, h1, h2, h3⟩ : ∃ y ∈ sc.names, y.1 = x /\ y.2 = .free := by
   rcases hx with z | z
   ·exact fk ok.nocell (.inl rfl) z
   ·exact fk ok.nocell (.inr rfl) z
  subst h2
  exact hc y h1 h3
 have cell4 : ∀ x c, cl.lookup x = some c -> ∀ v, s3.heap.IsCell c v -> h4.IsCell c v := fun x c _ v ⟨o, ho, hd⟩ => ⟨o, hkeep c o ho, hd⟩
 have fresh : H s3.heap.objs.size = none := I.hok.fresh (Nat.le_refl _)
 refine ⟨⟨I.mod, ok.kind, I.ok.glob, I.ok.blt, Nat.le_refl _, fun x y c e1 e2 => I.ok.inj x y c (hk x c e1) (hk y c e2), hasc, (fun x c e => nomatch e), I.ok.hd, I.ok.frames, .inl rfl, fun b hb => ?_, I.bs, Nat.le_trans I.ok.bsz I.sz, fun b o e hb => ?_, fun b hb z => ?_, I.stack, I.stkFree⟩,
  rfl, I.bare, Un.kept hkeep, ?_, fun x c e => ?_, fresh, fun x c e => I.freeC x c (hk x c e), (fun p hp => nomatch hp), I.hok.kept hkeep, ?_⟩
 ·obtain ⟨f0, f1, f2, f3, f4, f5⟩ := hf b hb
  refine ⟨fun z => ?_, fun x c e => f4 x c (hk x c e)⟩
  obtain ⟨o, eo⟩ := hfo b hb
  have z' : b = s3.heap.objs.size := z
  rw [z'] at eo
  exact absurd (Heap.lt_size eo) (Nat.lt_irrefl _)
 ·obtain ⟨f0, f1, f2, f3, f4, f5⟩ := hf b hb
  rcases f3 with z | z
  ·exact I.ok.noex b o e z
  ·exact absurd (Nat.lt_of_lt_of_le (Nat.lt_of_lt_of_le (Heap.lt_size e) I.ok.bsz) z) (Nat.lt_irrefl _)
 ·obtain ⟨f0, f1, f2, f3, f4, f5⟩ := hf b hb
  rcases List.mem_cons.mp (I.stkSub b z) with q | q
  ·exact f1 q
  ·exact f2 q
 ·obtain ⟨m, hn⟩ := hns
  obtain ⟨m0, _, hl0⟩ := I.loc
  refine ⟨m, hn, fun i x v e1 e2 _ => ?_⟩
  have hge : tgs.length <= i := by
   rcases Nat.lt_or_ge i tgs.length with z | z
   ·rw [List.getElem?_append_left (by rw [List.length_replicate]; exact z), List.getElem?_replicate, if_pos z] at e2
    cases e2
   ·exact z
  have e1x : (tgs ++ fr.map (·.1))[i]? = some x := e1
  rw [List.getElem?_append_right hge] at e1x
  rw [List.getElem?_append_right (by rw [List.length_replicate]; exact hge), List.length_replicate] at e2
  generalize i - tgs.length = i at *
  ·have e2' : ((fr.map fun p => (σ[p.2]?).join))[i]? = some (some v) := e2
   have e1' : (fr.map (·.1))[i]? = some x := e1x
   rw [List.getElem?_map] at e1' e2'
   cases q : fr[i]? with
   | none => rw [q] at e1'; cases e1'
   | some p =>
    rw [q] at e1' e2'
    have ex : p.1 = x := Option.some.inj e1'
    have ev : (σ[p.2]?).join = some v := Option.some.inj e2'
    obtain ⟨g1, g2, g3⟩ := ok.vis p (List.mem_of_getElem? q)
    have ev' : σ[p.2]? = some (some v) := by
     cases z : σ[p.2]? with
     | none => rw [z] at ev; cases ev
     | some w => rw [z] at ev; exact congrArg some ev
    have gv : Bo X.env.scope p.1 := g2.elim (fun z => .inr (.inl z)) fun z => .inr (.inr z)
    obtain ⟨u, ru, lk⟩ := hl0 p.2 p.1 v g1 ev' gv
    subst ex
    refine ⟨u, ru, .inr ⟨fc g3, ?_⟩⟩
    rcases lk with ⟨k1, _⟩ | ⟨_, c, ec, hcell⟩
    ·rcases g2 with z | z
     ·have k2 : X.env.scope.names.lookup p.1 = some .local := k1
      rw [z] at k2; cases k2
     ·have k2 : X.env.scope.names.lookup p.1 = some .local := k1
      rw [z] at k2; cases k2
    ·obtain ⟨c', ec'⟩ := hasc p.1 (fc g3)
     have e3 := hk _ _ ec'
     rw [ec] at e3
     cases e3
     exact ⟨c, ec', cell4 _ c ec' _ hcell⟩
 ·obtain ⟨v, z⟩ := I.cell x c (hk x c e)
  exact ⟨v, cell4 x c e v z⟩
 ·show (List.replicate tgs.length none ++ ib σ fr).length = (tgs ++ fr.map (·.1)).length
  simp [ib]
end
noncomputable def mY (k : Nat) (fr : List (Str × Nat)) (wi : TI) (g : TG) (tc : TT) (te : TE) : TE := fun σ H Q => wi σ H fun J H1 => ∀ acc, H1 acc = none -> ∃ W : Nat -> Nat -> St -> Hp -> Prop, (∃ m, W 0 m (List.replicate k none ++ ib σ fr) (upd H1 acc (.lst []))) /\ ∀ i m σb H2, W i m σb H2 ->
 (J.stop i H2 /\ Q (.ref acc) H2) ∨ (J.go i H2 /\ ∀ x H3, J.yld i H2 x H3 -> g x σb H3 fun σ2 H4 => tc σ2 H4 fun b H5 =>
  if b = true then te σ2 H5 fun v H6 => ∃ xs m', H6 acc = some (.lst xs) /\ xs.length < sizeLine /\ m' < m /\ W (i + 1) m' σ2 (upd H6 acc (.lst (xs ++ [v]))) else ∃ m', m' < m /\ W (i + 1) m' σ2 H5)
section
variable {X : Cx} {elt iter tg : Expr} {ifs : List Expr} {tgs : List Str} {pos : Pos} {sc : Scope} {fr : List (Str × Nat)} {wi : TI} {te : TE} {g : TG} {tc : TT}
theorem pG (hc : X.calm = true) (ok : eB X tgs sc fr) (hi : PI X tg iter wi) (hg : ∀ cl C s3 H3 fp, PG (X.blk (tgs ++ fr.map (·.1)) sc cl C s3 H3 fp) tg g) (ht : ∀ cl C s3 H3 fp, Dv (X.blk (tgs ++ fr.map (·.1)) sc cl C s3 H3 fp) ifs tc) (he : ∀ cl C s3 H3 fp, PE (X.blk (tgs ++ fr.map (·.1)) sc cl C s3 H3 fp) elt te) (hs : ∀ x, foldedSetIterable iter X.env x = pure x := by intro _; rfl) :
  PE X (.ListComp elt [⟨tg, iter, ifs, 0⟩] sc pos) (mY tgs.length fr wi g tc te) := by
 intro pins s σ H Q I h
 obtain ⟨cl, ecl, hk, hcx⟩ := kn (env := X.env) (sc := sc) (fun y hy yf => I.ok.has y.1 (ok.fre y hy yf))
 rw [eval_ListComp]
 refine wpAny_comprehension_free (use := none) rfl hs ecl ok.kind ok.locs (bQ (hi pins s σ H _ I h) fun v s1 h1 => bQ h1 fun itv s2 h2 => ?_)
 obtain ⟨it, fp, tn, J, H2, e, I2, T, st2, f2, q⟩ := h2
 subst e
 have hacc : H2 s2.heap.objs.size = none := I2.hok.fresh (Nat.le_refl _)
 obtain ⟨W, ⟨m0, w0⟩, turn⟩ := q s2.heap.objs.size hacc
 refine wpAny_newObj_type ?_
 have I3 := I2.laid (a := s2.heap.objs.size) (o := .lst []) (h' := s2.heap.push { cls := .type "list", data := .seq ([] : List Value).toArray }) (t' := s2.toks) (fun b u e => Heap.get?_push_of_some _ e) (Nat.le_refl _) ⟨Nat.zero_le _, [], 0, .nil, Heap.get?_push_size _ rfl⟩
 refine wpAny_newFunctionEnv ok.nocell (by intro y hy; simp at hy) (fun h4 hns4 hsb4 => ?_) ok.kind
 generalize hs3 : ({ s2 with heap := s2.heap.push { cls := .type "list", data := .seq ([] : List Value).toArray } } : Shared) = s3 at *
 have keep4 : ∀ b o, s3.heap.get? b = some o -> h4.get? b = some o := fun b o e => hsb4.extBut b o (Nat.ne_of_lt (Heap.lt_size e)) (Heap.get?_push_of_some _ e)
 have keep3 : ∀ b o, s2.heap.get? b = some o -> s3.heap.get? b = some o := fun b o e => by rw [<- hs3]; exact Heap.get?_push_of_some _ e
 have hfo : ∀ b ∈ fp, ∃ o, s3.heap.get? b = some o := fun b hb => by
  obtain ⟨o, eo, _⟩ := T.obj 0 _ st2 b hb
  exact ⟨o, keep3 b o eo⟩
 have f3 : ∀ b ∈ fp, gW X pins (upd H2 s2.heap.objs.size (.lst [])) b := fun b hb => by
  obtain ⟨o, eo, _⟩ := T.obj 0 _ st2 b hb
  exact ⟨by rw [aE (Nat.ne_of_lt (Heap.lt_size eo))]; exact (f2 b hb).1, (f2 b hb).2⟩
 have I4 := kc (t4 := s3.toks + ([] : List (Str × Value)).length) ok I3 f3 hfo hk hcx ⟨_, hns4⟩ keep4
 have st4 : tn 0 h4 := T.keep 0 s2.heap h4 st2 fun b hb o e => keep4 b o (keep3 b o e)
 have stat : ∀ {H' : Hp}, (∀ b ∈ fp, H' b = none) -> ∀ b ∈ fp, gW (X.blk (tgs ++ fr.map (·.1)) sc cl s3.heap.objs.size s3 (upd H2 s2.heap.objs.size (.lst [])) fp) [] H' b := fun hn b hb =>
  ⟨hn b hb, (I4.ok.exf b hb).1, I4.ok.exfs b hb, .inl hb, (I4.ok.exf b hb).2, fun p hp => nomatch hp⟩
 have loop : codeAny (model X.prog X.w) X.A (.compLoop (.ListComp elt [⟨tg, iter, ifs, 0⟩] sc pos) 0 (.ref it) (.ref s2.heap.objs.size) (compEnvC sc cl s3.heap.objs.size X.env))
   (compPost (model X.prog X.w) X.A X.xe none (EP X pins σ Q) (.ref s2.heap.objs.size) s3.heap.objs.size) { s3 with heap := h4, toks := s3.toks + ([] : List (Str × Value)).length } := by
  refine kf (fun n s' => ∃ i σb H', aJ (X.blk (tgs ++ fr.map (·.1)) sc cl s3.heap.objs.size s3 (upd H2 s2.heap.objs.size (.lst [])) fp) [] σb H' s' /\ tn i s'.heap /\ (∀ b ∈ fp, H' b = none) /\ W i n σb H') ?_ m0
   ⟨0, _, _, I4, st4, fun b hb => (f3 b hb).1, w0⟩
  rintro n s5 ⟨i, σb, H5, I5, st5, fr5, w5⟩
  rcases turn i n σb H5 w5 with ⟨stop, qq⟩ | ⟨go, step⟩
  ·refine bQ (T.done (X.blk (tgs ++ fr.map (·.1)) sc cl s3.heap.objs.size s3 (upd H2 s2.heap.objs.size (.lst [])) fp) rfl rfl rfl hc i [] s5 _ H5 _ I5 (stat fr5) st5 stop) fun r s6 ⟨hr, I6⟩ => ?_
   subst hr
   obtain ⟨m6, hn6, _⟩ := I6.loc
   refine ⟨m6, hn6, fun h7 hsb7 => ?_⟩
   have ne : ∀ b o, s3.heap.get? b = some o -> b ≠ s3.heap.objs.size := fun b o e => Nat.ne_of_lt (Heap.lt_size e)
   have u6 : Un (dW X.stack) fp (upd H2 s2.heap.objs.size (.lst [])) H5 s3.heap s6.heap := I6.base
   have u7 : Un (dW X.stack) fp (upd H2 s2.heap.objs.size (.lst [])) H5 s3.heap h7 := {
    keep := fun b o e n hb hx => hsb7.extBut b o (ne b o e) (u6.keep b o e n hb hx)
    slot := fun b o e n hb hx => by
     obtain ⟨sl, e1⟩ := u6.slot b o e n hb hx
     exact ⟨sl, hsb7.extBut b _ (ne b o e) e1⟩
    free := u6.free
    there := fun b o e hx => by
     obtain ⟨o', e1⟩ := u6.there b o e hx
     exact ⟨o', hsb7.extBut b _ (ne b o e) e1⟩
    tups := u6.tups
    frzs := u6.frzs
    tbls := u6.tbls }
   have hok7 : iX X.prog X.w H5 h7 := fun b u eu => (I6.hok b u eu).stay (fun c v hcx q => hsb7.extBut c v (fun z => by
    have nf := I6.free
    have z' : H5 s3.heap.objs.size = none := nf
    rw [<- z] at z'
    rcases hcx with y | y
    ·rw [y, eu] at z'; cases z'
    ·rw [y] at z'; cases z') q) (fun _ q => q) fun _ _ q => q
   have os6 : s6.os = s3.os := I6.os
   have bare6 := I6.bare
   obtain ⟨hh, g, d, t, os'⟩ := s6
   obtain rfl : os' = s3.os := os6
   refine ⟨.ref s2.heap.objs.size, H5, ?_, rfl, qq⟩
   show aJ X pins σ H5 { s3 with heap := h7, gens := g, drawn := d, toks := t }
   exact I3.call (h' := h7) (g' := g) (d' := d) (t' := t) (ch := fp) u7 hok7 bare6 fun b hb => ⟨(f3 b hb).2.2.2.1, (f3 b hb).2.1, (f3 b hb).2.2.2.2.1, (f3 b hb).2.2.2.2.2⟩
  ·refine bQ (T.item (X.blk (tgs ++ fr.map (·.1)) sc cl s3.heap.objs.size s3 (upd H2 s2.heap.objs.size (.lst [])) fp) rfl rfl rfl hc i [] s5 _ H5 _ I5 (stat fr5) st5 go) fun r s6 ⟨u, hr, h6⟩ => ?_
   subst hr
   refine bQ h6 fun _ s7 ⟨y, H7, I7, r7, y7, st7, fr7⟩ => ?_
   have I7' := I7.pinned (stat fr7) (T.obj _ _ st7)
   refine wpAny_mono (hg cl s3.heap.objs.size s3 (upd H2 s2.heap.objs.size (.lst [])) fp _ s7 _ H7 y u _ I7' r7 (step y H7 y7)) (fun _ s8 z => ?_) (fun e s z => (show False from z).elim)
   obtain ⟨σ8, H8, I8, q8⟩ := z
   refine wpAny_mono (ht cl s3.heap.objs.size s3 (upd H2 s2.heap.objs.size (.lst [])) fp _ s8 σ8 H8 _ I8 q8) (fun b s8' z => ?_) (fun e s z => (show False from z).elim)
   obtain ⟨H8', I8', q8'⟩ := z
   have goOn : ∀ {s10 : Shared} {H10 : Hp} {m' : Nat}, aJ (X.blk (tgs ++ fr.map (·.1)) sc cl s3.heap.objs.size s3 (upd H2 s2.heap.objs.size (.lst [])) fp) _ σ8 H10 s10 -> m' < n -> W (i + 1) m' σ8 H10 -> ∃ m, m < n /\ ∃ i σb H', aJ (X.blk (tgs ++ fr.map (·.1)) sc cl s3.heap.objs.size s3 (upd H2 s2.heap.objs.size (.lst [])) fp) [] σb H' s10 /\ tn i s10.heap /\ (∀ b ∈ fp, H' b = none) /\ W i m σb H' := fun {s10 H10 m'} I10 hm w9 => by
    refine ⟨m', hm, i + 1, σ8, _, I10.unpinned, T.keep _ _ _ st7 fun b hb o e => (I10.pin (b, o) (List.mem_append_right _ (List.mem_append_right _ (dj hb e)))).1, fun b hb => ?_, w9⟩
    obtain ⟨o, e, d⟩ := T.obj _ _ st7 b hb
    exact (I10.pin (b, o) (List.mem_append_right _ (List.mem_append_right _ (dj hb e)))).2.1
   cases b with
   | false =>
    obtain ⟨m', hm, w9⟩ := (if_neg Bool.false_ne_true).mp q8'
    exact (if_neg Bool.false_ne_true).mpr (goOn I8' hm w9)
   | true =>
    refine (if_pos rfl).mpr ?_
    refine wpAny_mono (he cl s3.heap.objs.size s3 (upd H2 s2.heap.objs.size (.lst [])) fp _ s8' _ H8' _ I8' ((if_pos rfl).mp q8')) (fun v s9 z => ?_) (fun e s z => (show False from z).elim)
    obtain ⟨z, H9, I9, r9, xs, m', ha, hl, hm, w9⟩ := z
    refine wpAny_mono (dJ (X := X.blk (tgs ++ fr.map (·.1)) sc cl s3.heap.objs.size s3 (upd H2 s2.heap.objs.size (.lst [])) fp) _ s9 _ H9 (.ref s2.heap.objs.size) [z] (.ref s2.heap.objs.size) [v] (fun _ H' => H' = upd H9 s2.heap.objs.size (.lst (xs ++ [z]))) I9 rfl (.cons r9 .nil) ⟨_, xs, z, rfl, rfl, ha, hl, rfl⟩) (fun _ s10 z => ?_) (fun e s z => (show False from z).elim)
    obtain ⟨_, H10, I10, _, e10⟩ := z
    subst e10
    exact goOn I10 hm w9
 exact codeAny_compStart_list loop (T.self X.A 0 _ _ _ st4 loop)
end
end L2
namespace L2
open PySem PySem.Spec PyProof.Rows
section
variable {X : Cx}
theorem zi (hu : X.A.units < cLine) : eG X (compareOp .Eq) (Cy X.K (fun b => b)) := by
 intro pins s σ H x y v u Q I rx ry h
 obtain ⟨a, b, ns, ms, rfl, rfl, ha, hb, q⟩ := h
 cases rx
 cases ry
 obtain ⟨its, r1, p1, _⟩ := I.tuple ha
 obtain ⟨its2, r2, p2, _⟩ := I.tuple hb
 have i1 : IntsAre its ns := kq r1
 have i2 : IntsAre its2 ms := kq r2
 have l1 : its.length = ns.length := i1.length
 have l2 : its2.length = ms.length := i2.length
 have key := SeqAt.RcAt.tuples (A := X.A) (s := s) (l := a) (b := b) (items := its.toArray) (items2 := its2.toArray) (e := fun j => decide (ns[j]? = ms[j]?)) p1 p2 hu (fun j h1 h2 => by
  have h1' : j < its.length := by simpa using h1
  have h2' : j < its2.length := by simpa using h2
  obtain ⟨n, t, en, ev⟩ := rM i1 (List.getElem?_eq_getElem h1')
  obtain ⟨m, t', em, ew⟩ := rM i2 (List.getElem?_eq_getElem h2')
  have g1 : its.toArray[j] = .int n t := by rw [<- ev]; simp
  have g2 : its2.toArray[j] = .int m t' := by rw [<- ew]; simp
  rw [g1, g2, en, em]
  have e : decide (some n = some m) = (n == m) := by
   by_cases z : n = m
   ·subst z; simp
   ·simp [z]
  rw [e]
  exact SeqAt.EqAt.int_int n t m t')
 have e2 : ((List.range (min its.toArray.size its2.toArray.size)).all (fun j => decide (ns[j]? = ms[j]?)) && its.toArray.size == its2.toArray.size) = decide (ns = ms) := by
  rw [List.size_toArray, List.size_toArray, l1, l2, xa (fun j _ _ => rfl)]
 rw [e2] at key
 exact key _ _ _ _ ⟨.bl (decide (ns = ms)), H, I, rfl, q⟩
end
end L2
namespace My
end My
namespace My
end My
namespace My
end My
namespace My
end My
namespace My
end My
namespace L2
open PySem PySem.Spec PyProof.Rows
noncomputable def rIsN : R2 := fun x y H Q => y = .non /\ Q (.bl (decide (x = .non))) H
noncomputable def rNotN : R2 := fun x y H Q => y = .non /\ Q (.bl (!decide (x = .non))) H
theorem cA {X : Cx} : eG X (compareOp .Is) rIsN := zG
theorem dw {X : Cx} : eG X (compareOp .IsNot) rNotN := wx
noncomputable def MkT (xs : List V) (H : Hp) (Q : VK) : Prop := xs.length <= sizeLine /\ ∀ p, H p = none -> Q (.ref p) (upd H p (.tup xs))
noncomputable def MkL (xs : List V) (H : Hp) (Q : VK) : Prop := xs.length <= sizeLine /\ ∀ p, H p = none -> Q (.ref p) (upd H p (.lst xs))
inductive jg : St -> Nat -> Option V -> St -> Prop
 | here {x : Option V} {r : St} {v : Option V} : jg (x :: r) 0 v (v :: r)
 | next {x : Option V} {r : St} {v : Option V} {i : Nat} {r' : St} : jg r i v r' -> jg (x :: r) (i + 1) v (x :: r')
variable {σ : St}
theorem jg.eq {σ' : St} {i : Nat} {v : Option V} (h : jg σ i v σ') : σ.set i v = σ' := by
 induction h with
 | here => rfl
 | next _ ih => rw [List.set_cons_succ, ih]
inductive jd : St -> Nat -> V -> Prop
 | here {v : V} {r : St} : jd (some v :: r) 0 v
 | next {x : Option V} {r : St} {v : V} {i : Nat} : jd r i v -> jd (x :: r) (i + 1) v
theorem jd.eq {i : Nat} {v : V} (h : jd σ i v) : σ[i]? = some (some v) := by
 induction h with
 | here => rfl
 | next _ ih => rw [List.getElem?_cons_succ, ih]
section
variable {σ σ' : St} {H : Hp} {Q : VK} {i j : Int} {k : Nat} {v x y : V} {te ta tb tc : TE} {t u : TS} {nx bk ct : St -> Hp -> Prop} {rt : VK} {c d : TT} {R : Bool -> Hp -> Prop} {r r' : R2} {b : Bool}
theorem Bg (h : jd σ k v) (q : Q v H) : qd k σ H Q := ⟨v, h.eq, q⟩
theorem z_c (q : Q v H) : tC v σ H Q := q
theorem Eu (h : ta σ H fun x H1 => tb σ H1 fun y H2 => r x y H2 Q) : AI r ta tb σ H Q := h
theorem z_I {C : Int -> Int -> Prop} {g : Int -> Int -> V} (hc : C i j) (q : Q (g i j) H) : rI C g (.int i) (.int j) H Q := ⟨i, j, rfl, rfl, hc, q⟩
theorem Ep {g : Int -> Int -> V} (q : Q (g i j) H) : va g (.int i) (.int j) H Q := ⟨i, j, rfl, rfl, q⟩
theorem oV : decide (V.int i = V.int j) = decide (i = j) := by
 by_cases h : i = j
 ·subst h; simp
 ·rw [decide_eq_false h, decide_eq_false (fun z => h (V.int.inj z))]
variable {a : Str}
theorem oE {b : Str} : decide (V.str a = V.str b) = decide (a = b) := by
 by_cases h : a = b
 ·subst h; simp
 ·rw [decide_eq_false h, decide_eq_false (fun z => h (V.str.inj z))]
theorem xQ (q : Q (.bl (decide (i = j))) H) : rEq (.int i) (.int j) H Q := ⟨rfl, by rw [oV]; exact q⟩
theorem xZ (q : Q (.bl (!decide (i = j))) H) : rNe (.int i) (.int j) H Q := ⟨rfl, by rw [oV]; exact q⟩
theorem yh {b : Str} (q : Q (.bl (decide (a = b))) H) : rEq (.str a) (.str b) H Q := ⟨rfl, by rw [oE]; exact q⟩
theorem xW {b : Str} (q : Q (.bl (!decide (a = b))) H) : rNe (.str a) (.str b) H Q := ⟨rfl, by rw [oE]; exact q⟩
theorem Aq (h : te σ H fun x H' => ∃ k, x = .bl k /\ R k H') : rg te σ H R := h
theorem DM (h : te σ H fun x H' => ∃ k, x = .bl k /\ R k H') : tB te σ H R := h
theorem Cn {S : Bool -> Prop} (q : S b) : ∃ k, V.bl b = .bl k /\ S k := ⟨b, rfl, q⟩
theorem AW (h : c σ H fun k H1 => if k = true then d σ H1 R else R false H1) : Al c d σ H R := h
theorem DH (h : c σ H fun k H1 => if k = true then R true H1 else d σ H1 R) : EC c d σ H R := h
theorem Bh (h : c σ H fun k H1 => R (!k) H1) : zZ c σ H R := h
theorem Bp {S : List V -> Hp -> Prop} (q : S [] H) : tNil σ H S := q
theorem zh {S : List V -> Hp -> Prop} {tr : TA} (h : ta σ H fun x H1 => tr σ H1 fun xs H2 => S (x :: xs) H2) : cH ta tr σ H S := h
theorem Bx (h : t ⟨u ⟨nx, rt, bk, ct⟩, rt, bk, ct⟩ σ H) : wC t u ⟨nx, rt, bk, ct⟩ σ H := h
theorem Ag (h : nx σ H) : tNext ⟨nx, rt, bk, ct⟩ σ H := h
theorem Ah (h : te σ H fun _ H1 => nx σ H1) : uF te ⟨nx, rt, bk, ct⟩ σ H := h
theorem Cb (h : te σ H rt) : Ac te ⟨nx, rt, bk, ct⟩ σ H := h
theorem ux (h : c σ H fun b H1 => if b = true then t ⟨nx, rt, bk, ct⟩ σ H1 else u ⟨nx, rt, bk, ct⟩ σ H1) : zj c t u ⟨nx, rt, bk, ct⟩ σ H := h
theorem Cd {g : TG} (h : te σ H fun x H1 => g x σ H1 nx) : pJ te g ⟨nx, rt, bk, ct⟩ σ H := h
theorem zC {S : St -> Hp -> Prop} (h : jg σ k (some v) σ') (q : S σ' H) : cG k v σ H S := by
 show S (σ.set k (some v)) H
 rw [h.eq]; exact q
variable {tA : TA}
theorem Ck {i j : Nat} (h : tA σ H fun vs H1 => ∃ v w, vs = [v, w] /\ nx ((σ.set i (some v)).set j (some w)) H1) : AQ i j tA ⟨nx, rt, bk, ct⟩ σ H := h
variable {A : Prop} {B : Prop}
theorem ah {c : Prop} [Decidable c] (h1 : c -> A) (h2 : ¬ c -> B) : if decide c = true then A else B := by
 by_cases h : c
 ·rw [decide_eq_true h]; exact gU (h1 h)
 ·rw [decide_eq_false h]; exact gA (h2 h)
theorem rl {b : Bool} (h : if b = true then B else A) : if (!b) = true then A else B := by
 cases b with
 | true => exact gA h
 | false => exact gU h
theorem aS {b : Bool} (h1 : b = true -> A) (h2 : b = false -> B) : if b = true then A else B := by
 cases b with
 | true => exact gU (h1 rfl)
 | false => exact gA (h2 rfl)
theorem xf {sp : Sp} {E : XK} (h : tA σ H fun vs H1 => sp vs H1 Q E) : kb sp [] E tA σ H Q := by
 unfold kb
 simpa using h
theorem Eb {rr : List V -> Hp -> VK -> Prop} (h : tA σ H fun vs H1 => rr vs H1 Q) : wc rr tA σ H Q := h
theorem EE {S : Int -> Prop} (q : S i) : ∃ i', [V.int i] = [.int i'] /\ S i' := ⟨i, rfl, q⟩
theorem Bj (h : tA σ H fun xs H1 => MkT xs H1 Q) : zr tA σ H Q := h
variable {xs : List V}
theorem Cl (hl : xs.length <= 100) (q : ∀ p H', H p = none -> aF H H' -> H' p = some (.tup xs) -> Q (.ref p) H') : MkT xs H Q :=
 ⟨Nat.le_trans hl (by decide), fun p hp => q p _ hp (aF.new hp _) aL⟩
variable {K : Fg} {p : Addr}
theorem ud (hs : ci K H p xs) (ha : eI xs i = some v) (q : Q v H) : iV K (.ref p) (.int i) H Q := ⟨p, xs, i, v, rfl, rfl, hs, ha, q⟩
theorem oS (hs : cg K H p xs) (ha : eI xs i = some v) (q : Q v H) : pg K (.ref p) (.int i) H Q := ⟨p, xs, i, v, rfl, rfl, hs, ha, q⟩
theorem yW (q : Q (.bl true) H) : rIsN .non .non H Q := ⟨rfl, q⟩
theorem yJ (q : Q (.bl false) H) : rIsN (.ref p) .non H Q := ⟨rfl, q⟩
theorem z_len {ys : List V} {S : List V -> Prop} (hs : cg K H p ys ∨ ci K H p ys) (q : S ys) : ∃ p' ys', [V.ref p] = [V.ref p'] /\ (cg K H p' ys' ∨ ci K H p' ys') /\ S ys' := ⟨p, ys, rfl, hs, q⟩
theorem BS {S1 : Int -> Prop} {S3 : Bool -> Prop} (q : S3 b) : (∃ i', [V.bl b] = [.int i'] /\ S1 i') ∨ ∃ k, [V.bl b] = [.bl k] /\ S3 k := .inr ⟨b, rfl, q⟩
theorem Ev {r : V -> Option Int -> Option Int -> Hp -> VK -> Prop} {tl th : TO} (h : te σ H fun x H1 => tl σ H1 fun l H2 => th σ H2 fun u H3 => r x l u H3 Q) : DG r te tl th σ H Q := h
theorem AT {S : Option Int -> Hp -> Prop} (q : S none H) : tNoPart σ H S := q
theorem Am {S : Option Int -> Hp -> Prop} (h : te σ H fun x H1 => ∃ i, x = .int i /\ S (some i) H1) : tV te σ H S := h
theorem yX {S : Int -> Prop} (q : S i) : ∃ i', V.int i = .int i' /\ S i' := ⟨i, rfl, q⟩
theorem Cw (h : tA σ H fun xs H1 => MkL xs H1 Q) : zd tA σ H Q := h
theorem jJ (hl : xs.length <= 100) (q : ∀ p H', H p = none -> aF H H' -> H' p = some (.lst xs) -> Q (.ref p) H') : MkL xs H Q :=
 ⟨Nat.le_trans hl (by decide), fun p hp => q p _ hp (aF.new hp _) aL⟩
theorem DL {T : String} {rr : V -> List V -> Hp -> VK -> Prop} (h : te σ H fun x H1 => AS K T x H1 /\ tA σ H1 fun xs H2 => rr x xs H2 Q) : EH K T rr te tA σ H Q := h
end
noncomputable def vZ (l : Addr) (H H' : Hp) : Prop := ∀ b o, b ≠ l -> H b = some o -> H' b = some o
variable {H : Hp}
theorem vZ.upd {l : Addr} {o : HO} : vZ l H (upd H l o) := fun b u hb q => by rw [aE hb]; exact q
section
variable {σ σ' : St} {H : Hp} {Q : VK}
theorem ui {l : Addr} {xs : List V} {v : V} (h : H l = some (.lst xs)) (hl : xs.length < sizeLine) (q : ∀ H', vZ l H H' -> H' l = some (.lst (xs ++ [v])) -> Q .non H') : rAppend (.ref l) [v] H Q :=
 ⟨l, xs, v, rfl, rfl, h, hl, q _ vZ.upd aL⟩
end
section
variable {σ : St} {H : Hp} {te : TE} {tb : TS} {g : TG} {nx bk ct : St -> Hp -> Prop} {rt : VK} {wi : TI} {K : Fg} {a : Addr} {xs : List V}
noncomputable def FW (J : It) (g : TG) (tb : TS) (nx : St -> Hp -> Prop) (rt : VK) (σ : St) (H : Hp) : Prop := ∃ W : Nat -> Nat -> St -> Hp -> Prop, (∃ m, W 0 m σ H) /\ ∀ i m σ H, W i m σ H ->
 (J.stop i H /\ nx σ H) ∨ (J.go i H /\ ∃ N : St -> Hp -> Prop, (∀ σ' H', N σ' H' -> ∃ m', m' < m /\ W (i + 1) m' σ' H') /\ ∀ x H', J.yld i H x H' -> g x σ H' fun σ2 H2 => tb ⟨N, rt, nx, N⟩ σ2 H2)
theorem xL (h : wi σ H fun J H1 => FW J g tb nx rt σ H1) : zz wi g tb ⟨nx, rt, bk, ct⟩ σ H := h
theorem BL {tA : TA} {R : It -> Hp -> Prop} (h : tA σ H fun vs H1 => ∃ j : Int, vs = [.int j] /\ -(2 ^ 62) <= j /\ j < 2 ^ 62 /\ R (vp 0 j.toNat) H1) : uM tA σ H R := h
theorem BC {J : It} {j : Int} (h1 : -(2 ^ 62) <= j) (h2 : j < 2 ^ 62) (q : FW J g tb nx rt σ H) : -(2 ^ 62) <= j /\ j < 2 ^ 62 /\ FW J g tb nx rt σ H := ⟨h1, h2, q⟩
theorem xC {lo : Int} {n : Nat} (Pv : Nat -> St -> Hp -> Prop) (h0 : Pv 0 σ H)
  (hs : ∀ i σ H, i < n -> Pv i σ H -> g (.int (lo + i)) σ H fun σ2 H2 => tb ⟨Pv (i + 1), rt, nx, Pv (i + 1)⟩ σ2 H2) (hd : ∀ σ H, Pv n σ H -> nx σ H) : FW (vp lo n) g tb nx rt σ H := sT (D := ⟨nx, rt, nx, nx⟩) Pv h0 hs hd
theorem wR {c : TT} (W : Nat -> St -> Hp -> Prop) (m0 : Nat) (h0 : W m0 σ H)
  (hs : ∀ m σ H, W m σ H -> c σ H fun b H1 => if b = true then ∃ N : St -> Hp -> Prop, (∀ σ' H', N σ' H' -> ∃ m', m' < m /\ W m' σ' H') /\ tb ⟨N, rt, nx, N⟩ σ H1 else nx σ H1) : qB c tb ⟨nx, rt, bk, ct⟩ σ H := ⟨W, ⟨m0, h0⟩, hs⟩
theorem Ci {W : Nat -> St -> Hp -> Prop} {m : Nat} (h : tb ⟨fun σ' H' => ∃ m', m' < m /\ W m' σ' H', rt, nx, fun σ' H' => ∃ m', m' < m /\ W m' σ' H'⟩ σ H) : ∃ N : St -> Hp -> Prop, (∀ σ' H', N σ' H' -> ∃ m', m' < m /\ W m' σ' H') /\ tb ⟨N, rt, nx, N⟩ σ H := ⟨_, fun _ _ z => z, h⟩
end
noncomputable def sL (K : Fg) (n : String) (f : Tg -> Bool) (xs : List V) (H : Hp) (Q : VK) : Prop := gZ K n f xs H Q
theorem AD {K : Fg} {n : String} {f : Tg -> Bool} {xs : List V} {Q : VK} (h : sL K n f xs H Q) : gZ K n f xs H Q := h
section
variable {H : Hp} {Q : VK} {K : Fg} {i : Int} {a : Str} {b : Bool} {p : Addr} {xs : List V}
theorem ou (q : Q (.bl false) H) : sL K "tuple" Tg.isTup [.non, .ty "tuple"] H Q := ⟨_, .non, rfl, True.intro, q⟩
theorem oM (q : Q (.bl false) H) : sL K "tuple" Tg.isTup [.bl b, .ty "tuple"] H Q := ⟨_, .bl, rfl, True.intro, q⟩
theorem nN (q : Q (.bl false) H) : sL K "tuple" Tg.isTup [.int i, .ty "tuple"] H Q := ⟨_, .int, rfl, True.intro, q⟩
theorem oa (q : Q (.bl false) H) : sL K "tuple" Tg.isTup [.str a, .ty "tuple"] H Q := ⟨_, .str, rfl, True.intro, q⟩
theorem oK (hs : ci K H p xs) (q : Q (.bl true) H) : sL K "tuple" Tg.isTup [.ref p, .ty "tuple"] H Q := ⟨_, .tup, rfl, ⟨xs, hs⟩, q⟩
end
theorem Ao {m n : Nat} {x y : Int} (h : My.Bd m x) (g : My.Bd n y) : My.Bd (max m n + 1) (x + y) := (h.mono (show m <= max m n by omega)).add (g.mono (show n <= max m n by omega))
theorem yq {n : Int} (h1 : -1152921504606846976 < n) (h2 : n < 1152921504606846976) : My.Bd 60 n := by unfold My.Bd; omega
theorem uq : bootBuiltins "max" = some (.builtin "max") := by decide +kernel
theorem uU : bootBuiltins "min" = some (.builtin "min") := by decide +kernel
theorem aF.but {H2 H3 : Hp} {l : Addr} (s : aF H H2) (n : H l = none) (b : vZ l H2 H3) : aF H H3 := fun c o e => b c o (fun z => by rw [z, n] at e; cases e) (s c o e)
theorem qt {N : List Str} {vs : List V} {t : TS} {D : Ends} (h : cT N vs = σ) (q : t D σ H) : t D (cT N vs) H := by rw [h]; exact q
end L2
namespace L2
open PySem PySem.Spec PyProof.Rows
variable {X : Cx} {sc : Scope}
theorem cE {tg : Str} {fr : List (Str × Nat)} {osc : Scope} {N : List Str} (ho : X.env.scope = osc) (hN : X.N = N) (h : iu osc N tg sc fr = true) : eB X [tg] sc fr /\ sc.names.lookup tg = some .local := by
 have o := bi ho hN h
 exact ⟨⟨o.kind, o.nocell, o.locs, o.fre, o.nd, o.vis⟩, o.tgl⟩
theorem gw {elt iter c : Expr} {tg : Str} {ps pos : Pos} {fr : List (Str × Nat)} {wi : TI} {te : TE} {tc : TT} (hc : X.calm = true) (ok : eB X [tg] sc fr /\ sc.names.lookup tg = some .local) (hi : PI X (.Name tg ps) iter wi)
  (ht : ∀ cl C s3 H3 fp, PT (X.blk ([tg] ++ fr.map (·.1)) sc cl C s3 H3 fp) c tc) (he : ∀ cl C s3 H3 fp, PE (X.blk ([tg] ++ fr.map (·.1)) sc cl C s3 H3 fp) elt te) (hs : ∀ x, foldedSetIterable iter X.env x = pure x := by intro _; rfl) :
  PE X (.ListComp elt [⟨.Name tg ps, iter, [c], 0⟩] sc pos) (mY 1 fr wi (cG 0) tc te) :=
 pG (tgs := [tg]) hc ok.1 hi (fun _ _ _ _ _ => br ok.1.nd rfl (.inl (lookup_relabel_local ok.2)) (.inr (lookup_relabel_local ok.2))) (fun _ _ _ _ _ => qQ (ht _ _ _ _ _)) he hs
noncomputable def AX (fr : List (Str × Nat)) (wi : TI) (te : TE) : TE := mY 1 fr wi (cG 0) tYes te
theorem dX {elt iter : Expr} {x : Str} {px pos : Pos} {fr : List (Str × Nat)} {wi : TI} {te : TE} (hc : X.calm = true) (ok : qL X x sc fr) (hi : PI X (.Name x px) iter wi) (he : ∀ cl C s3 H3 fp, PE (X.blk (x :: fr.map (·.1)) sc cl C s3 H3 fp) elt te) (hs : ∀ x, foldedSetIterable iter X.env x = pure x := by intro _; rfl) :
  PE X (.ListComp elt [⟨.Name x px, iter, [], 0⟩] sc pos) (AX fr wi te) :=
 pG (tgs := [x]) hc ⟨ok.kind, ok.nocell, ok.locs, ok.fre, ok.nd, ok.vis⟩ hi (fun _ _ _ _ _ => br ok.nd rfl (.inl (lookup_relabel_local ok.tgl)) (.inr (lookup_relabel_local ok.tgl))) (fun _ _ _ _ _ => mL) he hs
end L2
namespace L2
open PySem PySem.Spec PyProof.Rows
section
variable {X : Cx} {elt iter tg : Expr} {ifs : List Expr} {tgs : List Str} {pos : Pos} {sc : Scope} {fr : List (Str × Nat)} {wi : TI} {te : TE} {g : TG} {tc : TT}
theorem lJ {y : Str} {py spos : Pos} {iy : Nat} (hN : X.N.Nodup) (hi' : X.N[iy]? = some y) (hy : zE X.env.scope y) (hc : X.calm = true) (ok : eB X tgs sc fr) (hi : PI X tg iter wi) (hg : ∀ cl C s3 H3 fp, PG (X.blk (tgs ++ fr.map (·.1)) sc cl C s3 H3 fp) tg g) (ht : ∀ cl C s3 H3 fp, Dv (X.blk (tgs ++ fr.map (·.1)) sc cl C s3 H3 fp) ifs tc) (he : ∀ cl C s3 H3 fp, PE (X.blk (tgs ++ fr.map (·.1)) sc cl C s3 H3 fp) elt te) (hs : ∀ x, foldedSetIterable iter X.env x = pure x := by intro _; rfl)
  (hsw : swapsWith (.ListComp elt [⟨tg, iter, ifs, 0⟩] sc pos) (some (.Name y py)) spos.line X.env = pure true := by rfl) (hfn : X.fn y = true ∨ X.env.scope.names.lookup y = some .local := by first | exact .inl rfl | exact .inr rfl | assumption) :
  PS X (.Assign [.Name y py] (.ListComp elt [⟨tg, iter, ifs, 0⟩] sc pos) spos) (pJ (mY tgs.length fr wi g tc te) (cG iy)) := by
 intro pins s σ H D I h
 obtain ⟨cl, ecl, hk, hcx⟩ := kn (env := X.env) (sc := sc) (fun y hy yf => I.ok.has y.1 (ok.fre y hy yf))
 rw [exec_Assign_Name_used _ _ _ _ hsw]
 refine wpAny_bind (wpAny_standAt (wpAny_bind ?_))
 show wpAny _ X.A (do let _ <- comprehension (.ListComp elt [⟨tg, iter, ifs, 0⟩] sc pos) sc X.env _ (newList []) false (eval iter X.env) (some (assign (.Name y py) X.env))) _ _ s
 refine wpAny_bind (wpAny_mono (wpAny_comprehension_free (use := some (assign (.Name y py) X.env)) (Q := fun _ s' => SP X pins D .next s') rfl hs ecl ok.kind ok.locs ?_) (fun _ s' z => wpAny_pure (wpAny_pure z)) fun _ _ z => z)
 refine (bQ (hi pins s σ H _ I h) fun v s1 h1 => bQ h1 fun itv s2 h2 => ?_)
 obtain ⟨it, fp, tn, J, H2, e, I2, T, st2, f2, q⟩ := h2
 subst e
 have hacc : H2 s2.heap.objs.size = none := I2.hok.fresh (Nat.le_refl _)
 obtain ⟨W, ⟨m0, w0⟩, turn⟩ := q s2.heap.objs.size hacc
 refine wpAny_newObj_type ?_
 have I3 := I2.laid (a := s2.heap.objs.size) (o := .lst []) (h' := s2.heap.push { cls := .type "list", data := .seq ([] : List Value).toArray }) (t' := s2.toks) (fun b u e => Heap.get?_push_of_some _ e) (Nat.le_refl _) ⟨Nat.zero_le _, [], 0, .nil, Heap.get?_push_size _ rfl⟩
 refine wpAny_newFunctionEnv ok.nocell (by intro y hy; simp at hy) (fun h4 hns4 hsb4 => ?_) ok.kind
 generalize hs3 : ({ s2 with heap := s2.heap.push { cls := .type "list", data := .seq ([] : List Value).toArray } } : Shared) = s3 at *
 have keep4 : ∀ b o, s3.heap.get? b = some o -> h4.get? b = some o := fun b o e => hsb4.extBut b o (Nat.ne_of_lt (Heap.lt_size e)) (Heap.get?_push_of_some _ e)
 have keep3 : ∀ b o, s2.heap.get? b = some o -> s3.heap.get? b = some o := fun b o e => by rw [<- hs3]; exact Heap.get?_push_of_some _ e
 have hfo : ∀ b ∈ fp, ∃ o, s3.heap.get? b = some o := fun b hb => by
  obtain ⟨o, eo, _⟩ := T.obj 0 _ st2 b hb
  exact ⟨o, keep3 b o eo⟩
 have f3 : ∀ b ∈ fp, gW X pins (upd H2 s2.heap.objs.size (.lst [])) b := fun b hb => by
  obtain ⟨o, eo, _⟩ := T.obj 0 _ st2 b hb
  exact ⟨by rw [aE (Nat.ne_of_lt (Heap.lt_size eo))]; exact (f2 b hb).1, (f2 b hb).2⟩
 have I4 := kc (t4 := s3.toks + ([] : List (Str × Value)).length) ok I3 f3 hfo hk hcx ⟨_, hns4⟩ keep4
 have st4 : tn 0 h4 := T.keep 0 s2.heap h4 st2 fun b hb o e => keep4 b o (keep3 b o e)
 have stat : ∀ {H' : Hp}, (∀ b ∈ fp, H' b = none) -> ∀ b ∈ fp, gW (X.blk (tgs ++ fr.map (·.1)) sc cl s3.heap.objs.size s3 (upd H2 s2.heap.objs.size (.lst [])) fp) [] H' b := fun hn b hb =>
  ⟨hn b hb, (I4.ok.exf b hb).1, I4.ok.exfs b hb, .inl hb, (I4.ok.exf b hb).2, fun p hp => nomatch hp⟩
 have loop : codeAny (model X.prog X.w) X.A (.compLoop (.ListComp elt [⟨tg, iter, ifs, 0⟩] sc pos) 0 (.ref it) (.ref s2.heap.objs.size) (compEnvC sc cl s3.heap.objs.size X.env))
   (compPost (model X.prog X.w) X.A X.xe (some (assign (.Name y py) X.env)) (fun _ s' => SP X pins D .next s') (.ref s2.heap.objs.size) s3.heap.objs.size) { s3 with heap := h4, toks := s3.toks + ([] : List (Str × Value)).length } := by
  refine kf (fun n s' => ∃ i σb H', aJ (X.blk (tgs ++ fr.map (·.1)) sc cl s3.heap.objs.size s3 (upd H2 s2.heap.objs.size (.lst [])) fp) [] σb H' s' /\ tn i s'.heap /\ (∀ b ∈ fp, H' b = none) /\ W i n σb H') ?_ m0
   ⟨0, _, _, I4, st4, fun b hb => (f3 b hb).1, w0⟩
  rintro n s5 ⟨i, σb, H5, I5, st5, fr5, w5⟩
  rcases turn i n σb H5 w5 with ⟨stop, qq⟩ | ⟨go, step⟩
  ·refine bQ (T.done (X.blk (tgs ++ fr.map (·.1)) sc cl s3.heap.objs.size s3 (upd H2 s2.heap.objs.size (.lst [])) fp) rfl rfl rfl hc i [] s5 _ H5 _ I5 (stat fr5) st5 stop) fun r s6 ⟨hr, I6⟩ => ?_
   subst hr
   obtain ⟨m6, hn6, _⟩ := I6.loc
   have u6 : Un (dW X.stack) fp (upd H2 s2.heap.objs.size (.lst [])) H5 s3.heap s6.heap := I6.base
   have hok6 : iX X.prog X.w H5 s6.heap := I6.hok
   have os6 : s6.os = s3.os := I6.os
   have bare6 := I6.bare
   have free6 : H5 s3.heap.objs.size = none := I6.free
   have IX : aJ X pins σ H5 s6 := by
    obtain ⟨hh, g, d, t, os'⟩ := s6
    obtain rfl : os' = s3.os := os6
    show aJ X pins σ H5 { s3 with heap := hh, gens := g, drawn := d, toks := t }
    exact I3.call (h' := hh) (g' := g) (d' := d) (t' := t) (ch := fp) u6 hok6 bare6 fun b hb => ⟨(f3 b hb).2.2.2.1, (f3 b hb).2.1, (f3 b hb).2.2.2.2.1, (f3 b hb).2.2.2.2.2⟩
   obtain ⟨oC, es, ep, hoC, Do, rC⟩ := hn6
   have hfC : gW X pins H5 s3.heap.objs.size := I3.fpOk (Nat.le_refl _) free6
   have IX' : aJ X (pins ++ [(s3.heap.objs.size, oC)]) σ H5 s6 := IX.pins_of fun p hp => by
    rcases List.mem_append.mp hp with z | z
    ·exact IX.pin p (List.mem_append_right _ z)
    ·have z' := List.mem_singleton.mp z
     subst z'
     exact ⟨hoC, free6, hfC.2.1, hfC.2.2.1, fun v z => by
      have z2 : oC.data = .cell v := z
      rw [Do] at z2; cases z2⟩
   refine bQ (br (X := X) (i := iy) (pos := py) hN hi' hy hfn _ s6 σ H5 (.ref s2.heap.objs.size) (.ref s2.heap.objs.size) (fun σ' H' => σ' = σ.set iy (some (.ref s2.heap.objs.size)) /\ H' = H5) IX' rfl ⟨rfl, rfl⟩) fun _ s7 z => ?_
   obtain ⟨σ7, H7, I7, e7, e7'⟩ := z
   subst e7 e7'
   have pC := I7.pin (s3.heap.objs.size, oC) (List.mem_append_right _ (List.mem_append_right _ (List.mem_singleton.mpr rfl)))
   refine ⟨m6, ⟨oC, es, ep, pC.1, Do, rC⟩, fun h8 hsb8 => ?_⟩
   have I7u : aJ X pins (σ.set iy (some (.ref s2.heap.objs.size))) H7 s7 := I7.unpinned
   refine ⟨_, H7, ?_, qq⟩
   exact I7u.turned (it := s3.heap.objs.size) (t' := s7.toks) (fun b o hb e => hsb8.extBut b o hb e) free6 hfC.2.1 hfC.2.2.2.1 hfC.2.2.2.2.1 hfC.2.2.2.2.2
  ·refine bQ (T.item (X.blk (tgs ++ fr.map (·.1)) sc cl s3.heap.objs.size s3 (upd H2 s2.heap.objs.size (.lst [])) fp) rfl rfl rfl hc i [] s5 _ H5 _ I5 (stat fr5) st5 go) fun r s6 ⟨u, hr, h6⟩ => ?_
   subst hr
   refine bQ h6 fun _ s7 ⟨y, H7, I7, r7, y7, st7, fr7⟩ => ?_
   have I7' := I7.pinned (stat fr7) (T.obj _ _ st7)
   refine wpAny_mono (hg cl s3.heap.objs.size s3 (upd H2 s2.heap.objs.size (.lst [])) fp _ s7 _ H7 y u _ I7' r7 (step y H7 y7)) (fun _ s8 z => ?_) (fun e s z => (show False from z).elim)
   obtain ⟨σ8, H8, I8, q8⟩ := z
   refine wpAny_mono (ht cl s3.heap.objs.size s3 (upd H2 s2.heap.objs.size (.lst [])) fp _ s8 σ8 H8 _ I8 q8) (fun b s8' z => ?_) (fun e s z => (show False from z).elim)
   obtain ⟨H8', I8', q8'⟩ := z
   have goOn : ∀ {s10 : Shared} {H10 : Hp} {m' : Nat}, aJ (X.blk (tgs ++ fr.map (·.1)) sc cl s3.heap.objs.size s3 (upd H2 s2.heap.objs.size (.lst [])) fp) _ σ8 H10 s10 -> m' < n -> W (i + 1) m' σ8 H10 -> ∃ m, m < n /\ ∃ i σb H', aJ (X.blk (tgs ++ fr.map (·.1)) sc cl s3.heap.objs.size s3 (upd H2 s2.heap.objs.size (.lst [])) fp) [] σb H' s10 /\ tn i s10.heap /\ (∀ b ∈ fp, H' b = none) /\ W i m σb H' := fun {s10 H10 m'} I10 hm w9 => by
    refine ⟨m', hm, i + 1, σ8, _, I10.unpinned, T.keep _ _ _ st7 fun b hb o e => (I10.pin (b, o) (List.mem_append_right _ (List.mem_append_right _ (dj hb e)))).1, fun b hb => ?_, w9⟩
    obtain ⟨o, e, d⟩ := T.obj _ _ st7 b hb
    exact (I10.pin (b, o) (List.mem_append_right _ (List.mem_append_right _ (dj hb e)))).2.1
   cases b with
   | false =>
    obtain ⟨m', hm, w9⟩ := (if_neg Bool.false_ne_true).mp q8'
    exact (if_neg Bool.false_ne_true).mpr (goOn I8' hm w9)
   | true =>
    refine (if_pos rfl).mpr ?_
    refine wpAny_mono (he cl s3.heap.objs.size s3 (upd H2 s2.heap.objs.size (.lst [])) fp _ s8' _ H8' _ I8' ((if_pos rfl).mp q8')) (fun v s9 z => ?_) (fun e s z => (show False from z).elim)
    obtain ⟨z, H9, I9, r9, xs, m', ha, hl, hm, w9⟩ := z
    refine wpAny_mono (dJ (X := X.blk (tgs ++ fr.map (·.1)) sc cl s3.heap.objs.size s3 (upd H2 s2.heap.objs.size (.lst [])) fp) _ s9 _ H9 (.ref s2.heap.objs.size) [z] (.ref s2.heap.objs.size) [v] (fun _ H' => H' = upd H9 s2.heap.objs.size (.lst (xs ++ [z]))) I9 rfl (.cons r9 .nil) ⟨_, xs, z, rfl, rfl, ha, hl, rfl⟩) (fun _ s10 z => ?_) (fun e s z => (show False from z).elim)
    obtain ⟨_, H10, I10, _, e10⟩ := z
    subst e10
    exact goOn I10 hm w9
 exact codeAny_compStart_list loop (T.self X.A 0 _ _ _ st4 loop)
end
variable {X : Cx}
theorem pR {elt iter c : Expr} {tg : Str} {ps pos : Pos} {sc : Scope} {fr : List (Str × Nat)} {wi : TI} {te : TE} {tc : TT} {y : Str} {py spos : Pos} {iy : Nat} (hN : X.N.Nodup) (hi' : X.N[iy]? = some y) (hy : zE X.env.scope y) (hc : X.calm = true) (ok : eB X [tg] sc fr /\ sc.names.lookup tg = some .local) (hi : PI X (.Name tg ps) iter wi)
  (ht : ∀ cl C s3 H3 fp, PT (X.blk ([tg] ++ fr.map (·.1)) sc cl C s3 H3 fp) c tc) (he : ∀ cl C s3 H3 fp, PE (X.blk ([tg] ++ fr.map (·.1)) sc cl C s3 H3 fp) elt te) (hs : ∀ x, foldedSetIterable iter X.env x = pure x := by intro _; rfl)
  (hsw : swapsWith (.ListComp elt [⟨.Name tg ps, iter, [c], 0⟩] sc pos) (some (.Name y py)) spos.line X.env = pure true := by rfl) (hfn : X.fn y = true ∨ X.env.scope.names.lookup y = some .local := by first | exact .inl rfl | exact .inr rfl | assumption) :
  PS X (.Assign [.Name y py] (.ListComp elt [⟨.Name tg ps, iter, [c], 0⟩] sc pos) spos) (pJ (mY 1 fr wi (cG 0) tc te) (cG iy)) :=
 lJ (tgs := [tg]) hN hi' hy hc ok.1 hi (fun _ _ _ _ _ => br ok.1.nd rfl (.inl (lookup_relabel_local ok.2)) (.inr (lookup_relabel_local ok.2))) (fun _ _ _ _ _ => qQ (ht _ _ _ _ _)) he hs hsw hfn
noncomputable def vb (iy : Nat) (fr : List (Str × Nat)) (wi : TI) (te : TE) : TS := pJ (AX fr wi te) (cG iy)
theorem uA {elt iter : Expr} {x : Str} {px pos : Pos} {sc : Scope} {fr : List (Str × Nat)} {wi : TI} {te : TE} {y : Str} {py spos : Pos} {iy : Nat} (hN : X.N.Nodup) (hi' : X.N[iy]? = some y) (hy : zE X.env.scope y) (hc : X.calm = true) (ok : qL X x sc fr) (hi : PI X (.Name x px) iter wi) (he : ∀ cl C s3 H3 fp, PE (X.blk (x :: fr.map (·.1)) sc cl C s3 H3 fp) elt te) (hs : ∀ x, foldedSetIterable iter X.env x = pure x := by intro _; rfl)
  (hsw : swapsWith (.ListComp elt [⟨.Name x px, iter, [], 0⟩] sc pos) (some (.Name y py)) spos.line X.env = pure true := by rfl) (hfn : X.fn y = true ∨ X.env.scope.names.lookup y = some .local := by first | exact .inl rfl | exact .inr rfl | assumption) :
  PS X (.Assign [.Name y py] (.ListComp elt [⟨.Name x px, iter, [], 0⟩] sc pos) spos) (vb iy fr wi te) :=
 lJ (tgs := [x]) hN hi' hy hc ⟨ok.kind, ok.nocell, ok.locs, ok.fre, ok.nd, ok.vis⟩ hi (fun _ _ _ _ _ => br ok.nd rfl (.inl (lookup_relabel_local ok.tgl)) (.inr (lookup_relabel_local ok.tgl))) (fun _ _ _ _ _ => mL) he hs hsw hfn
noncomputable def yI (K : Fg) : List V -> Hp -> VK -> Prop := fun xs H Q => ∃ p ys, xs = [.ref p] /\ (cg K H p ys ∨ ci K H p ys) /\ Q (.int ys.length) H
theorem tw : bY X (.builtin "len") (yI X.K) := aw
end L2
namespace L2
open PySem PySem.Spec PyProof.Rows
inductive eX (K : Fg) (H : Hp) : Nat -> V -> V -> Prop
 | int {n : Nat} {i : Int} : eX K H n (.int i) (.int i)
 | str {n : Nat} {x : Str} : eX K H n (.str x) (.str x)
 | bl {n : Nat} {b : Bool} : eX K H n (.bl b) (.bl b)
 | non {n : Nat} : eX K H n .non .non
 | ref {n : Nat} {a : Addr} : eX K H n (.ref a) (.ref a)
 | tup {n : Nat} {p q : Addr} {xs ys : List V} (h1 : ci K H p xs) (h2 : ci K H q ys) (hl : xs.length = ys.length) (he : ∀ (j : Nat) (x y : V), xs[j]? = some x -> ys[j]? = some y -> eX K H n x y) : eX K H (n + 1) (.ref p) (.ref q)
 | lst {n : Nat} {p q : Addr} {xs ys : List V} (h1 : cg K H p xs) (h2 : cg K H q ys) (hl : xs.length = ys.length) (he : ∀ (j : Nat) (x y : V), xs[j]? = some x -> ys[j]? = some y -> eX K H n x y) : eX K H (n + 1) (.ref p) (.ref q)
 | dct {n : Nat} {p q : Addr} (h1 : H p = some (.dK [])) (h2 : H q = some (.dK [])) : eX K H n (.ref p) (.ref q)
theorem ol {P P' : Program} {w w' : World} {h : Heap} {a : Addr} (d : h.DictOf (ia P w) a []) : h.DictOf (ia P' w') a [] := by
 obtain ⟨o, es, ep, ho, he, hd, hk, hp, hn⟩ := d
 obtain ⟨es⟩ := es
 cases hp
 exact ⟨o, _, ep, ho, he, hd, fun _ h => absurd h (by simp), .nil, hn⟩
theorem cB {xs : List V} {us : List Value} (h : bd xs us) : ∀ {j : Nat} {u : Value}, us[j]? = some u -> ∃ x, xs[j]? = some x /\ bu x u := by
 induction h with
 | nil => intro j u e; simp at e
 | cons r rr ih =>
  intro j u e
  cases j with
  | zero => exact ⟨_, rfl, by rw [List.getElem?_cons_zero] at e; cases e; exact r⟩
  | succ j => exact ih (by rw [List.getElem?_cons_succ] at e; exact e)
theorem fb {n : Nat} : (List.range n).all (fun _ => true) = true := by rw [List.all_eq_true]; intro _ _; rfl
section
variable {X : Cx} {pins : Pn} {σ : St} {H : Hp} {s : Shared}
theorem aJ.alike (I : aJ X pins σ H s) {n : Nat} {x y : V} (h : eX X.K H n x y) : ∀ {A : Around} {u v : Value}, A.units + n < cLine -> bu x u -> bu y v -> SeqAt.EqAt A s u v true := by
 induction h with
 | @int n i =>
  intro A u v hu r1 r2
  obtain ⟨t, rfl⟩ := r1
  obtain ⟨t', rfl⟩ := r2
  have := SeqAt.EqAt.int_int (A := A) (s := s) i t i t'
  rw [beq_self_eq_true] at this
  exact this
 | @str n x =>
  intro A u v hu r1 r2
  obtain ⟨t, rfl⟩ := r1
  obtain ⟨t', rfl⟩ := r2
  have := SeqAt.EqAt.str_str (A := A) (s := s) x t x t'
  rw [beq_self_eq_true] at this
  exact this
 | bl => intro A u v hu r1 r2; cases r1; cases r2; exact SeqAt.EqAt.same _
 | non => intro A u v hu r1 r2; cases r1; cases r2; exact SeqAt.EqAt.same _
 | ref => intro A u v hu r1 r2; cases r1; cases r2; exact SeqAt.EqAt.same _
 | @tup n p q xs ys h1 h2 hl he ih =>
  intro A u v hu r1 r2
  cases r1
  cases r2
  by_cases e : p = q
  ·subst e; exact SeqAt.EqAt.same _
  ·refine SeqAt.EqAt.of_refs e ?_
   obtain ⟨its, v1, p1, _⟩ := I.tuple h1
   obtain ⟨its2, v2, p2, _⟩ := I.tuple h2
   have l1 := v1.length
   have l2 := v2.length
   have key := SeqAt.RcAt.tuples (A := A) (s := s) (l := p) (b := q) (items := its.toArray) (items2 := its2.toArray) (e := fun _ => true) p1 p2 (by omega) (fun j g1 g2 => by
    have g1' : j < its.length := by simpa using g1
    have g2' : j < its2.length := by simpa using g2
    obtain ⟨x, ex, rx⟩ := cB v1 (List.getElem?_eq_getElem g1')
    obtain ⟨y, ey, ry⟩ := cB v2 (List.getElem?_eq_getElem g2')
    have w1 : its.toArray[j] = its[j] := by simp
    have w2 : its2.toArray[j] = its2[j] := by simp
    rw [w1, w2]
    exact ih j x y ex ey (by show A.units + 1 + n < cLine; omega) rx ry)
   have e2 : ((List.range (min its.toArray.size its2.toArray.size)).all (fun _ => true) && its.toArray.size == its2.toArray.size) = true := by
    rw [fb, Bool.true_and, List.size_toArray, List.size_toArray, <- l1, <- l2, hl, beq_self_eq_true]
   rw [e2] at key
   exact key
 | @lst n p q xs ys h1 h2 hl he ih =>
  intro A u v hu r1 r2
  cases r1
  cases r2
  by_cases e : p = q
  ·subst e; exact SeqAt.EqAt.same _
  ·refine SeqAt.EqAt.of_refs e ?_
   obtain ⟨its, v1, p1, _⟩ := I.list h1
   obtain ⟨its2, v2, p2, _⟩ := I.list h2
   have l1 := v1.length
   have l2 := v2.length
   have key := SeqAt.RcAt.lists (A := A) (s := s) (l := p) (b := q) (items := its.toArray) (items2 := its2.toArray) (e := fun _ => true) p1.isList p2.isList (by rw [List.size_toArray, List.size_toArray, <- l1, <- l2, hl]) (by omega) (fun j g1 g2 => by
    have g1' : j < its.length := by simpa using g1
    have g2' : j < its2.length := by simpa using g2
    obtain ⟨x, ex, rx⟩ := cB v1 (List.getElem?_eq_getElem g1')
    obtain ⟨y, ey, ry⟩ := cB v2 (List.getElem?_eq_getElem g2')
    have w1 : its.toArray[j] = its[j] := by simp
    have w2 : its2.toArray[j] = its2[j] := by simp
    rw [w1, w2]
    exact ih j x y ex ey (by show A.units + 1 + n < cLine; omega) rx ry)
   rw [fb] at key
   exact key
 | @dct n p q h1 h2 =>
  intro A u v hu r1 r2
  cases r1
  cases r2
  by_cases e : p = q
  ·subst e; exact SeqAt.EqAt.same _
  ·refine SeqAt.EqAt.of_refs e fun prog w E Q hq => ?_
   obtain ⟨_, z1, vs1, k1, d1⟩ := (show bz X.prog X.w H s.heap p (.dK []) from I.hok p _ h1)
   obtain ⟨_, z2, vs2, k2, d2⟩ := (show bz X.prog X.w H s.heap q (.dK []) from I.hok q _ h2)
   cases k1
   cases k2
   exact PySem.W.keq_eq (r := true) z1 z2 (ol (P' := prog) (w' := w) d1) (ol d2) (by omega) (fun _ => .nil) hq
noncomputable def zk (K : Fg) (H : Hp) (p q : Addr) : Prop := ∃ (n : Nat) (xs ys : List V), n <= 100 /\ ((ci K H p xs /\ ci K H q ys) ∨ (cg K H p xs /\ cg K H q ys)) /\ xs.length = ys.length /\ ∀ (j : Nat) (x y : V), xs[j]? = some x -> ys[j]? = some y -> eX K H n x y
noncomputable def zx (K : Fg) (b : Bool) : R2 := fun x y H Q => ∃ p q, x = .ref p /\ y = .ref q /\ zk K H p q /\ Q (.bl b) H
theorem tI (hu : X.A.units + 150 < cLine) : eG X (compareOp .Eq) (zx X.K true) := by
 intro pins s σ H x y v u Q I rx ry h
 obtain ⟨p, q, rfl, rfl, ⟨n, xs, ys, hn, hs, hl, he⟩, k⟩ := h
 cases rx
 cases ry
 rcases hs with ⟨h1, h2⟩ | ⟨h1, h2⟩
 ·obtain ⟨its, v1, p1, _⟩ := I.tuple h1
  obtain ⟨its2, v2, p2, _⟩ := I.tuple h2
  have l1 := v1.length
  have l2 := v2.length
  have key := SeqAt.RcAt.tuples (A := X.A) (s := s) (l := p) (b := q) (items := its.toArray) (items2 := its2.toArray) (e := fun _ => true) p1 p2 (by omega) (fun j g1 g2 => by
   have g1' : j < its.length := by simpa using g1
   have g2' : j < its2.length := by simpa using g2
   obtain ⟨x, ex, rx⟩ := cB v1 (List.getElem?_eq_getElem g1')
   obtain ⟨y, ey, ry⟩ := cB v2 (List.getElem?_eq_getElem g2')
   have w1 : its.toArray[j] = its[j] := by simp
   have w2 : its2.toArray[j] = its2[j] := by simp
   rw [w1, w2]
   exact I.alike (he j x y ex ey) (by show X.A.units + 1 + n < cLine; omega) rx ry)
  have e2 : ((List.range (min its.toArray.size its2.toArray.size)).all (fun _ => true) && its.toArray.size == its2.toArray.size) = true := by
   rw [fb, Bool.true_and, List.size_toArray, List.size_toArray, <- l1, <- l2, hl, beq_self_eq_true]
  rw [e2] at key
  exact key _ _ _ _ ⟨.bl true, H, I, rfl, k⟩
 ·obtain ⟨its, v1, p1, _⟩ := I.list h1
  obtain ⟨its2, v2, p2, _⟩ := I.list h2
  have l1 := v1.length
  have l2 := v2.length
  have key := SeqAt.RcAt.lists (A := X.A) (s := s) (l := p) (b := q) (items := its.toArray) (items2 := its2.toArray) (e := fun _ => true) p1.isList p2.isList (by rw [List.size_toArray, List.size_toArray, <- l1, <- l2, hl]) (by omega) (fun j g1 g2 => by
   have g1' : j < its.length := by simpa using g1
   have g2' : j < its2.length := by simpa using g2
   obtain ⟨x, ex, rx⟩ := cB v1 (List.getElem?_eq_getElem g1')
   obtain ⟨y, ey, ry⟩ := cB v2 (List.getElem?_eq_getElem g2')
   have w1 : its.toArray[j] = its[j] := by simp
   have w2 : its2.toArray[j] = its2[j] := by simp
   rw [w1, w2]
   exact I.alike (he j x y ex ey) (by show X.A.units + 1 + n < cLine; omega) rx ry)
  rw [fb] at key
  exact key _ _ _ _ ⟨.bl true, H, I, rfl, k⟩
theorem zV (hu : X.A.units + 150 < cLine) : eG X (compareOp .NotEq) (zx X.K false) := by
 intro pins s σ H x y v u Q I rx ry h
 obtain ⟨p, q, rfl, rfl, ⟨n, xs, ys, hn, hs, hl, he⟩, k⟩ := h
 cases rx
 cases ry
 rcases hs with ⟨h1, h2⟩ | ⟨h1, h2⟩
 ·obtain ⟨its, v1, p1, _⟩ := I.tuple h1
  obtain ⟨its2, v2, p2, _⟩ := I.tuple h2
  have l1 := v1.length
  have l2 := v2.length
  have key := SeqAt.RcNeAt.tuples (A := X.A) (s := s) (l := p) (b := q) (items := its.toArray) (items2 := its2.toArray) (e := fun _ => true) p1 p2 (by omega) (fun j g1 g2 => by
   have g1' : j < its.length := by simpa using g1
   have g2' : j < its2.length := by simpa using g2
   obtain ⟨x, ex, rx⟩ := cB v1 (List.getElem?_eq_getElem g1')
   obtain ⟨y, ey, ry⟩ := cB v2 (List.getElem?_eq_getElem g2')
   have w1 : its.toArray[j] = its[j] := by simp
   have w2 : its2.toArray[j] = its2[j] := by simp
   rw [w1, w2]
   exact I.alike (he j x y ex ey) (by show X.A.units + 1 + n < cLine; omega) rx ry)
  have e2 : (!((List.range (min its.toArray.size its2.toArray.size)).all (fun _ => true) && its.toArray.size == its2.toArray.size)) = false := by
   rw [fb, Bool.true_and, List.size_toArray, List.size_toArray, <- l1, <- l2, hl, beq_self_eq_true]; rfl
  rw [e2] at key
  exact key _ _ _ _ ⟨.bl false, H, I, rfl, k⟩
 ·obtain ⟨its, v1, p1, _⟩ := I.list h1
  obtain ⟨its2, v2, p2, _⟩ := I.list h2
  have l1 := v1.length
  have l2 := v2.length
  have key := SeqAt.RcNeAt.lists (A := X.A) (s := s) (l := p) (b := q) (items := its.toArray) (items2 := its2.toArray) (e := fun _ => true) p1.isList p2.isList (by rw [List.size_toArray, List.size_toArray, <- l1, <- l2, hl]) (by omega) (fun j g1 g2 => by
   have g1' : j < its.length := by simpa using g1
   have g2' : j < its2.length := by simpa using g2
   obtain ⟨x, ex, rx⟩ := cB v1 (List.getElem?_eq_getElem g1')
   obtain ⟨y, ey, ry⟩ := cB v2 (List.getElem?_eq_getElem g2')
   have w1 : its.toArray[j] = its[j] := by simp
   have w2 : its2.toArray[j] = its2[j] := by simp
   rw [w1, w2]
   exact I.alike (he j x y ex ey) (by show X.A.units + 1 + n < cLine; omega) rx ry)
  rw [fb] at key
  exact key _ _ _ _ ⟨.bl false, H, I, rfl, k⟩
end
theorem cU.un150 {k : Nat} {A : Around} (r : cU k A) : A.units + 150 < cLine := by have := r.un; omega
end L2
namespace L2
open PySem PySem.Spec PyProof.Rows PySem.W PySem.Calls
theorem fK : ∀ {ns : List Int}, WData.weightAll (ns.map WData.int) <= 2 ^ 20 -> ∀ x ∈ ns, My.Bd 1048576 x
 | y :: r, h, x, hx => by
  have h' : WData.weight (.int y) + 1 + WData.weightAll (r.map WData.int) <= 2 ^ 20 := h
  rcases List.mem_cons.mp hx with e | e
  ·subst e
   have w : WData.weight (.int x) = (if x == 0 then 0 else x.natAbs.log2 + 1) := by
    first | rfl | simp [WData.weight]
   unfold My.Bd
   by_cases z : x = 0
   ·subst z
    exact Nat.two_pow_pos _
   ·have zb : (x == 0) = false := by simpa using z
    rw [w, zb] at h'
    have h2 : x.natAbs.log2 < 1048576 := by
     have e20 : (2 : Nat) ^ 20 = 1048576 := by decide
     rw [e20] at h'
     simp only [Bool.false_eq_true, if_false] at h'
     omega
    exact (Nat.log2_lt (by omega)).mp h2
  ·exact fK (by omega) x e
theorem mK {l : OpenLaw} {n : Nat} {q : Program} {loose : List Str} {XP : (Str -> Option Value) -> Heap -> Prop} {YP : World -> Heap -> Prop} {d : DefRec}
  (hn : l.most = some n) (hdf : d.params.defaults = [])
  (call : ∀ (w : World) (s₀ s₁ : Shared) (mg mb : Str -> Option Value) (fa : Addr) (o : Obj) (pm cd doc : Value) (a : Addr) (vs : List Value) (ns : List Int),
   Ground q loose [] XP w s₀ mg mb s₁.heap -> YP w s₁.heap ->
   s₁.heap.get? fa = some o -> o.data = .func (docDef d.name d.params d.body d.scope pm cd doc) -> s₁.heap.CodeRec cd d.name -> mg d.name = some (.ref fa) ->
   s₁.heap.get? a = some { cls := .type "list", data := .seq vs.toArray } -> IntsAre vs ns -> ns.length <= n -> (∀ x ∈ ns, My.Bd 1048576 x) -> s₁.gens = #[] ->
   codeAny (model l.prog w) callerA (.call (.ref fa) ⟨[.ref a], []⟩) (fun r s' => r = .ok (.ret (.bool true)) /\ OldK s₁.heap s'.heap /\ s'.os = s₁.os /\ AllBare s'.gens) s₁) :
  WalkO q loose XP YP l.row.toRowW d [] (fun f vs => PySem.call f vs) := by
 intro w s₀ s₁ mg mb G Y fa o pm cd doc dV kV ho hd hcd hD hmg hg args vals as hpre hlay hrd hwl hlo
 obtain rfl : dV = .none := Dflts.none hD hdf
 obtain rfl : kV = .none := Dflts.noKw hD
 obtain ⟨a, vs, ns, rfl, rfl, hobj, hints, hlen⟩ := Att.script_of hn hpre hwl
 have hb : ∀ x ∈ ns, My.Bd 1048576 x := by
  have h1 : (WData.list (ns.map WData.int)).layable = true := by
   have h2 : ([WData.list (ns.map WData.int)].all WData.layable) = true := hlay
   simpa using h2
  obtain ⟨_, _, h3⟩ := layableW_iff.mp h1
  refine fK ?_
  have e : WData.weight (.list (ns.map WData.int)) = WData.weightAll (ns.map WData.int) := by
   first | rfl | simp [WData.weight]
  rw [e] at h3
  exact h3
 refine enter_call (codeAny_mono (call w s₀ s₁ mg mb fa o pm cd doc a vs ns G Y ho (fd_plain hd) hcd hmg hobj hints hlen hb hg) fun r s' hq => ?_)
 obtain ⟨rfl, h2, h3, h4⟩ := hq
 exact ⟨.inl ⟨.bool true, .bool true, [], rfl, fun _ => rfl, .bool true, Att.post_true l _, fun _ => ⟨List.Pairwise.nil, fun _ hm => (nomatch hm)⟩⟩, h2, h3, h4⟩
theorem walk_ofB {l : PySem.W.OpenLaw} {n k : Nat} {q : Program} {loose : List Str} {XP : (Str -> Option Value) -> Heap -> Prop} {YP : World -> Heap -> Prop} {d : DefRec} {K : Params -> Fg} {CX : World -> CXT} {sp : World -> Sp} {x : Str}
  (hn : l.most = some n) (hn2 : n <= sizeLine) (hdf : d.params.defaults = []) (hr : cU k callerA)
  (hY : ∀ (w : World) (h : Heap), YP w h -> (K w.params).In h)
  (F : ∀ (w : World) (mg : Str -> Option Value) (fa : Addr) (h : Heap), (K w.params).In h -> h.Ns mainGlobals mg -> mg d.name = some (.ref fa) ->
   ∃ fd : FuncData, (∀ (s : Shared) (u : Value), BindsTo s fd ⟨[u], []⟩ [(x, u)]) /\
    ∀ base : Heap, (K w.params).In base -> base.Ns mainGlobals mg -> dR l.prog w (K w.params) mg base (CX w) k fa fd [x] (sp w))
  (hsp : ∀ (w : World) (H : Hp) (a : Addr) (ns : List Int), ns.length <= n -> (∀ x ∈ ns, My.Bd 1048576 x) -> zQ H -> cg (K w.params) H a (ns.map V.int) -> sp w [.ref a] H (fun v _ => v = .bl true) fun _ _ _ => False)
  (hCX : ∀ (w : World) (H : Hp) (s : Shared) (e : Value) (s' : Shared), CX w [] H s (fun _ _ _ => False) e s' -> False) :
  PySem.W.WalkO q loose XP YP l.row.toRowW d [] (fun f vs => PySem.call f vs) := by
 refine mK hn hdf fun w s₀ s₁ mg mb fa o pm cd doc a vs ns G Y ho hd hcd hmg hobj hints hlen hbits hg => ?_
 have KX := hY w _ Y
 obtain ⟨fd, hb, hF⟩ := F w mg fa _ KX G.T.g hmg
 exact uG KX G.T.g G.T.b G.T.builtins G.T.nolimit hg hobj hints (Nat.le_trans hlen hn2) hr hF hb (fun H hO hS => hsp w H a ns hlen hbits hO hS) fun H e s' => hCX w H s₁ e s'
end L2
namespace L2
open PySem PySem.Spec PyProof.Rows
noncomputable def yk (K : Fg) : V -> List V -> Hp -> VK -> Prop := fun x vs H Q => ∃ (l : Addr) (sep : Str) (ts : List Str), x = .str sep /\ vs = [.ref l] /\ cg K H l (ts.map V.str) /\ JoinOk sep ts = true /\ Q (.str (Txt.join sep ts)) H
section
variable {X : Cx}
theorem qR : ∀ {ts : List Str} {us : List Value}, bd (ts.map V.str) us -> ∃ l : List (Str × Tok), strValues l = us /\ l.map (·.1) = ts
 | [], _, .nil => ⟨[], rfl, rfl⟩
 | x :: r, _, .cons h t => by
  obtain ⟨tk, rfl⟩ := h
  obtain ⟨l, e1, e2⟩ := qR (ts := r) t
  exact ⟨(x, tk) :: l, by rw [<- e1]; rfl, by rw [<- e2]; rfl⟩
theorem vV : En X "str.join" (yk X.K) := by
 intro pins s σ H x vs v us Q I rx rv h
 obtain ⟨l, sep, ts, rfl, rfl, hq, hok, q⟩ := h
 obtain ⟨t, rfl⟩ := rx
 obtain ⟨u, rfl, ru⟩ := rv.one
 cases ru
 obtain ⟨its, r, pl, hsz⟩ := I.list hq
 obtain ⟨ll, e1, e2⟩ := qR r
 refine SC.join (l := ll) (texts := ts) (by rw [e1]; exact pl.isList) e2 hok (fun t' k => ⟨.str _, H, I.tok _, ⟨_, rfl⟩, q⟩)
noncomputable def rSlS : V -> Option Int -> Option Int -> Hp -> VK -> Prop := fun x lo hi H Q => ∃ z : Str, x = .str z /\ z.length <= sizeLine /\ Q (.str (Txt.slice z lo hi)) H
theorem qE : Dh X rSlS := by
 intro pins s σ H x v vl vu lo hi sl Q I rx hs pl pu h
 obtain ⟨z, rfl, hz, q⟩ := h
 obtain ⟨t, rfl⟩ := rx
 have fin : ∀ (l u : Option (Int × Tok)), s.heap.IsSlice sl l u none -> Q (.str (Txt.slice z (l.map (·.1)) (u.map (·.1)))) H -> wpAny (model X.prog X.w) X.A (getItem (.str z t) (.ref sl)) (EP X pins σ Q) X.xe s := fun l u hs q =>
  wpAny_getItem_str_slice (l := l) (u := u) (st := none) hs rfl (post_val_or_str ⟨Nat.le_trans (Txt.slice_le z _ _) hz, fun t' k => ⟨.str _, H, I.tok _, ⟨_, rfl⟩, q⟩⟩)
 refine ⟨"str", _, PySem.F.slot_str_getitem.lookup, typeIs_str _ _ _, ?_⟩
 cases pl with
 | none =>
  cases pu with
  | none => exact fin none none hs q
  | int j tj => exact fin none (some (j, tj)) hs q
 | int i ti =>
  cases pu with
  | none => exact fin (some (i, ti)) none hs q
  | int j tj => exact fin (some (i, ti)) (some (j, tj)) hs q
noncomputable def zo (K : Fg) (f : Bool -> Bool) : R2 := fun x y H Q => ∃ (p q : Addr) (xs : List V), x = .ref p /\ y = .ref q /\ cg K H p xs /\ cg K H q [] /\ Q (.bl (f xs.isEmpty)) H
theorem qj (hu : X.A.units < cLine) : eG X (compareOp .Eq) (zo X.K (fun b => b)) := by
 intro pins s σ H x y v u Q I rx ry h
 obtain ⟨p, q, xs, rfl, rfl, h1, h2, k⟩ := h
 cases rx
 cases ry
 obtain ⟨its, v1, p1, _⟩ := I.list h1
 obtain ⟨its2, v2, p2, _⟩ := I.list h2
 have l1 := v1.length
 have l2 := v2.length
 cases xs with
 | nil =>
  have e1 : its.length = 0 := by rw [<- l1]; rfl
  have e2 : its2.length = 0 := by rw [<- l2]; rfl
  have key := SeqAt.RcAt.lists (A := X.A) (s := s) (l := p) (b := q) (items := its.toArray) (items2 := its2.toArray) (e := fun _ => true) p1.isList p2.isList (by rw [List.size_toArray, List.size_toArray, e1, e2]) hu (fun j g1 g2 => by
   have g1' : j < its.length := by simpa using g1
   omega)
  have e3 : (List.range its.toArray.size).all (fun _ => true) = true := by rw [List.all_eq_true]; intro _ _; rfl
  rw [e3] at key
  exact key _ _ _ _ ⟨.bl true, H, I, rfl, k⟩
 | cons y r =>
  have e1 : its.length = r.length + 1 := by rw [<- l1]; rfl
  have e2 : its2.length = 0 := by rw [<- l2]; rfl
  have key := SeqAt.RcAt.lists_lengths (A := X.A) (s := s) (l := p) (b := q) (items := its.toArray) (items2 := its2.toArray) p1.isList p2.isList (by rw [List.size_toArray, List.size_toArray, e1, e2]; rfl) hu
  exact key _ _ _ _ ⟨.bl false, H, I, rfl, k⟩
theorem ng (hu : X.A.units < cLine) : eG X (compareOp .NotEq) (zo X.K (fun b => !b)) := by
 intro pins s σ H x y v u Q I rx ry h
 obtain ⟨p, q, xs, rfl, rfl, h1, h2, k⟩ := h
 cases rx
 cases ry
 obtain ⟨its, v1, p1, _⟩ := I.list h1
 obtain ⟨its2, v2, p2, _⟩ := I.list h2
 have l1 := v1.length
 have l2 := v2.length
 cases xs with
 | nil =>
  have e1 : its.length = 0 := by rw [<- l1]; rfl
  have e2 : its2.length = 0 := by rw [<- l2]; rfl
  have key := SeqAt.RcNeAt.lists (A := X.A) (s := s) (l := p) (b := q) (items := its.toArray) (items2 := its2.toArray) (e := fun _ => true) p1.isList p2.isList (by rw [List.size_toArray, List.size_toArray, e1, e2]) hu (fun j g1 g2 => by
   have g1' : j < its.length := by simpa using g1
   omega)
  have e3 : (List.range its.toArray.size).all (fun _ => true) = true := by rw [List.all_eq_true]; intro _ _; rfl
  rw [e3] at key
  exact key _ _ _ _ ⟨.bl false, H, I, rfl, k⟩
 | cons y r =>
  have e1 : its.length = r.length + 1 := by rw [<- l1]; rfl
  have e2 : its2.length = 0 := by rw [<- l2]; rfl
  have key := SeqAt.RcNeAt.lists_lengths (A := X.A) (s := s) (l := p) (b := q) (items := its.toArray) (items2 := its2.toArray) p1.isList p2.isList (by rw [List.size_toArray, List.size_toArray, e1, e2]; rfl) hu
  exact key _ _ _ _ ⟨.bl true, H, I, rfl, k⟩
noncomputable def rAddS : R2 := fun x y H Q => ∃ i j, x = .str i /\ y = .str j /\ i.length + j.length <= sizeLine /\ Q (.str (i ++ j)) H
theorem mG : eG X (binaryOp .Add) rAddS := pW
end
section
variable {σ : St} {H : Hp} {Q : VK} {K : Fg} {p q : Addr} {xs : List V} {f : Bool -> Bool}
theorem vv {a b : Str} (h : a.length + b.length <= sizeLine) (k : Q (.str (a ++ b)) H) : rAddS (.str a) (.str b) H Q := ⟨a, b, rfl, rfl, h, k⟩
variable {z : Str}
theorem Bu {lo hi : Option Int} (h : z.length <= sizeLine) (k : Q (.str (Txt.slice z lo hi)) H) : rSlS (.str z) lo hi H Q := ⟨z, rfl, h, k⟩
theorem xY {i : Int} {c : Nat} (h : z.length <= sizeLine) (ha : eI z.cps.toList i = some c) (k : Q (.str ⟨#[c]⟩) H) : rIxS (.str z) (.int i) H Q := ⟨z, i, c, rfl, rfl, h, ha, k⟩
theorem Ef {b : Bool} {x : V} (h : cg K H p xs) (fx : eE x = true) (fs : xs.all eE = true) (k : Q (.bl (if b then !uS x xs else uS x xs)) H) : vS K b x (.ref p) H Q := ⟨p, xs, rfl, .inl h, fx, fs, k⟩
theorem Ap {sep : Str} {ts : List Str} (h : cg K H p (ts.map V.str)) (ok : JoinOk sep ts = true) (k : Q (.str (Txt.join sep ts)) H) : yk K (.str sep) [.ref p] H Q := ⟨p, sep, ts, rfl, rfl, h, ok, k⟩
theorem AV {S : Prop} (q : S) : AS K "str" (.str z) H /\ S := ⟨rfl, q⟩
end
end L2
namespace L2
open PySem PySem.Spec PyProof.Rows
theorem nG (f : Nat -> Int) : ∀ n, argBest (fun i j => decide (f i > f j)) n <= n /\ ∀ j, j <= n -> f j <= f (argBest (fun i j => decide (f i > f j)) n)
 | 0 => ⟨Nat.le_refl _, fun j hj => by rw [Nat.le_zero.mp hj]; exact Int.le_refl _⟩
 | n + 1 => by
  obtain ⟨h1, h2⟩ := nG f n
  unfold argBest
  by_cases h : f (n + 1) > f (argBest (fun i j => decide (f i > f j)) n)
  ·rw [if_pos (decide_eq_true h)]
   refine ⟨Nat.le_refl _, fun j hj => ?_⟩
   rcases Nat.lt_or_ge j (n + 1) with k | k
   ·have := h2 j (by omega); omega
   ·rw [show j = n + 1 by omega]; exact Int.le_refl _
  ·rw [if_neg (by rw [decide_eq_true_eq]; exact h)]
   refine ⟨by omega, fun j hj => ?_⟩
   rcases Nat.lt_or_ge j (n + 1) with k | k
   ·exact h2 j (by omega)
   ·rw [show j = n + 1 by omega]; omega
theorem mT : ∀ {ns : List Int} {us : List Value}, bd (ns.map V.int) us -> ∃ l : List (Int × Tok), us = l.map (fun p => Value.int p.1 p.2) /\ l.map (·.1) = ns
 | [], _, .nil => ⟨[], rfl, rfl⟩
 | x :: r, _, .cons h t => by
  obtain ⟨tk, rfl⟩ := h
  obtain ⟨l, e1, e2⟩ := mT (ns := r) t
  exact ⟨(x, tk) :: l, by rw [e1]; rfl, by rw [<- e2]; rfl⟩
theorem iq {l : List (Int × Tok)} {ns : List Int} (e : l.map (·.1) = ns) {j : Nat} {n : Int} (h : ns[j]? = some n) : numAt l.toArray j = n := by
 subst e
 rw [List.getElem?_map] at h
 unfold numAt
 rw [List.getElem?_toArray, h]
 rfl
noncomputable def rE (ns : List Int) (m : Int) : Prop := m ∈ ns /\ ∀ n ∈ ns, n <= m
theorem Aa {l : List (Int × Tok)} {ns : List Int} {m : Int} (e : l.map (·.1) = ns) (hm : rE ns m) : numAt l.toArray (argBest (fun i j => decide (numAt l.toArray i > numAt l.toArray j)) (l.toArray.size - 1)) = m := by
 obtain ⟨hb, hmax⟩ := nG (numAt l.toArray) (l.toArray.size - 1)
 have hlen : l.length = ns.length := by rw [<- e, List.length_map]
 obtain ⟨j, hj, ej⟩ := List.getElem_of_mem hm.1
 have hs : l.toArray.size = ns.length := by rw [List.size_toArray, hlen]
 generalize argBest (fun i j => decide (numAt l.toArray i > numAt l.toArray j)) (l.toArray.size - 1) = k at *
 have hk : k < ns.length := by omega
 have a1 := iq e (List.getElem?_eq_getElem hk)
 have a2 := iq e (List.getElem?_eq_getElem hj)
 have a3 := hmax j (by omega)
 have a4 := hm.2 _ (List.getElem_mem hk)
 omega
section
variable {prog : Program} {w : World} {A : Around} {R : Result -> Shared -> Prop} {I : Addr} {fp wr : List Addr} {n : Nat} {P : Nat -> Value -> Prop} {St : Nat -> Heap -> Prop} {kw : List (Str × Value)}
end
section
variable {X : Cx}
end
end L2
namespace L2
open PySem PySem.Spec PyProof.Rows
section
variable {σ : St} {H : Hp} {Q : VK}
end
noncomputable def LCO (st : St) (J : It) (te : TE) (H1 : Hp) (Q : VK) : Prop := ∀ acc, H1 acc = none -> ∃ W : Nat -> Nat -> Hp -> Prop, (∃ m, W 0 m (upd H1 acc (.lst []))) /\ ∀ i m H2, W i m H2 ->
 (J.stop i H2 /\ Q (.ref acc) H2) ∨ (J.go i H2 /\ ∀ x H3, J.yld i H2 x H3 -> te (some x :: st) H3 fun v H4 => ∃ xs m', H4 acc = some (.lst xs) /\ xs.length < sizeLine /\ m' < m /\ W (i + 1) m' (upd H4 acc (.lst (xs ++ [v]))))
noncomputable def AH (st : St) (J : It) (te : TE) (H1 : Hp) (Q : VK) : Prop := ∀ acc, H1 acc = none -> ∃ W : Nat -> Nat -> St -> Hp -> Prop, (∃ m, W 0 m (List.replicate 1 none ++ st) (upd H1 acc (.lst []))) /\ ∀ i m σb H2, W i m σb H2 ->
 (J.stop i H2 /\ Q (.ref acc) H2) ∨ (J.go i H2 /\ ∀ x H3, J.yld i H2 x H3 -> cG 0 x σb H3 fun σ2 H4 => tYes σ2 H4 fun b H5 =>
  if b = true then te σ2 H5 fun v H6 => ∃ xs m', H6 acc = some (.lst xs) /\ xs.length < sizeLine /\ m' < m /\ W (i + 1) m' σ2 (upd H6 acc (.lst (xs ++ [v]))) else ∃ m', m' < m /\ W (i + 1) m' σ2 H5)
variable {st : St} {te : TE} {Q : VK}
theorem yw {J : It} {H1 : Hp} (h : LCO st J te H1 Q) : AH st J te H1 Q := fun acc ha => by
 obtain ⟨W, ⟨m0, w0⟩, turn⟩ := h acc ha
 refine ⟨fun i m σb H2 => W i m H2 /\ ∃ u, σb = u :: st, ⟨m0, w0, _, rfl⟩, ?_⟩
 rintro i m σb H2 ⟨w, u, rfl⟩
 rcases turn i m H2 w with z | ⟨a, b⟩
 ·exact .inl z
 ·refine .inr ⟨a, fun x H3 y => ?_⟩
  have e : ∀ j m' G, (W j m' G /\ ∃ v, (u :: st).set 0 (some x) = v :: st) = W j m' G := fun _ _ _ => propext ⟨And.left, fun h => ⟨h, some x, rfl⟩⟩
  dsimp only [cG, tYes]
  rw [if_pos rfl]
  simp only [e]
  exact b x H3 y
theorem Bq {fr : List (Str × Nat)} {wi : TI} {σ : St} {H : Hp} (h : wi σ H fun J H1 => AH (ib σ fr) J te H1 Q) : AX fr wi te σ H Q := h
theorem CW {J : It} {j : Int} {H : Hp} (h1 : -(2 ^ 62) <= j) (h2 : j < 2 ^ 62) (q : AH st J te H Q) : -(2 ^ 62) <= j /\ j < 2 ^ 62 /\ AH st J te H Q := ⟨h1, h2, q⟩
theorem sZ {lo : Int} {n : Nat} {H1 : Hp} (Pv : Nat -> List V -> Hp -> Prop) (hn : n <= sizeLine) (h0 : Pv 0 [] H1)
  (hup : ∀ i xs H2 acc o, H1 acc = none -> Pv i xs H2 -> Pv i xs (upd H2 acc o))
  (step : ∀ i xs acc H2 (S : V -> Hp -> Prop), i < n -> H1 acc = none -> Pv i xs H2 -> H2 acc = some (.lst xs) -> (∀ v H3, Pv (i + 1) (xs ++ [v]) H3 -> H3 acc = some (.lst xs) -> S v H3) -> te (some (.int (lo + (i : Nat))) :: st) H2 S)
  (fin : ∀ acc xs H2, H1 acc = none -> xs.length = n -> Pv n xs H2 -> H2 acc = some (.lst xs) -> Q (.ref acc) H2) : AH st (vp lo n) te H1 Q := by
 refine yw ?_
 intro acc hacc
 refine ⟨fun i m H2 => ∃ xs, m = n - i /\ i <= n /\ xs.length = i /\ Pv i xs H2 /\ H2 acc = some (.lst xs), ⟨n, [], by simp, Nat.zero_le _, rfl, hup _ _ _ _ _ hacc h0, aL⟩, ?_⟩
 rintro i m H2 ⟨xs, rfl, hi, hx, pv, ha⟩
 by_cases hlt : i < n
 ·refine .inr ⟨hlt, fun x H3 y => ?_⟩
  obtain ⟨e, y⟩ := y
  subst e y
  refine step i xs acc _ _ hlt hacc pv ha fun v H4 pv4 e4 => ⟨xs, n - (i + 1), e4, by omega, by omega, xs ++ [v], rfl, hlt, by rw [List.length_append, hx]; rfl, hup _ _ _ _ _ hacc pv4, aL⟩
 ·have e : i = n := by omega
  subst e
  exact .inl ⟨Nat.le_refl _, fin acc xs H2 hacc hx pv ha⟩
end L2
namespace L2
open PySem PySem.Spec PyProof.Rows PySem.Builtin PySem.Builtin.Str
section
variable {X : Cx}
noncomputable def Bb (K : Fg) : List V -> Hp -> VK -> Prop := fun xs H Q => ∃ (p : Addr) (bs : List Bool), xs = [.ref p] /\ cg K H p (bs.map V.bl) /\ Q (.bl (bs.all fun b => b)) H
theorem nH : ∀ {bs : List Bool} {us : List Value}, bd (bs.map V.bl) us -> us = bs.map Value.bool
 | [], _, .nil => rfl
 | b :: r, _, .cons h t => by
  cases h
  rw [nH (bs := r) t]; rfl
theorem sN (bs : List Bool) : (List.range bs.length).all (fun i => bs.getD i true) = bs.all fun b => b := by
 rw [Bool.eq_iff_iff, List.all_eq_true, List.all_eq_true]
 constructor
 ·intro h x hx
  obtain ⟨i, hi, e⟩ := List.getElem_of_mem hx
  have := h i (List.mem_range.mpr hi)
  rw [List.getD_eq_getElem?_getD, List.getElem?_eq_getElem hi] at this
  rw [<- e]; exact this
 ·intro h i hi
  have hi := List.mem_range.mp hi
  rw [List.getD_eq_getElem?_getD, List.getElem?_eq_getElem hi]
  exact h _ (List.getElem_mem hi)
theorem dz (hc : X.calm = true) : bY X (.builtin "all") (Bb X.K) := by
 intro pins s σ H xs us Q I r h
 obtain ⟨p, bs, rfl, hq, q⟩ := h
 obtain ⟨u, rfl, ru⟩ := r.one
 cases ru
 obtain ⟨its, v, pl, _⟩ := I.list hq
 have ev := nH v
 have hl : s.heap.IsList p its.toArray := pl.isList
 have hlt : p < s.heap.objs.size := by
  obtain ⟨o, ho, _⟩ := hl
  exact Heap.lt_size ho
 refine call_all_walk (wpAny_pyIter_list hl ⟨s.heap.objs.size, [s.heap.objs.size, p], [s.heap.objs.size], its.toArray.size, (fun i v => its.toArray[i]? = some v), _, (fun i => bs.getD i true), rfl, Walks.list (prog := X.prog) (w := X.w) (A := X.A.in1) (I.ok.hd hc) _ p (Nat.ne_of_lt hlt) its.toArray, ⟨⟨_, Heap.get?_push_size _ rfl, rfl, rfl⟩, hl.at fun o e => Heap.get?_push_of_some _ e⟩, ?_, ?_⟩)
 ·intro i v s' Q' E' hv hQ
  rw [ev] at hv
  have hv' : (bs.map Value.bool)[i]? = some v := by simpa using hv
  rw [List.getElem?_map] at hv'
  cases hb : bs[i]? with
  | none => rw [hb] at hv'; cases hv'
  | some b =>
   rw [hb] at hv'
   cases hv'
   have : bs.getD i true = b := by rw [List.getD_eq_getElem?_getD, hb]; rfl
   refine wpAny_truthy_bool ?_
   rw [<- this]; exact hQ
 ·intro h' tk hk
  have e : (List.range its.toArray.size).all (fun i => bs.getD i true) = bs.all fun b => b := by
   rw [<- sN]
   have : its.toArray.size = bs.length := by rw [ev]; simp
   rw [this]
  rw [e]
  exact ⟨.bl _, H, I.kept (t' := tk) (fun b o ho => hk b o (by simp only [List.mem_singleton]; exact Nat.ne_of_lt (Heap.lt_size ho)) (Heap.get?_push_of_some _ ho)), rfl, q⟩
theorem fQ : bootBuiltins "all" = some (.builtin "all") := by decide +kernel
noncomputable def Its (z : Str) : It := ⟨fun i _ => i < z.cps.size, fun i H x H' => H' = H /\ ∃ c, z.cps.toList[i]? = some c /\ x = .str ⟨#[c]⟩, fun i _ => z.cps.size <= i⟩
theorem pf {P : Program} {w : World} {K : Fg} {tg : Expr} (ty : String) (hn : ["enumerate", "zip", "dict_itemiterator", "dict_reverseitemiterator", "odict_iterator", "itertools.zip_longest", "itertools.pairwise"].contains ty = false) (z : Str) (t : Tok) (it : Addr)
  (W : ∀ A : Around, A.handled = none -> Walks P w A it [it] [it] z.cps.size (SignAt z) (fun i h => h.IsStrIter it ty z t i))
  (slf : ∀ (A : Around) (i : Nat) (s : Shared) (Q : Value -> Shared -> Prop) (E : Value -> Shared -> Prop), s.heap.IsStrIter it ty z t i -> Q (.ref it) s -> wpAny (model P w) A (pyIter (.ref it)) Q E s) :
  pi P w K tg (Its z) [it] it (fun i h => h.IsStrIter it ty z t i /\ i <= z.cps.size) where
 mem := by simp
 obj := fun i h st b hb => by
  have e : b = it := by simpa using hb
  subst e
  obtain ⟨o, e, c, d⟩ := st.1
  exact ⟨o, e, fun v z => by rw [d] at z; cases z⟩
 keep := fun i h h' st k => ⟨let ⟨o, ho, r⟩ := st.1; ⟨o, k it (by simp) o ho, r⟩, st.2⟩
 item := by
  intro X hP hw hK hc i pins s σ H E I hf st hg
  subst hP hw hK
  obtain ⟨f0, f1, f2, f3, f4, f5⟩ := hf it (by simp)
  refine (W X.A (I.ok.hd hc)).item i s _ _ hg st.1 fun v h' tk hv st' kk => ?_
  obtain ⟨c, u, hc', rfl⟩ := hv
  have I1 : aJ X pins σ H { s with heap := h', toks := tk } := I.turned (fun b o hb e => kk b o (by simpa using hb) e) f0 f1 f3 f4 f5
  obtain ⟨o, e, c1, d⟩ := id st'
  refine ⟨_, rfl, nJ (s := { s with heap := h', toks := tk }) e c1 d hn ⟨.str ⟨#[c]⟩, H, I1, ⟨_, rfl⟩, ⟨rfl, c, by rw [Array.getElem?_toList]; exact hc', rfl⟩, ⟨st', hg⟩, fun b hb => (hf b hb).1⟩⟩
 done := by
  intro X hP hw hK hc i pins s σ H E I hf st hg
  subst hP hw hK
  obtain ⟨f0, f1, f2, f3, f4, f5⟩ := hf it (by simp)
  have e : i = z.cps.size := Nat.le_antisymm st.2 hg
  have st1 := st.1
  rw [e] at st1
  exact (W X.A (I.ok.hd hc)).done s _ _ st1 fun h' tk kk => ⟨rfl, I.turned (t' := tk) (fun b o hb e => kk b o (by simpa using hb) e) f0 f1 f3 f4 f5⟩
 self := fun A i s Q E st h => slf A i s Q E st.1 h
noncomputable def AN (te : TE) : TI := fun σ H R => te σ H fun x H1 => ∃ z : Str, x = .str z /\ R (Its z) H1
theorem uK {tg e : Expr} {te : TE} (he : PE X e te) : PI X tg e (AN te) := by
 intro pins s σ H R I h
 refine bQ (he pins s σ H _ I h) fun v s1 ⟨x, H1, I1, r1, q1⟩ => ?_
 obtain ⟨z, rfl, q⟩ := q1
 obtain ⟨t, rfl⟩ := r1
 have fr : ∀ b ∈ [s1.heap.objs.size], gW X pins H1 b := fun b hb => by
  have e : b = s1.heap.objs.size := by simpa using hb
  subst e
  exact I1.fpOk (Nat.le_refl _) (I1.hok.fresh (Nat.le_refl _))
 cases ha : z.cps.all (· < 128)
 ·exact wpAny_pyIter_wide ha ⟨s1.heap.objs.size, [s1.heap.objs.size], _, _, H1, rfl, I1.kept (t' := s1.toks) fun b o e => Heap.get?_push_of_some _ e, pf "str_iterator" (by decide) z t _ (fun A hA => Walks.strWide hA _ z t) (fun _ _ _ _ _ st h => wpAny_pyIter_striter_wide st h), ⟨⟨_, Heap.get?_push_size _ rfl, rfl, rfl⟩, Nat.zero_le _⟩, fr, q⟩
 ·exact wpAny_pyIter_ascii ha ⟨s1.heap.objs.size, [s1.heap.objs.size], _, _, H1, rfl, I1.kept (t' := s1.toks) fun b o e => Heap.get?_push_of_some _ e, pf "str_ascii_iterator" (by decide) z t _ (fun A hA => Walks.strAscii hA _ z t) (fun _ _ _ _ _ st h => wpAny_pyIter_striter_ascii st h), ⟨⟨_, Heap.get?_push_size _ rfl, rfl, rfl⟩, Nat.zero_le _⟩, fr, q⟩
end
section
variable {σ : St} {H : Hp} {Q : VK} {te : TE}
end
end L2
namespace L2
open PySem PySem.Spec PyProof.Rows PySem.Builtin PySem.Builtin.Str
section
variable {X : Cx}
end
end L2
namespace My
open PySem PySem.NumText
end My
namespace My
open PySem PySem.NumText PySem.StrLaws
noncomputable abbrev cs (z : Str) : List Nat := z.cps.toList
theorem cs_len (z : Str) : (cs z).length = z.length := by simp [Str.length]
theorem cs_app (a b : Str) : cs (a ++ b) = cs a ++ cs b := by
 show (a.cps ++ b.cps).toList = _
 rw [Array.toList_append]
end My
namespace My
open PySem PySem.NumText
end My
namespace My
open PySem PySem.NumText PySem.StrLaws PySem.Builtin PySem.Builtin.Str
theorem xF (a b n : Nat) : strSliceIndices (some (a : Int)) (some (b : Int)) 1 n = strSliceIndices (some ((min a n : Nat) : Int)) (some ((min b n : Nat) : Int)) 1 n := by
 have e1 : ¬ ((a : Int) < 0) := by omega
 have e2 : ¬ ((b : Int) < 0) := by omega
 have e3 : ¬ (((min a n : Nat) : Int) < 0) := by omega
 have e4 : ¬ (((min b n : Nat) : Int) < 0) := by omega
 have h1 : max (0 : Int) (min (a : Int) (n : Int)) = max 0 (min ((min a n : Nat) : Int) n) := by omega
 have h2 : max (0 : Int) (min (b : Int) (n : Int)) = max 0 (min ((min b n : Nat) : Int) n) := by omega
 unfold strSliceIndices
 simp only [e1, e2, e3, e4, if_false, show (1 : Int) > 0 by decide, if_true]
 rw [h1, h2]
theorem yr (z : Str) (a b : Nat) : cs (Txt.slice z (some (a : Int)) (some (b : Int))) = ((cs z).drop a).take (b - a) := by
 have hl := cs_len z
 have e : Txt.slice z (some (a : Int)) (some (b : Int)) = Txt.slice z (some ((min a z.length : Nat) : Int)) (some ((min b z.length : Nat) : Int)) := by
  unfold Txt.slice
  rw [xF]
 rw [e]
 by_cases h : min a z.length <= min b z.length
 ·show cs (sliceText z _ _) = _
  rw [sliceText_nat z h (Nat.min_le_right ..)]
  show ((z.cps.toList.drop _).take _).toArray.toList = _
  rw [List.toList_toArray]
  show ((cs z).drop _).take _ = _
  by_cases ha : a <= z.length
  ·rw [Nat.min_eq_left ha]
   by_cases hb : b <= z.length
   ·rw [Nat.min_eq_left hb]
   ·rw [Nat.min_eq_right (by omega), List.take_of_length_le (by rw [List.length_drop]; omega), List.take_of_length_le (by rw [List.length_drop]; omega)]
  ·rw [Nat.min_eq_right (by omega), List.drop_of_length_le (by omega), List.drop_of_length_le (by omega), List.take_nil, List.take_nil]
 ·have e0 : strSliceIndices (some ((min a z.length : Nat) : Int)) (some ((min b z.length : Nat) : Int)) 1 z.length = [] := by
   apply List.eq_nil_of_length_eq_zero
   unfold strSliceIndices sliceRange
   have e3 : ¬ (((min a z.length : Nat) : Int) < 0) := by omega
   have e4 : ¬ (((min b z.length : Nat) : Int) < 0) := by omega
   simp only [e3, e4, if_false, show (1 : Int) > 0 by decide, if_true, List.length_map, List.length_range]
   rw [if_neg (by omega)]
   rfl
  have hz : (0 == z.length) = false := by
   rw [beq_eq_false_iff_ne]
   omega
  unfold Txt.slice
  rw [e0]
  simp only [List.length_nil, hz, Bool.and_false]
  show [] = _
  symm
  apply List.eq_nil_of_length_eq_zero
  rw [List.length_take, List.length_drop]
  omega
theorem sl_0s (z : Str) (b : Nat) : cs (Txt.slice z none (some (b : Int))) = (cs z).take b := by
 have e : Txt.slice z none (some (b : Int)) = Txt.slice z (some ((0 : Nat) : Int)) (some (b : Int)) := by
  unfold Txt.slice; rw [sliceIdx_none_lo]; rfl
 rw [e, yr, List.drop_zero, Nat.sub_zero]
theorem sl_s0 (z : Str) (a : Nat) : cs (Txt.slice z (some (a : Int)) none) = (cs z).drop a := by
 have e : Txt.slice z (some (a : Int)) none = Txt.slice z (some (a : Int)) (some ((z.length : Nat) : Int)) := by
  unfold Txt.slice; rw [sliceIdx_none_hi]
 have hl := cs_len z
 rw [e, yr, List.take_of_length_le (by rw [List.length_drop]; omega)]
end My
namespace L2
open PySem PySem.Spec PyProof.Rows
theorem zM {is : List Int} {σ : St} {H : Hp} {S : List V -> Hp -> Prop} (q : S (is.map V.int) H) : yb is σ H S := q
theorem pF {lo : Int} {n : Nat} {st : St} {te : TE} {H1 : Hp} {Q : VK} (P : Nat -> V -> Prop) (hn : n <= sizeLine)
  (step : ∀ i H2 (S : V -> Hp -> Prop), i < n -> aF H1 H2 -> (∀ v H3, aF H2 H3 -> P i v -> S v H3) -> te (some (.int (lo + (i : Nat))) :: st) H2 S)
  (fin : ∀ acc xs H2, H1 acc = none -> xs.length = n -> (∀ i v, xs[i]? = some v -> P i v) -> aF H1 H2 -> H2 acc = some (.lst xs) -> Q (.ref acc) H2) : AH st (vp lo n) te H1 Q := by
 refine sZ (fun i xs H2 => xs.length = i /\ aF H1 H2 /\ ∀ i v, xs[i]? = some v -> P i v) hn ⟨rfl, aF.refl _, fun i v h => by cases h⟩ ?_ ?_ ?_
 ·rintro i xs H2 acc o hacc ⟨h1, h2, h3⟩
  exact ⟨h1, fun b u e => by rw [aE (fun z => by rw [z, hacc] at e; cases e)]; exact h2 b u e, h3⟩
 ·rintro i xs acc H2 S hi hacc ⟨h1, h2, h3⟩ ha k
  refine step i H2 S hi h2 fun v H3 s3 hv => k v H3 ⟨by rw [List.length_append, h1]; rfl, h2.trans s3, fun j u e => ?_⟩ (s3 _ _ ha)
  rcases Nat.lt_or_ge j xs.length with q | q
  ·rw [List.getElem?_append_left q] at e
   exact h3 j u e
  ·rw [List.getElem?_append_right q] at e
   have := (List.getElem?_eq_some_iff.mp e).1
   simp at this
   have ej : j = i := by omega
   subst ej
   rw [show j - xs.length = 0 by omega] at e
   cases e
   exact hv
 ·rintro acc xs H2 hacc hx ⟨_, h2, h3⟩ ha
  exact fin acc xs H2 hacc hx h3 h2 ha
end L2
namespace L2
open PySem PySem.Spec PyProof.Rows
noncomputable def vF (K : Fg) : R2 := fun x y H Q => ∃ l m xs zs, x = .ref l /\ y = .ref m /\ cg K H l xs /\ cg K H m zs /\ xs.length + zs.length <= sizeLine /\ ∀ p, H p = none -> Q (.ref p) (upd H p (.lst (xs ++ zs)))
theorem cc {X : Cx} : eG X (binaryOp .Add) (vF X.K) := by
 intro pins s σ H x y v u Q I rx ry h
 obtain ⟨l, b, xs, zs, rfl, rfl, hH, hB, hz, q⟩ := h
 cases rx
 cases ry
 obtain ⟨its, r, p1, _⟩ := I.list hH
 obtain ⟨its2, r2, p2, _⟩ := I.list hB
 have l1 := r.length
 have l2 := r2.length
 obtain ⟨⟨cls, dd, data, sl⟩, ho, hc, n, hd⟩ := p1.isList
 obtain ⟨⟨cls2, dd2, data2, sl2⟩, ho2, hc2, n2, hd2⟩ := p2.isList
 simp only at hc hd hc2 hd2
 subst hc hd hc2 hd2
 have e : its.toArray ++ its2.toArray = (its ++ its2).toArray := by simp
 refine concat_meets ⟨_, ho, rfl⟩ ⟨_, ho2, rfl⟩ noFill_list_add seq_list_add PySem.F.slot_list_add PySem.F.entry_list_add (PySem.F.args_list_add_2 _ _) (list_addW l b its.toArray its2.toArray n n2 dd dd2 sl sl2 (by rw [List.size_toArray, List.size_toArray]; omega)) ⟨ho, ho2, ?_⟩
 rw [e]
 exact ⟨.ref _, _, I.lnew (t' := s.toks) (r.append r2) (by rw [List.length_append]; omega), rfl, q _ I.fresh⟩
theorem vJ {K : Fg} {H : Hp} {Q : VK} {l m : Addr} {xs zs : List V} (h1 : cg K H l xs) (h2 : cg K H m zs) (hl : xs.length + zs.length <= 1000) (q : ∀ p H', H p = none -> aF H H' -> H' p = some (.lst (xs ++ zs)) -> Q (.ref p) H') : vF K (.ref l) (.ref m) H Q :=
 ⟨l, m, xs, zs, rfl, rfl, h1, h2, Nat.le_trans hl (by decide), fun p hp => q p _ hp (aF.new hp _) aL⟩
end L2
namespace L2
open PySem PySem.Spec PyProof.Rows
section
variable {X : Cx} {pins : Pn} {σ : St} {H : Hp} {s : Shared} {h' : Heap}
theorem aJ.turnedL {t' : Nat} {fp : List Addr} (I : aJ X pins σ H s) (k : ∀ b o, b ∉ fp -> s.heap.get? b = some o -> h'.get? b = some o) (hf : ∀ b ∈ fp, gW X pins H b) : aJ X pins σ H { s with heap := h', toks := t' } := by
 have nit : ∀ b u, H b = some u -> b ∉ fp := fun b u e z => by rw [(hf b z).1] at e; cases e
 refine I.step (g' := s.gens) (d' := s.drawn) (ch := fp) (fun b hb => ?_) (fun b o _ _ hc e _ => k b o hc e) (fun b o _ _ hc e _ => ⟨o.slots, k b o hc e⟩) (fun _ _ _ _ n => n)
  (fun b o hc e => ⟨o, k b o hc e⟩) (fun _ _ e => e) (fun _ _ _ e => e) (fun b ps e => ⟨#[], by rw [e]; simp⟩) (fun m hm => ?_) (fun b u e => ?_) I.bare
 ·obtain ⟨_, f1, _, f3, f4, f5⟩ := hf b hb
  exact ⟨f3, f1, f4, f5⟩
 ·obtain ⟨o, es, ep, ho, r⟩ := hm
  exact ⟨o, es, ep, k _ o (fun z => (hf _ z).2.1 rfl) ho, r⟩
 ·refine (I.hok b u e).stay (fun c v hc q => k c v ?_ q) (fun _ q => q) fun _ _ q => q
  rcases hc with z | z
  ·rw [z]; exact nit b u e
  ·exact nit c _ z
end
section
variable {X : Cx}
end
section
variable {σ : St} {H : Hp} {g : TG} {tb : TS} {nx : St -> Hp -> Prop} {rt : VK} {K : Fg} {a : Addr} {xs : List V}
end
end L2
namespace L2
open PySem PySem.Spec PyProof.Rows
section
variable {κ : Type} [DecidableEq κ]
end
noncomputable abbrev KT (H : Hp) : List (List Key × V) -> List (List Key × Addr × Value) -> Prop := Paired fun p q => p.1 = q.1 /\ H q.2.1 = some (.tup (p.1.map kV)) /\ bu p.2 q.2.2
section
variable {P : Program} {w : World} {H : Hp} {h : Heap} {a : Addr}
end
section
variable {X : Cx} {pins : Pn} {σ : St} {H : Hp} {s : Shared} {a : Addr} {y v : V} {u r : Value} {o : Option V} {A : Around} {E : Value -> Shared -> Prop}
theorem aJ.big (I : aJ X pins σ H s) : sysModules < s.heap.objs.size := by
 have h : mainGlobals < s.heap.objs.size := (I.mod.glob.keeps I.bk).lt
 exact Nat.lt_trans (by decide) h
end
section
variable {X : Cx} {pins : Pn} {σ : St} {H : Hp} {s : Shared} {a : Addr} {kvs : List (Key × V)} {k : Key} {u : Value} {A : Around} {E : Value -> Shared -> Prop}
end
section
variable {X : Cx} {o i e value : Expr} {pos pos' tpos : Pos} {td ty tv : TE}
end
theorem uc {P : Program} {w : World} {H : Hp} (h : Heap) (hb : sysModules < h.objs.size) : bz P w H (h.push { cls := .type "dict", data := .dict #[] }) h.objs.size (.dK []) :=
 ⟨Nat.zero_le _, beq_eq_false_iff_ne.mpr (Ne.symm (Nat.ne_of_lt hb)), [], .nil, Heap.DictOf.new h⟩
noncomputable def tDNewK : TE := fun _ H Q => ∀ p, H p = none -> Q (.ref p) (upd H p (.dK []))
section
variable {X : Cx} {pos : Pos}
theorem ki : PE X (.Dict [] [] pos) tDNewK := fun pins s σ H Q I h =>
 wpAny_Dict_empty ⟨.ref s.heap.objs.size, _, I.laid (a := s.heap.objs.size) (o := .dK []) (t' := s.toks) (fun _ _ q => Heap.get?_push_of_some _ q) (Nat.le_refl _) (uc s.heap I.big), rfl, h _ (I.hok.fresh (Nat.le_refl _))⟩
end
section
variable {X : Cx} {pins : Pn} {σ : St} {H : Hp} {s : Shared} {a : Addr} {y d : V} {u r : Value} {o : Option V} {A : Around} {E : Value -> Shared -> Prop}
end
section
variable {X : Cx} {o e f : Expr} {apos cpos : Pos} {td ty tx : TE}
end
section
variable {X : Cx} {pins : Pn} {σ : St} {H : Hp} {s : Shared} {a : Addr} {kvs : List (Key × V)} {A : Around} {E : Value -> Shared -> Prop}
end
section
variable {X : Cx} {pins : Pn} {σ : St} {H : Hp} {s : Shared} {a : Addr} {y : V} {u : Value} {A : Around} {E : Value -> Shared -> Prop}
end
end L2
namespace L2
open PySem PySem.Spec PyProof.Rows
section
variable {X : Cx}
end
section
variable {κ : Type} [DecidableEq κ]
end
end L2
namespace L2
open PySem PySem.Spec PyProof.Rows PySem.Builtin
section
variable {X : Cx}
end
variable {X : Cx}
theorem oP {t1 t2 : Str} {sc : Scope} {fr : List (Str × Nat)} {osc : Scope} {N : List Str} (ho : X.env.scope = osc) (hN : X.N = N) (h1 : iu osc N t1 sc fr = true) (h2 : iu osc N t2 sc fr = true) (hne : t1 ≠ t2) : eB X [t1, t2] sc fr /\ sc.names.lookup t1 = some .local /\ sc.names.lookup t2 = some .local := by
 have o1 := bi ho hN h1
 have o2 := bi ho hN h2
 refine ⟨⟨o1.kind, o1.nocell, o1.locs, o1.fre, ?_, o1.vis⟩, o1.tgl, o2.tgl⟩
 obtain ⟨a1, a2⟩ := List.nodup_cons.mp o1.nd
 exact List.nodup_cons.mpr ⟨fun m => (List.mem_cons.mp m).elim hne a1, o2.nd⟩
theorem yV {elt iter : Expr} {t1 t2 : Str} {x1 : _} {p1 p2 p3 pos : Pos} {sc : Scope} {fr : List (Str × Nat)} {wi : TI} {te : TE} (hc : X.calm = true) (ok : eB X [t1, t2] sc fr /\ sc.names.lookup t1 = some .local /\ sc.names.lookup t2 = some .local)
  (hi : PI X (.Tuple [.Name t1 p1, .Name t2 p2] x1 p3) iter wi) (he : ∀ cl C s3 H3 fp, PE (X.blk ([t1, t2] ++ fr.map (·.1)) sc cl C s3 H3 fp) elt te) (hs : ∀ x, foldedSetIterable iter X.env x = pure x := by intro _; rfl) :
  PE X (.ListComp elt [⟨.Tuple [.Name t1 p1, .Name t2 p2] x1 p3, iter, [], 0⟩] sc pos) (mY 2 fr wi (wJ X.K 2 (lG (cG 0) (lG (cG 1) gNil))) tYes te) :=
 pG (tgs := [t1, t2]) hc ok.1 hi (fun _ _ _ _ _ => qg hc (bX (br ok.1.nd rfl (.inl (lookup_relabel_local ok.2.1)) (.inr (lookup_relabel_local ok.2.1))) (bX (br ok.1.nd rfl (.inl (lookup_relabel_local ok.2.2)) (.inr (lookup_relabel_local ok.2.2))) nv))) (fun _ _ _ _ _ => mL) he hs
theorem wo : eG X (binaryOp .Pow) (rI (fun i j => 0 <= j /\ j <= 1000 /\ My.Bd 1000 i) fun i j => .int (i ^ j.toNat)) := CI fun i j _ _ _ _ _ hc q => pow_int hc.1 (by
 have h1 : Builtin.Int.intBits i <= 1000 := PySem.intBits_le_iff.mpr hc.2.2
 have h2 : ((Builtin.Int.intBits i : Nat) : Int) * j <= 1000 * 1000 := Int.mul_le_mul (by omega) hc.2.1 hc.1 (by decide)
 exact Int.le_trans h2 (by decide)) q
end L2
namespace L2
open PySem PySem.Spec PyProof.Rows
end L2
namespace L2
open PySem PySem.Spec PyProof.Rows
structure jF (K : Fg) (C : Addr) : Prop where
 ga : PySem.W.findIn K (.ref C) "__getattribute__" = some (some (.builtin "BaseException.__getattribute__"))
 nohook : PySem.W.findIn K (.ref C) "__getattr__" = some none
 cls : PySem.W.findIn K (.ref C) "__class__" = some (some (.builtin "object.__class__"))
 get : PySem.W.specialIn K (.builtin "object.__class__") "__get__" = some (some (.builtin "getset_descriptor.__get__"))
 tk : PySem.W.takesIn K (.builtin "object.__class__") = some true
 exc : PySem.W.mroIn K C (.type "BaseException") = some true
 obj : PySem.W.mroIn K C (.type "object") = some true
section
open PySem.W PySem.Calls PySem.Builtin PySem.Builtin.ObjectAttr PySem.Builtin.Getset_descriptor
variable {prog : Program} {w : World} {A : Around} {E : Value -> Shared -> Prop} {s : Shared} {K : Frag} {a C : Addr} {oe : Obj}
variable {M : Model}
theorem fH {h : Heap} (p : h.get? a = some oe) (hc : oe.cls = .ref C) : Looks M h (typeOf (.ref a)) (.ref C) := hc ▸ (Looks.ld p).andThen .now
theorem uZ {h : Heap} (Fx : jF K C) (X : K.In h) : Looks M h (find (.ref a) (.ref C) "__class__") (.bind (.builtin "getset_descriptor.__get__") (.builtin "object.__class__")) := by
 have L1 := looks_findIn (M := M) X Fx.cls
 have L2 : Looks M h (getOf (some (.builtin "object.__class__"))) (some (.builtin "getset_descriptor.__get__")) := looks_specialIn X Fx.get
 have L3 := looks_takesIn (M := M) X Fx.tk
 refine L1.andThen (L2.andThen ?_)
 exact (show Looks M h (dataDescriptor? (some (.builtin "object.__class__")) (some (.builtin "getset_descriptor.__get__"))) (some (.builtin "getset_descriptor.__get__", .builtin "object.__class__")) from L3.andThen .now).andThen (Looks.tag .now)
theorem kE {R : Result -> Shared -> Prop} {tp : Value} (Fx : jF K C) (X : K.In s.heap) (p : s.heap.get? a = some oe) (hc : oe.cls = .ref C)
  (h : R (.ok (.ret (.ref C))) s) : codeAny (model prog w) A (.call (.builtin "getset_descriptor.__get__") ⟨[.builtin "object.__class__", .ref a, tp], []⟩) R s := by
 obtain ⟨hh, g, dr, t, os⟩ := s
 have L0 := fH (M := model prog w) p hc
 have L1 := looks_mroIn (M := model prog w) X Fx.obj
 refine codeAny_call_builtin KF.slot_gs.plain KF.entry_gs (KF.slot_gs.check _ _ _ _ _ _ _ _ KF.type_class (KF.args_gs _ _ _) ?_)
 unfold Builtin.«getset_descriptor.__get__» descrGet
 rw [dga_obj]
 refine wpAny_bind (wpAny_pure ?_)
 unfold descrGetter descrCheckInstance descrNameAndClass isInstance
 simp only [KF.owner_class]
 repeat lk
 refine ⟨Code.quiet_builtin _ (by decide +kernel), codeAny_builtin KF.entry_class ?_⟩
 unfold Builtin.«object.__class__» shownTypeOf
 repeat lk
 exact h
theorem lE {nameV : Value} {Q : Unit -> Shared -> Prop} (Fx : jF K C) (X : K.In s.heap) (p : s.heap.get? a = some oe) (hc : oe.cls = .ref C) (hq : Q () s) :
  wpAny M A (checkBuiltinCall "BaseException.__getattribute__" ⟨[.ref a, nameV], []⟩) Q E s := by
 obtain ⟨hh, g, dr, t, os⟩ := s
 have hk : builtinKind "BaseException.__getattribute__" = some .slot := by decide +kernel
 have hsplit : splitId "BaseException.__getattribute__" = some ("BaseException", "__getattribute__") := by decide +kernel
 have ha := F.args_bexc_ga (.ref a) nameV
 simp only [checkBuiltinCall, hk, hsplit]
 refine wpAny_bind (wpAny_bind ?_)
 refine (fH p hc).at ((looks_mroIn X Fx.exc).at ?_)
 repeat (any_goals (first | assumption | wp_step))
theorem sX {Q : Option Value -> Shared -> Prop} (Fx : jF K C) (X : K.In s.heap) (p : s.heap.get? a = some oe) (hc : oe.cls = .ref C) (h : Q (some (.ref C)) { s with toks := s.toks + 1 }) :
  wpAny (model prog w) A (getAttr? (.ref a) "__class__") Q E s := by
 obtain ⟨hh, g, d, t, os⟩ := s
 have L0 := fH (M := model prog w) p hc
 have L1 := looks_findIn (M := model prog w) X Fx.ga
 have L2 := looks_findIn (M := model prog w) X Fx.nohook
 unfold getAttr? getAttrBy? getAttrBy
 refine wpAny_bind (wpAny_mkText (wpAny_bind (wpAny_attempt (wpAny_holding (wpAny_bind (L0.at (wpAny_bind (L1.at ?_))))))))
 show wpAny _ _ (if (onTheHeap (Value.ref C) && (Value.builtin "BaseException.__getattribute__" == Value.builtin "object.__getattribute__")) = true then _ else getAttrByItsOwn _ _ _ _ _ _) _ _ _
 have hne : (Value.builtin "BaseException.__getattribute__" == Value.builtin "object.__getattribute__") = false := by decide +kernel
 rw [hne, Bool.and_false, if_neg Bool.false_ne_true]
 unfold getAttrByItsOwn
 refine wpAny_bind ((show Looks (model prog w) hh (hookBefore (.ref C)) none from L2).at ?_)
 refine wpAny_bind (wpAny_attempt (wpAny_holding ?_))
 show wpAny _ _ (boundAndCalled _ _ _) _ _ _
 unfold boundAndCalled
 rw [F.excAttr_ValueError.ga.bind]
 refine wpAny_bind (wpAny_pure ?_)
 refine wpAny_call (codeAny_call_builtin F.excAttr_ValueError.ga.plain F.entry_bexc_ga (lE Fx X p hc ?_))
 unfold Builtin.«object.__getattribute__»
 refine wpAny_bind (wpAny_pure (a := (Value.ref a, [Value.str (Str.ofString "__class__") t])) ?_)
 refine wpAny_bind (wpAny_pure (a := Str.ofString "__class__") ?_)
 refine wpAny_bind (L0.at (wpAny_bind ((uZ (a := a) Fx X).at ?_)))
 show wpAny _ _ (bindTo _ _ _ _) _ _ _
 show wpAny _ _ (holding [Value.builtin "object.__class__"] (call (Value.builtin "getset_descriptor.__get__") [Value.builtin "object.__class__", Value.ref a, Value.ref C]) >>= ret) _ _ _
 refine wpAny_bind (wpAny_holding (wpAny_call (kE Fx X p hc ?_)))
 show wpAny _ _ (pure _) _ _ _
 refine wpAny_pure ?_
 exact wpAny_pure (wpAny_pure h)
end
end L2
namespace L2
open PySem PySem.Spec PyProof.Rows
theorem uL {K : Fg} {a C : Addr} {oe : Obj} (Fx : jF K C) (hc : oe.cls = .ref C) : PySem.W.KitX K (.ref a) (.ref C) (fun h => h.get? a = some oe) where
 ty := fun _ _ _ p => fH p hc
 it := fun _ _ X _ => by
  obtain ⟨cd, hcD, _⟩ := Option.bind_eq_some_iff.mp Fx.obj
  unfold PySem.W.clsIn at hcD
  split at hcD
  ·rename_i c' d' cd' sl' ho
   intro A' Q' E' s' k q
   unfold isType loadHead
   exact wpAny_bind (wpAny_loadPart (k _ _ (X _ _ ho)) (wpAny_pure q))
  ·cases hcD
 ne := fun h tp dd its n sl X htp => by
  obtain ⟨cd, hcD, _⟩ := Option.bind_eq_some_iff.mp Fx.obj
  refine Bool.eq_false_iff.mpr fun q => ?_
  have e : C = tp := Value.ref.inj (beq_iff_eq.mp q)
  subst e
  unfold PySem.W.clsIn at hcD
  split at hcD
  ·rename_i c' d' cd' sl' ho
   have z := (X _ _ ho).symm.trans htp
   cases z
  ·cases hcD
 ca := fun X p k => sX Fx X p hc k
section
variable {X : Cx} {pins : Pn} {σ : St} {H H' : Hp} {s s' : Shared}
theorem aJ.goes {i : Nat} {x : Str} {h' : Heap} {m : Str -> Option Value} {v' : Option Value} {t' : Nat} (I : aJ X pins σ H s) (hm : s.heap.Ns X.env.locals m)
  (hl : ∀ (i : Nat) (x : Str) (v : V), X.N[i]? = some x -> σ[i]? = some (some v) -> Bo X.env.scope x -> ∃ u, bu v u /\ CO X.env s.heap m x u) (hN : X.N.Nodup) (hi : X.N[i]? = some x)
  (hn' : h'.Ns X.env.locals (fun y => if y = x then v' else m y)) (hs : Heap.SameBut X.env.locals s.heap h') : aJ X pins (σ.set i none) H { s with heap := h', toks := t' } := by
 have cne := I.cne
 have hiσ : i < σ.length := by rw [I.len]; exact (List.getElem?_eq_some_iff.mp hi).1
 refine ⟨I.ok, I.os, I.bare, ⟨fun b o e n hb hx => ?_, fun b o e n hb hx => ?_, I.base.free, fun b o e hx => ?_, I.base.tups, I.base.frzs, I.base.tbls⟩, ⟨_, hn', fun j y v e1 e2 e3 => ?_⟩, fun y c e => ?_, I.free, I.freeC, fun p hp => ?_, fun b ob e => ?_, by simpa using I.len⟩
 ·exact (hs.2 b (Nat.ne_of_lt (Nat.lt_of_lt_of_le (Heap.lt_size e) I.ok.above))).trans (I.base.keep b o e n hb hx)
 ·obtain ⟨sl, e1⟩ := I.base.slot b o e n hb hx
  exact ⟨sl, (hs.2 b (Nat.ne_of_lt (Nat.lt_of_lt_of_le (Heap.lt_size e) I.ok.above))).trans e1⟩
 ·obtain ⟨o', e1⟩ := I.base.there b o e hx
  exact ⟨o', (hs.2 b (Nat.ne_of_lt (Nat.lt_of_lt_of_le (Heap.lt_size e) I.ok.above))).trans e1⟩
 ·have hj : j ≠ i := by
   rintro rfl
   rw [List.getElem?_set_self hiσ] at e2
   cases e2
  rw [List.getElem?_set_ne (Ne.symm hj)] at e2
  obtain ⟨u', r', q⟩ := hl j y v e1 e2 e3
  refine ⟨u', r', ?_⟩
  rcases q with ⟨k, e⟩ | ⟨k, c, e, z⟩
  ·refine .inl ⟨k, ?_⟩
   have : y ≠ x := fun e => hj (jB hN e1 (e ▸ hi))
   simp [this, e]
  ·exact .inr ⟨k, c, e, z.sameBut hs (cne y c e)⟩
 ·obtain ⟨w', z⟩ := I.cell y c e
  exact ⟨w', z.sameBut hs (cne y c e)⟩
 ·obtain ⟨e, n, ne, nf, d⟩ := I.pin p hp
  exact ⟨(hs.2 p.1 ne).trans e, n, ne, nf, d⟩
 ·refine (I.hok b ob e).stay (fun c w' hc q => (hs.2 c ?_).trans q) (fun _ q => q) fun _ _ q => q
  rintro rfl
  rcases hc with rfl | hc
  ·rw [I.free] at e; cases e
  ·rw [I.free] at hc; cases hc
end
noncomputable def jS (j : Nat) (D : Ends) : Ends := { nx := fun σ H => D.nx (σ.set j none) H, rt := D.rt, bk := fun σ H => D.bk (σ.set j none) H, ct := fun σ H => D.ct (σ.set j none) H }
section
variable {X : Cx} {pins : Pn} {σ : St} {H : Hp} {s s' : Shared} {E : XK} {ex : Value} {x n : Str} {T C : Addr} {np hpos : Pos} {b0 : Stmt} {suite : List Stmt} {ts : Addr -> TS} {D : Ends} {j : Nat}
theorem bz.thereIs {P : Program} {w : World} {H : Hp} {h : Heap} {a : Addr} {o : HO} (x : bz P w H h a o) : ∃ ob, h.get? a = some ob := by
 cases o with
 | lst xs => obtain ⟨_, _, _, _, e⟩ := x; exact ⟨_, e⟩
 | tup xs => obtain ⟨_, _, _, o, e, _⟩ := x; exact ⟨_, e⟩
 | dK kvs => obtain ⟨_, _, _, _, o, _, _, e, _⟩ := x; exact ⟨_, e⟩
 | dT kvs => obtain ⟨_, _, _, _, o, _, _, e, _⟩ := x; exact ⟨_, e⟩
 | set S n => obtain ⟨o, _, _, _, e, _⟩ := x; exact ⟨_, e⟩
 | ins C dx fs => obtain ⟨_, _, _, e, _⟩ := x; exact ⟨_, e⟩
 | own y => obtain ⟨_, e⟩ := x; exact ⟨_, e⟩
 | xd fs => obtain ⟨_, ⟨_, _, _, e, _⟩, _⟩ := x; exact ⟨_, e⟩
 | rng lo hi => obtain ⟨_, _, _, e⟩ := x; exact ⟨_, e⟩
 | frz ob u => obtain ⟨e, _⟩ := x; exact ⟨_, e⟩
 | tbl ps => exact ⟨_, show h.get? a = some _ from x⟩
 | met f y => exact ⟨_, show h.get? a = some _ from x⟩
 | ext φ => obtain ⟨_, ⟨_, e⟩, _⟩ := x; exact ⟨_, e⟩
end
section
variable {X : Cx} {k : Nat} {f : Addr} {fd : FuncData} {ps : List Str} {sp : Sp} {dvs : List V} {ds : List Value} {fx x cx n : Str} {p cpos px apos np hpos pos : Pos} {e : Expr} {es : List Expr} {t : TA} {T C : Addr} {b0 : Stmt} {suite : List Stmt} {ts : Addr -> TS} {i j : Nat}
end
end L2
namespace L2
open PySem PySem.Spec PyProof.Rows
theorem kL : bootBuiltins "ValueError" = some (.type "ValueError") := by decide +kernel
section
variable {X : Cx} {pins : Pn} {σ : St} {H : Hp} {s : Shared}
end
section
variable {X : Cx} {C : Addr} {b : Bool}
end
section
variable {P : Program} {w : World} {K : Fg} {mg : Str -> Option Value} {base : Heap}
end
section
variable {X : Cx} {k : Nat} {f : Addr} {fd : FuncData} {ps : List Str} {sp : Sp} {x : Str} {p pos : Pos} {e : Expr} {es : List Expr} {t : TA}
end
section
variable {X : Cx} {pins : Pn} {σ : St} {H : Hp} {s s' : Shared} {E : XK} {ex : Value} {x n : Str} {T C : Addr} {np hpos : Pos} {b0 : Stmt} {suite : List Stmt} {ts : Addr -> TS} {D : Ends} {j : Nat}
theorem qb {M : Model} {A : Around} {a : Addr} {f : Flow} (hN : X.N.Nodup) (hi : X.N[j]? = some n) (hk : X.env.kindOf n = some .local) (ok : X.Ok) (h : SP (X.marked a) pins (jS j D) f s) :
  wpAny M A (do bindName X.env n .none; unbindBehindTheSuite X.env n hpos) (fun _ s' => SP X pins D f s') (fun _ _ => False) s := by
 have hcls : (X.env.scope.kind == .class || (X.env.scope.kind == .module && X.env.locals != X.env.globals)) = false := by rw [ok.kind]; rfl
 have one : ∀ {σ' : St} {H' : Hp} {Q : Unit -> Shared -> Prop}, aJ X pins σ' H' s -> (∀ s2, aJ X pins (σ'.set j none) H' s2 -> Q () s2) -> wpAny M A (do bindName X.env n .none; unbindBehindTheSuite X.env n hpos) Q (fun _ _ => False) s := fun {σ' H' Q} I q => by
  obtain ⟨m, hm, hl⟩ := id I.loc
  exact wpAny_nameGoes_keeps hk hm hcls fun h' v hn hs => q _ (I.goes hm hl hN hi hn hs)
 cases f with
 | next => obtain ⟨σ', H', I, q⟩ := h; exact one (I.unmarked ok) fun s2 I2 => ⟨_, H', I2, q⟩
 | brk => obtain ⟨σ', H', I, q⟩ := h; exact one (I.unmarked ok) fun s2 I2 => ⟨_, H', I2, q⟩
 | cont => obtain ⟨σ', H', I, q⟩ := h; exact one (I.unmarked ok) fun s2 I2 => ⟨_, H', I2, q⟩
 | ret u => obtain ⟨v, σ', H', I, r, q⟩ := h; exact one (I.unmarked ok) fun s2 I2 => ⟨v, _, H', I2, r, q⟩
end
section
variable {X : Cx} {k : Nat} {f : Addr} {fd : FuncData} {ps : List Str} {sp : Sp} {dvs : List V} {ds : List Value} {fx x cx n : Str} {p cpos px apos np hpos pos : Pos} {e : Expr} {es : List Expr} {t : TA} {T C : Addr} {b0 : Stmt} {suite : List Stmt} {ts : Addr -> TS} {i j : Nat}
end
end L2
namespace L2
open PySem PySem.Spec PyProof.Rows
end L2
namespace L2
open PySem PySem.Spec PyProof.Rows
section
variable {K : Fg}
end
end L2
namespace L2
open PySem PySem.Spec PyProof.Rows
noncomputable def jz (q : Bool) (h : Heap) (n a : Addr) (k : Nat) : Prop := ∃ o, h.get? n = some o /\ o.cls = .type (if q = true then "tuple_iterator" else "list_iterator") /\ o.data = .fields #[.ref a, .int k 0]
noncomputable def kI (q : Bool) (h : Heap) (a : Addr) (us : Array Value) : Prop := ∃ o, h.get? a = some o /\ o.cls = .type (if q = true then "tuple" else "list") /\ ∃ n, o.data = .seq us n
variable {q : Bool} {a : Addr}
theorem jz.at {h h' : Heap} {n : Addr} {k : Nat} (x : jz q h n a k) (e : ∀ o, h.get? n = some o -> h'.get? n = some o) : jz q h' n a k := by
 obtain ⟨o, ho, r⟩ := x; exact ⟨o, e o ho, r⟩
variable {us : Array Value}
theorem kI.at {h h' : Heap} (x : kI q h a us) (e : ∀ o, h.get? a = some o -> h'.get? a = some o) : kI q h' a us := by
 obtain ⟨o, ho, r⟩ := x; exact ⟨o, e o ho, r⟩
section
variable {P : Program} {w : World} {A : Around} {E : Value -> Shared -> Prop} {s : Shared} {q : Bool} {n a : Addr} {k : Nat} {us : Array Value} {u : Value}
theorem qr {Q : Value -> Shared -> Prop} (hi : jz q s.heap n a k) (hs : kI q s.heap a us) (hu : us[k]? = some u) (go : ∀ h', jz q h' n a (k + 1) -> Heap.SameBut n s.heap h' -> Q u { s with heap := h' }) : wpAny (model P w) A (Builtin.SmallTypes.nextOf (.ref n)) Q E s := by
 cases q with
 | false => exact wpAny_nextOf_list_item hi hs hu go
 | true =>
  have ty : s.heap.IsTupleIter n a k := hi
  obtain ⟨oi, e1, e2, e3⟩ := hi
  obtain ⟨os, e4, _, m, e5⟩ := hs
  unfold Builtin.SmallTypes.nextOf
  refine wpAny_bind (wpAny_callSpecial?_slot (name := Str.ofString "__next__") ty.typeIs F.slot_tuple_iterator_next (wpAny_call_entry F.slot_tuple_iterator_next ty.typeIs F.entry_tuple_iterator_next ?_ (F.args_tuple_iterator_next_1 _)))
  refine wpAny_bind (m := field (.ref n) 0) (wpAny_field e1 e3 (x := .ref a) rfl ?_)
  show wpAny _ _ (ite ((Value.ref a == Value.none) = true) _ _) _ _ s; rw [if_neg (show ¬ (Value.ref a == Value.none) = true from nofun)]
  refine wpAny_bind (m := field (.ref n) 1) (wpAny_field e1 e3 (x := .int k 0) rfl (wpAny_bind (m := seqItems? (.ref a)) (wpAny_seqItems e4 e5 ?_)))
  simp only [hu, Int.toNat_natCast]
  refine wpAny_bind (wpAny_setField e1 e3 (by simp) (wpAny_pure ⟨u, rfl, wpAny_pure (go _ ⟨_, Heap.get?_update_self _ e1 (Obj.isFreed_of_fields (Obj.data_mapFields e3 _)), (Obj.cls_mapFields ..).trans e2, ?_⟩ (Heap.SameBut.update ..))⟩))
  rw [Obj.data_mapFields e3]; simp [rawInt]
theorem ur {Q : Value -> Shared -> Prop} (hh : A.handled = none) (hi : jz q s.heap n a k) (hs : kI q s.heap a us) (hu : us[k]? = none) (go : ∀ h' e, Heap.ExtBut n s.heap h' -> (∃ o, h'.get? e = some o /\ o.cls = .type "StopIteration") -> E (.ref e) { s with heap := h' }) : wpAny (model P w) A (Builtin.SmallTypes.nextOf (.ref n)) Q E s := by
 cases q with
 | false => exact wpAny_nextOf_list_end hh hi hs hu go
 | true =>
  have ty : s.heap.IsTupleIter n a k := hi
  obtain ⟨oi, e1, e2, e3⟩ := hi
  obtain ⟨os, e4, _, m, e5⟩ := hs
  unfold Builtin.SmallTypes.nextOf
  refine wpAny_bind (wpAny_callSpecial?_slot (name := Str.ofString "__next__") ty.typeIs F.slot_tuple_iterator_next (wpAny_call_entry F.slot_tuple_iterator_next ty.typeIs F.entry_tuple_iterator_next ?_ (F.args_tuple_iterator_next_1 _)))
  refine wpAny_bind (m := field (.ref n) 0) (wpAny_field e1 e3 (x := .ref a) rfl ?_)
  show wpAny _ _ (ite ((Value.ref a == Value.none) = true) _ _) _ _ s; rw [if_neg (show ¬ (Value.ref a == Value.none) = true from nofun)]
  refine wpAny_bind (m := field (.ref n) 1) (wpAny_field e1 e3 (x := .int k 0) rfl (wpAny_bind (m := seqItems? (.ref a)) (wpAny_seqItems e4 e5 ?_)))
  simp only [hu, Int.toNat_natCast]
  refine wpAny_bind (wpAny_rule (wpAny_bind (wpAny_setField e1 e3 (by simp) (wpAny_bind (m := newExc (.type "StopIteration") []) ?_))))
  simp only [newTuple, newExc]
  refine wpAny_bind (wpAny_newObj_type (wpAny_bind (m := firstArgMember _ _) (wpAny_of_eq (a := Value.none) (by first | rfl | (simp only [firstArgMember]; rfl)) (wpAny_newObj_type ?_ (by size_fits)))) (by size_fits))
  simp only [raiseNew]
  refine wpAny_bind (wpAny_handled ?_)
  first | rw [hh] | rw [show A.in1.handled = none from hh]
  exact wpAny_bind (wpAny_pure (wpAny_throw (go _ _ (((Heap.SameBut.update ..).extBut.push _).push _) ⟨_, Heap.get?_push_size _ rfl, rfl⟩)))
end
section
variable {P : Program} {w : World} {A : Around} {E : Value -> Shared -> Prop} {s : Shared} {q1 q2 : Bool} {z ti to n1 n2 a1 a2 : Addr} {k : Nat} {us vs : Array Value} {u v c d : Value}
structure AF (z ti to n1 n2 a1 a2 : Addr) : Prop where
 nd : [z, ti, to, n1, n2].Nodup
 x1 : a1 ∉ [z, to, n1, n2]
 x2 : a2 ∉ [z, to, n1, n2]
theorem zt {Q : Value -> Shared -> Prop} (D : AF z ti to n1 n2 a1 a2) (hz : IsZip s.heap z ti to .none) (hi : IsPair s.heap ti (.ref n1) (.ref n2)) (ho : IsPair s.heap to c d)
  (h1 : jz q1 s.heap n1 a1 k) (h2 : jz q2 s.heap n2 a2 k) (l1 : kI q1 s.heap a1 us) (l2 : kI q2 s.heap a2 vs) (hu : us[k]? = some u) (hv : vs[k]? = some v)
  (go : ∀ h', IsZip h' z ti to (rawInt s.heap.objs.size) -> IsPair h' to u v -> jz q1 h' n1 a1 (k + 1) -> jz q2 h' n2 a2 (k + 1) -> IsPair h' s.heap.objs.size u v -> h'.objs.size = s.heap.objs.size + 1 ->
   (∀ b o, b ∉ [z, to, n1, n2] -> s.heap.get? b = some o -> h'.get? b = some o) -> Q (.ref s.heap.objs.size) { s with heap := h' }) :
  wpAny (model P w) A (Builtin.«zip.__next__» ⟨[.ref z], []⟩) (fun fin s' => ∃ r, fin = .done (.ret r) /\ Q r s') E s := by
 obtain ⟨nd, x1, x2⟩ := D
 simp only [List.nodup_cons, List.mem_cons, List.not_mem_nil, or_false, not_or, List.nodup_nil, not_false_eq_true, and_true] at nd x1 x2
 obtain ⟨⟨zti, zto, zn1, zn2⟩, ⟨tito, tin1, tin2⟩, ⟨ton1, ton2⟩, n12⟩ := nd
 refine wpAny_bind (m := field (.ref z) 2) (wpAny_field hz rfl (x := .bool false) rfl (wpAny_bind (m := field (.ref z) 3) (wpAny_field hz rfl (x := .ref ti) rfl (wpAny_bind (wpAny_seqItems hi rfl ?_)))))
 refine wpAny_bind (m := Builtin.SmallTypes.ownedTupleIsFree (.ref z)) ?_
 unfold Builtin.SmallTypes.ownedTupleIsFree
 refine wpAny_bind (wpAny_field hz rfl (x := .none) rfl (wpAny_pure ?_))
 simp only [if_true]
 refine wpAny_bind (wpAny_rule (wpAny_bind (wpAny_field hz rfl (x := .ref to) rfl (wpAny_bind (wpAny_setField_rec hz (by simp) fun g1 z1 s1 => wpAny_bind ?_)))))
 have z1 : IsZip g1 z ti to .ellipsis := z1
 simp only [List.forIn_cons, List.forIn_nil, List.zipIdx_cons, List.zipIdx_nil]
 refine wpAny_bind (wpAny_bind (wpAny_onRaise (wpAny_bind (m := Builtin.SmallTypes.nextOf (.ref n1)) (qr (h1.at fun o e => s1.extBut _ _ (Ne.symm zn1) e) (l1.at fun o e => s1.extBut _ _ x1.1 e) hu fun g2 i2 s2 => wpAny_pure ?_))))
 have t2 : IsPair g2 to c d := s2.extBut _ _ ton1 (s1.extBut _ _ (Ne.symm zto) ho)
 refine wpAny_bind (wpAny_seqItems t2 rfl (wpAny_bind (wpAny_updateSeq_pair t2 fun g3 t3 s3 => wpAny_bind (wpAny_letGo (wpAny_pure ?_)))))
 have t3 : IsPair g3 to u d := t3
 refine wpAny_bind (wpAny_bind (wpAny_onRaise (wpAny_bind (m := Builtin.SmallTypes.nextOf (.ref n2)) (qr (h2.at fun o e => s3.extBut _ _ (Ne.symm ton2) (s2.extBut _ _ (Ne.symm n12) (s1.extBut _ _ (Ne.symm zn2) e))) (l2.at fun o e => s3.extBut _ _ x2.2.1 (s2.extBut _ _ x2.2.2.1 (s1.extBut _ _ x2.1 e))) hv fun g4 i4 s4 => wpAny_pure ?_))))
 have t4 : IsPair g4 to u d := s4.extBut _ _ ton2 t3
 refine wpAny_bind (wpAny_seqItems t4 rfl (wpAny_bind (wpAny_updateSeq_pair t4 fun g5 t5 s5 => wpAny_bind (wpAny_letGo (wpAny_pure (wpAny_pure ?_))))))
 have t5 : IsPair g5 to u v := t5
 refine wpAny_bind (wpAny_seqItems t5 rfl (wpAny_bind (wpAny_newTuple ?_)))
 have sz : g5.objs.size = s.heap.objs.size := by rw [s5.1, s4.1, s3.1, s2.1, s1.1]
 have z5 : IsZip g5 z ti to .ellipsis := s5.extBut _ _ zto (s4.extBut _ _ zn2 (s3.extBut _ _ zto (s2.extBut _ _ zn1 z1)))
 have k5 : ∀ b o, b ∉ [z, to, n1, n2] -> s.heap.get? b = some o -> g5.get? b = some o := fun b o hb e => by
  simp only [List.mem_cons, List.not_mem_nil, or_false, not_or] at hb
  exact s5.extBut _ _ hb.2.1 (s4.extBut _ _ hb.2.2.2 (s3.extBut _ _ hb.2.1 (s2.extBut _ _ hb.2.2.1 (s1.extBut _ _ hb.1 e))))
 have i1 : jz q1 g5 n1 a1 (k + 1) := i2.at fun o e => s5.extBut _ _ (Ne.symm ton1) (s4.extBut _ _ n12 (s3.extBut _ _ (Ne.symm ton1) e))
 have i2' : jz q2 g5 n2 a2 (k + 1) := i4.at fun o e => s5.extBut _ _ (Ne.symm ton2) e
 have zlt : z < g5.objs.size := Heap.lt_size z5
 refine wpAny_bind (m := Builtin.SmallTypes.ownedTupleHandOut (.ref z) (.ref g5.objs.size)) ?_
 unfold Builtin.SmallTypes.ownedTupleHandOut
 refine wpAny_bind (wpAny_setField_rec (show IsZip (g5.push { cls := .type "tuple", data := .seq #[u, v] }) z ti to .ellipsis from Heap.get?_push_of_some _ z5) (by simp) fun g7 z7 s7 => ?_)
 have z7 : IsZip g7 z ti to (rawInt g5.objs.size) := z7
 refine wpAny_setField_rec z7 (by simp) fun g8 z8 s8 => wpAny_pure ⟨_, rfl, ?_⟩
 have z8 : IsZip g8 z ti to (rawInt g5.objs.size) := z8
 have up : ∀ b o, b ≠ z -> g5.get? b = some o -> g8.get? b = some o := fun b o hb e => s8.extBut _ _ hb (s7.extBut _ _ hb (Heap.get?_push_of_some _ e))
 have t8 : IsPair g8 g5.objs.size u v := s8.extBut _ _ (Nat.ne_of_gt zlt) (s7.extBut _ _ (Nat.ne_of_gt zlt) (Heap.get?_push_size _ rfl))
 have sz8 : g8.objs.size = g5.objs.size + 1 := by rw [s8.1, s7.1, Heap.size_push]
 show Q (.ref g5.objs.size) _
 rw [sz] at z8 t8 sz8 ⊢
 exact go g8 z8 (up _ _ (Ne.symm zto) t5) (i1.at fun o e => up _ o (Ne.symm zn1) e) (i2'.at fun o e => up _ o (Ne.symm zn2) e) t8 sz8 fun b o hb e => up b o (fun x => hb (by simp [x])) (k5 b o hb e)
theorem Ax {Q : PySem.Fin -> Shared -> Prop} (hh : A.handled = none) (D : AF z ti to n1 n2 a1 a2) (hz : IsZip s.heap z ti to .none) (hi : IsPair s.heap ti (.ref n1) (.ref n2)) (ho : IsPair s.heap to c d)
  (h1 : jz q1 s.heap n1 a1 k) (h2 : jz q2 s.heap n2 a2 k) (l1 : kI q1 s.heap a1 us) (l2 : kI q2 s.heap a2 vs) (hend : us[k]? = none ∨ vs[k]? = none)
  (go : ∀ h' e, (∀ b o, b ∉ [z, to, n1, n2] -> s.heap.get? b = some o -> h'.get? b = some o) -> (∃ o, h'.get? e = some o /\ o.cls = .type "StopIteration") -> E (.ref e) { s with heap := h' }) :
  wpAny (model P w) A (Builtin.«zip.__next__» ⟨[.ref z], []⟩) Q E s := by
 obtain ⟨nd, x1, x2⟩ := D
 simp only [List.nodup_cons, List.mem_cons, List.not_mem_nil, or_false, not_or, List.nodup_nil, not_false_eq_true, and_true] at nd x1 x2
 obtain ⟨⟨zti, zto, zn1, zn2⟩, ⟨tito, tin1, tin2⟩, ⟨ton1, ton2⟩, n12⟩ := nd
 refine wpAny_bind (m := field (.ref z) 2) (wpAny_field hz rfl (x := .bool false) rfl (wpAny_bind (m := field (.ref z) 3) (wpAny_field hz rfl (x := .ref ti) rfl (wpAny_bind (wpAny_seqItems hi rfl ?_)))))
 refine wpAny_bind (m := Builtin.SmallTypes.ownedTupleIsFree (.ref z)) ?_
 unfold Builtin.SmallTypes.ownedTupleIsFree
 refine wpAny_bind (wpAny_field hz rfl (x := .none) rfl (wpAny_pure ?_))
 simp only [if_true]
 refine wpAny_bind (wpAny_rule (wpAny_bind (wpAny_field hz rfl (x := .ref to) rfl (wpAny_bind (wpAny_setField_rec hz (by simp) fun g1 z1 s1 => wpAny_bind ?_)))))
 have z1 : IsZip g1 z ti to .ellipsis := z1
 simp only [List.forIn_cons, List.forIn_nil, List.zipIdx_cons, List.zipIdx_nil]
 cases hu : us[k]? with
 | none =>
  refine wpAny_bind (wpAny_bind (wpAny_onRaise (wpAny_bind (m := Builtin.SmallTypes.nextOf (.ref n1)) (ur hh (h1.at fun o e => s1.extBut _ _ (Ne.symm zn1) e) (l1.at fun o e => s1.extBut _ _ x1.1 e) hu fun g2 e s2 he => ?_))))
  obtain ⟨oe, hoe, hce⟩ := he
  have z2 : IsZip g2 z ti to .ellipsis := s2 _ _ zn1 z1
  have ez : e ≠ z := fun x => by rw [x, z2] at hoe; cases hoe; simp at hce
  refine wpAny_setField_rec z2 (by simp) fun g3 _ s3 => go g3 e (fun b o hb x => ?_) ⟨oe, s3.extBut _ _ ez hoe, hce⟩
  simp only [List.mem_cons, List.not_mem_nil, or_false, not_or] at hb
  exact s3.extBut _ _ hb.1 (s2 _ _ hb.2.2.1 (s1.extBut _ _ hb.1 x))
 | some u =>
  have hv : vs[k]? = none := by
   rcases hend with h | h
   ·rw [hu] at h; cases h
   ·exact h
  refine wpAny_bind (wpAny_bind (wpAny_onRaise (wpAny_bind (m := Builtin.SmallTypes.nextOf (.ref n1)) (qr (h1.at fun o e => s1.extBut _ _ (Ne.symm zn1) e) (l1.at fun o e => s1.extBut _ _ x1.1 e) hu fun g2 i2 s2 => wpAny_pure ?_))))
  have t2 : IsPair g2 to c d := s2.extBut _ _ ton1 (s1.extBut _ _ (Ne.symm zto) ho)
  refine wpAny_bind (wpAny_seqItems t2 rfl (wpAny_bind (wpAny_updateSeq_pair t2 fun g3 t3 s3 => wpAny_bind (wpAny_letGo (wpAny_pure ?_)))))
  refine wpAny_bind (wpAny_bind (wpAny_onRaise (wpAny_bind (m := Builtin.SmallTypes.nextOf (.ref n2)) (ur hh (h2.at fun o e => s3.extBut _ _ (Ne.symm ton2) (s2.extBut _ _ (Ne.symm n12) (s1.extBut _ _ (Ne.symm zn2) e))) (l2.at fun o e => s3.extBut _ _ x2.2.1 (s2.extBut _ _ x2.2.2.1 (s1.extBut _ _ x2.1 e))) hv fun g4 e s4 he => ?_))))
  obtain ⟨oe, hoe, hce⟩ := he
  have z4 : IsZip g4 z ti to .ellipsis := s4 _ _ zn2 (s3.extBut _ _ zto (s2.extBut _ _ zn1 z1))
  have ez : e ≠ z := fun x => by rw [x, z4] at hoe; cases hoe; simp at hce
  refine wpAny_setField_rec z4 (by simp) fun g5 _ s5 => go g5 e (fun b o hb x => ?_) ⟨oe, s5.extBut _ _ ez hoe, hce⟩
  simp only [List.mem_cons, List.not_mem_nil, or_false, not_or] at hb
  exact s5.extBut _ _ hb.1 (s4 _ _ hb.2.2.2 (s3.extBut _ _ hb.2.1 (s2.extBut _ _ hb.2.2.1 (s1.extBut _ _ hb.1 x))))
theorem wS {Q : Option Value -> Shared -> Prop} (D : AF z ti to n1 n2 a1 a2) (hz : IsZip s.heap z ti to .none) (hi : IsPair s.heap ti (.ref n1) (.ref n2)) (ho : IsPair s.heap to c d)
  (h1 : jz q1 s.heap n1 a1 k) (h2 : jz q2 s.heap n2 a2 k) (l1 : kI q1 s.heap a1 us) (l2 : kI q2 s.heap a2 vs) (hu : us[k]? = some u) (hv : vs[k]? = some v)
  (go : ∀ h', IsZip h' z ti to (rawInt s.heap.objs.size) -> IsPair h' to u v -> jz q1 h' n1 a1 (k + 1) -> jz q2 h' n2 a2 (k + 1) -> IsPair h' s.heap.objs.size u v -> h'.objs.size = s.heap.objs.size + 1 ->
   (∀ b o, b ∉ [z, to, n1, n2] -> s.heap.get? b = some o -> h'.get? b = some o) -> Q (some (.ref s.heap.objs.size)) { s with heap := h' }) : wpAny (model P w) A (pyNext (.ref z)) Q E s := by
 have ty : s.TypeIs (.ref z) "zip" := ⟨_, hz, rfl⟩
 unfold pyNext
 exact wpAny_bind (wpAny_attempt (wpAny_callSpecial?_slot (name := Str.ofString "__next__") ty F.slot_zip_next (wpAny_call_entry F.slot_zip_next ty F.entry_zip_next (zt D hz hi ho h1 h2 l1 l2 hu hv fun h' b1 b2 b3 b4 b5 b6 b7 => wpAny_pure (go h' b1 b2 b3 b4 b5 b6 b7)) (F.args_zip_next_1 _))))
theorem wN {Q : Option Value -> Shared -> Prop} (hh : A.handled = none) (D : AF z ti to n1 n2 a1 a2) (hz : IsZip s.heap z ti to .none) (hi : IsPair s.heap ti (.ref n1) (.ref n2)) (ho : IsPair s.heap to c d)
  (h1 : jz q1 s.heap n1 a1 k) (h2 : jz q2 s.heap n2 a2 k) (l1 : kI q1 s.heap a1 us) (l2 : kI q2 s.heap a2 vs) (hend : us[k]? = none ∨ vs[k]? = none)
  (go : ∀ h', (∀ b o, b ∉ [z, to, n1, n2] -> s.heap.get? b = some o -> h'.get? b = some o) -> Q none { s with heap := h' }) : wpAny (model P w) A (pyNext (.ref z)) Q E s := by
 have ty : s.TypeIs (.ref z) "zip" := ⟨_, hz, rfl⟩
 unfold pyNext
 refine wpAny_bind (wpAny_attempt (wpAny_callSpecial?_slot (name := Str.ofString "__next__") ty F.slot_zip_next (wpAny_call_entry F.slot_zip_next ty F.entry_zip_next (Ax hh D hz hi ho h1 h2 l1 l2 hend fun h' e hk he => ?_) (F.args_zip_next_1 _))))
 obtain ⟨o, e1, e2⟩ := he
 exact wpAny_bind (wpAny_isInstance (T := "StopIteration") (b := true) ⟨o, e1, e2⟩ isSubtype_stop (wpAny_pure (go _ hk)))
end
noncomputable abbrev DB (q : Bool) (a : Addr) : Obj := { cls := .type (if q = true then "tuple_iterator" else "list_iterator"), data := .fields #[.ref a, .int 0 0] }
theorem tS {P : Program} {w : World} {A : Around} {E : Value -> Shared -> Prop} {s : Shared} {Q : Value -> Shared -> Prop} (hs : kI q s.heap a us) (go : Q (.ref s.heap.objs.size) { s with heap := s.heap.push (DB q a) }) : wpAny (model P w) A (pyIter (.ref a)) Q E s := by
 cases q with
 | false => exact wpAny_pyIter_list hs go
 | true => exact wpAny_pyIter_tuple hs go
noncomputable abbrev Dk (h : Heap) (q1 : Bool) (a1 : Addr) : Heap := h.push (DB q1 a1)
noncomputable abbrev Dw (h : Heap) (q1 q2 : Bool) (a1 a2 : Addr) : Heap := (Dk h q1 a1).push (DB q2 a2)
noncomputable abbrev Ds (h : Heap) (q1 q2 : Bool) (a1 a2 : Addr) : Heap := (Dw h q1 q2 a1 a2).push { cls := .type "tuple", data := .seq #[.ref h.objs.size, .ref (Dk h q1 a1).objs.size] }
noncomputable abbrev Du (h : Heap) (q1 q2 : Bool) (a1 a2 : Addr) : Heap := (Ds h q1 q2 a1 a2).push { cls := .type "tuple", data := .seq #[.none, .none] }
noncomputable abbrev AG (h : Heap) (q1 q2 : Bool) (a1 a2 : Addr) : Heap := (Du h q1 q2 a1 a2).push { cls := .type "zip", data := .fields #[.none, .bool false, .bool false, .ref (Dw h q1 q2 a1 a2).objs.size, .ref (Ds h q1 q2 a1 a2).objs.size] }
theorem Aw (q1 q2 : Bool) (a1 a2 : Addr) (us vs : Array Value) : Meets (Builtin.«zip.__new__» ⟨[.type "zip", .ref a1, .ref a2], []⟩) (fun _ R s => kI q1 s.heap a1 us /\ kI q2 s.heap a2 vs /\ R (.ok (.ret (.ref (Du s.heap q1 q2 a1 a2).objs.size))) { s with heap := AG s.heap q1 q2 a1 a2 }) :=
 .of_wp fun prog w A R s h => by
  obtain ⟨hp, g, d, tk, os⟩ := s
  obtain ⟨l1, l2, h⟩ := h
  have hsub := sub_zip
  have L1 : kI q1 (Shared.heap ⟨hp, g, d, tk, os⟩) a1 us := l1
  have L2 : kI q2 (Shared.heap ⟨hp.push (DB q1 a1), g, d, tk, os⟩) a2 vs := l2.at fun o e => Heap.get?_push_of_some _ e
  wp_walk using tS L1, tS L2
  exact ⟨_, rfl, h⟩
theorem yv {P : Program} {w : World} {A : Around} {E : Value -> Shared -> Prop} {s : Shared} {q1 q2 : Bool} {a1 a2 : Addr} {vs : Array Value} {Q : Value -> Shared -> Prop} (l1 : kI q1 s.heap a1 us) (l2 : kI q2 s.heap a2 vs)
  (go : ∀ h', IsZip h' (s.heap.objs.size + 4) (s.heap.objs.size + 2) (s.heap.objs.size + 3) .none -> IsPair h' (s.heap.objs.size + 2) (.ref s.heap.objs.size) (.ref (s.heap.objs.size + 1)) -> IsPair h' (s.heap.objs.size + 3) .none .none ->
   jz q1 h' s.heap.objs.size a1 0 -> jz q2 h' (s.heap.objs.size + 1) a2 0 -> (∀ b o, s.heap.get? b = some o -> h'.get? b = some o) -> Q (.ref (s.heap.objs.size + 4)) { s with heap := h' }) : wpAny (model P w) A (call (.type "zip") [.ref a1, .ref a2]) Q E s := by
 refine callType_new F.called_zip (by decide) (F.typeCall_zip_2 _ _) (F.newCall_zip_2 _ _) (fun obj => F.args_object_init_3 obj _ _) F.entry_zip_new (Aw q1 q2 a1 a2 us vs) ⟨l1, l2, ?_⟩
 have y1 : (Dk s.heap q1 a1).objs.size = s.heap.objs.size + 1 := Heap.size_push ..
 have y2 : (Dw s.heap q1 q2 a1 a2).objs.size = s.heap.objs.size + 2 := by rw [Heap.size_push, y1]
 have y3 : (Ds s.heap q1 q2 a1 a2).objs.size = s.heap.objs.size + 3 := by rw [Heap.size_push, y2]
 have y4 : (Du s.heap q1 q2 a1 a2).objs.size = s.heap.objs.size + 4 := by rw [Heap.size_push, y3]
 have p5 : (AG s.heap q1 q2 a1 a2).get? (Du s.heap q1 q2 a1 a2).objs.size = some _ := Heap.get?_push_size _ rfl
 have p4 : (AG s.heap q1 q2 a1 a2).get? (Ds s.heap q1 q2 a1 a2).objs.size = some _ := Heap.get?_push_of_some _ (Heap.get?_push_size _ rfl)
 have p3 : (AG s.heap q1 q2 a1 a2).get? (Dw s.heap q1 q2 a1 a2).objs.size = some _ := Heap.get?_push_of_some _ (Heap.get?_push_of_some _ (Heap.get?_push_size _ rfl))
 have p2 : (AG s.heap q1 q2 a1 a2).get? (Dk s.heap q1 a1).objs.size = some _ := Heap.get?_push_of_some _ (Heap.get?_push_of_some _ (Heap.get?_push_of_some _ (Heap.get?_push_size _ rfl)))
 have p1 : (AG s.heap q1 q2 a1 a2).get? s.heap.objs.size = some _ := Heap.get?_push_of_some _ (Heap.get?_push_of_some _ (Heap.get?_push_of_some _ (Heap.get?_push_of_some _ (Heap.get?_push_size _ rfl))))
 show _ /\ _
 rw [y2, y3, y4] at p5
 rw [y1, y2] at p3
 rw [y3] at p4
 rw [y1] at p2
 rw [y4]
 exact ⟨⟨_, p5, rfl⟩, go _ p5 p3 p4 ⟨_, p1, rfl, rfl⟩ ⟨_, p2, rfl, rfl⟩ fun b o x => Heap.get?_push_of_some _ (Heap.get?_push_of_some _ (Heap.get?_push_of_some _ (Heap.get?_push_of_some _ (Heap.get?_push_of_some _ x))))⟩
end L2
namespace L2
open PySem PySem.Spec PyProof.Rows
noncomputable def jD (q : Bool) (K : Fg) (H : Hp) (a : Addr) (xs : List V) : Prop := if q = true then ci K H a xs else cg K H a xs
section
variable {X : Cx} {pins : Pn} {σ : St} {H : Hp} {s : Shared} {q : Bool} {a : Addr} {xs ys : List V}
theorem aJ.sqB (I : aJ X pins σ H s) (h : jD q X.K H a xs) : ∃ its : List Value, bd xs its /\ kI q s.heap a its.toArray := by
 cases q with
 | false =>
  obtain ⟨its, r, p, _⟩ := I.list h
  exact ⟨its, r, p.isList⟩
 | true =>
  obtain ⟨its, r, p, _⟩ := I.tuple h
  exact ⟨its, r, show s.heap.IsTuple a its.toArray from p⟩
theorem aJ.sqB_inj (I : aJ X pins σ H s) (h : jD q X.K H a xs) (g : jD q X.K H a ys) : xs = ys := by
 cases q with
 | false => exact I.list_inj h g
 | true => exact I.tuple_inj h g
end
noncomputable def Itz (K : Fg) (q1 q2 : Bool) (a1 a2 : Addr) : It :=
  ⟨fun i H => ∃ xs ys x y, jD q1 K H a1 xs /\ jD q2 K H a2 ys /\ xs[i]? = some x /\ ys[i]? = some y,
   fun i H v H' => ∃ p x y, v = .ref p /\ H p = none /\ (∀ xs, jD q1 K H a1 xs -> xs[i]? = some x) /\ (∀ ys, jD q2 K H a2 ys -> ys[i]? = some y) /\ H' = upd H p (.tup [x, y]),
   fun i H => ∃ xs ys, jD q1 K H a1 xs /\ jD q2 K H a2 ys /\ (xs.length <= i ∨ ys.length <= i)⟩
theorem vq {P : Program} {w : World} {K : Fg} {elts : List Expr} {x1 : _} {pos : Pos} {q1 q2 : Bool} {a1 a2 z ti to n1 n2 : Addr} (D : AF z ti to n1 n2 a1 a2) :
  pi P w K (.Tuple elts x1 pos) (Itz K q1 q2 a1 a2) [z, ti, to, n1, n2] z (fun i h => IsZip h z ti to .none /\ IsPair h ti (.ref n1) (.ref n2) /\ (∃ c d, IsPair h to c d) /\ jz q1 h n1 a1 i /\ jz q2 h n2 a2 i) where
 mem := by simp
 obj := fun i h st b hb => by
  obtain ⟨hz, hi, ⟨c, d, ho⟩, ⟨o1, e1, c1, d1⟩, ⟨o2, e2, c2, d2⟩⟩ := st
  have hb' : b = z ∨ b = ti ∨ b = to ∨ b = n1 ∨ b = n2 := by simpa using hb
  rcases hb' with rfl | rfl | rfl | rfl | rfl
  ·exact ⟨_, hz, fun v y => by cases y⟩
  ·exact ⟨_, hi, fun v y => by cases y⟩
  ·exact ⟨_, ho, fun v y => by cases y⟩
  ·exact ⟨o1, e1, fun v y => by rw [d1] at y; cases y⟩
  ·exact ⟨o2, e2, fun v y => by rw [d2] at y; cases y⟩
 keep := fun i h h' st k => by
  obtain ⟨hz, hi, ⟨c, d, ho⟩, h1, h2⟩ := st
  exact ⟨k z (by simp) _ hz, k ti (by simp) _ hi, ⟨c, d, k to (by simp) _ ho⟩, h1.at fun o e => k n1 (by simp) o e, h2.at fun o e => k n2 (by simp) o e⟩
 item := by
  intro X hP hw hK hc i pins s σ H E I hf st hg
  subst hP hw hK
  obtain ⟨xs, ys, x, y, hq1, hq2, hx, hy⟩ := hg
  obtain ⟨hz, hi, ⟨c, d, ho⟩, h1, h2⟩ := st
  obtain ⟨it1, r1, p1⟩ := I.sqB hq1
  obtain ⟨it2, r2, p2⟩ := I.sqB hq2
  obtain ⟨u, hu, ru⟩ := r1.get hx
  obtain ⟨v, hv, rv⟩ := r2.get hy
  have fpl : ∀ b ∈ [z, ti, to, n1, n2], b < s.heap.objs.size := fun b hb => by
   obtain ⟨o1, e1, _⟩ := id h1
   obtain ⟨o2, e2, _⟩ := id h2
   have hb' : b = z ∨ b = ti ∨ b = to ∨ b = n1 ∨ b = n2 := by simpa using hb
   rcases hb' with rfl | rfl | rfl | rfl | rfl
   ·exact Heap.lt_size hz
   ·exact Heap.lt_size hi
   ·exact Heap.lt_size ho
   ·exact Heap.lt_size e1
   ·exact Heap.lt_size e2
  refine wS D hz hi ho h1 h2 p1 p2 (u := u) (v := v) (by simpa using hu) (by simpa using hv) fun g z1 o1 i1 i2 t1 sz kk => ?_
  refine ⟨.ref s.heap.objs.size, rfl, wpAny_letOwnedTupleGo_zip z1 fun g2 z2 sb => ?_⟩
  have sb2 : ∀ b, b ≠ z -> g2.get? b = g.get? b := sb.2
  have hfr : H s.heap.objs.size = none := I.hok.fresh (Nat.le_refl _)
  have I1 : aJ X pins σ (upd H s.heap.objs.size (.tup [x, y])) { s with heap := s.heap.push { cls := .type "tuple", data := .seq #[u, v] } } :=
   I.laid (t' := s.toks) (fun b o e => Heap.get?_push_of_some _ e) (Nat.le_refl _) ⟨by show 2 <= sizeLine; decide, [u, v], .cons ru (.cons rv .nil), _, Heap.get?_push_size _ rfl, rfl, _, rfl⟩
  have hf2 : ∀ b ∈ [z, ti, to, n1, n2], gW X pins (upd H s.heap.objs.size (.tup [x, y])) b := fun b hb => by
   obtain ⟨f0, f1, f2, f3, f4, f5⟩ := hf b hb
   exact ⟨by rw [aE (Nat.ne_of_lt (fpl b hb))]; exact f0, f1, f2, f3, f4, f5⟩
  have I2 := aJ.turnedL (h' := g2) (t' := s.toks) (fp := [z, ti, to, n1, n2]) I1 (fun b o hb e => by
   have hbz : b ≠ z := fun q => hb (by simp [q])
   rw [sb2 b hbz]
   rcases Heap.get?_push_cases e with ⟨y1, y2⟩ | y1
   ·rw [y1, y2]; exact t1
   ·exact kk b o (fun q => hb (by simp at q ⊢; rcases q with q | q | q | q <;> simp [q])) y1) hf2
  have nz : ∀ b ∈ [ti, to, n1, n2], b ≠ z := fun b hb q => by
   have := D.nd
   simp only [List.nodup_cons] at this
   exact this.1 (by rw [<- q]; exact hb)
  have keep2 : ∀ b ∈ [ti, to, n1, n2], ∀ o, g.get? b = some o -> g2.get? b = some o := fun b hb o e => by rw [sb2 b (nz b hb)]; exact e
  have tk : g.get? ti = some _ := kk ti _ (fun q => by
   have := D.nd
   simp only [List.nodup_cons] at this
   simp at q
   rcases q with q | q | q | q
   ·exact nz ti (by simp) q
   ·exact this.2.1 (by rw [q]; simp)
   ·exact this.2.1 (by rw [q]; simp)
   ·exact this.2.1 (by rw [q]; simp)) hi
  exact ⟨.ref s.heap.objs.size, _, I2, rfl, ⟨_, x, y, rfl, hfr, fun zs hzs => by rw [I.sqB_inj hzs hq1]; exact hx, fun zs hzs => by rw [I.sqB_inj hzs hq2]; exact hy, rfl⟩,
   ⟨z2, keep2 ti (by simp) _ tk, ⟨_, _, keep2 to (by simp) _ o1⟩, i1.at fun o e => keep2 n1 (by simp) o e, i2.at fun o e => keep2 n2 (by simp) o e⟩, fun b hb => (hf2 b hb).1⟩
 done := by
  intro X hP hw hK hc i pins s σ H E I hf st hg
  subst hP hw hK
  obtain ⟨xs, ys, hq1, hq2, hx⟩ := hg
  obtain ⟨hz, hi, ⟨c, d, ho⟩, h1, h2⟩ := st
  obtain ⟨it1, r1, p1⟩ := I.sqB hq1
  obtain ⟨it2, r2, p2⟩ := I.sqB hq2
  have l1 := r1.length
  have l2 := r2.length
  refine wN (I.ok.hd hc) D hz hi ho h1 h2 p1 p2 ?_ fun g kk => ⟨rfl, aJ.turnedL (t' := s.toks) I (fun b o hb e => kk b o (fun q => hb (by simp at q ⊢; rcases q with q | q | q | q <;> simp [q])) e) hf⟩
  rcases hx with hx | hx
  ·exact .inl (by simp; omega)
  ·exact .inr (by simp; omega)
 self := fun _ _ _ _ _ st h => wpAny_pyIter_zip st.1 h
theorem yG : bootBuiltins "zip" = some (.type "zip") := by decide +kernel
section
variable {X : Cx}
noncomputable def CS (K : Fg) (ta : TA) : TI := fun σ H R => ta σ H fun vs H1 => ∃ q1 q2 a1 a2, vs = [.ref a1, .ref a2] /\ (∃ xs, jD q1 K H1 a1 xs) /\ (∃ ys, jD q2 K H1 a2 ys) /\ R (Itz K q1 q2 a1 a2) H1
theorem zq {l1 l2 : Expr} {ta : TA} {elts : List Expr} {x1 : _} {p pos pos' : Pos} (hg : Gl X "zip") (hm : X.mg "zip" = none) (ha : PA X [l1, l2] ta) (hs : starEach [l1, l2] X.env = (false, eval l1 X.env) :: starEach [l2] X.env := by rfl) (hpl : (backTo pos (starEach [l2] X.env)).any (·.1) = false := by rfl) :
  PI X (.Tuple elts x1 pos') (.Call (.Name "zip" p) [l1, l2] [] pos) (CS X.K ta) := by
 intro pins s σ H R I h
 refine Call_ (iO I hg hm yG (PyProof.Rows.callWith_type1 (bQ (ha pos pins s σ H _ I h) fun us s1 ⟨vs, H1, I1, r1, q1⟩ => ?_) hs hpl))
 obtain ⟨b1, b2, a1, a2, e, ⟨xs, hq1⟩, ⟨ys, hq2⟩, q⟩ := q1
 subst e
 cases r1 with
 | cons r rr =>
  cases rr with
  | cons r2 rr =>
   cases rr
   cases r
   cases r2
   obtain ⟨it1, rv1, p1⟩ := I1.sqB hq1
   obtain ⟨it2, rv2, p2⟩ := I1.sqB hq2
   have lt1 : a1 < s1.heap.objs.size := by obtain ⟨o, e, _⟩ := id p1; exact Heap.lt_size e
   have lt2 : a2 < s1.heap.objs.size := by obtain ⟨o, e, _⟩ := id p2; exact Heap.lt_size e
   refine yv p1 p2 fun g hz hi ho h1 h2 kk => ?_
   have I2 : aJ X pins σ H1 { s1 with heap := g } := I1.kept (t' := s1.toks) kk
   have D : AF (s1.heap.objs.size + 4) (s1.heap.objs.size + 2) (s1.heap.objs.size + 3) s1.heap.objs.size (s1.heap.objs.size + 1) a1 a2 := by
    have ap : ∀ b : Addr, b < s1.heap.objs.size -> b ∉ [s1.heap.objs.size + 4, s1.heap.objs.size + 3, s1.heap.objs.size, s1.heap.objs.size + 1] := fun b lt hb => by
     have hb' : b = s1.heap.objs.size + 4 ∨ b = s1.heap.objs.size + 3 ∨ b = s1.heap.objs.size ∨ b = s1.heap.objs.size + 1 := by simpa using hb
     rcases hb' with e | e | e | e
     ·exact absurd lt (by rw [e]; exact Nat.not_lt_of_le (Nat.le_add_right _ _))
     ·exact absurd lt (by rw [e]; exact Nat.not_lt_of_le (Nat.le_add_right _ _))
     ·exact absurd lt (by rw [e]; exact Nat.lt_irrefl _)
     ·exact absurd lt (by rw [e]; exact Nat.not_lt_of_le (Nat.le_add_right _ _))
    exact ⟨by simp, ap a1 lt1, ap a2 lt2⟩
   refine wpAny_pyIter_zip hz ⟨s1.heap.objs.size + 4, [s1.heap.objs.size + 4, s1.heap.objs.size + 2, s1.heap.objs.size + 3, s1.heap.objs.size, s1.heap.objs.size + 1], _, _, H1, rfl, I2, vq D, ⟨hz, hi, ⟨_, _, ho⟩, h1, h2⟩, fun b hb => ?_, q⟩
   have hge : s1.heap.objs.size <= b := by
    have hb' : b = s1.heap.objs.size + 4 ∨ b = s1.heap.objs.size + 2 ∨ b = s1.heap.objs.size + 3 ∨ b = s1.heap.objs.size ∨ b = s1.heap.objs.size + 1 := by simpa using hb
    rcases hb' with e | e | e | e | e
    ·rw [e]; exact Nat.le_add_right _ _
    ·rw [e]; exact Nat.le_add_right _ _
    ·rw [e]; exact Nat.le_add_right _ _
    ·rw [e]; exact Nat.le_refl _
    ·rw [e]; exact Nat.le_add_right _ _
   exact I1.fpOk hge (I1.hok.fresh hge)
end
end L2
namespace L2
open PySem PySem.Spec PyProof.Rows
inductive Tr where
 | non | bl (b : Bool) | int (i : Int) | str (x : Str) | tup (ts : List Tr) | lst (ts : List Tr) | dct (kvs : List (Key × Tr)) | ty (n : String)
mutual
inductive Is (K : Fg) (F : Hp) : V -> Tr -> Prop
 | non : Is K F .non .non
 | bl {b : Bool} : Is K F (.bl b) (.bl b)
 | int {i : Int} : Is K F (.int i) (.int i)
 | str {x : Str} : Is K F (.str x) (.str x)
 | ty {n : String} : Is K F (.ty n) (.ty n)
 | tup {p : Addr} {vs : List V} {ts : List Tr} : ci K F p vs -> IsL K F vs ts -> Is K F (.ref p) (.tup ts)
 | lst {p : Addr} {vs : List V} {ts : List Tr} : cg K F p vs -> IsL K F vs ts -> Is K F (.ref p) (.lst ts)
 | dct {p : Addr} {kvs : List (Key × V)} {ts : List (Key × Tr)} : F p = some (.dK kvs) -> kvs.map (·.1) = ts.map (·.1) -> IsL K F (kvs.map (·.2)) (ts.map (·.2)) -> Is K F (.ref p) (.dct ts)
inductive IsL (K : Fg) (F : Hp) : List V -> List Tr -> Prop
 | nil : IsL K F [] []
 | cons {v : V} {t : Tr} {vs : List V} {ts : List Tr} : Is K F v t -> IsL K F vs ts -> IsL K F (v :: vs) (t :: ts)
end
mutual
theorem Is.same {K : Fg} {F F' : Hp} (s : aF F F') : ∀ {v : V} {t : Tr}, Is K F v t -> Is K F' v t
 | _, _, .non => .non
 | _, _, .bl => .bl
 | _, _, .int => .int
 | _, _, .str => .str
 | _, _, .ty => .ty
 | _, _, .tup h g => .tup (s.tup h) (IsL.same s g)
 | _, _, .lst h g => .lst (s.seq h) (IsL.same s g)
 | _, _, .dct h e g => .dct (s _ _ h) e (IsL.same s g)
theorem IsL.same {K : Fg} {F F' : Hp} (s : aF F F') : ∀ {vs : List V} {ts : List Tr}, IsL K F vs ts -> IsL K F' vs ts
 | _, _, .nil => .nil
 | _, _, .cons h g => .cons (Is.same s h) (IsL.same s g)
end
section
variable {K : Fg} {F : Hp}
theorem IsL.length : ∀ {vs : List V} {ts : List Tr}, IsL K F vs ts -> vs.length = ts.length
 | _, _, .nil => rfl
 | _, _, .cons _ g => congrArg (· + 1) (IsL.length g)
theorem IsL.get : ∀ {vs : List V} {ts : List Tr} {i : Nat} {t : Tr}, IsL K F vs ts -> ts[i]? = some t -> ∃ v, vs[i]? = some v /\ Is K F v t
 | _, _, _, _, .nil, e => by simp at e
 | _, _, 0, _, .cons h _, e => by simp at e; subst e; exact ⟨_, rfl, h⟩
 | _, _, i + 1, t, .cons _ g, e => by
  obtain ⟨u, h1, h2⟩ := IsL.get (i := i) (t := t) g (by simpa using e)
  exact ⟨u, by simpa using h1, h2⟩
theorem IsL.get2 : ∀ {vs : List V} {ts : List Tr} {i : Nat} {v : V}, IsL K F vs ts -> vs[i]? = some v -> ∃ t, ts[i]? = some t /\ Is K F v t
 | _, _, _, _, .nil, e => by simp at e
 | _, _, 0, _, .cons h _, e => by simp at e; subst e; exact ⟨_, rfl, h⟩
 | _, _, i + 1, t, .cons _ g, e => by
  obtain ⟨u, h1, h2⟩ := IsL.get2 (i := i) (v := t) g (by simpa using e)
  exact ⟨u, by simpa using h1, h2⟩
theorem IsL.app : ∀ {vs ws : List V} {ts us : List Tr}, IsL K F vs ts -> IsL K F ws us -> IsL K F (vs ++ ws) (ts ++ us)
 | _, _, _, _, .nil, s => s
 | _, _, _, _, .cons h g, s => .cons h (IsL.app g s)
theorem IsL.take : ∀ {vs : List V} {ts : List Tr} (n : Nat), IsL K F vs ts -> IsL K F (vs.take n) (ts.take n)
 | _, _, 0, _ => .nil
 | _, _, _ + 1, .nil => .nil
 | _, _, n + 1, .cons h g => .cons h (IsL.take n g)
theorem IsL.drop : ∀ {vs : List V} {ts : List Tr} (n : Nat), IsL K F vs ts -> IsL K F (vs.drop n) (ts.drop n)
 | _, _, 0, h => h
 | _, _, _ + 1, .nil => .nil
 | _, _, n + 1, .cons _ g => IsL.drop n g
theorem IsL.snoc {vs : List V} {ts : List Tr} {v : V} {t : Tr} (h : IsL K F vs ts) (g : Is K F v t) : IsL K F (vs ++ [v]) (ts ++ [t]) := h.app (.cons g .nil)
theorem IsL.ints : ∀ {vs : List V} {ns : List Int}, IsL K F vs (ns.map Tr.int) -> vs = ns.map V.int
 | _, [], .nil => rfl
 | _, _ :: _, .cons .int g => by rw [List.map_cons, IsL.ints g]
theorem IsL.strs : ∀ {vs : List V} {ns : List Str}, IsL K F vs (ns.map Tr.str) -> vs = ns.map V.str
 | _, [], .nil => rfl
 | _, _ :: _, .cons .str g => by rw [List.map_cons, IsL.strs g]
theorem IsL.bls : ∀ {vs : List V} {ns : List Bool}, IsL K F vs (ns.map Tr.bl) -> vs = ns.map V.bl
 | _, [], .nil => rfl
 | _, _ :: _, .cons .bl g => by rw [List.map_cons, IsL.bls g]
theorem IsL.ofInts : ∀ (ns : List Int), IsL K F (ns.map V.int) (ns.map Tr.int)
 | [] => .nil
 | _ :: r => .cons .int (IsL.ofInts r)
theorem IsL.ofStrs : ∀ (ns : List Str), IsL K F (ns.map V.str) (ns.map Tr.str)
 | [] => .nil
 | _ :: r => .cons .str (IsL.ofStrs r)
end
noncomputable def Mb : HO -> Prop
 | .lst _ => True
 | .dK _ => True
 | .tbl _ => True
 | _ => False
structure Bk where
 K : Fg
 F0 : Hp
 H0 : Hp
 W : Addr -> Prop
 J : Hp -> Prop
 rt : Addr
 jl : ∀ H H' : Hp, (∀ p, W p -> H p = H' p) -> (∀ p φ, H p = some (.ext φ) -> H' p = some (.ext φ)) -> J H -> J H'
 jm : ∀ (H : Hp) (p : Addr), J H -> W p -> ∃ o, H p = some o /\ Mb o
structure Up (B : Bk) (F H F' H' : Hp) : Prop where
 f : aF F F'
 h : ∀ p o, ¬ B.W p -> H p = some o -> H' p = some o
 i : aF F' H'
 m : ∀ p o, H p = some o -> Mb o -> F p = none -> F' p = none
 w : ∀ p, H' p = none -> H p = none
 x : ∀ p, B.W p -> F p = none -> F' p = none
 j : B.J H -> B.J H'
variable {B : Bk} {F : Hp} {H : Hp}
theorem Up.refl (i : aF F H) : Up B F H F H := ⟨aF.refl _, fun _ _ _ h => h, i, fun _ _ _ _ h => h, fun _ h => h, fun _ _ h => h, fun h => h⟩
theorem Up.trans {F1 H1 F2 H2 : Hp} (a : Up B F H F1 H1) (b : Up B F1 H1 F2 H2) : Up B F H F2 H2 := ⟨a.f.trans b.f, fun p o n h => b.h p o n (a.h p o n h), b.i, fun p o h mb n => by
 by_cases hw : B.W p
 ·exact b.x p hw (a.x p hw n)
 ·exact b.m p o (a.h p o hw h) mb (a.m p o h mb n), fun p h => a.w p (b.w p h), fun p hw n => b.x p hw (a.x p hw n), fun h => b.j (a.j h)⟩
inductive Ow (K : Fg) (F H : Hp) (l : Addr) : Tr -> Prop
 | lst {vs : List V} {ts : List Tr} : H l = some (.lst vs) -> IsL K F vs ts -> Ow K F H l (.lst ts)
 | dct {kvs : List (Key × V)} {ts : List (Key × Tr)} : H l = some (.dK kvs) -> kvs.map (·.1) = ts.map (·.1) -> IsL K F (kvs.map (·.2)) (ts.map (·.2)) -> Ow K F H l (.dct ts)
variable {K : Fg} {l : Addr} {t : Tr}
theorem Ow.mb (h : Ow K F H l t) : ∃ o, H l = some o /\ Mb o := by
 cases h with
 | lst h _ => exact ⟨_, h, trivial⟩
 | dct h _ _ => exact ⟨_, h, trivial⟩
variable {F' : Hp}
theorem Ow.to {H' : Hp} (h : Ow K F H l t) (s : aF F F') (e : ∀ o, H l = some o -> H' l = some o) : Ow K F' H' l t := by
 cases h with
 | lst h g => exact .lst (e _ h) (g.same s)
 | dct h e' g => exact .dct (e _ h) e' (g.same s)
theorem Ow.is (h : Ow K F H l t) (s : aF F F') (e : F' l = H l) : Is K F' (.ref l) t := by
 cases h with
 | lst h g => exact .lst (cg.of (by rw [e, h])) (g.same s)
 | dct h e' g => exact .dct (by rw [e, h]) e' (g.same s)
inductive Sl where
 | no | fz (t : Tr) | own (t : Tr) | vw (t : Tr) | wd
noncomputable abbrev TSt := List Sl
noncomputable abbrev gp (σ : St) (i : Nat) (v : V) : Prop := σ[i]? = some (some v)
noncomputable abbrev di (τ : TSt) (i : Nat) (s : Sl) : Prop := τ[i]? = some s
structure Rp (B : Bk) (F H : Hp) (σ : St) (τ : TSt) : Prop where
 up : Up B B.F0 B.H0 F H
 wa : ∀ p, B.W p -> B.H0 p ≠ none
 wf : ∀ p, B.W p -> F p = none
 wj : B.J H
 wd : ∀ i, di τ i .wd -> gp σ i (.ref B.rt)
 len : σ.length = τ.length
 fz : ∀ i t, di τ i (.fz t) -> ∃ v, gp σ i v /\ Is B.K F v t
 ow : ∀ i t, di τ i (.own t) -> ∃ l, gp σ i (.ref l) /\ Ow B.K F H l t /\ F l = none /\ B.H0 l = none
 vw : ∀ i t, di τ i (.vw t) -> ∃ l, gp σ i (.ref l) /\ Ow B.K F H l t /\ F l = none /\ ¬ B.W l
 ap : ∀ i j t u l, di τ i (.own t) -> di τ j (.own u) -> i ≠ j -> gp σ i (.ref l) -> gp σ j (.ref l) -> False
 av : ∀ i j t u l, di τ i (.own t) -> di τ j (.vw u) -> gp σ i (.ref l) -> gp σ j (.ref l) -> False
inductive Kd where
 | fz (t : Tr) | nw (t : Tr) | sl (i : Nat) | wd
noncomputable def qc (B : Bk) (F H : Hp) (σ : St) (τ : TSt) (v : V) : Kd -> Prop
 | .fz t => Is B.K F v t
 | .nw t => ∃ l, v = .ref l /\ Ow B.K F H l t /\ F l = none /\ B.H0 l = none /\ ∀ i u, di τ i (.own u) ∨ di τ i (.vw u) -> ¬ gp σ i (.ref l)
 | .sl i => gp σ i v
 | .wd => v = .ref B.rt
noncomputable def wg (H : Hp) (v : V) : Kd -> Prop
 | .nw _ => ∀ l, v = .ref l -> H l = none
 | _ => True
structure Fr (B : Bk) (σ : St) (τ : TSt) (F H : Hp) (τ' : TSt) (F' H' : Hp) : Prop where
 f : aF F F'
 k : ∀ p o, H p = some o -> ¬ B.W p -> (∀ i t, di τ i (.own t) -> ¬ gp σ i (.ref p)) -> H' p = some o /\ (Mb o -> F p = none -> F' p = none)
 o : ∀ i t, di τ' i (.own t) -> ∃ u, di τ i (.own u)
 h : ∀ p, H' p = none -> H p = none
variable {σ : St}
theorem Fr.refl {τ : TSt} : Fr B σ τ F H τ F H := ⟨aF.refl _, fun _ _ h _ _ => ⟨h, fun _ z => z⟩, fun _ t h => ⟨t, h⟩, fun _ h => h⟩
theorem Fr.trans {τ τ1 τ2 : TSt} {F1 H1 F2 H2 : Hp} (a : Fr B σ τ F H τ1 F1 H1) (b : Fr B σ τ1 F1 H1 τ2 F2 H2) : Fr B σ τ F H τ2 F2 H2 :=
 ⟨a.f.trans b.f, fun p o h nw n => by
  obtain ⟨h1, h2⟩ := a.k p o h nw n
  obtain ⟨h3, h4⟩ := b.k p o h1 nw fun i t e => by
   obtain ⟨u, e'⟩ := a.o i t e
   exact n i u e'
  exact ⟨h3, fun mb z => h4 mb (h2 mb z)⟩, fun i t e => by
  obtain ⟨u, e'⟩ := b.o i t e
  exact a.o i u e', fun p h => a.h p (b.h p h)⟩
noncomputable abbrev TK := Kd -> TSt -> Prop
noncomputable def CT (B : Bk) (σ : St) (τ : TSt) (F H : Hp) (Φ : TK) (Q : VK) : Prop := ∀ v F' H' k τ', Fr B σ τ F H τ' F' H' -> Rp B F' H' σ τ' -> qc B F' H' σ τ' v k -> wg H v k -> Φ k τ' -> Q v H'
noncomputable def EV (B : Bk) (te : TE) (τ : TSt) (Φ : TK) : Prop := ∀ σ F H Q, Rp B F H σ τ -> CT B σ τ F H Φ Q -> te σ H Q
noncomputable def TV (B : Bk) (tt : TT) (τ : TSt) (Φ : Bool -> TSt -> Prop) : Prop := ∀ σ F H (Q : Bool -> Hp -> Prop), Rp B F H σ τ -> (∀ b F' H' τ', Fr B σ τ F H τ' F' H' -> Rp B F' H' σ τ' -> Φ b τ' -> Q b H') -> tt σ H Q
noncomputable def AK (B : Bk) (ta : TA) (τ : TSt) (Φ : List Tr -> TSt -> Prop) : Prop := ∀ σ F H (Q : List V -> Hp -> Prop), Rp B F H σ τ -> (∀ vs F' H' ts τ', Fr B σ τ F H τ' F' H' -> Rp B F' H' σ τ' -> IsL B.K F' vs ts -> Φ ts τ' -> Q vs H') -> ta σ H Q
noncomputable def rS (k : Kd) (τ : TSt) (S : Tr -> TSt -> Prop) : Prop := match k with
 | .fz t => S t τ
 | .nw t => S t τ
 | .sl i => (∃ t, di τ i (.own t) /\ S t (τ.set i (.fz t))) ∨ ∃ t, di τ i (.fz t) /\ S t τ
 | .wd => False
noncomputable def qI (k : Kd) (τ : TSt) (S : TK) : Prop := match k with
 | .fz t => S (.fz t) τ
 | .nw t => S (.fz t) τ
 | .sl i => S (.sl i) τ
 | .wd => False
noncomputable def fF (K : Fg) (F : Hp) (σ : St) (v : V) : Kd -> Prop
 | .fz t => Is K F v t
 | .nw _ => False
 | .sl i => gp σ i v
 | .wd => False
theorem fF.same {v : V} {k : Kd} (s : aF F F') (h : fF K F σ v k) : fF K F' σ v k := by
 cases k with
 | fz t => exact Is.same s h
 | nw t => exact h
 | sl i => exact h
 | wd => exact h
section
variable {B : Bk} {F H F1 H1 F' H' : Hp} {σ : St} {τ τ1 τ' : TSt}
theorem CT.on {Φ : TK} {Q : VK} (c : CT B σ τ F H Φ Q) (f : Fr B σ τ F H τ1 F1 H1) : CT B σ τ1 F1 H1 Φ Q := fun v F' H' k τ' f' r ok n φ => c v F' H' k τ' (f.trans f') r ok (by
 cases k with
 | nw t => exact fun l e => f.h l (n l e)
 | fz t => exact trivial
 | sl i => exact trivial
 | wd => exact trivial) φ
theorem Rp.go (r : Rp B F H σ τ) (u : Up B F H F' H') : Rp B F' H' σ τ where
 up := r.up.trans u
 wa := r.wa
 wf := fun p hw => u.x p hw (r.wf p hw)
 wj := u.j r.wj
 wd := r.wd
 len := r.len
 fz := fun i t h => by obtain ⟨v, e, g⟩ := r.fz i t h; exact ⟨v, e, g.same u.f⟩
 ow := fun i t h => by
  obtain ⟨l, e, g, n, n0⟩ := r.ow i t h
  obtain ⟨o, ho, mb⟩ := g.mb
  exact ⟨l, e, g.to u.f (fun o => u.h l o fun hw => r.wa l hw n0), u.m l o ho mb n, n0⟩
 vw := fun i t h => by
  obtain ⟨l, e, g, n, nw⟩ := r.vw i t h
  obtain ⟨o, ho, mb⟩ := g.mb
  exact ⟨l, e, g.to u.f (fun o => u.h l o nw), u.m l o ho mb n, nw⟩
 ap := r.ap
 av := r.av
theorem Fr.up (u : Up B F H F' H') : Fr B σ τ F H τ F' H' := ⟨u.f, fun p o h nw _ => ⟨u.h p o nw h, fun mb n => u.m p o h mb n⟩, fun _ t h => ⟨t, h⟩, u.w⟩
variable {o : HO}
theorem iC {H : Hp} {a b : Addr} (h : upd H a o b = none) : H b = none := by
 by_cases e : b = a
 ·rw [e, aL] at h; cases h
 ·rw [aE e] at h; exact h
theorem Rp.tup {p : Addr} {vs : List V} (r : Rp B F H σ τ) (n : H p = none) : Up B F H (upd F p (.tup vs)) (upd H p (.tup vs)) where
 f := aF.new (r.up.i.free n) _
 h := fun q o _ z => aF.new n _ q o z
 i := fun b o e => by
  by_cases hb : b = p
  ·subst hb; rw [aL] at e ⊢; exact e
  ·rw [aE hb] at e ⊢; exact r.up.i b o e
 m := fun q o h _ z => by
  have : q ≠ p := fun e => by rw [e, n] at h; cases h
  rw [aE this]; exact z
 w := fun q h => iC h
 x := fun q hw z => by
  have : q ≠ p := fun e => r.wa q hw (r.up.w q (by rw [e]; exact n))
  rw [aE this]; exact z
 j := fun h => B.jl _ _ (fun q hw => by
  have : q ≠ p := fun e => r.wa q hw (r.up.w q (by rw [e]; exact n))
  rw [aE this]) (fun q φ z => aF.new n _ q _ z) h
theorem Rp.new {p : Addr} (r : Rp B F H σ τ) (n : H p = none) : Up B F H F (upd H p o) where
 f := aF.refl _
 h := fun q o _ z => aF.new n _ q o z
 i := r.up.i.trans (aF.new n _)
 m := fun q o h _ z => z
 w := fun q h => iC h
 x := fun q hw z => z
 j := fun h => B.jl _ _ (fun q hw => by
  have : q ≠ p := fun e => r.wa q hw (r.up.w q (by rw [e]; exact n))
  rw [aE this]) (fun q φ z => aF.new n _ q _ z) h
theorem Rp.inc (r : Rp B F H σ τ) : aF F H := r.up.i
theorem Rp.fixA {l : Addr} (r : Rp B F H σ τ) (ho : H l = some o) (n : F l = none) (n0 : B.H0 l = none) (ne : ∀ i u, di τ i (.own u) ∨ di τ i (.vw u) -> ¬ gp σ i (.ref l)) : Rp B (upd F l o) H σ τ where
  wa := r.wa
  wf := fun p hw => by
    have : p ≠ l := fun e => r.wa p hw (by rw [e]; exact n0)
    rw [aE this]; exact r.wf p hw
  wj := r.wj
  wd := r.wd
  up := { f := r.up.f.trans (aF.new n o), h := r.up.h, w := r.up.w, j := r.up.j
          m := fun p q hp mb z => by
            have : p ≠ l := fun e => by rw [e, n0] at hp; cases hp
            rw [aE this]; exact r.up.m p q hp mb z
          x := fun p hw z => by
            have : p ≠ l := fun e => r.wa p hw (by rw [e]; exact n0)
            rw [aE this]; exact r.up.x p hw z
          i := fun b q e => by
            by_cases hb : b = l
            · subst hb; rw [aL] at e; cases e; exact ho
            · rw [aE hb] at e; exact r.up.i b q e }
  len := r.len
  fz := fun i t h => by obtain ⟨v, e, g⟩ := r.fz i t h; exact ⟨v, e, g.same (aF.new n o)⟩
  ow := fun i t h => by
    obtain ⟨l', e, g, n', n0'⟩ := r.ow i t h
    have hl : l' ≠ l := fun z => ne i t (.inl h) (by rw [<- z]; exact e)
    exact ⟨l', e, g.to (aF.new n o) (fun _ q => q), by rw [aE hl]; exact n', n0'⟩
  vw := fun i t h => by
    obtain ⟨l', e, g, n', nw⟩ := r.vw i t h
    have hl : l' ≠ l := fun z => ne i t (.inr h) (by rw [<- z]; exact e)
    exact ⟨l', e, g.to (aF.new n o) (fun _ q => q), by rw [aE hl]; exact n', nw⟩
  ap := r.ap
  av := r.av
variable {i : Nat} {j : Nat}
theorem cb {τ : TSt} {s u : Sl} (h : di (τ.set i s) j u) : (j = i /\ u = s /\ i < τ.length) ∨ (j ≠ i /\ di τ j u) := by
 unfold di at h
 rw [List.getElem?_set] at h
 by_cases e : i = j
 ·subst e
  rw [if_pos rfl] at h
  by_cases g : i < τ.length
  ·rw [if_pos g] at h; cases h; exact .inl ⟨rfl, rfl, g⟩
  ·rw [if_neg g] at h; cases h
 ·rw [if_neg e] at h; exact .inr ⟨fun z => e z.symm, h⟩
theorem js {σ : St} {x : Option V} {v : V} (h : gp (σ.set i x) j v) : (j = i /\ x = some v) ∨ (j ≠ i /\ gp σ j v) := by
 unfold gp at h
 rw [List.getElem?_set] at h
 by_cases e : i = j
 ·subst e
  rw [if_pos rfl] at h
  by_cases g : i < σ.length
  ·rw [if_pos g] at h; cases h; exact .inl ⟨rfl, rfl⟩
  ·rw [if_neg g] at h; cases h
 ·rw [if_neg e] at h; exact .inr ⟨fun z => e z.symm, h⟩
theorem nO {σ : St} {v : V} (h : i < σ.length) : gp (σ.set i (some v)) i v := by
 unfold gp
 rw [List.getElem?_set, if_pos rfl, if_pos h]
theorem fR {σ : St} {x : Option V} {v : V} (n : j ≠ i) (h : gp σ j v) : gp (σ.set i x) j v := by
 unfold gp at h ⊢
 rw [List.getElem?_set, if_neg (fun z => n z.symm)]; exact h
variable {t : Tr}
theorem Rp.setF {v : V} (r : Rp B F H σ τ) (h : Is B.K F v t) : Rp B F H (σ.set i (some v)) (τ.set i (.fz t)) where
 up := r.up
 wa := r.wa
 wf := r.wf
 wj := r.wj
 wd := fun j e => by
  rcases cb e with ⟨_, e, _⟩ | ⟨n, e⟩
  ·cases e
  ·exact fR n (r.wd j e)
 len := by rw [List.length_set, List.length_set]; exact r.len
 fz := fun j u e => by
  rcases cb e with ⟨rfl, e, g⟩ | ⟨n, e⟩
  ·cases e; exact ⟨v, nO (by rw [r.len]; exact g), h⟩
  ·obtain ⟨w, a, b⟩ := r.fz j u e
   exact ⟨w, fR n a, b⟩
 ow := fun j u e => by
  rcases cb e with ⟨rfl, e, g⟩ | ⟨n, e⟩
  ·cases e
  ·obtain ⟨w, a, b⟩ := r.ow j u e
   exact ⟨w, fR n a, b⟩
 vw := fun j u e => by
  rcases cb e with ⟨rfl, e, g⟩ | ⟨n, e⟩
  ·cases e
  ·obtain ⟨w, a, b⟩ := r.vw j u e
   exact ⟨w, fR n a, b⟩
 ap := fun a b t u l ha hb ne hi hj => by
  rcases cb ha with ⟨_, e, _⟩ | ⟨na, ha⟩
  ·cases e
  rcases cb hb with ⟨_, e, _⟩ | ⟨nb, hb⟩
  ·cases e
  rcases js hi with ⟨e, _⟩ | ⟨_, hi⟩
  ·exact na e
  rcases js hj with ⟨e, _⟩ | ⟨_, hj⟩
  ·exact nb e
  exact r.ap a b t u l ha hb ne hi hj
 av := fun a b t u l ha hb hi hj => by
  rcases cb ha with ⟨_, e, _⟩ | ⟨na, ha⟩
  ·cases e
  rcases cb hb with ⟨_, e, _⟩ | ⟨nb, hb⟩
  ·cases e
  rcases js hi with ⟨e, _⟩ | ⟨_, hi⟩
  ·exact na e
  rcases js hj with ⟨e, _⟩ | ⟨_, hj⟩
  ·exact nb e
  exact r.av a b t u l ha hb hi hj
theorem Rp.setN {v : V} (r : Rp B F H σ τ) (h : qc B F H σ τ v (.nw t)) : Rp B F H (σ.set i (some v)) (τ.set i (.own t)) := by
 obtain ⟨l0, rfl, hw, n, n0, dis⟩ := h
 exact {
 up := r.up
 wa := r.wa
 wf := r.wf
 wj := r.wj
 wd := fun j e => by
  rcases cb e with ⟨_, e, _⟩ | ⟨n, e⟩
  ·cases e
  ·exact fR n (r.wd j e)
 len := by rw [List.length_set, List.length_set]; exact r.len
 fz := fun j u e => by
  rcases cb e with ⟨rfl, e, g⟩ | ⟨n, e⟩
  ·cases e
  ·obtain ⟨w, a, b⟩ := r.fz j u e
   exact ⟨w, fR n a, b⟩
 ow := fun j u e => by
  rcases cb e with ⟨rfl, e, g⟩ | ⟨n, e⟩
  ·cases e; exact ⟨l0, nO (by rw [r.len]; exact g), hw, n, n0⟩
  ·obtain ⟨w, a, b⟩ := r.ow j u e
   exact ⟨w, fR n a, b⟩
 vw := fun j u e => by
  rcases cb e with ⟨rfl, e, g⟩ | ⟨n, e⟩
  ·cases e
  ·obtain ⟨w, a, b⟩ := r.vw j u e
   exact ⟨w, fR n a, b⟩
 ap := fun a b t u l ha hb ne hi hj => by
  rcases cb ha with ⟨ea, _, _⟩ | ⟨na, ha⟩
  ·rcases cb hb with ⟨eb, _, _⟩ | ⟨nb, hb⟩
   ·exact ne (ea.trans eb.symm)
   ·rcases js hi with ⟨_, e⟩ | ⟨na, _⟩
    ·cases e
     rcases js hj with ⟨e, _⟩ | ⟨_, hj⟩
     ·exact nb e
     ·exact dis b u (.inl hb) hj
    ·exact na ea
  ·rcases js hi with ⟨e, _⟩ | ⟨_, hi⟩
   ·exact na e
   rcases cb hb with ⟨eb, _, _⟩ | ⟨nb, hb⟩
   ·rcases js hj with ⟨_, e⟩ | ⟨nb, _⟩
    ·cases e; exact dis a t (.inl ha) hi
    ·exact nb eb
   ·rcases js hj with ⟨e, _⟩ | ⟨_, hj⟩
    ·exact nb e
    ·exact r.ap a b t u l ha hb ne hi hj
 av := fun a b t u l ha hb hi hj => by
  rcases cb hb with ⟨_, e, _⟩ | ⟨nb, hb⟩
  ·cases e
  rcases js hj with ⟨e, _⟩ | ⟨_, hj⟩
  ·exact nb e
  rcases cb ha with ⟨ea, _, _⟩ | ⟨na, ha⟩
  ·rcases js hi with ⟨_, e⟩ | ⟨na, _⟩
   ·cases e; exact dis b u (.inr hb) hj
   ·exact na ea
  ·rcases js hi with ⟨e, _⟩ | ⟨_, hi⟩
   ·exact na e
   ·exact r.av a b t u l ha hb hi hj }
theorem Rp.forget (r : Rp B F H σ τ) : Rp B F H σ (τ.set i .no) where
 up := r.up
 wa := r.wa
 wf := r.wf
 wj := r.wj
 wd := fun j e => by
  rcases cb e with ⟨_, e, _⟩ | ⟨n, e⟩
  ·cases e
  ·exact r.wd j e
 len := by rw [List.length_set]; exact r.len
 fz := fun j u e => by
  rcases cb e with ⟨_, e, _⟩ | ⟨_, e⟩
  ·cases e
  ·exact r.fz j u e
 ow := fun j u e => by
  rcases cb e with ⟨_, e, _⟩ | ⟨_, e⟩
  ·cases e
  ·exact r.ow j u e
 vw := fun j u e => by
  rcases cb e with ⟨_, e, _⟩ | ⟨_, e⟩
  ·cases e
  ·exact r.vw j u e
 ap := fun a b t u l ha hb => by
  rcases cb ha with ⟨_, e, _⟩ | ⟨_, ha⟩
  ·cases e
  rcases cb hb with ⟨_, e, _⟩ | ⟨_, hb⟩
  ·cases e
  exact r.ap a b t u l ha hb
 av := fun a b t u l ha hb => by
  rcases cb ha with ⟨_, e, _⟩ | ⟨_, ha⟩
  ·cases e
  rcases cb hb with ⟨_, e, _⟩ | ⟨_, hb⟩
  ·cases e
  exact r.av a b t u l ha hb
theorem aO {σ : St} {v w : V} (h : gp σ i v) (g : gp σ i w) : v = w := by
 unfold gp at h g
 rw [h] at g; exact Option.some.inj (Option.some.inj g)
theorem tO {σ : St} {v : V} (h : gp σ i v) : σ.set i (some v) = σ := by
 apply List.ext_getElem?
 intro j
 rw [List.getElem?_set]
 by_cases e : i = j
 ·subst e
  rw [if_pos rfl, if_pos (List.getElem?_eq_some_iff.mp h).1]; exact h.symm
 ·rw [if_neg e]
theorem Rp.fixS (r : Rp B F H σ τ) (h : di τ i (.own t)) : ∃ F2 l, gp σ i (.ref l) /\ aF F F2 /\ Rp B F2 H σ (τ.set i (.fz t)) /\ Is B.K F2 (.ref l) t /\ ∀ p, p ≠ l -> F2 p = F p := by
 obtain ⟨l, e, g, n, n0⟩ := r.ow i t h
 obtain ⟨o, ho, mb⟩ := g.mb
 have r1 : Rp B F H σ (τ.set i .no) := r.forget
 have r2 := r1.fixA ho n n0 (fun j u hj hs => by
  rcases hj with hj | hj
  ·rcases cb hj with ⟨_, z, _⟩ | ⟨nj, hj⟩
   ·cases z
   ·exact r.ap i j t u l h hj (fun z => nj z.symm) e hs
  ·rcases cb hj with ⟨_, z, _⟩ | ⟨nj, hj⟩
   ·cases z
   ·exact r.av i j t u l h hj e hs)
 have hi : Is B.K (upd F l o) (.ref l) t := g.is (aF.new n o) (by rw [aL, ho])
 have r3 := r2.setF (i := i) hi
 rw [tO e, List.set_set] at r3
 exact ⟨_, l, e, aF.new n o, r3, hi, fun p hp => aE hp⟩
theorem ge {v : V} {k : Kd} {S : Tr -> TSt -> Prop} (f : Fr B σ τ F H τ1 F1 H1) (r : Rp B F1 H1 σ τ1) (ok : qc B F1 H1 σ τ1 v k) (nk : wg H v k) (h : rS k τ1 S) : ∃ F2 t τ2, Fr B σ τ F H τ2 F2 H1 /\ Rp B F2 H1 σ τ2 /\ Is B.K F2 v t /\ S t τ2 /\ aF F1 F2 := by
 cases k with
 | fz t => exact ⟨F1, t, τ1, f, r, ok, h, aF.refl _⟩
 | nw t =>
  obtain ⟨l, rfl, g, n, n0, ne⟩ := ok
  obtain ⟨o, ho, mb⟩ := g.mb
  refine ⟨upd F1 l o, t, τ1, ⟨f.f.trans (aF.new n o), fun p q hp nw no => ?_, f.o, f.h⟩, r.fixA ho n n0 ne, g.is (aF.new n o) (by rw [aL, ho]), h, aF.new n o⟩
  obtain ⟨h1, h2⟩ := f.k p q hp nw no
  refine ⟨h1, fun mb z => ?_⟩
  have : p ≠ l := fun e => by rw [e, nk l rfl] at hp; cases hp
  rw [aE this]; exact h2 mb z
 | sl i =>
  rcases h with ⟨t, ht, hs⟩ | ⟨t, ht, hs⟩
  ·obtain ⟨F2, l, e, sF, r2, hi, ne⟩ := r.fixS ht
   cases aO e ok
   refine ⟨F2, t, _, ⟨f.f.trans sF, fun p q hp nw no => ?_, fun j u hj => ?_, f.h⟩, r2, hi, hs, sF⟩
   ·obtain ⟨h1, h2⟩ := f.k p q hp nw no
    refine ⟨h1, fun mb z => ?_⟩
    obtain ⟨u, hu⟩ := f.o i t ht
    have : p ≠ l := fun e' => no i u hu (by rw [e']; exact e)
    rw [ne p this]; exact h2 mb z
   ·rcases cb hj with ⟨_, z, _⟩ | ⟨_, hj⟩
    ·cases z
    ·exact f.o j u hj
  ·obtain ⟨w, e, hi⟩ := r.fz i t ht
   cases aO e ok
   exact ⟨F1, t, τ1, f, r, hi, hs, aF.refl _⟩
 | wd => exact h.elim
theorem dO {v : V} {k : Kd} {S : TK} (f : Fr B σ τ F H τ1 F1 H1) (r : Rp B F1 H1 σ τ1) (ok : qc B F1 H1 σ τ1 v k) (nk : wg H v k) (h : qI k τ1 S) : ∃ F2 k', Fr B σ τ F H τ1 F2 H1 /\ Rp B F2 H1 σ τ1 /\ fF B.K F2 σ v k' /\ S k' τ1 /\ aF F1 F2 := by
 cases k with
 | fz t => exact ⟨F1, .fz t, f, r, ok, h, aF.refl _⟩
 | nw t =>
  obtain ⟨F2, t2, τ2, f2, r2, i2, ⟨s2, rfl, rfl⟩, sF⟩ := ge (S := fun t' τ' => S (.fz t') τ' /\ t' = t /\ τ' = τ1) f r ok nk ⟨h, rfl, rfl⟩
  exact ⟨F2, _, f2, r2, (show fF B.K F2 σ v (.fz _) from i2), s2, sF⟩
 | sl i => exact ⟨F1, .sl i, f, r, ok, h, aF.refl _⟩
 | wd => exact h.elim
end
end L2
namespace L2
open PySem PySem.Spec PyProof.Rows
inductive Gt {α : Type} : List α -> Nat -> α -> Prop
 | here {v : α} {r : List α} : Gt (v :: r) 0 v
 | next {x v : α} {r : List α} {i : Nat} : Gt r i v -> Gt (x :: r) (i + 1) v
theorem Gt.eq {α : Type} {σ : List α} {i : Nat} {v : α} (h : Gt σ i v) : σ[i]? = some v := by
 induction h with
 | here => rfl
 | next _ ih => rw [List.getElem?_cons_succ, ih]
inductive pI {α : Type} : List α -> Nat -> α -> List α -> Prop
 | here {x v : α} {r : List α} : pI (x :: r) 0 v (v :: r)
 | next {x v : α} {r r' : List α} {i : Nat} : pI r i v r' -> pI (x :: r) (i + 1) v (x :: r')
theorem pI.eq {α : Type} {σ σ' : List α} {i : Nat} {v : α} (h : pI σ i v σ') : σ.set i v = σ' := by
 induction h with
 | here => rfl
 | next _ ih => rw [List.set_cons_succ, ih]
inductive Rk (τ : TSt) : Kd -> Tr -> Prop
 | fz {t : Tr} : Rk τ (.fz t) t
 | own {i : Nat} {t : Tr} : Gt τ i (.own t) -> Rk τ (.sl i) t
 | vw {i : Nat} {t : Tr} : Gt τ i (.vw t) -> Rk τ (.sl i) t
 | sfz {i : Nat} {t : Tr} : Gt τ i (.fz t) -> Rk τ (.sl i) t
section
variable {B : Bk} {F H : Hp} {σ : St} {τ : TSt}
variable {k : Kd}
theorem Rk.list {v : V} {ts : List Tr} (h : Rk τ k (.lst ts)) (r : Rp B F H σ τ) (ok : fF B.K F σ v k) : ∃ p vs, v = .ref p /\ cg B.K H p vs /\ IsL B.K F vs ts := by
 cases h with
 | fz =>
  cases ok with
  | lst a b => exact ⟨_, _, rfl, r.inc.seq a, b⟩
 | own g =>
  obtain ⟨l, e, hw, _⟩ := r.ow _ _ g.eq
  cases aO e ok
  cases hw with
  | lst a b => exact ⟨_, _, rfl, cg.of a, b⟩
 | vw g =>
  obtain ⟨l, e, hw, _⟩ := r.vw _ _ g.eq
  cases aO e ok
  cases hw with
  | lst a b => exact ⟨_, _, rfl, cg.of a, b⟩
 | sfz g =>
  obtain ⟨w, e, hi⟩ := r.fz _ _ g.eq
  cases aO e ok
  cases hi with
  | lst a b => exact ⟨_, _, rfl, r.inc.seq a, b⟩
theorem Rk.tuple {v : V} {ts : List Tr} (h : Rk τ k (.tup ts)) (r : Rp B F H σ τ) (ok : fF B.K F σ v k) : ∃ p vs, v = .ref p /\ ci B.K H p vs /\ IsL B.K F vs ts := by
 cases h with
 | fz =>
  cases ok with
  | tup a b => exact ⟨_, _, rfl, r.inc.tup a, b⟩
 | own g =>
  obtain ⟨l, e, hw, _⟩ := r.ow _ _ g.eq
  cases hw
 | vw g =>
  obtain ⟨l, e, hw, _⟩ := r.vw _ _ g.eq
  cases hw
 | sfz g =>
  obtain ⟨w, e, hi⟩ := r.fz _ _ g.eq
  cases aO e ok
  cases hi with
  | tup a b => exact ⟨_, _, rfl, r.inc.tup a, b⟩
theorem Rk.dict {v : V} {ts : List (Key × Tr)} (h : Rk τ k (.dct ts)) (r : Rp B F H σ τ) (ok : fF B.K F σ v k) : ∃ p kvs, v = .ref p /\ H p = some (.dK kvs) /\ kvs.map (·.1) = ts.map (·.1) /\ IsL B.K F (kvs.map (·.2)) (ts.map (·.2)) := by
 cases h with
 | fz =>
  cases ok with
  | dct a b c => exact ⟨_, _, rfl, r.inc _ _ a, b, c⟩
 | own g =>
  obtain ⟨l, e, hw, _⟩ := r.ow _ _ g.eq
  cases aO e ok
  cases hw with
  | dct a b c => exact ⟨_, _, rfl, a, b, c⟩
 | vw g =>
  obtain ⟨l, e, hw, _⟩ := r.vw _ _ g.eq
  cases aO e ok
  cases hw with
  | dct a b c => exact ⟨_, _, rfl, a, b, c⟩
 | sfz g =>
  obtain ⟨w, e, hi⟩ := r.fz _ _ g.eq
  cases aO e ok
  cases hi with
  | dct a b c => exact ⟨_, _, rfl, r.inc _ _ a, b, c⟩
end
section
variable {B : Bk} {τ τ' : TSt} {Φ : TK} {te ta tb tc : TE} {k : Nat} {t : Tr} {i j : Int} {x y : Kd} {b : Bool} {c d : TT} {Ψ : Bool -> TSt -> Prop}
variable {S : TK}
theorem DR (h : S (.fz t) τ) : qI (.fz t) τ S := h
theorem ED (h : S (.fz t) τ) : qI (.nw t) τ S := h
theorem DX (h : S (.sl k) τ) : qI (.sl k) τ S := h
theorem BM {S : Tr -> TSt -> Prop} (h : S t τ) : rS (.fz t) τ S := h
theorem Cs {S : Tr -> TSt -> Prop} (h : S t τ) : rS (.nw t) τ S := h
theorem tQ {S : Tr -> TSt -> Prop} (g : Gt τ k (.own t)) (s : pI τ k (.fz t) τ') (h : S t τ') : rS (.sl k) τ S := .inl ⟨t, g.eq, by rw [s.eq]; exact h⟩
variable {F : Hp} {H : Hp} {σ : St} {Q : VK}
theorem CT.pl {v : V} (c : CT B σ τ F H Φ Q) (r : Rp B F H σ τ) (h : Is B.K F v t) (φ : Φ (.fz t) τ) : Q v H := c v F H (.fz t) τ Fr.refl r h trivial φ
theorem AR (g : Gt τ k (.fz t)) (q : Φ (.fz t) τ) : EV B (qd k) τ Φ := fun σ F H Q r c => by
 obtain ⟨v, e, h⟩ := r.fz _ _ g.eq
 exact ⟨v, e, c.pl r h q⟩
theorem zF (g : Gt τ k (.own t)) (q : Φ (.sl k) τ) : EV B (qd k) τ Φ := fun σ F H Q r c => by
 obtain ⟨l, e, h⟩ := r.ow _ _ g.eq
 exact ⟨_, e, c _ F H (.sl k) τ Fr.refl r e trivial q⟩
theorem yQ (g : Gt τ k (.vw t)) (q : Φ (.sl k) τ) : EV B (qd k) τ Φ := fun σ F H Q r c => by
 obtain ⟨l, e, h⟩ := r.vw _ _ g.eq
 exact ⟨_, e, c _ F H (.sl k) τ Fr.refl r e trivial q⟩
theorem EI (q : Φ (.fz (.int i)) τ) : EV B (tC (.int i)) τ Φ := fun _ _ _ _ r c => c.pl r .int q
theorem Em (q : Φ (.fz (.bl b)) τ) : EV B (tC (.bl b)) τ Φ := fun _ _ _ _ r c => c.pl r .bl q
theorem DZ (q : Φ (.fz .non) τ) : EV B (tC .non) τ Φ := fun _ _ _ _ r c => c.pl r .non q
variable {z : Str}
theorem EA (q : Φ (.fz (.str z)) τ) : EV B (tC (.str z)) τ Φ := fun _ _ _ _ r c => c.pl r .str q
theorem Et {z : String} (q : Φ (.fz (.ty z)) τ) : EV B (tC (.ty z)) τ Φ := fun _ _ _ _ r c => c.pl r .ty q
variable {p : Addr}
theorem oZ (h : ∀ F, Is B.K F (.ref p) t) (q : Φ (.fz t) τ) : EV B (tC (.ref p)) τ Φ := fun _ F _ _ r c => c.pl r (h F) q
noncomputable def RO (B : Bk) (r : R2) (x y : Kd) (τ : TSt) (Φ : TK) : Prop := ∀ σ F H v w Q, Rp B F H σ τ -> fF B.K F σ v x -> fF B.K F σ w y -> CT B σ τ F H Φ Q -> r v w H Q
theorem zw {r : R2} (h : EV B ta τ fun x τ1 => qI x τ1 fun x τ1 => EV B tb τ1 fun y τ2 => qI y τ2 fun y τ2 => RO B r x y τ2 Φ) : EV B (AI r ta tb) τ Φ := fun σ F H Q rp c => by
 refine h σ F H _ rp fun v F1 H1 k τ1 f1 r1 ok1 n1 h1 => ?_
 obtain ⟨F2, k', f2, r2, ok2, h2, _⟩ := dO f1 r1 ok1 n1 h1
 refine h2 σ F2 H1 _ r2 fun w F3 H3 k3 τ3 f3 r3 ok3 n3 h3 => ?_
 obtain ⟨F4, k4, f4, r4, ok4, h4, _⟩ := dO f3 r3 ok3 n3 h3
 exact h4 σ F4 H3 v w Q r4 (ok2.same f4.f) ok4 (c.on (f2.trans f4))
noncomputable def RU (B : Bk) (r : V -> Hp -> VK -> Prop) (x : Kd) (τ : TSt) (Φ : TK) : Prop := ∀ σ F H v Q, Rp B F H σ τ -> fF B.K F σ v x -> CT B σ τ F H Φ Q -> r v H Q
theorem Ec {r : V -> Hp -> VK -> Prop} (h : EV B ta τ fun x τ1 => qI x τ1 fun x τ1 => RU B r x τ1 Φ) : EV B (tUn r ta) τ Φ := fun σ F H Q rp c => by
 refine h σ F H _ rp fun v F1 H1 k τ1 f1 r1 ok1 n1 h1 => ?_
 obtain ⟨F2, k', f2, r2, ok2, h2, _⟩ := dO f1 r1 ok1 n1 h1
 exact h2 σ F2 H1 v Q r2 ok2 (c.on f2)
variable {K : Fg}
theorem bT {v : V} (h : fF K F σ v (.fz (.int i))) : v = .int i := by cases h; rfl
theorem Bl {v : V} (h : fF K F σ v (.fz (.bl b))) : v = .bl b := by cases h; rfl
theorem dn {v : V} (h : fF K F σ v (.fz (.str z))) : v = .str z := by cases h; rfl
theorem uv {v : V} (h : fF K F σ v (.fz .non)) : v = .non := by cases h; rfl
theorem EF {C : Int -> Int -> Prop} {g : Int -> Int -> Int} (hc : C i j) (q : Φ (.fz (.int (g i j))) τ) : RO B (rI C fun i j => .int (g i j)) (.fz (.int i)) (.fz (.int j)) τ Φ := fun _ _ _ _ _ _ r a b c => by
 cases bT a; cases bT b
 exact ⟨i, j, rfl, rfl, hc, c.pl r .int q⟩
theorem CU {g : Int -> Int -> Int} (q : Φ (.fz (.int (g i j))) τ) : RO B (va fun i j => .int (g i j)) (.fz (.int i)) (.fz (.int j)) τ Φ := fun _ _ _ _ _ _ r a b c => by
 cases bT a; cases bT b
 exact ⟨i, j, rfl, rfl, c.pl r .int q⟩
theorem yZ {g : Int -> Int -> Bool} (q : Φ (.fz (.bl (g i j))) τ) : RO B (va fun i j => .bl (g i j)) (.fz (.int i)) (.fz (.int j)) τ Φ := fun _ _ _ _ _ _ r a b c => by
 cases bT a; cases bT b
 exact ⟨i, j, rfl, rfl, c.pl r .bl q⟩
theorem DS {g : Int -> Int} (q : Φ (.fz (.int (g i))) τ) : RU B (rU fun i => .int (g i)) (.fz (.int i)) τ Φ := fun _ _ _ _ _ r a c => by
 cases bT a
 exact ⟨i, rfl, c.pl r .int q⟩
theorem zY (q : Φ (.fz (.bl (decide (i = j)))) τ) : RO B rEq (.fz (.int i)) (.fz (.int j)) τ Φ := fun _ _ _ _ _ _ r a b c => by
 cases bT a; cases bT b
 exact xQ (c.pl r .bl q)
theorem yU (q : Φ (.fz (.bl (!decide (i = j)))) τ) : RO B rNe (.fz (.int i)) (.fz (.int j)) τ Φ := fun _ _ _ _ _ _ r a b c => by
 cases bT a; cases bT b
 exact xZ (c.pl r .bl q)
variable {u : Str}
theorem za (q : Φ (.fz (.bl (decide (z = u)))) τ) : RO B rEq (.fz (.str z)) (.fz (.str u)) τ Φ := fun _ _ _ _ _ _ r a b c => by
 cases dn a; cases dn b
 exact yh (c.pl r .bl q)
theorem An (q : Φ (.fz (.bl (!decide (z = u)))) τ) : RO B rNe (.fz (.str z)) (.fz (.str u)) τ Φ := fun _ _ _ _ _ _ r a b c => by
 cases dn a; cases dn b
 exact xW (c.pl r .bl q)
noncomputable def Tr.isN : Tr -> Bool
 | .non => true
 | _ => false
theorem jO {v : V} (h : Is K F v t) : decide (v = .non) = t.isN := by cases h <;> rfl
theorem dQ (q : Φ (.fz (.bl t.isN)) τ) : RO B rIsN (.fz t) (.fz .non) τ Φ := fun _ _ _ v _ _ r a b c => by
 cases uv b
 refine ⟨rfl, ?_⟩
 rw [jO (show Is B.K _ v t from a)]
 exact c.pl r .bl q
theorem ii (q : Φ (.fz (.bl (!t.isN))) τ) : RO B rNotN (.fz t) (.fz .non) τ Φ := fun _ _ _ v _ _ r a b c => by
 cases uv b
 refine ⟨rfl, ?_⟩
 rw [jO (show Is B.K _ v t from a)]
 exact c.pl r .bl q
variable {vs : List V} {ts : List Tr}
theorem uz (h : IsL K F vs ts) (e : eI ts i = some t) : ∃ v, eI vs i = some v /\ Is K F v t := by
 unfold eI at e ⊢
 rw [h.length]
 cases hx : vT ts.length i with
 | none => rw [hx] at e; cases e
 | some n =>
  rw [hx] at e
  exact h.get e
theorem bC (hK : K = B.K) (rk : Rk τ x (.lst ts)) (e : eI ts i = some t) (q : Φ (.fz t) τ) : RO B (pg K) x (.fz (.int i)) τ Φ := fun _ _ _ _ _ _ r a b c => by
 subst hK
 cases bT b
 obtain ⟨p, vs, rfl, s, l⟩ := rk.list r a
 obtain ⟨w, ew, hw⟩ := uz l e
 exact ⟨p, vs, i, w, rfl, rfl, s, ew, c.pl r hw q⟩
theorem dF (hK : K = B.K) (rk : Rk τ x (.tup ts)) (e : eI ts i = some t) (q : Φ (.fz t) τ) : RO B (iV K) x (.fz (.int i)) τ Φ := fun _ _ _ _ _ _ r a b c => by
 subst hK
 cases bT b
 obtain ⟨p, vs, rfl, s, l⟩ := rk.tuple r a
 obtain ⟨w, ew, hw⟩ := uz l e
 exact ⟨p, vs, i, w, rfl, rfl, s, ew, c.pl r hw q⟩
theorem wW (hl : z.length + u.length <= sizeLine) (q : Φ (.fz (.str (z ++ u))) τ) : RO B rAddS (.fz (.str z)) (.fz (.str u)) τ Φ := fun _ _ _ _ _ _ r a b c => by
 cases dn a
 cases dn b
 exact ⟨z, u, rfl, rfl, hl, c.pl r .str q⟩
theorem tT (h : EV B te τ fun x τ1 => ∃ b, x = .fz (.bl b) /\ Ψ b τ1) : TV B (rg te) τ Ψ := fun σ F H Q r c => by
 refine h σ F H _ r fun v F1 H1 k τ1 f1 r1 ok1 _ ⟨b, e, h1⟩ => ?_
 subst e
 cases ok1
 exact ⟨b, rfl, c b F1 H1 τ1 f1 r1 h1⟩
theorem t_B (h : EV B te τ fun x τ1 => ∃ b, x = .fz (.bl b) /\ Ψ b τ1) : TV B (tB te) τ Ψ := tT h
theorem Co {S : Bool -> Prop} (q : S b) : ∃ b', Kd.fz (.bl b) = .fz (.bl b') /\ S b' := ⟨b, rfl, q⟩
theorem TV.on {F1 H1 : Hp} {τ1 : TSt} {Q : Bool -> Hp -> Prop} (c : ∀ b F' H' τ', Fr B σ τ F H τ' F' H' -> Rp B F' H' σ τ' -> Ψ b τ' -> Q b H') (f : Fr B σ τ F H τ1 F1 H1) : ∀ b F' H' τ', Fr B σ τ1 F1 H1 τ' F' H' -> Rp B F' H' σ τ' -> Ψ b τ' -> Q b H' :=
 fun b F' H' τ' f' r h => c b F' H' τ' (f.trans f') r h
theorem Bv (h : TV B c τ fun k τ1 => if k = true then TV B d τ1 Ψ else Ψ false τ1) : TV B (Al c d) τ Ψ := fun σ F H Q r k => by
 refine h σ F H _ r fun b F1 H1 τ1 f1 r1 h1 => ?_
 cases b with
 | true => rw [if_pos rfl] at h1 ⊢; exact h1 σ F1 H1 Q r1 (TV.on k f1)
 | false => rw [if_neg Bool.false_ne_true] at h1 ⊢; exact k _ F1 H1 τ1 f1 r1 h1
theorem Ey (h : TV B c τ fun k τ1 => if k = true then Ψ true τ1 else TV B d τ1 Ψ) : TV B (EC c d) τ Ψ := fun σ F H Q r k => by
 refine h σ F H _ r fun b F1 H1 τ1 f1 r1 h1 => ?_
 cases b with
 | true => rw [if_pos rfl] at h1 ⊢; exact k _ F1 H1 τ1 f1 r1 h1
 | false => rw [if_neg Bool.false_ne_true] at h1 ⊢; exact h1 σ F1 H1 Q r1 (TV.on k f1)
theorem BI (h : TV B c τ fun k τ1 => Ψ (!k) τ1) : TV B (zZ c) τ Ψ := fun σ F H Q r k => h σ F H _ r fun b F1 H1 τ1 f1 r1 h1 => k _ F1 H1 τ1 f1 r1 h1
theorem yN (h : EV B ta τ fun x τ1 => ∃ b, x = .fz (.bl b) /\ if b = true then EV B tb τ1 Φ else Φ (.fz (.bl false)) τ1) : EV B (yc ta tb) τ Φ := fun σ F H Q r c => by
 refine h σ F H _ r fun v F1 H1 k τ1 f1 r1 ok1 _ ⟨b, e, h1⟩ => ?_
 subst e
 cases ok1
 refine ⟨b, rfl, ?_⟩
 cases b with
 | true => rw [if_pos rfl] at h1 ⊢; exact h1 σ F1 H1 Q r1 (c.on f1)
 | false => rw [if_neg Bool.false_ne_true] at h1 ⊢; exact (c.on f1).pl r1 .bl h1
theorem CH (h : EV B ta τ fun x τ1 => ∃ b, x = .fz (.bl b) /\ if b = true then Φ (.fz (.bl true)) τ1 else EV B tb τ1 Φ) : EV B (Ce ta tb) τ Φ := fun σ F H Q r c => by
 refine h σ F H _ r fun v F1 H1 k τ1 f1 r1 ok1 _ ⟨b, e, h1⟩ => ?_
 subst e
 cases ok1
 refine ⟨b, rfl, ?_⟩
 cases b with
 | true => rw [if_pos rfl] at h1 ⊢; exact (c.on f1).pl r1 .bl h1
 | false => rw [if_neg Bool.false_ne_true] at h1 ⊢; exact h1 σ F1 H1 Q r1 (c.on f1)
theorem Ae (h : EV B ta τ fun x τ1 => ∃ b, x = .fz (.bl b) /\ Φ (.fz (.bl (!b))) τ1) : EV B (yj ta) τ Φ := fun σ F H Q r c => by
 refine h σ F H _ r fun v F1 H1 k τ1 f1 r1 ok1 _ ⟨b, e, h1⟩ => ?_
 subst e
 cases ok1
 exact ⟨b, rfl, (c.on f1).pl r1 .bl h1⟩
theorem Ez (h : TV B c τ fun k τ1 => if k = true then EV B ta τ1 Φ else EV B tb τ1 Φ) : EV B (tIf c ta tb) τ Φ := fun σ F H Q r k => by
 refine h σ F H _ r fun b F1 H1 τ1 f1 r1 h1 => ?_
 cases b with
 | true => rw [if_pos rfl] at h1 ⊢; exact h1 σ F1 H1 Q r1 (k.on f1)
 | false => rw [if_neg Bool.false_ne_true] at h1 ⊢; exact h1 σ F1 H1 Q r1 (k.on f1)
theorem wV {r r' : R2} (h : EV B ta τ fun x τ1 => qI x τ1 fun x τ1 => EV B tb τ1 fun y τ2 => qI y τ2 fun y τ2 => RO B r x y τ2 fun z τ3 => ∃ b, z = .fz (.bl b) /\ if b = true then EV B tc τ3 fun w τ4 => qI w τ4 fun w τ4 => RO B r' y w τ4 Φ else Φ (.fz (.bl false)) τ3) : EV B (pH r r' ta tb tc) τ Φ := fun σ F H Q rp c => by
 refine h σ F H _ rp fun v F1 H1 k τ1 f1 r1 ok1 n1 h1 => ?_
 obtain ⟨F2, k', f2, r2, ok2, h2, _⟩ := dO f1 r1 ok1 n1 h1
 refine h2 σ F2 H1 _ r2 fun w F3 H3 k3 τ3 f3 r3 ok3 n3 h3 => ?_
 obtain ⟨F4, k4, f4, r4, ok4, h4, _⟩ := dO f3 r3 ok3 n3 h3
 refine h4 σ F4 H3 v w _ r4 (ok2.same f4.f) ok4 fun u F5 H5 k5 τ5 f5 r5 ok5 n5 ⟨b, e, h5⟩ => ?_
 subst e
 cases ok5
 refine ⟨b, rfl, ?_⟩
 have f05 := f2.trans (f4.trans f5)
 cases b with
 | true =>
  rw [if_pos rfl] at h5 ⊢
  refine h5 σ F5 H5 _ r5 fun w6 F6 H6 k6 τ6 f6 r6 ok6 n6 h6 => ?_
  obtain ⟨F7, k7, f7, r7, ok7, h7, _⟩ := dO f6 r6 ok6 n6 h6
  exact h7 σ F7 H6 w w6 Q r7 ((ok4.same f5.f).same f7.f) ok7 (c.on (f05.trans f7))
 | false => rw [if_neg Bool.false_ne_true] at h5 ⊢; exact (c.on f05).pl r5 .bl h5
theorem BZ {S : List Tr -> TSt -> Prop} (q : S [] τ) : AK B tNil τ S := fun σ F H Q r c => c [] F H [] τ Fr.refl r .nil q
theorem yP {tr : TA} {S : List Tr -> TSt -> Prop} (h : EV B te τ fun x τ1 => rS x τ1 fun t τ2 => AK B tr τ2 fun ts τ3 => S (t :: ts) τ3) : AK B (cH te tr) τ S := fun σ F H Q r c => by
 refine h σ F H _ r fun v F1 H1 k τ1 f1 r1 ok1 n1 h1 => ?_
 obtain ⟨F2, t, τ2, f2, r2, i2, h2, _⟩ := ge f1 r1 ok1 n1 h1
 exact h2 σ F2 H1 _ r2 fun vs F3 H3 ts τ3 f3 r3 l3 h3 => c _ F3 H3 _ τ3 (f2.trans f3) r3 (.cons (i2.same f3.f) l3) h3
theorem Bc {tA : TA} (h : AK B tA τ fun ts τ1 => ts.length <= 1000 /\ Φ (.fz (.tup ts)) τ1) : EV B (zr tA) τ Φ := fun σ F H Q r c => by
 refine h σ F H _ r fun vs F1 H1 ts τ1 f1 r1 l1 ⟨hl, h1⟩ => ⟨by rw [l1.length]; exact Nat.le_trans hl (by decide), fun p hp => ?_⟩
 have u := r1.tup (vs := vs) hp
 exact c _ _ _ (.fz (.tup ts)) τ1 (f1.trans (Fr.up u)) (r1.go u) (Is.tup (ci.of aL) (l1.same u.f)) trivial h1
theorem zR (r : Rp B F H σ τ) (l : IsL B.K F vs ts) (hp : H p = none) : qc B F (upd H p (.lst vs)) σ τ (.ref p) (.nw (.lst ts)) := by
 refine ⟨p, rfl, .lst aL l, r.inc.free hp, r.up.w p hp, fun i u h e => ?_⟩
 rcases h with h | h
 ·obtain ⟨l', e', g, _⟩ := r.ow i u h
  obtain ⟨o, ho, _⟩ := g.mb
  have := aO e' e
  cases this
  rw [hp] at ho; cases ho
 ·obtain ⟨l', e', g, _⟩ := r.vw i u h
  obtain ⟨o, ho, _⟩ := g.mb
  have := aO e' e
  cases this
  rw [hp] at ho; cases ho
theorem CT.nl (c : CT B σ τ F H Φ Q) (r : Rp B F H σ τ) (l : IsL B.K F vs ts) (hp : H p = none) (φ : Φ (.nw (.lst ts)) τ) : Q (.ref p) (upd H p (.lst vs)) :=
 c _ F _ (.nw (.lst ts)) τ (Fr.up (r.new hp)) (r.go (r.new hp)) (zR r l hp) (fun l e => by cases e; exact hp) φ
theorem CT.nt (c : CT B σ τ F H Φ Q) (r : Rp B F H σ τ) (l : IsL B.K F vs ts) (hp : H p = none) (φ : Φ (.fz (.tup ts)) τ) : Q (.ref p) (upd H p (.tup vs)) := by
 have u := r.tup (vs := vs) hp
 exact c _ _ _ (.fz (.tup ts)) τ (Fr.up u) (r.go u) (Is.tup (ci.of aL) (l.same u.f)) trivial φ
theorem Br {tA : TA} (h : AK B tA τ fun ts τ1 => ts.length <= 1000 /\ Φ (.nw (.lst ts)) τ1) : EV B (zd tA) τ Φ := fun σ F H Q r c => by
 refine h σ F H _ r fun vs F1 H1 ts τ1 f1 r1 l1 ⟨hl, h1⟩ => ⟨by rw [l1.length]; exact Nat.le_trans hl (by decide), fun p hp => ?_⟩
 exact (c.on f1).nl r1 l1 hp h1
theorem Ba {r : List V -> Hp -> VK -> Prop} (h : EV B te τ fun x τ1 => qI x τ1 fun x τ1 => RU B (fun v H Q => r [v] H Q) x τ1 Φ) : EV B (wc r (cH te tNil)) τ Φ := fun σ F H Q rp c => by
 refine h σ F H _ rp fun v F1 H1 k τ1 f1 r1 ok1 n1 h1 => ?_
 obtain ⟨F2, k', f2, r2, ok2, h2, _⟩ := dO f1 r1 ok1 n1 h1
 exact h2 σ F2 H1 v Q r2 ok2 (c.on f2)
theorem BY {r : List V -> Hp -> VK -> Prop} (h : EV B ta τ fun x τ1 => qI x τ1 fun x τ1 => EV B tb τ1 fun y τ2 => qI y τ2 fun y τ2 => RO B (fun v w H Q => r [v, w] H Q) x y τ2 Φ) : EV B (wc r (cH ta (cH tb tNil))) τ Φ := fun σ F H Q rp c => by
 refine h σ F H _ rp fun v F1 H1 k τ1 f1 r1 ok1 n1 h1 => ?_
 obtain ⟨F2, k', f2, r2, ok2, h2, _⟩ := dO f1 r1 ok1 n1 h1
 refine h2 σ F2 H1 _ r2 fun w F3 H3 k3 τ3 f3 r3 ok3 n3 h3 => ?_
 obtain ⟨F4, k4, f4, r4, ok4, h4, _⟩ := dO f3 r3 ok3 n3 h3
 exact h4 σ F4 H3 v w Q r4 (ok2.same f4.f) ok4 (c.on (f2.trans f4))
noncomputable def OV (B : Bk) (to : TO) (τ : TSt) (Φ : Option Int -> TSt -> Prop) : Prop := ∀ σ F H (Q : Option Int -> Hp -> Prop), Rp B F H σ τ -> (∀ b F' H' τ', Fr B σ τ F H τ' F' H' -> Rp B F' H' σ τ' -> Φ b τ' -> Q b H') -> to σ H Q
theorem Es {S : Option Int -> TSt -> Prop} (q : S none τ) : OV B tNoPart τ S := fun _ F H _ r c => c none F H τ Fr.refl r q
theorem zS {S : Option Int -> TSt -> Prop} (h : EV B te τ fun x τ1 => ∃ i, x = .fz (.int i) /\ S (some i) τ1) : OV B (tV te) τ S := fun σ F H Q r c => by
 refine h σ F H _ r fun v F1 H1 k τ1 f1 r1 ok1 _ ⟨b, e, h1⟩ => ?_
 subst e
 cases ok1
 exact ⟨b, rfl, c _ F1 H1 τ1 f1 r1 h1⟩
theorem Au {S : Int -> Prop} (q : S i) : ∃ b', Kd.fz (.int i) = .fz (.int b') /\ S b' := ⟨i, rfl, q⟩
noncomputable def Dy (B : Bk) (r : V -> Option Int -> Option Int -> Hp -> VK -> Prop) (x : Kd) (lo hi : Option Int) (τ : TSt) (Φ : TK) : Prop := RU B (fun v H Q => r v lo hi H Q) x τ Φ
theorem Ea {r : V -> Option Int -> Option Int -> Hp -> VK -> Prop} {tl th : TO} (h : EV B te τ fun x τ1 => qI x τ1 fun x τ1 => OV B tl τ1 fun lo τ2 => OV B th τ2 fun hi τ3 => Dy B r x lo hi τ3 Φ) : EV B (DG r te tl th) τ Φ := fun σ F H Q rp c => by
 refine h σ F H _ rp fun v F1 H1 k τ1 f1 r1 ok1 n1 h1 => ?_
 obtain ⟨F2, k', f2, r2, ok2, h2, _⟩ := dO f1 r1 ok1 n1 h1
 refine h2 σ F2 H1 _ r2 fun lo F3 H3 τ3 f3 r3 h3 => ?_
 refine h3 σ F3 H3 _ r3 fun hi F4 H4 τ4 f4 r4 h4 => ?_
 exact h4 σ F4 H4 v Q r4 ((ok2.same f3.f).same f4.f) (c.on (f2.trans (f3.trans f4)))
noncomputable def eQ (xs : List Tr) (lo hi : Option Int) : List Tr := (xs.drop (HT.sIx xs.length 0 lo)).take (HT.sIx xs.length xs.length hi - HT.sIx xs.length 0 lo)
variable {lo : Option Int} {hi : Option Int}
theorem qY (h : IsL K F vs ts) : IsL K F (oW vs lo hi) (eQ ts lo hi) := by
 unfold oW eQ
 rw [h.length]
 exact (h.drop _).take _
theorem Eh (hK : K = B.K) (rk : Rk τ x (.lst ts)) (q : Φ (.nw (.lst (eQ ts lo hi))) τ) : Dy B (At K) x lo hi τ Φ := fun _ _ _ _ _ r a c => by
 subst hK
 obtain ⟨p, vs, rfl, s, l⟩ := rk.list r a
 exact ⟨p, vs, rfl, s, fun p' hp => c.nl r (qY l) hp q⟩
theorem qh (hK : K = B.K) (rk : Rk τ x (.tup ts)) (hw : ¬ (HT.sIx ts.length 0 lo = 0 /\ HT.sIx ts.length ts.length hi = ts.length)) (q : Φ (.fz (.tup (eQ ts lo hi))) τ) : Dy B (Bf K) x lo hi τ Φ := fun _ _ H _ Q r a c => by
 subst hK
 obtain ⟨p, vs, rfl, s, l⟩ := rk.tuple r a
 rw [<- l.length] at hw
 exact ⟨p, vs, rfl, s, hw, fun p' hp => c.nt r (qY l) hp q⟩
theorem DF (hl : z.length <= sizeLine) (q : Φ (.fz (.str (Txt.slice z lo hi))) τ) : Dy B rSlS (.fz (.str z)) lo hi τ Φ := fun _ _ _ _ _ r a c => by
 cases dn a
 exact ⟨z, rfl, hl, c.pl r .str q⟩
end
end L2
namespace L2
open PySem PySem.Spec PyProof.Rows
section
variable {B : Bk} {F H : Hp} {σ : St} {τ τ' : TSt}
theorem Rp.setO {i : Nat} {t t' : Tr} {l : Addr} {o' : HO} (r : Rp B F H σ τ) (h : di τ i (.own t)) (e : gp σ i (.ref l)) (g : Ow B.K F (upd H l o') l t') : Rp B F (upd H l o') σ (τ.set i (.own t')) /\ Fr B σ τ F H (τ.set i (.own t')) F (upd H l o') := by
  obtain ⟨l', e', g0, n, n0⟩ := r.ow i t h
  cases aO e e'
  have keep : ∀ q, q ≠ l -> ∀ o, H q = some o -> (upd H l o') q = some o := fun q hq o z => by rw [aE hq]; exact z
  have kx : ∀ q φ, H q = some (.ext φ) -> (upd H l o') q = some (.ext φ) := fun q φ z => keep q (fun e => by
    obtain ⟨o, ho, mb⟩ := g0.mb
    rw [e, ho] at z; cases z; exact mb) _ z
  refine ⟨{
    wa := r.wa
    wf := r.wf
    wj := B.jl _ _ (fun q hw => by
      have : q ≠ l := fun e => r.wa q hw (by rw [e]; exact n0)
      rw [aE this]) kx r.wj
    wd := fun j z => by
      rcases cb z with ⟨_, z, _⟩ | ⟨_, z⟩
      · cases z
      · exact r.wd j z
    up := { f := r.up.f, h := fun q o nw z => by
              have : q ≠ l := fun e => by rw [e, n0] at z; cases z
              exact keep q this o (r.up.h q o nw z)
            w := fun q z => r.up.w q (iC z)
            x := r.up.x
            j := fun z => B.jl _ _ (fun q hw => by
              have : q ≠ l := fun e => r.wa q hw (by rw [e]; exact n0)
              rw [aE this]) kx r.wj
            i := fun q o z => by
              have : q ≠ l := fun e => by rw [e, n] at z; cases z
              exact keep q this o (r.up.i q o z)
            m := r.up.m }
    len := by rw [List.length_set]; exact r.len
    fz := fun j u z => by
      rcases cb z with ⟨_, z, _⟩ | ⟨_, z⟩
      · cases z
      · exact r.fz j u z
    ow := fun j u z => by
      rcases cb z with ⟨rfl, z, _⟩ | ⟨nj, z⟩
      · cases z; exact ⟨l, e, g, n, n0⟩
      · obtain ⟨l2, a, b, c⟩ := r.ow j u z
        have : l2 ≠ l := fun q => r.ap i j t u l h z (fun q => nj q.symm) e (by rw [<- q]; exact a)
        exact ⟨l2, a, b.to (aF.refl _) (keep l2 this), c⟩
    vw := fun j u z => by
      rcases cb z with ⟨_, z, _⟩ | ⟨nj, z⟩
      · cases z
      · obtain ⟨l2, a, b, c⟩ := r.vw j u z
        have : l2 ≠ l := fun q => r.av i j t u l h z e (by rw [<- q]; exact a)
        exact ⟨l2, a, b.to (aF.refl _) (keep l2 this), c⟩
    ap := fun a b u w l2 ha hb ne hi hj => by
      obtain ⟨u', ha'⟩ : ∃ u, di τ a (.own u) := by
        rcases cb ha with ⟨rfl, _, _⟩ | ⟨_, z⟩
        · exact ⟨_, h⟩
        · exact ⟨_, z⟩
      obtain ⟨w', hb'⟩ : ∃ u, di τ b (.own u) := by
        rcases cb hb with ⟨rfl, _, _⟩ | ⟨_, z⟩
        · exact ⟨_, h⟩
        · exact ⟨_, z⟩
      exact r.ap a b u' w' l2 ha' hb' ne hi hj
    av := fun a b u w l2 ha hb hi hj => by
      obtain ⟨u', ha'⟩ : ∃ u, di τ a (.own u) := by
        rcases cb ha with ⟨rfl, _, _⟩ | ⟨_, z⟩
        · exact ⟨_, h⟩
        · exact ⟨_, z⟩
      rcases cb hb with ⟨_, z, _⟩ | ⟨_, z⟩
      · cases z
      · exact r.av a b u' w l2 ha' z hi hj }, ?_⟩
  refine ⟨aF.refl _, fun p o hp _ no => ?_, fun j u z => ?_, fun p hp => ?_⟩
  · have : p ≠ l := fun q => no i t h (by rw [q]; exact e)
    exact ⟨keep p this o hp, fun _ z => z⟩
  · rcases cb z with ⟨rfl, _, _⟩ | ⟨_, z⟩
    · exact ⟨_, h⟩
    · exact ⟨_, z⟩
  · by_cases q : p = l
    · rw [q, aL] at hp; cases hp
    · rw [aE q] at hp; exact hp
end
section
variable {B : Bk} {τ τ' τ2 : TSt} {Φ : TK} {te ta tb : TE} {i k : Nat} {t u : Tr} {x : Kd} {ts us : List Tr}
noncomputable def tyT (T : String) : Tr -> Prop
 | .str _ => T = "str"
 | .lst _ => T = "list"
 | .dct _ => T = "dict"
 | _ => False
noncomputable def Dz (T : String) (x : Kd) (τ : TSt) : Prop := ∃ t, Rk τ x t /\ tyT T t
variable {F : Hp} {H : Hp} {σ : St}
theorem Dz.v {T : String} {v : V} (h : Dz T x τ) (r : Rp B F H σ τ) (ok : fF B.K F σ v x) : AS B.K T v H := by
 obtain ⟨t, rk, ht⟩ := h
 cases t with
 | lst ts =>
  obtain ⟨p, vs, rfl, s, _⟩ := rk.list r ok
  exact .inl ⟨ht, vs, s⟩
 | dct ts =>
  obtain ⟨p, vs, rfl, s, _⟩ := rk.dict r ok
  exact .inr (.inr (.inl ⟨ht, .inl ⟨vs, s⟩⟩))
 | str z =>
  have : v = .str z := by
   cases rk with
   | fz => cases ok; rfl
   | own g => obtain ⟨l, e, hw, _⟩ := r.ow _ _ g.eq; cases hw
   | vw g => obtain ⟨l, e, hw, _⟩ := r.vw _ _ g.eq; cases hw
   | sfz g =>
    obtain ⟨w, e, hi⟩ := r.fz _ _ g.eq
    cases aO e ok
    cases hi; rfl
  subst this
  exact ht
 | _ => exact ht.elim
noncomputable def RM (B : Bk) (rr : V -> List V -> Hp -> VK -> Prop) (x : Kd) (ts : List Tr) (τ : TSt) (Φ : TK) : Prop := ∀ σ F H v vs Q, Rp B F H σ τ -> fF B.K F σ v x -> IsL B.K F vs ts -> CT B σ τ F H Φ Q -> rr v vs H Q
variable {K : Fg}
theorem DT (hK : K = B.K) {T : String} {rr : V -> List V -> Hp -> VK -> Prop} {tA : TA} (h : EV B te τ fun x τ1 => qI x τ1 fun x τ1 => Dz T x τ1 /\ AK B tA τ1 fun ts τ2 => RM B rr x ts τ2 Φ) : EV B (EH K T rr te tA) τ Φ := fun σ F H Q rp c => by
 subst hK
 refine h σ F H _ rp fun v F1 H1 k τ1 f1 r1 ok1 n1 h1 => ?_
 obtain ⟨F2, k', f2, r2, ok2, ⟨ty, h2⟩, _⟩ := dO f1 r1 ok1 n1 h1
 refine ⟨ty.v r2 ok2, h2 σ F2 H1 _ r2 fun vs F3 H3 ts τ3 f3 r3 l3 h3 => ?_⟩
 exact h3 σ F3 H3 v vs Q r3 (ok2.same f3.f) l3 (c.on (f2.trans f3))
theorem xi {S : Prop} (rk : Rk τ x (.lst ts)) (q : S) : Dz "list" x τ /\ S := ⟨⟨_, rk, rfl⟩, q⟩
theorem zA {rr : V -> List V -> Hp -> VK -> Prop} {ts us : List Tr} {as : List Tr} {res : Tr} (g : Gt τ k (.own (.lst ts))) (st : pI τ k (.own (.lst us)) τ')
  (h : ∀ (K : Fg) (F H : Hp) (l : Addr) (vs ws : List V) (Q : VK), H l = some (.lst vs) -> IsL K F vs ts -> IsL K F ws as -> (∀ v vs', IsL K F vs' us -> Is K F v res -> Q v (upd H l (.lst vs'))) -> rr (.ref l) ws H Q) (q : Φ (.fz res) τ') : RM B rr (.sl k) as τ Φ := fun σ F H v ws Q r a l c => by
 obtain ⟨l0, e, hw, n, n0⟩ := r.ow _ _ g.eq
 cases aO e a
 cases hw with
 | lst h1 h2 =>
  refine h B.K F H l0 _ ws Q h1 h2 l fun v vs' l' hv => ?_
  obtain ⟨r2, f2⟩ := r.setO g.eq e (.lst aL l')
  rw [st.eq] at r2 f2
  exact c _ F _ (.fz res) τ' f2 r2 hv trivial q
theorem sw (g : Gt τ k (.own (.lst ts))) (hl : ts.length <= 10000) (st : pI τ k (.own (.lst (ts ++ [t]))) τ') (q : Φ (.fz .non) τ') : RM B rAppend (.sl k) [t] τ Φ :=
 zA g st (fun K F H l vs ws Q h1 h2 h3 c => by
  cases h3 with
  | cons a b =>
   cases b
   exact ⟨l, vs, _, rfl, rfl, h1, by rw [h2.length]; exact Nat.lt_of_le_of_lt hl (by decide), c _ _ (h2.snoc a) .non⟩) q
inductive Ar where
 | fz (t : Tr) | wd
noncomputable def pY (B : Bk) (F : Hp) (v : V) : Ar -> Prop
 | .fz t => Is B.K F v t
 | .wd => v = .ref B.rt
inductive mD (B : Bk) (F : Hp) : List V -> List Ar -> Prop
 | nil : mD B F [] []
 | cons {v : V} {a : Ar} {vs : List V} {as : List Ar} : pY B F v a -> mD B F vs as -> mD B F (v :: vs) (a :: as)
theorem mD.length {B : Bk} : ∀ {vs : List V} {as : List Ar}, mD B F vs as -> vs.length = as.length
 | _, _, .nil => rfl
 | _, _, .cons _ g => congrArg (· + 1) (mD.length g)
variable {F' : Hp}
theorem pY.same {B : Bk} {v : V} {a : Ar} (s : aF F F') (h : pY B F v a) : pY B F' v a := by
 cases a with
 | fz t => exact Is.same s h
 | wd => exact h
theorem mD.get {B : Bk} : ∀ {vs : List V} {as : List Ar} {i : Nat} {a : Ar}, mD B F vs as -> as[i]? = some a -> ∃ v, vs[i]? = some v /\ pY B F v a
 | _, _, _, _, .nil, e => by simp at e
 | _, _, 0, _, .cons h _, e => by simp at e; subst e; exact ⟨_, rfl, h⟩
 | _, _, i + 1, t, .cons _ g, e => by
  obtain ⟨u, h1, h2⟩ := mD.get (i := i) (a := t) g (by simpa using e)
  exact ⟨u, by simpa using h1, h2⟩
noncomputable def AJ (B : Bk) (ta : TA) (τ : TSt) (Φ : List Ar -> TSt -> Prop) : Prop := ∀ σ F H (Q : List V -> Hp -> Prop), Rp B F H σ τ -> (∀ vs F' H' as τ', Fr B σ τ F H τ' F' H' -> Rp B F' H' σ τ' -> mD B F' vs as -> Φ as τ' -> Q vs H') -> ta σ H Q
noncomputable def Dg (k : Kd) (τ : TSt) (S : Ar -> TSt -> Prop) : Prop := match k with
 | .wd => S .wd τ
 | .fz t => S (.fz t) τ
 | .nw t => S (.fz t) τ
 | .sl i => (∃ t, di τ i (.own t) /\ S (.fz t) (τ.set i (.fz t))) ∨ ∃ t, di τ i (.fz t) /\ S (.fz t) τ
variable {S : Ar -> TSt -> Prop}
theorem BO (h : S (.fz t) τ) : Dg (.fz t) τ S := h
theorem Cu (h : S (.fz t) τ) : Dg (.nw t) τ S := h
theorem yz (g : Gt τ k (.own t)) (s : pI τ k (.fz t) τ') (h : S (.fz t) τ') : Dg (.sl k) τ S := tQ (S := fun t τ' => S (.fz t) τ') g s h
theorem BQ {S : List Ar -> TSt -> Prop} (q : S [] τ) : AJ B tNil τ S := fun σ F H Q r c => c [] F H [] τ Fr.refl r .nil q
theorem yK {tr : TA} {S : List Ar -> TSt -> Prop} (h : EV B te τ fun x τ1 => Dg x τ1 fun a τ2 => AJ B tr τ2 fun as τ3 => S (a :: as) τ3) : AJ B (cH te tr) τ S := fun σ F H Q r c => by
 refine h σ F H _ r fun v F1 H1 k τ1 f1 r1 ok1 n1 h1 => ?_
 have go : rS k τ1 (fun t τ2 => AJ B tr τ2 fun as τ3 => S (.fz t :: as) τ3) -> tr σ H1 fun vs H2 => Q (v :: vs) H2 := fun h => by
  obtain ⟨F2, t, τ2, f2, r2, i2, h2, _⟩ := ge f1 r1 ok1 n1 h
  exact h2 σ F2 H1 _ r2 fun vs F3 H3 ts τ3 f3 r3 l3 h3 => c _ F3 H3 _ τ3 (f2.trans f3) r3 (.cons (pY.same (a := .fz t) f3.f i2) l3) h3
 cases k with
 | wd => exact h1 σ F1 H1 _ r1 fun vs F3 H3 ts τ3 f3 r3 l3 h3 => c _ F3 H3 _ τ3 (f1.trans f3) r3 (.cons (a := .wd) ok1 l3) h3
 | fz t => exact go h1
 | nw t => exact go h1
 | sl i => exact go h1
noncomputable def ly (B : Bk) (F H : Hp) (v : V) : Kd -> Prop
 | .fz t => Is B.K F v t
 | .nw t => ∃ l, v = .ref l /\ Ow B.K F H l t /\ F l = none /\ B.H0 l = none
 | .sl _ => False
 | .wd => False
noncomputable abbrev SpT := Bk -> List Ar -> (Kd -> Prop) -> (Addr -> Prop) -> Prop
structure tP (B : Bk) : Prop where
 i : aF B.F0 B.H0
 wa : ∀ p, B.W p -> B.H0 p ≠ none
 wf : ∀ p, B.W p -> B.F0 p = none
 wj : B.J B.H0
noncomputable def bw (K : Fg) (S : SpT) : Sp := fun vs H Q E => ∃ B as Φ Ψ, B.K = K /\ B.H0 = H /\ tP B /\ mD B B.F0 vs as /\ S B as Φ Ψ /\ (∀ v F' H' k, Up B B.F0 H F' H' -> ly B F' H' v k -> Φ k -> Q v H') /\ ∀ C F' H', Up B B.F0 H F' H' -> Ψ C -> E (.ref C) none H'
theorem aH {S : SpT} {n : Nat} (hn : ∀ B as Φ Ψ, S B as Φ Ψ -> as.length = n) : ∀ vs H Q E, bw K S vs H Q E -> vs.length = n := fun vs H Q E h => by
 obtain ⟨B, as, Φ, Ψ, _, _, _, l, s, _⟩ := h
 rw [l.length]; exact hn B as Φ Ψ s
theorem yO {H' : Hp} {v : V} {kd : Kd} {B' : Bk} (r : Rp B F H σ τ) (hK : B'.K = B.K) (hH : B'.H0 = H) (h : ly B' F' H' v kd) : qc B F' H' σ τ v kd /\ wg H v kd := by
 cases kd with
 | fz t => exact ⟨by
   have h2 : Is B'.K F' v t := h
   rw [hK] at h2; exact h2, trivial⟩
 | sl i => exact h.elim
 | wd => exact h.elim
 | nw t =>
  obtain ⟨l, rfl, g, n, n0⟩ := h
  rw [hH] at n0
  rw [hK] at g
  refine ⟨⟨l, rfl, g, n, r.up.w l n0, fun i w h e => ?_⟩, fun l' e => by cases e; exact n0⟩
  rcases h with h | h
  ·obtain ⟨l', e', g, _⟩ := r.ow i w h
   obtain ⟨o, ho, _⟩ := g.mb
   cases aO e' e
   rw [n0] at ho; cases ho
  ·obtain ⟨l', e', g, _⟩ := r.vw i w h
   obtain ⟨o, ho, _⟩ := g.mb
   cases aO e' e
   rw [n0] at ho; cases ho
noncomputable abbrev Bk.now (B : Bk) (F H : Hp) : Bk := { B with F0 := F, H0 := H }
theorem Up.of_now {F1 H1 H' : Hp} (u : Up (B.now F1 H1) F H F' H') : Up B F H F' H' := ⟨u.f, u.h, u.i, u.m, u.w, u.x, u.j⟩
theorem Rp.bkok (r : Rp B F H σ τ) : tP (B.now F H) := ⟨r.inc, fun p hw z => r.wa p hw (r.up.w p z), r.wf, r.wj⟩
theorem mD.now {F1 H1 : Hp} : ∀ {vs : List V} {as : List Ar}, mD B F vs as -> mD (B.now F1 H1) F vs as
 | _, _, .nil => .nil
 | _, _, .cons (a := .fz _) h g => .cons (a := .fz _) h (mD.now g)
 | _, _, .cons (a := .wd) h g => .cons (a := .wd) h (mD.now g)
theorem wn (hK : K = B.K) {S : SpT} {E : XK} {tA : TA} {Ψ : Addr -> Prop} (hE : ∀ C F H, Up B B.F0 B.H0 F H -> Ψ C -> E (.ref C) none H) (h : AJ B tA τ fun as τ1 => ∀ F H, S (B.now F H) as (fun k => Φ k τ1) Ψ) : EV B (kb (bw K S) [] E tA) τ Φ := fun σ F H Q rp c => by
 subst hK
 unfold kb
 simp only [List.append_nil]
 refine h σ F H _ rp fun vs F1 H1 as τ1 f1 r1 l1 h1 => ?_
 refine ⟨B.now F1 H1, as, _, _, rfl, rfl, r1.bkok, ?_, h1 F1 H1, fun v F2 H2 kd u ok φ => ?_, fun C F2 H2 u ψ => hE C F2 H2 (r1.up.trans u.of_now) ψ⟩
 ·exact l1.now
 obtain ⟨a, b⟩ := yO r1 (B' := B.now F1 H1) rfl rfl ok
 exact c.on f1 v F2 H2 kd τ1 (Fr.up u.of_now) (r1.go u.of_now) (by
  cases kd with
  | nw t => exact ⟨a.choose, a.choose_spec.1, a.choose_spec.2.1, a.choose_spec.2.2⟩
  | _ => exact a) b φ
theorem zK (hK : K = B.K) {S : SpT} {E : XK} {tA : TA} (h : AJ B tA τ fun as τ1 => ∀ F H, S (B.now F H) as (fun k => Φ k τ1) fun _ => False) : EV B (kb (bw K S) [] E tA) τ Φ := wn hK (fun _ _ _ _ z => z.elim) h
end
structure ET where
 nx : TSt -> Prop
 rt : Kd -> Prop
 bk : TSt -> Prop
 ct : TSt -> Prop
structure EO (B : Bk) (F : Hp) (D : Ends) (D' : ET) : Prop where
 nx : ∀ σ F' H τ, aF F F' -> Rp B F' H σ τ -> D'.nx τ -> D.nx σ H
 rt : ∀ v F' H k, Up B B.F0 B.H0 F' H -> ly B F' H v k -> D'.rt k -> D.rt v H
 bk : ∀ σ F' H τ, aF F F' -> Rp B F' H σ τ -> D'.bk τ -> D.bk σ H
 ct : ∀ σ F' H τ, aF F F' -> Rp B F' H σ τ -> D'.ct τ -> D.ct σ H
noncomputable def SV (B : Bk) (t : TS) (τ : TSt) (D' : ET) : Prop := ∀ σ F H D, Rp B F H σ τ -> EO B F D D' -> t D σ H
section
variable {B : Bk} {τ τ' τ2 : TSt} {te ta tb : TE} {i k : Nat} {t u : Tr} {x : Kd} {ts us : List Tr} {s1 s2 : TS} {nx bk ct : TSt -> Prop} {rt : Kd -> Prop} {c : TT}
theorem EO.on {F F1 : Hp} {D : Ends} {D' : ET} (e : EO B F D D') (s : aF F F1) : EO B F1 D D' := ⟨fun σ F' H τ z => e.nx σ F' H τ (s.trans z), e.rt, fun σ F' H τ z => e.bk σ F' H τ (s.trans z), fun σ F' H τ z => e.ct σ F' H τ (s.trans z)⟩
theorem yg (h : SV B s1 τ ⟨fun τ1 => SV B s2 τ1 ⟨nx, rt, bk, ct⟩, rt, bk, ct⟩) : SV B (wC s1 s2) τ ⟨nx, rt, bk, ct⟩ := fun σ F H D r e => h σ F H _ r ⟨fun σ' F' H' τ' s r' h' => h' σ' F' H' D r' (e.on s), e.rt, e.bk, e.ct⟩
theorem yL (h : nx τ) : SV B tNext τ ⟨nx, rt, bk, ct⟩ := fun σ F H D r e => e.nx σ F H τ (aF.refl _) r h
theorem yT (h : EV B te τ fun _ τ1 => nx τ1) : SV B (uF te) τ ⟨nx, rt, bk, ct⟩ := fun σ F H D r e => h σ F H _ r fun v F1 H1 k τ1 f r1 _ _ h1 => e.nx σ F1 H1 τ1 f.f r1 h1
noncomputable def RtK (k : Kd) (τ : TSt) (R : Kd -> Prop) : Prop := match k with
 | .fz t => R (.fz t)
 | .nw t => R (.nw t) ∨ R (.fz t)
 | .sl i => (∃ t, di τ i (.own t) /\ (R (.nw t) ∨ R (.fz t))) ∨ ∃ t, di τ i (.fz t) /\ R (.fz t)
 | .wd => False
theorem ya (h : EV B te τ fun k τ1 => RtK k τ1 rt) : SV B (Ac te) τ ⟨nx, rt, bk, ct⟩ := fun σ F H D r e => h σ F H _ r fun v F1 H1 k τ1 f r1 ok n h1 => by
 have fixed : ∀ l t, v = .ref l -> Ow B.K F1 H1 l t -> F1 l = none -> B.H0 l = none -> rt (.fz t) -> D.rt v H1 := fun l t ev g nn n0 h => by
  subst ev
  obtain ⟨o, ho, mb⟩ := g.mb
  refine e.rt _ (upd F1 l o) H1 (.fz t) ⟨r1.up.f.trans (aF.new nn o), r1.up.h, fun q z hz => ?_, fun q z hz mz nz => ?_, r1.up.w, fun q hw nz => ?_, r1.up.j⟩ (g.is (aF.new nn o) (by rw [aL, ho])) h
  ·by_cases hq : q = l
   ·rw [hq, aL] at hz; cases hz; rw [hq]; exact ho
   ·rw [aE hq] at hz; exact r1.up.i q z hz
  ·have : q ≠ l := fun e' => by rw [e', n0] at hz; cases hz
   rw [aE this]; exact r1.up.m q z hz mz nz
  ·have : q ≠ l := fun e' => r1.wa q hw (by rw [e']; exact n0)
   rw [aE this]; exact r1.up.x q hw nz
 cases k with
 | fz t => exact e.rt v F1 H1 (.fz t) r1.up ok h1
 | nw t =>
  obtain ⟨l, ev, g, nn, n0, _⟩ := ok
  rcases h1 with h1 | h1
  ·exact e.rt v F1 H1 (.nw t) r1.up ⟨l, ev, g, nn, n0⟩ h1
  ·exact fixed l t ev g nn n0 h1
 | sl i =>
  rcases h1 with ⟨t, ht, h1⟩ | ⟨t, ht, h1⟩
  ·obtain ⟨l, es, g, nn, n0⟩ := r1.ow i t ht
   have ev : v = .ref l := aO ok es
   rcases h1 with h1 | h1
   ·exact e.rt v F1 H1 (.nw t) r1.up ⟨l, ev, g, nn, n0⟩ h1
   ·exact fixed l t ev g nn n0 h1
  ·obtain ⟨w, es, g⟩ := r1.fz i t ht
   cases aO es ok
   exact e.rt v F1 H1 (.fz t) r1.up g h1
 | wd => exact h1.elim
theorem Bi {R : Kd -> Prop} (h : R (.fz t)) : RtK (.fz t) τ R := h
theorem CC (h : TV B c τ fun b τ1 => if b = true then SV B s1 τ1 ⟨nx, rt, bk, ct⟩ else SV B s2 τ1 ⟨nx, rt, bk, ct⟩) : SV B (zj c s1 s2) τ ⟨nx, rt, bk, ct⟩ := fun σ F H D r e => h σ F H _ r fun b F1 H1 τ1 f r1 h1 => by
 cases b with
 | true => rw [if_pos rfl] at h1 ⊢; exact h1 σ F1 H1 D r1 (e.on f.f)
 | false => rw [if_neg Bool.false_ne_true] at h1 ⊢; exact h1 σ F1 H1 D r1 (e.on f.f)
theorem cZ (J : TSt -> Prop) (h : SV B s1 τ ⟨J, rt, bk, ct⟩) (q : ∀ τ', J τ' -> nx τ') : SV B s1 τ ⟨nx, rt, bk, ct⟩ := fun σ F H D r e => h σ F H D r ⟨fun σ F' H τ s r h => e.nx σ F' H τ s r (q τ h), e.rt, e.bk, e.ct⟩
noncomputable def GA (B : Bk) (g : TG) (k : Kd) (τ : TSt) (N : TSt -> Prop) : Prop := ∀ σ F H v (S : St -> Hp -> Prop), Rp B F H σ τ -> qc B F H σ τ v k -> (∀ σ' F' H' τ', aF F F' -> Rp B F' H' σ' τ' -> N τ' -> S σ' H') -> g v σ H S
variable {g : TG}
theorem Cf (h : EV B te τ fun k τ1 => GA B g k τ1 nx) : SV B (pJ te g) τ ⟨nx, rt, bk, ct⟩ := fun σ F H D r e => h σ F H _ r fun v F1 H1 k τ1 f r1 ok _ h1 => h1 σ F1 H1 v _ r1 ok fun σ' F' H' τ' s r' n => e.nx σ' F' H' τ' (f.f.trans s) r' n
variable {N : TSt -> Prop}
theorem xw (s : pI τ k (.fz t) τ') (h : N τ') : GA B (cG k) (.fz t) τ N := fun σ F H v S r ok q => q _ F H τ' (aF.refl _) (by have := r.setF (i := k) ok; rw [s.eq] at this; exact this) h
theorem Ex (s : pI τ k (.own t) τ') (h : N τ') : GA B (cG k) (.nw t) τ N := fun σ F H v S r ok q => q _ F H τ' (aF.refl _) (by have := r.setN (i := k) ok; rw [s.eq] at this; exact this) h
noncomputable def CZ (B : Bk) (g : TGs) (ts : List Tr) (τ : TSt) (N : TSt -> Prop) : Prop := ∀ σ F H vs (S : St -> Hp -> Prop), Rp B F H σ τ -> IsL B.K F vs ts -> (∀ σ' F' H' τ', aF F F' -> Rp B F' H' σ' τ' -> N τ' -> S σ' H') -> g vs σ H S
variable {K : Fg}
theorem BU (hK : K = B.K) {N : TSt -> Prop} {n : Nat} {g : TGs} (hl : ts.length = n) (h : CZ B g ts τ N) : GA B (wJ K n g) (.fz (.tup ts)) τ N := fun σ F H v S r ok q => by
 subst hK
 cases (show Is B.K F v (.tup ts) from ok) with
 | tup a b => exact ⟨_, _, rfl, r.inc.tup a, by rw [b.length]; exact hl, h σ F H _ S r b q⟩
theorem Af (h : N τ) : CZ B gNil [] τ N := fun σ F H vs S r l q => by
 cases l
 exact ⟨rfl, q σ F H τ (aF.refl _) r h⟩
theorem wD {gr : TGs} (h : GA B g (.fz t) τ fun τ1 => CZ B gr ts τ1 N) : CZ B (lG g gr) (t :: ts) τ N := fun σ F H vs S r l q => by
 cases l with
 | cons a b => exact ⟨_, _, rfl, h σ F H _ _ r a fun σ1 F1 H1 τ1 s1 r1 h1 => h1 σ1 F1 H1 _ S r1 (b.same s1) fun σ' F' H' τ' s' r' n => q σ' F' H' τ' (s1.trans s') r' n⟩
noncomputable def CB (B : Bk) (F : Hp) (J : It) (ts : List Tr) : Prop := ∀ σ τ F' H', aF F F' -> Rp B F' H' σ τ -> (∀ i t, ts[i]? = some t -> J.go i H' /\ ∀ x H2, J.yld i H' x H2 -> ∃ F2, Up B F' H' F2 H2 /\ Is B.K F2 x t) /\ J.stop ts.length H'
noncomputable def IV (B : Bk) (wi : TI) (τ : TSt) (Φ : List Tr -> TSt -> Prop) : Prop := ∀ σ F H (R : It -> Hp -> Prop), Rp B F H σ τ -> (∀ J F' H' ts τ', Fr B σ τ F H τ' F' H' -> Rp B F' H' σ τ' -> CB B F' J ts -> Φ ts τ' -> R J H') -> wi σ H R
theorem ut (hK : K = B.K) {Φ : List Tr -> TSt -> Prop} (h : EV B te τ fun x τ1 => rS x τ1 fun t τ2 => ∃ ts, t = .lst ts /\ Φ ts τ2) : IV B (xJ K te) τ Φ := fun σ F H R r c => by
 subst hK
 refine h σ F H _ r fun v F1 H1 k τ1 f1 r1 ok1 n1 h1 => ?_
 obtain ⟨F2, t, τ2, f2, r2, i2, ⟨ts, e, h2⟩, _⟩ := ge f1 r1 ok1 n1 h1
 subst e
 cases i2 with
 | lst a b =>
  refine ⟨_, rfl, ⟨_, r2.inc.seq a⟩, c _ F2 H1 ts τ2 f2 r2 (fun σ' τ' F' H' sF rH => ⟨fun i t e => ?_, ⟨_, rH.inc.seq (sF.seq a), by rw [b.length]; exact Nat.le_refl _⟩⟩) h2⟩
  obtain ⟨w, ew, hw⟩ := b.get e
  refine ⟨⟨_, w, rH.inc.seq (sF.seq a), ew⟩, fun x H2 y => ?_⟩
  obtain ⟨rfl, y2⟩ := y
  have := y2 _ (rH.inc.seq (sF.seq a))
  rw [ew] at this
  cases this
  exact ⟨F', Up.refl rH.inc, hw.same sF⟩
theorem dA (hK : K = B.K) {Φ : List Tr -> TSt -> Prop} (h : EV B te τ fun x τ1 => rS x τ1 fun t τ2 => ∃ ts, t = .tup ts /\ Φ ts τ2) : IV B (By K te) τ Φ := fun σ F H R r c => by
 subst hK
 refine h σ F H _ r fun v F1 H1 k τ1 f1 r1 ok1 n1 h1 => ?_
 obtain ⟨F2, t, τ2, f2, r2, i2, ⟨ts, e, h2⟩, _⟩ := ge f1 r1 ok1 n1 h1
 subst e
 cases i2 with
 | tup a b =>
  refine ⟨_, rfl, ⟨_, r2.inc.tup a⟩, c _ F2 H1 ts τ2 f2 r2 (fun σ' τ' F' H' sF rH => ⟨fun i t e => ?_, ⟨_, rH.inc.tup (sF.tup a), by rw [b.length]; exact Nat.le_refl _⟩⟩) h2⟩
  obtain ⟨w, ew, hw⟩ := b.get e
  refine ⟨⟨_, w, rH.inc.tup (sF.tup a), ew⟩, fun x H2 y => ?_⟩
  obtain ⟨rfl, y2⟩ := y
  have := y2 _ (rH.inc.tup (sF.tup a))
  rw [ew] at this
  cases this
  exact ⟨F', Up.refl rH.inc, hw.same sF⟩
theorem Cq {S : List Tr -> Prop} (q : S ts) : ∃ ts', Tr.lst ts = .lst ts' /\ S ts' := ⟨ts, rfl, q⟩
theorem Bs {S : List Tr -> Prop} (q : S ts) : ∃ ts', Tr.tup ts = .tup ts' /\ S ts' := ⟨ts, rfl, q⟩
noncomputable def iI (lo : Int) (n : Nat) : List Tr := (List.range n).map fun i => .int (lo + (i : Nat))
variable {lo : Int} {n : Nat}
theorem dk {i : Nat} {t : Tr} (h : (iI lo n)[i]? = some t) : i < n /\ t = .int (lo + (i : Nat)) := by
 unfold iI at h
 rw [List.getElem?_map] at h
 by_cases hi : i < n
 ·rw [List.getElem?_range hi] at h; cases h; exact ⟨hi, rfl⟩
 ·rw [List.getElem?_eq_none (by rw [List.length_range]; omega)] at h; cases h
theorem dh : (iI lo n).length = n := by unfold iI; rw [List.length_map, List.length_range]
theorem Ak {F : Hp} : CB B F (vp lo n) (iI lo n) := fun σ' τ' F' H' sF rH => ⟨fun i t e => by
  obtain ⟨hi, rfl⟩ := dk e
  exact ⟨hi, fun x H2 y => by obtain ⟨rfl, rfl⟩ := y; exact ⟨F', Up.refl rH.inc, .int⟩⟩, by rw [dh]; exact Nat.le_refl _⟩
theorem vc {Φ : List Tr -> TSt -> Prop} (h : EV B te τ fun x τ1 => ∃ j, x = .fz (.int j) /\ (-(2 ^ 62) <= j /\ j < 2 ^ 62) /\ Φ (iI 0 j.toNat) τ1) : IV B (uM (cH te tNil)) τ Φ := fun σ F H R r c => by
 refine h σ F H _ r fun v F1 H1 k τ1 f1 r1 ok1 n1 ⟨j, e, hb, h1⟩ => ?_
 subst e
 cases ok1
 exact ⟨j, rfl, hb.1, hb.2, c _ F1 H1 _ τ1 f1 r1 Ak h1⟩
theorem BE {wi : TI} {tbd : TS} (h : IV B wi τ fun ts τ1 => ∃ I : Nat -> TSt -> Prop, I 0 τ1 /\ (∀ i t τ2, ts[i]? = some t -> I i τ2 -> GA B g (.fz t) τ2 fun τ3 => SV B tbd τ3 ⟨I (i + 1), rt, nx, I (i + 1)⟩) /\ ∀ τ2, I ts.length τ2 -> nx τ2) : SV B (zz wi g tbd) τ ⟨nx, rt, bk, ct⟩ := fun σ F H D r e => by
 refine h σ F H _ r fun J F1 H1 ts τ1 f1 r1 itk ⟨I, i0, step, fin⟩ => ?_
 refine ⟨fun i m σ H => ∃ F2 τ2, aF F1 F2 /\ Rp B F2 H σ τ2 /\ I i τ2 /\ i <= ts.length /\ m = ts.length - i, ⟨_, F1, τ1, aF.refl _, r1, i0, Nat.zero_le _, rfl⟩, ?_⟩
 rintro i m σ H ⟨F2, τ2, s2, r2, i2, hi, rfl⟩
 obtain ⟨itg, its⟩ := itk σ τ2 F2 H s2 r2
 by_cases hlt : i < ts.length
 ·obtain ⟨g1, g2⟩ := itg i ts[i] (List.getElem?_eq_getElem hlt)
  refine .inr ⟨g1, fun σ' H' => ∃ F2 τ2, aF F1 F2 /\ Rp B F2 H' σ' τ2 /\ I (i + 1) τ2, fun σ' H' ⟨F2, τ2, a, b, c⟩ => ⟨_, by omega, F2, τ2, a, b, c, hlt, rfl⟩, fun x H3 y => ?_⟩
  obtain ⟨F3, u3, hx⟩ := g2 x H3 y
  refine step i ts[i] τ2 (List.getElem?_eq_getElem hlt) i2 σ F3 H3 x _ (r2.go u3) hx fun σ4 F4 H4 τ4 s4 r4 h4 => ?_
  have s14 := s2.trans (u3.f.trans s4)
  exact h4 σ4 F4 H4 _ r4 ⟨fun σ5 F5 H5 τ5 s5 r5 h5 => ⟨F5, τ5, s14.trans s5, r5, h5⟩, e.rt, fun σ5 F5 H5 τ5 s5 r5 h5 => e.nx σ5 F5 H5 τ5 (f1.f.trans (s14.trans s5)) r5 h5, fun σ5 F5 H5 τ5 s5 r5 h5 => ⟨F5, τ5, s14.trans s5, r5, h5⟩⟩
 ·have ei : i = ts.length := by omega
  subst ei
  exact .inl ⟨its, e.nx σ F2 H τ2 (f1.f.trans s2) r2 (fin τ2 i2)⟩
end
end L2
namespace L2
open PySem PySem.Spec PyProof.Rows
noncomputable def BK : Ar -> Sl
 | .fz t => .fz t
 | .wd => .wd
noncomputable def eO (n : Nat) (as : List Ar) : TSt := as.map BK ++ List.replicate (n - as.length) Sl.no
theorem dL {n : Nat} {as : List Ar} {i : Nat} {s : Sl} (h : di (eO n as) i s) : (∃ a, s = BK a /\ as[i]? = some a) ∨ s = .no := by
 unfold di eO at h
 by_cases hi : i < as.length
 ·rw [List.getElem?_append_left (by rw [List.length_map]; exact hi), List.getElem?_map, List.getElem?_eq_getElem hi] at h
  cases h
  exact .inl ⟨_, rfl, List.getElem?_eq_getElem hi⟩
 ·rw [List.getElem?_append_right (by rw [List.length_map]; omega), List.getElem?_replicate] at h
  split at h
  ·cases h; exact .inr rfl
  ·cases h
theorem oh {B : Bk} {N : List Str} {vs : List V} {as : List Ar} (k : tP B) (l : mD B B.F0 vs as) : Rp B B.F0 B.H0 (cT N vs) (eO N.length as) := by
 have got : ∀ i a, as[i]? = some a -> ∃ v, gp (cT N vs) i v /\ pY B B.F0 v a := fun i a h => by
  obtain ⟨v, hv, hi⟩ := l.get h
  refine ⟨v, ?_, hi⟩
  have hj := (List.getElem?_eq_some_iff.mp hv).1
  unfold gp cT
  rw [List.getElem?_append_left (by rw [List.length_map]; exact hj), List.getElem?_map, hv]
  rfl
 exact {
 up := Up.refl k.i
 wa := k.wa
 wf := k.wf
 wj := k.wj
 wd := fun j h => by
  rcases dL h with ⟨a, e, hu⟩ | e
  ·cases a with
   | fz t => cases e
   | wd =>
    obtain ⟨v, e, hv⟩ := got j _ hu
    cases (show v = .ref B.rt from hv)
    exact e
  ·cases e
 len := by unfold cT eO; rw [List.length_append, List.length_append, List.length_map, List.length_map, List.length_replicate, List.length_replicate, l.length]
 fz := fun j t h => by
  rcases dL h with ⟨a, e, hu⟩ | e
  ·cases a with
   | wd => cases e
   | fz u =>
    cases e
    obtain ⟨v, e, hv⟩ := got j _ hu
    exact ⟨v, e, hv⟩
  ·cases e
 ow := fun j t h => by
  rcases dL h with ⟨a, e, hu⟩ | e
  ·cases a <;> cases e
  ·cases e
 vw := fun j t h => by
  rcases dL h with ⟨a, e, hu⟩ | e
  ·cases a <;> cases e
  ·cases e
 ap := fun _ b t u l h => by
  rcases dL h with ⟨a, e, hu⟩ | e
  ·cases a <;> cases e
  ·cases e
 av := fun _ b t u l h => by
  rcases dL h with ⟨a, e, hu⟩ | e
  ·cases a <;> cases e
  ·cases e }
theorem aA {K : Fg} {S : SpT} {vs : List V} {H : Hp} {Q : VK} {E : XK} (h : bw K S vs H Q E) : ∃ B as Φ Ψ, B.K = K /\ S B as Φ Ψ /\ (∀ C F' H', Up B B.F0 B.H0 F' H' -> Ψ C -> E (.ref C) none H') /\ ∀ (N : List Str) (t : TS), SV B t (eO N.length as) ⟨fun _ => Φ (.fz .non), Φ, fun _ => False, fun _ => False⟩ -> t { nx := fun _ H' => Q .non H', rt := Q } (cT N vs) H := by
 obtain ⟨B, as, Φ, Ψ, hK, rfl, k, l, s, q, x⟩ := h
 refine ⟨B, as, Φ, Ψ, hK, s, x, fun N t sv => sv _ _ _ _ (oh k l) ⟨?_, ?_, ?_, ?_⟩⟩
 ·intro σ F' H' τ _ r h
  exact q .non F' H' (.fz .non) r.up .non h
 ·intro v F' H' k u ok h
  exact q v F' H' k u ok h
 ·exact fun _ _ _ _ _ _ z => z
 ·exact fun _ _ _ _ _ _ z => z
theorem bO {B : Bk} {t : TS} {τ : TSt} {n : Nat} {ts : List Ar} {D : ET} (h : eO n ts = τ) (q : SV B t τ D) : SV B t (eO n ts) D := by rw [h]; exact q
inductive lf (τ : TSt) : List (Str × Nat) -> TSt -> Prop
 | nil : lf τ [] []
 | fz {x : Str} {k : Nat} {t : Tr} {r : List (Str × Nat)} {r' : TSt} : Gt τ k (.fz t) -> lf τ r r' -> lf τ ((x, k) :: r) (.fz t :: r')
 | own {x : Str} {k : Nat} {t : Tr} {r : List (Str × Nat)} {r' : TSt} : Gt τ k (.own t) -> lf τ r r' -> lf τ ((x, k) :: r) (.vw t :: r')
 | vw {x : Str} {k : Nat} {t : Tr} {r : List (Str × Nat)} {r' : TSt} : Gt τ k (.vw t) -> lf τ r r' -> lf τ ((x, k) :: r) (.vw t :: r')
 | wd {x : Str} {k : Nat} {r : List (Str × Nat)} {r' : TSt} : Gt τ k .wd -> lf τ r r' -> lf τ ((x, k) :: r) (.wd :: r')
 | no {x : Str} {k : Nat} {r : List (Str × Nat)} {r' : TSt} : lf τ r r' -> lf τ ((x, k) :: r) (.no :: r')
theorem lf.at {τ : TSt} {fr : List (Str × Nat)} {τi : TSt} (h : lf τ fr τi) : τi.length = fr.length /\ ∀ i s, di τi i s -> ∃ x k, fr[i]? = some (x, k) /\ ((s = .no ∨ (s = .wd /\ di τ k .wd)) ∨ (∃ t, s = .fz t /\ di τ k (.fz t)) ∨ ∃ t, s = .vw t /\ (di τ k (.own t) ∨ di τ k (.vw t))) := by
 induction h with
 | nil => exact ⟨rfl, fun i s h => by unfold di at h; simp at h⟩
 | fz g _ ih =>
  refine ⟨by rw [List.length_cons, List.length_cons, ih.1], fun i s h => ?_⟩
  cases i with
  | zero => simp [di] at h; subst h; exact ⟨_, _, rfl, .inr (.inl ⟨_, rfl, g.eq⟩)⟩
  | succ i => exact ih.2 i s (by simpa [di] using h)
 | own g _ ih =>
  refine ⟨by rw [List.length_cons, List.length_cons, ih.1], fun i s h => ?_⟩
  cases i with
  | zero => simp [di] at h; subst h; exact ⟨_, _, rfl, .inr (.inr ⟨_, rfl, .inl g.eq⟩)⟩
  | succ i => exact ih.2 i s (by simpa [di] using h)
 | vw g _ ih =>
  refine ⟨by rw [List.length_cons, List.length_cons, ih.1], fun i s h => ?_⟩
  cases i with
  | zero => simp [di] at h; subst h; exact ⟨_, _, rfl, .inr (.inr ⟨_, rfl, .inr g.eq⟩)⟩
  | succ i => exact ih.2 i s (by simpa [di] using h)
 | no _ ih =>
  refine ⟨by rw [List.length_cons, List.length_cons, ih.1], fun i s h => ?_⟩
  cases i with
  | zero => simp [di] at h; subst h; exact ⟨_, _, rfl, .inl (.inl rfl)⟩
  | succ i => exact ih.2 i s (by simpa [di] using h)
 | wd g _ ih =>
  refine ⟨by rw [List.length_cons, List.length_cons, ih.1], fun i s h => ?_⟩
  cases i with
  | zero => simp [di] at h; subst h; exact ⟨_, _, rfl, .inl (.inr ⟨rfl, g.eq⟩)⟩
  | succ i => exact ih.2 i s (by simpa [di] using h)
section
variable {B : Bk} {F H : Hp} {σ : St} {τ τi : TSt} {fr : List (Str × Nat)}
theorem jy {i k : Nat} {x : Str} {v : V} (h : fr[i]? = some (x, k)) (g : gp σ k v) : gp (ib σ fr) i v := by
 unfold gp ib at *
 rw [List.getElem?_map, h]
 show some ((σ[k]?).join) = _
 rw [g]; rfl
theorem lf.rp (h : lf τ fr τi) (r : Rp B F H σ τ) : Rp B F H (ib σ fr) τi where
 up := r.up
 wa := r.wa
 wf := r.wf
 wj := r.wj
 wd := fun i z => by
  obtain ⟨x, k, hk, (e | ⟨e, g⟩) | ⟨u, e, g⟩ | ⟨u, e, g⟩⟩ := h.at.2 i _ z
  ·cases e
  ·exact jy hk (r.wd _ g)
  ·cases e
  ·cases e
 len := by unfold ib; rw [List.length_map, h.at.1]
 fz := fun i t z => by
  obtain ⟨x, k, hk, (e | ⟨e, g⟩) | ⟨u, e, g⟩ | ⟨u, e, g⟩⟩ := h.at.2 i _ z
  ·cases e
  ·cases e
  ·cases e
   obtain ⟨v, a, b⟩ := r.fz _ _ g
   exact ⟨v, jy hk a, b⟩
  ·cases e
 ow := fun i t z => by
  obtain ⟨x, k, hk, (e | ⟨e, g⟩) | ⟨u, e, g⟩ | ⟨u, e, g⟩⟩ := h.at.2 i _ z <;> cases e
 vw := fun i t z => by
  obtain ⟨x, k, hk, (e | ⟨e, g⟩) | ⟨u, e, g⟩ | ⟨u, e, g⟩⟩ := h.at.2 i _ z
  ·cases e
  ·cases e
  ·cases e
  ·cases e
   rcases g with g | g
   ·obtain ⟨l, a, b, c, n0⟩ := r.ow _ _ g
    exact ⟨l, jy hk a, b, c, fun hw => r.wa l hw n0⟩
   ·obtain ⟨l, a, b, c⟩ := r.vw _ _ g
    exact ⟨l, jy hk a, b, c⟩
 ap := fun a b t u l z => by
  obtain ⟨x, k, hk, (e | ⟨e, g⟩) | ⟨u, e, g⟩ | ⟨u, e, g⟩⟩ := h.at.2 a _ z <;> cases e
 av := fun a b t u l z => by
  obtain ⟨x, k, hk, (e | ⟨e, g⟩) | ⟨u, e, g⟩ | ⟨u, e, g⟩⟩ := h.at.2 a _ z <;> cases e
theorem lf.noown (h : lf τ fr τi) {i : Nat} {t : Tr} (z : di τi i (.own t)) : False := by
 obtain ⟨x, k, hk, (e | ⟨e, g⟩) | ⟨u, e, g⟩ | ⟨u, e, g⟩⟩ := h.at.2 i _ z <;> cases e
theorem Rp.consO {o : Option V} (r : Rp B F H σ τ) : Rp B F H (o :: σ) (.no :: τ) where
 up := r.up
 wa := r.wa
 wf := r.wf
 wj := r.wj
 wd := fun i z => by
  cases i with
  | zero => cases z
  | succ i => exact r.wd i z
 len := by rw [List.length_cons, List.length_cons, r.len]
 fz := fun i t z => by
  cases i with
  | zero => cases z
  | succ i => obtain ⟨v, a, b⟩ := r.fz i t z; exact ⟨v, a, b⟩
 ow := fun i t z => by
  cases i with
  | zero => cases z
  | succ i => exact r.ow i t z
 vw := fun i t z => by
  cases i with
  | zero => cases z
  | succ i => exact r.vw i t z
 ap := fun a b t u l ha hb ne hi hj => by
  cases a with
  | zero => cases ha
  | succ a =>
   cases b with
   | zero => cases hb
   | succ b => exact r.ap a b t u l ha hb (fun z => ne (by rw [z])) hi hj
 av := fun a b t u l ha hb hi hj => by
  cases a with
  | zero => cases ha
  | succ a =>
   cases b with
   | zero => cases hb
   | succ b => exact r.av a b t u l ha hb hi hj
theorem Rp.consF {v : V} {t : Tr} (r : Rp B F H σ τ) (h : Is B.K F v t) : Rp B F H (some v :: σ) (.fz t :: τ) := (r.consO (o := none)).setF (i := 0) h
theorem Rp.back {σi : St} {τ2 τ3 : TSt} {F' H' : Hp} (r : Rp B F H σ τ) (f : Fr B σi τ2 F H τ3 F' H') (no : ∀ i t, ¬ di τ2 i (.own t)) (ri : Rp B F' H' σi τ3) : Rp B F' H' σ τ /\ Up B F H F' H' := by
 have up : Up B F H F' H' := ⟨f.f, fun p o nw hp => (f.k p o hp nw fun i t z => (no i t z).elim).1, ri.up.i, fun p o hp mb n => by
  by_cases hw : B.W p
  ·exact ri.wf p hw
  ·exact (f.k p o hp hw fun i t z => (no i t z).elim).2 mb n, f.h, fun p hw _ => ri.wf p hw, fun _ => ri.wj⟩
 exact ⟨r.go up, up⟩
theorem Rp.acc {acc : Addr} {o : HO} {ys : List V} (rb : Rp B F H σ τ) (hy : H acc = some (.lst ys)) (h0 : B.H0 acc = none) (na : F acc = none) (dis : ∀ i u, di τ i (.own u) ∨ di τ i (.vw u) -> ¬ gp σ i (.ref acc)) : Rp B F (upd H acc o) σ τ := {
      wa := rb.wa
      wf := rb.wf
      wj := B.jl _ _ (fun q hw => by
        have : q ≠ acc := fun e => rb.wa q hw (by rw [e]; exact h0)
        rw [aE this]) (fun q φ z => by rw [aE (yd z hy nofun)]; exact z) rb.wj
      wd := rb.wd
      up := { f := rb.up.f, h := fun q o nw z => by
                have : q ≠ acc := fun e => by rw [e, h0] at z; cases z
                rw [aE this]; exact rb.up.h q o nw z
              i := fun q o z => by
                have : q ≠ acc := fun e => by rw [e, na] at z; cases z
                rw [aE this]; exact rb.up.i q o z
              m := rb.up.m
              w := fun q z => rb.up.w q (iC z)
              x := rb.up.x
              j := fun z => B.jl _ _ (fun q hw => by
                have : q ≠ acc := fun e => rb.wa q hw (by rw [e]; exact h0)
                rw [aE this]) (fun q φ z => by rw [aE (yd z hy nofun)]; exact z) rb.wj }
      len := rb.len
      fz := rb.fz
      ow := fun j u z => by
        obtain ⟨l', a, b, c⟩ := rb.ow j u z
        have : l' ≠ acc := fun e => dis j u (.inl z) (by rw [<- e]; exact a)
        exact ⟨l', a, b.to (aF.refl _) (fun o ho => by rw [aE this]; exact ho), c⟩
      vw := fun j u z => by
        obtain ⟨l', a, b, c⟩ := rb.vw j u z
        have : l' ≠ acc := fun e => dis j u (.inr z) (by rw [<- e]; exact a)
        exact ⟨l', a, b.to (aF.refl _) (fun o ho => by rw [aE this]; exact ho), c⟩
      ap := rb.ap
      av := rb.av }
end
section
variable {B : Bk} {τ τi : TSt} {Φ : TK} {fr : List (Str × Nat)} {wi : TI} {te : TE}
end
end L2
namespace L2
open PySem PySem.Spec PyProof.Rows
section
variable {B : Bk} {F H : Hp} {σ : St} {τ τi : TSt} {fr : List (Str × Nat)}
theorem Rp.pre (r : Rp B F H σ τ) : ∀ (vs : List V) (ts : List Tr), IsL B.K F vs ts -> Rp B F H (vs.map some ++ σ) (ts.map Sl.fz ++ τ)
 | _, _, .nil => r
 | _, _, .cons h g => (Rp.pre r _ _ g).consF h
end
section
variable {B : Bk} {τ τi : TSt} {Φ : TK} {fr : List (Str × Nat)} {wi : TI} {te : TE} {tc : TT} {g : TG} {k : Nat}
theorem xO (Cut : Tr -> List Tr -> Prop) (hk : ∀ t as, Cut t as -> as.length = k)
  (hg : ∀ t as, Cut t as -> ∀ (F H : Hp) (v : V) (σb : St) (S : St -> Hp -> Prop), aF F H -> Is B.K F v t -> k <= σb.length -> (∀ ws, IsL B.K F ws as -> S (ws.map some ++ σb.drop k) H) -> g v σb H S)
  (h : IV B wi τ fun ts τ1 => ∃ τi, lf τ1 fr τi /\ ts.length <= 100000 /\ ∃ P : Nat -> Option Tr -> Prop, (∀ i t, ts[i]? = some t -> ∃ as, Cut t as /\ TV B tc (as.map Sl.fz ++ τi) fun b τ2 => if b = true then EV B te τ2 fun k τ3 => rS k τ3 fun o _ => P i (some o) else P i none) /\ ∀ os : List (Option Tr), os.length = ts.length -> (∀ i o, os[i]? = some o -> P i o) -> Φ (.nw (.lst (os.filterMap id))) τ1) : EV B (mY k fr wi g tc te) τ Φ := fun σ F H Q r c => by
 refine h σ F H _ r fun J F1 H1 ts τ1 f1 r1 itk ⟨τi, inr, hlen, P, step, fin⟩ => ?_
 intro acc hacc
 refine ⟨fun i m σb H2 => ∃ F2 vs os, Rp B F2 H2 σ τ1 /\ Fr B σ τ1 F1 H1 τ1 F2 H2 /\ H2 acc = some (.lst vs) /\ F2 acc = none /\ IsL B.K F2 vs (os.filterMap id) /\ os.length = i /\ (∀ j o, os[j]? = some o -> P j o) /\ i <= ts.length /\ m = ts.length - i /\ k <= σb.length /\ σb.drop k = ib σ fr, ⟨_, F1, [], [], r1.go (r1.new hacc), Fr.up (r1.new hacc), aL, r1.inc.free hacc, .nil, rfl, fun j o z => (by cases z), Nat.zero_le _, rfl, by rw [List.length_append, List.length_replicate]; omega, by rw [List.drop_append_of_le_length (by rw [List.length_replicate]; exact Nat.le_refl _), List.drop_replicate, Nat.sub_self]; rfl⟩, ?_⟩
 rintro i m σb H2 ⟨F2, vs, os, r2, f2, ha, na, l2, hos, hP, hi, rfl, hkb, hdb⟩
 obtain ⟨itg, its⟩ := itk σ τ1 F2 H2 f2.f r2
 have nwa : ¬ B.W acc := fun hw => r1.wa acc hw (r1.up.w acc hacc)
 have dis : ∀ (i : Nat) (u : Tr), di τ1 i (.own u) ∨ di τ1 i (.vw u) -> ¬ gp σ i (.ref acc) := fun i u hu hs => by
  rcases hu with hu | hu
  ·obtain ⟨l', e', g, _⟩ := r1.ow i u hu
   obtain ⟨o, ho, _⟩ := g.mb
   cases aO e' hs
   rw [hacc] at ho; cases ho
  ·obtain ⟨l', e', g, _⟩ := r1.vw i u hu
   obtain ⟨o, ho, _⟩ := g.mb
   cases aO e' hs
   rw [hacc] at ho; cases ho
 have more : ∀ {o : Option Tr}, P i o -> ∀ (j : Nat) (q : Option Tr), (os ++ [o])[j]? = some q -> P j q := fun {o} hp j q hj => by
  rcases Nat.lt_or_ge j os.length with hjl | hjl
  ·rw [List.getElem?_append_left hjl] at hj
   exact hP j q hj
  ·rw [List.getElem?_append_right hjl] at hj
   have hz := (List.getElem?_eq_some_iff.mp hj).1
   rw [List.length_singleton] at hz
   have ej : j = i := by omega
   rw [show j - os.length = 0 by omega] at hj
   cases hj
   rw [ej]; exact hp
 by_cases hlt : i < ts.length
 ·obtain ⟨g1, g2⟩ := itg i ts[i] (List.getElem?_eq_getElem hlt)
  refine .inr ⟨g1, fun x H3 y => ?_⟩
  obtain ⟨F3, u3, hx⟩ := g2 x H3 y
  have r3 := r2.go u3
  obtain ⟨as, hcut, htv⟩ := step i ts[i] (List.getElem?_eq_getElem hlt)
  refine hg ts[i] as hcut F3 H3 x σb _ r3.inc hx hkb fun ws lw => ?_
  rw [hdb]
  have ri : Rp B F3 H3 (ws.map some ++ ib σ fr) (as.map Sl.fz ++ τi) := Rp.pre (inr.rp r3) ws as lw
  have noo : ∀ j t, ¬ di (as.map Sl.fz ++ τi) j (.own t) := fun j t z => by
   unfold di at z
   rcases Nat.lt_or_ge j as.length with q | q
   ·rw [List.getElem?_append_left (by rw [List.length_map]; exact q), List.getElem?_map, List.getElem?_eq_getElem q] at z
    cases z
   ·rw [List.getElem?_append_right (by rw [List.length_map]; exact q)] at z
    exact inr.noown z
  have hwl : (ws.map some).length = k := by rw [List.length_map, lw.length, hk _ _ hcut]
  have hk2 : k <= (ws.map some ++ ib σ fr).length := by rw [List.length_append, hwl]; omega
  have hd2 : (ws.map some ++ ib σ fr).drop k = ib σ fr := by rw [<- hwl, List.drop_left]
  refine htv _ F3 H3 _ ri fun b F4 H4 τ4 f4 r4 h4 => ?_
  cases b with
  | false =>
   rw [if_neg Bool.false_ne_true] at h4 ⊢
   obtain ⟨rb, ub⟩ := r3.back f4 noo r4
   have u25 := u3.trans ub
   exact ⟨ts.length - (i + 1), by omega, F4, vs, os ++ [none], rb, f2.trans (Fr.up u25), u25.h _ _ nwa ha, u25.m _ _ ha trivial na, by rw [List.filterMap_append]; simpa using l2.same u25.f, by rw [List.length_append, hos]; rfl, more h4, hlt, rfl, hk2, hd2⟩
  | true =>
   rw [if_pos rfl] at h4 ⊢
   refine h4 _ F4 H4 _ r4 fun v F5 H5 kd τ5 f5 r5 ok5 n5 h5 => ?_
   obtain ⟨F6, o, τ6, f6, r6, i6, hp6, _⟩ := ge f5 r5 ok5 n5 h5
   obtain ⟨rb, ub⟩ := r3.back (f4.trans f6) noo r6
   have u25 := u3.trans ub
   have ha5 : H5 acc = some (.lst vs) := u25.h _ _ nwa ha
   have na5 : F6 acc = none := u25.m _ _ ha trivial na
   have hvl : vs.length <= i := by rw [l2.length, <- hos]; exact List.length_filterMap_le _ _
   refine ⟨vs, ts.length - (i + 1), ha5, Nat.lt_of_le_of_lt hvl (Nat.lt_of_lt_of_le (Nat.lt_of_lt_of_le hlt hlen) (by decide)), by omega, ?_⟩
   have f6' : Fr B σ τ1 F1 H1 τ1 F6 (upd H5 acc (.lst (vs ++ [v]))) := by
    have f7 := f2.trans (Fr.up u25)
    refine ⟨f7.f, fun p o hp nw no => ?_, f7.o, fun p hp => ?_⟩
    ·have : p ≠ acc := fun e => by rw [e, hacc] at hp; cases hp
     rw [aE this]; exact f7.k p o hp nw no
    ·by_cases e : p = acc
     ·rw [e, aL] at hp; cases hp
     ·rw [aE e] at hp; exact f7.h p hp
   exact ⟨F6, vs ++ [v], os ++ [some o], rb.acc ha5 (r1.up.w acc hacc) na5 dis, f6', aL, na5, by rw [List.filterMap_append]; exact (l2.same u25.f).snoc i6, by rw [List.length_append, hos]; rfl, more hp6, hlt, rfl, hk2, hd2⟩
 ·have ei : i = ts.length := by omega
  subst ei
  exact .inl ⟨its, c _ F2 H2 (.nw (.lst (os.filterMap id))) τ1 (f1.trans f2) r2 ⟨acc, rfl, .lst ha l2, na, r1.up.w acc hacc, dis⟩ (fun l e => by cases e; exact f1.h _ hacc) (fin os hos hP)⟩
theorem gb (h : IV B wi τ fun ts τ1 => ∃ τi, lf τ1 fr τi /\ ts.length <= 100000 /\ ∃ P : Nat -> Option Tr -> Prop, (∀ i t, ts[i]? = some t -> TV B tc (.fz t :: τi) fun b τ2 => if b = true then EV B te τ2 fun k τ3 => rS k τ3 fun o _ => P i (some o) else P i none) /\ ∀ os : List (Option Tr), os.length = ts.length -> (∀ i o, os[i]? = some o -> P i o) -> Φ (.nw (.lst (os.filterMap id))) τ1) : EV B (mY 1 fr wi (cG 0) tc te) τ Φ := by
 refine xO (fun t as => as = [t]) (fun t as e => by rw [e]; rfl) (fun t as e F H v σb S i hi hk q => ?_) ?_
 ·subst e
  have := q [v] (.cons hi .nil)
  show S (σb.set 0 (some v)) H
  cases σb with
  | nil => exact absurd hk (by decide)
  | cons x r => exact this
 ·intro σ F H R r c
  refine h σ F H R r fun J F' H' ts τ' f r' it ⟨τi, a, b, P, st, fin⟩ => c J F' H' ts τ' f r' it ⟨τi, a, b, P, fun i t e => ⟨[t], rfl, st i t e⟩, fin⟩
theorem BG {K : Fg} (hK : K = B.K) (h : IV B wi τ fun ts τ1 => ∃ τi, lf τ1 fr τi /\ ts.length <= 100000 /\ ∃ P : Nat -> Option Tr -> Prop, (∀ i t, ts[i]? = some t -> ∃ a b, t = .tup [a, b] /\ TV B tc (.fz a :: .fz b :: τi) fun b τ2 => if b = true then EV B te τ2 fun k τ3 => rS k τ3 fun o _ => P i (some o) else P i none) /\ ∀ os : List (Option Tr), os.length = ts.length -> (∀ i o, os[i]? = some o -> P i o) -> Φ (.nw (.lst (os.filterMap id))) τ1) : EV B (mY 2 fr wi (wJ K 2 (lG (cG 0) (lG (cG 1) gNil))) tc te) τ Φ := by
 subst hK
 refine xO (fun t as => ∃ a b, t = .tup [a, b] /\ as = [a, b]) (fun t as e => by obtain ⟨a, b, _, rfl⟩ := e; rfl) (fun t as e F H v σb S i hi hk q => ?_) ?_
 ·obtain ⟨a, b, rfl, rfl⟩ := e
  cases hi with
  | tup s l =>
   cases l with
   | cons h1 l =>
    cases l with
    | cons h2 l =>
     cases l
     refine ⟨_, _, rfl, i.tup s, rfl, _, _, rfl, _, _, rfl, rfl, ?_⟩
     have := q _ (.cons h1 (.cons h2 .nil))
     match σb, hk with
     | x :: y :: r, _ => exact this
 ·intro σ F H R r c
  refine h σ F H R r fun J F' H' ts τ' f r' it ⟨τi, a, b, P, st, fin⟩ => c J F' H' ts τ' f r' it ⟨τi, a, b, P, fun i t e => ?_, fin⟩
  obtain ⟨a, b, e, tv⟩ := st i t e
  exact ⟨[a, b], ⟨a, b, e, rfl⟩, tv⟩
theorem xV {Ψ : Bool -> TSt -> Prop} (h : Ψ true τ) : TV B tYes τ Ψ := fun σ F H Q r c => c true F H τ Fr.refl r h
theorem oF : ∀ {os : List (Option Tr)}, (∀ o ∈ os, o ≠ none) -> (os.filterMap id).map some = os
 | [], _ => rfl
 | none :: _, h => absurd rfl (h _ List.mem_cons_self)
 | some t :: os, h => by
  show some t :: (os.filterMap id).map some = some t :: os
  rw [oF fun o ho => h o (List.mem_cons_of_mem _ ho)]
theorem ij (h : IV B wi τ fun ts τ1 => ∃ τi, lf τ1 fr τi /\ ts.length <= 100000 /\ ∃ P : Nat -> Tr -> Prop, (∀ i t, ts[i]? = some t -> EV B te (.fz t :: τi) fun k τ2 => rS k τ2 fun o _ => P i o) /\ ∀ os : List Tr, os.length = ts.length -> (∀ i o, os[i]? = some o -> P i o) -> Φ (.nw (.lst os)) τ1) : EV B (AX fr wi te) τ Φ := by
 refine gb fun σ F H R r c => h σ F H R r fun J F' H' ts τ' f r' it ⟨τi, a, b, P, st, fin⟩ => c J F' H' ts τ' f r' it ⟨τi, a, b, fun i o => match o with | some t => P i t | none => False, fun i t e => xV ?_, fun os hl hP => ?_⟩
 ·rw [if_pos rfl]; exact st i t e
 ·have e : (os.filterMap id).map some = os := by
   refine oF fun o ho => ?_
   obtain ⟨i, hi⟩ := List.getElem?_of_mem ho
   have := hP i o hi
   cases o with
   | none => exact this.elim
   | some => nofun
  refine fin _ (by rw [<- hl, <- List.length_map (f := some), e]) fun i o ho => ?_
  refine hP i (some o) ?_
  rw [<- e, List.getElem?_map, ho]; rfl
theorem xn {iy : Nat} {nx bk ct : TSt -> Prop} {rt : Kd -> Prop} (h : EV B (AX fr wi te) τ fun k τ1 => GA B (cG iy) k τ1 nx) : SV B (vb iy fr wi te) τ ⟨nx, rt, bk, ct⟩ := fun σ F H D r e => h σ F H _ r fun v F1 H1 k τ1 f r1 ok _ h1 => h1 σ F1 H1 v _ r1 ok fun σ' F' H' τ' s r' n => e.nx σ' F' H' τ' (f.f.trans s) r' n
end
section
variable {B : Bk} {τ τ' : TSt} {Φ : TK} {x : Kd} {i j : Int} {ts : List Tr} {b : Bool} {t : Tr} {K : Fg}
theorem uo (hK : K = B.K) (rk : Rk τ x (.lst ts)) (q : Φ (.fz (.int (ts.length : Nat))) τ) : RU B (fun v H Q => ∃ p ys, [v] = [V.ref p] /\ (cg K H p ys ∨ ci K H p ys) /\ Q (.int (ys.length : Nat)) H) x τ Φ := fun σ F H v Q r a c => by
 subst hK
 obtain ⟨p, vs, rfl, s, l⟩ := rk.list r a
 refine ⟨p, vs, rfl, .inl s, ?_⟩
 rw [l.length]; exact c.pl r .int q
theorem rD (hK : K = B.K) (rk : Rk τ x (.tup ts)) (q : Φ (.fz (.int (ts.length : Nat))) τ) : RU B (fun v H Q => ∃ p ys, [v] = [V.ref p] /\ (cg K H p ys ∨ ci K H p ys) /\ Q (.int (ys.length : Nat)) H) x τ Φ := fun σ F H v Q r a c => by
 subst hK
 obtain ⟨p, vs, rfl, s, l⟩ := rk.tuple r a
 refine ⟨p, vs, rfl, .inr s, ?_⟩
 rw [l.length]; exact c.pl r .int q
theorem xD (h : RU B (fun v H Q => ∃ p ys, [v] = [V.ref p] /\ (cg K H p ys ∨ ci K H p ys) /\ Q (.int (ys.length : Nat)) H) x τ Φ) : RU B (fun v H Q => yI K [v] H Q) x τ Φ := h
theorem qP {z : Str} (hl : z.length <= sizeLine) (q : Φ (.fz (.int (z.length : Nat))) τ) : RU B (fun v H Q => ∃ z, [v] = [V.str z] /\ z.length <= sizeLine /\ Q (.int (z.length : Nat)) H) (.fz (.str z)) τ Φ := fun σ F H v Q r a c => by
 cases dn a
 exact ⟨z, rfl, hl, c.pl r .int q⟩
theorem zB (q : Φ (.fz (.int (if i < 0 then -i else i))) τ) : RU B (fun v H Q => ∃ i, [v] = [V.int i] /\ Q (.int (if i < 0 then -i else i)) H) (.fz (.int i)) τ Φ := fun σ F H v Q r a c => by
 cases bT a
 exact ⟨i, rfl, c.pl r .int q⟩
theorem zu (q : Φ (.fz (.int (if b = true then 1 else 0))) τ) : RU B (fun v H Q => (∃ i, [v] = [V.int i] /\ Q (.int i) H) ∨ ∃ k, [v] = [V.bl k] /\ Q (.int (if k = true then 1 else 0)) H) (.fz (.bl b)) τ Φ := fun σ F H v Q r a c => by
 cases Bl a
 exact .inr ⟨b, rfl, c.pl r .int q⟩
theorem gc (hK : K = B.K) {bs : List Bool} (rk : Rk τ x (.lst (bs.map Tr.bl))) (q : Φ (.fz (.bl (bs.all fun b => b))) τ) : RU B (fun v H Q => Bb K [v] H Q) x τ Φ := fun σ F H v Q r a c => by
 subst hK
 obtain ⟨p, vs, rfl, s, l⟩ := rk.list r a
 rw [l.bls] at s
 exact ⟨p, bs, rfl, s, c.pl r .bl q⟩
theorem wI (hK : K = B.K) (rk : Rk τ x (.lst ts)) (q : Φ (.nw (.lst ts)) τ) : RU B (fun v H Q => ∃ p ys, [v] = [V.ref p] /\ (cg K H p ys ∨ ci K H p ys) /\ ∀ l, H l = none -> Q (.ref l) (upd H l (.lst ys))) x τ Φ := fun σ F H v Q r a c => by
 subst hK
 obtain ⟨p, vs, rfl, s, l⟩ := rk.list r a
 exact ⟨p, vs, rfl, .inl s, fun l' hl => c.nl r l hl q⟩
theorem um (hK : K = B.K) (rk : Rk τ x (.tup ts)) (q : Φ (.nw (.lst ts)) τ) : RU B (fun v H Q => ∃ p ys, [v] = [V.ref p] /\ (cg K H p ys ∨ ci K H p ys) /\ ∀ l, H l = none -> Q (.ref l) (upd H l (.lst ys))) x τ Φ := fun σ F H v Q r a c => by
 subst hK
 obtain ⟨p, vs, rfl, s, l⟩ := rk.tuple r a
 exact ⟨p, vs, rfl, .inr s, fun l' hl => c.nl r l hl q⟩
theorem zI (hK : K = B.K) (rk : Rk τ x (.lst ts)) (q : Φ (.fz (.tup ts)) τ) : RU B (fun v H Q => ∃ p ys, [v] = [V.ref p] /\ ((cg K H p ys /\ ∀ l, H l = none -> Q (.ref l) (upd H l (.tup ys))) ∨ (ci K H p ys /\ Q (.ref p) H))) x τ Φ := fun σ F H v Q r a c => by
 subst hK
 obtain ⟨p, vs, rfl, s, l⟩ := rk.list r a
 exact ⟨p, vs, rfl, .inl ⟨s, fun l' hl => c.nt r l hl q⟩⟩
theorem wE (q : Φ (.fz (.int (if j > i then j else i))) τ) : RO B (fun v w H Q => ∃ i j, [v, w] = [V.int i, V.int j] /\ Q (.int (if j > i then j else i)) H) (.fz (.int i)) (.fz (.int j)) τ Φ := fun σ F H v w Q r a b c => by
 cases bT a; cases bT b
 exact ⟨i, j, rfl, c.pl r .int q⟩
theorem xA (q : Φ (.fz (.int (if j < i then j else i))) τ) : RO B (fun v w H Q => ∃ i j, [v, w] = [V.int i, V.int j] /\ Q (.int (if j < i then j else i)) H) (.fz (.int i)) (.fz (.int j)) τ Φ := fun σ F H v w Q r a b c => by
 cases bT a; cases bT b
 exact ⟨i, j, rfl, c.pl r .int q⟩
noncomputable def Dt : Tr -> Option Tg
 | .non => some .non
 | .bl _ => some .bl
 | .int _ => some .int
 | .str _ => some .str
 | .tup _ => some .tup
 | .lst _ => some .lst
 | .dct _ => some .dic
 | .ty _ => none
theorem vH {F H : Hp} {v : V} {g : Tg} (i : aF F H) (h : Is K F v t) (e : Dt t = some g) : Cr K H v g := by
 cases h with
 | tup a b => cases e; exact ⟨_, i.tup a⟩
 | lst a b => cases e; exact ⟨_, i.seq a⟩
 | dct a b c => cases e; exact ⟨_, i _ _ a⟩
 | ty => cases e
 | _ => cases e; trivial
theorem vM (hK : K = B.K) {n : String} {f : Tg -> Bool} {g : Tg} (e : Dt t = some g) (q : Φ (.fz (.bl (f g))) τ) : RO B (fun v w H Q => gZ K n f [v, w] H Q) (.fz t) (.fz (.ty n)) τ Φ := fun σ F H v w Q r a b c => by
 subst hK
 cases (show Is B.K F w (.ty n) from b)
 exact ⟨v, g, rfl, vH r.inc a e, c.pl r .bl q⟩
theorem wU (hK : K = B.K) {n : String} {f : Tg -> Bool} {g : Tg} (e : Dt t = some g) (hb : f g = true) (q : Φ (.fz (.bl true)) τ) : RO B (fun v w H Q => gZ K n f [v, w] H Q) (.fz t) (.fz (.ty n)) τ Φ := vM hK e (by rw [hb]; exact q)
theorem xl (hK : K = B.K) {n : String} {f : Tg -> Bool} {g : Tg} (e : Dt t = some g) (hb : f g = false) (q : Φ (.fz (.bl false)) τ) : RO B (fun v w H Q => gZ K n f [v, w] H Q) (.fz t) (.fz (.ty n)) τ Φ := vM hK e (by rw [hb]; exact q)
theorem wO (h : t.isN = true) (q : Φ (.fz (.bl true)) τ) : RO B rIsN (.fz t) (.fz .non) τ Φ := dQ (by rw [h]; exact q)
theorem vU (h : t.isN = false) (q : Φ (.fz (.bl false)) τ) : RO B rIsN (.fz t) (.fz .non) τ Φ := dQ (by rw [h]; exact q)
end
end L2
namespace L2
open PySem PySem.Spec PyProof.Rows
theorem CK {α : Type} {l : List α} {n : Nat} {S : Prop} (h : l.length <= n) (q : S) : l.length <= n /\ S := ⟨h, q⟩
noncomputable def fC : List Tr -> List Tr -> List Tr
 | x :: r, y :: q => .tup [x, y] :: fC r q
 | _, _ => []
theorem iP : ∀ xs ys : List Tr, (fC xs ys).length = min xs.length ys.length
 | [], _ => by simp [fC]
 | _ :: _, [] => by simp [fC]
 | _ :: r, _ :: q => by
  simp only [fC, List.length_cons, iP r q]
  omega
theorem kg : ∀ (xs ys : List Tr) (i : Nat) (t : Tr), (fC xs ys)[i]? = some t -> ∃ x y, xs[i]? = some x /\ ys[i]? = some y /\ t = .tup [x, y]
 | [], _, _, _, h => by simp [fC] at h
 | _ :: _, [], _, _, h => by simp [fC] at h
 | x :: r, y :: q, 0, t, h => by simp [fC] at h; exact ⟨x, y, rfl, rfl, h.symm⟩
 | _ :: r, _ :: q, i + 1, t, h => by
  obtain ⟨x, y, h1, h2, h3⟩ := kg r q i t (by simpa [fC] using h)
  exact ⟨x, y, by simpa using h1, by simpa using h2, h3⟩
noncomputable def zn : Tr -> Option (Bool × List Tr)
 | .lst ts => some (false, ts)
 | .tup ts => some (true, ts)
 | _ => none
section
variable {B : Bk} {τ : TSt} {ta tb : TE}
variable {K : Fg}
theorem mQ {F H : Hp} {v : V} {t : Tr} {q : Bool} {ts : List Tr} (i : aF F H) (h : Is K F v t) (e : zn t = some (q, ts)) : ∃ a xs, v = .ref a /\ jD q K H a xs /\ IsL K F xs ts := by
 cases h with
 | lst a b => cases e; exact ⟨_, _, rfl, i.seq a, b⟩
 | tup a b => cases e; exact ⟨_, _, rfl, i.tup a, b⟩
 | _ => cases e
theorem jD.same {q : Bool} {H H' : Hp} {a : Addr} {xs : List V} (s : aF H H') (h : jD q K H a xs) : jD q K H' a xs := by
 cases q with
 | true => exact s.tup h
 | false => exact s.seq h
theorem BJ (hK : K = B.K) {Φ : List Tr -> TSt -> Prop} (h : EV B ta τ fun x τ1 => rS x τ1 fun t τ2 => EV B tb τ2 fun y τ3 => rS y τ3 fun u τ4 => ∃ q1 ts q2 us, zn t = some (q1, ts) /\ zn u = some (q2, us) /\ Φ (fC ts us) τ4) : IV B (CS K (cH ta (cH tb tNil))) τ Φ := fun σ F H R r c => by
 subst hK
 refine h σ F H _ r fun v F1 H1 k τ1 f1 r1 ok1 n1 h1 => ?_
 obtain ⟨F2, t, τ2, f2, r2, i2, h2, _⟩ := ge f1 r1 ok1 n1 h1
 refine h2 σ F2 H1 _ r2 fun w F3 H3 k3 τ3 f3 r3 ok3 n3 h3 => ?_
 obtain ⟨F4, u, τ4, f4, r4, i4, ⟨q1, ts, q2, us, e1, e2, h4⟩, _⟩ := ge f3 r3 ok3 n3 h3
 obtain ⟨a1, xs, rfl, s1, l1⟩ := mQ r4.inc (i2.same f4.f) e1
 obtain ⟨a2, ys, rfl, s2, l2⟩ := mQ r4.inc i4 e2
 obtain ⟨_, _, ea, s1', l1'⟩ := mQ (aF.refl F4) (i2.same f4.f) e1
 cases ea
 obtain ⟨_, _, eb, s2', l2'⟩ := mQ (aF.refl F4) i4 e2
 cases eb
 refine ⟨q1, q2, a1, a2, rfl, ⟨xs, s1⟩, ⟨ys, s2⟩, c _ F4 H3 _ τ4 (f2.trans f4) r4 (fun σ' τ' F' H' sF rH => ⟨fun i t e => ?_, ?_⟩) h4⟩
 ·obtain ⟨x0, y0, ex, ey, rfl⟩ := kg ts us i t e
  obtain ⟨w1, ew1, hw1⟩ := l1'.get ex
  obtain ⟨w2, ew2, hw2⟩ := l2'.get ey
  have t1 := jD.same rH.inc (jD.same sF s1')
  have t2 := jD.same rH.inc (jD.same sF s2')
  refine ⟨⟨_, _, w1, w2, t1, t2, ew1, ew2⟩, ?_⟩
  rintro x H2 ⟨p, y1, y2, rfl, hn, hy1, hy2, rfl⟩
  have g1 := hy1 _ t1
  have g2 := hy2 _ t2
  rw [ew1] at g1
  rw [ew2] at g2
  cases g1
  cases g2
  have u := rH.tup (vs := [w1, w2]) hn
  exact ⟨_, u, .tup (ci.of aL) (.cons ((hw1.same sF).same u.f) (.cons ((hw2.same sF).same u.f) .nil))⟩
 ·refine ⟨_, _, jD.same rH.inc (jD.same sF s1'), jD.same rH.inc (jD.same sF s2'), ?_⟩
  rw [l1'.length, l2'.length, iP]
  omega
end
section
variable {B : Bk} {τ τ' : TSt} {Φ : TK} {x y : Kd} {ts us : List Tr} {K : Fg}
theorem cC (hK : K = B.K) (r1 : Rk τ x (.lst ts)) (r2 : Rk τ y (.lst us)) (hl : ts.length + us.length <= 100000) (q : Φ (.nw (.lst (ts ++ us))) τ) : RO B (vF K) x y τ Φ := fun _ _ _ _ _ _ r a b c => by
 subst hK
 obtain ⟨p, vs, rfl, s, l⟩ := r1.list r a
 obtain ⟨p2, ws, rfl, s2, l2⟩ := r2.list r b
 exact ⟨p, p2, vs, ws, rfl, rfl, s, s2, by rw [l.length, l2.length]; exact Nat.le_trans hl (by decide), fun p' hp => c.nl r (l.app l2) hp q⟩
theorem Rk.isT {F H : Hp} {σ : St} {v : V} (h : Rk τ x (.tup ts)) (r : Rp B F H σ τ) (ok : fF B.K F σ v x) : Is B.K F v (.tup ts) := by
 cases h with
 | fz => exact ok
 | own g => obtain ⟨l, e, hw, _⟩ := r.ow _ _ g.eq; cases hw
 | vw g => obtain ⟨l, e, hw, _⟩ := r.vw _ _ g.eq; cases hw
 | sfz g =>
  obtain ⟨w, e, hi⟩ := r.fz _ _ g.eq
  cases aO e ok
  exact hi
end
end L2
namespace L2
open PySem PySem.Spec PyProof.Rows
inductive Dp : Nat -> Tr -> Prop
 | non {n : Nat} : Dp n .non
 | bl {n : Nat} {b : Bool} : Dp n (.bl b)
 | int {n : Nat} {i : Int} : Dp n (.int i)
 | str {n : Nat} {x : Str} : Dp n (.str x)
 | tup {n : Nat} {ts : List Tr} : (∀ t ∈ ts, Dp n t) -> Dp (n + 1) (.tup ts)
 | lst {n : Nat} {ts : List Tr} : (∀ t ∈ ts, Dp n t) -> Dp (n + 1) (.lst ts)
 | dct {n : Nat} : Dp n (.dct [])
variable {n : Nat}
theorem jR : ∀ t ∈ ([] : List Tr), Dp n t := fun _ h => absurd h List.not_mem_nil
variable {t : Tr}
theorem my {r : List Tr} (h : Dp n t) (g : ∀ t ∈ r, Dp n t) : ∀ u ∈ t :: r, Dp n u := List.forall_mem_cons.mpr ⟨h, g⟩
theorem Dp.up (h : Dp n t) : ∀ {m : Nat}, n <= m -> Dp m t := by
 induction h with
 | non => exact fun _ => .non
 | bl => exact fun _ => .bl
 | int => exact fun _ => .int
 | str => exact fun _ => .str
 | dct => exact fun _ => .dct
 | @tup n ts _ ih =>
  intro m hm
  obtain ⟨k, rfl⟩ : ∃ k, m = k + 1 := ⟨m - 1, by omega⟩
  exact .tup fun t ht => ih t ht (by omega)
 | @lst n ts _ ih =>
  intro m hm
  obtain ⟨k, rfl⟩ : ∃ k, m = k + 1 := ⟨m - 1, by omega⟩
  exact .lst fun t ht => ih t ht (by omega)
theorem vG {K : Fg} {F G H : Hp} (d : Dp n t) : ∀ {v w : V}, aF F H -> aF G H -> Is K F v t -> Is K G w t -> eX K H n v w := by
 induction d with
 | non => intro v w i j a b; cases a; cases b; exact .non
 | bl => intro v w i j a b; cases a; cases b; exact .bl
 | int => intro v w i j a b; cases a; cases b; exact .int
 | str => intro v w i j a b; cases a; cases b; exact .str
 | dct =>
  intro v w i j a b
  cases a with
  | @dct p kvs _ h1 k1 _ =>
   cases b with
   | @dct q kvs' _ h2 k2 _ =>
    cases kvs with
    | cons _ _ => cases k1
    | nil =>
     cases kvs' with
     | cons _ _ => cases k2
     | nil => exact .dct (i _ _ h1) (j _ _ h2)
 | tup _ ih =>
  intro v w i j a b
  cases a with
  | tup s1 l1 =>
   cases b with
   | tup s2 l2 =>
    refine .tup (i.tup s1) (j.tup s2) (by rw [l1.length, l2.length]) fun k x y hx hy => ?_
    obtain ⟨t1, e1, h1⟩ := l1.get2 hx
    obtain ⟨t2, e2, h2⟩ := l2.get2 hy
    rw [e1] at e2
    cases e2
    exact ih t1 (List.mem_of_getElem? e1) i j h1 h2
 | lst _ ih =>
  intro v w i j a b
  cases a with
  | lst s1 l1 =>
   cases b with
   | lst s2 l2 =>
    refine .lst (i.seq s1) (j.seq s2) (by rw [l1.length, l2.length]) fun k x y hx hy => ?_
    obtain ⟨t1, e1, h1⟩ := l1.get2 hx
    obtain ⟨t2, e2, h2⟩ := l2.get2 hy
    rw [e1] at e2
    cases e2
    exact ih t1 (List.mem_of_getElem? e1) i j h1 h2
section
variable {B : Bk} {τ τ' : TSt} {Φ : TK} {x y : Kd} {ts us : List Tr} {K : Fg} {b : Bool}
theorem fv (hK : K = B.K) {n : Nat} (d : ∀ t ∈ ts, Dp n t) (hn : n <= 100) (r1 : Rk τ x (.lst ts)) (r2 : Rk τ y (.lst ts)) (q : Φ (.fz (.bl b)) τ) : RO B (zx K b) x y τ Φ := fun _ _ _ _ _ _ r a b c => by
 subst hK
 obtain ⟨p, vs, rfl, s, l⟩ := r1.list r a
 obtain ⟨p2, ws, rfl, s2, l2⟩ := r2.list r b
 refine ⟨p, p2, rfl, rfl, ⟨n, vs, ws, hn, .inr ⟨s, s2⟩, by rw [l.length, l2.length], fun j x y hx hy => ?_⟩, c.pl r .bl q⟩
 obtain ⟨t1, e1, h1⟩ := l.get2 hx
 obtain ⟨t2, e2, h2⟩ := l2.get2 hy
 rw [e1] at e2
 cases e2
 exact vG (d t1 (List.mem_of_getElem? e1)) r.inc r.inc h1 h2
theorem iE {z : Str} : ∀ {ws : List Str}, uS (.str z) (ws.map V.str) = decide (z ∈ ws)
 | [] => rfl
 | x :: r => by
  have ih := iE (z := z) (ws := r)
  unfold uS at ih ⊢
  rw [List.map_cons, List.any_cons, ih]
  show ((x == z) || decide (z ∈ r)) = _
  by_cases h : x = z
  ·subst h; simp
  ·have h1 : (x == z) = false := by simpa using h
   rw [h1, Bool.false_or]
   by_cases k : z ∈ r
   ·rw [decide_eq_true k, decide_eq_true (List.mem_cons_of_mem _ k)]
   ·rw [decide_eq_false k, decide_eq_false (fun q => (List.mem_cons.mp q).elim (fun e => h e.symm) k)]
theorem fX : ∀ {ws : List Str}, (ws.map V.str).all eE = true
 | [] => rfl
 | _ :: _ => by rw [List.map_cons, List.all_cons, fX]; rfl
theorem jk (hK : K = B.K) {ws : List Str} {z : Str} (r2 : Rk τ y (.lst (ws.map Tr.str))) (q : Φ (.fz (.bl (decide (z ∈ ws)))) τ) : RO B (vS K false) (.fz (.str z)) y τ Φ := fun σ F H v w Q r a b c => by
 subst hK
 cases dn a
 obtain ⟨p, vs, rfl, s, l⟩ := r2.list r b
 rw [l.strs] at s
 refine ⟨p, _, rfl, .inl s, rfl, fX, ?_⟩
 rw [iE]; exact c.pl r .bl q
theorem gM (hK : K = B.K) {f : Bool -> Bool} (r1 : Rk τ x (.lst ts)) (r2 : Rk τ y (.lst [])) (q : Φ (.fz (.bl (f ts.isEmpty))) τ) : RO B (zo K f) x y τ Φ := fun σ F H v w Q r a b c => by
 subst hK
 obtain ⟨p, vs, rfl, s, l⟩ := r1.list r a
 obtain ⟨p2, ws, rfl, s2, l2⟩ := r2.list r b
 cases l2
 refine ⟨p, p2, vs, rfl, rfl, s, s2, ?_⟩
 have e : vs.isEmpty = ts.isEmpty := by cases l <;> rfl
 rw [e]; exact c.pl r .bl q
end
section
variable {B : Bk} {τ : TSt} {Φ : TK}
end
end L2
namespace L2
open PySem PySem.Spec PyProof.Rows
variable {F : Hp}
theorem uX {B : Bk} {vs : List V} {t u : Tr} (h : mD B F vs [.fz t, .fz u]) : ∃ v w, vs = [v, w] /\ Is B.K F v t /\ Is B.K F w u := by
 cases h with
 | cons a b =>
  cases b with
  | cons b c => cases c; exact ⟨_, _, rfl, a, b⟩
noncomputable def addT (F H : Hp) : Hp := fun p => match F p with
 | some o => some o
 | none => match H p with
  | some (.tup xs) => some (.tup xs)
  | some (.frz o (.tup xs)) => some (.frz o (.tup xs))
  | _ => none
variable {H : Hp}
theorem iU {p : Addr} {o : HO} (h : addT F H p = some o) : F p = some o ∨ (F p = none /\ H p = some o /\ ¬ Mb o) := by
 unfold addT at h
 cases e : F p with
 | some o' => rw [e] at h; exact .inl h
 | none =>
  rw [e] at h
  refine .inr ⟨rfl, ?_⟩
  cases e2 : H p with
  | none => rw [e2] at h; cases h
  | some o2 =>
   rw [e2] at h
   cases o2 with
   | tup xs => cases h; exact ⟨rfl, fun z => z⟩
   | frz o3 u =>
    cases u with
    | tup xs => cases h; exact ⟨rfl, fun z => z⟩
    | _ => cases h
   | _ => cases h
theorem AO {B : Bk} {H' : Hp} (k : tP B) (hF : B.F0 = F) (hH : B.H0 = H) (s : aF H H') : Up B F H (addT F H') H' where
 f := fun b o e => by unfold addT; rw [e]
 h := fun p o _ e => s p o e
 i := fun p o e => by
  rcases iU e with e | ⟨_, e, _⟩
  ·exact s p o (by rw [<- hH]; exact k.i p o (by rw [hF]; exact e))
  ·exact e
 m := fun p o hp mb n => by
  cases e : addT F H' p with
  | none => rfl
  | some o2 =>
   rcases iU e with e | ⟨_, e, nm⟩
   ·rw [n] at e; cases e
   ·have := s p o hp
    rw [this] at e
    cases e
    exact (nm mb).elim
 w := fun p e => s.free e
 x := fun p hw n => by
  cases e : addT F H' p with
  | none => rfl
  | some o2 =>
   rcases iU e with e | ⟨_, e, nm⟩
   ·rw [n] at e; cases e
   ·obtain ⟨o, ho, mb⟩ := B.jm H' p (B.jl H H' (fun p hw => by
     cases e : H p with
     | none => exact absurd (by rw [hH]; exact e) (k.wa p hw)
     | some o => rw [s p o e]) (fun p φ z => s p _ z) (by rw [<- hH]; exact k.wj)) hw
    rw [ho] at e
    cases e
    exact (nm mb).elim
 j := fun h => B.jl _ _ (fun p hw => by
  cases e : H p with
  | none => exact absurd (by rw [hH]; exact e) (k.wa p hw)
  | some o => rw [s p o e]) (fun p φ z => s p _ z) h
theorem ci.addT {K : Fg} {p : Addr} {xs : List V} (i : aF F H) (h : ci K H p xs) : ci K (addT F H) p xs := by
 rcases h with (h | ⟨o, h⟩) | h
 ·refine .inl (.inl ?_)
  unfold L2.addT
  cases e : F p with
  | some o => exact (i p o e).symm.trans h
  | none => show (match H p with | some (.tup xs) => some (HO.tup xs) | some (.frz o (.tup xs)) => some (HO.frz o (.tup xs)) | _ => none) = _; rw [h]
 ·refine .inl (.inr ⟨o, ?_⟩)
  unfold L2.addT
  cases e : F p with
  | some o2 => exact (i p o2 e).symm.trans h
  | none => show (match H p with | some (.tup xs) => some (HO.tup xs) | some (.frz o (.tup xs)) => some (HO.frz o (.tup xs)) | _ => none) = _; rw [h]
 ·exact .inr h
end L2
namespace L2
open PySem PySem.Spec PyProof.Rows
noncomputable def BA (B : Bk) (D : Ends) (t : TS) (τ : TSt) : Prop := ∀ σ F H, Rp B F H σ τ -> t D σ H
section
variable {B : Bk} {τ : TSt} {s1 s2 : TS} {D : Ends} {i j : Nat} {ts us : List Tr}
theorem EB {rt : Kd -> Prop} (hD : ∀ v F' H' k, Up B B.F0 B.H0 F' H' -> ly B F' H' v k -> rt k -> D.rt v H') (h : SV B s1 τ ⟨fun _ => False, rt, fun _ => False, fun _ => False⟩) : BA B D s1 τ := fun σ F H r =>
 h σ F H _ r ⟨fun _ _ _ _ _ _ z => z.elim, hD, fun _ _ _ _ _ _ z => z.elim, fun _ _ _ _ _ _ z => z.elim⟩
end
noncomputable def bkL (K : Fg) (F H : Hp) (p : Addr) (l : List (Addr × List V)) : Bk where
 K := K
 F0 := F
 H0 := H
 W := fun q => ∃ vs, (q, vs) ∈ l
 J := fun H' => ∀ x ∈ l, H' x.1 = some (.lst x.2)
 rt := p
 jl := fun H H' e _ h x hx => by rw [<- e x.1 ⟨x.2, hx⟩]; exact h x hx
 jm := fun H q h hw => by
  obtain ⟨vs, hx⟩ := hw
  exact ⟨_, h _ hx, trivial⟩
section
variable {B : Bk} {τ : TSt} {σ : St} {F H F' H' : Hp} {p : Addr} {l : List (Addr × List V)} {k : Nat}
variable {D : Ends} {s2 : TS}
variable {B' : Bk} {a b : Addr} {ws : List V} {ts us ms : List Tr}
theorem vz {K : Fg} {H : Hp} {a : Addr} {ns : List Int} {Q : VK} (hS : cg K H a (ns.map V.int)) (q : ∀ H', Q (.bl true) H') (N : List Str) (t : TS) (h : ∀ D : Ends, (∀ H', D.rt (.bl true) H') -> BA (bkL K H H a []) D t (eO N.length [.fz (.lst (ns.map Tr.int))])) : t { nx := fun _ H' => Q .non H', rt := Q } (cT N [.ref a]) H :=
 h _ q _ H H (oh (B := bkL K H H a []) ⟨aF.refl _, fun q hw => (by obtain ⟨_, hx⟩ := hw; exact absurd hx List.not_mem_nil), fun q hw => (by obtain ⟨_, hx⟩ := hw; exact absurd hx List.not_mem_nil), fun x hx => absurd hx List.not_mem_nil⟩ (.cons (a := .fz _) (.lst hS (IsL.ofInts ns)) .nil))
theorem zL {rt : Kd -> Prop} {s1 : TS} (hD : ∀ H', D.rt (.bl true) H') (h : SV B s1 τ ⟨fun _ => False, fun k => k = .fz (.bl true), fun _ => False, fun _ => False⟩) : BA B D s1 τ := EB (rt := fun k => k = .fz (.bl true)) (fun v F' H' k _ ok e => by
 subst e
 cases (show Is B.K F' v (.bl true) from ok)
 exact hD H') h
end
end L2
namespace L2
open PySem PySem.Spec PyProof.Rows
section
variable {B B' : Bk} {τ τ' : TSt} {D : Ends} {s2 : TS} {p a b : Addr} {vs ws : List V} {ts us : List Tr} {k : Nat}
end
end L2
namespace L2
open PySem PySem.Spec PyProof.Rows
section
variable {B : Bk} {τ τ' : TSt} {k : Nat}
noncomputable abbrev Bk.at (B : Bk) (l : Addr) : Bk := { B with rt := l }
end
end L2
namespace L2
end L2
namespace L2
open PySem PySem.Spec PyProof.Rows
section
variable {B : Bk} {τ τ1 : TSt} {Φ : TK} {te : TE} {K : Fg} {x y : Kd}
noncomputable def dG (z : Str) : List Tr := z.cps.toList.map fun c => .str ⟨#[c]⟩
theorem xG {Φ : List Tr -> TSt -> Prop} (h : EV B te τ fun x τ1 => ∃ z : Str, x = .fz (.str z) /\ Φ (dG z) τ1) : IV B (AN te) τ Φ := fun σ F H R r c => by
 refine h σ F H _ r fun v F1 H1 k τ1 f1 r1 ok1 _ h1 => ?_
 obtain ⟨z, rfl, h2⟩ := h1
 cases (show Is B.K F1 v (.str z) from ok1)
 have ls : (dG z).length = z.cps.size := by unfold dG; rw [List.length_map]; simp
 refine ⟨z, rfl, c _ F1 H1 (dG z) τ1 f1 r1 (fun σ' τ' F' H' sF rH => ⟨fun i t e => ?_, by rw [ls]; exact Nat.le_refl _⟩) h2⟩
 have hi : i < (dG z).length := (List.getElem?_eq_some_iff.mp e).1
 refine ⟨by rw [ls] at hi; exact hi, fun x H2 yy => ?_⟩
 obtain ⟨rfl, c0, hc, rfl⟩ := yy
 unfold dG at e
 rw [List.getElem?_map, hc] at e
 cases e
 exact ⟨F', Up.refl rH.inc, .str⟩
theorem yA {i j : Str} (q : Φ (.fz (.bl (!(Builtin.Str.occurrences j i 0 j.length 1).isEmpty))) τ) : RO B (fun x y H Q => ∃ i j, x = V.str i /\ y = V.str j /\ Q (.bl (!(Builtin.Str.occurrences j i 0 j.length 1).isEmpty)) H) (.fz (.str i)) (.fz (.str j)) τ Φ := fun σ F H v w Q r a b c => by
 cases dn a
 cases dn b
 exact ⟨i, j, rfl, rfl, c.pl r .bl q⟩
theorem bN (hK : K = B.K) {ws : List Str} {z : Str} (r2 : Rk τ y (.tup (ws.map Tr.str))) (q : Φ (.fz (.bl (decide (z ∈ ws)))) τ) : RO B (vS K false) (.fz (.str z)) y τ Φ := fun σ F H v w Q r a b c => by
 subst hK
 cases dn a
 obtain ⟨p, vs, rfl, s, l⟩ := r2.tuple r b
 rw [l.strs] at s
 refine ⟨p, _, rfl, .inr s, rfl, fX, ?_⟩
 rw [iE]; exact c.pl r .bl q
theorem de (hK : K = B.K) {ws : List Str} {z : Str} (r2 : Rk τ y (.tup (ws.map Tr.str))) (q : Φ (.fz (.bl (!decide (z ∈ ws)))) τ) : RO B (vS K true) (.fz (.str z)) y τ Φ := fun σ F H v w Q r a b c => by
 subst hK
 cases dn a
 obtain ⟨p, vs, rfl, s, l⟩ := r2.tuple r b
 rw [l.strs] at s
 refine ⟨p, _, rfl, .inr s, rfl, fX, ?_⟩
 rw [iE]; exact c.pl r .bl q
theorem nR : ∀ {ns : List Int}, (ns.map V.int).all eE = true
 | [] => rfl
 | _ :: _ => by rw [List.map_cons, List.all_cons, nR]; rfl
theorem qX {z : Int} : ∀ {ns : List Int}, uS (.int z) (ns.map V.int) = decide (z ∈ ns)
 | [] => rfl
 | x :: r => by
  have ih := qX (z := z) (ns := r)
  unfold uS at ih ⊢
  rw [List.map_cons, List.any_cons, ih]
  show ((x == z) || decide (z ∈ r)) = _
  by_cases h : x = z
  ·subst h; simp
  ·have h1 : (x == z) = false := by simpa using h
   rw [h1, Bool.false_or]
   by_cases k : z ∈ r
   ·rw [decide_eq_true k, decide_eq_true (List.mem_cons_of_mem _ k)]
   ·rw [decide_eq_false k, decide_eq_false (fun q => (List.mem_cons.mp q).elim (fun e => h e.symm) k)]
theorem rR (hK : K = B.K) {ns : List Int} {z : Int} (r2 : Rk τ y (.tup (ns.map Tr.int))) (q : Φ (.fz (.bl (decide (z ∈ ns)))) τ) : RO B (vS K false) (.fz (.int z)) y τ Φ := fun σ F H v w Q r a b c => by
 subst hK
 cases bT a
 obtain ⟨p, vs, rfl, s, l⟩ := r2.tuple r b
 rw [l.ints] at s
 refine ⟨p, _, rfl, .inr s, rfl, nR, ?_⟩
 rw [qX]; exact c.pl r .bl q
end
end L2
namespace L2
open PySem PySem.Spec PyProof.Rows
noncomputable def fq (acc : List Str) (z : Str) : List Str := if z ∈ acc then acc else acc ++ [z]
noncomputable def cY (ws : List Str) : List Str := ws.foldl fq []
theorem sK (ws : List Str) (z : Str) : cY (ws ++ [z]) = fq (cY ws) z := by unfold cY; rw [List.foldl_append]; rfl
theorem uu {acc : List Str} {z x : Str} : x ∈ fq acc z ↔ x ∈ acc ∨ x = z := by
 unfold fq
 split
 ·rename_i h; exact ⟨.inl, fun q => q.elim id fun e => e ▸ h⟩
 ·rw [List.mem_append, List.mem_singleton]
theorem jI {acc : List Str} {z : Str} : (fq acc z).length = if decide (z ∈ acc) = true then acc.length else acc.length + 1 := by
 unfold fq
 by_cases h : z ∈ acc
 ·rw [if_pos h, decide_eq_true h, if_pos rfl]
 ·rw [if_neg h, decide_eq_false h, if_neg Bool.false_ne_true, List.length_append]; rfl
theorem qV : ∀ ws : List Str, (cY ws).length <= ws.length := by
 have g : ∀ (ws acc : List Str), (ws.foldl fq acc).length <= acc.length + ws.length := by
  intro ws
  induction ws with
  | nil => intro acc; exact Nat.le_refl _
  | cons z r ih =>
   intro acc
   have h1 := ih (fq acc z)
   have h2 : (fq acc z).length <= acc.length + 1 := by rw [jI]; split <;> omega
   rw [List.foldl_cons, List.length_cons]
   omega
 intro ws
 have := g ws []
 unfold cY
 simpa using this
section
variable {prog : Program} {w : World} {A : Around} {R : Result -> Shared -> Prop} {I : Addr} {fp wr : List Addr} {G : Array GenState -> Array GenState -> Prop} {n : Nat} {P : Nat -> Value -> Prop} {St : Nat -> Shared -> Prop}
theorem ug (W : WalksS prog w A.in1 I fp wr G n P St) (S : Addr) (nS : S ∉ fp) (ws : List Str) (lw : ws.length = n)
  (tx : ∀ i v, P i v -> ∃ z t, ws[i]? = some z /\ v = .str z t) (room : n + 1 < scanBound) : ∀ (k i : Nat) (s : Shared), n - i = k -> i <= n -> St i s ->
   s.heap.SetOf (strKind prog w) S (fun x => decide (x ∈ cY (ws.take i))) (cY (ws.take i)).length ->
   (∀ s', Moved (S :: wr) G s s' -> s'.heap.SetOf (strKind prog w) S (fun x => decide (x ∈ cY ws)) (cY ws).length -> R (.ok (.ret .none)) s') ->
   codeAny (model prog w) A (.builtin "set.update.loop" ⟨[.ref S, .ref I], []⟩) R s := by
 have nW : S ∉ wr := fun z => nS (W.sub _ z)
 have up : ∀ b ∈ wr, b ∈ S :: wr := fun b z => List.mem_cons_of_mem _ z
 have on : ∀ {s s' : Shared} {f : Str -> Bool} {m : Nat}, Moved wr G s s' -> s.heap.SetOf (strKind prog w) S f m -> s'.heap.SetOf (strKind prog w) S f m := fun mv q => by
  obtain ⟨o, es, ep, t, ho, r⟩ := q
  exact ⟨o, es, ep, t, mv.heap S _ nW ho, r⟩
 intro k
 induction k with
 | zero =>
  intro i s ek il st hS fin
  obtain rfl : i = n := by omega
  refine codeAny_builtin F.entry_set_update_loop ?_
  rw [Around.under_plainId F.plain_set_update_loop _]
  refine wpAny_bind (m := pyNext (.ref I)) (W.done s _ _ st fun s' mv => ?_)
  refine wpAny_pure (fin s' (mv.mono up) ?_)
  have q := on mv hS
  rw [<- lw, List.take_length] at q
  exact q
 | succ k ih =>
  intro i s ek il st hS fin
  have lt : i < n := by omega
  refine codeAny_builtin F.entry_set_update_loop ?_
  rw [Around.under_plainId F.plain_set_update_loop _]
  refine wpAny_bind (m := pyNext (.ref I)) (W.item i s _ _ lt st fun v s' pv st' mv => ?_)
  obtain ⟨z, t, ez, rfl⟩ := tx i v pv
  have hS' := on mv hS
  refine wpAny_bind (m := holding [Value.str z t] (setAdd S (.str z t))) (wpAny_holding ?_)
  unfold setAdd
  refine wpAny_holding (wpAny_bind ((strKind prog w).pyHash (k := z) (strKind_is _ _ _ _) ?_))
  have rm : (cY (ws.take i)).length + 1 < scanBound := by
   have h1 := qV (ws.take i)
   rw [List.length_take] at h1
   omega
  refine wpAny_setAddHashed_of (knd := strKind prog w) (s := { s' with toks := s'.toks + 1 }) (strKind_is _ _ _ _) rfl hS' rm fun h' sb hS2 => ?_
  have ei : cY (ws.take (i + 1)) = fq (cY (ws.take i)) z := by rw [List.take_succ, ez]; exact sK _ _
  have hN : h'.SetOf (strKind prog w) S (fun x => decide (x ∈ cY (ws.take (i + 1)))) (cY (ws.take (i + 1))).length :=
   SetOf_congr hS2 (fun x => by rw [ei, Bool.eq_iff_iff, decide_eq_true_eq, uu, Bool.or_eq_true, decide_eq_true_eq, decide_eq_true_eq]) (by rw [ei, jI])
  refine wpAny_pure ⟨plainId_quiet F.plain_set_update_loop _, ih (i + 1) _ (by omega) lt (W.frame _ s' _ _ st' (Nat.le_succ _) fun b z o e => ?_) hN fun s'' mv2 q => ?_⟩
  ·rw [sb.2 b (fun y : b = S => nS (by rw [<- y]; exact z))]; exact e
  ·refine fin s'' (Moved.trans W.gtrans ((mv.mono up).then_heap (Nat.le_succ _) fun b o z e => ?_) mv2) q
   rw [sb.2 b (fun y : b = S => z (by rw [y]; exact List.mem_cons_self))]; exact e
end
end L2
namespace L2
open PySem PySem.Spec PyProof.Rows
section
variable {prog : Program} {w : World} {A : Around} {E : Value -> Shared -> Prop} {s : Shared}
noncomputable abbrev noSet (b : Bool) : Obj := { cls := .type "set", dict := none, data := .set #[] 0 (.fresh 0 0 b) }
set_option maxHeartbeats 6400000 in
theorem pD {l : Addr} {its : Array Value} {ws : List Str} {Q : Value -> Shared -> Prop} (nh : A.handled = none) (tl : s.heap.IsTuple l its) (lw : ws.length = its.size) (tx : ∀ (i : Nat) (v : Value), its[i]? = some v -> ∃ z t, ws[i]? = some z /\ v = Value.str z t) (room : its.size + 1 < scanBound)
  (q : ∀ (h' : Heap) (tk : Nat), h'.SetOf (strKind prog w) s.heap.objs.size (fun x => decide (x ∈ cY ws)) (cY ws).length -> (∀ b o, b < s.heap.objs.size -> s.heap.get? b = some o -> h'.get? b = some o) -> Q (.ref s.heap.objs.size) { s with heap := h', toks := tk }) :
  wpAny (model prog w) A (call (.type "set") [.ref l]) Q E s := by
 obtain ⟨c0, c1, order⟩ := F.called_set.mro
 have made := F.called_set.made
 have sub0 := F.called_set.sub
 refine wpAny_call (codeAny_of_tree ?_)
 show wpAny _ _ (callAny (.type "set") _) _ _ _
 refine wpAny_pure ⟨Code.quiet_builtin _ (by decide +kernel), codeAny_builtin F.entry_type_call ?_⟩
 rw [Around.under_plain (weight_type_call_type "set" [.ref l] []) rfl]
 have k1 := F.called_set.notType
 have k2 := F.called_set.canCreate
 have k3 := F.typeCall_set_1 (.ref l)
 repeat any_goals first | assumption | wp_step
 refine codeAny_mono (code_set_new_1 (.ref l) (E := E) (Q₁ := fun v s1 => ∃ ld : Bool, v = .ref s.heap.objs.size /\ s1 = { s with heap := s.heap.push (noSet ld) }) fun ld => ⟨ld, rfl, rfl⟩) fun r s1 hr => ?_
 cases r with
 | error e => exact hr
 | ok fl =>
  cases fl with
  | ret v =>
   obtain ⟨ld, rfl, rfl⟩ := hr
   have gS : (s.heap.push (noSet ld)).get? s.heap.objs.size = some (noSet ld) := Heap.get?_push_size _ rfl
   have ty : Shared.TypeIs { s with heap := s.heap.push (noSet ld) } (.ref s.heap.objs.size) "set" := ⟨_, gS, rfl⟩
   have i1 := F.called_set.init.lookup
   have i2 := F.called_set.init.bind (.ref s.heap.objs.size)
   repeat any_goals first | assumption | wp_step
   refine codeAny_mono (codeAny_call_builtin (R := wants (fun r s2 => r = .none /\ ∃ h' tk, s2 = { s with heap := h', toks := tk } /\ h'.SetOf (strKind prog w) s.heap.objs.size (fun x => decide (x ∈ cY ws)) (cY ws).length /\ ∀ b o, b < s.heap.objs.size -> s.heap.get? b = some o -> h'.get? b = some o) E) F.called_set.init.plain F.entry_set_init (check_set_init_1 ty ?_)) fun r2 s2 hr2 => ?_
   ·obtain ⟨ot, got, ct, nt, dt⟩ := tl
    obtain ⟨oc, od, odt, os⟩ := ot
    simp only at ct dt
    subst ct; subst dt
    have got1 : (s.heap.push (noSet ld)).get? l = some { cls := .type "tuple", dict := od, data := .seq its nt, slots := os } := Heap.get?_push_of_some _ got
    have t1 := F.sub_tuple_set
    have t2 := F.sub_tuple_frozenset
    have t3 : (Value.type "tuple" == Value.type "dict") = false := by decide
    have tl1 : (s.heap.push (noSet ld)).IsTuple l its := ⟨_, got1, rfl, nt, rfl⟩
    unfold Builtin.«set.__init__» noKeywords Builtin.Frozenset.updateFrom
    generalize ePI : pyIter = PI
    wp_walk
    subst ePI
    refine wpAny_pyIter_tuple tl1 ?_
    refine wpAny_bind (wpAny_runValue ?_)
    have lS : l < s.heap.objs.size := Heap.lt_size got
    have nh3 : A.in1.in1.in1.handled = none := by simp [nh]
    have sz : (s.heap.push (noSet ld)).objs.size = s.heap.objs.size + 1 := Heap.size_push ..
    have nI : l ≠ (s.heap.push (noSet ld)).objs.size := by rw [sz]; exact Nat.ne_of_lt (Nat.lt_succ_of_lt lS)
    have nS : s.heap.objs.size ∉ [(s.heap.push (noSet ld)).objs.size, l] := by
     rw [sz]
     simp only [List.mem_cons, List.not_mem_nil, or_false, not_or]
     exact ⟨Nat.ne_of_lt (Nat.lt_succ_self _), Nat.ne_of_gt lS⟩
    refine ug ((Walks.tuple nh3 _ l nI its).toS) s.heap.objs.size nS ws lw tx room (its.size - 0) 0 _ (by omega) (Nat.zero_le _) ⟨⟨_, Heap.get?_push_size _ rfl, rfl, rfl⟩, (tl1.push _)⟩ ?z0 ?z1
    case z0 =>
     exact SetOf_congr ((setObjOf_fresh (knd := strKind prog w) ld).setOf (Heap.get?_push_of_some _ gS) (by unfold scanBound; omega)) (fun x => by simp [cY]) rfl
    case z1 =>
     intro s' mv gs
     obtain ⟨h', g', d', tk', os'⟩ := s'
     obtain rfl : g' = s.gens := mv.gens
     obtain rfl : d' = s.drawn := mv.drawn
     obtain rfl : os' = s.os := mv.os
     refine wpAny_pure ?_
     show wpAny _ _ (ret Value.none) _ _ _
     refine wpAny_pure ⟨rfl, h', tk', rfl, gs, fun b o lb e => mv.heap b o ?_ (Heap.get?_push_of_some _ (Heap.get?_push_of_some _ e))⟩
     simp only [List.mem_cons, List.not_mem_nil, or_false, not_or]
     rw [sz]
     exact ⟨Nat.ne_of_lt lb, Nat.ne_of_lt (Nat.lt_succ_of_lt lb)⟩
   ·cases r2 with
    | error e => exact hr2
    | ok f2 =>
     cases f2 with
     | ret v2 =>
      obtain ⟨rfl, h', tk, rfl, gs, kp⟩ := hr2
      repeat any_goals first | assumption | wp_step
      exact q _ _ gs kp
     | _ => exact hr2.elim
  | _ => exact hr.elim
end
end L2
namespace L2
open PySem PySem.Spec PyProof.Rows
noncomputable def vy (P : Program) (w : World) (a : Addr) (n : Nat) : HO := .ext fun h => ∃ S : Str -> Bool, h.SetOf (strKind P w) a S n
theorem rB : ∀ {ws : List Str} {its : List Value}, bd (ws.map V.str) its -> ∀ (i : Nat) (v : Value), its[i]? = some v -> ∃ z t, ws[i]? = some z /\ v = Value.str z t
 | [], _, .nil, i, v, h => by simp at h
 | z :: r, _, .cons a b, 0, v, h => by
  obtain ⟨t, rfl⟩ := a
  have h : some (Value.str z t) = some v := h
  cases h
  exact ⟨z, t, rfl, rfl⟩
 | z :: r, _, .cons a b, i + 1, v, h => rB b i v h
noncomputable def xU (P : Program) (w : World) (K : Fg) : List V -> Hp -> VK -> Prop := fun xs H Q => ∃ (p : Addr) (ws : List Str), xs = [.ref p] /\ ci K H p (ws.map V.str) /\ ws.length <= 1000 /\ ∀ l, H l = none -> Q (.ref l) (upd H l (vy P w l (cY ws).length))
noncomputable def xN (P : Program) (w : World) : List V -> Hp -> VK -> Prop := fun xs H Q => ∃ (a : Addr) (n : Nat), xs = [.ref a] /\ H a = some (vy P w a n) /\ n <= 1000 /\ Q (.int (n : Nat)) H
section
variable {X : Cx}
theorem lD (hc : X.calm = true) : bY X (.type "set") (xU X.prog X.w X.K) := by
 intro pins s σ H xs us Q I r h
 obtain ⟨p, ws, rfl, hq, hl, q⟩ := h
 obtain ⟨u, rfl, ru⟩ := r.one
 cases ru
 obtain ⟨its, v, pl, _⟩ := I.tuple hq
 have ln : ws.length = its.toArray.size := by
  have := v.length
  rw [List.length_map] at this
  simpa using this
 obtain ⟨o, ho, hcl, n, hd⟩ := pl
 refine pD (ws := ws) (I.ok.hd hc) ⟨o, ho, hcl, n, hd⟩ ln (fun i v' hv => rB v i v' (by simpa using hv)) (by rw [<- ln]; unfold scanBound; omega) fun h' tk gs kp => ?_
 refine ⟨.ref s.heap.objs.size, _, I.laid (t' := tk) (fun b u e => kp b u (Heap.lt_size e) e) (Nat.le_refl _) (o := vy X.prog X.w s.heap.objs.size (cY ws).length) ?_, rfl, q _ (I.hok.fresh (Nat.le_refl _))⟩
 refine ⟨⟨_, gs⟩, ?_, fun h1 h2 ⟨S, g⟩ k => ?_⟩
 ·obtain ⟨o2, _, _, _, e, _⟩ := gs
  exact ⟨o2, e⟩
 ·obtain ⟨o2, es, ep, t, e, r⟩ := g
  exact ⟨S, o2, es, ep, t, k o2 e, r⟩
theorem lv : bY X (.builtin "len") (xN X.prog X.w) := by
 intro pins s σ H xs us Q I r h
 obtain ⟨a, n, rfl, ha, hn, q⟩ := h
 obtain ⟨u, rfl, ru⟩ := r.one
 cases ru
 obtain ⟨⟨S, o, es, ep, t, ho, hex, hd, _, _, _, hf, en⟩, _⟩ := (show bz X.prog X.w H s.heap a (vy X.prog X.w a n) from I.hok a _ ha)
 subst en
 exact call_len_set ho hex hd hf (by omega) ⟨.int _, H, I.tok _, ⟨_, rfl⟩, q⟩
theorem tX : bootBuiltins "set" = some (.type "set") := by decide +kernel
end
section
variable {B : Bk} {τ : TSt} {Φ : TK} {te : TE} {K : Fg} {P : Program} {w : World}
theorem nQ (hK : K = B.K) (h : EV B te τ fun x τ1 => ∃ ws : List Str, x = .fz (.tup (ws.map Tr.str)) /\ ws.length <= 1000 /\ Φ (.fz (.int ((cY ws).length : Nat))) τ1) : EV B (wc (xN P w) (cH (wc (xU P w K) (cH te tNil)) tNil)) τ Φ := fun σ F H Q r c => by
 subst hK
 refine h σ F H _ r fun v F1 H1 k τ1 f1 r1 ok1 _ h1 => ?_
 obtain ⟨ws, rfl, hl, q⟩ := h1
 cases (show Is B.K F1 v (.tup (ws.map Tr.str)) from ok1) with
 | tup s l =>
  rw [l.strs] at s
  refine ⟨_, ws, rfl, r1.inc.tup s, hl, fun p hp => ?_⟩
  refine ⟨p, (cY ws).length, rfl, aL, Nat.le_trans (qV ws) hl, ?_⟩
  have u := r1.new (o := vy P w p (cY ws).length) hp
  exact ((c.on f1).on (Fr.up u)).pl (r1.go u) .int q
end
end L2
namespace L2
open PySem PySem.Spec PyProof.Rows
section
variable {prog : Program} {w : World} {A : Around} {E : Value -> Shared -> Prop} {s : Shared}
end
section
variable {X : Cx}
end
section
variable {B : Bk} {τ : TSt} {Φ : TK} {te : TE} {K : Fg} {P : Program} {w : World}
end
end L2
namespace L2
open PySem PySem.Spec PyProof.Rows
section
variable {B : Bk} {τ τ1 : TSt} {k : Nat} {F H F2 H2 : Hp} {σ : St} {l : Addr} {Ok : List V -> Prop}
end
end L2
namespace L2
open PySem PySem.Spec PyProof.Rows
section
variable {B : Bk} {τ : TSt} {ta tb tc : TE}
noncomputable def stepT (lo c : Int) (n : Nat) : List Tr := (List.range n).map fun i => .int (lo + (i : Nat) * c)
theorem iM {lo c : Int} {n : Nat} : (stepT lo c n).length = n := by unfold stepT; rw [List.length_map, List.length_range]
theorem nZ {lo c : Int} {n i : Nat} {t : Tr} (h : (stepT lo c n)[i]? = some t) : i < n /\ t = .int (lo + (i : Nat) * c) := by
 unfold stepT at h
 rw [List.getElem?_map] at h
 by_cases hi : i < n
 ·rw [List.getElem?_range hi] at h
  cases h
  exact ⟨hi, rfl⟩
 ·rw [List.getElem?_eq_none (by rw [List.length_range]; omega)] at h
  cases h
theorem zO {Φ : List Tr -> TSt -> Prop} (h : EV B ta τ fun x τ1 => ∃ i, x = .fz (.int i) /\ EV B tb τ1 fun y τ2 => ∃ j, y = .fz (.int j) /\ EV B tc τ2 fun z τ3 => ∃ c, z = .fz (.int c) /\ 0 < c /\ c < 1073741824 /\ Builtin.Range.small i j c = true /\ Φ (stepT i c (pK i j c)) τ3) : IV B (ye (cH ta (cH tb (cH tc tNil)))) τ Φ := fun σ F H R r c => by
 refine h σ F H _ r fun v F1 H1 k τ1 f1 r1 ok1 _ h1 => ?_
 obtain ⟨i, rfl, h1⟩ := h1
 cases (show Is B.K F1 v (.int i) from ok1)
 refine h1 σ F1 H1 _ r1 fun v F2 H2 k τ2 f2 r2 ok2 _ h2 => ?_
 obtain ⟨j, rfl, h2⟩ := h2
 cases (show Is B.K F2 v (.int j) from ok2)
 refine h2 σ F2 H2 _ r2 fun v F3 H3 k τ3 f3 r3 ok3 _ h3 => ?_
 obtain ⟨s, rfl, s0, s1, sm, h3⟩ := h3
 cases (show Is B.K F3 v (.int s) from ok3)
 refine ⟨i, j, s, rfl, s0, s1, sm, c _ F3 H3 _ τ3 ((f1.trans f2).trans f3) r3 (fun σ' τ' F' H' sF rH => ⟨fun m t e => ?_, by rw [iM]; exact Nat.le_refl _⟩) h3⟩
 obtain ⟨hm, rfl⟩ := nZ e
 exact ⟨hm, fun x H2 y => by obtain ⟨rfl, rfl⟩ := y; exact ⟨F', Up.refl rH.inc, .int⟩⟩
end
end L2
namespace L2
open PySem PySem.Spec PyProof.Rows
theorem sf (l b : Addr) (xs ys : Array Value) (k m : Nat) (d1 d2 : Option Addr) (s1 s2 : Array (Option Value)) (he : xs.isEmpty = true) :
  Meets (Builtin.«tuple.__add__» ⟨[.ref l, .ref b], []⟩) (fun _ R s => s.heap.get? l = some { cls := .type "tuple", dict := d1, data := .seq xs k, slots := s1 }
   /\ s.heap.get? b = some { cls := .type "tuple", dict := d2, data := .seq ys m, slots := s2 } /\ R (.ok (.ret (Value.ref b))) { s with heap := s.heap, toks := s.toks }) :=
 .of_wp fun prog w A R s h => by
  obtain ⟨hp, g, d, tk, os⟩ := s
  obtain ⟨hl, hb, h⟩ := h
  have q1 := AutoSeq1.idx_int
  have q2 := AutoSeq1.sub_tuple_tuple
  have q3 := AutoSeq1.sub_list_list
  have q4 := AutoSeq1.sub_tuple_list
  have q5 := AutoSeq1.sub_list_tuple
  wp_walk using wpAny_loadPart' hl, wpAny_loadPart' hb
  exact ⟨_, rfl, h⟩
noncomputable def yt (K : Fg) : R2 := fun x y H Q => ∃ a b xs ys, x = .ref a /\ y = .ref b /\ ci K H a xs /\ ci K H b ys /\ xs.length + ys.length <= sizeLine /\
 (xs = [] -> Q (.ref b) H) /\ (xs ≠ [] -> ys = [] -> Q (.ref a) H) /\ (xs ≠ [] -> ys ≠ [] -> ∀ p, H p = none -> Q (.ref p) (upd H p (.tup (xs ++ ys))))
theorem rn {X : Cx} : eG X (binaryOp .Add) (yt X.K) := by
 intro pins s σ H x y v u Q I rx ry h
 obtain ⟨a, b, xs, ys, e1, e2, ha, hb, hz, q0, q1, q2⟩ := h
 by_cases hx : xs = []
 ·subst e1 e2
  cases rx
  cases ry
  obtain ⟨us, r1, p1, _⟩ := I.tuple ha
  obtain ⟨ws, r2, p2, _⟩ := I.tuple hb
  obtain ⟨⟨c1, d1, b1, s1⟩, o1, hc1, n1, hd1⟩ := id p1
  obtain ⟨⟨c2, d2, b2, s2⟩, o2, hc2, n2, hd2⟩ := id p2
  simp only at hc1 hd1 hc2 hd2
  subst hc1 hd1 hc2 hd2
  have hu : us = [] := r1.nil_iff.mpr hx
  exact concat_meets ⟨_, o1, rfl⟩ ⟨_, o2, rfl⟩ noFill_tuple_add seq_tuple_add PySem.F.slot_tuple_add PySem.F.entry_tuple_add (PySem.F.args_tuple_add_2 _ _)
   (sf a b us.toArray ws.toArray n1 n2 d1 d2 s1 s2 (by simp [hu])) ⟨o1, o2, .ref b, H, I, rfl, q0 hx⟩
 ·exact xg pins s σ H x y v u Q I rx ry ⟨a, b, xs, ys, e1, e2, ha, hb, hx, hz, q1 hx, q2 hx⟩
section
variable {B : Bk} {τ : TSt} {Φ : TK} {x y : Kd} {ts us : List Tr} {K : Fg}
theorem rG (hK : K = B.K) (r1 : Rk τ x (.tup ts)) (r2 : Rk τ y (.tup us)) (hl : ts.length + us.length <= 100000) (q : Φ (.fz (.tup (ts ++ us))) τ) : RO B (yt K) x y τ Φ := fun _ F H v w Q r a b c => by
 subst hK
 have i1 := r1.isT r a
 have i2 := r2.isT r b
 obtain ⟨p, vs, rfl, s, l⟩ := r1.tuple r a
 obtain ⟨p2, ws, rfl, s2, l2⟩ := r2.tuple r b
 refine ⟨p, p2, vs, ws, rfl, rfl, s, s2, by rw [l.length, l2.length]; exact Nat.le_trans hl (by decide), fun e => ?_, fun _ e => ?_, fun _ _ p' hp => c.nt r (l.app l2) hp q⟩
 ·subst e
  cases l
  exact c.pl r i2 q
 ·subst e
  cases l2
  rw [List.append_nil] at q
  exact c.pl r i1 q
theorem qy (q : Φ (.nw (.dct [])) τ) : EV B tDNewK τ Φ := fun σ F H Q r c p hp => by
 refine c _ F _ (.nw (.dct [])) τ (Fr.up (r.new hp)) (r.go (r.new hp)) ⟨p, rfl, .dct aL rfl .nil, r.inc.free hp, r.up.w p hp, fun i u h e => ?_⟩ (fun l e => by cases e; exact hp) q
 rcases h with h | h
 ·obtain ⟨l', e', g, _⟩ := r.ow i u h
  obtain ⟨o, ho, _⟩ := g.mb
  cases aO e' e
  rw [hp] at ho; cases ho
 ·obtain ⟨l', e', g, _⟩ := r.vw i u h
  obtain ⟨o, ho, _⟩ := g.mb
  cases aO e' e
  rw [hp] at ho; cases ho
theorem xk {xs : List Tr} {lo hi : Option Int} {t : Tr} (h : t ∈ eQ xs lo hi) : t ∈ xs := List.mem_of_mem_drop (List.mem_of_mem_take h)
theorem wq {xs : List Tr} {lo hi : Option Int} : (eQ xs lo hi).length <= xs.length := by
 unfold eQ
 rw [List.length_take, List.length_drop]
 omega
end
end L2
namespace L2
open PySem PySem.Spec PyProof.Rows PySem.W
section
variable {X : Cx} {pins : Pn} {σ : St} {H : Hp} {s : Shared}
end
section
variable {X : Cx} {pins : Pn} {σ : St} {H : Hp} {s : Shared} {A : Around} {f : Value} {b : Bool} {vs : List Value} {kz : List Int} {kS a : Addr} {e1 : Nat} {R : PySem.Fin -> Shared -> Prop} {E : Value -> Shared -> Prop}
end
end L2
namespace L2
open PySem PySem.Spec PyProof.Rows PySem.W
section
variable {X : Cx} {pins : Pn} {σ : St} {H : Hp} {s : Shared} {E : Value -> Shared -> Prop}
end
end L2
namespace L2
open PySem PySem.Spec PyProof.Rows PySem.W PySem.Calls
end L2
namespace L2
open PySem PySem.Spec PyProof.Rows
end L2
namespace L2
open PySem PySem.Spec PyProof.Rows
section
variable {P : Program} {w : World} {K : Fg} {mg : Str -> Option Value} {base : Heap}
end
end L2
namespace L2
open PySem PySem.Spec PyProof.Rows PySem.W PySem.Calls
theorem oU (f : Nat -> Int) : ∀ n, argBest (fun i j => decide (f i < f j)) n <= n /\ ∀ j, j <= n -> f (argBest (fun i j => decide (f i < f j)) n) <= f j
 | 0 => ⟨Nat.le_refl _, fun j hj => by rw [Nat.le_zero.mp hj]; exact Int.le_refl _⟩
 | n + 1 => by
  obtain ⟨h1, h2⟩ := oU f n
  unfold argBest
  by_cases h : f (n + 1) < f (argBest (fun i j => decide (f i < f j)) n)
  ·rw [if_pos (decide_eq_true h)]
   refine ⟨Nat.le_refl _, fun j hj => ?_⟩
   rcases Nat.lt_or_ge j (n + 1) with k | k
   ·have := h2 j (by omega); omega
   ·rw [show j = n + 1 by omega]; exact Int.le_refl _
  ·rw [if_neg (by rw [decide_eq_true_eq]; exact h)]
   refine ⟨by omega, fun j hj => ?_⟩
   rcases Nat.lt_or_ge j (n + 1) with k | k
   ·exact h2 j (by omega)
   ·rw [show j = n + 1 by omega]; omega
noncomputable def qZ (ns : List Int) (m : Int) : Prop := m ∈ ns /\ ∀ n ∈ ns, m <= n
theorem Ab {l : List (Int × Tok)} {ns : List Int} {m : Int} (e : l.map (·.1) = ns) (hm : qZ ns m) : numAt l.toArray (argBest (fun i j => decide (numAt l.toArray i < numAt l.toArray j)) (l.toArray.size - 1)) = m := by
 obtain ⟨hb, hmin⟩ := oU (numAt l.toArray) (l.toArray.size - 1)
 have hlen : l.length = ns.length := by rw [<- e, List.length_map]
 obtain ⟨j, hj, ej⟩ := List.getElem_of_mem hm.1
 have hs : l.toArray.size = ns.length := by rw [List.size_toArray, hlen]
 generalize argBest (fun i j => decide (numAt l.toArray i < numAt l.toArray j)) (l.toArray.size - 1) = k at *
 have hk : k < ns.length := by omega
 have a1 := iq e (List.getElem?_eq_getElem hk)
 have a2 := iq e (List.getElem?_eq_getElem hj)
 have a3 := hmin j (by omega)
 have a4 := hm.2 _ (List.getElem_mem hk)
 omega
section
variable {X : Cx}
end
end L2
namespace L2
open PySem PySem.Spec PyProof.Rows
section
variable {B : Bk} {K : Fg} {τ : TSt} {Φ : TK} {x : Kd} {ns : List Int}
end
end L2
namespace L2
open PySem PySem.Spec
section
variable {B : Bk} {τ τ' : TSt} {Φ : TK} {te ta : TE}
end
end L2
namespace L2
open PySem PySem.Spec
theorem IsL.set {K : Fg} {F : Hp} : ∀ {vs : List V} {ts : List Tr} {v : V} {t : Tr} (n : Nat), IsL K F vs ts -> Is K F v t -> IsL K F (vs.set n v) (ts.set n t)
 | _, _, _, _, _, .nil, _ => .nil
 | _, _, _, _, 0, .cons _ g, h => .cons h g
 | _, _, _, _, n + 1, .cons a g, h => .cons a (IsL.set n g h)
section
variable {B : Bk} {τ τ' : TSt} {N : TSt -> Prop} {ti : TE}
theorem BX {k : Nat} {t t0 : Tr} (g0 : Gt τ k (.own t0)) (h : EV B ti τ fun x τ1 => ∃ (n : Nat) (ts : List Tr) (τ2 : TSt), x = .fz (.int (n : Nat)) /\ Gt τ1 k (.own (.lst ts)) /\ n < ts.length /\ pI τ1 k (.own (.lst (ts.set n t))) τ2 /\ N τ2) :
  GA B (CQ (qd k) ti rSetL) (.fz t) τ N := fun σ F H v S r ok q => by
 obtain ⟨l0, e0, _, _⟩ := r.ow _ _ g0.eq
 refine ⟨_, e0, ?_⟩
 refine h σ F H _ r fun v1 F1 H1 kk τ1 f1 r1 ok1 n1 h1 => ?_
 obtain ⟨n, ts, τ2, rfl, g, hn, st, φ⟩ := h1
 cases ok1
 obtain ⟨l, e, hw, _⟩ := r1.ow _ _ g.eq
 cases aO e e0
 cases hw with
 | lst a1 a2 =>
  have hl := a2.length
  refine ⟨l0, _, _, n, rfl, rfl, a1, ?_, ?_⟩
  ·unfold vT
   split <;> (try split) <;> first | rfl | omega
  obtain ⟨r3, f3⟩ := r1.setO g.eq e (.lst aL (a2.set n (Is.same f1.f ok)))
  rw [st.eq] at r3 f3
  exact q σ F1 _ τ2 f1.f r3 φ
variable {Φ : TK} {te : TE}
end
end L2
namespace L2
open PySem PySem.Spec PyProof.Rows
section
variable {X : Cx}
end
section
variable {B : Bk} {τ : TSt} {Φ : TK}
end
end L2
namespace L2
open PySem PySem.Spec PyProof.Rows
section
variable {X : Cx} {x : Str} {C : Addr}
variable {p pos : Pos} {e0 : Expr} {es : List Expr} {t : TA}
end
end L2
namespace PySem
open Sem (wp)
section
open PySem.W
variable {prog : Program} {w : World} {A : Around} {h : Heap} {g : Array GenState} {d : Drawn} {t : Nat} {os : OsState} {E : Value -> Shared -> Prop}
variable {nm q : Str} {C N fI : Addr} {bs bm bmB : List Value} {hdct : Bool} {sn : List Str} {sub : List Value} {ab : Bool} {col : Option Bool} {dd : Option Addr} {k0 k1 k2 k3 k5 : Option Value} {B Bn newId nid initId inN : String} {bmN : List Value}
noncomputable abbrev excNew (h : Heap) (C : Addr) (rest : List Value) : Heap := (h.push { cls := .type "tuple", data := .seq rest.toArray }).push { cls := .ref C, data := .fields #[.ref h.objs.size, .none, .none, .none, .bool false, .none] }
theorem type_call_own (Fn : ExcBaseFacts Bn newId inN bmN) (hBn : bmB.contains (.type Bn) = true) (F : ExcBaseFacts B nid initId bmB) (T : OwnTail h bmB bm) {mN : Str -> Option Value} {rest : List Value} {Q : Fin -> Shared -> Prop}
  (hC : h.get? C = some (excClassObj nm q C N bs bm hdct sn sub ab col dd k0 k1 k2 k3 k5 newId)) (hn : h.Ns N mN) (hni : mN "__init__" = some (.ref fI))
  (hb : ∀ h' : Heap, (∀ b o, h.get? b = some o -> h'.get? b = some o) -> ∀ self, Looks (model prog w) h' (bindSpecial (.ref fI) self) (.ref fI, [self]))
  (hq : wpAny (model prog w) A (call (.ref fI) (.ref (h.objs.size + 1) :: rest) []) (fun v s' => v = .none /\ Q (.done (.ret (.ref (h.objs.size + 1)))) s') E ⟨excNew h C rest, g, d, t, os⟩) (hrest : rest.length <= sizeLine := by size_fits) :
  wpAny (model prog w) A (Builtin.«type.__call__» ⟨.ref C :: rest, []⟩) Q E ⟨h, g, d, t, os⟩ := by
 repeat (first | with_reducible refine wpAny_loadPart_at hC ?_ | with_reducible refine wpAny_madeBy_exc hC ?_ | wp_step)
 refine codeAny_call_builtin_code (Code.quiet_builtin _ Fn.quiet) (wpAny_check_new_subU Fn hBn T hC ?_)
 refine codeAny_exc_new_subU Fn hBn F T hC ?_ hrest
 show wpAny _ _ _ _ _ _
 have kp : ∀ b o, h.get? b = some o -> (excNew h C rest).get? b = some o := fun b o e => Heap.get?_push_of_some _ (Heap.get?_push_of_some _ e)
 have hC₁ := kp _ _ hC
 have hn₁ : (excNew h C rest).Ns N mN := let ⟨o, es, ep, e, r⟩ := hn; ⟨o, es, ep, kp _ _ e, r⟩
 have hget : (excNew h C rest).get? (h.objs.size + 1) = some { cls := .ref C, data := .fields #[.ref h.objs.size, .none, .none, .none, .bool false, .none] } := by unfold excNew; heap_get
 have hcC : (Value.ref C :: bm).contains (.ref C) = true := by simp
 have T₁ := T.keeps kp
 unfold isInstance
 repeat (first | with_reducible refine wpAny_loadPart_at hget ?_ | (with_reducible refine wpAny_isSubtype_exc hC₁ ?_; rw [hcC]) | wp_step)
 show wpAny _ _ (typeLookup (.ref C) _) _ _ _
 refine wpAny_typeLookup_tail hC₁ hn₁ T₁ F.mroIs F.init.lookup ?_
 rw [hni]
 dsimp only
 refine wpAny_holding (wpAny_bind ((hb _ kp _).at ?_))
 dsimp only
 refine wpAny_bind (wpAny_mono hq (fun v s' z => ?_) fun _ _ x => x)
 obtain ⟨rfl, z⟩ := z
 refine wpAny_pure ?_
 dsimp only
 exact wpAny_pure z
theorem wpAny_call_exc_own (Fn : ExcBaseFacts Bn newId inN bmN) (hBn : bmB.contains (.type Bn) = true) (F : ExcBaseFacts B nid initId bmB) (T : OwnTail h bmB bm) {mN : Str -> Option Value} {rest : List Value} {Q : Value -> Shared -> Prop}
  (hC : h.get? C = some (excClassObj nm q C N bs bm hdct sn sub ab col dd k0 k1 k2 k3 k5 newId)) (hn : h.Ns N mN) (hni : mN "__init__" = some (.ref fI))
  (hb : ∀ h' : Heap, (∀ b o, h.get? b = some o -> h'.get? b = some o) -> ∀ self, Looks (model prog w) h' (bindSpecial (.ref fI) self) (.ref fI, [self]))
  (hq : wpAny (model prog w) (A.under (.builtin "type.__call__" ⟨.ref C :: rest, []⟩)) (call (.ref fI) (.ref (h.objs.size + 1) :: rest) []) (fun v s' => v = .none /\ Q (.ref (h.objs.size + 1)) s') E ⟨excNew h C rest, g, d, t, os⟩) (hrest : rest.length <= sizeLine := by size_fits) :
  wpAny (model prog w) A (call (.ref C) rest) Q E ⟨h, g, d, t, os⟩ := by
 have f1 := tc_lookup
 have f2 := tc_bind (.ref C)
 have hT : (⟨h, g, d, t, os⟩ : Shared).TypeIs (.ref C) "type" := ⟨_, hC, rfl⟩
 refine wpAny_call (codeAny_of_tree ?_)
 show wpAny _ _ (callAny (.ref C) _) _ _ _
 repeat (any_goals (first | assumption | with_reducible refine wpAny_loadPart_at hC ?_ | wp_step))
 refine ⟨rfl, ?_⟩
 refine codeAny_call_builtin_at (Code.quiet_builtin _ (by decide +kernel)) entry_typeCall (wpAny_check_type_call_sub hC (type_call_own (hrest := hrest) Fn hBn F T hC hn hni hb ?_))
 exact hq
end
end PySem
namespace L2
open PySem PySem.Spec PyProof.Rows
noncomputable def gN : List Value -> Bool
 | .ref _ :: r => gN r
 | l => l == su
theorem lI (self : Value) : ∀ {l : List Value}, gN l = true -> refuseLoop self "__setattr__" l = pure ()
 | [], e => by cases e
 | v :: r, e => by
  cases v with
  | ref c => rw [refuseLoop_ref]; exact lI self (l := r) (by simpa [gN] using e)
  | type n => rw [beq_iff_eq.mp (show ((Value.type n :: r) == su) = true from e)]; exact PySem.F.store_ValueError.passes self
  | _ => exact absurd (beq_iff_eq.mp (show ((_ :: r) == su) = true from e)) (by intro z; cases z)
section
open PySem.W PySem.Calls PySem.Builtin PySem.Builtin.ObjectAttr
variable {prog : Program} {w : World} {A : Around} {E : Value -> Shared -> Prop} {s : Shared} {K : Frag} {a C : Addr} {oe : Obj}
theorem xb {od : Obj} {v : Value} {name : Str} {expr : Bool} {Q : Value -> Shared -> Prop} (Fx : jF K C) (X : K.In s.heap) (J : InstAt s.heap a oe C (some od)) (hf : findObj K C (some od) name = some (.value v)) (hh : handedIn v = true)
  (h : Q v { s with toks := s.toks + 1 }) : wpAny (model prog w) A (getAttr (.ref a) name expr) Q E s := by
 obtain ⟨hp, g, d, t, os⟩ := s
 have p := J.at_
 have hc := J.cls
 have L0 := fH (M := model prog w) p hc
 have L1 := looks_findIn (M := model prog w) X Fx.ga
 have L2 := looks_findIn (M := model prog w) X Fx.nohook
 have L3 := looks_find (M := model prog w) X J hf
 unfold getAttr getAttrBy
 refine wpAny_bind (wpAny_mkText (wpAny_holding (wpAny_bind (L0.at (wpAny_bind (L1.at ?_))))))
 show wpAny _ _ (if (onTheHeap (Value.ref C) && (Value.builtin "BaseException.__getattribute__" == Value.builtin "object.__getattribute__")) = true then _ else getAttrByItsOwn _ _ _ _ _ _) _ _ _
 have hne : (Value.builtin "BaseException.__getattribute__" == Value.builtin "object.__getattribute__") = false := by decide +kernel
 rw [hne, Bool.and_false, if_neg Bool.false_ne_true]
 unfold getAttrByItsOwn
 refine wpAny_bind ((show Looks (model prog w) hp (hookBefore (.ref C)) none from L2).at ?_)
 refine wpAny_bind (wpAny_attempt (wpAny_holding ?_))
 have hcg : callGetattribute (.ref a) (.str name t) (.builtin "BaseException.__getattribute__") expr = boundAndCalled (.builtin "BaseException.__getattribute__") (.ref a) (.str name t) := by
  cases expr <;> rfl
 rw [hcg]
 unfold boundAndCalled
 rw [F.excAttr_ValueError.ga.bind]
 refine wpAny_bind (wpAny_pure ?_)
 refine wpAny_call (codeAny_call_builtin F.excAttr_ValueError.ga.plain F.entry_bexc_ga (lE Fx X p hc ?_))
 unfold Builtin.«object.__getattribute__»
 refine wpAny_bind (wpAny_pure (a := (Value.ref a, [Value.str name t])) ?_)
 refine wpAny_bind (wpAny_pure (a := name) ?_)
 refine wpAny_bind (L0.at (wpAny_bind (L3.at ?_)))
 refine wpAny_pure ?_
 show wpAny _ _ (handedOut v) _ _ _
 rw [handedOut_of hh]; exact wpAny_pure h
noncomputable abbrev ir (h : Heap) (a : Addr) : Heap := (h.push { cls := .type "dict", data := .dict #[] }).update a fun o => { o with dict := some h.objs.size }
theorem xv {name : Str} {v : Value} {Q : Unit -> Shared -> Prop} (X : K.In s.heap) (J : InstAt s.heap a oe C none) (hs : findIn K (.ref C) "__setattr__" = some (some (.builtin "object.__setattr__")))
  (hp : (clsIn K C).any (fun cd => gN cd.mro) = true) (hn : findIn K (.ref C) name = some none) (hh : (clsIn K C).any (·.hasDict) = true)
  (h : ∀ h' tk, h'.get? a = some { oe with dict := some s.heap.objs.size } -> h'.Ns1 s.heap.objs.size (fun y => if y = name then some v else none) -> (∀ b o, b ≠ a -> s.heap.get? b = some o -> h'.get? b = some o) -> Q () { s with heap := h', toks := tk }) :
  wpAny (model prog w) A (setAttr (.ref a) name v) Q E s := by
 refine set_plain X J hs ?_
 have SF := PySem.F.store_object
 obtain ⟨cd, hc, ho⟩ := any_some hp
 obtain ⟨cd2, hc2, hd2⟩ := any_some hh
 rw [hc] at hc2
 cases hc2
 have ne : cd.mro.isEmpty = false := by cases q : cd.mro with | nil => rw [q] at ho; cases ho | cons _ _ => rfl
 have hob : ∀ {l : List Value}, gN l = true -> l.contains (.type "object") = true := fun {l} => by
  induction l with
  | nil => intro e; cases e
  | cons x r ih =>
   intro e
   cases x with
   | ref c => rw [List.contains_cons, ih (by simpa [gN] using e), Bool.or_true]
   | _ => rw [beq_iff_eq.mp (show ((_ :: r) == su) = true from e)]; decide
 have sub : Looks (model prog w) s.heap (isInstance (.ref a) (.type "object")) true := J.type.andThen (looks_mroIn X (by unfold mroIn; rw [hc, Option.bind_some, if_neg (by rw [ne]; decide), hob ho]))
 refine codeAny_call_builtin SF.slot.plain SF.entry (@check_slot (model prog w) _ _ { s with toks := s.toks + 1 } "object.__setattr__" "object" "__setattr__" (.ref a) [.str name s.toks, v] [] _ SF.kind SF.split sub (SF.args (.ref a) (.str name s.toks) v) ?_)
 have hm : Looks (model prog w) s.heap (mroOf (.ref C)) cd.mro := (looks_clsIn X hc).andThen .now
 obtain ⟨hp, g, d, t, os⟩ := s
 have L0 := J.type (M := model prog w)
 have L1 := looks_findIn (M := model prog w) X hn
 have L2 := looks_clsIn (M := model prog w) X hc
 have pa := J.at_
 have hcls := J.cls
 have hno := J.no
 have hdict : oe.dict = none := by
  have := J.dict
  cases q : oe.dict with
  | none => rfl
  | some _ => rw [q] at this; exact this.elim
 rw [osa_eq, refuse_eq]
 refine wpAny_bind (wpAny_bind (L0.at (wpAny_bind (hm.at ?_))))
 rw [lI _ ho]
 refine wpAny_pure (wpAny_bind (L0.at (wpAny_bind (L1.at (wpAny_bind (wpAny_pure ?_))))))
 show wpAny _ _ (storeInOwnDict (.ref a) (.ref C) (.str name t) name v false) _ _ _
 obtain ⟨oc, od, odt, osl⟩ := oe
 dsimp only at hcls hdict pa
 subst hcls hdict
 refine wpAny_bind (wpAny_pure (wpAny_bind (wpAny_bind (wpAny_loadPart pa (wpAny_bind (L2.at ?_))))))
 rw [hd2]
 have hx1 : (hp.push { cls := .type "dict", data := .dict #[] }).get? a = some { cls := .ref C, dict := none, data := odt, slots := osl } := Heap.get?_push_of_some _ pa
 have hne : a ≠ hp.objs.size := Nat.ne_of_lt (Heap.lt_size pa)
 have hfz : ({ cls := .ref C, dict := some hp.objs.size, data := odt, slots := osl } : Obj).isFreed = false := by
  have := (Heap.get?_some_iff.mp pa).2
  cases odt <;> first | rfl | exact this
 have hx2 : (ir hp a).get? a = some { cls := .ref C, dict := some hp.objs.size, data := odt, slots := osl } := Heap.get?_update_self _ hx1 hfz
 have hg : (ir hp a).get? hp.objs.size = some { cls := .type "dict", data := .dict #[] } := (Heap.get?_update_ne _ _ _ _ hne.symm).trans (Heap.get?_push_at rfl rfl)
 have hnd : (ir hp a).Ns hp.objs.size (fun _ => none) := ⟨_, #[], _, hg, rfl, fun e he => absurd he (by simp), fun _ => rfl⟩
 have fin : wpAny (model prog w) A.in1 (storeInDict hp.objs.size (.str name t) name v) (fun fin s' => match fin with
   | .done f => (fun (r : Result) s' => match r with | .ok (.ret _) => Q () s' | .ok _ => False | .error e => E e s') (.ok f) s'
   | .again c' => c'.quiet = true /\ codeAny (model prog w) A c' (fun (r : Result) s' => match r with | .ok (.ret _) => Q () s' | .ok _ => False | .error e => E e s') s') (fun e s' => E e s') ⟨ir hp a, g, d, t + 1, os⟩ := by
  unfold storeInDict newKeyGuard
  refine wpAny_bind (wpAny_pure (wpAny_bind (wpAny_nsSet1 (Heap.Ns1.of_empty hnd) fun h' hn' hs' => ?_)))
  obtain ⟨oD, esD, epD, hoD, DI, hcD⟩ := hn'.count (Within.cons name v Within.nil)
  refine wpAny_bind (wpAny_lookBehind hoD (by rw [DI]; exact pastItsLine_dict (Nat.le_trans hcD (by rw [List.length_cons, List.length_nil, sizeLine_eq]; omega))) ?_)
  refine wpAny_pure ?_
  exact h h' _ ((hs'.2 a hne).trans hx2) hn' (fun b o hb e => (hs'.2 b (Nat.ne_of_lt (Heap.lt_size e))).trans ((Heap.get?_update_ne _ _ _ _ hb).trans (Heap.get?_push_of_some _ e)))
 cases odt with
 | cls c => exact absurd (show false = true from hno) Bool.false_ne_true
 | _ => exact wpAny_bind (wpAny_alloc' (wpAny_bind (wpAny_update' hx1 (wpAny_pure fin))))
end
end L2
namespace L2
open PySem PySem.Spec PyProof.Rows
noncomputable def qa (K : Fg) (C fI : Addr) : Bool := match K.lookup C with
 | some ⟨.type "type", _, .cls cd, sl⟩ =>
  (match cd.mro, sl.toList with
   | .ref C' :: bm, [_, _, _, _, some (.builtin n), _] =>
    (C' == C && n == "ValueError.__new__") && ((!cd.hasDel && PySem.W.tailIn K su bm) && (PySem.W.nsOkIn K cd.ns && PySem.W.nsIn K cd.ns "__init__" == some (some (.ref fI))))
   | _, _ => false)
 | _ => false
theorem qm {K : Fg} {h : Heap} {N : Addr} {m : Str -> Option Value} {n : Str} {v : Value} (X : K.In h) (G : h.Ns N m) (e : PySem.W.nsIn K N n = some (some v)) : m n = some v := by
 obtain ⟨o, es, ep, ho, hd, _, hf⟩ := G
 unfold PySem.W.nsIn at e
 split at e
 ·rename_i q
  have := X _ _ q
  rw [ho] at this
  cases this
  cases hd
  split at e
  ·rename_i he
   rw [<- hf]
   unfold nsFind findBy
   rw [<- Array.find?_toList, he]
   simpa using e
  ·split at e <;> cases e
 ·cases e
theorem vf {K : Fg} {h : Heap} {C fI : Addr} (X : K.In h) (q : qa K C fI = true) :
  ∃ (tl : List Value) (N : Addr) (nm qn : Str) (bs : List Value) (hdct : Bool) (sn : List Str) (sub : List Value) (ab : Bool) (col : Option Bool) (dd : Option Addr) (k0 k1 k2 k3 k5 : Option Value) (mN : Str -> Option Value),
   h.get? C = some (excClassObj nm qn C N bs tl hdct sn sub ab col dd k0 k1 k2 k3 k5 "ValueError.__new__") /\ h.Ns N mN /\ mN "__init__" = some (.ref fI) /\ OwnTail h su tl := by
 unfold qa at q
 split at q
 ·rename_i dd cd sl ho
  split at q
  ·rename_i C' bm k0 k1 k2 k3 n k5 hm hs
   simp only [Bool.and_eq_true, beq_iff_eq, Bool.not_eq_true'] at q
   obtain ⟨⟨rfl, rfl⟩, ⟨hdel, ht⟩, hok, hni⟩ := q
   obtain ⟨nm, bs, mro, ns, qn, hd, sn, sub, ab, col, del⟩ := cd
   dsimp only at hm hdel hok hni
   subst hm hdel
   have hsl : sl = #[k0, k1, k2, k3, some (.builtin "ValueError.__new__"), k5] := by
    obtain ⟨l⟩ := sl
    simp only at hs
    rw [hs]
   subst hsl
   exact ⟨bm, ns, nm, qn, bs, hd, sn, sub, ab, col, dd, k0, k1, k2, k3, k5, _, X _ _ ho, .of_isNs (PySem.W.isNs_of_in X hok), qm X (.of_isNs (PySem.W.isNs_of_in X hok)) hni, PySem.W.tail_of_in X ht⟩
  ·cases q
 ·cases q
noncomputable abbrev cv (t : Addr) : Data := .fields #[.ref t, .none, .none, .none, .bool false, .none]
noncomputable def pE (a C : Addr) : HO := .ext fun h => ∃ t : Addr, h.get? a = some { cls := .ref C, data := cv t }
noncomputable def eW (a C dx : Addr) : HO := .ext fun h => ∃ t : Addr, h.get? a = some { cls := .ref C, dict := some dx, data := cv t }
noncomputable def gR (a C dx : Addr) : HO := .ext fun h => ∃ (oe : Obj) (vs : Array Value), h.get? a = some oe /\ oe.cls = .ref C /\ oe.dict = some dx /\ oe.data = .fields vs
section
variable {P : Program} {w : World} {H : Hp} {h : Heap} {a C dx t : Addr} {oe : Obj} {vs : Array Value}
theorem okB (e : h.get? a = some { cls := .ref C, data := cv t }) : bz P w H h a (pE a C) := ⟨⟨t, e⟩, ⟨_, e⟩, fun _ _ ⟨u, q⟩ k => ⟨u, k _ q⟩⟩
theorem okN (e : h.get? a = some { cls := .ref C, dict := some dx, data := cv t }) : bz P w H h a (eW a C dx) := ⟨⟨t, e⟩, ⟨_, e⟩, fun _ _ ⟨u, q⟩ k => ⟨u, k _ q⟩⟩
theorem okD (e : h.get? a = some oe) (hc : oe.cls = .ref C) (hd : oe.dict = some dx) (hv : oe.data = .fields vs) : bz P w H h a (gR a C dx) := ⟨⟨oe, vs, e, hc, hd, hv⟩, ⟨_, e⟩, fun _ _ ⟨o, us, q, r⟩ k => ⟨o, us, k _ q, r⟩⟩
end
structure sW (K : Fg) (C fI : Addr) (f : Str) : Prop where
 ini : qa K C fI = true
 sa : PySem.W.findIn K (.ref C) "__setattr__" = some (some (.builtin "object.__setattr__"))
 ov : (PySem.W.clsIn K C).any (fun cd => gN cd.mro) = true
 na : PySem.W.findIn K (.ref C) f = some none
 hd : PySem.W.hasDictIn K C = true
 fn : PySem.W.typeIn K (.ref fI) = some (.type "function")
section
variable {X : Cx} {pins : Pn} {σ : St} {H : Hp} {s : Shared}
theorem wv {a C fI : Addr} {f : Str} {y : V} {u : Value} {A : Around} {E : Value -> Shared -> Prop} {Q : Unit -> Shared -> Prop} (I : aJ X pins σ H s) (e : H a = some (pE a C)) (O : sW X.K C fI f) (ry : bu y u)
  (h : ∀ dx s', dx ≠ a -> H dx = none -> aJ X pins σ (upd (upd H a (eW a C dx)) dx (.xd [(f, y)])) s' -> Q () s') : wpAny (model X.prog X.w) A (setAttr (.ref a) f u) Q E s := by
 obtain ⟨⟨t, pa⟩, _⟩ := (show bz X.prog X.w H s.heap a (pE a C) from I.hok a _ e)
 have J : PySem.W.InstAt s.heap a { cls := .ref C, data := cv t } C none := ⟨pa, rfl, rfl, True.intro⟩
 refine xv I.kIn J O.sa O.ov O.na O.hd fun h' tk ha hn hk => ?_
 have hlt := Heap.lt_size pa
 have hne : s.heap.objs.size ≠ a := Nat.ne_of_gt hlt
 have hfz : ({ cls := .ref C, dict := some s.heap.objs.size, data := cv t } : Obj).isFreed = false := rfl
 have g1 : (s.heap.update a fun _ => { cls := .ref C, dict := some s.heap.objs.size, data := cv t }).get? a = some { cls := .ref C, dict := some s.heap.objs.size, data := cv t } := Heap.get?_update_self _ pa hfz
 have g2 : ∀ b u, b ≠ a -> s.heap.get? b = some u -> (s.heap.update a fun _ => { cls := .ref C, dict := some s.heap.objs.size, data := cv t }).get? b = some u := fun b u hb q => (Heap.get?_update_ne _ _ _ _ hb).trans q
 have I1 : aJ X pins σ (upd H a (eW a C s.heap.objs.size)) { s with heap := s.heap.update a fun _ => { cls := .ref C, dict := some s.heap.objs.size, data := cv t }, toks := s.toks } :=
  I.write (x := a) (e := a) (by rw [e]; exact True.intro) (.inl rfl) g2 ⟨_, g1⟩ (okN g1)
 have hfree : H s.heap.objs.size = none := I.hok.fresh (Nat.le_refl _)
 have I2 := I1.laid (a := s.heap.objs.size) (o := .xd [(f, y)]) (h' := h') (t' := tk) (fun b o q => by
  by_cases hb : b = a
  ·subst hb
   have q : (s.heap.update b fun _ => ({ cls := .ref C, dict := some s.heap.objs.size, data := cv t } : Obj)).get? b = some o := q
   rw [g1] at q; cases q; exact ha
  ·have q : (s.heap.update a fun _ => ({ cls := .ref C, dict := some s.heap.objs.size, data := cv t } : Obj)).get? b = some o := q
   rw [Heap.get?_update_ne _ _ _ _ hb] at q
   exact hk b o hb q) (by show (s.heap.update a _).objs.size <= _; rw [Heap.size_update]; exact Nat.le_refl _) ⟨_, hn, fun g => by
    by_cases q : g = f
    ·subst q; simp; exact ry
    ·have : (g == f) = false := by simpa using q
     simp only [List.lookup_cons, this, List.lookup_nil, if_neg q]; exact True.intro⟩
 exact h _ _ hne hfree I2
end
noncomputable def CF (K : Fg) (ta tv : TE) (f : Str) : TS := fun D σ H => tv σ H fun y H1 => ta σ H1 fun x H2 => ∃ a C fI, x = .ref a /\ H2 a = some (pE a C) /\ sW K C fI f /\ ∀ dx, dx ≠ a -> H2 dx = none -> D.nx σ (upd (upd H2 a (eW a C dx)) dx (.xd [(f, y)]))
theorem wk {X : Cx} {o value : Expr} {f : Str} {pos pos' : Pos} {ta tv : TE} (ha : PE X o ta) (hv : PE X value tv) (hs : swapsWith value (some (.Attribute o f pos')) pos.line X.env = pure false) : PS X (.Assign [.Attribute o f pos'] value pos) (CF X.K ta tv f) := by
 intro pins s σ H D I h
 refine plainObj_wpAny_Assign_Attribute (bQ (hv pins s σ H _ I h) fun u s1 ⟨y, H1, I1, ry, q⟩ => bQ (ha pins s1 σ H1 _ I1 q) fun ov s2 ⟨x, H2, I2, rx, a, C, fI, ex, ea, O, q2⟩ => ?_) hs
 subst ex
 obtain rfl : ov = Value.ref a := rx
 exact wv I2 ea O ry fun dx s3 n1 n2 I3 => ⟨σ, _, I3, q2 dx n1 n2⟩
noncomputable def mW (C : Addr) (f : Str) : Sp := fun vs H Q _ => ∃ (a : Addr) (v : V), vs = [.ref a, v] /\ H a = some (pE a C) /\ ∀ dx, dx ≠ a -> H dx = none -> Q .non (upd (upd H a (eW a C dx)) dx (.xd [(f, v)]))
section
variable {X : Cx} {k : Nat} {C fI : Addr} {fd : FuncData} {f : Str}
noncomputable def xP (K : Fg) (ta : TE) (f : Str) : TE := fun σ H Q => ta σ H fun x H1 => ∃ a C dx fs v, x = .ref a /\ (H1 a = some (eW a C dx) ∨ H1 a = some (gR a C dx)) /\ H1 dx = some (.xd fs) /\ (jF K C /\ vP K C f /\ PySem.W.hasDictIn K C = true) /\ fs.lookup f = some v /\ Q v H1
theorem ww {e : Expr} {pos : Pos} {ta : TE} (he : PE X e ta) (hb : attributeBase e f X.env (eval e X.env) = eval e X.env) : PE X (.Attribute e f pos) (xP X.K ta f) := by
 intro pins s σ H Q I h
 refine wF hb (bQ (he pins s σ H _ I h) fun u s1 ⟨x, H1, I1, rx, a, C, dx, fs, v, ex, ea, ed, ⟨Fx, na, hh⟩, l, q⟩ => ?_)
 subst ex
 obtain rfl : u = Value.ref a := rx
 obtain ⟨oe, vs, pa, hc, hd, hv⟩ : ∃ (oe : Obj) (vs : Array Value), s1.heap.get? a = some oe /\ oe.cls = .ref C /\ oe.dict = some dx /\ oe.data = .fields vs := by
  rcases ea with ea | ea
  ·obtain ⟨⟨t, pa⟩, _⟩ := (show bz X.prog X.w H1 s1.heap a (eW a C dx) from I1.hok a _ ea)
   exact ⟨_, _, pa, rfl, rfl, rfl⟩
  ·exact (show bz X.prog X.w H1 s1.heap a (gR a C dx) from I1.hok a _ ea).1
 obtain ⟨mA, n1, r⟩ := (show bz X.prog X.w H1 s1.heap dx (.xd fs) from I1.hok dx _ ed)
 obtain ⟨od, ho, hl⟩ := tE n1
 obtain ⟨u', hu, ru⟩ := vE.some_of (v := v) (o := mA f) (by rw [<- l]; exact r f)
 obtain ⟨oc, odi, oda, osl⟩ := oe
 dsimp only at hc hd hv
 subst hc hd hv
 have J : PySem.W.InstAt s1.heap a ⟨.ref C, some dx, .fields vs, osl⟩ C (some od) := ⟨pa, rfl, rfl, ho⟩
 exact xb Fx I1.kIn J (PySem.W.findObj_own hh na rfl (by rw [hl, hu])) (se ru) ⟨v, H1, I1.tok _, ru, q⟩
end
end L2
namespace L2
open PySem PySem.Spec PyProof.Rows
section
variable {X : Cx} {x : Str} {C fI : Addr} {r : List V -> Hp -> VK -> Prop} {p pos : Pos} {e0 : Expr} {es : List Expr} {t : TA}
end
section
variable {X : Cx} {k : Nat} {f : Addr} {fd : FuncData} {ps : List Str} {sp : Sp} {dvs : List V} {ds : List Value} {fx cx n : Str} {p cpos epos np hpos pos : Pos} {e : Expr} {es : List Expr} {t : TA} {T C : Addr} {b0 : Stmt} {suite : List Stmt} {ts : Addr -> TS} {j : Nat}
end
end L2
namespace PySem
section
variable {M : Model} {A : Around} {E : Value -> Shared -> Prop} {s : Shared} {env : Env}
variable {nm q : Str} {C N : Addr} {bs bm : List Value} {hdct : Bool} {sn : List Str} {sub : List Value} {ab : Bool} {col : Option Bool} {dd : Option Addr} {k0 k1 k2 k3 k5 : Option Value} {newId : String}
theorem raiseStmtX {x : Sem Value} {Q : Flow -> Shared -> Prop} (hb : bm.contains (.type "BaseException") = true) (hh : A.handled = none)
  (h : wpAny M A x (fun v s₁ => ∃ (e t dx : Addr), v = .ref e /\ s₁.heap.get? C = some (excClassObj nm q C N bs bm hdct sn sub ab col dd k0 k1 k2 k3 k5 newId) /\
   s₁.heap.get? e = some { cls := .ref C, dict := some dx, data := .fields #[.ref t, .none, .none, .none, .bool false, .none] } /\ E (.ref e) s₁) E s) :
  wpAny M A (raiseStmt env (some x) none) Q E s := by
 have hcB : (Value.ref C :: bm).contains (.type "BaseException") = true := by rw [List.contains_cons, hb, Bool.or_true]
 unfold raiseStmt
 refine wpAny_bind (wpAny_mono h (fun v s1 z => ?_) fun _ _ x => x)
 obtain ⟨e, t, dx, rfl, hC, he, hE⟩ := z
 obtain ⟨hp, g, d, tk, os⟩ := s1
 repeat (first | with_reducible refine wpAny_loadPart_at he ?_ | with_reducible refine wpAny_loadPart_at hC ?_ | (with_reducible refine wpAny_isSubtype_exc hC ?_; rw [hcB]) | wp_step)
 exact wpAny_raiseNew_none hh hE
end
end PySem
namespace L2
open PySem PySem.Spec PyProof.Rows
section
variable {P : Program} {w : World} {K : Fg} {mg : Str -> Option Value} {base : Heap} {N : List Str} {qual : Str} {scope : Scope} {f : Addr} {cd : Value} {A : Around} {outer : List Env} {s : Shared} {H : Hp} {E : XK}
 {pins : Pn} {σ : St} {H1 : Hp} {s1 : Shared} {a C dx : Addr} {fld : Str} {v : V}
end
noncomputable def rV (X : Cx) (C : Addr) (f : Str) (E : XK) : Prop := ∀ (pins : Pn) (σ : St) (H : Hp) (s : Shared) (a dx : Addr) (v : V), aJ X pins σ (upd (upd H a (eW a C dx)) dx (.xd [(f, v)])) s -> X.s₀.heap.get? a = none -> dx ≠ a -> H a = none -> E (.ref C) (some dx) (upd H dx (.xd [(f, v)])) -> X.xe (.ref a) s
noncomputable def xB (C : Addr) (f : Str) (E : XK) (t : TA) : TS := fun _ σ H => t σ H fun vs H1 => ∃ v, vs = [v] /\ ∀ dx, H1 dx = none -> E (.ref C) (some dx) (upd H1 dx (.xd [(f, v)]))
section
variable {X : Cx} {k : Nat} {C fI : Addr} {fd : FuncData} {f : Str}
theorem vj (O : sW X.K C fI f) (F : dR X.prog X.w X.K X.mg X.base tF k fI fd ["self", f] (mW C f)) (hb : fV X.K fd ["self", f] []) (hr : cU (k + 1) X.A)  {pins : Pn} {s : Shared} {σ : St} {H : Hp} {v : V} {us : List Value} {Q : Value -> Shared -> Prop} (I : aJ X pins σ H s) (hv : bd [v] us)
  (q : ∀ a dx s', s.heap.get? a = none -> dx ≠ a -> H a = none -> H dx = none -> aJ X pins σ (upd (upd H a (eW a C dx)) dx (.xd [(f, v)])) s' -> Q (.ref a) s') : wpAny (model X.prog X.w) X.A (call (.ref C) us) Q X.xe s := by
 obtain ⟨tl, N, nm, qn, bs, hdct, sn, sub, ab, col, dd, k0, k1, k2, k3, k5, mN, oC, oN, oi, oT⟩ := vf I.kIn O.ini
 obtain ⟨u, rfl, ru⟩ : ∃ u, us = [u] /\ bu v u := by
  cases hv with
  | cons a b => cases b; exact ⟨_, rfl, a⟩
 have kp : ∀ b o, s.heap.get? b = some o -> (excNew s.heap C [u]).get? b = some o := fun b o e => Heap.get?_push_of_some _ (Heap.get?_push_of_some _ e)
 have hget : (excNew s.heap C [u]).get? (s.heap.objs.size + 1) = some { cls := .ref C, data := cv s.heap.objs.size } := by unfold excNew; heap_get
 have hfree : H (s.heap.objs.size + 1) = none := I.hok.fresh (Nat.le_succ _)
 have I2 : aJ X pins σ (upd H (s.heap.objs.size + 1) (pE (s.heap.objs.size + 1) C)) { s with heap := excNew s.heap C [u], toks := s.toks } := I.laid kp (Nat.le_succ _) (okB hget)
 refine wpAny_call_exc_own (h := s.heap) (g := s.gens) (d := s.drawn) (t := s.toks) (os := s.os) PySem.F.excBase_ValueError (by decide) PySem.F.excBase_ValueError oT oC oN oi (fun h' e self => PySem.W.bind_fn (I.kIn.keeps e) self O.fn) ?_
 refine wpAny_call (codeAny_mono (F.run (X.A.under (.builtin "type.__call__" ⟨[.ref C, u], []⟩)) X.stack { s with heap := excNew s.heap C [u], toks := s.toks } _ ⟨[.ref (s.heap.objs.size + 1), u], []⟩ [.ref (s.heap.objs.size + 1), u] [.ref (s.heap.objs.size + 1), v] (fun y H' => y = .non /\ ∃ dx, dx ≠ s.heap.objs.size + 1 /\ H dx = none /\ H' = upd (upd H (s.heap.objs.size + 1) (eW (s.heap.objs.size + 1) C dx)) dx (.xd [(f, v)])) E0 (hr.make C [u] []) (I2.env0.make C [u] [])
  (by have := hb { s with heap := excNew s.heap C [u], toks := s.toks } [.ref (s.heap.objs.size + 1), u] I2.kIn rfl; rwa [List.append_nil] at this) (.cons rfl (.cons ru .nil)) ⟨_, v, rfl, aL, fun dx hne hdx => ⟨rfl, ?_⟩⟩) fun rr s' hq => ?_)
 ·rw [show upd (upd H (s.heap.objs.size + 1) (pE (s.heap.objs.size + 1) C)) (s.heap.objs.size + 1) (eW (s.heap.objs.size + 1) C dx) = upd H (s.heap.objs.size + 1) (eW (s.heap.objs.size + 1) C dx) from funext fun b => by unfold upd; split <;> rfl]
  exact ⟨dx, hne, by rw [aE hne] at hdx; exact hdx, rfl⟩
 ·cases rr with
  | error e => exact False.elim hq
  | ok fl =>
   cases fl with
   | ret u2 =>
    obtain ⟨y, H', I3, ry, rfl, dx, n1, n3, rfl⟩ := I2.after hq
    obtain rfl : u2 = .none := ry
    refine ⟨rfl, q _ dx _ ?_ n1 hfree n3 I3⟩
    cases z : s.heap.get? (s.heap.objs.size + 1) with
    | none => rfl
    | some o => exact absurd (Heap.lt_size z) (Nat.not_lt.mpr (Nat.le_succ _))
   | next => exact False.elim hq
   | brk => exact False.elim hq
   | cont => exact False.elim hq
variable {E : XK} {x : Str} {np cpos pos : Pos} {e0 : Expr} {es : List Expr} {t : TA}
theorem cp (hc : X.calm = true) (hex : X.ex = []) (O : sW X.K C fI f) (F : dR X.prog X.w X.K X.mg X.base tF k fI fd ["self", f] (mW C f)) (hb : fV X.K fd ["self", f] []) (hr : cU (k + 1) X.A) (hm : X.mg x = some (.ref C)) (hg : Gl X x) (hx : rV X C f E) (ha : PA X (e0 :: es) t)
  (hd : (x == ("__debug__" : Str)) = false := by decide) (he : starEach (e0 :: es) X.env = (false, eval e0 X.env) :: starEach es X.env := by rfl) (hpl : (backTo cpos (starEach es X.env)).any (·.1) = false := by rfl) :
  PS X (.Raise (some (.Call (.Name x np) (e0 :: es) [] cpos)) none pos) (xB C f E t) := by
 intro pins s σ H D I h
 obtain ⟨tl, N, nm, qn, bs, hdct, sn, sub, ab, col, dd, k0, k1, k2, k3, k5, mN, oC, oN, oi, oT⟩ := vf I.ok.mod.kin O.ini
 rw [arm_exec_Raise]
 refine wpAny_bind (wpAny_standAt (raiseStmtX (C := C) (nm := nm) (q := qn) (N := N) (bs := bs) (bm := tl) (hdct := hdct) (sn := sn) (sub := sub) (ab := ab) (col := col) (dd := dd) (k0 := k0) (k1 := k1) (k2 := k2) (k3 := k3) (k5 := k5) (newId := "ValueError.__new__")
  (oT.hasType PySem.F.excBase_ValueError.hasBase) (I.ok.hd hc) (wpAny_bind (wpAny_mono (Q := fun v s' => ∃ (e t dx : Addr), v = .ref e /\ s'.heap.get? C = some (excClassObj nm qn C N bs tl hdct sn sub ab col dd k0 k1 k2 k3 k5 "ValueError.__new__") /\ s'.heap.get? e = some { cls := .ref C, dict := some dx, data := .fields #[.ref t, .none, .none, .none, .bool false, .none] } /\ X.xe (.ref e) s') ?_ (fun v s' z => wpAny_bind (wpAny_standAt (wpAny_pure z))) fun _ _ z => z))))
 refine wpAny_Call_Name_kw (hZ I hg hm ?_ hd)
 unfold callWith
 have hA := ha cpos pins s σ H _ I h
 rw [he] at hA ⊢
 refine wpAny_bind (wpAny_holding (wpAny_mono (Calls.evalArgs_plain (Q := fun a s1 => a.kw = [] /\ ∃ vs H1, aJ X pins σ H1 s1 /\ bd vs a.pos /\ ∃ v, vs = [v] /\ ∀ dx, H1 dx = none -> E (.ref C) (some dx) (upd H1 dx (.xd [(f, v)]))) (bQ hA fun us s1 ⟨vs, H1, I1, r1, q1⟩ => ⟨rfl, vs, H1, I1, r1, q1⟩)) (fun a s1 h1 => wpAny_bind (wpAny_standAt ?_)) fun _ _ z => z))
 obtain ⟨apos, akw⟩ := a
 obtain ⟨hkw, vs, H1, I1, r1, v, rfl, q1⟩ := h1
 obtain rfl : akw = [] := hkw
 have hk := I1.bk _ _ oC
 have hp3 : ((backTo cpos ((false, eval e0 X.env) :: starEach es X.env)).any fun x => x.fst) = false := by
  show (false || (backTo cpos (starEach es X.env)).any (·.1)) = false
  rw [hpl]; rfl
 have hp4 : ((backToKw cpos (keywordEach [] X.env)).any fun x => x.fst.isNone) = false := rfl
 rw [hp3, hp4]
 obtain ⟨hp', g, d, tk, os⟩ := s1
 refine wpAny_bind (wpAny_keeperOf_exc hk ?_)
 refine wpAny_bind (vj O F hb hr I1 r1 fun a dx s2 nw n1 n2 n3 I2 => wpAny_bind (wpAny_holding (wpAny_point (wpAny_pure ?_))))
 have ea : (upd (upd H1 a (eW a C dx)) dx (.xd [(f, v)])) a = some (eW a C dx) := by rw [aE (Ne.symm n1), aL]
 obtain ⟨⟨t, pa⟩, _⟩ := (show bz X.prog X.w _ s2.heap a (eW a C dx) from I2.hok a _ ea)
 refine ⟨a, t, dx, rfl, I2.bk _ _ oC, pa, hx pins σ H1 s2 a dx v I2 ?_ n1 n2 (q1 dx n3)⟩
 cases z : X.s₀.heap.get? a with
 | none => rfl
 | some o =>
  obtain ⟨o', e1⟩ := I1.base.there a o z (by rw [hex]; exact List.not_mem_nil)
  have e1 : hp'.get? a = some o' := e1
  have nw : hp'.get? a = none := nw
  rw [nw] at e1; cases e1
end
end L2
namespace PySem
section
variable {M : Model} {A : Around} {E : Value -> Shared -> Prop} {s : Shared} {base : Heap} {env : Env} {outer l : List Env} {L e : Addr} {cls : Value} {dx : Option Addr} {Q : Unit -> Shared -> Prop}
noncomputable def Heap.StX (h base : Heap) (e : Addr) (cls : Value) (dx : Option Addr) (L : Addr) : Prop :=
 (∃ (x : Obj) (vs : Array Value), h.get? e = some x /\ (x.cls = cls /\ x.dict = dx /\ (dx = none -> vs[2]? = some .none)) /\ x.data = .fields vs /\ vs[1]? = some .none) ∨ h.TrX base e cls dx .none ∨ h.TrX base e cls dx (rawInt L)
theorem noteS (hA : A.frames = some (env :: outer)) (hL : env.frame = some L) (hB : base.StaysIn s.heap) (hn : base.get? e = none) (hF : s.heap.FunFrames base (env :: outer)) (z : s.heap.StX base e cls dx L)
  (k : ∀ h', Heap.OnX base (env :: outer) e cls dx (rawInt L) h' -> s.heap.UpToSlots h' -> Q () { s with heap := h' }) : wpAny M A (noteFrame (.ref e) env) Q E s := by
 rcases z with ⟨x, vs, hx, ⟨hc, hd, hc2⟩, hv, h1⟩ | z | z
 ·subst hc hd
  unfold noteFrame
  simp only [hL]
  refine wpAny_bind (wpAny_field hx hv h1 ?_)
  rw [if_neg (by decide)]
  exact noteX hA hF hL hx hB hn hv (Array.getElem?_eq_some_iff.mp h1).1 hc2 k
 ·exact looksX hA hL ⟨hB, hn, hF, z⟩ k
 ·obtain ⟨x, vs, T, y, ts, hx, hc, hv, h1, nT, Te, hT, hy, h3⟩ := id z
  unfold noteFrame
  simp only [hL]
  refine wpAny_bind (wpAny_field hx hv h1 ?_)
  rw [if_pos (show (Value.ref T != Value.none) = true from by simp)]
  refine wpAny_bind (wpAny_field hT hy h3 ?_)
  rw [if_pos (show (rawInt L == rawInt L) = true from by simp)]
  exact wpAny_pure (k s.heap ⟨hB, hn, hF, z⟩ (.refl _))
end
end PySem
namespace L2
open PySem PySem.Spec PyProof.Rows
structure AL (X : Cx) (H' : Hp) (B : Heap) (a : Addr) (s' : Shared) : Prop where
 os : s'.os = X.s₀.os
 bare : AllBare s'.gens
 hok : iX X.prog X.w H' B
 st : B.StaysIn s'.heap
 na : B.get? a = none
 ff : s'.heap.FunFrames B X.stack
 un : Un (dW X.outer) [] X.H₀ H' X.s₀.heap s'.heap
 kU : ∀ b o, X.s₀.heap.get? b = some o -> X.H₀ b = none -> b ∉ dW X.outer -> B.get? b = some o
 kT : ∀ b o, X.s₀.heap.get? b = some o -> b ∉ dW X.outer -> ∃ o', B.get? b = some o'
noncomputable def XeS (X : Cx) (E : XK) : Value -> Shared -> Prop := fun e s' => ∃ (a C : Addr) (dx : Option Addr) (H' : Hp) (B : Heap), e = .ref a /\ AL X H' B a s' /\ s'.heap.StX B a (.ref C) dx X.env.locals /\ E (.ref C) dx H'
section
variable {X : Cx} {E : XK} {H' : Hp} {B h2 : Heap} {a : Addr} {s' : Shared} {cls : Value} {dx : Option Addr} {fl : Value}
theorem AL.move (w : AL X H' B a s') (hst : X.stack = X.env :: X.outer) (z : Heap.OnX B X.stack a cls dx fl h2) (us : s'.heap.UpToSlots h2) : AL X H' B a { s' with heap := h2 } := by
 have sub : ∀ b ∈ dW X.outer, b ∈ dW X.stack := fun b hb => by
  rw [hst]
  obtain ⟨env, hm, hf⟩ := List.mem_filterMap.mp (show b ∈ X.outer.filterMap (·.frame) from hb)
  exact List.mem_filterMap.mpr ⟨env, List.mem_cons_of_mem _ hm, hf⟩
 have cs : ∀ b ∈ dW X.outer, ∀ o, s'.heap.get? b = some o -> ∃ sl, h2.get? b = some { o with slots := sl } := fun b hb o e => by
  obtain ⟨_, o', e', hd⟩ := w.ff.mem (sub b hb)
  rw [e] at e'; cases e'
  exact us b o e hd
 exact ⟨w.os, w.bare, w.hok, z.1, w.na, z.2.2.1, {
  keep := fun b o e n hb _ => z.1 b o (w.kU b o e n hb)
  slot := fun b o e n hb hx => by
   obtain ⟨sl, e1⟩ := w.un.slot b o e n hb hx
   obtain ⟨sl', e2⟩ := cs b hb _ e1
   exact ⟨sl', e2⟩
  free := w.un.free
  there := fun b o e hx => by
   by_cases hb : b ∈ dW X.outer
   ·obtain ⟨o2, e2⟩ := w.un.there b o e hx
    obtain ⟨sl, e3⟩ := cs b hb _ e2
    exact ⟨_, e3⟩
   ·obtain ⟨o2, e2⟩ := w.kT b o e hb
    exact ⟨o2, z.1 b o2 e2⟩
  tups := w.un.tups
  frzs := w.un.frzs
  tbls := w.un.tbls }, w.kU, w.kT⟩
end
section
variable {P : Program} {w : World} {K : Fg} {mg : Str -> Option Value} {base : Heap} {N : List Str} {qual : Str} {scope : Scope} {f : Addr} {cd : Value} {A : Around} {outer : List Env} {s : Shared} {H : Hp} {E : XK}
theorem yH {e : Value} {s' : Shared} (hA : (cI (hI P w) P w K mg base N qual scope f cd A outer s H E).A.frames = some (cI (hI P w) P w K mg base N qual scope f cd A outer s H E).stack) (z : XeS (cI (hI P w) P w K mg base N qual scope f cd A outer s H E) E e s') :
  (cI (hI P w) P w K mg base N qual scope f cd A outer s H E).xe e s' := by
 obtain ⟨a, C, dx, H', B, rfl, wy, st, q⟩ := z
 show wpAny _ _ (leaving _ _) _ _ _
 unfold leaving
 refine wpAny_bind (noteS hA rfl wy.st wy.na wy.ff st fun h2 z2 us => ?_)
 have w2 := wy.move rfl z2 us
 refine landsX (s := { s' with heap := h2 }) z2 fun h3 z3 us3 => ?_
 have w3 := w2.move rfl z3 us3
 obtain ⟨k1, k2, ⟨_, _, k3⟩, k4⟩ := z3
 exact ⟨a, C, dx, H', B, rfl, w3.os, w3.bare, w3.un, w3.hok, ⟨k1, k2, k3, k4⟩, w3.kU, w3.kT, q⟩
noncomputable abbrev EJ (P : Program) (w : World) (K : Fg) (mg : Str -> Option Value) (base : Heap) (N : List Str) (qual : Str) (scope : Scope) (f : Addr) (cd : Value) (A : Around) (outer : List Env) (s : Shared) (H : Hp) (E : XK) : Cx :=
 (cI (hI P w) P w K mg base N qual scope f cd A outer s H E).wish (XeS (cI (hI P w) P w K mg base N qual scope f cd A outer s H E) E)
theorem pA.okS {x qual : Str} {st : Stmt} {f : Addr} {fd : FuncData} {N ps : List Str} {k : Nat} {sp : Sp} (F : pA K x qual st f fd) (S : aB N ps (ae st)) (len : ∀ vs H Q E, sp vs H Q E -> vs.length = ps.length)
  (hbody : ∀ (cdv : Value) (A : Around) (outer : List Env) (s : Shared) (H : Hp) (vs : List V) (Q : VK) (E : XK), cU k (A.deeper (envOfC qual (ae st) s.heap.objs.size f cdv)) -> sp vs H Q E ->
   ∃ t, nA (EJ P w K mg base N qual (ae st) f cdv A outer s H E) (cr st) t /\ t { nx := fun _ H' => Q .non H', rt := Q } (cT N vs) H) : dR P w K mg base (hI P w) (k + 1) f fd ps sp :=
 F.okE S len fun cdv A outer s H vs Q E hr hsp => by
  obtain ⟨t, ht, hq⟩ := hbody cdv A outer s H vs Q E hr hsp
  refine ⟨t, fun pins s1 σ H1 D I h => ?_, hq⟩
  exact wpAny_mono (ht pins s1 σ H1 D (I.wish _) h) (fun fl s' z => z.unwish) fun e s' z => yH I.ok.frames z
theorem pA.okL {x qual : Str} {st : Stmt} {f : Addr} {fd : FuncData} {N ps : List Str} {k : Nat} {sp : Sp} (F : pA K x qual st f fd) (S : aB N ps (ae st)) (len : ∀ vs H Q E, sp vs H Q E -> vs.length = ps.length)
  (hbody : ∀ (cdv : Value) (A : Around) (outer : List Env) (s : Shared) (H : Hp) (vs : List V) (Q : VK) (E : XK), cU k (A.deeper (envOfC qual (ae st) s.heap.objs.size f cdv)) -> (A.deeper (envOfC qual (ae st) s.heap.objs.size f cdv)).frames = some (envOfC qual (ae st) s.heap.objs.size f cdv :: outer) -> sp vs H Q E ->
   ∃ t, nA (EJ P w K mg base N qual (ae st) f cdv A outer s H E) (cr st) t /\ t { nx := fun _ H' => Q .non H', rt := Q } (cT N vs) H) : dR P w K mg base (hI P w) (k + 1) f fd ps sp :=
 F.okS S len fun cdv A outer s H vs Q E hr hsp => by
  by_cases hf : (A.deeper (envOfC qual (ae st) s.heap.objs.size f cdv)).frames = some (envOfC qual (ae st) s.heap.objs.size f cdv :: outer)
  ·exact hbody cdv A outer s H vs Q E hr hf hsp
  ·exact ⟨fun _ _ _ => True, fun pins s1 σ H1 D I _ => absurd I.ok.frames hf, True.intro⟩
end
section
variable {P : Program} {w : World} {K : Fg} {mg : Str -> Option Value} {base : Heap} {N : List Str} {qual : Str} {scope : Scope} {f : Addr} {cd : Value} {A : Around} {outer : List Env} {s : Shared} {H : Hp} {E : XK}
theorem xM {b : Addr} {o : Obj} (e : s.heap.get? b = some o) (n : b ∉ dW outer) : b ∉ dW (cI (hI P w) P w K mg base N qual scope f cd A outer s H E).stack := fun z => by
 rcases xu.mp z with z | z
 ·rw [z] at e
  exact absurd (Heap.lt_size e) (Nat.lt_irrefl _)
 ·exact n z
theorem Ek {pins : Pn} {σ : St} {H1 H3 : Hp} {s1 : Shared} {h' : Heap} {a : Addr} (I : aJ (cI (hI P w) P w K mg base N qual scope f cd A outer s H E) pins σ H1 s1) (kp : ∀ b o, b ≠ a -> s1.heap.get? b = some o -> h'.get? b = some o) (nos : s.heap.get? a = none) (na : a ∉ dW (cI (hI P w) P w K mg base N qual scope f cd A outer s H E).stack) (eq : ∀ b, b ≠ a -> H1 b = H3 b) (ha : H3 a = none) (ht : ∀ xs, H1 a ≠ some (.tup xs)) (hw : ∀ b, H1 a ≠ some (.own b)) (hz : ∀ o u, H1 a ≠ some (.frz o u)) (hl : ∀ ps, H1 a ≠ some (.tbl ps)) :
  AL (cI (hI P w) P w K mg base N qual scope f cd A outer s H E) H3 (PySem.W.hideAll s1.heap (a :: dW (cI (hI P w) P w K mg base N qual scope f cd A outer s H E).stack)) a { s1 with heap := h' } := by
 have hin : ∀ env ∈ (cI (hI P w) P w K mg base N qual scope f cd A outer s H E).stack, ∀ b, env.frame = some b -> b ∈ a :: dW (cI (hI P w) P w K mg base N qual scope f cd A outer s H E).stack := fun env he b hb => List.mem_cons_of_mem _ (List.mem_filterMap.mpr ⟨env, he, hb⟩)
 have toB : ∀ b o, s1.heap.get? b = some o -> b ≠ a -> b ∉ dW (cI (hI P w) P w K mg base N qual scope f cd A outer s H E).stack -> (PySem.W.hideAll s1.heap (a :: dW (cI (hI P w) P w K mg base N qual scope f cd A outer s H E).stack)).get? b = some o := fun b o e n1 n2 => PySem.W.hideAll_get _ e (fun z => (List.mem_cons.mp z).elim n1 n2)
 have nb : ∀ b o, s.heap.get? b = some o -> b ≠ a := fun b o e z => by rw [z, nos] at e; cases e
 have st : (PySem.W.hideAll s1.heap (a :: dW (cI (hI P w) P w K mg base N qual scope f cd A outer s H E).stack)).StaysIn h' := fun b o q => kp b o (fun z => by rw [z, PySem.W.hideAll_none _ (List.mem_cons_self ..)] at q; cases q) (PySem.W.of_hideAll _ q)
 have ff := PySem.W.funFrames_hide (as := a :: dW (cI (hI P w) P w K mg base N qual scope f cd A outer s H E).stack) I.stack hin
 have fn : ∀ b ∈ dW (cI (hI P w) P w K mg base N qual scope f cd A outer s H E).stack, b ≠ a := fun b hb z => na (z ▸ hb)
 refine ⟨I.os, I.bare, fun b u eu => ?_, st, PySem.W.hideAll_none _ (List.mem_cons_self ..), ?_, ?_, ?_, ?_⟩
 ·have hba : b ≠ a := fun z => by rw [z, ha] at eu; cases eu
  have e2 : H1 b = some u := by rw [eq b hba]; exact eu
  refine (I.hok b u e2).stay (fun c o hc q => toB c o q (fun z => ?_) fun z => ?_) (fun c q => ?_) fun c xs q => ?_
  ·rcases hc with hc | hc
   ·exact hba (hc.symm.trans z)
   ·rw [z] at hc; exact hw _ hc
  ·have n := I.stkFree c z
   rcases hc with hc | hc
   ·rw [hc, e2] at n; cases n
   ·rw [hc] at n; cases n
  ·by_cases z : c = a
   ·rw [z] at q; exact absurd q (hw _)
   ·rw [<- eq c z]; exact q
  ·by_cases z : c = a
   ·rw [z] at q; exact absurd q (ht _)
   ·rw [<- eq c z]; exact q
 ·have go : ∀ l : List Env, (∀ b ∈ dW l, b ≠ a) -> s1.heap.FunFrames (PySem.W.hideAll s1.heap (a :: dW (cI (hI P w) P w K mg base N qual scope f cd A outer s H E).stack)) l -> h'.FunFrames (PySem.W.hideAll s1.heap (a :: dW (cI (hI P w) P w K mg base N qual scope f cd A outer s H E).stack)) l := fun l => by
   induction l with
   | nil => exact fun _ _ => trivial
   | cons env r ih =>
    intro hn z
    obtain ⟨z1, ⟨L, o, z2, z3, z4, z5⟩, z6⟩ := z
    refine ⟨z1, ⟨L, o, z2, z3, kp L o (hn L ?_) z4, z5⟩, ih (fun b hb => hn b ?_) z6⟩
    ·exact List.mem_filterMap.mpr ⟨env, List.mem_cons_self, z2⟩
    ·obtain ⟨e2, hm, hf⟩ := List.mem_filterMap.mp (show b ∈ r.filterMap (·.frame) from hb)
     exact List.mem_filterMap.mpr ⟨e2, List.mem_cons_of_mem _ hm, hf⟩
  exact go _ fn ff
 ·exact {
   keep := fun b o e n hb _ => kp b o (nb b o e) (I.base.keep b o e n hb (by exact fun z => nomatch z))
   slot := fun b o e n hb _ => by
    obtain ⟨sl, e1⟩ := I.base.slot b o e n hb (by exact fun z => nomatch z)
    exact ⟨sl, kp b _ (nb b o e) e1⟩
   free := fun b o e n _ => by rw [<- eq b (nb b o e)]; exact I.base.free b o e n (by exact fun z => nomatch z)
   there := fun b o e _ => by
    obtain ⟨o', e1⟩ := I.base.there b o e (by exact fun z => nomatch z)
    exact ⟨o', kp b o' (nb b o e) e1⟩
   tups := fun b xs z => by
    have := I.base.tups b xs z
    by_cases y : b = a
    ·rw [y] at this; exact absurd this (ht _)
    ·rw [<- eq b y]; exact this
   frzs := fun b o u z => by
    have := I.base.frzs b o u z
    by_cases y : b = a
    ·rw [y] at this; exact absurd this (hz _ _)
    ·rw [<- eq b y]; exact this
   tbls := fun b ps z => by
    obtain ⟨m, this⟩ := I.base.tbls b ps z
    by_cases y : b = a
    ·rw [y] at this; exact absurd this (hl _)
    ·exact ⟨m, by rw [<- eq b y]; exact this⟩ }
 ·exact fun b o e n hb => toB b o (I.base.keep b o e n hb (by exact fun z => nomatch z)) (nb b o e) (xM e hb)
 ·intro b o e hb
  obtain ⟨o', e1⟩ := I.base.there b o e (by exact fun z => nomatch z)
  exact ⟨o', toB b o' e1 (nb b o e) (xM e hb)⟩
theorem cS {C : Addr} {fld : Str} : rV (EJ P w K mg base N qual scope f cd A outer s H E) C fld E := by
 intro pins σ H1 s1 a dx v I0 nos n1 n2 q
 have I : aJ (cI (hI P w) P w K mg base N qual scope f cd A outer s H E) pins σ _ s1 := I0.unwish
 have ea : (upd (upd H1 a (eW a C dx)) dx (.xd [(fld, v)])) a = some (eW a C dx) := by rw [aE (Ne.symm n1), aL]
 obtain ⟨⟨t, pa⟩, _⟩ := (show bz P w _ s1.heap a (eW a C dx) from I.hok a _ ea)
 have er : ∀ b, b ≠ a -> (upd (upd H1 a (eW a C dx)) dx (.xd [(fld, v)])) b = (upd H1 dx (.xd [(fld, v)])) b := fun b hb => by
  by_cases z : b = dx
  ·rw [z, aL, aL]
  ·rw [aE z, aE z, aE hb]
 have na : a ∉ dW (cI (hI P w) P w K mg base N qual scope f cd A outer s H E).stack := fun z => by
  have := I.stkFree a z
  rw [ea] at this; cases this
 refine ⟨a, C, some dx, _, _, rfl, Ek (h' := s1.heap) I (fun b o _ e => e) nos na er (by rw [aE (Ne.symm n1)]; exact n2) (fun xs z => by rw [ea] at z; cases z) (fun xs z => by rw [ea] at z; cases z) (fun xs u z => by rw [ea] at z; cases z) (fun xs z => by rw [ea] at z; cases z), .inl ⟨_, _, pa, ⟨rfl, rfl, fun z => by cases z⟩, rfl, rfl⟩, q⟩
end
end L2
namespace PySem
section
variable {prog : Program} {w : World} {A : Around} {E : Value -> Shared -> Prop} {s : Shared} {env : Env}
variable {nm q : Str} {C N : Addr} {bs bm : List Value} {hdct : Bool} {sn : List Str} {sub : List Value} {ab : Bool} {col : Option Bool} {dd : Option Addr} {k0 k1 k2 k3 k5 : Option Value} {newId : String}
end
end PySem
namespace L2
open PySem PySem.Spec PyProof.Rows
section
variable {X : Cx} {k : Nat} {C fI : Addr} {fd : FuncData} {f : Str}
end
section
variable {P : Program} {w : World} {K : Fg} {mg : Str -> Option Value} {base : Heap} {N : List Str} {qual : Str} {scope : Scope} {f : Addr} {cd : Value} {A : Around} {outer : List Env} {s : Shared} {H : Hp} {E : XK}
end
section
variable {X : Cx} {k k2 : Nat} {f fI : Addr} {fd fd2 : FuncData} {ps : List Str} {sp : Sp} {dvs : List V} {ds : List Value} {fx x c1 c2 cx : Str} {p cpos px apos q1 q2 tpos np c2pos kpos rpos spos hpos pos : Pos} {e : Expr} {es : List Expr} {t : TA} {T1 T2 C : Addr} {i : Nat} {E : XK} {fld : Str} {tx n1 n2 : Nat}
end
end L2
namespace L2
open PySem PySem.Spec PyProof.Rows
section
variable {X : Cx} {pins : Pn} {σ : St} {H : Hp} {s : Shared}
theorem aJ.trackG {a : Addr} {o : HO} (I : aJ X pins σ H s) (h1 : ∀ H2, bz X.prog X.w H2 s.heap a o) (h2 : H a = none) (h3 : a ≠ X.env.locals) (h4 : ∀ x c, X.env.cells.lookup x = some c -> c ≠ a) (h5 : ∀ p ∈ X.pn ++ pins, p.1 ≠ a) (h6 : X.s₀.heap.get? a = none) :
  aJ X pins σ (upd H a o) s := by
 have ne : ∀ b u, H b = some u -> b ≠ a := fun b u e z => by rw [z, h2] at e; cases e
 refine ⟨I.ok, I.os, I.bare, ⟨I.base.keep, I.base.slot, fun b o e n hx => ?_, I.base.there, fun b xs e => ?_, fun b o u e => ?_, fun b ps e => ?_⟩, I.loc, I.cell, ?_, fun x c e => ?_, fun p hp => ?_, fun b ob e => ?_, I.len⟩
 ·rw [aE (fun z => by rw [z, h6] at e; cases e)]; exact I.base.free b _ e n hx
 ·have := I.base.tups b xs e; rw [aE (ne _ _ this)]; exact this
 ·have := I.base.frzs b _ u e; rw [aE (ne _ _ this)]; exact this
 ·obtain ⟨m, q⟩ := I.base.tbls b ps e; exact ⟨m, by rw [aE (ne _ _ q)]; exact q⟩
 ·rw [aE (Ne.symm h3)]; exact I.free
 ·rw [aE (h4 x c e)]; exact I.freeC x c e
 ·obtain ⟨q1, q2, q3, q4, q5⟩ := I.pin p hp
  exact ⟨q1, by rw [aE (h5 p hp)]; exact q2, q3, q4, q5⟩
 ·by_cases z : b = a
  ·subst z
   rw [aL] at e
   cases e
   exact h1 _
  ·rw [aE z] at e
   exact (I.hok b ob e).stay (fun c u _ q => q) (fun c q => by rw [aE (ne _ _ q)]; exact q) (fun c xs q => by rw [aE (ne _ _ q)]; exact q)
end
section
variable {X : Cx} {pins : Pn} {σ : St} {H : Hp} {s s' : Shared} {E : XK} {ex : Value} {x n : Str} {T C : Addr} {np hpos : Pos} {b0 : Stmt} {suite : List Stmt} {ts : Addr -> TS} {D : Ends} {j : Nat}
theorem uJ (I : aJ X pins σ H s) (hst : X.stack = X.env :: X.outer) (hf : X.env.frame = some X.env.locals) (h0 : ∀ e s, X.xe e s -> False) (cx : hI X.prog X.w X.stack H s E ex s')
  (hN : X.N.Nodup) (hi : X.N[j]? = some n) (hln : X.env.scope.names.lookup n = some .local) (hk : X.env.kindOf n = some .local) (M1 : vg X x T C true) (hex : X.ex = [])
  (hE : ∀ cls d H', E cls d H' -> cls = .ref C /\ ∃ dd, d = some dd /\ ∀ a, H' a = none -> ts a (jS j D) (σ.set j (some (.ref a))) (upd H' a (gR a C dd))) (hs : ∀ a, nA (X.marked a) (b0 :: suite) (ts a)) :
  wpAny (model X.prog X.w) X.A (noteFrame ex X.env) (fun _ s2 => wpAny (model X.prog X.w) X.A (setFlight ex none) (fun _ s3 =>
   wpAny (model X.prog X.w) X.A (handleBy ex X.env [.ExceptHandler (some (.Name x np)) (some n) (b0 :: suite) hpos]) (SP X pins D) X.xe s3) X.xe s2) X.xe s' := by
 obtain ⟨a, C', dx, H', B, rfl, os, bare, un, hB, fl, kU, kT, q⟩ := cx
 obtain ⟨ec, qq⟩ := hE _ _ H' q
 cases ec
 obtain ⟨dd, rfl, qq⟩ := qq
 have ff := fl.2.2.1
 have fl' : Heap.FlyX B (X.env :: X.outer) a (.ref C) (some dd) s'.heap := by rw [<- hst]; exact fl
 have hfr : X.A.frames = some (X.env :: X.outer) := by rw [<- hst]; exact I.ok.frames
 refine looksX (s := s') hfr hf fl' fun h4 held4 us4 => ?_
 refine landsX (s := { s' with heap := h4 }) held4 fun h5 fl5 us5 => ?_
 have us45 := us4.trans us5
 have I5 : aJ X pins σ H' { s' with heap := h5 } := I.flown os bare un hB ff kU kT fl5.1 us45
 refine wpAny_handleBy_cons (codeAny_handlers_test ?_) (by intro z; cases z)
 refine hZ (X := X.marked a) (I5.marked a) M1.gl M1.m ?_ M1.db
 have LT : PySem.W.Looks (model X.prog X.w) h5 (typeOf (.ref a)) (.ref C) := by
  obtain ⟨ob, hob, hc⟩ := fl5.there
  rw [<- hc]
  exact (PySem.W.Looks.ld hob).andThen .now
 refine (PySem.W.exm_one I5.kIn LT M1.ex).here ?_
 refine codeAny_handlers_suite_as ?_
 refine landsX (s := { s' with heap := h5 }) fl5 fun h6 fl6 us6 => ?_
 have I6 : aJ X pins σ H' { s' with heap := h6 } := I.flown os bare un hB ff kU kT fl6.1 (us45.trans us6)
 have fn := fl6.2.1
 obtain ⟨oe, vs, T', oT, tsn, he, ⟨hcls, hdct, _⟩, hd, _⟩ := fl6.2.2.2
 obtain ⟨oe', vs', _, _, _, he', _, hd', _⟩ := fl.2.2.2
 have hfree : H' a = none := by
  cases e : H' a with
  | none => rfl
  | some u =>
   obtain ⟨ob, eb⟩ := (hB a u e).thereIs
   rw [fn] at eb; cases eb
 have nstk : a ∉ dW X.stack := fun z2 => by
  obtain ⟨_, o2, e2, hnf⟩ := ff.mem z2
  rw [he'] at e2; cases e2
  exact hnf _ hd'
 have nloc : a ≠ X.env.locals := fun z => by
  obtain ⟨m, ⟨o2, es, ep, ho, hd2, _⟩, _⟩ := I6.loc
  rw [<- z] at ho
  have ho : h6.get? a = some o2 := ho
  rw [he] at ho; cases ho
  rw [hd] at hd2; cases hd2
 have nos : s.heap.get? a = none := by
  cases e : s.heap.get? a with
  | none => rfl
  | some o =>
   obtain ⟨o', e'⟩ := kT a o e nstk
   rw [fn] at e'; cases e'
 have nos0 : X.s₀.heap.get? a = none := by
  cases e : X.s₀.heap.get? a with
  | none => rfl
  | some o =>
   obtain ⟨o', e'⟩ := I.base.there a o e (by rw [hex]; simp)
   rw [nos] at e'; cases e'
 have ncell : ∀ y c, X.env.cells.lookup y = some c -> c ≠ a := fun y c e z => by
  obtain ⟨v, o2, ho, hd2⟩ := I.cell y c e
  rw [z, nos] at ho; cases ho
 have npin : ∀ p ∈ X.pn ++ pins, p.1 ≠ a := fun p hp z => by
  have := (I.pin p hp).1
  rw [z, nos] at this; cases this
 refine lA (X := X.marked a) (v := .ref a) (I6.marked a) hN hi (.inl hln) rfl (fun s7 I7 sb => ?_) (.inr hln)
 obtain ⟨ad, sb, had⟩ := sb
 have ane : a ≠ ad := fun z => by
  rcases had with had | had
  ·exact nloc (z.trans had)
  ·exact ncell n ad had z.symm
 have he7 : s7.heap.get? a = some oe := (sb.2 a ane).trans he
 have I8 := aJ.trackG (X := X.marked a) (o := gR a C dd) I7 (fun H2 => okD he7 hcls hdct hd) hfree nloc ncell npin nos0
 refine wpAny_mono (hs a pins s7 _ _ (jS j D) I8 (qq a hfree)) (fun f s9 z => ?_) fun e s9 z => (h0 e s9 z).elim
 exact wpAny_mono (qb (M := model X.prog X.w) (A := X.A) hN hi hk I.ok z) (fun _ _ z => z) fun _ _ z => z.elim
end
section
variable {X : Cx} {k : Nat} {f : Addr} {fd : FuncData} {ps : List Str} {sp : Sp} {dvs : List V} {ds : List Value} {fx cx n : Str} {p cpos epos np hpos pos : Pos} {e : Expr} {es : List Expr} {t : TA} {T C : Addr} {b0 : Stmt} {suite : List Stmt} {ts : Addr -> TS} {j : Nat}
end
noncomputable def Ew (K : Fg) (c : V) (u : Value) : List V -> Hp -> VK -> Prop := fun xs H Q => ∃ a C dx b, xs = [.ref a, c] /\ H a = some (gR a C dx) /\ jF K C /\ PySem.W.kitOne K (.ref C) u = some b /\ Q (.bl b) H
theorem kW {X : Cx} {c : V} {u : Value} (hr : ∀ u', bu c u' -> u' = u) : bY X (.builtin "isinstance") (Ew X.K c u) := by
 intro pins s σ H xs us Q I rv h
 obtain ⟨a, C, dx, b, rfl, ha, Fx, e, q⟩ := h
 obtain ⟨v, w, rfl, rx, rw'⟩ := nL rv
 cases rx
 cases hr _ rw'
 obtain ⟨⟨oe, vs, he, hc, _⟩, _⟩ := (show bz X.prog X.w H s.heap a (gR a C dx) from I.hok a _ ha)
 exact PySem.W.kia_one (uL Fx hc) I.kIn he e (by intro z; cases z) fun tk => ⟨.bl b, H, I.tok tk, rfl, q⟩
end L2
namespace L2
open PySem PySem.Spec PyProof.Rows PySem.SeqAt
section
theorem mf (l : Addr) (a b : Value) (n : Nat) (dd : Option Addr) (sl : Array (Option Value)) (x : Value) (e : Value -> Bool) (j : Nat) (hj : (j = 0 /\ e a = true) ∨ (j = 1 /\ e a = false /\ e b = true)) :
  Meets (Builtin.«tuple.index» ⟨[.ref l, x], []⟩)
   (fun A R s => s.heap.get? l = some { cls := .type "tuple", dict := dd, data := .seq #[a, b] n, slots := sl } /\ (∀ y, y ∈ #[a, b] -> EqAt A.in1 s y x (e y)) /\ R (.ok (.ret (.int j s.toks))) { s with toks := s.toks + 1 }) := by
 intro prog w A R s h
 obtain ⟨hp, g, d, tk, os⟩ := s; obtain ⟨hl, he, h⟩ := h
 unfold Builtin.«tuple.index»
 simp only [Std.Legacy.Range.forIn_eq_forIn_range']
 wp_walk using wpAny_loadPart' hl
 generalize hL : List.range' 0 [:min #[a, b].size #[a, b].size].size = L
 have e : L = [0, 1] := by rw [<- hL]; simp [Std.Legacy.Range.size]; rfl
 subst e
 rw [List.forIn'.loop]
 refine wpAny_bind ?_
 refine wpAny_bind (he a (by simp) prog w _ _ ?_)
 rcases hj with ⟨rfl, ha⟩ | ⟨rfl, ha, hb⟩
 ·rw [ha]
  wp_walk
  exact h
 ·rw [ha, if_neg Bool.false_ne_true]
  refine wpAny_pure ?_
  show wpAny _ _ (List.forIn'.loop _ _ (1 :: []) (none, ()) _) _ _ _
  rw [List.forIn'.loop]
  refine wpAny_bind ?_
  refine wpAny_bind (he b (by simp) prog w _ _ ?_)
  rw [hb]
  wp_walk
  exact h
end
section
variable {X : Cx}
noncomputable def CV (K : Fg) : V -> List V -> Hp -> VK -> Prop := fun x vs H Q => ∃ (p : Addr) (a b z : Str) (j : Nat), x = .ref p /\ vs = [.str z] /\ ci K H p [.str a, .str b] /\ ((j = 0 /\ a = z) ∨ (j = 1 /\ a ≠ z /\ b = z)) /\ Q (.int (j : Nat)) H
theorem so : En X "tuple.index" (CV X.K) := by
 intro pins s σ H x vs v us Q I rx rv h
 obtain ⟨l, a, b, z, j, rfl, rfl, hq, hj, q⟩ := h
 cases rx
 obtain ⟨u, rfl, ru⟩ := rv.one
 obtain ⟨its, r, pl, hsz⟩ := I.tuple hq
 have fs : ([V.str a, V.str b] : List V).all eE = true := rfl
 obtain ⟨ua, ub, rfl, ra, rb⟩ := nL r
 obtain ⟨⟨cls, dd, data, sl⟩, ho, hc, n, hd⟩ := id pl
 simp only at hc hd
 subst hc hd
 refine call_meets PySem.F.slot_tuple_index ⟨_, ho, rfl⟩ PySem.F.entry_tuple_index (PySem.F.args_tuple_index_2 _ _)
  (mf l ua ub n dd sl u (nB (.str z)) j ?_) ⟨ho, fun w hw => eU ru rfl r fs w (by simpa using hw), ⟨.int j, H, I.tok _, ⟨_, rfl⟩, q⟩⟩
 have ea : nB (.str z) ua = (a == z) := lV ra rfl
 have eb : nB (.str z) ub = (b == z) := lV rb rfl
 rw [ea, eb]
 rcases hj with ⟨rfl, rfl⟩ | ⟨rfl, h1, rfl⟩
 ·exact .inl ⟨rfl, beq_self_eq_true _⟩
 ·exact .inr ⟨rfl, by simpa using h1, beq_self_eq_true _⟩
end
section
variable {B : Bk} {τ τ' : TSt} {Φ : TK} {K : Fg}
end
end L2
namespace L2
open PySem PySem.Spec PyProof.Rows
section
variable {X : Cx} {k : Nat} {f : Addr} {fd : FuncData} {ps : List Str} {sp : Sp} {fx cx n : Str} {p cpos cmpos kpos ipos np hpos pos : Pos} {e : Expr} {es : List Expr} {t : TA} {T C : Addr} {b0 : Stmt} {suite body : List Stmt} {ts : Addr -> TS} {i j : Nat} {kj}
end
end L2
namespace L2
open PySem PySem.Spec PyProof.Rows
section
variable {X : Cx}
end
end L2
namespace L2
open PySem PySem.Spec PyProof.Rows
section
variable {X : Cx} {k : Nat} {f : Bool -> Addr} {fd : Bool -> FuncData} {ps : List Str} {sp : Bool -> Sp} {fx x cx n : Str} {p cpos px apos np hpos pos : Pos} {e : Expr} {es : List Expr} {t : TA} {T C : Addr} {b0 : Stmt} {suite : List Stmt} {ts : Addr -> TS} {i0 i j : Nat}
end
end L2
namespace L2
open PySem PySem.Spec PyProof.Rows
section
variable {B : Bk} {τ : TSt} {Φ : TK} {K : Fg}
end
end L2
namespace L2
open PySem PySem.Spec PyProof.Rows
section
variable {K : Fg} {F : Hp}
end
section
variable {B : Bk} {τ : TSt} {Φ : TK} {td ty tv : TE} {nx bk ct : TSt -> Prop} {rt : Kd -> Prop}
end
end L2
namespace L2
open PySem PySem.Spec PyProof.Rows
section
variable {P : Program} {w : World} {A : Around} {E : Value -> Shared -> Prop} {s : Shared} {q1 q2 : Bool} {z ti to n1 n2 a1 a2 : Addr} {k : Nat} {us vs : Array Value} {u v c d : Value}
end
section
variable {X : Cx} {pins : Pn} {σ : St} {H H0 : Hp} {s : Shared}
end
end L2
namespace L2
open PySem PySem.Spec PyProof.Rows
section
variable {X : Cx} {k : Nat} {f : Addr} {fd : FuncData} {ps : List Str} {sp : Sp} {dvs dv1 dv2 : List V} {ds ds1 ds2 : List Value} {fx x cx : Str} {p cpos px apos q cpos2 qx apos2 np hpos pos ipos : Pos} {e e2 c : Expr} {es es2 : List Expr} {t t1 t2 : TA} {tc : TT} {T : Addr} {b0 : Stmt} {suite : List Stmt} {ts : TS} {i : Nat}
end
end L2
namespace L2
open PySem PySem.Spec PyProof.Rows
section
variable {X : Cx}
end
section
variable {B : Bk} {τ : TSt} {ta tb tc : TE} {Φ : TK}
end
end L2
namespace L2
open PySem PySem.Spec PyProof.Rows
section
variable {prog : Program} {w : World} {A : Around} {R : Result -> Shared -> Prop} {I : Addr} {fp wr : List Addr} {n : Nat} {P : Nat -> Value -> Prop} {St : Nat -> Heap -> Prop} {kw : List (Str × Value)}
end
section
variable {X : Cx}
end
end L2
namespace L2
open PySem PySem.Spec PyProof.Rows
section
variable {X : Cx} {tg : Expr}
end
section
variable {B : Bk} {τ : TSt} {ta tb : TE}
end
end L2
namespace L2
open PySem PySem.Spec PyProof.Rows
section
variable {X : Cx} {CX : CXT} {k : Nat} {f : Addr} {fd : FuncData} {ps : List Str} {sp : Sp} {E : XK} {x nm : Str} {p pos kp : Pos} {e ke : Expr} {es : List Expr} {te : TE} {t : TA} {g : List Value -> List Value -> List Value} {gV : List V -> List V -> List V}
end
section
variable {X : Cx} {k : Nat} {f : Addr} {fd : FuncData} {ps : List Str} {sp : Sp} {dvs dv1 dv2 : List V} {ds ds1 ds2 : List Value} {fx x cx : Str} {p cpos px apos q cpos2 qx apos2 np hpos pos ipos : Pos} {e e2 c : Expr} {es es2 : List Expr} {t t1 t2 : TA} {tc : TT} {T : Addr} {b0 : Stmt} {suite : List Stmt} {ts : TS} {i : Nat} {nm : Str} {ke : Expr} {kp : Pos} {tk : TE} {g : List Value -> List Value -> List Value} {gV : List V -> List V -> List V}
end
end L2
namespace L2
open PySem PySem.Spec PyProof.Rows PySem.SeqAt
section
theorem gd (b : Str) (u : Tok) (l : Addr) (c : Value) (es : Array DictEntry) (n : Nat) (dd : Option Addr) (sl : Array (Option Value)) :
  Meets (Builtin.«str.__eq__» ⟨[.str b u, .ref l], []⟩) (fun _ R s => s.heap.get? l = some { cls := c, dict := dd, data := .dict es n, slots := sl } /\ R (.ok (.ret .notImplemented)) s) :=
 .of_wp fun prog w A R s h => by obtain ⟨hp, g, d, tk, os⟩ := s; obtain ⟨hl, h⟩ := h; wp_walk using wpAny_loadPart' hl, wpAny_load hl; exact ⟨_, rfl, h⟩
theorem gf (l : Addr) (es : Array DictEntry) (n : Nat) (dd : Option Addr) (sl : Array (Option Value)) (b : Str) (u : Tok) :
  Meets (Builtin.«dict.__eq__» ⟨[.ref l, .str b u], []⟩) (fun _ R s => s.heap.get? l = some { cls := .type "dict", dict := dd, data := .dict es n, slots := sl } /\ R (.ok (.ret .notImplemented)) s) :=
 .of_wp fun prog w A R s h => by obtain ⟨hp, g, d, tk, os⟩ := s; obtain ⟨hl, h⟩ := h; have f1 := F.sub_str_dict; wp_walk using wpAny_loadPart' hl; exact ⟨_, rfl, h⟩
end
section
variable {A : Around} {s : Shared}
theorem RcAt.str_dict {l : Addr} {es : Array DictEntry} {n : Nat} {dd : Option Addr} {sl : Array (Option Value)} (b : Str) (u : Tok) (ho : s.heap.get? l = some { cls := .type "dict", dict := dd, data := .dict es n, slots := sl }) (hu : A.units < cLine) : RcAt A s (.str b u) (.ref l) false := fun prog w E Q h => by
 exact rc_eq_decline_or (k := false) (typeIs_str s b u) ⟨_, ho, rfl⟩ (by decide) F.sub_dict_str F.slot_str_eq F.slot_dict_eq_refl
  (fun _ hq => call_meets F.slot_str_eq (typeIs_str s b u) F.entry_str_eq (F.args_str_eq_2 _ _) (gd b u l (.type "dict") es n dd sl) ⟨ho, hq⟩)
  (fun _ hq => call_meets F.slot_dict_eq_refl ⟨_, ho, rfl⟩ F.entry_dict_eq (F.args_dict_eq_2 _ _) (gf l es n dd sl b u) ⟨ho, hq⟩)
  (fun _ hq => wpAny_of_eq (rfl : isSame (.str b u) (.ref l) = pure false) hq) (.inr hu) h
theorem EqAt.str_dict {l : Addr} {es : Array DictEntry} {n : Nat} {dd : Option Addr} {sl : Array (Option Value)} (b : Str) (u : Tok) (ho : s.heap.get? l = some { cls := .type "dict", dict := dd, data := .dict es n, slots := sl }) (hu : A.units < cLine) : EqAt A s (.str b u) (.ref l) false := fun prog w E Q h => by
 unfold eqBool
 refine wpAny_holding ?_
 refine wpAny_ite_split (fun hab => absurd (eq_of_beq hab) nofun) (fun _ => ?_)
 exact wpAny_bind (RcAt.str_dict b u ho hu prog w E _ (wpAny_truthy_bool h))
end
section
variable {X : Cx}
noncomputable def Da (K : Fg) (H : Hp) (a : Addr) : Prop := (∃ xs, cg K H a xs) ∨ (∃ xs, ci K H a xs) ∨ H a = some (.dK [])
noncomputable def vK (K : Fg) (neg : Bool) : R2 := fun x y H Q => vS K neg x y H Q ∨ ∃ (p a : Addr) (zs : List Str), y = .ref p /\ ci K H p (zs.map V.str) /\ x = .ref a /\ Da K H a /\ Q (.bl neg) H
theorem aJ.no_str {pins : Pn} {σ : St} {H : Hp} {s : Shared} (I : aJ X pins σ H s) {A : Around} {a : Addr} {z : Str} {t : Tok} (hu : A.units < cLine) (h : Da X.K H a) : EqAt A s (.str z t) (.ref a) false := by
 rcases h with ⟨xs, h⟩ | ⟨xs, h⟩ | h
 ·obtain ⟨its, r, pl, hz⟩ := I.list h
  exact SeqAt.EqAt.str_list z t pl.isList hu
 ·obtain ⟨its, r, pl, hz⟩ := I.tuple h
  exact SeqAt.EqAt.str_tuple z t pl hu
 ·obtain ⟨_, z1, vs1, k1, d1⟩ := (show bz X.prog X.w H s.heap a (.dK []) from I.hok a _ h)
  obtain ⟨o, es, ep, ho, he, hd, _⟩ := d1
  obtain ⟨cls, dd, data, sl⟩ := o
  cases (show cls = .type "dict" from he.1)
  cases (show data = .dict es ep from hd)
  exact EqAt.str_dict z t ho hu
theorem rA {pins : Pn} {σ : St} {H : Hp} {s : Shared} (I : aJ X pins σ H s) {A : Around} {a : Addr} (hu : A.units < cLine) (h : Da X.K H a) : ∀ {zs : List Str} {us : List Value}, bd (zs.map V.str) us -> ∀ u ∈ us, EqAt A s u (.ref a) false
 | [], _, .nil => fun u hu => by cases hu
 | z :: zs, u :: us, .cons r t => fun u' hu' => by
  rcases List.mem_cons.mp hu' with rfl | hu'
  ·obtain ⟨t, rfl⟩ := r
   exact I.no_str hu h
  ·exact rA I hu h t u' hu'
theorem lB (hu : X.A.units + 150 < cLine) : eG X (compareOp .NotIn) (vK X.K true) := by
 intro pins s σ H x y v u Q I rx ry h
 rcases h with h | ⟨p, a, zs, rfl, hp, rfl, ha, q⟩
 ·exact cq _ _ _ _ _ _ _ _ _ I rx ry h
 cases rx
 cases ry
 obtain ⟨its, r, pl, hz⟩ := I.tuple hp
 refine SeqAt.notIn_tupleAt (fun _ => false) pl (fun w hw => rA I (by show X.A.units + 1 < cLine; omega) ha r w (by simpa using hw)) ⟨.bl _, H, I, rfl, ?_⟩
 rw [show its.toArray.any (fun _ => false) = false by simp]
 exact q
end
section
variable {B : Bk} {τ τ' : TSt} {Φ : TK} {K : Fg}
noncomputable def eJ (ws : List Str) : Tr -> Bool
 | .str z => decide (z ∈ ws)
 | _ => false
noncomputable def Ad : Tr -> Prop
 | .dct kvs => kvs = []
 | .ty _ => False
 | _ => True
theorem pZ {ws : List Str} {v : V} (hn : ∀ z, v ≠ .str z) : uS v (ws.map V.str) = false := by
 unfold uS
 rw [List.any_eq_false]
 intro u hu
 obtain ⟨z, _, rfl⟩ := List.mem_map.mp hu
 cases v with
 | str z' => exact absurd rfl (hn z')
 | _ => exact Bool.false_ne_true
theorem zy (hK : K = B.K) {neg : Bool} {y : Kd} {ws : List Str} {t : Tr} (ht : Ad t) (r2 : Rk τ y (.tup (ws.map Tr.str))) (q : Φ (.fz (.bl (if neg then !eJ ws t else eJ ws t))) τ) : RO B (vK K neg) (.fz t) y τ Φ := fun σ F H v w Q r a b c => by
 subst hK
 obtain ⟨p, us, rfl, s, l⟩ := r2.tuple r b
 have e1 : us = ws.map V.str := l.strs (ns := ws)
 subst e1
 have out : ∀ b, (if neg then !eJ ws t else eJ ws t) = b -> Q (.bl b) H := fun b e => by
  rw [e] at q
  exact c.pl r .bl q
 have flat : ∀ {v : V}, eE v = true -> uS v (ws.map V.str) = eJ ws t -> vK B.K neg v (.ref p) H Q := fun hf e => .inl ⟨p, _, rfl, .inr s, hf, fX, by rw [e]; exact out _ rfl⟩
 have ref : ∀ {x : Addr}, Da B.K H x -> eJ ws t = false -> vK B.K neg (.ref x) (.ref p) H Q := fun hx e => .inr ⟨p, _, ws, rfl, s, rfl, hx, out _ (by rw [e]; cases neg <;> rfl)⟩
 have a : Is B.K F v t := a
 cases a with
 | non => exact flat rfl (pZ nofun)
 | bl => exact flat rfl (pZ nofun)
 | int => exact flat rfl (pZ nofun)
 | str => exact flat rfl iE
 | tup h g => exact ref (.inr (.inl ⟨_, r.up.i.tup h⟩)) rfl
 | lst h g => exact ref (.inl ⟨_, r.up.i.seq h⟩) rfl
 | dct h e g =>
  cases (show _ = [] from ht)
  have e := List.map_eq_nil_iff.mp e
  subst e
  exact ref (.inr (.inr (r.up.i _ _ h))) rfl
 | _ => exact absurd ht id
end
end L2
namespace L2
open PySem PySem.Spec PyProof.Rows
noncomputable def yi (j : Nat) (sp : Sp) (C : Addr) (t : TA) (ts : Addr -> TS) : TS := fun D σ H => t σ H fun vs H1 => sp vs H1 (fun v H2 => v = .non /\ D.nx σ H2) fun cls d H2 => cls = .ref C /\ ∃ dd, d = some dd /\ ∀ a, H2 a = none -> ts a (jS j D) (σ.set j (some (.ref a))) (upd H2 a (gR a C dd))
section
variable {X : Cx} {k : Nat} {f : Addr} {fd : FuncData} {ps : List Str} {sp : Sp} {fx cx n : Str} {p cpos cmpos kpos ipos np hpos pos : Pos} {e : Expr} {es : List Expr} {t : TA} {T C : Addr} {b0 : Stmt} {suite body : List Stmt} {ts : Addr -> TS} {i j : Nat} {kj}
theorem wM (F : dR X.prog X.w X.K X.mg X.base (hI X.prog X.w) k f fd ps sp) (hr : cU k X.A) (hg : Gl X fx) (hm : X.mg fx = some (.ref f)) (hk : PySem.W.keepIn X.K (.ref f) = true) (hb : fV X.K fd ps []) (h0 : ∀ e s, X.xe e s -> False)
  (hst : X.stack = X.env :: X.outer) (hf : X.env.frame = some X.env.locals) (ha : PA X (e :: es) t) (hN : X.N.Nodup)
  (hj : X.N[j]? = some n) (hln : X.env.scope.names.lookup n = some .local) (hkn : X.env.kindOf n = some .local) (M1 : vg X cx T C true) (hex : X.ex = [])
  (hs : ∀ a, nA (X.marked a) (b0 :: suite) (ts a)) (he : starEach (e :: es) X.env = (false, eval e X.env) :: starEach es X.env := by rfl) (hpl : (backTo cpos (starEach es X.env)).any (·.1) = false := by rfl) (hdb : (fx == ("__debug__" : Str)) = false := by decide) :
  PS X (.Try [.If (.Compare (.Call (.Name fx p) (e :: es) [] cpos) [.IsNot] [.Constant .none kj kpos] cmpos) body [] ipos] [.ExceptHandler (some (.Name cx np)) (some n) (b0 :: suite) hpos] [] [] pos) (yi j sp C t ts) := by
 intro pins s σ H D I h
 refine wpAny_Try_except ?_
 refine wpAny_execs_cons ?_
 refine wpAny_If ?_
 refine wpAny_isTrue_Compare1 ?_ rfl
 refine wpAny_Call_Name_kw (hZ I hg hm ?_ hdb)
 refine PySem.W.callWith_K (h₀ := X.base) I.ok.mod.kin hk (wpAny_mono (ha cpos pins s σ H _ I h) (fun us s1 z => ?_) fun e s z => (h0 e s z).elim) he hpl
 obtain ⟨vs, H1, I1, r, q⟩ := z
 refine ⟨I1.kIn, ?_⟩
 have hl : us.length = ps.length := by rw [<- r.length]; exact F.len _ _ _ _ q
 have hl2 : (us ++ []).length = ps.length := by rw [List.append_nil]; exact hl
 have hb1 := hb s1 us I1.kIn hl2
 rw [List.append_nil] at hb1
 refine wpAny_call (codeAny_mono (F.run X.A X.stack s1 H1 ⟨us, []⟩ us vs _ _ hr I1.env0 hb1 r q) fun rr s' hq => ?_)
 cases rr with
 | error ex => exact uJ (ts := ts) I1 hst hf h0 (show hI X.prog X.w X.stack H1 s1 (fun cls d H2 => cls = .ref C /\ ∃ dd, d = some dd /\ ∀ a, H2 a = none -> ts a (jS j D) (σ.set j (some (.ref a))) (upd H2 a (gR a C dd))) ex s' from hq) hN hj hln hkn M1 hex (fun cls _ H' z => z) hs
 | ok fl =>
  cases fl with
  | ret u =>
   obtain ⟨v, H2, I2, rv, rfl, q2⟩ := I1.after hq
   refine wpAny_mono (aN pins s' σ H2 (fun y H3 => y = .non /\ H3 = H2) I2 ⟨rfl, rfl⟩) (fun u2 s3 z => ?_) fun e s z => (h0 e s z).elim
   obtain ⟨v3, H3, I3, r3, rfl, rfl⟩ := z
   refine wpAny_mono (dw (X := X) pins s3 σ H3 .non .non u u2 (fun y H4 => y = .bl false /\ H4 = H3) I3 rv r3 ⟨rfl, rfl, rfl⟩) (fun u3 s4 z => ?_) fun e s z => (h0 e s z).elim
   obtain ⟨v4, H4, I4, r4, rfl, rfl⟩ := z
   cases r4
   refine wpAny_truthy_bool ?_
   exact wpAny_execs_nil (wpAny_execs_nil (wpAny_execs_nil ⟨_, _, I4, q2⟩))
  | next => exact False.elim hq
  | brk => exact False.elim hq
  | cont => exact False.elim hq
end
end L2
namespace L2
open PySem PySem.Spec PyProof.Rows PySem.W PySem.Calls
section
variable {prog : Program} {w : World} {A : Around} {E : Value -> Shared -> Prop} {s : Shared} {l : Addr} {xs : Array (Int × Tok)}
theorem jj {Q : Value -> Shared -> Prop} (hl : s.heap.IsTuple l (intItems xs))
  (h : ∀ s₂ : Shared, s₂ = { s with heap := s.heap.push { cls := .type "tuple_iterator", data := .fields #[.ref l, .int 0 0] } } ->
   (s₂.heap.IsTupleIter s.heap.objs.size l 0 /\ s₂.heap.IsTuple l (intItems xs)) -> (∀ b ∈ [s.heap.objs.size, l], b < s₂.heap.objs.size) -> l ≠ s.heap.objs.size -> Q (.ref s.heap.objs.size) s₂) :
  wpAny (model prog w) A (pyIter (.ref l)) Q E s := by
 have hlt : l < s.heap.objs.size := by obtain ⟨_, e, _⟩ := hl; exact Heap.lt_size e
 refine wpAny_pyIter_tuple hl (h _ rfl ⟨⟨_, Heap.get?_push_size _ rfl, rfl, rfl⟩, hl.push _⟩ (fun b hb => ?_) (Nat.ne_of_lt hlt))
 show b < (s.heap.push _).objs.size
 rw [Heap.size_push]
 rcases List.mem_cons.mp hb with rfl | hb
 ·exact Nat.lt_succ_self _
 ·rcases List.mem_cons.mp hb with rfl | hb
  ·exact Nat.lt_succ_of_lt hlt
  ·cases hb
theorem lF {h' : Heap} (hk : ∀ b o, b ∉ [s.heap.objs.size] -> (s.heap.push { cls := .type "tuple_iterator", data := .fields #[.ref l, .int 0 0] }).get? b = some o -> h'.get? b = some o) :
  ∀ b o, s.heap.get? b = some o -> h'.get? b = some o := fun b o e => by
 refine hk b o (fun hm => ?_) (Heap.get?_push_of_some _ e)
 rcases List.mem_cons.mp hm with e1 | hm
 ·exact absurd (e1 ▸ Heap.lt_size e) (Nat.lt_irrefl _)
 ·cases hm
variable {Q : Value -> Shared -> Prop}
theorem qi (hh : A.handled = none) (hl : s.heap.IsTuple l (intItems xs)) (hne : 0 < xs.size)
  (h : ∀ v h' tk, (intItems xs)[argBest (fun i j => decide (numAt xs i > numAt xs j)) (xs.size - 1)]? = some v -> (∀ b o, s.heap.get? b = some o -> h'.get? b = some o) -> Q v { s with heap := h', toks := tk }) :
  wpAny (model prog w) A (call (.builtin "max") [.ref l]) Q E s := by
 refine call_max_walk (jj hl fun s₂ e st hfp hlI => ?_)
 subst e
 refine ⟨_, _, _, _, _, _, _, rfl, Walks.tuple (A := A.in1) hh _ l hlI (intItems xs), st, hfp, by simpa [intItems] using hne, CmpOf.ints_gt (numAt xs) (fun _ _ => intItems_at), fun v h' tk hP hk => ?_⟩
 exact h v h' tk (by simpa [intItems] using hP) (lF hk)
theorem qG (hh : A.handled = none) (hl : s.heap.IsTuple l (intItems xs)) (hne : 0 < xs.size)
  (h : ∀ v h' tk, (intItems xs)[argBest (fun i j => decide (numAt xs i < numAt xs j)) (xs.size - 1)]? = some v -> (∀ b o, s.heap.get? b = some o -> h'.get? b = some o) -> Q v { s with heap := h', toks := tk }) :
  wpAny (model prog w) A (call (.builtin "min") [.ref l]) Q E s := by
 refine call_min_walk (jj hl fun s₂ e st hfp hlI => ?_)
 subst e
 refine ⟨_, _, _, _, _, _, _, rfl, Walks.tuple (A := A.in1) hh _ l hlI (intItems xs), st, hfp, by simpa [intItems] using hne, CmpOf.ints_lt (numAt xs) (fun _ _ => intItems_at), fun v h' tk hP hk => ?_⟩
 exact h v h' tk (by simpa [intItems] using hP) (lF hk)
end
noncomputable def xT (K : Fg) : List V -> Hp -> VK -> Prop := fun xs H Q => ∃ (p : Addr) (ns : List Int) (m : Int), xs = [.ref p] /\ ci K H p (ns.map V.int) /\ qZ ns m /\ Q (.int m) H
noncomputable def yn (K : Fg) : List V -> Hp -> VK -> Prop := fun xs H Q => ∃ (p : Addr) (ns : List Int) (m : Int), xs = [.ref p] /\ ci K H p (ns.map V.int) /\ rE ns m /\ Q (.int m) H
section
variable {X : Cx}
theorem sB (hc : X.calm = true) : bY X (.builtin "max") (yn X.K) := by
 intro pins s σ H xs us Q I r h
 obtain ⟨p, ns, m, rfl, hq, hm, q⟩ := h
 obtain ⟨u, rfl, ru⟩ := r.one
 cases ru
 obtain ⟨its, v, pl, _⟩ := I.tuple hq
 obtain ⟨l, e1, e2⟩ := mT v
 have hl : s.heap.IsTuple p (intItems l.toArray) := by
  have := pl
  rw [e1] at this
  unfold intItems
  rw [List.map_toArray]
  exact this
 have hs : l.toArray.size = ns.length := by rw [List.size_toArray, <- e2, List.length_map]
 refine qi (I.ok.hd hc) hl (by rw [hs]; exact List.length_pos_of_mem hm.1) fun v h' tk hv k => ?_
 obtain ⟨t, rfl⟩ := intItems_at hv
 rw [Aa e2 hm]
 exact ⟨.int m, H, I.kept k, ⟨_, rfl⟩, q⟩
theorem sq (hc : X.calm = true) : bY X (.builtin "min") (xT X.K) := by
 intro pins s σ H xs us Q I r h
 obtain ⟨p, ns, m, rfl, hq, hm, q⟩ := h
 obtain ⟨u, rfl, ru⟩ := r.one
 cases ru
 obtain ⟨its, v, pl, _⟩ := I.tuple hq
 obtain ⟨l, e1, e2⟩ := mT v
 have hl : s.heap.IsTuple p (intItems l.toArray) := by
  have := pl
  rw [e1] at this
  unfold intItems
  rw [List.map_toArray]
  exact this
 have hs : l.toArray.size = ns.length := by rw [List.size_toArray, <- e2, List.length_map]
 refine qG (I.ok.hd hc) hl (by rw [hs]; exact List.length_pos_of_mem hm.1) fun v h' tk hv k => ?_
 obtain ⟨t, rfl⟩ := intItems_at hv
 rw [Ab e2 hm]
 exact ⟨.int m, H, I.kept k, ⟨_, rfl⟩, q⟩
end
section
variable {B : Bk} {τ : TSt} {Φ : TK} {K : Fg} {x : Kd} {ns : List Int}
theorem wt {m : Int} (hK : K = B.K) (rk : Rk τ x (.tup (ns.map Tr.int))) (hm : rE ns m) (q : Φ (.fz (.int m)) τ) : RU B (fun v H Q => yn K [v] H Q) x τ Φ := fun σ F H v Q r a c => by
 subst hK
 obtain ⟨p, vs, rfl, s, l⟩ := rk.tuple r a
 rw [l.ints] at s
 exact ⟨p, ns, m, rfl, s, hm, c.pl r .int q⟩
theorem wP {m : Int} (hK : K = B.K) (rk : Rk τ x (.tup (ns.map Tr.int))) (hm : qZ ns m) (q : Φ (.fz (.int m)) τ) : RU B (fun v H Q => xT K [v] H Q) x τ Φ := fun σ F H v Q r a c => by
 subst hK
 obtain ⟨p, vs, rfl, s, l⟩ := rk.tuple r a
 rw [l.ints] at s
 exact ⟨p, ns, m, rfl, s, hm, c.pl r .int q⟩
end
end L2
namespace L2
open PySem PySem.Spec PyProof.Rows
section
variable {X : Cx}
theorem wT {K : Fg} (hK : X.K = K) {e : Expr} {te : TE} {n : Str} {T : String} {f : Tg -> Bool} {p p2 pos : Pos} (hc : bY X (.builtin "isinstance") (gZ X.K T f)) (hg : Gl X "isinstance") (hg2 : Gl X n) (hm : X.mg "isinstance" = none) (hm2 : X.mg n = none) (hb : bootBuiltins n = some (.type T)) (he : PE X e te)
  (hn : n ≠ "__name__" := by decide) (hd : (n == ("__debug__" : Str)) = false := by decide)
  (hs1 : starEach [e, .Name n p2] X.env = (false, eval e X.env) :: starEach [.Name n p2] X.env := by rfl) (hs2 : starEach [.Name n p2] X.env = (false, eval (.Name n p2) X.env) :: starEach [] X.env := by rfl)
  (hpl : (backTo pos (starEach [.Name n p2] X.env)).any (·.1) = false := by rfl) :
  PE X (.Call (.Name "isinstance" p) [e, .Name n p2] [] pos) (wc (gZ K T f) (cH te (cH (tC (.ty T)) tNil))) := by
 subst hK
 exact be hc hg hg2 hm hm2 hb he hn hd hs1 hs2 hpl
end
end L2
namespace L2
open PySem PySem.Spec PyProof.Rows
theorem iH : fillsNumberSlot (.type "tuple") "mul" = pure false :=
 PySem.fillsNumberSlot_seq (id := "tuple.__mul__") (r := some (.builtin "tuple.__rmul__")) F.slot_tuple_mul.lookup (by decide +kernel) F.slot_tuple_rmul.lookup (by decide +kernel)
theorem mo : seqRepeat? (.type "tuple") = pure (some (.builtin "tuple.__mul__")) := by
 unfold seqRepeat?
 rw [PySem.seqSlot_of (T := "tuple") (name := "__mul__") (id := "tuple.__mul__") F.slot_tuple_mul.lookup (by decide +kernel), PySem.seqSlot_of (T := "tuple") (name := "__rmul__") (id := "tuple.__rmul__") F.slot_tuple_rmul.lookup (by decide +kernel)]
 rfl
theorem jE (a : Int) (t : Tok) (l : Addr) (items : Array Value) (n : Nat) (dd : Option Addr) (sl : Array (Option Value)) :
  Meets (Builtin.«int.__rmul__» ⟨[.int a t, .ref l], []⟩) (fun _ R s => s.heap.get? l = some { cls := .type "tuple", dict := dd, data := .seq items n, slots := sl } /\ R (.ok (.ret Value.notImplemented)) s) :=
 .of_wp fun prog w A R s h => by obtain ⟨hp, g, d, tk, os⟩ := s; obtain ⟨hl, h⟩ := h; wp_walk; exact ⟨_, rfl, h⟩
theorem pS (l : Addr) (x : Value) (n : Nat) (dd : Option Addr) (sl : Array (Option Value)) (u : Tok) :
  Meets (Builtin.«tuple.__mul__» ⟨[.ref l, .int 4 u], []⟩) (fun _ R s => s.heap.get? l = some { cls := .type "tuple", dict := dd, data := .seq #[x] n, slots := sl } /\ R (.ok (.ret (Value.ref s.heap.objs.size))) { s with heap := s.heap.push { cls := Value.type "tuple", data := Data.seq #[x, x, x, x] } }) :=
 .of_wp fun prog w A R s h => by
  obtain ⟨hp, g, d, tk, os⟩ := s; obtain ⟨hl, h⟩ := h
  wp_walk using wpAny_loadPart' hl, wpAny_load hl
  have e : List.foldl (fun x1 x2 => x1 ++ x2) #[] (List.replicate (Int.toNat 4) #[x]) = #[x, x, x, x] := by
   show List.foldl (fun x1 x2 => x1 ++ x2) #[] [#[x], #[x], #[x], #[x]] = _
   simp
  rw [e]
  exact ⟨_, rfl, h⟩
section
variable {X : Cx}
noncomputable def xH (K : Fg) : R2 := fun x y H Q => ∃ p v, x = .ref p /\ y = .int 4 /\ ci K H p [v] /\ ∀ q, H q = none -> Q (.ref q) (upd H q (.tup [v, v, v, v]))
theorem xE : eG X (binaryOp .Mult) (xH X.K) := by
 intro pins s σ H x y v u Q I rx ry h
 obtain ⟨p, v, rfl, rfl, hp, q⟩ := h
 cases rx
 obtain ⟨t, rfl⟩ := ry
 obtain ⟨its, r, pl, _⟩ := I.tuple hp
 obtain ⟨w, rfl, rw⟩ := r.one
 obtain ⟨⟨cls, dd, data, sl⟩, ho, hc, n, hd⟩ := pl
 cases (show cls = .type "tuple" from hc)
 cases (show data = .seq #[w] n from hd)
 refine wpAny_binaryOp_repeat_ref (T := "tuple") (U := "int") (by decide) ⟨_, ho, rfl⟩ (fun s' => typeIs_int s' 4 t) iH F.fills_int_mul F.slot_int_rmul mo F.slot_int_index.lookup
  (call_meets F.slot_int_rmul (typeIs_int s 4 t) F.entry_int_rmul (F.args_int_rmul_2 _ _) (jE 4 t p #[w] n dd sl)
   ⟨ho, rfl, ⟨_, ho, rfl⟩, call_meets F.slot_tuple_mul ⟨_, ho, rfl⟩ F.entry_tuple_mul (F.args_tuple_mul_2 _ _) (pS p w n dd sl t) ⟨ho, ?_⟩⟩)
 refine ⟨.ref s.heap.objs.size, _, I.laid (t' := s.toks) (o := .tup [v, v, v, v]) (fun b ob q => Heap.get?_push_of_some _ q) (Nat.le_refl _) ?_, rfl, q _ (I.hok.fresh (Nat.le_refl _))⟩
 exact ⟨show 4 <= _ by decide, [w, w, w, w], .cons rw (.cons rw (.cons rw (.cons rw .nil))), IsTup.new _ _⟩
end
section
variable {B : Bk} {τ : TSt} {Φ : TK} {K : Fg}
theorem wX (hK : K = B.K) {t : Tr} (q : Φ (.fz (.tup [t, t, t, t])) τ) : RO B (xH K) (.fz (.tup [t])) (.fz (.int 4)) τ Φ := fun σ F H v w Q r a b c => by
 subst hK
 cases (show Is B.K F w (.int 4) from b)
 obtain ⟨p, vs, rfl, s, l⟩ := (Rk.fz : Rk τ (.fz (.tup [t])) (.tup [t])).tuple r a
 cases l with
 | cons h l =>
  cases l
  exact ⟨p, _, rfl, rfl, s, fun p' hp => c.nt r (.cons h (.cons h (.cons h (.cons h .nil)))) hp q⟩
end
end L2
set_option Elab.async false
set_option linter.all false
set_option maxRecDepth 100000
set_option maxHeartbeats 4000000
namespace MyLaw
def mkAlt (s : String) : Lean.MacroM (Lean.TSyntax `tactic) := do
  let i := Lean.mkIdent (s.drop 1).toString.toName
  match s.front with
  | 'r' => `(tactic| with_reducible refine $i ?_)
  | 'e' => `(tactic| exact $i)
  | 'b' => `(tactic| ((with_reducible apply $i); (focus rfl)))
  | 'c' => `(tactic| ((with_reducible apply $i); (focus ((kt_join); done))))
  | 'd' => `(tactic| ((with_reducible apply $i); (focus (kpf_lEnd))))
  | 'f' => `(tactic| ((with_reducible apply $i); (focus (kpf_nlEnd))))
  | 'g' => `(tactic| ((with_reducible apply $i); (focus rfl); (focus (dl_open))))
  | 'h' => `(tactic| ((with_reducible apply $i); (focus ((kt_join); done)); (focus ((acc_open); done))))
  | 'i' => `(tactic| ((with_reducible apply $i); (focus (row_close2_l))))
  | 'j' => `(tactic| ((with_reducible apply $i); (focus ((acc_open); done))))
  | 'k' => `(tactic| ((with_reducible apply $i); (focus rfl); (focus rfl)))
  | 'l' => `(tactic| ((with_reducible apply $i); (focus (kpf_lEnd)); (focus rfl)))
  | 'm' => `(tactic| ((with_reducible apply $i); (focus (first | decide | omega | assumption)); (kt_field)))
  | 'n' => `(tactic| ((with_reducible apply $i); (focus rfl); (focus (dl_open)); (focus rfl)))
  | 'o' => `(tactic| ((with_reducible apply $i); (focus rfl); (focus rfl); (focus rfl)))
  | _ => `(tactic| fail)
def mkAlts (s : String) : Lean.MacroM (Lean.TSyntax `tactic) := do
  let a ← (s.splitOn " ").toArray.mapM fun x => do
    let y ← mkAlt x
    `(Lean.Parser.Tactic.tacticSeq| $y:tactic)
  `(tactic| first $[| $a:tacticSeq]*)
end MyLaw
namespace MyLaw
open PySem L2
local macro_rules | `(tactic| kby_int) => `(tactic| exact ⟨rfl, rfl, rfl, by decide +kernel, rfl, by decide +kernel, by decide +kernel⟩)
noncomputable abbrev Kp (K : Fg) (f : Addr) : Prop := PySem.W.keepIn K (.ref f) = true
noncomputable abbrev Mm (m : Str -> Option Value) (n : Str) (f : Addr) : Prop := m n = some (.ref f)
noncomputable def dD (i : Nat) : Stmt := PySem.Challenge.pw_markscale_k32_what_is_a_telling.main.body.getD i (.Pass ⟨0, 0, 0, 0⟩)
noncomputable abbrev hG : Stmt := dD 12
theorem oq : aB ["thing"] ["thing"] (ae hG) := by kby_int
noncomputable abbrev fh : Stmt := dD 13
theorem bZ : aB ["one", "other", "high", "low", "rest"] ["one", "other"] (ae fh) := by kby_int
noncomputable abbrev fY : Stmt := dD 14
theorem lX : aB ["thing"] ["thing"] (ae fY) := by kby_int
noncomputable abbrev mS : Stmt := dD 15
theorem uw : aB ["one", "other"] ["one", "other"] (ae mS) := by kby_int
noncomputable abbrev iG : Stmt := dD 18
theorem pj : aB ["thing"] ["thing"] (ae iG) := by kby_int
noncomputable abbrev gj : Stmt := dD 22
theorem ql : aB ["thing"] ["thing"] (ae gj) := by kby_int
noncomputable abbrev fw : Stmt := dD 23
theorem kH : aB ["words"] ["words"] (ae fw) := by kby_int
noncomputable abbrev gG : Stmt := dD 29
theorem nD : aB ["lo", "hi"] ["lo", "hi"] (ae gG) := by kby_int
noncomputable abbrev gJ : Stmt := dD 30
theorem nU : aB ["thing"] ["thing"] (ae gJ) := by kby_int
noncomputable abbrev cP : Stmt := dD 31
theorem kM : aB ["thing"] ["thing"] (ae cP) := by kby_int
noncomputable abbrev eF : Stmt := dD 32
theorem mJ : aB ["thing"] ["thing"] (ae eF) := by kby_int
noncomputable abbrev iY : Stmt := dD 33
theorem pQ : aB ["thing"] ["thing"] (ae iY) := by kby_int
noncomputable abbrev fB : Stmt := dD 43
theorem kF : aB ["thing", "forms"] ["thing", "forms"] (ae fB) := by kby_int
noncomputable abbrev fN : Stmt := dD 44
theorem mh : aB ["thing"] ["thing"] (ae fN) := by kby_int
noncomputable abbrev eA : Stmt := dD 45
theorem mO : aB ["thing"] ["thing"] (ae eA) := by kby_int
noncomputable abbrev fo : Stmt := dD 46
theorem lg : aB ["mark"] ["mark"] (ae fo) := by kby_int
noncomputable abbrev dB : Stmt := dD 47
theorem iK : aB ["mark"] ["mark"] (ae dB) := by kby_int
noncomputable abbrev iS : Stmt := dD 48
theorem qK : aB ["sides", "side"] ["sides", "side"] (ae iS) := by kby_int
noncomputable abbrev gF : Stmt := dD 49
theorem nE : aB ["thing"] ["thing"] (ae gF) := by kby_int
noncomputable abbrev fu : Stmt := dD 50
theorem gD : aB ["layer", "x", "sides", "wish"] ["layer", "x", "sides"] (ae fu) := by kby_int
noncomputable abbrev cu : Stmt := dD 51
theorem gB : aB ["thing", "x", "sides", "used"] ["thing", "x", "sides"] (ae cu) := by kby_int
noncomputable abbrev eD : Stmt := dD 52
theorem lW : aB ["thing", "layers"] ["thing", "layers"] (ae eD) := by kby_int
noncomputable abbrev fi : Stmt := dD 53
theorem nK : aB ["thing"] ["thing"] (ae fi) := by kby_int
noncomputable abbrev cK : Stmt := dD 54
theorem gI : aB ["thing"] ["thing"] (ae cK) := by kby_int
noncomputable abbrev fW : Stmt := dD 56
theorem ny : aB ["_law_script", "_law_k"] ["_law_script", "_law_k"] (ae fW) := by kby_int
noncomputable abbrev iQ : Stmt := dD 57
theorem cm : aB ["_law_script", "_law_k", "_law_many", "_law_cell", "_law_rest", "_law_mixed", "_law_found", "_law_j"] ["_law_script", "_law_k", "_law_many"] (ae iQ) := by kby_int
noncomputable abbrev mq : Stmt := dD 58
theorem ik : aB ["_law_top", "_law_bottom", "_law_one", "_law_other"] ["_law_top", "_law_bottom"] (ae mq) := by kby_int
noncomputable abbrev gK : Stmt := dD 59
theorem jp : aB ["_law_d", "_law_size"] ["_law_d"] (ae gK) := by kby_int
noncomputable abbrev kl : Stmt := dD 60
theorem sY : aB ["_law_one", "_law_d"] ["_law_one", "_law_d"] (ae kl) := by kby_int
noncomputable abbrev ig : Stmt := dD 61
theorem gk : aB ["_law_d", "_law_k", "_law_letters", "_law_spot", "_law_rest"] ["_law_d", "_law_k"] (ae ig) := by kby_int
noncomputable abbrev fZ : Stmt := dD 62
theorem da : aB ["_law_d", "_law_wanted", "_law_word_here", "_law_lo", "_law_ends", "_law_k", "_law_many"] ["_law_d", "_law_wanted"] (ae fZ) := by kby_int
noncomputable abbrev gT : Stmt := dD 63
theorem bR : aB ["_law_d", "_law_group", "_law_layers_here", "_law_k", "_law_mark", "_law_other", "_law_side_here"] ["_law_d"] (ae gT) := by kby_int
noncomputable abbrev fM : Stmt := dD 64
theorem eV : aB ["_law_layers_here", "_law_side_here", "_law_d", "_law_marks", "_law_wanted"] ["_law_layers_here", "_law_side_here", "_law_d"] (ae fM) := by kby_int
noncomputable abbrev fS : Stmt := dD 65
theorem mM : aB ["_law_d", "_law_wanted"] ["_law_d", "_law_wanted"] (ae fS) := by kby_int
noncomputable abbrev dY : Stmt := dD 66
theorem bx : aB ["_law_d", "_law_layers_here", "_law_x", "_law_sides", "_law_colour", "_law_size", "_law_facet", "_law_sheet"] ["_law_d"] (ae dY) := by kby_int
noncomputable abbrev iJ : Stmt := dD 67
theorem pw : aB ["_law_thing"] ["_law_thing"] (ae iJ) := by kby_int
noncomputable abbrev eC : Stmt := dD 68
theorem mZ : aB ["_law_thing"] ["_law_thing"] (ae eC) := by kby_int
noncomputable abbrev fT : Stmt := dD 69
theorem lY : aB ["_law_thing"] ["_law_thing"] (ae fT) := by kby_int
noncomputable abbrev jc : Stmt := dD 70
theorem jY : aB ["_law_some", "_law_k"] ["_law_some"] (ae jc) := by kby_int
noncomputable abbrev dv : Stmt := dD 71
theorem jN : aB ["_law_thing"] ["_law_thing"] (ae dv) := by kby_int
noncomputable abbrev dZ : Stmt := dD 72
theorem cL : aB ["_law_thing", "_law_wanted", "_law_ends", "_law_lo", "_law_hi"] ["_law_thing", "_law_wanted"] (ae dZ) := by kby_int
noncomputable abbrev dU : Stmt := dD 73
theorem jr : aB ["_law_thing", "_law_wanted"] ["_law_thing", "_law_wanted"] (ae dU) := by kby_int
noncomputable abbrev dS : Stmt := dD 74
theorem fE : aB ["_law_layer", "_law_x", "_law_sides", "_law_wish_here"] ["_law_layer", "_law_x", "_law_sides"] (ae dS) := by kby_int
noncomputable abbrev bV : Stmt := dD 75
theorem eY : aB ["_law_layers_here", "_law_x", "_law_sides", "_law_there"] ["_law_layers_here", "_law_x", "_law_sides"] (ae bV) := by kby_int
noncomputable abbrev dP : Stmt := dD 76
theorem jq : aB ["_law_thing"] ["_law_thing"] (ae dP) := by kby_int
noncomputable abbrev bW : Stmt := dD 77
theorem aX : aB ["_law_thing", "_law_every", "_law_steps", "_law_x", "_law_sides", "_law_layers_here", "_law_colour", "_law_size", "_law_facet", "_law_sheet"] ["_law_thing"] (ae bW) := by kby_int
noncomputable abbrev mB : Stmt := dD 78
theorem bP : aB ["_law_d", "_law_some"] ["_law_d"] (ae mB) := by kby_int
noncomputable abbrev fJ : Stmt := dD 79
theorem bU : aB ["_law_thing", "_law_error", "e", "_law_others"] ["_law_thing"] (ae fJ) := by kby_int
noncomputable abbrev iR : Stmt := dD 80
theorem fA : aB ["_law_thing", "_law_kept", "_law_wrong", "_law_due"] ["_law_thing"] (ae iR) := by kby_int
noncomputable abbrev kA : Stmt := dD 81
theorem eH : aB ["_law_script", "_law_k", "_law_d", "_law_steps", "_law_telling_here", "_law_beside", "_law_parts", "_law_j", "_law_odd_here", "_law_at"] ["_law_script"] (ae kA) := by kby_int
noncomputable def wu (s : Stmt) : List Stmt := match s with
 | .ClassDef _ _ _ b _ _ _ _ _ _ _ => b
 | _ => []
noncomputable abbrev cw : Stmt := (wu (dD 7)).getD 0 (.Pass ⟨0, 0, 0, 0⟩)
theorem kO : aB ["self", "part"] ["self", "part"] (ae cw) := by kby_int
variable {us : List Value}
theorem Bm (h : us.length = 1) : ∃ a0, us = [a0] := by
 match us, h with
 | [a0], _ => exact ⟨a0, rfl⟩
theorem AU (h : us.length = 2) : ∃ a0 a1, us = [a0, a1] := by
 match us, h with
 | [a0, a1], _ => exact ⟨a0, a1, rfl⟩
theorem Ei (h : us.length = 3) : ∃ a0 a1 a2, us = [a0, a1, a2] := by
 match us, h with
 | [a0, a1, a2], _ => exact ⟨a0, a1, a2, rfl⟩
structure CN (K : Fg) (f : Addr) (oc : Value) (od : Option Addr) (n : Str) (st : Stmt) (df kV dc pm : Value) (an : Option Addr) (cd ct : Value) (sl : Array (Option Value)) : Prop where
 a : PySem.W.nsIn K mainGlobals n = some (some (.ref f))
 l : K.lookup f = some ⟨oc, od, .func (PySem.W.fnOf n n (dI st) (cr st) (ae st) df kV dc pm an cd ct), sl⟩
 c : PySem.W.codeIn K cd n = true
 k : PySem.W.keepIn K (.ref f) = true
structure Dn (K : Fg) (mg : Str -> Option Value) (n : Str) (st : Stmt) (ps : List Str) (f : Addr) (d : FuncData) : Prop where
 F : vR K n n st f d
 m : mg n = some (.ref f)
 k : PySem.W.keepIn K (.ref f) = true
 b : fV K d ps []
noncomputable abbrev fO (n : Str) (st : Stmt) (kV dc pm : Value) (an : Option Addr) (cd ct : Value) : FuncData := PySem.W.fnOf n n (dI st) (cr st) (ae st) .none kV dc pm an cd ct
section
variable {K : Fg} {mg : Str -> Option Value} {h : Heap} (X : K.In h) (G : h.Ns mainGlobals mg) {n p0 p1 p2 : Str} {st : Stmt} {f : Addr} {oc kV dc pm cd ct : Value} {od an : Option Addr} {sl : Array (Option Value)} (x : CN K f oc od n st .none kV dc pm an cd ct sl)
include X G x
theorem dn1 (hb : ∀ a0, bindArgs (fO n st kV dc pm an cd ct) ⟨[a0], []⟩ = pure [(p0, a0)] := by intros; rfl) : Dn K mg n st [p0] f (fO n st kV dc pm an cd ct) := ⟨jK x.l x.c x.k, PySem.W.mg_of X G x.a, x.k, .all fun us hl => by obtain ⟨_, rfl⟩ := Bm hl; exact hb _⟩
theorem dn2 (hb : ∀ a0 a1, bindArgs (fO n st kV dc pm an cd ct) ⟨[a0, a1], []⟩ = pure [(p0, a0), (p1, a1)] := by intros; rfl) : Dn K mg n st [p0, p1] f (fO n st kV dc pm an cd ct) := ⟨jK x.l x.c x.k, PySem.W.mg_of X G x.a, x.k, .all fun us hl => by obtain ⟨_, _, rfl⟩ := AU hl; exact hb _ _⟩
theorem dn3 (hb : ∀ a0 a1 a2, bindArgs (fO n st kV dc pm an cd ct) ⟨[a0, a1, a2], []⟩ = pure [(p0, a0), (p1, a1), (p2, a2)] := by intros; rfl) : Dn K mg n st [p0, p1, p2] f (fO n st kV dc pm an cd ct) := ⟨jK x.l x.c x.k, PySem.W.mg_of X G x.a, x.k, .all fun us hl => by obtain ⟨_, _, _, rfl⟩ := Ei hl; exact hb _ _ _⟩
end
noncomputable abbrev FO (P : Program) (w : World) (base : Heap) {K : Fg} {mg : Str -> Option Value} {n : Str} {st : Stmt} {ps : List Str} {f : Addr} {d : FuncData} (_ : Dn K mg n st ps f d) (k : Nat) (sp : Sp) : Prop := dR P w K mg base tF k f d ps sp
theorem bF {X : Cx} {k j : Nat} {n : Str} {st : Stmt} {ps : List Str} {f : Addr} {d : FuncData} {sp : Sp} {e : Expr} {es : List Expr} {t : TA} {p pos : Pos} (F : dR X.prog X.w X.K X.mg X.base tF k f d ps sp) (hr : cU j X.A) (D : Dn X.K X.mg n st ps f d) (ha : PA X (e :: es) t) (hj : k <= j := by decide) (hg : Gl X n := by exact rfl) (hdb : (n == ("__debug__" : Str)) = false := by decide) (he : starEach (e :: es) X.env = (false, eval e X.env) :: starEach es X.env := by rfl) (hpl : (backTo pos (starEach es X.env)).any (·.1) = false := by rfl) : PE X (.Call (.Name n p) (e :: es) [] pos) (kb sp [] E0 t) := wH F (hr.mono hj) hg D.m D.k D.b .nil AZ ha hdb he hpl
set_option genInjectivity false in
structure DQ where
 (f_zae : Addr) (d_zae : FuncData)
 (f_zas : Addr) (d_zas : FuncData)
 (f_zaz : Addr) (d_zaz : FuncData)
 (f_zal : Addr) (d_zal : FuncData)
 (f_zat : Addr) (d_zat : FuncData)
 (f_zaa : Addr) (d_zaa : FuncData)
 (f_za0 : Addr) (d_za0 : FuncData)
 (f_zam : Addr) (d_zam : FuncData)
 (f_za1 : Addr) (d_za1 : FuncData)
 (f_za2 : Addr) (d_za2 : FuncData)
 (f_za3 : Addr) (d_za3 : FuncData)
 (f_zan : Addr) (d_zan : FuncData)
 (f_zac : Addr) (d_zac : FuncData)
 (f_za4 : Addr) (d_za4 : FuncData)
 (f_za5 : Addr) (d_za5 : FuncData)
 (f_za6 : Addr) (d_za6 : FuncData)
 (f_za7 : Addr) (d_za7 : FuncData)
 (f_zaj : Addr) (d_zaj : FuncData)
 (f_za8 : Addr) (d_za8 : FuncData)
 (f_za9 : Addr) (d_za9 : FuncData)
 (f_zba : Addr) (d_zba : FuncData)
 (f_zbb : Addr) (d_zbb : FuncData)
 (f_zbc : Addr) (d_zbc : FuncData)
 (f_zao : Addr) (d_zao : FuncData)
 (f_zbd : Addr) (d_zbd : FuncData)
 (f_zap : Addr) (d_zap : FuncData)
 (f_zah : Addr) (d_zah : FuncData)
 (f_zbe : Addr) (d_zbe : FuncData)
 (f_zau : Addr) (d_zau : FuncData)
 (f_zad : Addr) (d_zad : FuncData)
 (f_zaq : Addr) (d_zaq : FuncData)
 (f_zbf : Addr) (d_zbf : FuncData)
 (f_zav : Addr) (d_zav : FuncData)
 (f_zaf : Addr) (d_zaf : FuncData)
 (f_zaw : Addr) (d_zaw : FuncData)
 (f_zab : Addr) (d_zab : FuncData)
 (f_zag : Addr) (d_zag : FuncData)
 (f_zbg : Addr) (d_zbg : FuncData)
 (f_zax : Addr) (d_zax : FuncData)
 (f_zbh : Addr) (d_zbh : FuncData)
 (f_zar : Addr) (d_zar : FuncData)
 (f_zai : Addr) (d_zai : FuncData)
 (f_zbi : Addr) (d_zbi : FuncData)
 (f_zbj : Addr) (d_zbj : FuncData)
 (f_zbk : Addr) (d_zbk : FuncData)
 (f_zbl : Addr) (d_zbl : FuncData)
 (f_zbm : Addr) (d_zbm : FuncData)
 (f_zak : Addr) (d_zak : FuncData)
 (f_zay : Addr) (d_zay : FuncData)
 (f_law : Addr) (d_law : FuncData)
 (c_MarkError : Addr)
 (c_NoDay : Addr)
 (c_NoName : Addr)
 (c_NoNumber : Addr)
 (c_NoPlan : Addr)
 (c_NoRow : Addr)
 (c_NoSpace : Addr)
 (c_NoTable : Addr)
 (c_TooMany : Addr)
 (c_NoTelling fi_NoTelling : Addr) (di_NoTelling : FuncData)
 (g_MOST_BOTTOM : Tok)
 (g_LETTERS : Tok)
 (g_LONGEST_WORD : Tok)
 (g_BASES : Addr)
 (g_MOST_PIECES : Tok)
 (g_MOST_WORDS : Tok)
 (g_MOST_STEPS : Tok)
 (g_PARTS : Tok)
 (g_MARKS : Addr)
 (g_WITH_OTHER : Addr)
 (g_SIDES : Addr)
 (g_FORMS : Addr)
 (g_MOST_LAYERS : Tok)
 (g_LEAST_SHEET : Tok)
 (g_MOST_SHEET : Tok)
structure Txt (K : Fg) (mg : Str -> Option Value) (t : DQ) : Prop where
 q_zae : Dn K mg "is_whole" hG ["thing"] t.f_zae t.d_zae
 q_zas : Dn K mg "divisor_of" fh ["one", "other"] t.f_zas t.d_zas
 q_zaz : Dn K mg "is_number" fY ["thing"] t.f_zaz t.d_zaz
 q_zal : Dn K mg "under" mS ["one", "other"] t.f_zal t.d_zal
 q_zat : Dn K mg "is_told" iG ["thing"] t.f_zat t.d_zat
 q_zaa : Dn K mg "is_word" gj ["thing"] t.f_zaa t.d_zaa
 q_za0 : Dn K mg "are_unlike" fw ["words"] t.f_za0 t.d_za0
 q_zam : Dn K mg "are_ends" gG ["lo", "hi"] t.f_zam t.d_zam
 q_za1 : Dn K mg "is_piece" gJ ["thing"] t.f_za1 t.d_za1
 q_za2 : Dn K mg "are_pieces" cP ["thing"] t.f_za2 t.d_za2
 q_za3 : Dn K mg "are_words" eF ["thing"] t.f_za3 t.d_za3
 q_zan : Dn K mg "is_wish" iY ["thing"] t.f_zan t.d_zan
 q_zac : Dn K mg "is_channel" fB ["thing", "forms"] t.f_zac t.d_zac
 q_za4 : Dn K mg "are_steps" fN ["thing"] t.f_za4 t.d_za4
 q_za5 : Dn K mg "are_sides" eA ["thing"] t.f_za5 t.d_za5
 q_za6 : Dn K mg "forms_at_x" fo ["mark"] t.f_za6 t.d_za6
 q_za7 : Dn K mg "forms_at_side" dB ["mark"] t.f_za7 t.d_za7
 q_zaj : Dn K mg "wish_at" iS ["sides", "side"] t.f_zaj t.d_zaj
 q_za8 : Dn K mg "is_layer" gF ["thing"] t.f_za8 t.d_za8
 q_za9 : Dn K mg "layer_fits" fu ["layer", "x", "sides"] t.f_za9 t.d_za9
 q_zba : Dn K mg "are_layers" cu ["thing", "x", "sides"] t.f_zba t.d_zba
 q_zbb : Dn K mg "is_colour" eD ["thing", "layers"] t.f_zbb t.d_zbb
 q_zbc : Dn K mg "is_sheet" fi ["thing"] t.f_zbc t.d_zbc
 q_zao : Dn K mg "look_at_telling" cK ["thing"] t.f_zao t.d_zao
 q_zbd : Dn K mg "_law_cell_at" fW ["_law_script", "_law_k"] t.f_zbd t.d_zbd
 q_zap : Dn K mg "_law_draws" iQ ["_law_script", "_law_k", "_law_many"] t.f_zap t.d_zap
 q_zah : Dn K mg "_law_low" mq ["_law_top", "_law_bottom"] t.f_zah t.d_zah
 q_zbe : Dn K mg "_law_number" gK ["_law_d"] t.f_zbe t.d_zbe
 q_zau : Dn K mg "_law_more" kl ["_law_one", "_law_d"] t.f_zau t.d_zau
 q_zad : Dn K mg "_law_word" ig ["_law_d", "_law_k"] t.f_zad t.d_zad
 q_zaq : Dn K mg "_law_wish" fZ ["_law_d", "_law_wanted"] t.f_zaq t.d_zaq
 q_zbf : Dn K mg "_law_layers" gT ["_law_d"] t.f_zbf t.d_zbf
 q_zav : Dn K mg "_law_side" fM ["_law_layers_here", "_law_side_here", "_law_d"] t.f_zav t.d_zav
 q_zaf : Dn K mg "_law_channel" fS ["_law_d", "_law_wanted"] t.f_zaf t.d_zaf
 q_zaw : Dn K mg "_law_telling" dY ["_law_d"] t.f_zaw t.d_zaw
 q_zab : Dn K mg "_law_whole" iJ ["_law_thing"] t.f_zab t.d_zab
 q_zag : Dn K mg "_law_is_word" eC ["_law_thing"] t.f_zag t.d_zag
 q_zbg : Dn K mg "_law_is_told" fT ["_law_thing"] t.f_zbg t.d_zbg
 q_zax : Dn K mg "_law_rises" jc ["_law_some"] t.f_zax t.d_zax
 q_zbh : Dn K mg "_law_are_words" dv ["_law_thing"] t.f_zbh t.d_zbh
 q_zar : Dn K mg "_law_is_wish" dZ ["_law_thing", "_law_wanted"] t.f_zar t.d_zar
 q_zai : Dn K mg "_law_is_channel" dU ["_law_thing", "_law_wanted"] t.f_zai t.d_zai
 q_zbi : Dn K mg "_law_layer_good" dS ["_law_layer", "_law_x", "_law_sides"] t.f_zbi t.d_zbi
 q_zbj : Dn K mg "_law_layers_good" bV ["_law_layers_here", "_law_x", "_law_sides"] t.f_zbj t.d_zbj
 q_zbk : Dn K mg "_law_sheet_good" dP ["_law_thing"] t.f_zbk t.d_zbk
 q_zbl : Dn K mg "_law_first_wrong" bW ["_law_thing"] t.f_zbl t.d_zbl
 q_zbm : Dn K mg "_law_odd" mB ["_law_d"] t.f_zbm t.d_zbm
 q_zak : Dn K mg "_law_refused" fJ ["_law_thing"] t.f_zak t.d_zak
 q_zay : Dn K mg "_law_right" iR ["_law_thing"] t.f_zay t.d_zay
 F_law : vR K "law" "law" kA t.f_law t.d_law
 m_law : Mm mg "law" t.f_law
 k_law : Kp K t.f_law
 b_law : fV K t.d_law ["_law_script"] []
 m_MarkError : mg "MarkError" = some (.ref t.c_MarkError)
 m_NoDay : mg "NoDay" = some (.ref t.c_NoDay)
 m_NoName : mg "NoName" = some (.ref t.c_NoName)
 m_NoNumber : mg "NoNumber" = some (.ref t.c_NoNumber)
 m_NoPlan : mg "NoPlan" = some (.ref t.c_NoPlan)
 m_NoRow : mg "NoRow" = some (.ref t.c_NoRow)
 m_NoSpace : mg "NoSpace" = some (.ref t.c_NoSpace)
 m_NoTable : mg "NoTable" = some (.ref t.c_NoTable)
 m_TooMany : mg "TooMany" = some (.ref t.c_TooMany)
 m_NoTelling : mg "NoTelling" = some (.ref t.c_NoTelling)
 o_NoTelling : sW K t.c_NoTelling t.fi_NoTelling "part"
 Fi_NoTelling : vR K "__init__" "NoTelling.__init__" cw t.fi_NoTelling t.di_NoTelling
 bi_NoTelling : fV K t.di_NoTelling ["self", "part"] []
 e_NoTelling : PySem.W.exmOne K (.ref t.c_NoTelling) (.ref t.c_NoTelling) = some true
 eo_NoTelling_MarkError : PySem.W.exmOne K (.ref t.c_NoTelling) (.ref t.c_MarkError) = some true
 y_NoTelling : jF K t.c_NoTelling
 kk_NoTelling_NoDay : PySem.W.kitOne K (.ref t.c_NoTelling) (.ref t.c_NoDay) = some false
 kk_NoTelling_NoName : PySem.W.kitOne K (.ref t.c_NoTelling) (.ref t.c_NoName) = some false
 kk_NoTelling_NoNumber : PySem.W.kitOne K (.ref t.c_NoTelling) (.ref t.c_NoNumber) = some false
 kk_NoTelling_NoPlan : PySem.W.kitOne K (.ref t.c_NoTelling) (.ref t.c_NoPlan) = some false
 kk_NoTelling_NoRow : PySem.W.kitOne K (.ref t.c_NoTelling) (.ref t.c_NoRow) = some false
 kk_NoTelling_NoSpace : PySem.W.kitOne K (.ref t.c_NoTelling) (.ref t.c_NoSpace) = some false
 kk_NoTelling_NoTable : PySem.W.kitOne K (.ref t.c_NoTelling) (.ref t.c_NoTable) = some false
 kk_NoTelling_TooMany : PySem.W.kitOne K (.ref t.c_NoTelling) (.ref t.c_TooMany) = some false
 kk_NoTelling_NoTelling : PySem.W.kitOne K (.ref t.c_NoTelling) (.ref t.c_NoTelling) = some true
 kk_NoTelling_ValueError : PySem.W.kitOne K (.ref t.c_NoTelling) (.type "ValueError") = some true
 g_MOST_BOTTOM : mg "MOST_BOTTOM" = some (.int 60 t.g_MOST_BOTTOM)
 g_LETTERS : mg "LETTERS" = some (.str "abcdefghijklmnopqrstuvwxyz" t.g_LETTERS)
 g_LONGEST_WORD : mg "LONGEST_WORD" = some (.int 8 t.g_LONGEST_WORD)
 g_BASES : mg "BASES" = some (.ref t.g_BASES)
 v_BASES : ∀ H, ci K H t.g_BASES (([2, 10] : List Int).map V.int)
 g_MOST_PIECES : mg "MOST_PIECES" = some (.int 4 t.g_MOST_PIECES)
 g_MOST_WORDS : mg "MOST_WORDS" = some (.int 60 t.g_MOST_WORDS)
 g_MOST_STEPS : mg "MOST_STEPS" = some (.int 6 t.g_MOST_STEPS)
 g_PARTS : mg "PARTS" = some (.int 8 t.g_PARTS)
 g_MARKS : mg "MARKS" = some (.ref t.g_MARKS)
 v_MARKS : ∀ H, ci K H t.g_MARKS ((["dots", "bars", "heaps", "lines", "bands", "boxes", "words"] : List Str).map V.str)
 g_WITH_OTHER : mg "WITH_OTHER" = some (.ref t.g_WITH_OTHER)
 v_WITH_OTHER : ∀ H, ci K H t.g_WITH_OTHER ((["bands", "words"] : List Str).map V.str)
 g_SIDES : mg "SIDES" = some (.ref t.g_SIDES)
 p_SIDES : ∃ o, K.lookup t.g_SIDES = some o /\ o.cls = .type "tuple" /\ o.dict = none
 v_SIDES : ∀ H, ci K H t.g_SIDES ((["left", "right"] : List Str).map V.str)
 g_FORMS : mg "FORMS" = some (.ref t.g_FORMS)
 v_FORMS : ∀ H, ci K H t.g_FORMS ((["straight", "turns", "broken", "days", "order"] : List Str).map V.str)
 g_MOST_LAYERS : mg "MOST_LAYERS" = some (.int 3 t.g_MOST_LAYERS)
 g_LEAST_SHEET : mg "LEAST_SHEET" = some (.int 60 t.g_LEAST_SHEET)
 g_MOST_SHEET : mg "MOST_SHEET" = some (.int 2000 t.g_MOST_SHEET)
 z_isinstance : mg "isinstance" = none
 z_int : mg "int" = none
 z_bool : mg "bool" = none
 z_tuple : mg "tuple" = none
 z_str : mg "str" = none
 z_list : mg "list" = none
 z_abs : mg "abs" = none
 z_len : mg "len" = none
 z_range : mg "range" = none
 z_max : mg "max" = none
 z_min : mg "min" = none
 z_zip : mg "zip" = none
 z_all : mg "all" = none
 z_set : mg "set" = none
 z_ValueError : mg "ValueError" = none
theorem all_mk {K : Fg} {h : Heap} {mg : Str -> Option Value} {fa f0 f1 f2 f3 f4 f5 f6 f7 f8 f9 f10 f11 f12 f13 f14 f15 f16 f17 f18 f19 f20 f21 f22 f23 f24 f25 f26 f27 f28 f29 f30 f31 f32 f33 f34 f35 f36 f37 f38 f39 f40 f41 f42 f43 f44 f45 f46 f47 f48 f49 C_MarkError C_NoDay C_NoName C_NoNumber C_NoPlan C_NoRow C_NoSpace C_NoTable C_TooMany C_NoTelling FI_NoTelling g_BASES g_MARKS g_WITH_OTHER g_SIDES g_FORMS : Addr} (X : K.In h) (G : h.Ns mainGlobals mg) (hfa : mg "law" = some (.ref fa))
  {od49 an49 : Option Addr} {sl49 : Array (Option Value)} {oc49 kV49 dc49 pm49 cd49 ct49 : Value}
  {odi_NoTelling ani_NoTelling : Option Addr} {sli_NoTelling : Array (Option Value)} {oci_NoTelling kVi_NoTelling dci_NoTelling pmi_NoTelling cdi_NoTelling cti_NoTelling : Value}
  {d0 d1 d2 d3 d4 d5 d6 d7 d8 d9 d10 d11 d12 d13 d14 d15 d16 d17 d18 d19 d20 d21 d22 d23 d24 d25 d26 d27 d28 d29 d30 d31 d32 d33 d34 d35 d36 d37 d38 d39 d40 d41 d42 d43 d44 d45 d46 d47 d48 : FuncData}
  {g_MOST_BOTTOM : Tok}
  {g_LETTERS : Tok}
  {g_LONGEST_WORD : Tok}
  {gd_BASES : Option Addr} {gn_BASES : Nat} {gs_BASES : Array (Option Value)} {tg_BASES_0 tg_BASES_1 : Tok}
  {g_MOST_PIECES : Tok}
  {g_MOST_WORDS : Tok}
  {g_MOST_STEPS : Tok}
  {g_PARTS : Tok}
  {gd_MARKS : Option Addr} {gn_MARKS : Nat} {gs_MARKS : Array (Option Value)} {tg_MARKS_0 tg_MARKS_1 tg_MARKS_2 tg_MARKS_3 tg_MARKS_4 tg_MARKS_5 tg_MARKS_6 : Tok}
  {gd_WITH_OTHER : Option Addr} {gn_WITH_OTHER : Nat} {gs_WITH_OTHER : Array (Option Value)} {tg_WITH_OTHER_0 tg_WITH_OTHER_1 : Tok}
  {gn_SIDES : Nat} {gs_SIDES : Array (Option Value)} {tg_SIDES_0 tg_SIDES_1 : Tok}
  {gd_FORMS : Option Addr} {gn_FORMS : Nat} {gs_FORMS : Array (Option Value)} {tg_FORMS_0 tg_FORMS_1 tg_FORMS_2 tg_FORMS_3 tg_FORMS_4 : Tok}
  {g_MOST_LAYERS : Tok}
  {g_LEAST_SHEET : Tok}
  {g_MOST_SHEET : Tok}
  (x0 : Dn K mg "is_whole" hG ["thing"] f0 d0)
  (x1 : Dn K mg "divisor_of" fh ["one", "other"] f1 d1)
  (x2 : Dn K mg "is_number" fY ["thing"] f2 d2)
  (x3 : Dn K mg "under" mS ["one", "other"] f3 d3)
  (x4 : Dn K mg "is_told" iG ["thing"] f4 d4)
  (x5 : Dn K mg "is_word" gj ["thing"] f5 d5)
  (x6 : Dn K mg "are_unlike" fw ["words"] f6 d6)
  (x7 : Dn K mg "are_ends" gG ["lo", "hi"] f7 d7)
  (x8 : Dn K mg "is_piece" gJ ["thing"] f8 d8)
  (x9 : Dn K mg "are_pieces" cP ["thing"] f9 d9)
  (x10 : Dn K mg "are_words" eF ["thing"] f10 d10)
  (x11 : Dn K mg "is_wish" iY ["thing"] f11 d11)
  (x12 : Dn K mg "is_channel" fB ["thing", "forms"] f12 d12)
  (x13 : Dn K mg "are_steps" fN ["thing"] f13 d13)
  (x14 : Dn K mg "are_sides" eA ["thing"] f14 d14)
  (x15 : Dn K mg "forms_at_x" fo ["mark"] f15 d15)
  (x16 : Dn K mg "forms_at_side" dB ["mark"] f16 d16)
  (x17 : Dn K mg "wish_at" iS ["sides", "side"] f17 d17)
  (x18 : Dn K mg "is_layer" gF ["thing"] f18 d18)
  (x19 : Dn K mg "layer_fits" fu ["layer", "x", "sides"] f19 d19)
  (x20 : Dn K mg "are_layers" cu ["thing", "x", "sides"] f20 d20)
  (x21 : Dn K mg "is_colour" eD ["thing", "layers"] f21 d21)
  (x22 : Dn K mg "is_sheet" fi ["thing"] f22 d22)
  (x23 : Dn K mg "look_at_telling" cK ["thing"] f23 d23)
  (x24 : Dn K mg "_law_cell_at" fW ["_law_script", "_law_k"] f24 d24)
  (x25 : Dn K mg "_law_draws" iQ ["_law_script", "_law_k", "_law_many"] f25 d25)
  (x26 : Dn K mg "_law_low" mq ["_law_top", "_law_bottom"] f26 d26)
  (x27 : Dn K mg "_law_number" gK ["_law_d"] f27 d27)
  (x28 : Dn K mg "_law_more" kl ["_law_one", "_law_d"] f28 d28)
  (x29 : Dn K mg "_law_word" ig ["_law_d", "_law_k"] f29 d29)
  (x30 : Dn K mg "_law_wish" fZ ["_law_d", "_law_wanted"] f30 d30)
  (x31 : Dn K mg "_law_layers" gT ["_law_d"] f31 d31)
  (x32 : Dn K mg "_law_side" fM ["_law_layers_here", "_law_side_here", "_law_d"] f32 d32)
  (x33 : Dn K mg "_law_channel" fS ["_law_d", "_law_wanted"] f33 d33)
  (x34 : Dn K mg "_law_telling" dY ["_law_d"] f34 d34)
  (x35 : Dn K mg "_law_whole" iJ ["_law_thing"] f35 d35)
  (x36 : Dn K mg "_law_is_word" eC ["_law_thing"] f36 d36)
  (x37 : Dn K mg "_law_is_told" fT ["_law_thing"] f37 d37)
  (x38 : Dn K mg "_law_rises" jc ["_law_some"] f38 d38)
  (x39 : Dn K mg "_law_are_words" dv ["_law_thing"] f39 d39)
  (x40 : Dn K mg "_law_is_wish" dZ ["_law_thing", "_law_wanted"] f40 d40)
  (x41 : Dn K mg "_law_is_channel" dU ["_law_thing", "_law_wanted"] f41 d41)
  (x42 : Dn K mg "_law_layer_good" dS ["_law_layer", "_law_x", "_law_sides"] f42 d42)
  (x43 : Dn K mg "_law_layers_good" bV ["_law_layers_here", "_law_x", "_law_sides"] f43 d43)
  (x44 : Dn K mg "_law_sheet_good" dP ["_law_thing"] f44 d44)
  (x45 : Dn K mg "_law_first_wrong" bW ["_law_thing"] f45 d45)
  (x46 : Dn K mg "_law_odd" mB ["_law_d"] f46 d46)
  (x47 : Dn K mg "_law_refused" fJ ["_law_thing"] f47 d47)
  (x48 : Dn K mg "_law_right" iR ["_law_thing"] f48 d48)
  (x49 : CN K f49 oc49 od49 "law" kA .none kV49 dc49 pm49 an49 cd49 ct49 sl49)
  (w_MOST_BOTTOM : PySem.W.nsIn K mainGlobals "MOST_BOTTOM" = some (some (.int 60 g_MOST_BOTTOM)))
  (w_LETTERS : PySem.W.nsIn K mainGlobals "LETTERS" = some (some (.str "abcdefghijklmnopqrstuvwxyz" g_LETTERS)))
  (w_LONGEST_WORD : PySem.W.nsIn K mainGlobals "LONGEST_WORD" = some (some (.int 8 g_LONGEST_WORD)))
  (w_BASES : PySem.W.nsIn K mainGlobals "BASES" = some (some (.ref g_BASES))) (u_BASES : K.lookup g_BASES = some ⟨.type "tuple", gd_BASES, .seq #[.int 2 tg_BASES_0, .int 10 tg_BASES_1] gn_BASES, gs_BASES⟩)
  (w_MOST_PIECES : PySem.W.nsIn K mainGlobals "MOST_PIECES" = some (some (.int 4 g_MOST_PIECES)))
  (w_MOST_WORDS : PySem.W.nsIn K mainGlobals "MOST_WORDS" = some (some (.int 60 g_MOST_WORDS)))
  (w_MOST_STEPS : PySem.W.nsIn K mainGlobals "MOST_STEPS" = some (some (.int 6 g_MOST_STEPS)))
  (w_PARTS : PySem.W.nsIn K mainGlobals "PARTS" = some (some (.int 8 g_PARTS)))
  (w_MARKS : PySem.W.nsIn K mainGlobals "MARKS" = some (some (.ref g_MARKS))) (u_MARKS : K.lookup g_MARKS = some ⟨.type "tuple", gd_MARKS, .seq #[.str "dots" tg_MARKS_0, .str "bars" tg_MARKS_1, .str "heaps" tg_MARKS_2, .str "lines" tg_MARKS_3, .str "bands" tg_MARKS_4, .str "boxes" tg_MARKS_5, .str "words" tg_MARKS_6] gn_MARKS, gs_MARKS⟩)
  (w_WITH_OTHER : PySem.W.nsIn K mainGlobals "WITH_OTHER" = some (some (.ref g_WITH_OTHER))) (u_WITH_OTHER : K.lookup g_WITH_OTHER = some ⟨.type "tuple", gd_WITH_OTHER, .seq #[.str "bands" tg_WITH_OTHER_0, .str "words" tg_WITH_OTHER_1] gn_WITH_OTHER, gs_WITH_OTHER⟩)
  (w_SIDES : PySem.W.nsIn K mainGlobals "SIDES" = some (some (.ref g_SIDES))) (u_SIDES : K.lookup g_SIDES = some ⟨.type "tuple", none, .seq #[.str "left" tg_SIDES_0, .str "right" tg_SIDES_1] gn_SIDES, gs_SIDES⟩)
  (w_FORMS : PySem.W.nsIn K mainGlobals "FORMS" = some (some (.ref g_FORMS))) (u_FORMS : K.lookup g_FORMS = some ⟨.type "tuple", gd_FORMS, .seq #[.str "straight" tg_FORMS_0, .str "turns" tg_FORMS_1, .str "broken" tg_FORMS_2, .str "days" tg_FORMS_3, .str "order" tg_FORMS_4] gn_FORMS, gs_FORMS⟩)
  (w_MOST_LAYERS : PySem.W.nsIn K mainGlobals "MOST_LAYERS" = some (some (.int 3 g_MOST_LAYERS)))
  (w_LEAST_SHEET : PySem.W.nsIn K mainGlobals "LEAST_SHEET" = some (some (.int 60 g_LEAST_SHEET)))
  (w_MOST_SHEET : PySem.W.nsIn K mainGlobals "MOST_SHEET" = some (some (.int 2000 g_MOST_SHEET)))
  (n_MarkError : PySem.W.nsIn K mainGlobals "MarkError" = some (some (.ref C_MarkError)))
  (n_NoDay : PySem.W.nsIn K mainGlobals "NoDay" = some (some (.ref C_NoDay)))
  (n_NoName : PySem.W.nsIn K mainGlobals "NoName" = some (some (.ref C_NoName)))
  (n_NoNumber : PySem.W.nsIn K mainGlobals "NoNumber" = some (some (.ref C_NoNumber)))
  (n_NoPlan : PySem.W.nsIn K mainGlobals "NoPlan" = some (some (.ref C_NoPlan)))
  (n_NoRow : PySem.W.nsIn K mainGlobals "NoRow" = some (some (.ref C_NoRow)))
  (n_NoSpace : PySem.W.nsIn K mainGlobals "NoSpace" = some (some (.ref C_NoSpace)))
  (n_NoTable : PySem.W.nsIn K mainGlobals "NoTable" = some (some (.ref C_NoTable)))
  (n_TooMany : PySem.W.nsIn K mainGlobals "TooMany" = some (some (.ref C_TooMany)))
  (n_NoTelling : PySem.W.nsIn K mainGlobals "NoTelling" = some (some (.ref C_NoTelling))) (fi_NoTelling : PySem.W.findIn K (.ref C_NoTelling) "__init__" = some (some (.ref FI_NoTelling)))
  (li_NoTelling : K.lookup FI_NoTelling = some ⟨oci_NoTelling, odi_NoTelling, .func (PySem.W.fnOf "__init__" "NoTelling.__init__" (dI cw) (cr cw) (ae cw) .none kVi_NoTelling dci_NoTelling pmi_NoTelling ani_NoTelling cdi_NoTelling cti_NoTelling), sli_NoTelling⟩)
  (ci_NoTelling : PySem.W.codeIn K cdi_NoTelling "NoTelling.__init__" = true) (ki_NoTelling : PySem.W.keepIn K (.ref FI_NoTelling) = true) (o_NoTelling : sW K C_NoTelling FI_NoTelling "part") (e_NoTelling : PySem.W.exmOne K (.ref C_NoTelling) (.ref C_NoTelling) = some true)
  (eo_NoTelling_MarkError : PySem.W.exmOne K (.ref C_NoTelling) (.ref C_MarkError) = some true)
  (y_NoTelling : jF K C_NoTelling)
  (kk_NoTelling_NoDay : PySem.W.kitOne K (.ref C_NoTelling) (.ref C_NoDay) = some false)
  (kk_NoTelling_NoName : PySem.W.kitOne K (.ref C_NoTelling) (.ref C_NoName) = some false)
  (kk_NoTelling_NoNumber : PySem.W.kitOne K (.ref C_NoTelling) (.ref C_NoNumber) = some false)
  (kk_NoTelling_NoPlan : PySem.W.kitOne K (.ref C_NoTelling) (.ref C_NoPlan) = some false)
  (kk_NoTelling_NoRow : PySem.W.kitOne K (.ref C_NoTelling) (.ref C_NoRow) = some false)
  (kk_NoTelling_NoSpace : PySem.W.kitOne K (.ref C_NoTelling) (.ref C_NoSpace) = some false)
  (kk_NoTelling_NoTable : PySem.W.kitOne K (.ref C_NoTelling) (.ref C_NoTable) = some false)
  (kk_NoTelling_TooMany : PySem.W.kitOne K (.ref C_NoTelling) (.ref C_TooMany) = some false)
  (kk_NoTelling_NoTelling : PySem.W.kitOne K (.ref C_NoTelling) (.ref C_NoTelling) = some true)
  (kk_NoTelling_ValueError : PySem.W.kitOne K (.ref C_NoTelling) (.type "ValueError") = some true)
  (z_isinstance : PySem.W.nsIn K mainGlobals "isinstance" = some none)
  (z_int : PySem.W.nsIn K mainGlobals "int" = some none)
  (z_bool : PySem.W.nsIn K mainGlobals "bool" = some none)
  (z_tuple : PySem.W.nsIn K mainGlobals "tuple" = some none)
  (z_str : PySem.W.nsIn K mainGlobals "str" = some none)
  (z_list : PySem.W.nsIn K mainGlobals "list" = some none)
  (z_abs : PySem.W.nsIn K mainGlobals "abs" = some none)
  (z_len : PySem.W.nsIn K mainGlobals "len" = some none)
  (z_range : PySem.W.nsIn K mainGlobals "range" = some none)
  (z_max : PySem.W.nsIn K mainGlobals "max" = some none)
  (z_min : PySem.W.nsIn K mainGlobals "min" = some none)
  (z_zip : PySem.W.nsIn K mainGlobals "zip" = some none)
  (z_all : PySem.W.nsIn K mainGlobals "all" = some none)
  (z_set : PySem.W.nsIn K mainGlobals "set" = some none)
  (z_ValueError : PySem.W.nsIn K mainGlobals "ValueError" = some none)
  : ∃ t : DQ, Txt K mg t /\ t.f_law = fa /\ ∀ (s : Shared) (v : Value), BindsTo s t.d_law ⟨[v], []⟩ [("_law_script", v)] := by
 have e := hfa.symm.trans (PySem.W.mg_of X G x49.a)
 cases e
 have F49 := jK (st := kA) x49.l x49.c x49.k
 have b49 := F49.binds (ps := ["_law_script"]) fun _ _ _ _ _ _ us hl => by obtain ⟨_, rfl⟩ := Bm hl; rfl
 have Fi_NoTelling := jK (st := cw) li_NoTelling ci_NoTelling ki_NoTelling
 have bi_NoTelling := Fi_NoTelling.binds (ps := ["self", "part"]) fun _ _ _ _ _ _ us hl => by obtain ⟨_, _, rfl⟩ := AU hl; rfl
 have T : Txt K mg ⟨_, _, _, _, _, _, _, _, _, _, _, _, _, _, _, _, _, _, _, _, _, _, _, _, _, _, _, _, _, _, _, _, _, _, _, _, _, _, _, _, _, _, _, _, _, _, _, _, _, _, _, _, _, _, _, _, _, _, _, _, _, _, _, _, _, _, _, _, _, _, _, _, _, _, _, _, _, _, _, _, _, _, _, _, _, _, _, _, _, _, _, _, _, _, _, _, _, _, _, _, C_MarkError, C_NoDay, C_NoName, C_NoNumber, C_NoPlan, C_NoRow, C_NoSpace, C_NoTable, C_TooMany, C_NoTelling, FI_NoTelling, _, g_MOST_BOTTOM, g_LETTERS, g_LONGEST_WORD, g_BASES, g_MOST_PIECES, g_MOST_WORDS, g_MOST_STEPS, g_PARTS, g_MARKS, g_WITH_OTHER, g_SIDES, g_FORMS, g_MOST_LAYERS, g_LEAST_SHEET, g_MOST_SHEET⟩ := ⟨x0, x1, x2, x3, x4, x5, x6, x7, x8, x9, x10, x11, x12, x13, x14, x15, x16, x17, x18, x19, x20, x21, x22, x23, x24, x25, x26, x27, x28, x29, x30, x31, x32, x33, x34, x35, x36, x37, x38, x39, x40, x41, x42, x43, x44, x45, x46, x47, x48, F49, PySem.W.mg_of X G x49.a, x49.k, b49, PySem.W.mg_of X G n_MarkError, PySem.W.mg_of X G n_NoDay, PySem.W.mg_of X G n_NoName, PySem.W.mg_of X G n_NoNumber, PySem.W.mg_of X G n_NoPlan, PySem.W.mg_of X G n_NoRow, PySem.W.mg_of X G n_NoSpace, PySem.W.mg_of X G n_NoTable, PySem.W.mg_of X G n_TooMany, PySem.W.mg_of X G n_NoTelling, o_NoTelling, Fi_NoTelling, bi_NoTelling, e_NoTelling, eo_NoTelling_MarkError, y_NoTelling, kk_NoTelling_NoDay, kk_NoTelling_NoName, kk_NoTelling_NoNumber, kk_NoTelling_NoPlan, kk_NoTelling_NoRow, kk_NoTelling_NoSpace, kk_NoTelling_NoTable, kk_NoTelling_TooMany, kk_NoTelling_NoTelling, kk_NoTelling_ValueError, PySem.W.mg_of X G w_MOST_BOTTOM, PySem.W.mg_of X G w_LETTERS, PySem.W.mg_of X G w_LONGEST_WORD, PySem.W.mg_of X G w_BASES, fun _ => .inr ⟨_, _, _, u_BASES, rfl, rfl, (by show 2 <= sizeLine; decide), .cons ⟨_, rfl⟩ (.cons ⟨_, rfl⟩ (.nil))⟩, PySem.W.mg_of X G w_MOST_PIECES, PySem.W.mg_of X G w_MOST_WORDS, PySem.W.mg_of X G w_MOST_STEPS, PySem.W.mg_of X G w_PARTS, PySem.W.mg_of X G w_MARKS, fun _ => .inr ⟨_, _, _, u_MARKS, rfl, rfl, (by show 7 <= sizeLine; decide), .cons ⟨_, rfl⟩ (.cons ⟨_, rfl⟩ (.cons ⟨_, rfl⟩ (.cons ⟨_, rfl⟩ (.cons ⟨_, rfl⟩ (.cons ⟨_, rfl⟩ (.cons ⟨_, rfl⟩ (.nil)))))))⟩, PySem.W.mg_of X G w_WITH_OTHER, fun _ => .inr ⟨_, _, _, u_WITH_OTHER, rfl, rfl, (by show 2 <= sizeLine; decide), .cons ⟨_, rfl⟩ (.cons ⟨_, rfl⟩ (.nil))⟩, PySem.W.mg_of X G w_SIDES, ⟨_, u_SIDES, rfl, rfl⟩, fun _ => .inr ⟨_, _, _, u_SIDES, rfl, rfl, (by show 2 <= sizeLine; decide), .cons ⟨_, rfl⟩ (.cons ⟨_, rfl⟩ (.nil))⟩, PySem.W.mg_of X G w_FORMS, fun _ => .inr ⟨_, _, _, u_FORMS, rfl, rfl, (by show 5 <= sizeLine; decide), .cons ⟨_, rfl⟩ (.cons ⟨_, rfl⟩ (.cons ⟨_, rfl⟩ (.cons ⟨_, rfl⟩ (.cons ⟨_, rfl⟩ (.nil)))))⟩, PySem.W.mg_of X G w_MOST_LAYERS, PySem.W.mg_of X G w_LEAST_SHEET, PySem.W.mg_of X G w_MOST_SHEET, PySem.W.mg_none_of X G z_isinstance, PySem.W.mg_none_of X G z_int, PySem.W.mg_none_of X G z_bool, PySem.W.mg_none_of X G z_tuple, PySem.W.mg_none_of X G z_str, PySem.W.mg_none_of X G z_list, PySem.W.mg_none_of X G z_abs, PySem.W.mg_none_of X G z_len, PySem.W.mg_none_of X G z_range, PySem.W.mg_none_of X G z_max, PySem.W.mg_none_of X G z_min, PySem.W.mg_none_of X G z_zip, PySem.W.mg_none_of X G z_all, PySem.W.mg_none_of X G z_set, PySem.W.mg_none_of X G z_ValueError⟩
 exact ⟨_, T, rfl, fun s v => .of_eq rfl⟩
open PyProof.Rows in
set_option maxRecDepth 100000 in
set_option maxHeartbeats 0 in
theorem hdY (w : World) (mg : Str -> Option Value) (fa : Addr) (h : Heap) (KX : (hdKs.heap_1 w.params).In h) (G : h.Ns mainGlobals mg) (hmg : mg "law" = some (.ref fa)) : ∃ t : DQ, Txt (hdKs.heap_1 w.params) mg t /\ t.f_law = fa /\ ∀ (s : Shared) (v : Value), BindsTo s t.d_law ⟨[v], []⟩ [("_law_script", v)] := by
 refine' all_mk KX G hmg (dn1 KX G ⟨?a0, ?l0, ?c0, ?k0⟩) (dn2 KX G ⟨?a1, ?l1, ?c1, ?k1⟩) (dn1 KX G ⟨?a2, ?l2, ?c2, ?k2⟩) (dn2 KX G ⟨?a3, ?l3, ?c3, ?k3⟩) (dn1 KX G ⟨?a4, ?l4, ?c4, ?k4⟩) (dn1 KX G ⟨?a5, ?l5, ?c5, ?k5⟩) (dn1 KX G ⟨?a6, ?l6, ?c6, ?k6⟩) (dn2 KX G ⟨?a7, ?l7, ?c7, ?k7⟩) (dn1 KX G ⟨?a8, ?l8, ?c8, ?k8⟩) (dn1 KX G ⟨?a9, ?l9, ?c9, ?k9⟩) (dn1 KX G ⟨?a10, ?l10, ?c10, ?k10⟩) (dn1 KX G ⟨?a11, ?l11, ?c11, ?k11⟩) (dn2 KX G ⟨?a12, ?l12, ?c12, ?k12⟩) (dn1 KX G ⟨?a13, ?l13, ?c13, ?k13⟩) (dn1 KX G ⟨?a14, ?l14, ?c14, ?k14⟩) (dn1 KX G ⟨?a15, ?l15, ?c15, ?k15⟩) (dn1 KX G ⟨?a16, ?l16, ?c16, ?k16⟩) (dn2 KX G ⟨?a17, ?l17, ?c17, ?k17⟩) (dn1 KX G ⟨?a18, ?l18, ?c18, ?k18⟩) (dn3 KX G ⟨?a19, ?l19, ?c19, ?k19⟩) (dn3 KX G ⟨?a20, ?l20, ?c20, ?k20⟩) (dn2 KX G ⟨?a21, ?l21, ?c21, ?k21⟩) (dn1 KX G ⟨?a22, ?l22, ?c22, ?k22⟩) (dn1 KX G ⟨?a23, ?l23, ?c23, ?k23⟩) (dn2 KX G ⟨?a24, ?l24, ?c24, ?k24⟩) (dn3 KX G ⟨?a25, ?l25, ?c25, ?k25⟩) (dn2 KX G ⟨?a26, ?l26, ?c26, ?k26⟩) (dn1 KX G ⟨?a27, ?l27, ?c27, ?k27⟩) (dn2 KX G ⟨?a28, ?l28, ?c28, ?k28⟩) (dn2 KX G ⟨?a29, ?l29, ?c29, ?k29⟩) (dn2 KX G ⟨?a30, ?l30, ?c30, ?k30⟩) (dn1 KX G ⟨?a31, ?l31, ?c31, ?k31⟩) (dn3 KX G ⟨?a32, ?l32, ?c32, ?k32⟩) (dn2 KX G ⟨?a33, ?l33, ?c33, ?k33⟩) (dn1 KX G ⟨?a34, ?l34, ?c34, ?k34⟩) (dn1 KX G ⟨?a35, ?l35, ?c35, ?k35⟩) (dn1 KX G ⟨?a36, ?l36, ?c36, ?k36⟩) (dn1 KX G ⟨?a37, ?l37, ?c37, ?k37⟩) (dn1 KX G ⟨?a38, ?l38, ?c38, ?k38⟩) (dn1 KX G ⟨?a39, ?l39, ?c39, ?k39⟩) (dn2 KX G ⟨?a40, ?l40, ?c40, ?k40⟩) (dn2 KX G ⟨?a41, ?l41, ?c41, ?k41⟩) (dn3 KX G ⟨?a42, ?l42, ?c42, ?k42⟩) (dn3 KX G ⟨?a43, ?l43, ?c43, ?k43⟩) (dn1 KX G ⟨?a44, ?l44, ?c44, ?k44⟩) (dn1 KX G ⟨?a45, ?l45, ?c45, ?k45⟩) (dn1 KX G ⟨?a46, ?l46, ?c46, ?k46⟩) (dn1 KX G ⟨?a47, ?l47, ?c47, ?k47⟩) (dn1 KX G ⟨?a48, ?l48, ?c48, ?k48⟩) ⟨?a49, ?l49, ?c49, ?k49⟩ ?w_MOST_BOTTOM ?w_LETTERS ?w_LONGEST_WORD ?w_BASES ?u_BASES ?w_MOST_PIECES ?w_MOST_WORDS ?w_MOST_STEPS ?w_PARTS ?w_MARKS ?u_MARKS ?w_WITH_OTHER ?u_WITH_OTHER ?w_SIDES ?u_SIDES ?w_FORMS ?u_FORMS ?w_MOST_LAYERS ?w_LEAST_SHEET ?w_MOST_SHEET ?n_MarkError ?n_NoDay ?n_NoName ?n_NoNumber ?n_NoPlan ?n_NoRow ?n_NoSpace ?n_NoTable ?n_TooMany ?n_NoTelling ?fi_NoTelling ?li_NoTelling ?ci_NoTelling ?ki_NoTelling ?o_NoTelling ?e_NoTelling ?eo_NoTelling_MarkError ?y_NoTelling ?kk_NoTelling_NoDay ?kk_NoTelling_NoName ?kk_NoTelling_NoNumber ?kk_NoTelling_NoPlan ?kk_NoTelling_NoRow ?kk_NoTelling_NoSpace ?kk_NoTelling_NoTable ?kk_NoTelling_TooMany ?kk_NoTelling_NoTelling ?kk_NoTelling_ValueError ?z_isinstance ?z_int ?z_bool ?z_tuple ?z_str ?z_list ?z_abs ?z_len ?z_range ?z_max ?z_min ?z_zip ?z_all ?z_set ?z_ValueError
 all_goals try k_is
 (case o_NoTelling => (refine' ⟨?_, ?_, ?_, ?_, ?_, ?_⟩; kernel_rfl; k_is; kernel_rfl; k_is; k_is; k_is))
 (case e_NoTelling => kts_exm)
 (case eo_NoTelling_MarkError => kts_exm)
 (case y_NoTelling => (refine' ⟨?_, ?_, ?_, ?_, ?_, ?_, ?_⟩ <;> k_is))
 (case kk_NoTelling_NoDay => kit_is)
 (case kk_NoTelling_NoName => kit_is)
 (case kk_NoTelling_NoNumber => kit_is)
 (case kk_NoTelling_NoPlan => kit_is)
 (case kk_NoTelling_NoRow => kit_is)
 (case kk_NoTelling_NoSpace => kit_is)
 (case kk_NoTelling_NoTable => kit_is)
 (case kk_NoTelling_TooMany => kit_is)
 (case kk_NoTelling_NoTelling => kit_is)
 (case kk_NoTelling_ValueError => kit_is)
theorem Bw {b : Bool} {A B : Prop} (hb : b = true) (h : A) : if b = true then A else B := by
 rw [if_pos hb]; exact h
theorem tq {n : Int} (h1 : 0 <= n) (h2 : n < 1152921504606846976) : mC n := (show My.Bd 60 n by unfold My.Bd; omega).mono (by decide)
noncomputable def eP (ns : List Int) (k : Int) : Int := ns.getD k.toNat 0
noncomputable def rF (K : Fg) : Sp := fun vs H Q _ => ∃ (a : Addr) (ns : List Int) (k : Int), vs = [.ref a, .int k] /\ cg K H a (ns.map V.int) /\ 0 <= k /\ Q (.int (eP ns k)) H
noncomputable def mj (K : Fg) : Sp := fun vs H Q _ => ∃ (a : Addr) (ns : List Int), vs = [.ref a] /\ cg K H a (ns.map V.int) /\ ns.length <= 63 /\ (∀ x ∈ ns, My.Bd 1048576 x) /\ ∀ H', Q (.bl true) H'
noncomputable def sp_gcd : Sp := fun vs H Q _ => ∃ a b : Int, vs = [.int a, .int b] /\ Q (.int ((Int.gcd a b : Nat) : Int)) H
section
variable {P : Program} {w : World} {K : Fg} {mg : Str -> Option Value} {base : Heap} {t : DQ}
theorem me (T : Txt K mg t) : FO P w base T.q_zbd 1 (rF K) := by
 refine T.q_zbd.F.ok ny (fun vs H Q E h => ?_) (fun cdv A outer s H vs Q E hr h => ?_)
 ·obtain ⟨a, ns, k, rfl, _⟩ := h
  rfl
 obtain ⟨a, ns, k, rfl, hS, h0, q⟩ := h
 refine ⟨_, (aV (aG (ao vA (pv 1) (am aw rfl T.z_len PySem.boot_len (ac (pv 0) aq)) (ay _)) (aZ (aj (af cz (pv 0) (pv 1) (fun _ _ => rfl)))) ar)
 (aZ (aj au))), ?_⟩
 have hl : (ns.map V.int).length = ns.length := List.length_map _
 refine ⟨_, rfl, _, rfl, a, _, rfl, .inl hS, _, _, rfl, rfl, _, rfl, ?_⟩
 refine DN (fun c => ?_) (fun c => ?_)
 ·have c' : k < (((ns.map V.int).length : Nat) : Int) := of_decide_eq_true c
  rw [hl] at c'
  have hk : k.toNat < ns.length := by omega
  have hv : eI (ns.map V.int) k = some (.int (eP ns k)) := by
   have ek : k = ((k.toNat : Nat) : Int) := by omega
   have q : eI (ns.map V.int) ((k.toNat : Nat) : Int) = some (.int (eP ns k)) := bp (by
    rw [List.getElem?_map, List.getElem?_eq_getElem hk]
    unfold eP
    rw [List.getD_eq_getElem?_getD, List.getElem?_eq_getElem hk] <;> rfl)
   rw [<- ek] at q
   exact q
  exact ⟨_, rfl, _, rfl, _, _, _, _, rfl, rfl, hS, hv, q⟩
 ·have c' : ¬ k < (((ns.map V.int).length : Nat) : Int) := of_decide_eq_false (Bool.eq_false_iff.mpr c)
  rw [hl] at c'
  have e : eP ns k = 0 := by
   unfold eP
   rw [List.getD_eq_getElem?_getD, List.getElem?_eq_none (by omega)] <;> rfl
  rw [e] at q
  exact q
theorem xy (a b : Int) : Int.gcd (if a < 0 then -a else a) (if b < 0 then -b else b) = Int.gcd a b := by
 rw [My.natAbs_abs, My.natAbs_abs]
 rfl
theorem kY (T : Txt K mg t) : dR P w K mg base tF 1 t.f_zas t.d_zas ["one", "other"] sp_gcd := by
 refine T.q_zas.F.ok bZ (fun vs H Q E h => ?_) (fun cdv A outer s H vs Q E hr h => ?_)
 ·obtain ⟨a, b, rfl, _⟩ := h
  rfl
 obtain ⟨a, b, rfl, q⟩ := h
 refine ⟨_, (aV (az (i := 2) bZ.nd rfl (Or.inl rfl) (am eZ rfl T.z_abs iT (ac (pv 0) aq)))
 (aV (az (i := 3) bZ.nd rfl (Or.inl rfl) (am eZ rfl T.z_abs iT (ac (pv 1) aq)))
 (aV (oJ PassesOwn.never (vN (pv 3) (fun _ => rfl)) (aV (az (i := 4) bZ.nd rfl (Or.inl rfl) (al aQ (pv 2) (pv 3)))
 (aV (az (i := 2) bZ.nd rfl (Or.inl rfl) (pv 3))
 (aZ (az (i := 3) bZ.nd rfl (Or.inl rfl) (pv 4))))))
 (aZ (aj (pv 2)))))), ?_⟩
 refine ⟨_, rfl, _, rfl, ?_⟩
 refine ⟨_, rfl, _, rfl, ?_⟩
 dsimp only [cG, wC]
 refine tY (fun σ H' => ∃ (x y : Int) (r : Option V), σ = [some (.int a), some (.int b), some (.int x), some (.int y), r] /\ H' = H /\ 0 <= x /\ 0 <= y /\ Int.gcd x y = Int.gcd a b)
  (fun σ _ => match σ with | [_, _, _, some (.int y), _] => y.toNat | _ => 0) ⟨_, _, none, rfl, rfl, by split <;> omega, by split <;> omega, xy a b⟩ ?_ ?_
 ·rintro σ H' ⟨x, y, r, rfl, rfl, hx, hy, hg⟩
  refine ⟨_, rfl, _, rfl, ?_⟩
  by_cases h0 : y = 0
  ·subst h0
   refine gA ?_
   have e : x = ((Int.gcd a b : Nat) : Int) := by
    rw [<- hg, Int.gcd_zero_right]
    omega
   refine ⟨_, rfl, ?_⟩
   rw [e]
   exact q
  ·have hb : (y != 0) = true := by simpa using h0
   refine Bw hb ?_
   have hp : 0 < y := by omega
   have h1 := Int.emod_nonneg x h0
   have h2 := Int.emod_lt_of_pos x hp
   refine ⟨_, rfl, _, rfl, _, _, rfl, rfl, hp, _, rfl, _, rfl, ⟨y, x % y, _, rfl, rfl, hy, h1, ?_⟩, ?_⟩
   ·rw [My.gcd_step, hg]
   ·show (x % y).toNat < y.toNat
    omega
 ·rintro σ H' Q1 Q2 hi ⟨v, e, k, tr, q'⟩
  exact ⟨v, e, k, tr, hi _ _ q'⟩
end
section
variable {K : Fg} {H : Hp} {Q : VK} {E : XK} {p r : Addr} {a b c d t m : Int} {n1 n2 : Nat} {f : Rat -> Rat -> Rat} {ok : Int -> Prop} {F : Int -> Int -> Int -> Int -> V}
end
theorem zJ {K : Fg} {H : Hp} {Q : VK} {E : XK} {a : Addr} {ns : List Int} {k : Int} (hs : cg K H a (ns.map V.int)) (h0 : 0 <= k) (q : Q (.int (eP ns k)) H) : rF K [.ref a, .int k] H Q E := ⟨a, ns, k, rfl, hs, h0, q⟩
local macro_rules | `(tactic| accm_open) => `(tactic| repeat (first | exact jd.here | apply jd.next))
local macro_rules | `(tactic| accj_open) => `(tactic| repeat (first | exact jg.here | apply jg.next))
local macro_rules | `(tactic| kpf_lEnd) => `(tactic| first | assumption | exact ci.of (by assumption) | ((apply aF.tup); (focus assumption); (kpf_lEnd)) | ((apply vZ.tup); (focus assumption); (focus assumption); (kpf_lEnd)))
local macro_rules | `(tactic| kpf_nlEnd) => `(tactic| first | assumption | exact cg.of (by assumption) | ((apply aF.seq); (focus assumption); (kpf_nlEnd)) | ((apply vZ.seq); (focus assumption); (focus assumption); (kpf_nlEnd)))
local macro_rules | `(tactic| dictfold_keysKept) => `(tactic| first | assumption | exact (show aF _ _ by assumption) _ _ (by dictfold_keysKept) | exact (show vZ _ _ _ by assumption) _ _ (by assumption) (by dictfold_keysKept))
local macro_rules | `(tactic| kpc_if) => `(tactic| first | assumption | exact aF.refl _ | ((apply sm2); (focus assumption); (kpc_if)))
local macro_rules | `(tactic| kj_step) => do
  let a0 ← MyLaw.mkAlts "rz_isI_int rz_isB_int rz_isS_int rz_isN_int rz_isI_bool rz_isB_bool rz_isS_bool rz_isN_bool rz_isI_str rz_isB_str rz_isS_str rz_isN_str rnN roM roa rou rz_isI_list rz_isB_list rz_isS_list rz_isN_list dz_isT_int fz_isL_int dz_isT_bool fz_isL_bool dz_isT_str fz_isL_str doK fz_isL_tuple dz_isT_list fz_isL_list"
  `(tactic| ((with_reducible refine AD ?_); first | $a0:tactic))
local macro_rules | `(tactic| regwhilegen_openM) => do
  let a0 ← MyLaw.mkAlts "ryJ rz_notR ryW rz_notN rz_nonI rz_notI rz_nonS rz_notS"
  `(tactic| first | $a0:tactic)
local macro_rules | `(tactic| regwhilegen_open) => do
  let a0 ← MyLaw.mkAlts "rz_c rEu rEp rCd rBx rxQ rxZ ryh rxW rAq rDM rCn rux rCb rzh rBp rxf rz_callD rz_un rz_U rAW rDH rBh rz_andV rz_orV rz_notV rz_if rz_chain rAg rAh rCk rEb rEE rz_e2 rBj rgU rgA rrl ryX rz_gcons rz_gnil rEv rAT rAm rCw rDL rxL rz_iL rz_iT rBL rz_iR2 rz_iR3 rz_toI rBS rCi"
  `(tactic| first | ((with_reducible apply Bg); (focus (accm_open))) | $a0:tactic | ((with_reducible apply zC); (focus (accj_open))) | ((with_reducible apply z_par2); (focus (accj_open)); (focus (accj_open))) | ((with_reducible apply Cl); (focus (exact Nat.le_of_ble_eq_true rfl)); (intro p H' n s e)))
local macro_rules | `(tactic| regwhilegenl_has) => do
  let a0 ← MyLaw.mkAlts "iz_I lud"
  let a1 ← MyLaw.mkAlts "lz_gtup fz_iL2 dz_iT2"
  `(tactic| first | $a0:tactic | kj_step | regwhilegen_openM | ((with_reducible apply z_len); (focus (first | exact .inl (by kpf_nlEnd) | exact .inr (by kpf_lEnd)))) | $a1:tactic | ((with_reducible apply BC); (focus (first | decide | omega)); (focus (first | decide | omega))) | ((with_reducible apply z_r2c); (focus (first | decide | omega)); (focus (first | decide | omega)); (focus (first | decide | omega)); (focus (first | decide | omega))))
local macro_rules | `(tactic| kt_field) => do
  let a0 ← MyLaw.mkAlts "mMy.Bd.mod mMy.Bd.div"
  `(tactic| first | assumption | (exact Pr.ba (by assumption)) | (exact Pr.bb (by assumption)) | (exact (show My.Bd 64 _ by unfold My.Bd; decide)) | ((with_reducible apply bd_mul) <;> (kt_field)) | ((with_reducible apply Ao) <;> (kt_field)) | ((with_reducible apply bd_sub) <;> (kt_field)) | ((with_reducible apply My.Bd.neg); (kt_field)) | $a0:tactic | (exact yq (by omega) (by omega)) | (exact (show My.Bd 256 _ by unfold My.Bd; decide)))
local macro_rules | `(tactic| row_close2_lm) => `(tactic| first | assumption | ((apply My.Bd.mono); (focus (kt_field)); (first | decide | omega)))
local macro_rules | `(tactic| row_close2_l) => `(tactic| first | assumption | exact True.intro | decide | omega | exact ⟨by first | decide | omega, by first | decide | omega⟩ | exact ⟨by decide, by decide, by decide⟩ | exact .inl ⟨by first | decide | omega, by first | decide | omega⟩ | exact .inr ⟨by first | decide | omega, by first | decide | omega⟩ | exact ⟨by row_close2_lm, by row_close2_lm⟩ | exact ⟨by first | decide | omega | assumption, by row_close2_lm⟩)
local macro_rules | `(tactic| kpc_check) => `(tactic| first | assumption | ((apply Pr.kp); (focus assumption); (kpc_check)))
local macro_rules | `(tactic| k_made) => `(tactic| ((with_reducible apply a_number); (focus (kt_field)); (focus (kt_field)); (focus (first | decide | omega)); (focus (first | decide | omega)); (intro p H' x y s R g e)))
local macro_rules | `(tactic| k_made) => `(tactic| ((with_reducible apply a_numberD); (focus (kt_field)); (focus (kt_field)); (focus (first | decide | omega)); (focus (first | decide | omega)); (intro p H' x y s R g e)))
local macro_rules | `(tactic| k_made) => `(tactic| ((with_reducible apply a_two); (focus (kpc_check)); (focus (kpc_check)); (focus (first | decide | omega)); (focus (first | exact True.intro | assumption)); (intro p H' x y s R g e)))
local macro_rules | `(tactic| k_made) => `(tactic| ((with_reducible apply a_cmp); (focus (kpc_check)); (focus (kpc_check)); (focus (first | decide | omega))))
local macro_rules | `(tactic| dictfold_empty) => `(tactic| ((with_reducible apply z_joinI); (focus ((intro S q); (f_look); (exact q))); (focus ((intro hb S q); (f_look); (exact q))); (focus (accm_open)); (focus (accj_open))))
local macro_rules | `(tactic| f_look) => `(tactic| repeat (first | dictfold_empty | regwhilegen_open | regwhilegenl_has | k_made))
local macro_rules | `(tactic| kmb_kw) => `(tactic| first | assumption | exact yq (by omega) (by omega))
local macro_rules | `(tactic| k_made) => `(tactic| ((with_reducible apply zJ); (focus (kpf_nlEnd)); (focus (first | decide | omega))))
section
variable {P : Program} {w : World} {K : Fg} {mg : Str -> Option Value} {base : Heap} {t : DQ}
variable {α : Type}
theorem uH {xs : List α} {x : α} (h : xs[xs.length - 1]? = some x) : eI xs (-1) = some x := by
 have hl : 0 < xs.length := by
  rcases Nat.eq_zero_or_pos xs.length with z | z
  ·rw [List.getElem?_eq_none (by omega)] at h; cases h
  ·exact z
 unfold eI vT
 rw [if_neg (by decide), if_pos (by omega)]
 show xs[(-1 + (xs.length : Int)).toNat]? = some x
 rw [show (-1 + (xs.length : Int)).toNat = xs.length - 1 by omega]
 exact h
theorem jb {β : Type} {g : α -> β} {xs : List α} {j : Nat} {v : β} (h : (xs.map g)[j]? = some v) : ∃ x, xs[j]? = some x /\ v = g x := by
 rw [List.getElem?_map] at h
 cases q : xs[j]? with
 | none => rw [q] at h; cases h
 | some x => rw [q] at h; exact ⟨x, rfl, (Option.some.inj h).symm⟩
local macro_rules | `(tactic| k_made) => do
  let a0 ← MyLaw.mkAlts "rz_fv rz_fsn rz_fsc rz_iS rz_iS2 rz_inS rAV rz_starts rBq"
  `(tactic| first | $a0:tactic)
variable {n : Nat}
theorem gq (h : n <= 1000) : n <= sizeLine := Nat.le_trans h (by decide)
local macro_rules | `(tactic| k_made) => do
  let a0 ← MyLaw.mkAlts "rzM rz_notB rz_NeB rz_isB rz_EqB rz_iE"
  `(tactic| first | $a0:tactic)
local macro_rules | `(tactic| k_made) => `(tactic| ((with_reducible apply z_iE2); (focus (kpf_nlEnd))))
local macro_rules | `(tactic| k_made) => `(tactic| ((with_reducible apply Bu); (focus (exact gq (by omega)))))
local macro_rules | `(tactic| kj_on) => `(tactic| ((fail_if_success (with_reducible apply ux)); (regwhilegen_open)))
local macro_rules | `(tactic| kmk_kw) => `(tactic| repeat (first | dictfold_empty | kj_on | regwhilegenl_has | k_made))
local macro_rules | `(tactic| kjx_on) => `(tactic| ((fail_if_success (with_reducible apply ux)); (fail_if_success (with_reducible apply xL)); (regwhilegen_open)))
local macro_rules | `(tactic| kj_one) => `(tactic| repeat (first | dictfold_empty | kjx_on | regwhilegenl_has | k_made))
theorem EG : (10 : Int) ^ (6 : Int).toNat = 1000000 := by decide
theorem DP : (10 : Int) ^ (60 : Int).toNat = 1000000000000000000000000000000000000000000000000000000000000 := by decide
theorem bdP : My.Bd 200 ((10 : Int) ^ (60 : Int).toNat) := by
 rw [DP]
 unfold My.Bd
 have e2 : (2 : Int) ^ 200 = 1606938044258990275541962092341162602522202993782792835301376 := by decide
 omega
theorem bd8 {x : Int} (h : My.Bd 200 x) : My.Bd 1600 (x ^ (8 : Int).toNat) := by
 have e : x ^ (8 : Int).toNat = x * x * (x * x) * (x * x * (x * x)) := by
  show x ^ 8 = _
  simp only [Int.pow_succ, Int.pow_zero, Int.one_mul, Int.mul_assoc]
 rw [e]
 have h2 := h.mul h
 have h4 := h2.mul h2
 exact h4.mul h4
variable {H : Hp} {Q : VK}
theorem lP {K : Fg} {l : Addr} {xs : List V} {v : V} (h : H l = some (.lst xs)) (hl : xs.length <= 900) (q : ∀ H', vZ l H H' -> H' l = some (.lst (xs ++ [v])) -> Q .non H') : rAppend (.ref l) [v] H Q := ui h (Nat.lt_of_le_of_lt hl (by decide)) q
noncomputable def vt (K : Fg) : Sp := fun vs H Q _ => ∃ (a : Addr) (k m : Int) (ns : List Int), vs = [.ref a, .int k, .int m] /\ cg K H a (ns.map V.int) /\ (0 <= k /\ k <= 100) /\ (0 <= m /\ m <= 100) /\ ∀ (p : Addr) (H' : Hp) (ds : List Int), aF H H' -> H p = none -> H' p = some (.lst (ds.map V.int)) -> ds.length = m.toNat -> (∀ d ∈ ds, 0 <= d /\ d < 1000000) -> Q (.ref p) H'
theorem pN (T : Txt K mg t) : FO P w base T.q_zap 2 (vt K) := by
 have G_zbd := @me P w K mg base t T
 refine T.q_zap.F.ok cm (fun vs H Q E h => ?_) (fun cdv A outer s H vs Q E hr h => ?_)
 ·obtain ⟨a, k, m, ns, rfl, _⟩ := h
  rfl
 obtain ⟨a, k, m, ns, rfl, hS, hk, hm, q⟩ := h
 refine ⟨_, (aV (az (i := 3) cm.nd rfl (Or.inl rfl) (al aQ (am eZ rfl T.z_abs iT (ac (bF G_zbd hr T.q_zbd (ac (pv 0) (ac (pv 1) aq))) aq)) (al wo (al eM au au) au)))
 (aV (az (i := 4) cm.nd rfl (Or.inl rfl) (al bA (pv 3) (bB gn rfl T.z_int iF (ac (aK rh (pv 3) (al eM au au) (ay _)) aq))))
 (aV (az (i := 5) cm.nd rfl (Or.inl rfl) (al bo (al bo (al aQ (pv 3) au) (al bA au (pv 1))) au))
 (aV (az (i := 6) cm.nd rfl (Or.inl rfl) (aD aq))
 (aV (gX PassesOwn.never rfl (cF rfl T.z_range (ac (pv 2) aq)) (br (i := 7) cm.nd rfl (Or.inl rfl)) (aZ (aG (ao rL (pv 4) au (ay _)) (aV (jw (lr PySem.F.plainAttrs_list PySem.F.slot_list_append PySem.F.type_list_append dJ (pv 6) (ac (al aQ (pv 4) (al eM au au)) aq)))
 (aZ (az (i := 4) cm.nd rfl (Or.inl rfl) (al bG (pv 4) (al eM au au))))) (aV (az (i := 5) cm.nd rfl (Or.inl rfl) (al aQ (al bo (al bo (al bA (pv 5) au) (al bA (pv 7) (pv 7))) (pv 1)) au))
 (aZ (jw (lr PySem.F.plainAttrs_list PySem.F.slot_list_append PySem.F.type_list_append dJ (pv 6) (ac (al aQ (al bG (al aQ (al bA (pv 5) (pv 5)) au) au) (al eM au au)) aq))))))))
 (aZ (aj (pv 6)))))))), qt (σ := [some _, some _, some _, none, none, none, none, none]) rfl ?_⟩
 f_look
 generalize (if eP ns k < 0 then -eP ns k else eP ns k) = c0
 refine z_I ⟨by decide, by decide, bdP.mono (by decide)⟩ ?_
 have M0 : (0 : Int) < ((10 : Int) ^ (60 : Int).toNat) ^ (8 : Int).toNat := Int.pow_pos (Int.pow_pos (by decide))
 have M1 := bd8 bdP
 generalize ((10 : Int) ^ (60 : Int).toNat) ^ (8 : Int).toNat = M at M0 M1
 have c1 := Int.emod_nonneg c0 (show M ≠ 0 by omega)
 have c2 := Int.emod_lt_of_pos c0 M0
 have cM : mC (c0 % M) := (My.Bd.of_le M1 c1 (by omega)).mono (by decide)
 f_look
 generalize c0 % M = c at *
 have bM : ∀ b : Bool, mC (if b = true then (1 : Int) else 0) := fun b => by cases b <;> exact tq (by decide) (by decide)
 have r0 : 0 <= c * (if decide (10 ^ Int.toNat 18 <= c) = true then (1 : Int) else 0) := Int.mul_nonneg c1 (by split <;> decide)
 generalize c * (if decide (10 ^ Int.toNat 18 <= c) = true then (1 : Int) else 0) = r at r0
 f_look
 have m1 := Int.emod_nonneg c (show (2305843009213693951 : Int) ≠ 0 by decide)
 have m2 := Int.emod_lt_of_pos c (show (0 : Int) < 2305843009213693951 by decide)
 generalize hmx : c % 2305843009213693951 + 48271 * k + 7 = mx
 have mx0 : 0 <= mx := by omega
 have mx1 : mx < 4611686018427387904 := by omega
 refine jJ (Nat.le_of_ble_eq_true rfl) (fun l H1 n1 s1 e1 => ?_)
 f_look
 refine xC (fun i σ HD => (∃ (x y : Int) (u : Option V), σ = [some (.ref a), some (.int k), some (.int m), some (.int c), some (.int x), some (.int y), some (.ref l), u] /\ 0 <= x /\ 0 <= y /\ y < 4611686018427387904) /\ aF H HD /\ ∃ ds : List Int, HD l = some (.lst (ds.map V.int)) /\ ds.length = i /\ ∀ d ∈ ds, 0 <= d /\ d < 1000000) ⟨⟨_, _, _, rfl, r0, mx0, mx1⟩, s1, [], e1, rfl, fun d h => absurd h List.not_mem_nil⟩ ?_ ?_
 ·rintro i σ HD hi ⟨⟨x, y, u, rfl, x0, y0, y1⟩, sD, ds, hds, hdl, hdd⟩
  have dl : (ds.map V.int).length <= 900 := by rw [List.length_map]; omega
  have i0 : (i : Int) < 100 := by omega
  have ym : mC y := (show My.Bd 62 y by unfold My.Bd; omega).mono (by decide)
  have snoc : ∀ d : Int, 0 <= d -> d < 1000000 -> ∀ e ∈ ds ++ [d], 0 <= e /\ e < 1000000 := fun d d0 d1 e he => by
   rcases List.mem_append.mp he with z | z
   ·exact hdd e z
   ·rw [List.mem_singleton.mp z]; exact ⟨d0, d1⟩
  f_look
  refine ah (fun hb => ?_) (fun hb => ?_)
  ·f_look
   refine ⟨.inl ⟨rfl, _, cg.of hds⟩, ?_⟩
   f_look
   refine lP (K := K) hds dl (fun H2 b2 hl2 => ?_)
   rw [EG] at hl2
   f_look
   rw [EG]
   exact ⟨⟨_, _, _, rfl, by omega, y0, y1⟩, sD.but n1 b2, ds ++ [x % 1000000], by rw [List.map_append]; exact hl2, by simp [hdl], snoc _ (by omega) (by omega)⟩
  ·f_look
   generalize hy2 : (y * 1181783497276652981 + (0 + (i : Int)) * (0 + (i : Int)) + k) % 2305843009213693951 = y2
   have y20 : 0 <= y2 := by rw [<- hy2]; exact Int.emod_nonneg _ (by decide)
   have y21 : y2 < 2305843009213693951 := by rw [<- hy2]; exact Int.emod_lt_of_pos _ (by decide)
   have y2m : mC y2 := (show My.Bd 62 y2 by unfold My.Bd; omega).mono (by decide)
   f_look
   refine ⟨.inl ⟨rfl, _, cg.of hds⟩, ?_⟩
   f_look
   refine lP (K := K) hds dl (fun H2 b2 hl2 => ?_)
   rw [EG] at hl2
   f_look
   exact ⟨⟨_, _, _, rfl, x0, y20, by omega⟩, sD.but n1 b2, ds ++ [_], by rw [List.map_append]; exact hl2, by simp [hdl], snoc _ (by omega) (by omega)⟩
 ·rintro σ HD ⟨⟨x, y, u, rfl, _⟩, sD, ds, hds, hdl, hdd⟩
  f_look
  exact q _ _ ds sD n1 hds hdl hdd
noncomputable def uf : Sp := fun vs H Q _ => ∃ tp bt : Int, vs = [.int tp, .int bt] /\ 0 < bt /\ My.Bd 3000 bt /\ ∀ (p : Addr) (H' : Hp), aF H H' -> H' p = some (.tup [.int (tp / ((Int.gcd tp bt : Nat) : Int)), .int (bt / ((Int.gcd tp bt : Nat) : Int))]) -> Q (.ref p) H'
theorem tU (a b : Int) : Int.gcd (if a < 0 then -a else a) b = Int.gcd a b := by
 split
 ·exact Int.neg_gcd
 ·rfl
theorem wA {tp bt : Int} (hb : 0 < bt) : 0 < bt / ((Int.gcd tp bt : Nat) : Int) /\ Int.gcd (tp / ((Int.gcd tp bt : Nat) : Int)) (bt / ((Int.gcd tp bt : Nat) : Int)) = 1 /\ (tp / ((Int.gcd tp bt : Nat) : Int)).natAbs <= tp.natAbs /\ (bt / ((Int.gcd tp bt : Nat) : Int)).natAbs <= bt.natAbs := by
 have g0 := My.gcd_pos (a := tp) hb
 have M := My.made_of (t := tp) (m := bt) (by omega)
 have e : My.sg tp bt = ((Int.gcd tp bt : Nat) : Int) := if_neg (by omega)
 have e1 : tp.fdiv (My.sg tp bt) = tp / ((Int.gcd tp bt : Nat) : Int) := by rw [e]; exact Int.fdiv_eq_ediv_of_nonneg _ (by omega)
 have e2 : bt.fdiv (My.sg tp bt) = bt / ((Int.gcd tp bt : Nat) : Int) := by rw [e]; exact Int.fdiv_eq_ediv_of_nonneg _ (by omega)
 rw [e1, e2] at M
 exact ⟨M.pos, M.low, M.ba, M.bb⟩
theorem tZ (T : Txt K mg t) : FO P w base T.q_zah 1 (uf) := by
 refine T.q_zah.F.ok ik (fun vs H Q E h => ?_) (fun cdv A outer s H vs Q E hr h => ?_)
 ·obtain ⟨tp, bt, rfl, _⟩ := h
  rfl
 obtain ⟨tp, bt, rfl, hb, hB, q⟩ := h
 refine ⟨_, (aV (az (i := 2) ik.nd rfl (Or.inl rfl) (am eZ rfl T.z_abs iT (ac (pv 0) aq)))
 (aV (az (i := 3) ik.nd rfl (Or.inl rfl) (pv 1))
 (aV (oJ PassesOwn.never (ao dH (pv 3) au (ay _)) (aZ (yx (i := 2) (j := 3) rfl ik.nd rfl rfl (by decide) rfl rfl (ac (pv 3) (ac (al aQ (pv 2) (pv 3)) aq)) rfl)))
 (aZ (aj (ag (ac (al bG (pv 0) (pv 2)) (ac (al bG (pv 1) (pv 2)) aq)))))))), qt (σ := [some _, some _, none, none]) rfl ?_⟩
 f_look
 refine wR (fun m σ H2 => ∃ x y : Int, σ = [some (.int tp), some (.int bt), some (.int x), some (.int y)] /\ H2 = H /\ 0 <= x /\ 0 <= y /\ m = y.toNat /\ Int.gcd x y = Int.gcd tp bt) bt.toNat ⟨_, _, rfl, rfl, by split <;> omega, by omega, rfl, tU tp bt⟩ ?_
 rintro m σ H2 ⟨x, y, rfl, rfl, x0, y0, rfl, hg⟩
 f_look
 refine ah (fun h => ?_) (fun h => ?_)
 ·subst h
  have e : x = ((Int.gcd tp bt : Nat) : Int) := by rw [<- hg, Int.gcd_zero_right]; omega
  have g0 := My.gcd_pos (a := tp) hb
  have g1 : ((Int.gcd tp bt : Nat) : Int) <= bt := My.gcd_le hb
  have gm : mC ((Int.gcd tp bt : Nat) : Int) := (My.Bd.of_le hB (by omega) g1).mono (by decide)
  subst e
  f_look
  rename_i p H3 n3 s3 e3
  exact q _ _ s3 e3
 ·have yp : 0 < y := by omega
  f_look
  have e0 := Int.emod_nonneg x (show y ≠ 0 by omega)
  have e1 := Int.emod_lt_of_pos x yp
  exact ⟨_, _, rfl, (x % y).toNat, by omega, _, _, rfl, rfl, y0, e0, rfl, by rw [My.gcd_step, hg]⟩
local macro_rules | `(tactic| kt_join) => `(tactic| repeat (first | exact Gt.here | apply Gt.next))
local macro_rules | `(tactic| acc_open) => `(tactic| repeat (first | exact pI.here | apply pI.next))
local macro_rules | `(tactic| dl_open) => do
  let a0 ← MyLaw.mkAlts "eRk.fz cRk.own cRk.sfz cRk.vw"
  `(tactic| first | $a0:tactic)
local macro_rules | `(tactic| regbin_open) => do
  let a0 ← MyLaw.mkAlts "cAR czF cyQ ce_varW"
  `(tactic| first | $a0:tactic)
local macro_rules | `(tactic| kpc_close) => do
  let a0 ← MyLaw.mkAlts "rDR rED rDX rBM rCs rBO rCu raa_wd rEI rEm rDZ rEA rEt rBa rBY rEc ryN rCH rAe rEz rwV rtT rt_B rCo rBv rEy rBI rAu rCq rBs rBZ ryP ra_ints rBQ ryK rBc rBr rEa rEs rzS ryg ryL ryT rya rCf rs_par rBE rxn rxV rvc ri_rng2 rgU rgA rrl rAf rwD rBi htQ cas_sfz hyz caa_sfz jxw jEx"
  let a1 ← MyLaw.mkAlts "jsto2"
  let a2 ← MyLaw.mkAlts "but bdA bi_enum bDT be_bm0 kBU be_isiTL"
  `(tactic| first | regbin_open | $a0:tactic | ((with_reducible apply g_sl); (focus ((kt_join); done)); (focus ((acc_open); done)); (focus ((acc_open); done))) | $a1:tactic | ((with_reducible apply par2); (focus ((acc_open); done)); (focus ((acc_open); done))) | ((with_reducible apply CK); (focus (exact Nat.le_of_ble_eq_true rfl))) | $a2:tactic)
local macro_rules | `(tactic| acc_openK) => `(tactic| first | kpc_close | (with_reducible refine CC ?_))
local macro_rules | `(tactic| obj_index2) => do
  let a0 ← MyLaw.mkAlts "rzw iEF iro_IB rCU ryZ rDS rzY ryU rza rAn rro_EqB rro_NeB rro_isB rro_notB rzB rru_toI rzu rwE rxA rxD bwO bvU bro_notNT bro_notNF nbC ndF guo grD owU oxl kt_efzT kt_efzF gwI gum gzI gEh"
  let a1 ← MyLaw.mkAlts "rty_str"
  let a2 ← MyLaw.mkAlts "hrm_clear hrm_reverse bzK be_callD0"
  `(tactic| first | ((with_reducible apply e_repLit); (focus decide); (focus decide)) | $a0:tactic | ((with_reducible apply xi); (focus (dl_open))) | $a1:tactic | ((with_reducible apply sw); (focus ((kt_join); done)); (focus (o_src)); (focus ((acc_open); done))) | $a2:tactic)
local macro_rules | `(tactic| o_src) => `(tactic| first | (exact Nat.le_of_ble_eq_true rfl) | omega | (simp; omega))
local macro_rules | `(tactic| kd_mark) => `(tactic| repeat (first | acc_openK | obj_index2 | kxi_slice))
local macro_rules | `(tactic| sl_open) => `(tactic| (kd_mark; assumption))
local macro_rules | `(tactic| kxi_slice) => `(tactic| fail)
local macro_rules | `(tactic| kby_none) => `(tactic| repeat (first | kpc_close | obj_index2 | kxi_slice))
noncomputable def N2 (a b : Int) : Tr := .tup [.int a, .int b]
inductive cD : Tr -> Prop
 | non : cD .non
 | bl {b : Bool} : cD (.bl b)
 | int {i : Int} : cD (.int i)
 | str {z : Str} : z.length <= 1000 -> cD (.str z)
 | tup {ts : List Tr} : ts.length <= 1000 -> (∀ t ∈ ts, cD t) -> cD (.tup ts)
 | lst {ts : List Tr} : ts.length <= 1000 -> (∀ t ∈ ts, cD t) -> cD (.lst ts)
 | dct : cD (.dct [])
noncomputable def yM : Tr -> Bool
 | .int _ => true
 | _ => false
noncomputable def oX : SpT := fun _ as Φ _ => ∃ t, as = [.fz t] /\ cD t /\ Φ (.fz (.bl (yM t)))
theorem fj (T : Txt K mg t) : FO P w base T.q_zae 1 (bw K oX) := by
 refine T.q_zae.F.ok oq (aH (fun B as Φ Ψ h => by obtain ⟨_, rfl, _⟩ := h; rfl)) (fun cdv A outer s H vs Q E hr h => ?_)
 obtain ⟨B, as, Φ, Ψ, rfl, hS, hx, go⟩ := aA h
 obtain ⟨t0, rfl, hp, φ⟩ := hS
 refine ⟨_, (aZ (aj (bv (be rK rfl rfl T.z_isinstance T.z_int iF (pv 0)) (bq (qk (be ix rfl rfl T.z_isinstance T.z_bool jA (pv 0))))))), go _ _ (bO (τ := [.fz _]) rfl ?_)⟩
 cases hp <;> (kd_mark; exact φ)
noncomputable def Az : SpT := fun _ as Φ _ => ∃ a b : Int, as = [.fz (.int a), .fz (.int b)] /\ Φ (.fz (.int ((Int.gcd a b : Nat) : Int)))
theorem kv (T : Txt K mg t) : FO P w base T.q_zas 1 (bw K Az) := by
 refine (kY (P := P) (w := w) (base := base) T).imp fun vs H Q E h => ?_
 obtain ⟨B, as, Φ, Ψ, rfl, rfl, bk, la, ⟨a, b, rfl, φ⟩, q, _⟩ := h
 obtain ⟨v, w', rfl, iv, iw⟩ := uX la
 cases iv
 cases iw
 exact ⟨a, b, rfl, q (.int _) _ _ (.fz (.int _)) (Up.refl bk.i) .int φ⟩
noncomputable def lR : Tr -> Bool
 | .tup [.int a, .int b] => decide (1 <= b) && decide (((Int.gcd a b : Nat) : Int) = 1)
 | _ => false
noncomputable def bL (f : Tr -> Bool) : SpT := fun _ as Φ _ => ∃ t, as = [.fz t] /\ cD t /\ Φ (.fz (.bl (f t)))
variable {ts : List Tr}
theorem oG (h : lR (.tup ts) = true) : ∃ a b, ts = [.int a, .int b] /\ 1 <= b /\ Int.gcd a b = 1 := by
 match ts, h with
 | [.int a, .int b], h =>
  have h : (decide (1 <= b) && decide (((Int.gcd a b : Nat) : Int) = 1)) = true := h
  rw [Bool.and_eq_true, decide_eq_true_eq, decide_eq_true_eq] at h
  exact ⟨a, b, rfl, h.1, by omega⟩
theorem kQ (T : Txt K mg t) : FO P w base T.q_zaz 2 (bw K (bL lR)) := by
 have G_zae := @fj P w K mg base t T
 have G_zas := @kv P w K mg base t T
 refine T.q_zaz.F.ok lX (aH (fun B as Φ Ψ h => by obtain ⟨_, rfl, _⟩ := h; rfl)) (fun cdv A outer s H vs Q E hr h => ?_)
 obtain ⟨B, as, Φ, Ψ, rfl, hS, hx, go⟩ := aA h
 obtain ⟨t0, rfl, hp, φ⟩ := hS
 refine ⟨_, (aV (aG (PW.pt (bf (aC (aI (be aW rfl rfl T.z_isinstance T.z_tuple aU (pv 0)))) (bh (ao dH (am aw rfl T.z_len PySem.boot_len (ac (pv 0) aq)) au (ay _))))) (aZ (aj bc)) ar)
 (aV (aG (PW.pt (bf (aC (aI (bF G_zae hr T.q_zae (ac (af bn (pv 0) au (fun _ _ => rfl)) aq)))) (bh (aC (aI (bF G_zae hr T.q_zae (ac (af bn (pv 0) au (fun _ _ => rfl)) aq))))))) (aZ (aj bc)) ar)
 (aZ (aj (bv (aK rh (af bn (pv 0) au (fun _ _ => rfl)) au (ay _)) (bq (aK bI (bF G_zas hr T.q_zas (ac (af bn (pv 0) au (fun _ _ => rfl)) (ac (af bn (pv 0) au (fun _ _ => rfl)) aq))) au (ay _)))))))), go _ _ (bO (τ := [.fz _]) rfl ?_)⟩
 cases hp with
 | tup hl hq =>
  rename_i ts
  match ts, hl, hq, φ with
  | [], hl, hq, φ =>
   kd_mark
   refine ah (fun y => absurd y (show ¬ ((0 : Nat) : Int) = 2 by decide)) (fun _ => ?_)
   sl_open
  | [a], hl, hq, φ =>
   kd_mark
   refine ah (fun y => absurd y (show ¬ ((1 : Nat) : Int) = 2 by decide)) (fun _ => ?_)
   kd_mark
   have φ : Φ (.fz (.bl (lR (.tup [a])))) := φ
   rw [show lR (.tup [a]) = false by cases a <;> rfl] at φ
   exact φ
  | a :: b :: c :: r, hl, hq, φ =>
   kd_mark
   refine ah (fun y => absurd y (by show ¬ (((a :: b :: c :: r).length : Nat) : Int) = 2; simp only [List.length_cons]; omega)) (fun _ => ?_)
   kd_mark
   have φ : Φ (.fz (.bl (lR (.tup (a :: b :: c :: r))))) := φ
   rw [show lR (.tup (a :: b :: c :: r)) = false by cases a <;> cases b <;> rfl] at φ
   exact φ
  | [a, b], hl, hq, φ =>
   have pa := hq a List.mem_cons_self
   have pb := hq b (List.mem_cons_of_mem _ List.mem_cons_self)
   kd_mark
   refine ah (fun _ => ?_) (fun y => absurd rfl y)
   kd_mark
   intro _ _
   refine ⟨a, rfl, pa, ?_⟩
   kd_mark
   cases pa with
   | @int i =>
    refine gU ?_
    kd_mark
    intro _ _
    refine ⟨b, rfl, pb, ?_⟩
    kd_mark
    cases pb with
    | @int j =>
     refine gU ?_
     have φ : Φ (.fz (.bl (decide (1 <= j) && decide (((Int.gcd i j : Nat) : Int) = 1)))) := φ
     kd_mark
     refine ah (fun h1 => ?_) (fun h1 => ?_)
     ·rw [decide_eq_true (show 1 <= j from h1), Bool.true_and] at φ
      kd_mark
      intro _ _
      refine ⟨i, j, rfl, ?_⟩
      sl_open
     ·rw [decide_eq_false (show ¬ 1 <= j from h1), Bool.false_and] at φ
      sl_open
    | _ => refine gA ?_; sl_open
   | _ => refine gA ?_; sl_open
 | _ => sl_open
noncomputable def aR : Tr -> Bool
 | .tup [.int a, .int b] => (decide (1 <= b) && decide (((Int.gcd a b : Nat) : Int) = 1)) && (decide ((if a < 0 then -a else a) < 1000000000000000000) && decide (b <= 60))
 | _ => false
theorem p18 : (10 : Int) ^ (18 : Int).toNat = 1000000000000000000 := by decide
theorem rc {t : Tr} (h : lR t = false) : aR t = false := by
 match t, h with
 | .tup [.int a, .int b], h =>
  have h : (decide (1 <= b) && decide (((Int.gcd a b : Nat) : Int) = 1)) = false := h
  show ((decide (1 <= b) && decide (((Int.gcd a b : Nat) : Int) = 1)) && _) = false
  rw [h, Bool.false_and]
 | .tup [], _ => rfl
 | .tup [a], _ => cases a <;> rfl
 | .tup (a :: b :: c :: r), _ => cases a <;> cases b <;> rfl
 | .tup [.non, _], _ => rfl
 | .tup [.bl _, _], _ => rfl
 | .tup [.str _, _], _ => rfl
 | .tup [.tup _, _], _ => rfl
 | .tup [.lst _, _], _ => rfl
 | .tup [.dct _, _], _ => rfl
 | .tup [.ty _, _], _ => rfl
 | .tup [.int _, .non], _ => rfl
 | .tup [.int _, .bl _], _ => rfl
 | .tup [.int _, .str _], _ => rfl
 | .tup [.int _, .tup _], _ => rfl
 | .tup [.int _, .lst _], _ => rfl
 | .tup [.int _, .dct _], _ => rfl
 | .tup [.int _, .ty _], _ => rfl
 | .non, _ => rfl
 | .bl _, _ => rfl
 | .int _, _ => rfl
 | .str _, _ => rfl
 | .lst _, _ => rfl
 | .dct _, _ => rfl
 | .ty _, _ => rfl
theorem nF (T : Txt K mg t) : FO P w base T.q_zat 3 (bw K (bL aR)) := by
 have G_zaz := @kQ P w K mg base t T
 refine T.q_zat.F.ok pj (aH (fun B as Φ Ψ h => by obtain ⟨_, rfl, _⟩ := h; rfl)) (fun cdv A outer s H vs Q E hr h => ?_)
 obtain ⟨B, as, Φ, Ψ, rfl, hS, hx, go⟩ := aA h
 obtain ⟨t0, rfl, hp, φ⟩ := hS
 refine ⟨_, (aZ (aj (bv (bF G_zaz hr T.q_zaz (ac (pv 0) aq)) (bv (aK vA (am eZ rfl T.z_abs iT (ac (af bn (pv 0) au (fun _ _ => rfl)) aq)) (al eM au au) (ay _)) (bq (aK bJ (af bn (pv 0) au (fun _ _ => rfl)) (aY (v := .int 60) rfl T.g_MOST_BOTTOM ⟨_, rfl⟩) (ay _))))))), go _ _ (bO (τ := [.fz _]) rfl ?_)⟩
 kd_mark
 intro _ _
 refine ⟨t0, rfl, hp, ?_⟩
 kd_mark
 refine aS (fun hn => ?_) (fun hn => ?_)
 ·cases hp with
  | tup hl hq =>
   rename_i ts
   obtain ⟨a, b, rfl, h1, h2⟩ := oG hn
   have φ : Φ (.fz (.bl ((decide (1 <= b) && decide (((Int.gcd a b : Nat) : Int) = 1)) && (decide ((if a < 0 then -a else a) < 1000000000000000000) && decide (b <= 60))))) := φ
   rw [decide_eq_true h1, decide_eq_true (show ((Int.gcd a b : Nat) : Int) = 1 by rw [h2]; rfl), Bool.true_and, Bool.true_and] at φ
   kd_mark
   rw [p18]
   refine ah (fun h3 => ?_) (fun h3 => ?_)
   ·rw [decide_eq_true h3, Bool.true_and] at φ
    sl_open
   ·rw [decide_eq_false h3, Bool.false_and] at φ
    sl_open
  | _ => cases hn
 ·rw [rc hn] at φ
  sl_open
theorem eh {t : Tr} (h : aR t = true) : ∃ a b, t = N2 a b /\ 1 <= b /\ Int.gcd a b = 1 /\ -1000000000000000000 < a /\ a < 1000000000000000000 /\ b <= 60 := by
 have hn : lR t = true := by
  cases e : lR t with
  | true => rfl
  | false => rw [rc e] at h; cases h
 have : ∃ ts, t = .tup ts := by
  cases t with
  | tup ts => exact ⟨ts, rfl⟩
  | _ => cases hn
 obtain ⟨ts, rfl⟩ := this
 obtain ⟨a, b, rfl, h1, h2⟩ := oG hn
 have h : ((decide (1 <= b) && decide (((Int.gcd a b : Nat) : Int) = 1)) && (decide ((if a < 0 then -a else a) < 1000000000000000000) && decide (b <= 60))) = true := h
 simp only [Bool.and_eq_true, decide_eq_true_eq] at h
 obtain ⟨_, h3, h4⟩ := h
 refine ⟨a, b, rfl, h1, h2, ?_, ?_, h4⟩ <;> (split at h3 <;> omega)
noncomputable def fG : Tr -> Tr -> Bool
 | .tup [.int a, .int b], .tup [.int c, .int d] => decide (a * d < c * b)
 | _, _ => false
noncomputable def uh : SpT := fun _ as Φ _ => ∃ a b c d : Int, as = [.fz (N2 a b), .fz (N2 c d)] /\ aR (N2 a b) = true /\ aR (N2 c d) = true /\ Φ (.fz (.bl (decide (a * d < c * b))))
theorem lh (T : Txt K mg t) : FO P w base T.q_zal 1 (bw K uh) := by
 refine T.q_zal.F.ok uw (aH (fun B as Φ Ψ h => by obtain ⟨_, _, _, _, rfl, _⟩ := h; rfl)) (fun cdv A outer s H vs Q E hr h => ?_)
 obtain ⟨B, as, Φ, Ψ, rfl, hS, hx, go⟩ := aA h
 obtain ⟨a, b, c, d, rfl, h1, h2, φ⟩ := hS
 obtain ⟨a', b', e1, b1, _, a1, a2, b2⟩ := eh h1
 obtain ⟨c', d', e2, d1, _, c1, c2, d2⟩ := eh h2
 cases e1
 cases e2
 have ma : mC a := (show My.Bd 60 a by unfold My.Bd; omega).mono (by decide)
 have mc : mC c := (show My.Bd 60 c by unfold My.Bd; omega).mono (by decide)
 have mb : mC b := tq (by omega) (by omega)
 have md : mC d := tq (by omega) (by omega)
 unfold N2 at *
 refine ⟨_, (aZ (aj (aK vA (al bA (af bn (pv 0) au (fun _ _ => rfl)) (af bn (pv 1) au (fun _ _ => rfl))) (al bA (af bn (pv 1) au (fun _ _ => rfl)) (af bn (pv 0) au (fun _ _ => rfl))) (ay _)))), go _ _ (bO (τ := [.fz _, .fz _]) rfl ?_)⟩
 sl_open
noncomputable def jf (lo hi : Tr) : Bool := aR lo && (aR hi && fG lo hi)
noncomputable def uT : SpT := fun _ as Φ _ => ∃ lo hi, as = [.fz lo, .fz hi] /\ cD lo /\ cD hi /\ Φ (.fz (.bl (jf lo hi)))
theorem iD (T : Txt K mg t) : FO P w base T.q_zam 4 (bw K uT) := by
 have G_zat := @nF P w K mg base t T
 have G_zal := @lh P w K mg base t T
 refine T.q_zam.F.ok nD (aH (fun B as Φ Ψ h => by obtain ⟨_, _, rfl, _⟩ := h; rfl)) (fun cdv A outer s H vs Q E hr h => ?_)
 obtain ⟨B, as, Φ, Ψ, rfl, hS, hx, go⟩ := aA h
 obtain ⟨lo, hi, rfl, hl, hh, φ⟩ := hS
 refine ⟨_, (aZ (aj (bv (bF G_zat hr T.q_zat (ac (pv 0) aq)) (bv (bF G_zat hr T.q_zat (ac (pv 1) aq)) (bq (bF G_zal hr T.q_zal (ac (pv 0) (ac (pv 1) aq)))))))), go _ _ (bO (τ := [.fz _, .fz _]) rfl ?_)⟩
 unfold jf at φ
 kd_mark
 intro _ _
 refine ⟨lo, rfl, hl, ?_⟩
 kd_mark
 refine aS (fun h1 => ?_) (fun h1 => ?_)
 ·rw [h1, Bool.true_and] at φ
  kd_mark
  intro _ _
  refine ⟨hi, rfl, hh, ?_⟩
  kd_mark
  refine aS (fun h2 => ?_) (fun h2 => ?_)
  ·rw [h2, Bool.true_and] at φ
   obtain ⟨a, b, rfl, _⟩ := eh h1
   obtain ⟨c, d, rfl, _⟩ := eh h2
   kd_mark
   intro _ _
   refine ⟨a, b, c, d, rfl, h1, h2, ?_⟩
   sl_open
  ·rw [h2, Bool.false_and] at φ
   sl_open
 ·rw [h1, Bool.false_and] at φ
  sl_open
noncomputable def pieceV : Tr -> Bool
 | .tup [a, b] => jf a b
 | _ => false
theorem nu (T : Txt K mg t) : FO P w base T.q_za1 5 (bw K (bL pieceV)) := by
 have G_zam := @iD P w K mg base t T
 refine T.q_za1.F.ok nU (aH (fun B as Φ Ψ h => by obtain ⟨_, rfl, _⟩ := h; rfl)) (fun cdv A outer s H vs Q E hr h => ?_)
 obtain ⟨B, as, Φ, Ψ, rfl, hS, hx, go⟩ := aA h
 obtain ⟨t0, rfl, hp, φ⟩ := hS
 refine ⟨_, (aZ (aj (bv (be aW rfl rfl T.z_isinstance T.z_tuple aU (pv 0)) (bv (aK bI (am aw rfl T.z_len PySem.boot_len (ac (pv 0) aq)) au (ay _)) (bq (bF G_zam hr T.q_zam (ac (af bn (pv 0) au (fun _ _ => rfl)) (ac (af bn (pv 0) au (fun _ _ => rfl)) aq)))))))), go _ _ (bO (τ := [.fz _]) rfl ?_)⟩
 cases hp with
 | tup hl hq =>
  rename_i ts
  match ts, hl, hq, φ with
  | [], hl, hq, φ =>
   kd_mark
   refine ah (fun y => absurd y (show ¬ ((0 : Nat) : Int) = 2 by decide)) (fun _ => ?_)
   sl_open
  | [a], hl, hq, φ =>
   kd_mark
   refine ah (fun y => absurd y (show ¬ ((1 : Nat) : Int) = 2 by decide)) (fun _ => ?_)
   sl_open
  | a :: b :: c :: r, hl, hq, φ =>
   kd_mark
   refine ah (fun y => absurd y (by show ¬ (((a :: b :: c :: r).length : Nat) : Int) = 2; simp only [List.length_cons]; omega)) (fun _ => ?_)
   sl_open
  | [a, b], hl, hq, φ =>
   have pa := hq a List.mem_cons_self
   have pb := hq b (List.mem_cons_of_mem _ List.mem_cons_self)
   kd_mark
   refine ah (fun _ => ?_) (fun y => absurd rfl y)
   kd_mark
   intro _ _
   refine ⟨a, b, rfl, pa, pb, ?_⟩
   sl_open
 | _ => sl_open
noncomputable def gi (c : Nat) : Bool := decide (97 <= c /\ c <= 122)
theorem jU (c : Nat) : (!(Builtin.Str.occurrences ("abcdefghijklmnopqrstuvwxyz" : Str) ⟨#[c]⟩ 0 ("abcdefghijklmnopqrstuvwxyz" : Str).length 1).isEmpty) = gi c := by
 rw [PySem.StrLaws.found_one]
 have e : ("abcdefghijklmnopqrstuvwxyz" : Str).cps.toList = List.range' 97 26 := by decide
 rw [e, Bool.eq_iff_iff, decide_eq_true_eq]
 unfold gi
 rw [decide_eq_true_eq, List.mem_range'_1]
 omega
noncomputable def fD (z : Str) : Bool := decide (1 <= z.length) && (decide (z.length <= 8) && z.cps.toList.all gi)
noncomputable def wordV : Tr -> Bool
 | .str z => fD z
 | _ => false
theorem yF {k : Int} {m : Nat} (e : k = (m : Int)) : decide ((n : Int) <= k) = decide (n <= m) := by rw [e, Bool.eq_iff_iff, decide_eq_true_eq, decide_eq_true_eq]; omega
variable {os : List Tr}
theorem gH {xs : List α} {f : α -> Bool} (hl : os.length = xs.length) (h : ∀ (i : Nat) (o : Tr), os[i]? = some o -> ∃ x, xs[i]? = some x /\ o = Tr.bl (f x)) : os = (xs.map f).map Tr.bl := by
 apply List.ext_getElem?
 intro i
 rw [List.getElem?_map, List.getElem?_map]
 cases e : os[i]? with
 | none =>
  have : xs[i]? = none := by rw [List.getElem?_eq_none_iff] at e ⊢; omega
  rw [this]; rfl
 | some o =>
  obtain ⟨x, ex, rfl⟩ := h i o e
  rw [ex]; rfl
theorem gh (T : Txt K mg t) : FO P w base T.q_zaa 1 (bw K (bL wordV)) := by
  refine T.q_zaa.F.ok ql (aH (fun B as Φ Ψ h => by obtain ⟨_, rfl, _⟩ := h; rfl)) (fun cdv A outer s H vs Q E hr h => ?_)
  obtain ⟨B, as, Φ, Ψ, rfl, hS, hx, go⟩ := aA h
  obtain ⟨t0, rfl, hp, φ⟩ := hS
  refine ⟨_, (aV (aG (PW.pt (bf (aC (aI (be jv rfl rfl T.z_isinstance T.z_str mI (pv 0)))) (bh (aC (cn bJ bJ au (am iA rfl T.z_len PySem.boot_len (ac (pv 0) aq)) (aY (v := .int 8) rfl T.g_LONGEST_WORD ⟨_, rfl⟩)))))) (aZ (aj bc)) ar)
  (aZ (aj (am (dz rfl) rfl T.z_all fQ (ac (dX rfl (bi (fr := []) (osc := ae gj) (N := ["thing"]) rfl rfl (by decide +kernel)) (uK (pv 0)) (fun _ _ _ _ _ => (aK sy (pv 0) (aY (v := .str "abcdefghijklmnopqrstuvwxyz") rfl T.g_LETTERS ⟨_, rfl⟩) rfl))) aq))))), go _ _ (bO (τ := [.fz _]) rfl ?_)⟩
  cases hp with
  | @str z hz =>
    have φ : Φ (.fz (.bl (decide (1 <= z.length) && (decide (z.length <= 8) && z.cps.toList.all gi)))) := φ
    kd_mark
    refine qP (gq (by omega)) ?_
    kd_mark
    refine ah (fun h1 => ?_) (fun h1 => ?_)
    rotate_left
    · kd_mark
      rw [decide_eq_false (show ¬ 1 <= z.length by omega), Bool.false_and] at φ
      exact φ
    rw [decide_eq_true (show 1 <= z.length by omega), Bool.true_and] at φ
    kd_mark
    refine ah (fun h2 => ?_) (fun h2 => ?_)
    rotate_left
    · kd_mark
      rw [decide_eq_false (show ¬ z.length <= 8 by omega), Bool.false_and] at φ
      exact φ
    rw [decide_eq_true (show z.length <= 8 by omega), Bool.true_and] at φ
    have ls : (dG z).length = z.cps.toList.length := by unfold dG; rw [List.length_map]
    have lz : z.cps.toList.length <= 8 := by have : z.cps.toList.length = z.length := by simp [Str.length]
                                             omega
    kd_mark
    refine ij (xG ?_)
    kd_mark
    refine ⟨z, rfl, [], .nil, by rw [ls]; omega, fun i o => ∃ c, z.cps.toList[i]? = some c /\ o = .bl (gi c), fun i t ht => ?_, fun os hl ho => ?_⟩
    · unfold dG at ht
      rw [List.getElem?_map] at ht
      cases e : z.cps.toList[i]? with
      | none => rw [e] at ht; cases ht
      | some c =>
        rw [e] at ht
        cases ht
        kd_mark
        refine yA ?_
        rw [jU]
        kd_mark
        exact ⟨c, e, rfl⟩
    · rw [gH (xs := z.cps.toList) (f := gi) (by rw [hl, ls]) ho]
      kd_mark
      refine gc rfl Rk.fz ?_
      kd_mark
      rw [List.all_map]
      exact φ
  | _ => sl_open
noncomputable def Cc : Tr -> Tr -> Bool
 | .tup [_, y], .tup [x, _] => fG y x
 | _, _ => false
noncomputable def qM : List Tr -> Bool
 | a :: b :: r => Cc a b && qM (b :: r)
 | _ => true
noncomputable def ip : Tr -> Bool
 | .tup ts => (decide (2 <= ts.length) && decide (ts.length <= 4)) && (ts.all pieceV && qM ts)
 | _ => false
noncomputable def uO (ts : List Tr) (i : Nat) : Bool := match ts[i]?, ts[i + 1]? with
 | some a, some b => Cc a b
 | _, _ => false
theorem qW : ∀ (ts : List Tr), qM ts = (List.range (ts.length - 1)).all (uO ts)
 | [] => rfl
 | [a] => rfl
 | a :: b :: r => by
  have ih := qW (b :: r)
  unfold qM
  rw [ih]
  show _ = (List.range (r.length + 1)).all _
  rw [List.range_succ_eq_map, List.all_cons, List.all_map]
  congr 1
theorem jM {t : Tr} (h : pieceV t = true) : ∃ a b c d, t = .tup [N2 a b, N2 c d] /\ aR (N2 a b) = true /\ aR (N2 c d) = true /\ a * d < c * b := by
 have : ∃ x y, t = .tup [x, y] := by
  match t, h with
  | .tup [x, y], _ => exact ⟨x, y, rfl⟩
 obtain ⟨x, y, rfl⟩ := this
 have h : (aR x && (aR y && fG x y)) = true := h
 simp only [Bool.and_eq_true] at h
 obtain ⟨h1, h2, h3⟩ := h
 obtain ⟨a, b, rfl, _⟩ := eh h1
 obtain ⟨c, d, rfl, _⟩ := eh h2
 exact ⟨a, b, c, d, rfl, h1, h2, of_decide_eq_true h3⟩
theorem xt {os : List (Option Tr)} {f : Nat -> Bool} (h : ∀ (i : Nat) (o : Option Tr), os[i]? = some o -> o = some (Tr.bl (f i))) : os.filterMap id = ((List.range os.length).map f).map Tr.bl := by
 have e : os = (List.range os.length).map fun i => some (Tr.bl (f i)) := by
  apply List.ext_getElem?
  intro i
  rw [List.getElem?_map]
  cases q : os[i]? with
  | none =>
   rw [List.getElem?_eq_none_iff] at q
   rw [List.getElem?_eq_none (by rw [List.length_range]; exact q)]
   rfl
  | some o =>
   rw [List.getElem?_range (List.getElem?_eq_some_iff.mp q).1, h i o q]
   rfl
 rw [e, List.filterMap_map, List.length_map, List.length_range, List.map_map]
 induction List.range os.length with
 | nil => rfl
 | cons x r ih => rw [List.filterMap_cons, List.map_cons, <- ih]; rfl
theorem kr (T : Txt K mg t) : FO P w base T.q_za2 6 (bw K (bL ip)) := by
 have G_za1 := @nu P w K mg base t T
 have G_zal := @lh P w K mg base t T
 refine T.q_za2.F.ok kM (aH (fun B as Φ Ψ h => by obtain ⟨_, rfl, _⟩ := h; rfl)) (fun cdv A outer s H vs Q E hr h => ?_)
 obtain ⟨B, as, Φ, Ψ, rfl, hS, hx, go⟩ := aA h
 obtain ⟨t0, rfl, hp, φ⟩ := hS
 refine ⟨_, (aV (aG (PW.pt (bf (aC (aI (be aW rfl rfl T.z_isinstance T.z_tuple aU (pv 0)))) (bh (aC (cn bJ bJ au (am aw rfl T.z_len PySem.boot_len (ac (pv 0) aq)) (aY (v := .int 4) rfl T.g_MOST_PIECES ⟨_, rfl⟩)))))) (aZ (aj bc)) ar)
 (aV (aG (aC (aI (am (dz rfl) rfl T.z_all fQ (ac (dX rfl (bi (fr := []) (osc := ae cP) (N := ["thing"]) rfl rfl (by decide +kernel)) (ck (pv 0)) (fun _ _ _ _ _ => (bF G_za1 hr T.q_za1 (ac (pv 0) aq)))) aq)))) (aZ (aj bc)) ar)
 (aZ (aj (am (dz rfl) rfl T.z_all fQ (ac (yV (fr := []) rfl (oP (osc := ae cP) (N := ["thing"]) rfl rfl (by decide +kernel) (by decide +kernel) (by decide)) (zq rfl T.z_zip (ac (pv 0) (ac (aT gL (pv 0) (aM au) cf) aq))) (fun _ _ _ _ _ => (bF G_zal hr T.q_zal (ac (af (r := iV B.K) bn (pv 0) au (fun _ _ => rfl)) (ac (af (r := iV B.K) bn (pv 1) au (fun _ _ => rfl)) aq))))) aq)))))), go _ _ (bO (τ := [.fz _]) rfl ?_)⟩
 cases hp with
 | @tup ts hl hq =>
  have φ : Φ (.fz (.bl ((decide (2 <= ts.length) && decide (ts.length <= 4)) && (ts.all pieceV && qM ts)))) := φ
  kd_mark
  refine ah (fun h1 => ?_) (fun h1 => ?_)
  rotate_left
  ·kd_mark
   rw [decide_eq_false (show ¬ 2 <= ts.length by omega)] at φ
   exact φ
  rw [decide_eq_true (show 2 <= ts.length by omega), Bool.true_and] at φ
  kd_mark
  refine ah (fun h2 => ?_) (fun h2 => ?_)
  rotate_left
  ·kd_mark
   rw [decide_eq_false (show ¬ ts.length <= 4 by omega)] at φ
   exact φ
  rw [decide_eq_true (show ts.length <= 4 by omega), Bool.true_and] at φ
  kd_mark
  refine ij (dA rfl ?_)
  kd_mark
  refine ⟨[], .nil, by omega, fun i o => ∃ x, ts[i]? = some x /\ o = .bl (pieceV x), fun i t ht => ?_, fun os hl2 ho => ?_⟩
  ·kd_mark
   intro _ _
   refine ⟨t, rfl, hq t (List.mem_of_getElem? ht), ?_⟩
   kd_mark
   exact ⟨t, ht, rfl⟩
  rw [gH (xs := ts) (f := pieceV) hl2 ho]
  kd_mark
  refine gc rfl Rk.fz ?_
  rw [List.all_map]
  have ea : (ts.all ((fun b => b) ∘ pieceV)) = ts.all pieceV := rfl
  rw [ea]
  kd_mark
  refine aS (fun h3 => ?_) (fun h3 => ?_)
  rotate_left
  ·kd_mark
   rw [h3, Bool.false_and] at φ
   exact φ
  rw [h3, Bool.true_and, qW] at φ
  kd_mark
  refine BG rfl (BJ rfl ?_)
  kd_mark
  refine qh rfl Rk.fz (by rw [show HT.sIx ts.length 0 (some 1) = min 1 ts.length by unfold HT.sIx; simp]; omega) ?_
  have ec : eQ ts (some 1) none = ts.drop 1 := by
   unfold eQ
   have e1 : HT.sIx ts.length ts.length none = ts.length := rfl
   have e2 : HT.sIx ts.length 0 (some 1) = 1 := by unfold HT.sIx; simp; omega
   rw [e1, e2]
   rw [List.take_of_length_le (by rw [List.length_drop]; omega)]
  rw [ec]
  kd_mark
  have zl : (fC ts (ts.drop 1)).length = ts.length - 1 := by rw [iP, List.length_drop]; omega
  refine ⟨_, ts, _, ts.drop 1, rfl, rfl, [], .nil, by rw [zl]; omega, fun i o => o = some (.bl (uO ts i)), fun i t ht => ?_, fun os hl2 ho => ?_⟩
  ·obtain ⟨x, y, ex, ey, rfl⟩ := kg _ _ i t ht
   rw [List.getElem?_drop, Nat.add_comm] at ey
   obtain ⟨a, b, c, d, rfl, x1, x2, x3⟩ := jM (List.all_eq_true.mp h3 x (List.mem_of_getElem? ex))
   obtain ⟨a', b', c', d', rfl, y1, y2, y3⟩ := jM (List.all_eq_true.mp h3 y (List.mem_of_getElem? ey))
   have eg : uO ts i = decide (c * b' < a' * d) := by unfold uO; rw [ex, ey]; rfl
   refine ⟨_, _, rfl, ?_⟩
   kd_mark
   intro _ _
   refine ⟨c, d, a', b', rfl, x2, y1, ?_⟩
   kd_mark
   show some (Tr.bl _) = some (Tr.bl (uO ts i))
   rw [eg]
  ·rw [xt ho, hl2, zl]
   kd_mark
   refine gc rfl Rk.fz ?_
   rw [List.all_map]
   sl_open
 | _ => sl_open
variable {ws : List Str}
theorem li : (cY ws).length = ws.length ↔ ws.Nodup := by
 have key : ∀ (ws acc : List Str), acc.Nodup -> ((ws.foldl fq acc).length = acc.length + ws.length ↔ (acc ++ ws).Nodup) := by
  intro ws
  induction ws with
  | nil => intro acc h; simpa using h
  | cons z r ih =>
   intro acc h
   rw [List.foldl_cons]
   by_cases hz : z ∈ acc
   ·have e : fq acc z = acc := by unfold fq; rw [if_pos hz]
    rw [e]
    have le : (r.foldl fq acc).length <= acc.length + r.length := by
     have g : ∀ (ws acc : List Str), (ws.foldl fq acc).length <= acc.length + ws.length := by
      intro ws
      induction ws with
      | nil => intro acc; exact Nat.le_refl _
      | cons z r ih =>
       intro acc
       have h1 := ih (fq acc z)
       have h2 : (fq acc z).length <= acc.length + 1 := by rw [jI]; split <;> omega
       rw [List.foldl_cons, List.length_cons]
       omega
     exact g r acc
    constructor
    ·intro q; rw [List.length_cons] at q; omega
    ·intro q
     rw [List.nodup_append] at q
     exact absurd rfl (q.2.2 z hz z List.mem_cons_self)
   ·have e : fq acc z = acc ++ [z] := by unfold fq; rw [if_neg hz]
    have h2 : (acc ++ [z]).Nodup := by
     rw [List.nodup_append]
     refine ⟨h, by simp, fun a ha b hb => ?_⟩
     rw [List.mem_singleton.mp hb]
     exact fun q => hz (q ▸ ha)
    rw [e, List.length_cons, show acc.length + (r.length + 1) = (acc ++ [z]).length + r.length by simp; omega, ih _ h2, List.append_assoc]
    rfl
 have := key ws [] List.nodup_nil
 simpa [cY] using this
noncomputable def sS : SpT := fun _ as Φ _ => ∃ ws : List Str, as = [.fz (.tup (ws.map Tr.str))] /\ ws.length <= 1000 /\ Φ (.fz (.bl (decide ws.Nodup)))
theorem jG (T : Txt K mg t) : FO P w base T.q_za0 1 (bw K sS) := by
 refine T.q_za0.F.ok kH (aH (fun B as Φ Ψ h => by obtain ⟨_, rfl, _⟩ := h; rfl)) (fun cdv A outer s H vs Q E hr h => ?_)
 obtain ⟨B, as, Φ, Ψ, rfl, hS, hx, go⟩ := aA h
 obtain ⟨ws, rfl, hl, φ⟩ := hS
 refine ⟨_, (aZ (aj (aK bI (am lv rfl T.z_len PySem.boot_len (ac (bB (lD rfl) rfl T.z_set tX (ac (pv 0) aq)) aq)) (am aw rfl T.z_len PySem.boot_len (ac (pv 0) aq)) (ay _)))), go _ _ (bO (τ := [.fz _]) rfl ?_)⟩
 refine ya (zw (nQ rfl ?_))
 kd_mark
 refine ⟨ws, rfl, hl, ?_⟩
 kd_mark
 have e : decide (((cY ws).length : Int) = (((ws.map Tr.str).length : Nat) : Int)) = decide ws.Nodup := by
  rw [Bool.eq_iff_iff, decide_eq_true_eq, decide_eq_true_eq, List.length_map, <- li]
  omega
 rw [e]
 exact φ
noncomputable def cO : List Tr -> List Str
 | .str z :: r => z :: cO r
 | _ :: r => cO r
 | [] => []
theorem gY : ∀ {ts : List Tr}, ts.all wordV = true -> ts = (cO ts).map Tr.str
 | [], _ => rfl
 | t :: r, h => by
  rw [List.all_cons, Bool.and_eq_true] at h
  have ih := gY h.2
  cases t with
  | str z => show Tr.str z :: r = Tr.str z :: (cO r).map Tr.str; rw [<- ih]
  | _ => cases h.1
noncomputable def gt : Tr -> Bool
 | .tup ts => (decide (1 <= ts.length) && decide (ts.length <= 60)) && (ts.all wordV && decide (cO ts).Nodup)
 | _ => false
theorem kJ (T : Txt K mg t) : FO P w base T.q_za3 2 (bw K (bL gt)) := by
 have G_zaa := @gh P w K mg base t T
 have G_za0 := @jG P w K mg base t T
 refine T.q_za3.F.ok mJ (aH (fun B as Φ Ψ h => by obtain ⟨_, rfl, _⟩ := h; rfl)) (fun cdv A outer s H vs Q E hr h => ?_)
 obtain ⟨B, as, Φ, Ψ, rfl, hS, hx, go⟩ := aA h
 obtain ⟨t0, rfl, hp, φ⟩ := hS
 refine ⟨_, (aV (aG (PW.pt (bf (aC (aI (be aW rfl rfl T.z_isinstance T.z_tuple aU (pv 0)))) (bh (aC (cn bJ bJ au (am aw rfl T.z_len PySem.boot_len (ac (pv 0) aq)) (aY (v := .int 60) rfl T.g_MOST_WORDS ⟨_, rfl⟩)))))) (aZ (aj bc)) ar)
 (aZ (aj (bv (am (dz rfl) rfl T.z_all fQ (ac (dX rfl (bi (fr := []) (osc := ae eF) (N := ["thing"]) rfl rfl (by decide +kernel)) (ck (pv 0)) (fun _ _ _ _ _ => (bF G_zaa hr T.q_zaa (ac (pv 0) aq)))) aq)) (bq (bF G_za0 hr T.q_za0 (ac (pv 0) aq))))))), go _ _ (bO (τ := [.fz _]) rfl ?_)⟩
 cases hp with
 | @tup ts hl hq =>
  have φ : Φ (.fz (.bl ((decide (1 <= ts.length) && decide (ts.length <= 60)) && (ts.all wordV && decide (cO ts).Nodup)))) := φ
  kd_mark
  refine ah (fun h1 => ?_) (fun h1 => ?_)
  rotate_left
  ·kd_mark
   rw [decide_eq_false (show ¬ 1 <= ts.length by omega)] at φ
   exact φ
  rw [decide_eq_true (show 1 <= ts.length by omega), Bool.true_and] at φ
  kd_mark
  refine ah (fun h2 => ?_) (fun h2 => ?_)
  rotate_left
  ·kd_mark
   rw [decide_eq_false (show ¬ ts.length <= 60 by omega)] at φ
   exact φ
  rw [decide_eq_true (show ts.length <= 60 by omega), Bool.true_and] at φ
  kd_mark
  refine ij (dA rfl ?_)
  kd_mark
  refine ⟨[], .nil, by omega, fun i o => ∃ x, ts[i]? = some x /\ o = .bl (wordV x), fun i t ht => ?_, fun os hl2 ho => ?_⟩
  ·kd_mark
   intro _ _
   refine ⟨t, rfl, hq t (List.mem_of_getElem? ht), ?_⟩
   kd_mark
   exact ⟨t, ht, rfl⟩
  rw [gH (xs := ts) (f := wordV) hl2 ho]
  kd_mark
  refine gc rfl Rk.fz ?_
  rw [List.all_map]
  have ea : (ts.all ((fun b => b) ∘ wordV)) = ts.all wordV := rfl
  rw [ea]
  kd_mark
  refine aS (fun h3 => ?_) (fun h3 => ?_)
  rotate_left
  ·rw [h3, Bool.false_and] at φ
   sl_open
  rw [h3, Bool.true_and] at φ
  have es := gY h3
  have ls : (cO ts).length <= 1000 := by
   have := congrArg List.length es
   rw [List.length_map] at this
   omega
  kd_mark
  intro _ _
  refine ⟨cO ts, by rw [<- es], ls, ?_⟩
  sl_open
 | _ => sl_open
noncomputable def rq : Tr -> Bool
 | .int i => decide (i ∈ ([2, 10] : List Int))
 | _ => false
noncomputable def wishV : Tr -> Bool
 | .tup [.str x] => decide (x ∈ (["straight", "days", "order"] : List Str))
 | .tup [.str x, y, z] => decide (x = "straight") && jf y z
 | .tup [.str x, y] => if x = "turns" then rq y else if x = "broken" then ip y else decide (x = "order") && gt y
 | _ => false
theorem ji (T : Txt K mg t) : FO P w base T.q_zan 7 (bw K (bL wishV)) := by
 have G_zae := @fj P w K mg base t T
 have G_zam := @iD P w K mg base t T
 have G_za2 := @kr P w K mg base t T
 have G_za3 := @kJ P w K mg base t T
 refine T.q_zan.F.ok pQ (aH (fun B as Φ Ψ h => by obtain ⟨_, rfl, _⟩ := h; rfl)) (fun cdv A outer s H vs Q E hr h => ?_)
 obtain ⟨B, as, Φ, Ψ, rfl, hS, hx, go⟩ := aA h
 obtain ⟨t0, rfl, hp, φ⟩ := hS
 refine ⟨_, (aV (aG (PW.pt (bf (aC (aI (be aW rfl rfl T.z_isinstance T.z_tuple aU (pv 0)))) (bf (aC (cn bJ bJ au (am aw rfl T.z_len PySem.boot_len (ac (pv 0) aq)) au)) (bh (aC (aI (be jv rfl rfl T.z_isinstance T.z_str mI (af bn (pv 0) au (fun _ _ => rfl))))))))) (aZ (aj bc)) ar)
 (aV (aG (ao bI (am aw rfl T.z_len PySem.boot_len (ac (pv 0) aq)) au (ay _)) (aZ (aj (aK aP (af bn (pv 0) au (fun _ _ => rfl)) (ag (ac aa (ac aa (ac aa aq)))) rfl))) ar)
 (aV (aG (ao bI (am aw rfl T.z_len PySem.boot_len (ac (pv 0) aq)) au (ay _)) (aZ (aj (bv (aK bI (af bn (pv 0) au (fun _ _ => rfl)) aa (ay _)) (bq (bF G_zam hr T.q_zam (ac (af bn (pv 0) au (fun _ _ => rfl)) (ac (af bn (pv 0) au (fun _ _ => rfl)) aq))))))) ar)
 (aV (aG (ao bI (af bn (pv 0) au (fun _ _ => rfl)) aa (ay _)) (aZ (aj (bv (bF G_zae hr T.q_zae (ac (af bn (pv 0) au (fun _ _ => rfl)) aq)) (bq (aK aP (af bn (pv 0) au (fun _ _ => rfl)) (aY (v := .ref t.g_BASES) rfl T.g_BASES rfl) rfl))))) ar)
 (aV (aG (ao bI (af bn (pv 0) au (fun _ _ => rfl)) aa (ay _)) (aZ (aj (bF G_za2 hr T.q_za2 (ac (af bn (pv 0) au (fun _ _ => rfl)) aq)))) ar)
 (aZ (aj (bv (aK bI (af bn (pv 0) au (fun _ _ => rfl)) aa (ay _)) (bq (bF G_za3 hr T.q_za3 (ac (af bn (pv 0) au (fun _ _ => rfl)) aq))))))))))), go _ _ (bO (τ := [.fz _]) rfl ?_)⟩
 cases hp with
 | @tup ts hl hq =>
  match ts, hl, hq, φ with
  | [], hl, hq, φ =>
   kd_mark
   refine ah (fun y => absurd y (show ¬ (1 : Int) <= ((0 : Nat) : Int) by decide)) (fun _ => ?_)
   sl_open
  | a :: b :: c :: d :: r, hl, hq, φ =>
   kd_mark
   refine ah (fun _ => ?_) (fun y => absurd (show (1 : Int) <= (((a :: b :: c :: d :: r).length : Nat) : Int) by simp only [List.length_cons]; omega) y)
   kd_mark
   refine ah (fun y => absurd (show (((a :: b :: c :: d :: r).length : Nat) : Int) <= 3 from y) (by simp only [List.length_cons]; omega)) (fun _ => ?_)
   kd_mark
   have φ : Φ (.fz (.bl (wishV (.tup (a :: b :: c :: d :: r))))) := φ
   rw [show wishV (.tup (a :: b :: c :: d :: r)) = false by cases a <;> rfl] at φ
   exact φ
  | [x], hl, hq, φ =>
   kd_mark
   refine ah (fun _ => ?_) (fun y => absurd (show (1 : Int) <= ((1 : Nat) : Int) by decide) y)
   kd_mark
   refine ah (fun _ => ?_) (fun y => absurd (show ((1 : Nat) : Int) <= 3 by decide) y)
   kd_mark
   cases hq x List.mem_cons_self with
   | @str z hz =>
    kd_mark
    refine ah (fun _ => ?_) (fun y => absurd rfl y)
    kd_mark
    refine bN (ws := ["straight", "days", "order"]) rfl Rk.fz ?_
    sl_open
   | _ => sl_open
  | [x, y, z], hl, hq, φ =>
   have py := hq y (by simp)
   have pz := hq z (by simp)
   kd_mark
   refine ah (fun _ => ?_) (fun y => absurd (show (1 : Int) <= ((3 : Nat) : Int) by decide) y)
   kd_mark
   refine ah (fun _ => ?_) (fun y => absurd (show ((3 : Nat) : Int) <= 3 by decide) y)
   kd_mark
   cases hq x List.mem_cons_self with
   | @str u hu =>
    kd_mark
    refine ah (fun y => absurd y (show ¬ ((3 : Nat) : Int) = 1 by decide)) (fun _ => ?_)
    kd_mark
    refine ah (fun _ => ?_) (fun y => absurd (show ((3 : Nat) : Int) = 3 by decide) y)
    have φ : Φ (.fz (.bl (decide (u = "straight") && jf y z))) := φ
    kd_mark
    refine ah (fun h1 => ?_) (fun h1 => ?_)
    ·rw [decide_eq_true h1, Bool.true_and] at φ
     kd_mark
     intro _ _
     refine ⟨y, z, rfl, py, pz, ?_⟩
     sl_open
    ·rw [decide_eq_false h1, Bool.false_and] at φ
     sl_open
   | _ => sl_open
  | [x, y], hl, hq, φ =>
   have py := hq y (by simp)
   kd_mark
   refine ah (fun _ => ?_) (fun y => absurd (show (1 : Int) <= ((2 : Nat) : Int) by decide) y)
   kd_mark
   refine ah (fun _ => ?_) (fun y => absurd (show ((2 : Nat) : Int) <= 3 by decide) y)
   kd_mark
   cases hq x List.mem_cons_self with
   | @str u hu =>
    kd_mark
    refine ah (fun y => absurd y (show ¬ ((2 : Nat) : Int) = 1 by decide)) (fun _ => ?_)
    kd_mark
    refine ah (fun y => absurd y (show ¬ ((2 : Nat) : Int) = 3 by decide)) (fun _ => ?_)
    have φ : Φ (.fz (.bl (if u = "turns" then rq y else if u = "broken" then ip y else decide (u = "order") && gt y))) := φ
    kd_mark
    refine ah (fun h1 => ?_) (fun h1 => ?_)
    ·rw [if_pos h1] at φ
     kd_mark
     intro _ _
     refine ⟨y, rfl, py, ?_⟩
     kd_mark
     cases py with
     | @int i =>
      refine gU ?_
      kd_mark
      refine oZ (t := .tup (([2, 10] : List Int).map Tr.int)) (fun F => .tup (T.v_BASES F) (.ofInts _)) ?_
      kd_mark
      refine rR (ns := [2, 10]) rfl Rk.fz ?_
      sl_open
     | _ => refine gA ?_; sl_open
    rw [if_neg h1] at φ
    kd_mark
    refine ah (fun h2 => ?_) (fun h2 => ?_)
    ·rw [if_pos h2] at φ
     kd_mark
     intro _ _
     refine ⟨y, rfl, py, ?_⟩
     sl_open
    rw [if_neg h2] at φ
    kd_mark
    refine ah (fun h3 => ?_) (fun h3 => ?_)
    ·rw [decide_eq_true h3, Bool.true_and] at φ
     kd_mark
     intro _ _
     refine ⟨y, rfl, py, ?_⟩
     sl_open
    ·rw [decide_eq_false h3, Bool.false_and] at φ
     sl_open
   | _ => sl_open
 | _ => sl_open
theorem yl : ∀ (cs : List Nat), My.cs (Str.join "" (cs.map fun c => (⟨#[c]⟩ : Str))) = cs
 | [] => rfl
 | [c] => rfl
 | c :: d :: r => by
  show My.cs ((⟨#[c]⟩ : Str) ++ "" ++ Str.join "" ((d :: r).map fun c => (⟨#[c]⟩ : Str))) = _
  rw [My.cs_app, My.cs_app, yl (d :: r)]
  rfl
theorem vC (cs : List Nat) : My.cs (PySem.Txt.join "" (cs.map fun c => (⟨#[c]⟩ : Str))) = cs := by
 show My.cs (Builtin.Str.glued "" _) = _
 rw [PySem.StrLaws.glued_eq_join]
 exact yl cs
theorem om : ∀ {xs : List V} {f : Nat -> Bool}, (∀ (i : Nat) (v : V), xs[i]? = some v -> ∃ c, f c = true /\ v = V.str ⟨#[c]⟩) -> ∃ cs : List Nat, xs = (cs.map fun c => (⟨#[c]⟩ : Str)).map V.str /\ cs.all f = true
 | [], _, _ => ⟨[], rfl, rfl⟩
 | x :: r, f, h => by
  obtain ⟨c, hc, rfl⟩ := h 0 x rfl
  obtain ⟨cs, rfl, ha⟩ := om (xs := r) (f := f) fun i v e => h (i + 1) v e
  exact ⟨c :: cs, rfl, by rw [List.all_cons, hc, ha]; rfl⟩
theorem xm (cs : List Nat) (h : cs.length <= 1000) : PySem.JoinOk "" (cs.map fun c => (⟨#[c]⟩ : Str)) = true := by
 unfold PySem.JoinOk
 rw [PySem.StrLaws.joinFits (B := 1) (fun x hx => by
  obtain ⟨c, _, rfl⟩ := List.mem_map.mp hx
  exact Nat.le_refl _) (by
  rw [List.length_map, show ("" : Str).length = 0 from rfl]
  omega)]
 rfl
theorem oy {d : Int} (h0 : 0 <= d) (h1 : d < 26) : ∃ c, eI ("abcdefghijklmnopqrstuvwxyz" : Str).cps.toList d = some c /\ gi c = true := by
 have e : ("abcdefghijklmnopqrstuvwxyz" : Str).cps.toList = [97, 98, 99, 100, 101, 102, 103, 104, 105, 106, 107, 108, 109, 110, 111, 112, 113, 114, 115, 116, 117, 118, 119, 120, 121, 122] := by decide
 obtain ⟨k, rfl⟩ := Int.eq_ofNat_of_zero_le h0
 have hk : k < ("abcdefghijklmnopqrstuvwxyz" : Str).cps.toList.length := by rw [e]; simp; omega
 refine ⟨_, bp (List.getElem?_eq_getElem hk), ?_⟩
 have : ∀ c ∈ ("abcdefghijklmnopqrstuvwxyz" : Str).cps.toList, gi c = true := by rw [e]; decide
 exact this _ (List.getElem_mem hk)
variable {z : Str}
theorem vh (h1 : 1 <= z.length) (h2 : z.length <= 8) (h3 : (My.cs z).all gi = true) : fD z = true := by
 have h3 : z.cps.toList.all gi = true := h3
 unfold fD
 rw [decide_eq_true h1, decide_eq_true h2, h3]; rfl
theorem oH (h : fD z = true) : 1 <= z.length /\ z.length <= 8 /\ (My.cs z).all gi = true := by
 unfold fD at h
 rw [Bool.and_eq_true, Bool.and_eq_true, decide_eq_true_eq, decide_eq_true_eq] at h
 exact h
noncomputable def bK (b : Bool) : Str := if b = true then "right" else "left"
noncomputable def sj (K : Fg) : Sp := fun vs H Q _ => ∃ (a : Addr) (v w : V) (b : Bool), vs = [.ref a, .str (bK b)] /\ ci K H a [v, w] /\ Q (if b = true then w else v) H
theorem ph (T : Txt K mg t) : FO P w base T.q_zaj 1 (sj K) := by
 refine T.q_zaj.F.ok qK (fun vs H Q E h => ?_) (fun cdv A outer s H vs Q E hr h => ?_)
 ·obtain ⟨a, v, w', b, rfl, _⟩ := h
  rfl
 obtain ⟨a, v, w', b, rfl, hS, q⟩ := h
 refine ⟨_, (aZ (aj (af bn (pv 0) (lr PySem.F.plainAttrs_tuple PySem.F.slot_tuple_index PySem.F.type_tuple_index so (aY (v := .ref t.g_SIDES) rfl T.g_SIDES rfl) (ac (pv 1) aq)) (fun _ _ => rfl)))), qt (σ := [some _, some _]) rfl ?_⟩
 f_look
 refine ⟨.inr (.inl ⟨rfl, T.p_SIDES⟩), ?_⟩
 f_look
 cases b with
 | false =>
  refine ⟨_, "left", "right", "left", 0, rfl, rfl, T.v_SIDES H, .inl ⟨rfl, rfl⟩, ?_⟩
  refine ud hS (bp (j := 0) rfl) ?_
  exact q
 | true =>
  refine ⟨_, "left", "right", "right", 1, rfl, rfl, T.v_SIDES H, .inr ⟨rfl, by decide, rfl⟩, ?_⟩
  refine ud hS (bp (j := 1) rfl) ?_
  exact q
noncomputable def sI : SpT := fun _ as Φ _ => ∃ (x y : Tr) (b : Bool), as = [.fz (.tup [x, y]), .fz (.str (bK b))] /\ Φ (.fz (if b = true then y else x))
theorem je (T : Txt K mg t) : FO P w base T.q_zaj 1 (bw K sI) := by
 refine (ph (P := P) (w := w) (base := base) T).imp fun vs H Q E h => ?_
 obtain ⟨B, as, Φ, Ψ, rfl, rfl, bk, la, ⟨x, y, b, rfl, φ⟩, q, _⟩ := h
 obtain ⟨v, w', rfl, iv, iw⟩ := uX la
 cases iw
 cases iv with
 | tup hs g =>
  cases g with
  | cons gx g =>
   cases g with
   | cons gy g =>
    cases g
    refine ⟨_, _, _, b, rfl, bk.i.tup hs, ?_⟩
    have u := AO bk rfl rfl (aF.refl B.H0)
    cases b with
    | false => exact q _ _ _ (.fz x) u (Is.same u.f gx) φ
    | true => exact q _ _ _ (.fz y) u (Is.same u.f gy) φ
noncomputable def Db (K : Fg) (F H : Hp) (a : Addr) : Bk where
 K := K
 F0 := F
 H0 := H
 W := fun _ => False
 J := fun _ => True
 rt := a
 jl := fun _ _ _ _ _ => trivial
 jm := fun _ _ _ h => h.elim
variable {E : XK}
theorem jx {K : Fg} {S : SpT} {vs : List V} {a : Addr} {as : List Ar} {Φ : Kd -> Prop} (la : mD (Db K H H a) H vs as) (s : S (Db K H H a) as Φ fun _ => False) (q : ∀ v F' H' k, aF H H' -> aF F' H' -> aF H F' -> ly (Db K H H a) F' H' v k -> Φ k -> Q v H') : bw K S vs H Q E :=
 ⟨Db K H H a, as, Φ, fun _ => False, rfl, rfl, ⟨aF.refl _, fun _ h => h.elim, fun _ h => h.elim, trivial⟩, la, s, fun v F' H' k u r p => q v F' H' k (fun p o e => u.h p o (fun h => h) e) u.i u.f r p, fun _ _ _ _ h => h.elim⟩
variable {B : Bk}
theorem vo {H' : Hp} {p : Addr} {vs : List V} (bk : tP B) (hp : B.H0 p = none) (h : H' p = some (.lst vs)) (g : IsL B.K (addT B.F0 H') vs ts) : ly B (addT B.F0 H') H' (.ref p) (.nw (.lst ts)) := by
 have f0 : B.F0 p = none := by
  cases e : B.F0 p with
  | none => rfl
  | some o => rw [bk.i p o e] at hp; cases hp
 refine ⟨p, rfl, .lst h g, ?_, hp⟩
 unfold addT
 rw [f0, h]
theorem Ct {b : Bool} {A B : Prop} (h : b = true) (a : A) : if b = true then A else B := by rw [if_pos h]; exact a
theorem xK {b : Bool} {A B : Prop} (h : b = false) (a : B) : if b = true then A else B := by rw [h, if_neg (by decide)]; exact a
noncomputable def fg (fs : List Str) : Tr -> Bool
 | .tup (.str k :: _) => decide (k ∈ fs)
 | _ => false
noncomputable def chanV (fs : List Str) : Tr -> Bool
 | .tup [a, b] => wordV a && (wishV b && fg fs b)
 | _ => false
theorem ic {t : Tr} (h : wishV t = true) : ∃ k r, t = .tup (.str k :: r) := by
 match t, h with
 | .tup [.str x], _ => exact ⟨_, _, rfl⟩
 | .tup [.str x, y], _ => exact ⟨_, _, rfl⟩
 | .tup [.str x, y, z], _ => exact ⟨_, _, rfl⟩
theorem oO {fs : List Str} (h : ts.length ≠ 2) : chanV fs (.tup ts) = false := by
 match ts, h with
 | [], _ => rfl
 | [_], _ => rfl
 | [_, _], h => exact absurd rfl h
 | _ :: _ :: _ :: _, _ => rfl
noncomputable def lT : SpT := fun _ as Φ _ => ∃ (x : Tr) (fs : List Str), as = [.fz x, .fz (.tup (fs.map Tr.str))] /\ cD x /\ Φ (.fz (.bl (chanV fs x)))
theorem gg (T : Txt K mg t) : FO P w base T.q_zac 8 (bw K lT) := by
 have G_zaa := @gh P w K mg base t T
 have G_zan := @ji P w K mg base t T
 refine T.q_zac.F.ok kF (aH (fun B as Φ Ψ h => by obtain ⟨_, _, rfl, _⟩ := h; rfl)) (fun cdv A outer s H vs Q E hr h => ?_)
 obtain ⟨B, as, Φ, Ψ, rfl, hS, hx, go⟩ := aA h
 obtain ⟨x, fs, rfl, hp, φ⟩ := hS
 refine ⟨_, (aV (aG (PW.pt (bf (aC (aI (be aW rfl rfl T.z_isinstance T.z_tuple aU (pv 0)))) (bh (ao dH (am aw rfl T.z_len PySem.boot_len (ac (pv 0) aq)) au (ay _))))) (aZ (aj bc)) ar)
 (aZ (aj (bv (bF G_zaa hr T.q_zaa (ac (af bn (pv 0) au (fun _ _ => rfl)) aq)) (bv (bF G_zan hr T.q_zan (ac (af bn (pv 0) au (fun _ _ => rfl)) aq)) (bq (aK aP (af bn (af bn (pv 0) au (fun _ _ => rfl)) au (fun _ _ => rfl)) (pv 1) rfl))))))), go _ _ (bO (τ := [.fz _, .fz _]) rfl ?_)⟩
 cases hp with
 | @tup ts hl hq =>
  by_cases h2 : ts.length = 2
  ·match ts, h2, hl, hq, φ with
   | [a, b], _, hl, hq, φ =>
    have pa := hq a (by simp)
    have pb := hq b (by simp)
    have φ : Φ (.fz (.bl (wordV a && (wishV b && fg fs b)))) := φ
    kd_mark
    refine ah (fun _ => ?_) (fun y => absurd (show (([a, b].length : Nat) : Int) = 2 from rfl) y)
    kd_mark
    intro _ _
    refine ⟨a, rfl, pa, ?_⟩
    kd_mark
    refine aS (fun h => ?_) (fun h => ?_)
    rotate_left
    ·rw [h, Bool.false_and] at φ
     sl_open
    rw [h, Bool.true_and] at φ
    kd_mark
    intro _ _
    refine ⟨b, rfl, pb, ?_⟩
    kd_mark
    refine aS (fun h => ?_) (fun h => ?_)
    rotate_left
    ·rw [h, Bool.false_and] at φ
     sl_open
    rw [h, Bool.true_and] at φ
    obtain ⟨k, r, rfl⟩ := ic h
    kd_mark
    refine dF rfl Rk.fz (bp (j := 0) rfl) ?_
    kd_mark
    refine bN (ws := fs) rfl Rk.fz ?_
    sl_open
  ·rw [oO h2] at φ
   kd_mark
   refine ah (fun y => absurd y (by omega)) (fun _ => ?_)
   sl_open
 | _ => sl_open
noncomputable def ka : Tr -> Bool
 | .lst ts => decide (ts.length <= 6)
 | _ => false
theorem kP (T : Txt K mg t) : FO P w base T.q_za4 1 (bw K (bL ka)) := by
 refine T.q_za4.F.ok mh (aH (fun B as Φ Ψ h => by obtain ⟨_, rfl, _⟩ := h; rfl)) (fun cdv A outer s H vs Q E hr h => ?_)
 obtain ⟨B, as, Φ, Ψ, rfl, hS, hx, go⟩ := aA h
 obtain ⟨t0, rfl, hp, φ⟩ := hS
 refine ⟨_, (aZ (aj (bv (be kB rfl rfl T.z_isinstance T.z_list gu (pv 0)) (bq (aK bJ (am aw rfl T.z_len PySem.boot_len (ac (pv 0) aq)) (aY (v := .int 6) rfl T.g_MOST_STEPS ⟨_, rfl⟩) (ay _)))))), go _ _ (bO (τ := [.fz _]) rfl ?_)⟩
 cases hp with
 | @lst ts hl hq =>
  have φ : Φ (.fz (.bl (decide (ts.length <= 6)))) := φ
  kd_mark
  rw [yF (k := 6) (m := 6) rfl]
  exact φ
 | _ => sl_open
noncomputable def sideV (t : Tr) : Bool := t.isN || wishV t
noncomputable def fL : Tr -> Bool
 | .tup ts => decide (ts.length = 2) && ts.all sideV
 | _ => false
theorem kR (T : Txt K mg t) : FO P w base T.q_za5 8 (bw K (bL fL)) := by
 have G_zan := @ji P w K mg base t T
 refine T.q_za5.F.ok mO (aH (fun B as Φ Ψ h => by obtain ⟨_, rfl, _⟩ := h; rfl)) (fun cdv A outer s H vs Q E hr h => ?_)
 obtain ⟨B, as, Φ, Ψ, rfl, hS, hx, go⟩ := aA h
 obtain ⟨t0, rfl, hp, φ⟩ := hS
 refine ⟨_, (aV (aG (PW.pt (bf (aC (aI (be aW rfl rfl T.z_isinstance T.z_tuple aU (pv 0)))) (bh (ao dH (am aw rfl T.z_len PySem.boot_len (ac (pv 0) aq)) (am aw rfl T.z_len PySem.boot_len (ac (aY (v := .ref t.g_SIDES) rfl T.g_SIDES rfl) aq)) (ay _))))) (aZ (aj bc)) ar)
 (aZ (aj (am (dz rfl) rfl T.z_all fQ (ac (dX rfl (bi (fr := []) (osc := ae eA) (N := ["thing"]) rfl rfl (by decide +kernel)) (ck (pv 0)) (fun _ _ _ _ _ => (jX (aK cA (pv 0) aN (ay _)) (bq (bF G_zan hr T.q_zan (ac (pv 0) aq)))))) aq))))), go _ _ (bO (τ := [.fz _]) rfl ?_)⟩
 cases hp with
 | @tup ts hl hq =>
  have φ : Φ (.fz (.bl (decide (ts.length = 2) && ts.all sideV))) := φ
  kd_mark
  refine oZ (t := .tup ((["left", "right"] : List Str).map Tr.str)) (fun F => .tup (T.v_SIDES F) (.ofStrs _)) ?_
  kd_mark
  refine ah (fun h2 => ?_) (fun h2 => ?_)
  rotate_left
  ·rw [decide_eq_false (show ¬ ts.length = 2 from fun e => h2 (by rw [e]; rfl)), Bool.false_and] at φ
   sl_open
  rw [decide_eq_true (show ts.length = 2 from by have h2 : (ts.length : Int) = 2 := h2; omega), Bool.true_and] at φ
  kd_mark
  refine ij (dA rfl ?_)
  kd_mark
  refine ⟨[], .nil, by omega, fun i o => ∃ x, ts[i]? = some x /\ o = .bl (sideV x), fun i t ht => ?_, fun os hl2 ho => ?_⟩
  ·kd_mark
   refine dQ ⟨_, rfl, ?_⟩
   refine aS (fun h => ?_) (fun h => ?_)
   ·kd_mark
    exact ⟨t, ht, by unfold sideV; rw [h]; rfl⟩
   ·kd_mark
    intro _ _
    refine ⟨t, rfl, hq t (List.mem_of_getElem? ht), ?_⟩
    kd_mark
    exact ⟨t, ht, by unfold sideV; rw [h]; rfl⟩
  rw [gH (xs := ts) (f := sideV) hl2 ho]
  kd_mark
  refine gc rfl Rk.fz ?_
  rw [List.all_map]
  exact φ
 | _ => sl_open
noncomputable def dM (m : Str) : List Str := if m ∈ (["bars", "heaps", "boxes"] : List Str) then ["order"] else if m ∈ (["lines", "bands"] : List Str) then ["straight", "turns", "broken", "days"] else ["straight", "turns", "broken", "days", "order"]
noncomputable def eR (m : Str) : List Str := if m = "boxes" then ["straight", "turns"] else if m ∈ (["bars", "heaps", "lines", "bands"] : List Str) then ["straight", "turns", "broken"] else ["straight", "turns", "broken", "days", "order"]
noncomputable def nV (f : Str -> List Str) : SpT := fun _ as Φ _ => ∃ m : Str, as = [.fz (.str m)] /\ Φ (.fz (.tup ((f m).map Tr.str)))
theorem jL (T : Txt K mg t) : FO P w base T.q_za6 1 (bw K (nV dM)) := by
 refine T.q_za6.F.ok lg (aH (fun B as Φ Ψ h => by obtain ⟨_, rfl, _⟩ := h; rfl)) (fun cdv A outer s H vs Q E hr h => ?_)
 obtain ⟨B, as, Φ, Ψ, rfl, hS, hx, go⟩ := aA h
 obtain ⟨m, rfl, φ⟩ := hS
 refine ⟨_, (aV (aG (ao aP (pv 0) (ag (ac aa (ac aa (ac aa aq)))) rfl) (aZ (aj (ag (ac aa aq)))) ar)
 (aV (aG (ao aP (pv 0) (ag (ac aa (ac aa aq))) rfl) (aZ (aj (ag (ac aa (ac aa (ac aa (ac aa aq))))))) ar)
 (aZ (aj (aY (v := .ref t.g_FORMS) rfl T.g_FORMS rfl))))), go _ _ (bO (τ := [.fz _]) rfl ?_)⟩
 unfold dM at φ
 kd_mark
 refine bN (ws := ["bars", "heaps", "boxes"]) rfl Rk.fz ?_
 kd_mark
 refine ah (fun h => ?_) (fun h => ?_)
 ·rw [if_pos h] at φ
  sl_open
 rw [if_neg h] at φ
 kd_mark
 refine bN (ws := ["lines", "bands"]) rfl Rk.fz ?_
 kd_mark
 refine ah (fun h => ?_) (fun h => ?_)
 ·rw [if_pos h] at φ
  sl_open
 rw [if_neg h] at φ
 kd_mark
 refine oZ (t := .tup ((["straight", "turns", "broken", "days", "order"] : List Str).map Tr.str)) (fun F => .tup (T.v_FORMS F) (.ofStrs _)) ?_
 sl_open
theorem iz (T : Txt K mg t) : FO P w base T.q_za7 1 (bw K (nV eR)) := by
 refine T.q_za7.F.ok iK (aH (fun B as Φ Ψ h => by obtain ⟨_, rfl, _⟩ := h; rfl)) (fun cdv A outer s H vs Q E hr h => ?_)
 obtain ⟨B, as, Φ, Ψ, rfl, hS, hx, go⟩ := aA h
 obtain ⟨m, rfl, φ⟩ := hS
 refine ⟨_, (aV (aG (ao bI (pv 0) aa (ay _)) (aZ (aj (ag (ac aa (ac aa aq))))) ar)
 (aV (aG (ao aP (pv 0) (ag (ac aa (ac aa (ac aa (ac aa aq))))) rfl) (aZ (aj (ag (ac aa (ac aa (ac aa aq)))))) ar)
 (aZ (aj (aY (v := .ref t.g_FORMS) rfl T.g_FORMS rfl))))), go _ _ (bO (τ := [.fz _]) rfl ?_)⟩
 unfold eR at φ
 kd_mark
 refine ah (fun h => ?_) (fun h => ?_)
 ·rw [if_pos h] at φ
  sl_open
 rw [if_neg h] at φ
 kd_mark
 refine bN (ws := ["bars", "heaps", "lines", "bands"]) rfl Rk.fz ?_
 kd_mark
 refine ah (fun h => ?_) (fun h => ?_)
 ·rw [if_pos h] at φ
  sl_open
 rw [if_neg h] at φ
 kd_mark
 refine oZ (t := .tup ((["straight", "turns", "broken", "days", "order"] : List Str).map Tr.str)) (fun F => .tup (T.v_FORMS F) (.ofStrs _)) ?_
 sl_open
noncomputable def tH : List Str := ["dots", "bars", "heaps", "lines", "bands", "boxes", "words"]
noncomputable def bS : Tr -> Bool
 | .tup [m, s, c, o] => eJ tH m && (eJ ["left", "right"] s && (wordV c && (if eJ ["bands", "words"] m = true then wordV o else o.isN)))
 | _ => false
theorem rO (h : ts.length ≠ 4) : bS (.tup ts) = false := by
 match ts, h with
 | [], _ => rfl
 | [_], _ => rfl
 | [_, _], _ => rfl
 | [_, _, _], _ => rfl
 | [_, _, _, _], h => exact absurd rfl h
 | _ :: _ :: _ :: _ :: _ :: _, _ => rfl
theorem uR (hw : ws.all fD = true) {m : Tr} (h : wordV m = false) : eJ ws m = false := by
 cases m with
 | str z =>
  refine decide_eq_false fun hm => ?_
  have := List.all_eq_true.mp hw z hm
  rw [show wordV (.str z) = fD z from rfl, this] at h
  cases h
 | _ => rfl
theorem nY {m : Tr} (h : wordV m = true) : ∃ z, m = .str z := by
 cases m with
 | str z => exact ⟨z, rfl⟩
 | _ => cases h
theorem mF (T : Txt K mg t) : FO P w base T.q_za8 2 (bw K (bL bS)) := by
 have G_zaa := @gh P w K mg base t T
 refine T.q_za8.F.ok nE (aH (fun B as Φ Ψ h => by obtain ⟨_, rfl, _⟩ := h; rfl)) (fun cdv A outer s H vs Q E hr h => ?_)
 obtain ⟨B, as, Φ, Ψ, rfl, hS, hx, go⟩ := aA h
 obtain ⟨t0, rfl, hp, φ⟩ := hS
 refine ⟨_, (aV (aG (PW.pt (bf (aC (aI (be aW rfl rfl T.z_isinstance T.z_tuple aU (pv 0)))) (bf (ao dH (am aw rfl T.z_len PySem.boot_len (ac (pv 0) aq)) au (ay _)) (bf (aC (aI (bF G_zaa hr T.q_zaa (ac (af bn (pv 0) au (fun _ _ => rfl)) aq)))) (bh (aC (aI (bF G_zaa hr T.q_zaa (ac (af bn (pv 0) au (fun _ _ => rfl)) aq))))))))) (aZ (aj bc)) ar)
 (aV (aG (PW.pt (bf (ao cq (af bn (pv 0) au (fun _ _ => rfl)) (aY (v := .ref t.g_MARKS) rfl T.g_MARKS rfl) rfl) (bf (ao cq (af bn (pv 0) au (fun _ _ => rfl)) (aY (v := .ref t.g_SIDES) rfl T.g_SIDES rfl) rfl) (bh (aC (aI (bF G_zaa hr T.q_zaa (ac (af bn (pv 0) au (fun _ _ => rfl)) aq)))))))) (aZ (aj bc)) ar)
 (aZ (aj (jQ (ao aP (af bn (pv 0) au (fun _ _ => rfl)) (aY (v := .ref t.g_WITH_OTHER) rfl T.g_WITH_OTHER rfl) rfl) (bF G_zaa hr T.q_zaa (ac (af bn (pv 0) au (fun _ _ => rfl)) aq)) (aK cA (af bn (pv 0) au (fun _ _ => rfl)) aN (ay _))))))), go _ _ (bO (τ := [.fz _]) rfl ?_)⟩
 cases hp with
 | @tup ts hl hq =>
  by_cases h4 : ts.length = 4
  ·match ts, h4, hl, hq, φ with
   | [m, s, c, o], _, hl, hq, φ =>
    have pm := hq m (by simp)
    have ps := hq s (by simp)
    have pc := hq c (by simp)
    have po := hq o (by simp)
    have φ : Φ (.fz (.bl (eJ tH m && (eJ ["left", "right"] s && (wordV c && (if eJ ["bands", "words"] m = true then wordV o else o.isN)))))) := φ
    kd_mark
    refine ah (fun _ => ?_) (fun y => absurd (show (([m, s, c, o].length : Nat) : Int) = 4 from rfl) y)
    kd_mark
    intro _ _
    refine ⟨m, rfl, pm, ?_⟩
    kd_mark
    refine aS (fun h => ?_) (fun h => ?_)
    rotate_left
    ·rw [uR (by decide) h, Bool.false_and] at φ
     sl_open
    obtain ⟨z, rfl⟩ := nY h
    kd_mark
    intro _ _
    refine ⟨s, rfl, ps, ?_⟩
    kd_mark
    refine aS (fun h => ?_) (fun h => ?_)
    rotate_left
    ·rw [uR (m := s) (by decide) h, Bool.false_and, Bool.and_false] at φ
     sl_open
    obtain ⟨u, rfl⟩ := nY h
    kd_mark
    refine oZ (t := .tup (tH.map Tr.str)) (fun F => .tup (T.v_MARKS F) (.ofStrs _)) ?_
    kd_mark
    refine de (ws := tH) rfl Rk.fz ?_
    have φ : Φ (.fz (.bl (decide (z ∈ tH) && (decide (u ∈ (["left", "right"] : List Str)) && (wordV c && (if decide (z ∈ (["bands", "words"] : List Str)) = true then wordV o else o.isN)))))) := φ
    kd_mark
    refine ah (fun h => ?_) (fun h => ?_)
    rotate_left
    ·rw [decide_eq_false h, Bool.false_and] at φ
     sl_open
    rw [decide_eq_true h, Bool.true_and] at φ
    kd_mark
    refine oZ (t := .tup ((["left", "right"] : List Str).map Tr.str)) (fun F => .tup (T.v_SIDES F) (.ofStrs _)) ?_
    kd_mark
    refine de (ws := ["left", "right"]) rfl Rk.fz ?_
    kd_mark
    refine ah (fun h => ?_) (fun h => ?_)
    rotate_left
    ·rw [decide_eq_false h, Bool.false_and] at φ
     sl_open
    rw [decide_eq_true h, Bool.true_and] at φ
    kd_mark
    intro _ _
    refine ⟨c, rfl, pc, ?_⟩
    kd_mark
    refine aS (fun h => ?_) (fun h => ?_)
    rotate_left
    ·rw [h, Bool.false_and] at φ
     sl_open
    rw [h, Bool.true_and] at φ
    kd_mark
    refine oZ (t := .tup ((["bands", "words"] : List Str).map Tr.str)) (fun F => .tup (T.v_WITH_OTHER F) (.ofStrs _)) ?_
    kd_mark
    refine bN (ws := ["bands", "words"]) rfl Rk.fz ?_
    kd_mark
    refine ah (fun h => ?_) (fun h => ?_)
    ·rw [decide_eq_true h, if_pos rfl] at φ
     kd_mark
     intro _ _
     refine ⟨o, rfl, po, ?_⟩
     sl_open
    ·rw [decide_eq_false h, if_neg Bool.false_ne_true] at φ
     kd_mark
     refine dQ ?_
     exact φ
  ·rw [rO h4] at φ
   kd_mark
   refine ah (fun y => absurd y (by omega)) (fun _ => ?_)
   sl_open
 | _ => sl_open
noncomputable def vx (m : Str) (w : Tr) (k : Str) : Bool := fg (eR m) w && decide (k ∈ dM m)
noncomputable def xp : SpT := fun _ as Φ _ => ∃ (m : Str) (b : Bool) (c o a : Tr) (k : Str) (r : List Tr) (w0 w1 : Tr), as = [.fz (.tup [.str m, .str (bK b), c, o]), .fz (.tup [a, .tup (.str k :: r)]), .fz (.tup [w0, w1])] /\ sideV w0 = true /\ sideV w1 = true /\ Φ (.fz (.bl (vx m (if b = true then w1 else w0) k)))
theorem qT {t : Tr} (h : sideV t = true) : t = .non ∨ ∃ k r, t = .tup (.str k :: r) := by
 unfold sideV at h
 rw [Bool.or_eq_true] at h
 rcases h with h | h
 ·cases t with
  | non => exact .inl rfl
  | _ => cases h
 ·exact .inr (ic h)
theorem jH (T : Txt K mg t) : FO P w base T.q_za9 2 (bw K xp) := by
 have G_zaj := @je P w K mg base t T
 have G_za6 := @jL P w K mg base t T
 have G_za7 := @iz P w K mg base t T
 refine T.q_za9.F.ok gD (aH (fun B as Φ Ψ h => by obtain ⟨_, _, _, _, _, _, _, _, _, rfl, _⟩ := h; rfl)) (fun cdv A outer s H vs Q E hr h => ?_)
 obtain ⟨B, as, Φ, Ψ, rfl, hS, hx, go⟩ := aA h
 obtain ⟨m, b, c, o, a, k, r, w0, w1, rfl, s0, s1, φ⟩ := hS
 have hw : sideV (if b = true then w1 else w0) = true := by cases b <;> assumption
 refine ⟨_, (aV (az (i := 3) gD.nd rfl (Or.inl rfl) (bF G_zaj hr T.q_zaj (ac (pv 2) (ac (af bn (pv 0) au (fun _ _ => rfl)) aq))))
 (aV (aG (PW.pt (bf (ao cA (pv 3) aN (ay _)) (bh (ao cq (af bn (pv 3) au (fun _ _ => rfl)) (bF G_za7 hr T.q_za7 (ac (af bn (pv 0) au (fun _ _ => rfl)) aq)) rfl)))) (aZ (aj bc)) ar)
 (aZ (aj (aK aP (af bn (af bn (pv 1) au (fun _ _ => rfl)) au (fun _ _ => rfl)) (bF G_za6 hr T.q_za6 (ac (af bn (pv 0) au (fun _ _ => rfl)) aq)) rfl))))), go _ _ (bO (τ := [.fz _, .fz _, .fz _, .no]) rfl ?_)⟩
 kd_mark
 intro _ _
 refine ⟨w0, w1, b, rfl, ?_⟩
 generalize (if b = true then w1 else w0) = w' at *
 unfold vx at φ
 rcases qT hw with rfl | ⟨k', r', rfl⟩
 ·kd_mark
  exact φ
 have φ : Φ (.fz (.bl (decide (k' ∈ eR m) && decide (k ∈ dM m)))) := φ
 kd_mark
 refine dF rfl Rk.fz (bp (j := 0) rfl) ?_
 kd_mark
 intro _ _
 refine ⟨m, rfl, ?_⟩
 kd_mark
 refine de (ws := eR m) rfl Rk.fz ?_
 kd_mark
 refine ah (fun h => ?_) (fun h => ?_)
 rotate_left
 ·rw [decide_eq_false h, Bool.false_and] at φ
  sl_open
 rw [decide_eq_true h, Bool.true_and] at φ
 kd_mark
 refine dF rfl Rk.fz (bp (j := 0) rfl) ?_
 kd_mark
 intro _ _
 refine ⟨m, rfl, ?_⟩
 kd_mark
 refine bN (ws := dM m) rfl Rk.fz ?_
 sl_open
noncomputable def jo : Tr -> Bool
 | .int i => decide (60 <= i) && decide (i <= 2000)
 | _ => false
noncomputable def isB : Tr -> Bool
 | .bl _ => true
 | _ => false
noncomputable def dE : Tr -> Bool
 | .tup [a, b, c] => isB c && (jo a && (jo b && true))
 | _ => false
theorem lK (h : ts.length ≠ 3) : dE (.tup ts) = false := by
 match ts, h with
 | [], _ => rfl
 | [_], _ => rfl
 | [_, _], _ => rfl
 | [_, _, _], h => exact absurd rfl h
 | _ :: _ :: _ :: _ :: _, _ => rfl
theorem mi (T : Txt K mg t) : FO P w base T.q_zbc 2 (bw K (bL dE)) := by
 have G_zae := @fj P w K mg base t T
 refine T.q_zbc.F.ok nK (aH (fun B as Φ Ψ h => by obtain ⟨_, rfl, _⟩ := h; rfl)) (fun cdv A outer s H vs Q E hr h => ?_)
 obtain ⟨B, as, Φ, Ψ, rfl, hS, hx, go⟩ := aA h
 obtain ⟨t0, rfl, hp, φ⟩ := hS
 refine ⟨_, (aV (aG (PW.pt (bf (aC (aI (be aW rfl rfl T.z_isinstance T.z_tuple aU (pv 0)))) (bf (ao dH (am aw rfl T.z_len PySem.boot_len (ac (pv 0) aq)) au (ay _)) (bh (aC (aI (be ix rfl rfl T.z_isinstance T.z_bool jA (af bn (pv 0) au (fun _ _ => rfl))))))))) (aZ (aj bc)) ar)
 (aZ (aj (am (dz rfl) rfl T.z_all fQ (ac (dX rfl (bi (fr := []) (osc := ae fi) (N := ["thing"]) rfl rfl (by decide +kernel)) (ck (aT gL (pv 0) cf (aM au))) (fun _ _ _ _ _ => (bv (bF G_zae hr T.q_zae (ac (pv 0) aq)) (bq (vd bJ bJ (aY (v := .int 60) rfl T.g_LEAST_SHEET ⟨_, rfl⟩) (pv 0) (aY (v := .int 2000) rfl T.g_MOST_SHEET ⟨_, rfl⟩)))))) aq))))), go _ _ (bO (τ := [.fz _]) rfl ?_)⟩
 cases hp with
 | @tup ts hl hq =>
  by_cases h3 : ts.length = 3
  ·match ts, h3, hl, hq, φ with
   | [a, b, c], _, hl, hq, φ =>
    have pa := hq a (by simp)
    have pb := hq b (by simp)
    kd_mark
    refine ah (fun _ => ?_) (fun y => absurd (show (([a, b, c].length : Nat) : Int) = 3 from rfl) y)
    kd_mark
    cases hq c (by simp) with
    | @bl b3 =>
     have φ : Φ (.fz (.bl (([a, b].map jo).all fun b => b))) := φ
     kd_mark
     refine ij (dA rfl ?_)
     kd_mark
     refine qh rfl Rk.fz (fun h => absurd (show HT.sIx 3 3 (some 2) = 3 from h.2) (by decide)) ?_
     kd_mark
     refine ⟨[], .nil, show (2 : Nat) <= 100000 by decide, fun i o => ∃ x, [a, b][i]? = some x /\ o = .bl (jo x), fun i t ht => ?_, fun os hl2 ho => ?_⟩
     ·have ht : [a, b][i]? = some t := ht
      kd_mark
      intro _ _
      refine ⟨t, rfl, hq t (by have := List.mem_of_getElem? ht; simp at this ⊢; rcases this with h | h <;> simp [h]), ?_⟩
      kd_mark
      have pt := hq t (by have := List.mem_of_getElem? ht; simp at this ⊢; rcases this with h | h <;> simp [h])
      cases pt with
      | @int i' =>
       refine gU ?_
       kd_mark
       refine ah (fun h => ?_) (fun h => ?_)
       ·kd_mark
        exact ⟨_, ht, by show _ = Tr.bl (decide (60 <= i') && decide (i' <= 2000)); rw [decide_eq_true h, Bool.true_and]⟩
       ·kd_mark
        exact ⟨_, ht, by show _ = Tr.bl (decide (60 <= i') && decide (i' <= 2000)); rw [decide_eq_false h, Bool.false_and]⟩
      | _ => refine gA ?_; kd_mark; exact ⟨_, ht, rfl⟩
     rw [gH (xs := [a, b]) (f := jo) hl2 ho]
     kd_mark
     refine gc rfl Rk.fz ?_
     exact φ
    | _ => sl_open
  ·rw [lK h3] at φ
   kd_mark
   refine ah (fun y => absurd y (by omega)) (fun _ => ?_)
   sl_open
 | _ => sl_open
noncomputable def cJ (k : Str) (w0 w1 : Tr) : Tr -> Bool
 | .tup [.str m, .str s, c, o] => bS (.tup [.str m, .str s, c, o]) && vx m (if decide (s = "right") = true then w1 else w0) k
 | _ => false
noncomputable def bD : Tr -> Str
 | .tup [_, .str s, _, _] => s
 | _ => ""
noncomputable def dN : Tr -> Str
 | .tup [.str m, _, _, _] => m
 | _ => ""
noncomputable def dq (k : Str) (w0 w1 : Tr) : Tr -> Bool
 | .tup ls => (decide (1 <= ls.length) && decide (ls.length <= 3)) && (ls.all (cJ k w0 w1) && ((decide (("left" : Str) ∈ ls.map bD) || w0.isN) && ((decide (("right" : Str) ∈ ls.map bD) || w1.isN) && true)))
 | _ => false
theorem fP {l : Tr} (h : bS l = true) : ∃ m b c o, l = .tup [.str m, .str (bK b), c, o] := by
 match l, h with
 | .tup [m, s, c, o], h =>
  have h : (eJ tH m && (eJ ["left", "right"] s && (wordV c && (if eJ ["bands", "words"] m = true then wordV o else o.isN)))) = true := h
  rw [Bool.and_eq_true, Bool.and_eq_true] at h
  cases m with
  | str m =>
   cases s with
   | str s =>
    have hs : s ∈ (["left", "right"] : List Str) := of_decide_eq_true h.2.1
    simp at hs
    rcases hs with rfl | rfl
    ·exact ⟨m, false, c, o, rfl⟩
    ·exact ⟨m, true, c, o, rfl⟩
   | _ => cases h.2.1
  | _ => cases h.1
variable {k : Str} {w0 : Tr} {w1 : Tr}
theorem cW {l : Tr} (h : bS l = false) : cJ k w0 w1 l = false := by
 unfold cJ
 split
 ·rw [h]; rfl
 ·rfl
theorem oY {m : Str} {b : Bool} {c o : Tr} (h : bS (.tup [.str m, .str (bK b), c, o]) = true) : cJ k w0 w1 (.tup [.str m, .str (bK b), c, o]) = vx m (if b = true then w1 else w0) k := by
 show (bS _ && _) = _
 rw [h, Bool.true_and]
 cases b <;> rfl
theorem im {xs : List α} {f : α -> Tr} (hl : os.length = xs.length) (h : ∀ (i : Nat) (o : Tr), os[i]? = some o -> ∃ x, xs[i]? = some x /\ o = f x) : os = xs.map f := by
 apply List.ext_getElem?
 intro i
 rw [List.getElem?_map]
 cases e : os[i]? with
 | none =>
  have : xs[i]? = none := by rw [List.getElem?_eq_none_iff] at e ⊢; omega
  rw [this]; rfl
 | some o =>
  obtain ⟨x, ex, rfl⟩ := h i o e
  rw [ex]; rfl
noncomputable def re : SpT := fun _ as Φ _ => ∃ (x a : Tr) (k : Str) (r : List Tr) (w0 w1 : Tr), as = [.fz x, .fz (.tup [a, .tup (.str k :: r)]), .fz (.tup [w0, w1])] /\ cD x /\ sideV w0 = true /\ sideV w1 = true /\ Φ (.fz (.bl (dq k w0 w1 x)))
theorem kD (T : Txt K mg t) : FO P w base T.q_zba 3 (bw K re) := by
 have G_za8 := @mF P w K mg base t T
 have G_za9 := @jH P w K mg base t T
 have G_zaj := @je P w K mg base t T
 refine T.q_zba.F.ok gB (aH (fun B as Φ Ψ h => by obtain ⟨_, _, _, _, _, _, rfl, _⟩ := h; rfl)) (fun cdv A outer s H vs Q E hr h => ?_)
 obtain ⟨B, as, Φ, Ψ, rfl, hS, hx, go⟩ := aA h
 obtain ⟨x, a, k, r, w0, w1, rfl, hp, s0, s1, φ⟩ := hS
 refine ⟨_, (aV (aG (PW.pt (bf (aC (aI (be aW rfl rfl T.z_isinstance T.z_tuple aU (pv 0)))) (bh (aC (cn bJ bJ au (am aw rfl T.z_len PySem.boot_len (ac (pv 0) aq)) (aY (v := .int 3) rfl T.g_MOST_LAYERS ⟨_, rfl⟩)))))) (aZ (aj bc)) ar)
 (aV (aG (aC (aI (am (dz rfl) rfl T.z_all fQ (ac (dX rfl (bi (fr := [("x", 1), ("sides", 2)]) (osc := ae cu) (N := ["thing", "x", "sides", "used"]) rfl rfl (by decide +kernel)) (ck (pv 0)) (fun _ _ _ _ _ => (bv (bF G_za8 hr T.q_za8 (ac (pv 0) aq)) (bq (bF G_za9 hr T.q_za9 (ac (pv 0) (ac (pv 1) (ac (pv 2) aq)))))))) aq)))) (aZ (aj bc)) ar)
 (aV (az (i := 3) gB.nd rfl (Or.inr rfl) (dX rfl (bi (fr := []) (osc := ae cu) (N := ["thing", "x", "sides", "used"]) rfl rfl (by decide +kernel)) (ck (pv 0)) (fun _ _ _ _ _ => (af (r := iV B.K) bn (pv 0) au (fun _ _ => rfl)))))
 (aZ (aj (am (dz rfl) rfl T.z_all fQ (ac (dX rfl (bi (fr := [("sides", 2), ("used", 3)]) (osc := ae cu) (N := ["thing", "x", "sides", "used"]) rfl rfl (by decide +kernel)) (ck (aY (v := .ref t.g_SIDES) rfl T.g_SIDES rfl)) (fun _ _ _ _ _ => (jX (aK (r := vS B.K false) aP (pv 0) (pv 2) rfl) (bq (aK cA (bF G_zaj hr T.q_zaj (ac (pv 1) (ac (pv 0) aq))) aN (ay _)))))) aq))))))), go _ _ (bO (τ := [.fz _, .fz _, .fz _, .no]) rfl ?_)⟩
 cases hp with
 | @tup ls hl hq =>
  have φ : Φ (.fz (.bl ((decide (1 <= ls.length) && decide (ls.length <= 3)) && (ls.all (cJ k w0 w1) && ((decide (("left" : Str) ∈ ls.map bD) || w0.isN) && ((decide (("right" : Str) ∈ ls.map bD) || w1.isN) && true)))))) := φ
  kd_mark
  refine ah (fun h => ?_) (fun h => ?_)
  rotate_left
  ·rw [decide_eq_false (show ¬ 1 <= ls.length by omega), Bool.false_and, Bool.false_and] at φ
   sl_open
  rw [decide_eq_true (show 1 <= ls.length by omega), Bool.true_and] at φ
  kd_mark
  refine ah (fun h => ?_) (fun h => ?_)
  rotate_left
  ·rw [decide_eq_false (show ¬ ls.length <= 3 by omega), Bool.false_and] at φ
   sl_open
  rw [decide_eq_true (show ls.length <= 3 by omega), Bool.true_and] at φ
  kd_mark
  refine ij (dA rfl ?_)
  kd_mark
  refine ⟨_, .fz (by kt_join) (.fz (by kt_join) .nil), by omega, fun i o => ∃ x, ls[i]? = some x /\ o = .bl (cJ k w0 w1 x), fun i t ht => ?_, fun os hl2 ho => ?_⟩
  ·kd_mark
   intro _ _
   refine ⟨t, rfl, hq t (List.mem_of_getElem? ht), ?_⟩
   kd_mark
   refine aS (fun h => ?_) (fun h => ?_)
   rotate_left
   ·kd_mark
    exact ⟨t, ht, by rw [cW h]⟩
   obtain ⟨m, b, c, o, rfl⟩ := fP h
   kd_mark
   intro _ _
   refine ⟨m, b, c, o, a, k, r, w0, w1, rfl, s0, s1, ?_⟩
   kd_mark
   exact ⟨_, ht, by rw [oY h]⟩
  rw [gH (xs := ls) (f := cJ k w0 w1) hl2 ho]
  kd_mark
  refine gc rfl Rk.fz ?_
  rw [List.all_map, show (ls.all ((fun b => b) ∘ cJ k w0 w1)) = ls.all (cJ k w0 w1) from rfl]
  kd_mark
  refine aS (fun h => ?_) (fun h => ?_)
  rotate_left
  ·rw [h, Bool.false_and] at φ
   sl_open
  rw [h, Bool.true_and] at φ
  have hm : ∀ l ∈ ls, bS l = true := fun l hl => by
   cases e : bS l with
   | true => rfl
   | false => have := List.all_eq_true.mp h l hl; rw [cW e] at this; cases this
  kd_mark
  refine ij (dA rfl ?_)
  kd_mark
  refine ⟨[], .nil, by omega, fun i o => ∃ x, ls[i]? = some x /\ o = .str (bD x), fun i t ht => ?_, fun os hl3 ho3 => ?_⟩
  ·obtain ⟨m, b, c, o, rfl⟩ := fP (hm t (List.mem_of_getElem? ht))
   kd_mark
   exact ⟨_, ht, rfl⟩
  rw [im (xs := ls) (f := fun x => Tr.str (bD x)) hl3 ho3, show (ls.map fun x => Tr.str (bD x)) = (ls.map bD).map Tr.str by rw [List.map_map]; rfl]
  kd_mark
  refine ij (dA rfl ?_)
  kd_mark
  refine oZ (t := .tup ((["left", "right"] : List Str).map Tr.str)) (fun F => .tup (T.v_SIDES F) (.ofStrs _)) ?_
  kd_mark
  refine ⟨_, .fz (by kt_join) (.own (by kt_join) .nil), show (2 : Nat) <= 100000 by decide, fun i o => ∃ b, [false, true][i]? = some b /\ o = .bl (decide (bK b ∈ ls.map bD) || (if b = true then w1 else w0).isN), fun i t ht => ?_, fun os hl4 ho4 => ?_⟩
  ·obtain ⟨b, hb, rfl⟩ : ∃ b, [false, true][i]? = some b /\ t = .str (bK b) := by
    match i, ht with
    | 0, h => cases h; exact ⟨false, rfl, rfl⟩
    | 1, h => cases h; exact ⟨true, rfl, rfl⟩
   kd_mark
   refine jk (ws := ls.map bD) rfl (by dl_open) ?_
   kd_mark
   refine ah (fun h => ?_) (fun h => ?_)
   ·kd_mark
    exact ⟨b, hb, by rw [decide_eq_true h]; rfl⟩
   ·kd_mark
    intro _ _
    refine ⟨w0, w1, b, rfl, ?_⟩
    kd_mark
    refine dQ ?_
    kd_mark
    exact ⟨b, hb, by rw [decide_eq_false h]; rfl⟩
  rw [gH (xs := [false, true]) (f := fun b => decide (bK b ∈ ls.map bD) || (if b = true then w1 else w0).isN) hl4 ho4]
  kd_mark
  refine gc rfl Rk.fz ?_
  exact φ
 | _ => sl_open
noncomputable def cX (ls : List Tr) (t : Tr) : Bool := if ("heaps" : Str) ∈ ls.map dN then chanV ["order"] t else t.isN || chanV ["straight", "order"] t
noncomputable def lC : SpT := fun _ as Φ _ => ∃ (x : Tr) (ls : List Tr), as = [.fz x, .fz (.tup ls)] /\ cD x /\ ls.length <= 3 /\ (∀ l ∈ ls, bS l = true) /\ Φ (.fz (.bl (cX ls x)))
theorem kN (T : Txt K mg t) : FO P w base T.q_zbb 9 (bw K lC) := by
 have G_zac := @gg P w K mg base t T
 refine T.q_zbb.F.ok lW (aH (fun B as Φ Ψ h => by obtain ⟨_, _, rfl, _⟩ := h; rfl)) (fun cdv A outer s H vs Q E hr h => ?_)
 obtain ⟨B, as, Φ, Ψ, rfl, hS, hx, go⟩ := aA h
 obtain ⟨x, ls, rfl, hp, hl, hm, φ⟩ := hS
 unfold cX at φ
 refine ⟨_, (aV (aG (ao aP aa (dX rfl (bi (fr := []) (osc := ae eD) (N := ["thing", "layers"]) rfl rfl (by decide +kernel)) (ck (pv 1)) (fun _ _ _ _ _ => (af (r := iV B.K) bn (pv 0) au (fun _ _ => rfl)))) rfl) (aZ (aj (bF G_zac hr T.q_zac (ac (pv 0) (ac (ag (ac aa aq)) aq))))) ar)
 (aZ (aj (jX (aK cA (pv 0) aN (ay _)) (bq (bF G_zac hr T.q_zac (ac (pv 0) (ac (ag (ac aa (ac aa aq))) aq)))))))), go _ _ (bO (τ := [.fz _, .fz _]) rfl ?_)⟩
 kd_mark
 refine ij (dA rfl ?_)
 kd_mark
 refine ⟨[], .nil, by omega, fun i o => ∃ x, ls[i]? = some x /\ o = .str (dN x), fun i t ht => ?_, fun os hl3 ho3 => ?_⟩
 ·obtain ⟨m, b, c, o, rfl⟩ := fP (hm t (List.mem_of_getElem? ht))
  kd_mark
  exact ⟨_, ht, rfl⟩
 rw [im (xs := ls) (f := fun x => Tr.str (dN x)) hl3 ho3, show (ls.map fun x => Tr.str (dN x)) = (ls.map dN).map Tr.str by rw [List.map_map]; rfl]
 kd_mark
 refine jk (ws := ls.map dN) rfl Rk.fz ?_
 kd_mark
 refine ah (fun h => ?_) (fun h => ?_)
 ·rw [if_pos h] at φ
  kd_mark
  intro _ _
  refine ⟨x, ["order"], rfl, hp, ?_⟩
  sl_open
 rw [if_neg h] at φ
 kd_mark
 refine dQ ⟨_, rfl, ?_⟩
 refine aS (fun h => ?_) (fun h => ?_)
 ·rw [h, Bool.true_or] at φ
  sl_open
 ·rw [h, Bool.false_or] at φ
  kd_mark
  intro _ _
  refine ⟨x, ["straight", "order"], rfl, hp, ?_⟩
  sl_open
noncomputable def FRM : List Str := ["straight", "turns", "broken", "days", "order"]
noncomputable def Ch : Tr -> Str
 | .tup [_, .tup (.str k :: _)] => k
 | _ => ""
noncomputable def zD : Tr -> Tr
 | .tup [a, _] => a
 | _ => .non
noncomputable def yC : Tr -> Tr
 | .tup [_, b] => b
 | _ => .non
noncomputable def vB : Tr -> List Tr
 | .tup ls => ls
 | _ => []
noncomputable def eS (fs : List Str) (t : Tr) : Bool := t.isN || chanV fs t
noncomputable def cj (t0 t1 t2 t3 t4 t5 t6 t7 : Tr) : Option Str :=
 if ka t0 = false then some "steps" else if chanV FRM t1 = false then some "x" else if fL t2 = false then some "sides" else if dq (Ch t1) (zD t2) (yC t2) t3 = false then some "layers" else if cX (vB t3) t4 = false then some "colour" else if eS ["straight"] t5 = false then some "size" else if eS ["order"] t6 = false then some "facet" else if dE t7 = false then some "sheet" else none
noncomputable def hU : Tr -> Option (Option Str)
 | .tup [t0, t1, t2, t3, t4, t5, t6, t7] => (cj t0 t1 t2 t3 t4 t5 t6 t7).map some
 | _ => some none
noncomputable def pV : Option Str -> V
 | none => .non
 | some z => .str z
noncomputable def pTr : Option Str -> Tr
 | none => .non
 | some z => .str z
theorem ju {fs : List Str} {t : Tr} (h : chanV fs t = true) : ∃ a k r, t = .tup [a, .tup (.str k :: r)] /\ Ch t = k := by
 match t, h with
 | .tup [a, b], h =>
  have h : (wordV a && (wishV b && fg fs b)) = true := h
  rw [Bool.and_eq_true, Bool.and_eq_true] at h
  obtain ⟨k, r, rfl⟩ := ic h.2.1
  exact ⟨a, k, r, rfl, rfl⟩
theorem pd {t : Tr} (h : fL t = true) : ∃ a b, t = .tup [a, b] /\ sideV a = true /\ sideV b = true := by
 match t, h with
 | .tup ts, h =>
  have h : (decide (ts.length = 2) && ts.all sideV) = true := h
  rw [Bool.and_eq_true, decide_eq_true_eq] at h
  match ts, h with
  | [a, b], h =>
   have h2 := List.all_eq_true.mp h.2
   exact ⟨a, b, rfl, h2 a (by simp), h2 b (by simp)⟩
theorem rf {t : Tr} (h : dq k w0 w1 t = true) : ∃ ls, t = .tup ls /\ ls.length <= 3 /\ ∀ l ∈ ls, bS l = true := by
 match t, h with
 | .tup ls, h =>
  have h : ((decide (1 <= ls.length) && decide (ls.length <= 3)) && (ls.all (cJ k w0 w1) && ((decide (("left" : Str) ∈ ls.map bD) || w0.isN) && ((decide (("right" : Str) ∈ ls.map bD) || w1.isN) && true)))) = true := h
  rw [Bool.and_eq_true, Bool.and_eq_true, Bool.and_eq_true, decide_eq_true_eq] at h
  refine ⟨ls, rfl, of_decide_eq_true h.1.2, fun l hl => ?_⟩
  cases e : bS l with
  | true => rfl
  | false => have := List.all_eq_true.mp h.2.1 l hl; rw [cW e] at this; cases this
theorem jC (h : ts.length ≠ 8) : hU (.tup ts) = some none := by
 match ts, h with
 | [], _ => rfl
 | [_], _ => rfl
 | [_, _], _ => rfl
 | [_, _, _], _ => rfl
 | [_, _, _, _], _ => rfl
 | [_, _, _, _, _], _ => rfl
 | [_, _, _, _, _, _], _ => rfl
 | [_, _, _, _, _, _, _], _ => rfl
 | [_, _, _, _, _, _, _, _], h => exact absurd rfl h
 | _ :: _ :: _ :: _ :: _ :: _ :: _ :: _ :: _ :: _, _ => rfl
variable {x : Tr}
theorem ss {K : Fg} {v : V} {f : Tr -> Bool} (hv : Is K H v x) (hp : cD x) (q : ∀ H', aF H H' -> Q (.bl (f x)) H') : bw K (bL f) [v] H Q E :=
 jx (a := (0 : Nat)) (as := [.fz x]) (Φ := fun k => k = .fz (.bl (f x))) (.cons hv .nil) ⟨x, rfl, hp, rfl⟩ fun v F' H' k s _ _ r e => by
  subst e
  cases r
  exact q H' s
theorem mr {K : Fg} {v u : V} {fs : List Str} (hv : Is K H v x) (hu : Is K H u (.tup (fs.map Tr.str))) (hp : cD x) (q : ∀ H', aF H H' -> Q (.bl (chanV fs x)) H') : bw K lT [v, u] H Q E :=
 jx (a := (0 : Nat)) (as := [.fz x, .fz (.tup (fs.map Tr.str))]) (Φ := fun k => k = .fz (.bl (chanV fs x))) (.cons hv (.cons hu .nil)) ⟨x, fs, rfl, hp, rfl⟩ fun v F' H' k s _ _ r e => by
  subst e
  cases r
  exact q H' s
theorem zm {K : Fg} {v1 v2 v3 : V} {t1 t2 : Tr} (h3 : Is K H v3 x) (h1 : Is K H v1 t1) (h2 : Is K H v2 t2) (hp : cD x) (c1 : chanV FRM t1 = true) (c2 : fL t2 = true) (q : ∀ H', aF H H' -> Q (.bl (dq (Ch t1) (zD t2) (yC t2) x)) H') : bw K re [v3, v1, v2] H Q E := by
 obtain ⟨a, k, r, rfl, hk⟩ := ju c1
 obtain ⟨w0, w1, rfl, s0, s1⟩ := pd c2
 refine jx (a := (0 : Nat)) (as := [.fz x, .fz (.tup [a, .tup (.str k :: r)]), .fz (.tup [w0, w1])]) (Φ := fun k' => k' = .fz (.bl (dq k w0 w1 x))) (.cons h3 (.cons h1 (.cons h2 .nil))) ⟨x, a, k, r, w0, w1, rfl, hp, s0, s1, rfl⟩ fun v F' H' k s _ _ r e => ?_
 subst e
 cases r
 exact q H' s
theorem vk {K : Fg} {v u : V} {t3 : Tr} (hv : Is K H v x) (hu : Is K H u t3) (hp : cD x) (c3 : dq k w0 w1 t3 = true) (q : ∀ H', aF H H' -> Q (.bl (cX (vB t3) x)) H') : bw K lC [v, u] H Q E := by
 obtain ⟨ls, rfl, hl, hm⟩ := rf c3
 refine jx (a := (0 : Nat)) (as := [.fz x, .fz (.tup ls)]) (Φ := fun k => k = .fz (.bl (cX ls x))) (.cons hv (.cons hu .nil)) ⟨x, ls, rfl, hp, hl, hm, rfl⟩ fun v F' H' k s _ _ r e => ?_
 subst e
 cases r
 exact q H' s
theorem mV (T : Txt K mg t) : dR P w K mg base tF 1 t.fi_NoTelling t.di_NoTelling ["self", "part"] (mW t.c_NoTelling "part") := by
 refine T.Fi_NoTelling.ok kO (fun vs H Q E h => ?_) (fun cdv A outer s H vs Q E hr h => ?_)
 ·obtain ⟨a, v, rfl, _⟩ := h
  rfl
 obtain ⟨a, v, rfl, ha, q⟩ := h
 refine ⟨_, (aZ (wk (pv 0) (pv 1) rfl)), qt (σ := [some _, some _]) rfl ?_⟩
 f_look
 exact ⟨v, rfl, .ref a, rfl, a, _, _, rfl, ha, T.o_NoTelling, q⟩
noncomputable def sC (K : Fg) (C : Addr) : Sp := fun vs H Q E => ∃ (v : V) (x : Tr), vs = [v] /\ Is K H v x /\ cD x /\ (hU x = none -> ∀ H', aF H H' -> Q .non H') /\ ∀ p, hU x = some p -> ∀ dx H', aF H H' -> H' dx = some (.xd [("part", pV p)]) -> E (.ref C) (some dx) H'
theorem gQ (T : Txt K mg t) : dR P w K mg base (hI P w) 10 t.f_zao t.d_zao ["thing"] (sC K t.c_NoTelling) := by
 have G_ini_NoTelling := mV (P := P) (w := w) (base := base) T
 have G_za4 := @kP P w K mg base t T
 have G_zac := @gg P w K mg base t T
 have G_za5 := @kR P w K mg base t T
 have G_zba := @kD P w K mg base t T
 have G_zbb := @kN P w K mg base t T
 have G_zbc := @mi P w K mg base t T
 refine T.q_zao.F.toD.okL gI (fun vs H Q E h => ?_) (fun cdv A outer s H vs Q E hr hfr h => ?_)
 ·obtain ⟨v, x, rfl, _⟩ := h
  rfl
 obtain ⟨v, x, rfl, hv, hp, qn, qe⟩ := h
 have raise : ∀ (p : Option Str) (H2 : Hp), hU x = some p -> aF H H2 -> ∀ dx, H2 dx = none -> E (.ref t.c_NoTelling) (some dx) (upd H2 dx (.xd [("part", pV p)])) := fun p H2 e s2 dx hdx => qe p e dx _ (s2.trans (aF.new hdx _)) aL
 refine ⟨_, (aV (aG (PW.pt (bf (aC (aI (be aW rfl rfl T.z_isinstance T.z_tuple aU (pv 0)))) (bh (ao dH (am aw rfl T.z_len PySem.boot_len (ac (pv 0) aq)) (aY (v := .int 8) rfl T.g_PARTS ⟨_, rfl⟩) (ay _))))) (aZ (cp rfl rfl T.o_NoTelling G_ini_NoTelling T.bi_NoTelling (hr.mono (by decide)) T.m_NoTelling rfl cS (ac aN aq))) ar)
 (aV (aG (aC (aI (bF G_za4 hr T.q_za4 (ac (af bn (pv 0) au (fun _ _ => rfl)) aq)))) (aZ (cp rfl rfl T.o_NoTelling G_ini_NoTelling T.bi_NoTelling (hr.mono (by decide)) T.m_NoTelling rfl cS (ac aa aq))) ar)
 (aV (aG (aC (aI (bF G_zac hr T.q_zac (ac (af bn (pv 0) au (fun _ _ => rfl)) (ac (aY (v := .ref t.g_FORMS) rfl T.g_FORMS rfl) aq))))) (aZ (cp rfl rfl T.o_NoTelling G_ini_NoTelling T.bi_NoTelling (hr.mono (by decide)) T.m_NoTelling rfl cS (ac aa aq))) ar)
 (aV (aG (aC (aI (bF G_za5 hr T.q_za5 (ac (af bn (pv 0) au (fun _ _ => rfl)) aq)))) (aZ (cp rfl rfl T.o_NoTelling G_ini_NoTelling T.bi_NoTelling (hr.mono (by decide)) T.m_NoTelling rfl cS (ac aa aq))) ar)
 (aV (aG (aC (aI (bF G_zba hr T.q_zba (ac (af bn (pv 0) au (fun _ _ => rfl)) (ac (af bn (pv 0) au (fun _ _ => rfl)) (ac (af bn (pv 0) au (fun _ _ => rfl)) aq)))))) (aZ (cp rfl rfl T.o_NoTelling G_ini_NoTelling T.bi_NoTelling (hr.mono (by decide)) T.m_NoTelling rfl cS (ac aa aq))) ar)
 (aV (aG (aC (aI (bF G_zbb hr T.q_zbb (ac (af bn (pv 0) au (fun _ _ => rfl)) (ac (af bn (pv 0) au (fun _ _ => rfl)) aq))))) (aZ (cp rfl rfl T.o_NoTelling G_ini_NoTelling T.bi_NoTelling (hr.mono (by decide)) T.m_NoTelling rfl cS (ac aa aq))) ar)
 (aV (aG (PW.pt (cV (ao dw (af bn (pv 0) au (fun _ _ => rfl)) aN (ay _)) (ce (aC (aI (bF G_zac hr T.q_zac (ac (af bn (pv 0) au (fun _ _ => rfl)) (ac (ag (ac aa aq)) aq)))))))) (aZ (cp rfl rfl T.o_NoTelling G_ini_NoTelling T.bi_NoTelling (hr.mono (by decide)) T.m_NoTelling rfl cS (ac aa aq))) ar)
 (aV (aG (PW.pt (cV (ao dw (af bn (pv 0) au (fun _ _ => rfl)) aN (ay _)) (ce (aC (aI (bF G_zac hr T.q_zac (ac (af bn (pv 0) au (fun _ _ => rfl)) (ac (ag (ac aa aq)) aq)))))))) (aZ (cp rfl rfl T.o_NoTelling G_ini_NoTelling T.bi_NoTelling (hr.mono (by decide)) T.m_NoTelling rfl cS (ac aa aq))) ar)
 (aZ (aG (aC (aI (bF G_zbc hr T.q_zbc (ac (af bn (pv 0) au (fun _ _ => rfl)) aq)))) (aZ (cp rfl rfl T.o_NoTelling G_ini_NoTelling T.bi_NoTelling (hr.mono (by decide)) T.m_NoTelling rfl cS (ac aa aq))) ar)))))))))), qt (σ := [some _]) rfl ?_⟩
 cases hp with
 | @tup ts hl hq =>
  cases hv with
  | @tup pt us _ hs g =>
  have ul := g.length
  by_cases h8 : ts.length = 8
  rotate_left
  ·f_look
   refine ah (fun y => absurd y (by omega)) (fun _ => ?_)
   f_look
   exact ⟨.non, rfl, raise none H (jC h8) (aF.refl _)⟩
  match ts, h8, hq, g, raise, qn with
  | [t0, t1, t2, t3, t4, t5, t6, t7], _, hq, g, raise, qn =>
  cases g with
  | @cons v0 _ _ _ g0 g =>
  cases g with
  | @cons v1 _ _ _ g1 g =>
  cases g with
  | @cons v2 _ _ _ g2 g =>
  cases g with
  | @cons v3 _ _ _ g3 g =>
  cases g with
  | @cons v4 _ _ _ g4 g =>
  cases g with
  | @cons v5 _ _ _ g5 g =>
  cases g with
  | @cons v6 _ _ _ g6 g =>
  cases g with
  | @cons v7 _ _ _ g7 g =>
  cases g
  have e0 : hU (.tup [t0, t1, t2, t3, t4, t5, t6, t7]) = (cj t0 t1 t2 t3 t4 t5 t6 t7).map some := rfl
  unfold cj at e0
  have p0 := hq t0 (by simp)
  have p1 := hq t1 (by simp)
  have p2 := hq t2 (by simp)
  have p3 := hq t3 (by simp)
  have p4 := hq t4 (by simp)
  have p5 := hq t5 (by simp)
  have p6 := hq t6 (by simp)
  have p7 := hq t7 (by simp)
  clear hq
  f_look
  refine ah (fun _ => ?_) (fun y => absurd (show (([v0, v1, v2, v3, v4, v5, v6, v7].length : Nat) : Int) = 8 from rfl) y)
  f_look
  refine ss g0 p0 fun H1 s1 => ?_
  cases c0 : ka t0 with
  | false =>
   rw [if_pos c0] at e0
   f_look
   exact ⟨_, rfl, raise (some "steps") H1 e0 s1⟩
  | true =>
  rw [c0, if_neg nofun] at e0
  have hs1 := s1.tup hs
  f_look
  refine mr (fs := FRM) (g1.same s1) (.tup (T.v_FORMS _) (.ofStrs _)) p1 fun H2 s2 => ?_
  have s12 := s1.trans s2
  have hs2 := s12.tup hs
  cases c1 : chanV FRM t1 with
  | false =>
   rw [if_pos c1] at e0
   f_look
   exact ⟨_, rfl, raise (some "x") H2 e0 s12⟩
  | true =>
  rw [c1, if_neg nofun] at e0
  f_look
  refine ss (g2.same s12) p2 fun H3 s3 => ?_
  have s13 := s12.trans s3
  have hs3 := s13.tup hs
  cases c2 : fL t2 with
  | false =>
   rw [if_pos c2] at e0
   f_look
   exact ⟨_, rfl, raise (some "sides") H3 e0 s13⟩
  | true =>
  rw [c2, if_neg nofun] at e0
  f_look
  refine zm (g3.same s13) (g1.same s13) (g2.same s13) p3 c1 c2 fun H4 s4 => ?_
  have s14 := s13.trans s4
  have hs4 := s14.tup hs
  cases c3 : dq (Ch t1) (zD t2) (yC t2) t3 with
  | false =>
   rw [if_pos c3] at e0
   f_look
   exact ⟨_, rfl, raise (some "layers") H4 e0 s14⟩
  | true =>
  rw [c3, if_neg nofun] at e0
  f_look
  refine vk (g4.same s14) (g3.same s14) p4 c3 fun H5 s5 => ?_
  have s15 := s14.trans s5
  have hs5 := s15.tup hs
  cases c4 : cX (vB t3) t4 with
  | false =>
   rw [if_pos c4] at e0
   f_look
   exact ⟨_, rfl, raise (some "colour") H5 e0 s15⟩
  | true =>
  rw [c4, if_neg nofun] at e0
  f_look
  refine ⟨rfl, ?_⟩
  rw [jO (g5.same s15)]
  cases n5 : t5.isN with
  | true =>
   rw [if_neg (by unfold eS; rw [n5]; exact nofun)] at e0
   f_look
   refine ⟨rfl, ?_⟩
   rw [jO (g6.same s15)]
   cases n6 : t6.isN with
   | true =>
    rw [if_neg (by unfold eS; rw [n6]; exact nofun)] at e0
    f_look
    refine ss (g7.same s15) p7 fun H9 s9 => ?_
    cases c7 : dE t7 with
    | false =>
     rw [if_pos c7] at e0
     f_look
     exact ⟨_, rfl, raise (some "sheet") H9 e0 (s15.trans s9)⟩
    | true =>
     rw [c7, if_neg nofun] at e0
     f_look
     exact qn e0 H9 (s15.trans s9)
   | false =>
    have eo : eS ["order"] t6 = chanV ["order"] t6 := by unfold eS; rw [n6]; rfl
    rw [eo] at e0
    f_look
    rename_i q6 J6 nq6 sq6 eq6
    have S6 := s15.trans sq6
    refine mr (fs := ["order"]) (g6.same S6) (.tup (ci.of eq6) (.ofStrs ["order"])) p6 fun L6 r6 => ?_
    have S6b := S6.trans r6
    have hz6 := S6b.tup hs
    cases d6 : chanV ["order"] t6 with
    | false =>
     rw [if_pos d6] at e0
     f_look
     exact ⟨_, rfl, raise (some "facet") L6 e0 S6b⟩
    | true =>
     rw [d6, if_neg nofun] at e0
     f_look
     refine ss (g7.same S6b) p7 fun H9 s9 => ?_
     cases c7 : dE t7 with
     | false =>
      rw [if_pos c7] at e0
      f_look
      exact ⟨_, rfl, raise (some "sheet") H9 e0 (S6b.trans s9)⟩
     | true =>
      rw [c7, if_neg nofun] at e0
      f_look
      exact qn e0 H9 (S6b.trans s9)
  | false =>
   have eo : eS ["straight"] t5 = chanV ["straight"] t5 := by unfold eS; rw [n5]; rfl
   rw [eo] at e0
   f_look
   rename_i q5 J5 nq5 sq5 eq5
   have S5 := s15.trans sq5
   refine mr (fs := ["straight"]) (g5.same S5) (.tup (ci.of eq5) (.ofStrs ["straight"])) p5 fun L5 r5 => ?_
   have S5b := S5.trans r5
   have hz5 := S5b.tup hs
   cases d5 : chanV ["straight"] t5 with
   | false =>
    rw [if_pos d5] at e0
    f_look
    exact ⟨_, rfl, raise (some "size") L5 e0 S5b⟩
   | true =>
    rw [d5, if_neg nofun] at e0
    f_look
    refine ⟨rfl, ?_⟩
    rw [jO (g6.same S5b)]
    cases n6 : t6.isN with
    | true =>
     rw [if_neg (by unfold eS; rw [n6]; exact nofun)] at e0
     f_look
     refine ss (g7.same S5b) p7 fun H9 s9 => ?_
     cases c7 : dE t7 with
     | false =>
      rw [if_pos c7] at e0
      f_look
      exact ⟨_, rfl, raise (some "sheet") H9 e0 (S5b.trans s9)⟩
     | true =>
      rw [c7, if_neg nofun] at e0
      f_look
      exact qn e0 H9 (S5b.trans s9)
    | false =>
     have eo : eS ["order"] t6 = chanV ["order"] t6 := by unfold eS; rw [n6]; rfl
     rw [eo] at e0
     f_look
     rename_i q6 J6 nq6 sq6 eq6
     have S6 := S5b.trans sq6
     refine mr (fs := ["order"]) (g6.same S6) (.tup (ci.of eq6) (.ofStrs ["order"])) p6 fun L6 r6 => ?_
     have S6b := S6.trans r6
     have hz6 := S6b.tup hs
     cases d6 : chanV ["order"] t6 with
     | false =>
      rw [if_pos d6] at e0
      f_look
      exact ⟨_, rfl, raise (some "facet") L6 e0 S6b⟩
     | true =>
      rw [d6, if_neg nofun] at e0
      f_look
      refine ss (g7.same S6b) p7 fun H9 s9 => ?_
      cases c7 : dE t7 with
      | false =>
       rw [if_pos c7] at e0
       f_look
       exact ⟨_, rfl, raise (some "sheet") H9 e0 (S6b.trans s9)⟩
      | true =>
       rw [c7, if_neg nofun] at e0
       f_look
       exact qn e0 H9 (S6b.trans s9)
 | non => cases hv; f_look; exact ⟨.non, rfl, raise none H rfl (aF.refl _)⟩
 | bl => cases hv; f_look; exact ⟨.non, rfl, raise none H rfl (aF.refl _)⟩
 | int => cases hv; f_look; exact ⟨.non, rfl, raise none H rfl (aF.refl _)⟩
 | str _ => cases hv; f_look; exact ⟨.non, rfl, raise none H rfl (aF.refl _)⟩
 | lst _ _ => f_look; refine ⟨_, .lst, rfl, vH (aF.refl _) hv rfl, ?_⟩; rw [show Tg.lst.isTup = false from rfl]; f_look; exact ⟨.non, rfl, raise none H rfl (aF.refl _)⟩
 | dct => f_look; refine ⟨_, .dic, rfl, vH (aF.refl _) hv rfl, ?_⟩; rw [show Tg.dic.isTup = false from rfl]; f_look; exact ⟨.non, rfl, raise none H rfl (aF.refl _)⟩
noncomputable def fwL : Option (Option Str) -> List V
 | none => []
 | some p => [pV p]
noncomputable def fwT : Option (Option Str) -> List Tr
 | none => []
 | some p => [pTr p]
noncomputable def uI (K : Fg) : Sp := fun vs H Q _ => ∃ (v : V) (x : Tr), vs = [v] /\ Is K H v x /\ cD x /\ ∀ p H', aF H H' -> H p = none -> H' p = some (.lst (fwL (hU x))) -> Q (.ref p) H'
theorem zv {j : Nat} {sp : Sp} {C : Addr} {t : TA} {ts : Addr -> TS} {D : Ends} {σ : St} (h : t σ H fun vs H1 => sp vs H1 (fun v H2 => v = .non /\ D.nx σ H2) fun cls d H2 => cls = .ref C /\ ∃ dd, d = some dd /\ ∀ a, H2 a = none -> ts a (jS j D) (σ.set j (some (.ref a))) (upd H2 a (gR a C dd))) : yi j sp C t ts D σ H := h
theorem zX {K : Fg} {ta : TE} {f : Str} {σ : St} (h : ta σ H fun x H1 => ∃ a C dx fs v, x = .ref a /\ (H1 a = some (eW a C dx) ∨ H1 a = some (gR a C dx)) /\ H1 dx = some (.xd fs) /\ (jF K C /\ vP K C f /\ PySem.W.hasDictIn K C = true) /\ fs.lookup f = some v /\ Q v H1) : xP K ta f σ H Q := h
theorem rW {H2 : Hp} {a : Addr} (s : aF H H2) (h : H2 a = none) : H a = none := by
 cases e : H a with
 | none => rfl
 | some o => rw [s a o e] at h; cases h
theorem mP (T : Txt K mg t) : FO P w base T.q_zak 11 (uI K) := by
 have G_zao := @gQ P w K mg base t T
 refine T.q_zak.F.ok bU (fun vs H Q E h => ?_) (fun cdv A outer s H vs Q E hr h => ?_)
 ·obtain ⟨v, x, rfl, _⟩ := h
  rfl
 obtain ⟨v, x, rfl, hv, hp, q⟩ := h
 refine ⟨_, (aV (az (i := 1) bU.nd rfl (Or.inl rfl) aN)
 (aV (wM (j := 2) (T := t.c_MarkError) (C := t.c_NoTelling) G_zao (hr.mono (by decide)) rfl T.q_zao.m T.q_zao.k T.q_zao.b (fun _ _ z => z) rfl rfl (ac (pv 0) aq) bU.nd rfl rfl rfl ⟨rfl, T.m_MarkError, T.eo_NoTelling_MarkError, by decide⟩ rfl (fun a => (aZ (az (i := 1) bU.nd rfl (Or.inl rfl) (pv 2)))))
 (aV (aG (ao cA (pv 1) aN (ay _)) (aZ (aj (aD aq))) ar)
 (aV (az (i := 3) bU.nd rfl (Or.inl rfl) (aD (ac (am (kW (c := .ref t.c_NoDay) (u := .ref t.c_NoDay) (fun _ z => z)) rfl T.z_isinstance bj (ac (pv 1) (ac (aY (v := .ref t.c_NoDay) rfl T.m_NoDay rfl) aq))) (ac (am (kW (c := .ref t.c_NoName) (u := .ref t.c_NoName) (fun _ z => z)) rfl T.z_isinstance bj (ac (pv 1) (ac (aY (v := .ref t.c_NoName) rfl T.m_NoName rfl) aq))) (ac (am (kW (c := .ref t.c_NoNumber) (u := .ref t.c_NoNumber) (fun _ z => z)) rfl T.z_isinstance bj (ac (pv 1) (ac (aY (v := .ref t.c_NoNumber) rfl T.m_NoNumber rfl) aq))) aq)))))
 (aV (az (i := 3) bU.nd rfl (Or.inl rfl) (al cc (pv 3) (aD (ac (am (kW (c := .ref t.c_NoPlan) (u := .ref t.c_NoPlan) (fun _ z => z)) rfl T.z_isinstance bj (ac (pv 1) (ac (aY (v := .ref t.c_NoPlan) rfl T.m_NoPlan rfl) aq))) (ac (am (kW (c := .ref t.c_NoRow) (u := .ref t.c_NoRow) (fun _ z => z)) rfl T.z_isinstance bj (ac (pv 1) (ac (aY (v := .ref t.c_NoRow) rfl T.m_NoRow rfl) aq))) (ac (am (kW (c := .ref t.c_NoSpace) (u := .ref t.c_NoSpace) (fun _ z => z)) rfl T.z_isinstance bj (ac (pv 1) (ac (aY (v := .ref t.c_NoSpace) rfl T.m_NoSpace rfl) aq))) aq))))))
 (aV (az (i := 3) bU.nd rfl (Or.inl rfl) (al cc (pv 3) (aD (ac (am (kW (c := .ref t.c_NoTable) (u := .ref t.c_NoTable) (fun _ z => z)) rfl T.z_isinstance bj (ac (pv 1) (ac (aY (v := .ref t.c_NoTable) rfl T.m_NoTable rfl) aq))) (ac (am (kW (c := .ref t.c_TooMany) (u := .ref t.c_TooMany) (fun _ z => z)) rfl T.z_isinstance bj (ac (pv 1) (ac (aY (v := .ref t.c_TooMany) rfl T.m_TooMany rfl) aq))) aq)))))
 (aV (aG (PW.pt (bf (ao aP bc (pv 3) rfl) (bf (aC (aI (am (kW (c := .ref t.c_NoTelling) (u := .ref t.c_NoTelling) (fun _ z => z)) rfl T.z_isinstance bj (ac (pv 1) (ac (aY (v := .ref t.c_NoTelling) rfl T.m_NoTelling rfl) aq))))) (bh (aC (aI (am (kW (c := .ty "ValueError") (u := .type "ValueError") (fun _ z => z)) rfl T.z_isinstance bj (ac (pv 1) (ac (rP (v := .ty "ValueError") rfl T.z_ValueError kL rfl) aq))))))))) (aZ (aj (aD (ac aa aq)))) ar)
 (aZ (aj (aD (ac (ww (pv 1) rfl) aq))))))))))), qt (σ := [some _, none, none, none]) rfl ?_⟩
 f_look
 refine zv ?_
 f_look
 refine ⟨v, x, rfl, hv, hp, fun e H2 s2 => ⟨rfl, ?_⟩, fun p e dx H2 s2 e2 => ⟨rfl, dx, rfl, fun ax hax => ?_⟩⟩
 ·rw [e] at q
  f_look
  refine jJ (Nat.le_of_ble_eq_true rfl) (fun l H3 hn s3 e3 => ?_)
  exact q l H3 (s2.trans s3) (rW s2 hn) e3
 ·rw [e] at q
  simp only [List.set_cons_succ, List.set_cons_zero]
  have s6 : aF H2 (upd H2 ax (gR ax t.c_NoTelling dx)) := aF.new hax _
  have h6 : (upd H2 ax (gR ax t.c_NoTelling dx)) ax = some (gR ax t.c_NoTelling dx) := aL
  have e6 := s6 _ _ e2
  generalize upd H2 ax (gR ax t.c_NoTelling dx) = H6 at *
  unfold jS
  f_look
  refine ⟨ax, _, dx, false, rfl, h6, T.y_NoTelling, T.kk_NoTelling_NoDay, ?_⟩
  f_look
  refine ⟨ax, _, dx, false, rfl, h6, T.y_NoTelling, T.kk_NoTelling_NoName, ?_⟩
  f_look
  refine ⟨ax, _, dx, false, rfl, h6, T.y_NoTelling, T.kk_NoTelling_NoNumber, ?_⟩
  f_look
  refine jJ (Nat.le_of_ble_eq_true rfl) (fun l1 H7 n7 s7 e7 => ?_)
  simp only [List.set_cons_succ, List.set_cons_zero]
  have h7 := s7 _ _ h6
  f_look
  refine ⟨ax, _, dx, false, rfl, h7, T.y_NoTelling, T.kk_NoTelling_NoPlan, ?_⟩
  f_look
  refine ⟨ax, _, dx, false, rfl, h7, T.y_NoTelling, T.kk_NoTelling_NoRow, ?_⟩
  f_look
  refine ⟨ax, _, dx, false, rfl, h7, T.y_NoTelling, T.kk_NoTelling_NoSpace, ?_⟩
  f_look
  refine jJ (Nat.le_of_ble_eq_true rfl) (fun l2 H8 n8 s8 e8 => ?_)
  f_look
  refine vJ (cg.of (s8 _ _ e7)) (cg.of e8) (Nat.le_of_ble_eq_true rfl) (fun l3 H9 n9 s9 e9 => ?_)
  have h9 := s9 _ _ (s8 _ _ h7)
  f_look
  refine ⟨ax, _, dx, false, rfl, h9, T.y_NoTelling, T.kk_NoTelling_NoTable, ?_⟩
  f_look
  refine ⟨ax, _, dx, false, rfl, h9, T.y_NoTelling, T.kk_NoTelling_TooMany, ?_⟩
  f_look
  refine jJ (Nat.le_of_ble_eq_true rfl) (fun l4 Ha na sa ea => ?_)
  f_look
  refine vJ (cg.of (sa _ _ e9)) (cg.of ea) (Nat.le_of_ble_eq_true rfl) (fun l5 Hb nb sb eb => ?_)
  have hb := sb _ _ (sa _ _ h9)
  have s6b : aF H6 Hb := s7.trans (s8.trans (s9.trans (sa.trans sb)))
  f_look
  refine Ef (cg.of eb) rfl rfl ?_
  f_look
  refine xK rfl ?_
  f_look
  refine ⟨ax, _, dx, true, rfl, hb, T.y_NoTelling, T.kk_NoTelling_NoTelling, ?_⟩
  f_look
  refine ⟨ax, _, dx, true, rfl, hb, T.y_NoTelling, T.kk_NoTelling_ValueError, ?_⟩
  f_look
  refine zX ?_
  f_look
  refine ⟨ax, _, dx, _, pV p, rfl, .inr hb, s6b _ _ e6, ⟨T.y_NoTelling, T.o_NoTelling.na, T.o_NoTelling.hd⟩, by simp [List.lookup_cons], ?_⟩
  f_look
  refine jJ (Nat.le_of_ble_eq_true rfl) (fun l6 Hc nc sc ec => ?_)
  have sH : aF H Hb := s2.trans (s6.trans s6b)
  exact q l6 Hc (sH.trans sc) (rW sH nc) ec
theorem Ed {K : Fg} {F : Hp} (p : Option Str) : Is K F (pV p) (pTr p) := by
 cases p with
 | none => exact .non
 | some z => exact .str
theorem BH {K : Fg} {F : Hp} (o : Option (Option Str)) : IsL K F (fwL o) (fwT o) := by
 cases o with
 | none => exact .nil
 | some p => exact .cons (Ed p) .nil
noncomputable def tW : SpT := fun _ as Φ _ => ∃ x : Tr, as = [.fz x] /\ cD x /\ Φ (.nw (.lst (fwT (hU x))))
theorem gE (T : Txt K mg t) : FO P w base T.q_zak 11 (bw K tW) := by
 refine (mP (P := P) (w := w) (base := base) T).imp fun vs H Q E h => ?_
 obtain ⟨B, as, Φ, Ψ, rfl, rfl, bk, la, ⟨x, rfl, hp, φ⟩, q, _⟩ := h
 cases la with
 | cons iv la =>
  cases la
  have iv : Is B.K B.F0 _ x := iv
  exact ⟨_, x, rfl, iv.same bk.i, hp, fun p H' s n e => q (.ref p) _ H' _ (AO bk rfl rfl s) (vo bk n e (BH _)) φ⟩
variable {y : Kd} {τ : TSt} {Φ : TK}
theorem uQ {r r' : R2} {x : Kd} (h : RO B r x y τ Φ) : RO B (fun a b H Q => r a b H Q ∨ r' a b H Q) x y τ Φ := fun σ F H v w Q r a b c => .inl (h σ F H v w Q r a b c)
theorem yR {r r' : R2} {x : Kd} (h : RO B r' x y τ Φ) : RO B (fun a b H Q => r a b H Q ∨ r' a b H Q) x y τ Φ := fun σ F H v w Q r a b c => .inr (h σ F H v w Q r a b c)
theorem sU {i j : Str} (q : Φ (.fz (.bl (!(!(Builtin.Str.occurrences j i 0 j.length 1).isEmpty)))) τ) : RO B (fun x y H Q => ∃ i j, x = V.str i /\ y = V.str j /\ Q (.bl (!(!(Builtin.Str.occurrences j i 0 j.length 1).isEmpty))) H) (.fz (.str i)) (.fz (.str j)) τ Φ := fun σ F H v w Q r a b c => by
 cases (show Is B.K F v (.str i) from a)
 cases (show Is B.K F w (.str j) from b)
 exact ⟨i, j, rfl, rfl, c.pl r .bl q⟩
theorem xc {K : Fg} {f : Bool -> Bool} {x : Kd} (hK : K = B.K) {ns ms : List Int} (r1 : Rk τ x (.tup (ns.map Tr.int))) (r2 : Rk τ y (.tup (ms.map Tr.int))) (q : Φ (.fz (.bl (f (decide (ns = ms))))) τ) : RO B (Cy K f) x y τ Φ := fun σ F H v w Q r a b c => by
 subst hK
 obtain ⟨p, vs, rfl, s, l⟩ := r1.tuple r a
 obtain ⟨p2, ws, rfl, s2, l2⟩ := r2.tuple r b
 cases l.ints
 cases l2.ints
 exact ⟨p, p2, ns, ms, rfl, rfl, s, s2, c.pl r .bl q⟩
theorem gz {f : α -> Bool} {g : α -> Tr} : ∀ {xs : List α} {os : List (Option Tr)}, os.length = xs.length -> (∀ (i : Nat) (o : Option Tr), os[i]? = some o -> ∃ x, xs[i]? = some x /\ o = if f x = true then none else some (g x)) -> (os.filterMap id).isEmpty = xs.all f
 | [], os, hl, _ => by rw [List.eq_nil_of_length_eq_zero hl]; rfl
 | x :: xs, [], hl, _ => by simp at hl
 | x :: xs, o :: os, hl, h => by
  obtain ⟨x', e, ho⟩ := h 0 o rfl
  cases e
  have ih := gz (f := f) (g := g) (xs := xs) (os := os) (by simpa using hl) fun j o e => h (j + 1) o e
  rw [List.filterMap_cons, ho, List.all_cons]
  cases hb : f x with
  | true => rw [if_pos rfl, Bool.true_and]; exact ih
  | false => rw [if_neg Bool.false_ne_true, Bool.false_and]; rfl
theorem fU (T : Txt K mg t) : FO P w base T.q_zab 1 (bw K oX) := by
 refine T.q_zab.F.ok pw (aH (fun B as Φ Ψ h => by obtain ⟨_, rfl, _⟩ := h; rfl)) (fun cdv A outer s H vs Q E hr h => ?_)
 obtain ⟨B, as, Φ, Ψ, rfl, hS, hx, go⟩ := aA h
 obtain ⟨t0, rfl, hp, φ⟩ := hS
 refine ⟨_, (aZ (aj (bv (be rK rfl rfl T.z_isinstance T.z_int iF (pv 0)) (bq (qk (be ix rfl rfl T.z_isinstance T.z_bool jA (pv 0))))))), go _ _ (bO (τ := [.fz _]) rfl ?_)⟩
 cases hp <;> (kd_mark; exact φ)
theorem eN (T : Txt K mg t) : FO P w base T.q_zag 1 (bw K (bL wordV)) := by
  refine T.q_zag.F.ok mZ (aH (fun B as Φ Ψ h => by obtain ⟨_, rfl, _⟩ := h; rfl)) (fun cdv A outer s H vs Q E hr h => ?_)
  obtain ⟨B, as, Φ, Ψ, rfl, hS, hx, go⟩ := aA h
  obtain ⟨t0, rfl, hp, φ⟩ := hS
  refine ⟨_, (aV (aG (PW.pt (bf (aC (aI (be jv rfl rfl T.z_isinstance T.z_str mI (pv 0)))) (bh (aC (cn bJ bJ au (am iA rfl T.z_len PySem.boot_len (ac (pv 0) aq)) au))))) (aZ (aj bc)) ar)
  (aZ (aj (aK (qj hr.units0) (gw (tg := "_law_sign") (fr := []) rfl (cE (osc := ae eC) (N := ["_law_thing"]) rfl rfl (by decide +kernel)) (uK (pv 0)) (fun _ _ _ _ _ => (ao mw (pv 0) aa rfl)) (fun _ _ _ _ _ => (pv 0))) (aD aq) (ay _))))), go _ _ (bO (τ := [.fz _]) rfl ?_)⟩
  cases hp with
  | @str z hz =>
    have φ : Φ (.fz (.bl (decide (1 <= z.length) && (decide (z.length <= 8) && z.cps.toList.all gi)))) := φ
    kd_mark
    refine qP (gq (by omega)) ?_
    kd_mark
    refine ah (fun h1 => ?_) (fun h1 => ?_)
    rotate_left
    · kd_mark
      rw [decide_eq_false (show ¬ 1 <= z.length by omega), Bool.false_and] at φ
      exact φ
    rw [decide_eq_true (show 1 <= z.length by omega), Bool.true_and] at φ
    kd_mark
    refine ah (fun h2 => ?_) (fun h2 => ?_)
    rotate_left
    · kd_mark
      rw [decide_eq_false (show ¬ z.length <= 8 by omega), Bool.false_and] at φ
      exact φ
    rw [decide_eq_true (show z.length <= 8 by omega), Bool.true_and] at φ
    have ls : (dG z).length = z.cps.toList.length := by unfold dG; rw [List.length_map]
    have lz : z.cps.toList.length <= 8 := by have : z.cps.toList.length = z.length := by simp [Str.length]
                                             omega
    kd_mark
    refine gb (xG ?_)
    kd_mark
    refine ⟨z, rfl, [], .nil, by rw [ls]; omega, fun i o => ∃ c, z.cps.toList[i]? = some c /\ o = if gi c = true then none else some (.str ⟨#[c]⟩), fun i t ht => ?_, fun os hl ho => ?_⟩
    · unfold dG at ht
      rw [List.getElem?_map] at ht
      cases e : z.cps.toList[i]? with
      | none => rw [e] at ht; cases ht
      | some c =>
        rw [e] at ht
        cases ht
        kd_mark
        refine sU ?_
        rw [jU]
        cases hb : gi c with
        | true =>
          kd_mark
          exact ⟨c, e, by rw [hb]; rfl⟩
        | false =>
          kd_mark
          exact ⟨c, e, by rw [hb]; rfl⟩
    · have ee := gz (f := gi) (g := fun c => Tr.str ⟨#[c]⟩) (xs := z.cps.toList) (by rw [hl, ls]) ho
      kd_mark
      refine gM rfl (by dl_open) Rk.fz ?_
      rw [ee]
      exact φ
  | _ => sl_open
variable {a : Int}
theorem tL {b : Int} : aR (.tup [.int a, .int b]) = ((decide (1 <= b) && decide (((Int.gcd a b : Nat) : Int) = 1)) && (decide ((if a < 0 then -a else a) < 1000000000000000000) && decide (b <= 60))) := rfl
theorem uN (h : ts.length ≠ 2) : aR (.tup ts) = false := by
 match ts, h with
 | [], _ => rfl
 | [a], _ => cases a <;> rfl
 | [_, _], h => exact absurd rfl h
 | a :: b :: _ :: _, _ => cases a <;> cases b <;> rfl
noncomputable def xj (t b : Int) : Int := t / ((Int.gcd t b : Nat) : Int)
noncomputable def qC (t b : Int) : Int := b / ((Int.gcd t b : Nat) : Int)
noncomputable def AM (b t : Int) : Tr := N2 (xj t b) (qC t b)
noncomputable def yB : SpT := fun _ as Φ _ => ∃ (t b : Int), as = [.fz (.int t), .fz (.int b)] /\ 0 < b /\ b <= 60 /\ Φ (.fz (AM b t))
theorem iW (T : Txt K mg t) : FO P w base T.q_zah 1 (bw K yB) := by
 refine (tZ (P := P) (w := w) (base := base) T).imp fun vs H Q E h => ?_
 obtain ⟨B, as, Φ, Ψ, rfl, rfl, bk, la, ⟨tp, b, rfl, hb, hb2, φ⟩, q, _⟩ := h
 obtain ⟨v1, v2, rfl, i1, i2⟩ := uX la
 cases i1
 cases i2
 refine ⟨tp, b, rfl, hb, (show My.Bd 62 b by unfold My.Bd; omega).mono (by decide), fun p H' s e => ?_⟩
 refine q (.ref p) _ H' (.fz (AM b tp)) (AO bk rfl rfl s) ?_ φ
 exact .tup (ci.addT (bk.i.trans s) (ci.of e)) (.cons .int (.cons .int .nil))
theorem ue {b : Int} (hb : 1 <= b) : decide ([xj a b, qC a b] = [a, b]) = decide (((Int.gcd a b : Nat) : Int) = 1) := by
 rw [decide_eq_decide]
 unfold xj qC
 have g0 := My.gcd_pos (a := a) (show 0 < b by omega)
 generalize ((Int.gcd a b : Nat) : Int) = g at *
 constructor
 ·intro h
  simp only [List.cons.injEq, and_true] at h
  have h2 := h.2
  rcases Int.lt_or_le 1 g with z | z
  ·have := Int.ediv_lt_self_of_pos_of_ne_one (x := b) (y := g) (by omega) (by omega)
   omega
  ·omega
 ·intro h
  rw [h, Int.ediv_one, Int.ediv_one]
theorem kZ (T : Txt K mg t) : FO P w base T.q_zbg 2 (bw K (bL aR)) := by
 have G_zab := @fU P w K mg base t T
 have G_zah := @iW P w K mg base t T
 refine T.q_zbg.F.ok lY (aH (fun B as Φ Ψ h => by obtain ⟨_, rfl, _⟩ := h; rfl)) (fun cdv A outer s H vs Q E hr h => ?_)
 obtain ⟨B, as, Φ, Ψ, rfl, hS, hx, go⟩ := aA h
 obtain ⟨t0, rfl, hp, φ⟩ := hS
 refine ⟨_, (aV (aG (PW.pt (bf (aC (aI (be aW rfl rfl T.z_isinstance T.z_tuple aU (pv 0)))) (bf (ao dH (am aw rfl T.z_len PySem.boot_len (ac (pv 0) aq)) au (ay _)) (bf (aC (aI (bF G_zab hr T.q_zab (ac (af bn (pv 0) au (fun _ _ => rfl)) aq)))) (bh (aC (aI (bF G_zab hr T.q_zab (ac (af bn (pv 0) au (fun _ _ => rfl)) aq))))))))) (aZ (aj bc)) ar)
 (aV (aG (PW.pt (bf (ao rh (am eZ rfl T.z_abs iT (ac (af bn (pv 0) au (fun _ _ => rfl)) aq)) (al eM au au) (ay _)) (bh (aC (cn bJ bJ au (af bn (pv 0) au (fun _ _ => rfl)) au))))) (aZ (aj bc)) ar)
 (aZ (aj (aK (zi hr.units0) (bF G_zah hr T.q_zah (ac (af bn (pv 0) au (fun _ _ => rfl)) (ac (af bn (pv 0) au (fun _ _ => rfl)) aq))) (pv 0) (ay _)))))), go _ _ (bO (τ := [.fz _]) rfl ?_)⟩
 cases hp with
 | @tup ts hl hq =>
  by_cases h2 : ts.length = 2
  rotate_left
  ·rw [uN h2] at φ
   kd_mark
   refine ah (fun y => absurd y (by omega)) (fun _ => ?_)
   sl_open
  match ts, h2, hl, hq, φ with
  | [x, y], _, hl, hq, φ =>
   kd_mark
   refine ah (fun _ => ?_) (fun z => absurd (show (([x, y].length : Nat) : Int) = 2 from rfl) z)
   kd_mark
   intro _ _
   refine ⟨x, rfl, hq x (by simp), ?_⟩
   kd_mark
   cases hq x (by simp) with
   | @int a =>
    refine gU ?_
    kd_mark
    intro _ _
    refine ⟨y, rfl, hq y (by simp), ?_⟩
    kd_mark
    cases hq y (by simp) with
    | @int b =>
     refine gU ?_
     rw [tL] at φ
     kd_mark
     rw [p18]
     refine ah (fun h3 => ?_) (fun h3 => ?_)
     ·rw [decide_eq_false (show ¬ (if a < 0 then -a else a) < 1000000000000000000 by omega), Bool.false_and, Bool.and_false] at φ
      sl_open
     rw [decide_eq_true (show (if a < 0 then -a else a) < 1000000000000000000 by omega), Bool.true_and] at φ
     kd_mark
     refine ah (fun h4 => ?_) (fun h4 => ?_)
     rotate_left
     ·rw [decide_eq_false h4, Bool.false_and, Bool.false_and] at φ
      sl_open
     rw [decide_eq_true h4, Bool.true_and] at φ
     kd_mark
     refine ah (fun h5 => ?_) (fun h5 => ?_)
     rotate_left
     ·rw [decide_eq_false h5, Bool.and_false] at φ
      sl_open
     rw [decide_eq_true h5, Bool.and_true] at φ
     kd_mark
     intro _ _
     refine ⟨a, b, rfl, by omega, h5, ?_⟩
     kd_mark
     refine xc rfl (ns := [xj a b, qC a b]) (ms := [a, b]) Rk.fz Rk.fz ?_
     rw [ue h4]
     exact φ
    | _ => refine gA ?_; sl_open
   | _ => refine gA ?_; kd_mark; cases y <;> exact φ
 | _ => sl_open
noncomputable def dC (ts : List Tr) (k : Nat) : Bool := match ts[k]? with
 | some a => aR a
 | none => true
noncomputable def sR (ts : List Tr) (k : Nat) : Bool := match ts[k]?, ts[k + 1]? with
 | some a, some b => fG a b
 | _, _ => true
noncomputable def vD (ts : List Tr) : Nat -> Bool
 | 0 => dC ts 0
 | k + 1 => dC ts (k + 1) && sR ts k
noncomputable def jW (ts : List Tr) : Bool := (List.range ts.length).all (vD ts)
noncomputable def DD (b : Bool) (ts : List Tr) : Tr := if b = true then .lst ts else .tup ts
noncomputable def uy : SpT := fun _ as Φ _ => ∃ (b : Bool) (ts : List Tr), as = [.fz (DD b ts)] /\ ts.length <= 1000 /\ (∀ t ∈ ts, cD t) /\ Φ (.fz (.bl (jW ts)))
theorem qU {k : Nat} (hk : k < ts.length) (h : vD ts k = false) : jW ts = false := by
 unfold jW
 rw [List.all_eq_false]
 exact ⟨k, List.mem_range.mpr hk, by rw [h]; exact Bool.false_ne_true⟩
variable {i : Int}
theorem oB {K : Fg} {b : Bool} {t : Tr} (hK : K = B.K) (e : eI ts i = some t) (q : Φ (.fz t) τ) : RO B (rIx K) (.fz (DD b ts)) (.fz (.int i)) τ Φ := by
 cases b with
 | true => exact uQ (bC hK Rk.fz e q)
 | false => exact yR (uQ (dF hK Rk.fz e q))
theorem uk {K : Fg} {b : Bool} (hK : K = B.K) (q : Φ (.fz (.int (ts.length : Nat))) τ) : RU B (fun v H Q => ∃ p ys, [v] = [V.ref p] /\ (cg K H p ys ∨ ci K H p ys) /\ Q (.int (ys.length : Nat)) H) (.fz (DD b ts)) τ Φ := by
 cases b with
 | true => exact uo hK Rk.fz q
 | false => exact rD hK Rk.fz q
theorem nP (T : Txt K mg t) : FO P w base T.q_zax 3 (bw K uy) := by
 have G_zbg := @kZ P w K mg base t T
 refine T.q_zax.F.ok jY (aH (fun B as Φ Ψ h => by obtain ⟨_, _, rfl, _⟩ := h; rfl)) (fun cdv A outer s H vs Q E hr h => ?_)
 obtain ⟨B, as, Φ, Ψ, rfl, hS, hx, go⟩ := aA h
 obtain ⟨b, ts, rfl, hl, hq, φ⟩ := hS
 refine ⟨_, (aV (gX PassesOwn.never rfl (cF rfl T.z_range (ac (am aw rfl T.z_len PySem.boot_len (ac (pv 0) aq)) aq)) (br (i := 1) jY.nd rfl (Or.inl rfl)) (aV (aG (aC (aI (bF G_zbg hr T.q_zbg (ac (af jP (pv 0) (pv 1) (fun _ _ => rfl)) aq)))) (aZ (aj bc)) ar)
 (aZ (aG (PW.pt (cV (ao rL (pv 1) au (ay _)) (ce (ao rh (al bA (af bn (af jP (pv 0) (al jZ (pv 1) au) (fun _ _ => rfl)) au (fun _ _ => rfl)) (af bn (af jP (pv 0) (pv 1) (fun _ _ => rfl)) au (fun _ _ => rfl))) (al bA (af bn (af jP (pv 0) (pv 1) (fun _ _ => rfl)) au (fun _ _ => rfl)) (af bn (af jP (pv 0) (al jZ (pv 1) au) (fun _ _ => rfl)) au (fun _ _ => rfl))) (ay _))))) (aZ (aj bc)) ar))))
 (aZ (aj bc))), go _ _ (bO (τ := [.fz _, .no]) rfl ?_)⟩
 kd_mark
 refine uk rfl ?_
 refine ⟨_, rfl, ⟨by omega, by omega⟩, fun i τ => (∃ u, τ = [.fz (DD b ts), u]) /\ ∀ j, j < i -> vD ts j = true, ⟨⟨_, rfl⟩, fun j h => absurd h (Nat.not_lt_zero _)⟩, ?_, ?_⟩
 ·rintro i tt τ ht ⟨⟨u, rfl⟩, hb⟩
  obtain ⟨hi, rfl⟩ := dk ht
  have hi : i < ts.length := by omega
  rw [Int.zero_add]
  have ei : ts[i]? = some ts[i] := List.getElem?_eq_getElem hi
  have ai : eI ts ((i : Nat) : Int) = some ts[i] := bp ei
  have pt := hq ts[i] (List.getElem_mem hi)
  refine xw (by acc_open) ?_
  kd_mark
  refine oB rfl ai ?_
  kd_mark
  intro _ _
  refine ⟨ts[i], rfl, pt, ?_⟩
  kd_mark
  have eT : dC ts i = aR ts[i] := by unfold dC; rw [ei]
  refine aS (fun h => ?_) (fun h => ?_)
  rotate_left
  ·rw [qU hi (by cases i with
    | zero => show dC ts 0 = false; rw [eT]; exact h
    | succ k => show (dC ts (k + 1) && _) = false; rw [eT, h]; rfl)] at φ
   sl_open
  obtain ⟨a, b', en, h1, h2, h3, h4, h5⟩ := eh h
  rw [en] at ei ai
  cases i with
  | zero =>
   kd_mark
   refine ah (fun y => absurd y (by decide)) (fun _ => ?_)
   kd_mark
   refine ⟨⟨_, rfl⟩, fun j hj => ?_⟩
   have : j = 0 := by omega
   subst this
   show dC ts 0 = true
   rw [eT]; exact h
  | succ k =>
   have hk : k < ts.length := by omega
   have ek : ts[k]? = some ts[k] := List.getElem?_eq_getElem hk
   have tk : aR ts[k] = true := by
    have := hb k (by omega)
    have eT2 : dC ts k = aR ts[k] := by unfold dC; rw [ek]
    cases k with
    | zero => rw [<- eT2]; exact this
    | succ k =>
     have this : (dC ts (k + 1) && sR ts k) = true := this
     rw [Bool.and_eq_true] at this
     rw [<- eT2]; exact this.1
   obtain ⟨c, d, ekn, g1, g2, g3, g4, g5⟩ := eh tk
   rw [ekn] at ek
   have ak : eI ts (((k + 1 : Nat) : Int) - 1) = some (N2 c d) := by
    rw [show ((k + 1 : Nat) : Int) - 1 = ((k : Nat) : Int) by omega]
    exact bp ek
   have el : sR ts k = decide (c * b' < a * d) := by
    unfold sR
    rw [ek, ei]
    rfl
   have m1 : mC a := (show My.Bd 62 a by unfold My.Bd; omega).mono (by decide)
   have m2 : mC b' := tq (by omega) (by omega)
   have m3 : mC c := (show My.Bd 62 c by unfold My.Bd; omega).mono (by decide)
   have m4 : mC d := tq (by omega) (by omega)
   kd_mark
   refine ah (fun _ => ?_) (fun y => absurd (show (0 : Int) < ((k + 1 : Nat) : Int) by omega) y)
   kd_mark
   refine oB rfl ak ?_
   rw [show N2 c d = Tr.tup [.int c, .int d] from rfl]
   kd_mark
   refine oB rfl ai ?_
   rw [show N2 a b' = Tr.tup [.int a, .int b'] from rfl]
   kd_mark
   refine oB rfl ai ?_
   rw [show N2 a b' = Tr.tup [.int a, .int b'] from rfl]
   kd_mark
   refine oB rfl ak ?_
   rw [show N2 c d = Tr.tup [.int c, .int d] from rfl]
   kd_mark
   refine ah (fun h6 => ?_) (fun h6 => ?_)
   ·rw [qU hi (by show (dC ts (k + 1) && sR ts k) = false; rw [el, decide_eq_false (show ¬ c * b' < a * d by omega), Bool.and_false])] at φ
    sl_open
   ·kd_mark
    refine ⟨⟨_, rfl⟩, fun j hj => ?_⟩
    rcases Nat.lt_or_ge j (k + 1) with z | z
    ·exact hb j z
    ·have : j = k + 1 := by omega
     subst this
     show (dC ts (k + 1) && sR ts k) = true
     rw [eT, h, el, decide_eq_true (show c * b' < a * d by omega)]
     rfl
 ·rintro τ ⟨⟨u, rfl⟩, hb⟩
  rw [dh] at hb
  have : jW ts = true := by
   unfold jW
   rw [List.all_eq_true]
   intro j hj
   exact hb j (by have := List.mem_range.mp hj; omega)
  rw [this] at φ
  sl_open
theorem jt (T : Txt K mg t) : FO P w base T.q_zbh 2 (bw K (bL gt)) := by
 have G_zag := @eN P w K mg base t T
 refine T.q_zbh.F.ok jN (aH (fun B as Φ Ψ h => by obtain ⟨_, rfl, _⟩ := h; rfl)) (fun cdv A outer s H vs Q E hr h => ?_)
 obtain ⟨B, as, Φ, Ψ, rfl, hS, hx, go⟩ := aA h
 obtain ⟨t0, rfl, hp, φ⟩ := hS
 refine ⟨_, (aV (aG (PW.pt (bf (aC (aI (be aW rfl rfl T.z_isinstance T.z_tuple aU (pv 0)))) (bh (aC (cn bJ bJ au (am aw rfl T.z_len PySem.boot_len (ac (pv 0) aq)) au))))) (aZ (aj bc)) ar)
 (aZ (aj (bv (aK (qj hr.units0) (gw (tg := "_law_one") (fr := []) rfl (cE (osc := ae dv) (N := ["_law_thing"]) rfl rfl (by decide +kernel)) (ck (pv 0)) (fun _ _ _ _ _ => (aC (aI (bF G_zag hr T.q_zag (ac (pv 0) aq))))) (fun _ _ _ _ _ => (pv 0))) (aD aq) (ay _)) (bq (aK bI (am lv rfl T.z_len PySem.boot_len (ac (bB (lD rfl) rfl T.z_set tX (ac (pv 0) aq)) aq)) (am aw rfl T.z_len PySem.boot_len (ac (pv 0) aq)) (ay _))))))), go _ _ (bO (τ := [.fz _]) rfl ?_)⟩
 cases hp with
 | @tup ts hl hq =>
  have φ : Φ (.fz (.bl ((decide (1 <= ts.length) && decide (ts.length <= 60)) && (ts.all wordV && decide (cO ts).Nodup)))) := φ
  kd_mark
  refine ah (fun h1 => ?_) (fun h1 => ?_)
  rotate_left
  ·kd_mark
   rw [decide_eq_false (show ¬ 1 <= ts.length by omega)] at φ
   exact φ
  rw [decide_eq_true (show 1 <= ts.length by omega), Bool.true_and] at φ
  kd_mark
  refine ah (fun h2 => ?_) (fun h2 => ?_)
  rotate_left
  ·kd_mark
   rw [decide_eq_false (show ¬ ts.length <= 60 by omega)] at φ
   exact φ
  rw [decide_eq_true (show ts.length <= 60 by omega), Bool.true_and] at φ
  kd_mark
  refine gb (dA rfl ?_)
  kd_mark
  refine ⟨[], .nil, by omega, fun i o => ∃ x, ts[i]? = some x /\ o = if wordV x = true then none else some x, fun i t ht => ?_, fun os hl2 ho => ?_⟩
  ·kd_mark
   intro _ _
   refine ⟨t, rfl, hq t (List.mem_of_getElem? ht), ?_⟩
   kd_mark
   refine aS (fun h => ?_) (fun h => ?_)
   ·exact ⟨t, ht, by rw [if_pos h]⟩
   ·kd_mark
    exact ⟨t, ht, by rw [h]; rfl⟩
  have ee := gz (f := wordV) (g := fun x => x) (xs := ts) hl2 ho
  kd_mark
  refine gM rfl (by dl_open) Rk.fz ?_
  rw [ee]
  kd_mark
  refine aS (fun h3 => ?_) (fun h3 => ?_)
  rotate_left
  ·rw [h3, Bool.false_and] at φ
   sl_open
  rw [h3, Bool.true_and] at φ
  have es := gY h3
  have ls : (cO ts).length <= 1000 := by
   have := congrArg List.length es
   rw [List.length_map] at this
   omega
  refine zw (nQ rfl ?_)
  rw [es] at hl2 ⊢
  kd_mark
  refine ⟨cO ts, by rw [<- es], ls, ?_⟩
  kd_mark
  have e : decide (((cY (cO ts)).length : Int) = ((((cO ts).map Tr.str).length : Nat) : Int)) = decide (cO ts).Nodup := by
   rw [Bool.eq_iff_iff, decide_eq_true_eq, decide_eq_true_eq, List.length_map, <- li]
   omega
  rw [e]
  exact φ
 | _ => sl_open
theorem uP (a b : Tr) : jW [a, b] = jf a b := by
 show (aR a && ((aR b && fG a b) && true)) = (aR a && (aR b && fG a b))
 rw [Bool.and_true]
noncomputable def cN : List Tr -> List Tr
 | .tup [a, b] :: r => a :: b :: cN r
 | _ => []
noncomputable def jn : Tr -> Bool
 | .tup ts => decide (ts.length = 2)
 | _ => false
theorem cR {t : Tr} (h : jn t = true) : ∃ a b, t = .tup [a, b] := by
 match t, h with
 | .tup ts, h =>
  have h := of_decide_eq_true h
  match ts, h with
  | [a, b], _ => exact ⟨a, b, rfl⟩
theorem pM {t : Tr} (h : jn t = false) : pieceV t = false := by
 cases e : pieceV t with
 | false => rfl
 | true =>
  obtain ⟨a, b, c, d, rfl, _⟩ := jM e
  cases h
variable {ps : List Tr}
theorem oR (h2 : 2 <= ps.length) (h4 : ps.length <= 4) (hp : ps.all jn = true) : jW (cN ps) = (ps.all pieceV && qM ps) := by
 have hp := List.all_eq_true.mp hp
 match ps, h2, h4, hp with
 | [p, q], _, _, hp =>
  obtain ⟨a, b, rfl⟩ := cR (hp p (by simp))
  obtain ⟨c, d, rfl⟩ := cR (hp q (by simp))
  show (aR a && ((aR b && fG a b) && ((aR c && fG b c) && ((aR d && fG c d) && true)))) = (((aR a && (aR b && fG a b)) && ((aR c && (aR d && fG c d)) && true)) && (fG b c && true))
  rw [Bool.eq_iff_iff]
  simp only [Bool.and_eq_true]
  exact ⟨fun ⟨h1, ⟨h2, h3⟩, ⟨h4, h5⟩, ⟨h6, h7⟩, _⟩ => ⟨⟨⟨h1, h2, h3⟩, ⟨h4, h6, h7⟩, trivial⟩, h5, trivial⟩, fun ⟨⟨⟨h1, h2, h3⟩, ⟨h4, h6, h7⟩, _⟩, h5, _⟩ => ⟨h1, ⟨h2, h3⟩, ⟨h4, h5⟩, ⟨h6, h7⟩, trivial⟩⟩
 | [p, q, r], _, _, hp =>
  obtain ⟨a, b, rfl⟩ := cR (hp p (by simp))
  obtain ⟨c, d, rfl⟩ := cR (hp q (by simp))
  obtain ⟨e, f, rfl⟩ := cR (hp r (by simp))
  show (aR a && ((aR b && fG a b) && ((aR c && fG b c) && ((aR d && fG c d) && ((aR e && fG d e) && ((aR f && fG e f) && true)))))) = (((aR a && (aR b && fG a b)) && ((aR c && (aR d && fG c d)) && ((aR e && (aR f && fG e f)) && true))) && (fG b c && (fG d e && true)))
  rw [Bool.eq_iff_iff]
  simp only [Bool.and_eq_true]
  exact ⟨fun ⟨h1, ⟨h2, h3⟩, ⟨h4, h5⟩, ⟨h6, h7⟩, ⟨h8, h9⟩, ⟨h10, h11⟩, _⟩ => ⟨⟨⟨h1, h2, h3⟩, ⟨h4, h6, h7⟩, ⟨h8, h10, h11⟩, trivial⟩, h5, h9, trivial⟩, fun ⟨⟨⟨h1, h2, h3⟩, ⟨h4, h6, h7⟩, ⟨h8, h10, h11⟩, _⟩, h5, h9, _⟩ => ⟨h1, ⟨h2, h3⟩, ⟨h4, h5⟩, ⟨h6, h7⟩, ⟨h8, h9⟩, ⟨h10, h11⟩, trivial⟩⟩
 | [p, q, r, s], _, _, hp =>
  obtain ⟨a, b, rfl⟩ := cR (hp p (by simp))
  obtain ⟨c, d, rfl⟩ := cR (hp q (by simp))
  obtain ⟨e, f, rfl⟩ := cR (hp r (by simp))
  obtain ⟨g, k, rfl⟩ := cR (hp s (by simp))
  show (aR a && ((aR b && fG a b) && ((aR c && fG b c) && ((aR d && fG c d) && ((aR e && fG d e) && ((aR f && fG e f) && ((aR g && fG f g) && ((aR k && fG g k) && true)))))))) = (((aR a && (aR b && fG a b)) && ((aR c && (aR d && fG c d)) && ((aR e && (aR f && fG e f)) && ((aR g && (aR k && fG g k)) && true)))) && (fG b c && (fG d e && (fG f g && true))))
  rw [Bool.eq_iff_iff]
  simp only [Bool.and_eq_true]
  exact ⟨fun ⟨h1, ⟨h2, h3⟩, ⟨h4, h5⟩, ⟨h6, h7⟩, ⟨h8, h9⟩, ⟨h10, h11⟩, ⟨h12, h13⟩, ⟨h14, h15⟩, _⟩ => ⟨⟨⟨h1, h2, h3⟩, ⟨h4, h6, h7⟩, ⟨h8, h10, h11⟩, ⟨h12, h14, h15⟩, trivial⟩, h5, h9, h13, trivial⟩, fun ⟨⟨⟨h1, h2, h3⟩, ⟨h4, h6, h7⟩, ⟨h8, h10, h11⟩, ⟨h12, h14, h15⟩, _⟩, h5, h9, h13, _⟩ => ⟨h1, ⟨h2, h3⟩, ⟨h4, h5⟩, ⟨h6, h7⟩, ⟨h8, h9⟩, ⟨h10, h11⟩, ⟨h12, h13⟩, ⟨h14, h15⟩, trivial⟩⟩
theorem oj : ∀ {ps : List Tr} {a b : Tr}, ps.all jn = true -> cN (ps ++ [.tup [a, b]]) = cN ps ++ [a, b]
 | [], _, _, _ => rfl
 | p :: r, a, b, h => by
  rw [List.all_cons, Bool.and_eq_true] at h
  obtain ⟨c, d, rfl⟩ := cR h.1
  show c :: d :: cN (r ++ [.tup [a, b]]) = c :: d :: (cN r ++ [a, b])
  rw [oj h.2]
theorem tJ (hp : ∀ p ∈ ps, cD p) : ∀ t ∈ cN ps, cD t := by
 induction ps with
 | nil => exact fun t h => absurd h List.not_mem_nil
 | cons p r ih =>
  have ih := ih fun q hq => hp q (List.mem_cons_of_mem _ hq)
  have pp := hp p List.mem_cons_self
  intro t ht
  unfold cN at ht
  split at ht
  ·rename_i a b r' e
   cases e
   cases pp with
   | tup _ hq =>
    rcases List.mem_cons.mp ht with rfl | ht
    ·exact hq _ (by simp)
    rcases List.mem_cons.mp ht with rfl | ht
    ·exact hq _ (by simp)
    ·exact ih t ht
  ·cases ht
theorem ku : ∀ {ps : List Tr}, (cN ps).length <= 2 * ps.length
 | [] => Nat.le_refl _
 | p :: r => by
  have ih := ku (ps := r)
  unfold cN
  split
  ·rename_i e
   cases e
   simp only [List.length_cons]
   omega
  ·exact Nat.zero_le _
noncomputable def ky (fs : List Str) (x : Tr) : Bool := wishV x && fg fs x
noncomputable def uB : SpT := fun _ as Φ _ => ∃ (x : Tr) (fs : List Str), as = [.fz x, .fz (.tup (fs.map Tr.str))] /\ cD x /\ Φ (.fz (.bl (ky fs x)))
theorem gC (T : Txt K mg t) : FO P w base T.q_zar 4 (bw K uB) := by
 have G_zab := @fU P w K mg base t T
 have G_zax := @nP P w K mg base t T
 have G_zbh := @jt P w K mg base t T
 refine T.q_zar.F.ok cL (aH (fun B as Φ Ψ h => by obtain ⟨_, _, rfl, _⟩ := h; rfl)) (fun cdv A outer s H vs Q E hr h => ?_)
 obtain ⟨B, as, Φ, Ψ, rfl, hS, hx, go⟩ := aA h
 obtain ⟨t0, fs, rfl, hp, φ⟩ := hS
 unfold ky at φ
 refine ⟨_, (aV (aG (PW.pt (bf (aC (aI (be aW rfl rfl T.z_isinstance T.z_tuple aU (pv 0)))) (bf (aC (cn bJ bJ au (am aw rfl T.z_len PySem.boot_len (ac (pv 0) aq)) au)) (bh (aC (aI (be jv rfl rfl T.z_isinstance T.z_str mI (af bn (pv 0) au (fun _ _ => rfl))))))))) (aZ (aj bc)) ar)
 (aV (aG (PW.pt (bf (ao cq (af bn (pv 0) au (fun _ _ => rfl)) (pv 1) rfl) (bh (ao bI (am aw rfl T.z_len PySem.boot_len (ac (pv 0) aq)) au (ay _))))) (aZ (aj (bv (aK aP (af bn (pv 0) au (fun _ _ => rfl)) (pv 1) rfl) (bq (aK aP (af bn (pv 0) au (fun _ _ => rfl)) (ag (ac aa (ac aa (ac aa aq)))) rfl))))) ar)
 (aV (aG (ao bI (am aw rfl T.z_len PySem.boot_len (ac (pv 0) aq)) au (ay _)) (aZ (aj (bv (aK bI (af bn (pv 0) au (fun _ _ => rfl)) aa (ay _)) (bq (bF G_zax hr T.q_zax (ac (aT gL (pv 0) (aM au) cf) aq)))))) ar)
 (aV (aG (ao bI (af bn (pv 0) au (fun _ _ => rfl)) aa (ay _)) (aZ (aj (bv (bF G_zab hr T.q_zab (ac (af bn (pv 0) au (fun _ _ => rfl)) aq)) (bq (aK aP (af bn (pv 0) au (fun _ _ => rfl)) (ag (ac au (ac au aq))) rfl))))) ar)
 (aV (aG (ao bI (af bn (pv 0) au (fun _ _ => rfl)) aa (ay _)) (aZ (aj (bF G_zbh hr T.q_zbh (ac (af bn (pv 0) au (fun _ _ => rfl)) aq)))) ar)
 (aV (aG (PW.pt (bf (ao dH (af bn (pv 0) au (fun _ _ => rfl)) aa (ay _)) (bf (aC (aI (be aW rfl rfl T.z_isinstance T.z_tuple aU (af bn (pv 0) au (fun _ _ => rfl))))) (bh (aC (cn bJ bJ au (am aw rfl T.z_len PySem.boot_len (ac (af bn (pv 0) au (fun _ _ => rfl)) aq)) au)))))) (aZ (aj bc)) ar)
 (aV (aG (ao (ng hr.units0) (gw (tg := "_law_one") (fr := []) rfl (cE (osc := ae dZ) (N := ["_law_thing", "_law_wanted", "_law_ends", "_law_lo", "_law_hi"]) rfl rfl (by decide +kernel)) (ck (af bn (pv 0) au (fun _ _ => rfl))) (fun _ _ _ _ _ => (PW.pt (bf (aC (aI (wT (K := B.K) rfl aW rfl rfl T.z_isinstance T.z_tuple aU (pv 0)))) (bh (ao dH (am (r := yI B.K) tw rfl T.z_len PySem.boot_len (ac (pv 0) aq)) au (ay _)))))) (fun _ _ _ _ _ => (pv 0))) (aD aq) (ay _)) (aZ (aj bc)) ar)
 (aV (az (i := 2) cL.nd rfl (Or.inl rfl) (aD aq))
 (aV (gX PassesOwn.never rfl (ck (af bn (pv 0) au (fun _ _ => rfl))) (qg rfl (bX (br (i := 3) cL.nd rfl (Or.inl rfl)) (bX (br (i := 4) cL.nd rfl (Or.inl rfl)) nv))) (aZ (az (i := 2) cL.nd rfl (Or.inl rfl) (al cc (pv 2) (aD (ac (pv 3) (ac (pv 4) aq)))))))
 (aZ (aj (bF G_zax hr T.q_zax (ac (pv 2) aq))))))))))))), go _ _ (bO (τ := [.fz _, .fz _, .no, .no, .no]) rfl ?_)⟩
 cases hp with
 | @tup ts hl hq =>
  match ts, hl, hq, φ with
  | [], hl, hq, φ =>
   kd_mark
   refine ah (fun y => absurd y (show ¬ (1 : Int) <= ((0 : Nat) : Int) by decide)) (fun _ => ?_)
   sl_open
  | a :: b :: c :: d :: r, hl, hq, φ =>
   kd_mark
   refine ah (fun _ => ?_) (fun y => absurd (show (1 : Int) <= (((a :: b :: c :: d :: r).length : Nat) : Int) by simp only [List.length_cons]; omega) y)
   kd_mark
   refine ah (fun y => absurd (show (((a :: b :: c :: d :: r).length : Nat) : Int) <= 3 from y) (by simp only [List.length_cons]; omega)) (fun _ => ?_)
   kd_mark
   have φ : Φ (.fz (.bl (wishV (.tup (a :: b :: c :: d :: r)) && fg fs (.tup (a :: b :: c :: d :: r))))) := φ
   rw [show wishV (.tup (a :: b :: c :: d :: r)) = false by cases a <;> rfl] at φ
   exact φ
  | [x], hl, hq, φ =>
   kd_mark
   refine ah (fun _ => ?_) (fun y => absurd (show (1 : Int) <= ((1 : Nat) : Int) by decide) y)
   kd_mark
   refine ah (fun _ => ?_) (fun y => absurd (show ((1 : Nat) : Int) <= 3 by decide) y)
   kd_mark
   cases hq x List.mem_cons_self with
   | @str z hz =>
    have φ : Φ (.fz (.bl (decide (z ∈ (["straight", "days", "order"] : List Str)) && decide (z ∈ fs)))) := φ
    kd_mark
    refine de (ws := fs) rfl Rk.fz ?_
    kd_mark
    refine ah (fun hm => ?_) (fun hm => ?_)
    rotate_left
    ·rw [decide_eq_false hm, Bool.and_false] at φ
     kd_mark
     refine bN (ws := fs) rfl Rk.fz ?_
     kd_mark
     refine ah (fun y => absurd y hm) (fun _ => ?_)
     sl_open
    rw [decide_eq_true hm, Bool.and_true] at φ
    kd_mark
    refine ah (fun _ => ?_) (fun y => absurd rfl y)
    kd_mark
    refine bN (ws := fs) rfl Rk.fz ?_
    kd_mark
    refine ah (fun _ => ?_) (fun y => absurd hm y)
    kd_mark
    refine bN (ws := ["straight", "days", "order"]) rfl Rk.fz ?_
    sl_open
   | _ => sl_open
  | [x, y, z], hl, hq, φ =>
   have py := hq y (by simp)
   have pz := hq z (by simp)
   kd_mark
   refine ah (fun _ => ?_) (fun y => absurd (show (1 : Int) <= ((3 : Nat) : Int) by decide) y)
   kd_mark
   refine ah (fun _ => ?_) (fun y => absurd (show ((3 : Nat) : Int) <= 3 by decide) y)
   kd_mark
   cases hq x List.mem_cons_self with
   | @str u hu =>
    have φ : Φ (.fz (.bl ((decide (u = "straight") && jf y z) && decide (u ∈ fs)))) := φ
    kd_mark
    refine de (ws := fs) rfl Rk.fz ?_
    kd_mark
    refine ah (fun hm => ?_) (fun hm => ?_)
    rotate_left
    ·rw [decide_eq_false hm, Bool.and_false] at φ
     kd_mark
     refine bN (ws := fs) rfl Rk.fz ?_
     kd_mark
     refine ah (fun y => absurd y hm) (fun _ => ?_)
     sl_open
    rw [decide_eq_true hm, Bool.and_true] at φ
    kd_mark
    refine ah (fun y => absurd y (show ¬ ((3 : Nat) : Int) = 1 by decide)) (fun _ => ?_)
    kd_mark
    refine ah (fun _ => ?_) (fun y => absurd (show ((3 : Nat) : Int) = 3 by decide) y)
    kd_mark
    refine ah (fun h1 => ?_) (fun h1 => ?_)
    ·rw [decide_eq_true h1, Bool.true_and] at φ
     kd_mark
     refine qh rfl Rk.fz (fun h => absurd (show HT.sIx 3 0 (some 1) = 0 from h.1) (by decide)) ?_
     kd_mark
     intro _ _
     refine ⟨false, [y, z], rfl, show (2 : Nat) <= 1000 by decide, fun t ht => hq t (List.mem_cons_of_mem _ ht), ?_⟩
     rw [uP]
     sl_open
    ·rw [decide_eq_false h1, Bool.false_and] at φ
     sl_open
   | _ => sl_open
  | [x, y], hl, hq, φ =>
   have py := hq y (by simp)
   kd_mark
   refine ah (fun _ => ?_) (fun y => absurd (show (1 : Int) <= ((2 : Nat) : Int) by decide) y)
   kd_mark
   refine ah (fun _ => ?_) (fun y => absurd (show ((2 : Nat) : Int) <= 3 by decide) y)
   kd_mark
   cases hq x List.mem_cons_self with
   | @str u hu =>
    have φ : Φ (.fz (.bl ((if u = "turns" then rq y else if u = "broken" then ip y else decide (u = "order") && gt y) && decide (u ∈ fs)))) := φ
    kd_mark
    refine de (ws := fs) rfl Rk.fz ?_
    kd_mark
    refine ah (fun hm => ?_) (fun hm => ?_)
    rotate_left
    ·rw [decide_eq_false hm, Bool.and_false] at φ
     kd_mark
     refine bN (ws := fs) rfl Rk.fz ?_
     kd_mark
     refine ah (fun y => absurd y hm) (fun _ => ?_)
     sl_open
    rw [decide_eq_true hm, Bool.and_true] at φ
    kd_mark
    refine ah (fun y => absurd y (show ¬ ((2 : Nat) : Int) = 1 by decide)) (fun _ => ?_)
    kd_mark
    refine ah (fun y => absurd y (show ¬ ((2 : Nat) : Int) = 3 by decide)) (fun _ => ?_)
    kd_mark
    refine ah (fun h1 => ?_) (fun h1 => ?_)
    ·rw [if_pos h1] at φ
     kd_mark
     intro _ _
     refine ⟨y, rfl, py, ?_⟩
     kd_mark
     cases py with
     | @int i =>
      refine gU ?_
      kd_mark
      refine rR (ns := [2, 10]) rfl Rk.fz ?_
      sl_open
     | _ => refine gA ?_; sl_open
    rw [if_neg h1] at φ
    kd_mark
    refine ah (fun h3 => ?_) (fun h3 => ?_)
    ·rw [if_neg (show ¬ u = "broken" by rw [h3]; decide), decide_eq_true h3, Bool.true_and] at φ
     kd_mark
     intro _ _
     refine ⟨y, rfl, py, ?_⟩
     sl_open
    rw [decide_eq_false h3, Bool.false_and] at φ
    kd_mark
    refine ah (fun h2 => ?_) (fun h2 => ?_)
    rotate_left
    ·rw [if_neg h2] at φ
     sl_open
    rw [if_pos h2] at φ
    kd_mark
    cases py with
    | @tup ps hl2 hq2 =>
     have φ : Φ (.fz (.bl ((decide (2 <= ps.length) && decide (ps.length <= 4)) && (ps.all pieceV && qM ps)))) := φ
     kd_mark
     refine ah (fun h4 => ?_) (fun h4 => ?_)
     rotate_left
     ·rw [decide_eq_false (show ¬ 2 <= ps.length by omega), Bool.false_and, Bool.false_and] at φ
      sl_open
     rw [decide_eq_true (show 2 <= ps.length by omega), Bool.true_and] at φ
     kd_mark
     refine ah (fun h5 => ?_) (fun h5 => ?_)
     rotate_left
     ·rw [decide_eq_false (show ¬ ps.length <= 4 by omega), Bool.false_and] at φ
      sl_open
     rw [decide_eq_true (show ps.length <= 4 by omega), Bool.true_and] at φ
     kd_mark
     refine gb (dA rfl ?_)
     kd_mark
     refine ⟨[], .nil, by omega, fun i o => ∃ x, ps[i]? = some x /\ o = if jn x = true then none else some x, fun i t ht => ?_, fun os hl3 ho => ?_⟩
     ·have pt := hq2 t (List.mem_of_getElem? ht)
      cases pt with
      | @tup us hl4 hq4 =>
       kd_mark
       refine ah (fun h => ?_) (fun h => ?_)
       ·exact ⟨_, ht, by rw [if_pos (show jn (.tup us) = true from decide_eq_true (by omega))]⟩
       ·kd_mark
        exact ⟨_, ht, by rw [if_neg (show ¬ jn (.tup us) = true from fun z => h (by have := of_decide_eq_true z; omega))]⟩
      | _ => kd_mark; exact ⟨_, ht, rfl⟩
     have ee := gz (f := jn) (g := fun x => x) (xs := ps) hl3 ho
     kd_mark
     refine gM rfl (by dl_open) Rk.fz ?_
     rw [ee]
     kd_mark
     refine aS (fun h6 => ?_) (fun h6 => ?_)
     rotate_left
     ·have : ps.all pieceV = false := by
       obtain ⟨x, hx, hn⟩ := List.all_eq_false.mp h6
       exact List.all_eq_false.mpr ⟨x, hx, by rw [pM (by simpa using hn)]; exact Bool.false_ne_true⟩
      rw [this, Bool.false_and] at φ
      sl_open
     rw [<- oR (by omega) (by omega) h6] at φ
     kd_mark
     refine ⟨fun i τ => ∃ u3 u4, τ = [.fz (.tup [.str u, .tup ps]), .fz (.tup (fs.map Tr.str)), .own (.lst (cN (ps.take i))), u3, u4], ⟨_, _, rfl⟩, ?_, ?_⟩
     ·rintro i tt τ ht ⟨u3, u4, rfl⟩
      obtain ⟨a, b, rfl⟩ := cR (List.all_eq_true.mp h6 tt (List.mem_of_getElem? ht))
      have hi := (List.getElem?_eq_some_iff.mp ht).1
      have hm2 := hq2 _ (List.mem_of_getElem? ht)
      have e1 : cN (ps.take (i + 1)) = cN (ps.take i) ++ [a, b] := by
       rw [List.take_add_one, ht]
       exact oj (List.all_eq_true.mpr fun x hx => List.all_eq_true.mp h6 x (List.mem_of_mem_take hx))
      have l1 := ku (ps := ps.take i)
      rw [List.length_take] at l1
      kd_mark
      refine cC rfl (by dl_open) Rk.fz (show _ + 2 <= _ by omega) ?_
      rw [<- e1]
      kd_mark
      exact ⟨_, _, rfl⟩
     ·rintro τ ⟨u3, u4, rfl⟩
      rw [List.take_length]
      have l1 := ku (ps := ps)
      kd_mark
      intro _ _
      refine ⟨true, cN ps, rfl, by omega, tJ hq2, ?_⟩
      sl_open
    | _ => sl_open
   | _ => sl_open
 | _ => sl_open
theorem iZ (T : Txt K mg t) : FO P w base T.q_zai 5 (bw K lT) := by
 have G_zag := @eN P w K mg base t T
 have G_zar := @gC P w K mg base t T
 refine T.q_zai.F.ok jr (aH (fun B as Φ Ψ h => by obtain ⟨_, _, rfl, _⟩ := h; rfl)) (fun cdv A outer s H vs Q E hr h => ?_)
 obtain ⟨B, as, Φ, Ψ, rfl, hS, hx, go⟩ := aA h
 obtain ⟨x, fs, rfl, hp, φ⟩ := hS
 refine ⟨_, (aV (aG (PW.pt (bf (aC (aI (be aW rfl rfl T.z_isinstance T.z_tuple aU (pv 0)))) (bh (ao dH (am aw rfl T.z_len PySem.boot_len (ac (pv 0) aq)) au (ay _))))) (aZ (aj bc)) ar)
 (aZ (aj (bv (bF G_zag hr T.q_zag (ac (af bn (pv 0) au (fun _ _ => rfl)) aq)) (bq (bF G_zar hr T.q_zar (ac (af bn (pv 0) au (fun _ _ => rfl)) (ac (pv 1) aq)))))))), go _ _ (bO (τ := [.fz _, .fz _]) rfl ?_)⟩
 cases hp with
 | @tup ts hl hq =>
  by_cases h2 : ts.length = 2
  ·match ts, h2, hl, hq, φ with
   | [a, b], _, hl, hq, φ =>
    have pa := hq a (by simp)
    have pb := hq b (by simp)
    have φ : Φ (.fz (.bl (wordV a && ky fs b))) := φ
    kd_mark
    refine ah (fun _ => ?_) (fun y => absurd (show (([a, b].length : Nat) : Int) = 2 from rfl) y)
    kd_mark
    intro _ _
    refine ⟨a, rfl, pa, ?_⟩
    kd_mark
    refine aS (fun h => ?_) (fun h => ?_)
    rotate_left
    ·rw [h, Bool.false_and] at φ
     sl_open
    rw [h, Bool.true_and] at φ
    kd_mark
    intro _ _
    refine ⟨b, fs, rfl, pb, ?_⟩
    sl_open
  ·rw [oO h2] at φ
   kd_mark
   refine ah (fun y => absurd y (by omega)) (fun _ => ?_)
   sl_open
 | _ => sl_open
theorem xz {b : Int} : ∃ m, qZ [a, b] m /\ (60 <= m ↔ 60 <= a /\ 60 <= b) := by
 rcases Int.lt_or_le a b with h | h
 ·exact ⟨a, ⟨by simp, fun n hn => by simp at hn; omega⟩, by omega⟩
 ·exact ⟨b, ⟨by simp, fun n hn => by simp at hn; omega⟩, by omega⟩
theorem xr {b : Int} : ∃ m, rE [a, b] m /\ (m <= 2000 ↔ a <= 2000 /\ b <= 2000) := by
 rcases Int.lt_or_le a b with h | h
 ·exact ⟨b, ⟨by simp, fun n hn => by simp at hn; omega⟩, by omega⟩
 ·exact ⟨a, ⟨by simp, fun n hn => by simp at hn; omega⟩, by omega⟩
theorem iN (T : Txt K mg t) : FO P w base T.q_zbk 2 (bw K (bL dE)) := by
 have G_zab := @fU P w K mg base t T
 refine T.q_zbk.F.ok jq (aH (fun B as Φ Ψ h => by obtain ⟨_, rfl, _⟩ := h; rfl)) (fun cdv A outer s H vs Q E hr h => ?_)
 obtain ⟨B, as, Φ, Ψ, rfl, hS, hx, go⟩ := aA h
 obtain ⟨t0, rfl, hp, φ⟩ := hS
 refine ⟨_, (aV (aG (PW.pt (bf (aC (aI (be aW rfl rfl T.z_isinstance T.z_tuple aU (pv 0)))) (bf (ao dH (am aw rfl T.z_len PySem.boot_len (ac (pv 0) aq)) au (ay _)) (bh (aC (aI (be ix rfl rfl T.z_isinstance T.z_bool jA (af bn (pv 0) au (fun _ _ => rfl))))))))) (aZ (aj bc)) ar)
 (aZ (aj (bv (bF G_zab hr T.q_zab (ac (af bn (pv 0) au (fun _ _ => rfl)) aq)) (bv (bF G_zab hr T.q_zab (ac (af bn (pv 0) au (fun _ _ => rfl)) aq)) (bv (aK bJ au (am (sq rfl) rfl T.z_min uU (ac (aT gL (pv 0) cf (aM au)) aq)) (ay _)) (bq (aK bJ (am (sB rfl) rfl T.z_max uq (ac (aT gL (pv 0) cf (aM au)) aq)) au (ay _))))))))), go _ _ (bO (τ := [.fz _]) rfl ?_)⟩
 cases hp with
 | @tup ts hl hq =>
  by_cases h3 : ts.length = 3
  ·match ts, h3, hl, hq, φ with
   | [a, b, c], _, hl, hq, φ =>
    have pa := hq a (by simp)
    have pb := hq b (by simp)
    kd_mark
    refine ah (fun _ => ?_) (fun y => absurd (show (([a, b, c].length : Nat) : Int) = 3 from rfl) y)
    kd_mark
    cases hq c (by simp) with
    | @bl b3 =>
     have φ : Φ (.fz (.bl (jo a && (jo b && true)))) := φ
     kd_mark
     intro _ _
     refine ⟨a, rfl, pa, ?_⟩
     kd_mark
     cases pa with
     | @int i =>
      refine gU ?_
      kd_mark
      intro _ _
      refine ⟨b, rfl, pb, ?_⟩
      kd_mark
      cases pb with
      | @int j =>
       refine gU ?_
       have φ : Φ (.fz (.bl ((decide (60 <= i) && decide (i <= 2000)) && ((decide (60 <= j) && decide (j <= 2000)) && true)))) := φ
       obtain ⟨m, hm, e1⟩ := xz (a := i) (b := j)
       obtain ⟨n, hn, e2⟩ := xr (a := i) (b := j)
       have cut : eQ [Tr.int i, .int j, .bl b3] none (some 2) = [i, j].map Tr.int := rfl
       kd_mark
       refine qh rfl Rk.fz (fun h => absurd (show HT.sIx 3 3 (some 2) = 3 from h.2) (by decide)) ?_
       rw [cut]
       kd_mark
       refine wP rfl Rk.fz hm ?_
       kd_mark
       refine ah (fun h => ?_) (fun h => ?_)
       rotate_left
       ·have : (decide (60 <= i) && decide (i <= 2000) && (decide (60 <= j) && decide (j <= 2000) && true)) = false := by
         rw [Bool.eq_false_iff]
         intro z
         simp only [Bool.and_eq_true, decide_eq_true_eq] at z
         exact h (e1.mpr ⟨z.1.1, z.2.1.1⟩)
        rw [this] at φ
        sl_open
       kd_mark
       refine qh rfl Rk.fz (fun h => absurd (show HT.sIx 3 3 (some 2) = 3 from h.2) (by decide)) ?_
       rw [cut]
       kd_mark
       refine wt rfl Rk.fz hn ?_
       kd_mark
       have e3 : decide (n <= 2000) = (decide (60 <= i) && decide (i <= 2000) && (decide (60 <= j) && decide (j <= 2000) && true)) := by
        have h := e1.mp h
        rw [Bool.eq_iff_iff]
        simp only [Bool.and_eq_true, decide_eq_true_eq]
        rw [e2]
        exact ⟨fun z => ⟨⟨h.1, z.1⟩, ⟨h.2, z.2⟩, trivial⟩, fun z => ⟨z.1.2, z.2.1.2⟩⟩
       rw [e3]
       exact φ
      | _ => refine gA ?_; kd_mark; have φ : Φ (.fz (.bl (jo (Tr.int i) && false))) := φ; rw [Bool.and_false] at φ; exact φ
     | _ => refine gA ?_; sl_open
    | _ => sl_open
  ·rw [lK h3] at φ
   kd_mark
   refine ah (fun y => absurd y (by omega)) (fun _ => ?_)
   sl_open
 | _ => sl_open
theorem rY {t : Tr} (h : cD t) : Ad t := by
 cases h <;> first | trivial | rfl
theorem lj {K : Fg} {t : Tr} (hK : K = B.K) (ht : Ad t) (r2 : Rk τ y (.tup (ws.map Tr.str))) (q : Φ (.fz (.bl (!eJ ws t))) τ) : RO B (vK K true) (.fz t) y τ Φ := zy (neg := true) hK ht r2 q
theorem rX {t : Tr} (h : eJ ws t = true) : ∃ z, t = .str z /\ z ∈ ws := by
 cases t with
 | str z => exact ⟨z, rfl, of_decide_eq_true h⟩
 | _ => cases h
theorem oA {r : List Tr} (h : wishV (.tup (.str k :: r)) = true) : k ∈ FRM := by
 match r, h with
 | [], h =>
  have h : k ∈ (["straight", "days", "order"] : List Str) := of_decide_eq_true h
  simp at h
  rcases h with rfl | rfl | rfl <;> decide
 | [y], h =>
  have h : (if k = "turns" then rq y else if k = "broken" then ip y else decide (k = "order") && gt y) = true := h
  split at h
  ·rename_i e; rw [e]; decide
  ·split at h
   ·rename_i e; rw [e]; decide
   ·rw [Bool.and_eq_true] at h
    rw [of_decide_eq_true h.1]; decide
 | [y, z], h =>
  have h : (decide (k = "straight") && jf y z) = true := h
  rw [Bool.and_eq_true] at h
  rw [of_decide_eq_true h.1]; decide
noncomputable def tR : SpT := fun _ as Φ _ => ∃ (l a : Tr) (k : Str) (r : List Tr) (w0 w1 : Tr), as = [.fz l, .fz (.tup [a, .tup (.str k :: r)]), .fz (.tup [w0, w1])] /\ cD l /\ k ∈ FRM /\ sideV w0 = true /\ sideV w1 = true /\ Φ (.fz (.bl (cJ k w0 w1 l)))
theorem sM {b : Bool} {c o : Tr} (hz : z ∈ tH) : bS (.tup [.str z, .str (bK b), c, o]) = (wordV c && (if z ∈ (["bands", "words"] : List Str) then wordV o else o.isN)) := by
 show (decide (z ∈ tH) && (decide (bK b ∈ (["left", "right"] : List Str)) && (wordV c && (if decide (z ∈ (["bands", "words"] : List Str)) = true then wordV o else o.isN)))) = _
 rw [decide_eq_true hz, decide_eq_true (show bK b ∈ (["left", "right"] : List Str) by cases b <;> decide), Bool.true_and, Bool.true_and]
 by_cases h : z ∈ (["bands", "words"] : List Str)
 ·rw [decide_eq_true h, if_pos rfl, if_pos h]
 ·rw [decide_eq_false h, if_neg Bool.false_ne_true, if_neg h]
theorem iL (T : Txt K mg t) : FO P w base T.q_zbi 2 (bw K tR) := by
 have G_zag := @eN P w K mg base t T
 refine T.q_zbi.F.ok fE (aH (fun B as Φ Ψ h => by obtain ⟨_, _, _, _, _, _, rfl, _⟩ := h; rfl)) (fun cdv A outer s H vs Q E hr h => ?_)
 obtain ⟨B, as, Φ, Ψ, rfl, hS, hx, go⟩ := aA h
 obtain ⟨l, a, k, r, w0, w1, rfl, hp, hk, s0, s1, φ⟩ := hS
 refine ⟨_, (aV (aG (PW.pt (bf (aC (aI (be aW rfl rfl T.z_isinstance T.z_tuple aU (pv 0)))) (bf (ao dH (am aw rfl T.z_len PySem.boot_len (ac (pv 0) aq)) au (ay _)) (bh (ao (lB hr.un150) (af bn (pv 0) au (fun _ _ => rfl)) (ag (ac aa (ac aa aq))) rfl))))) (aZ (aj bc)) ar)
 (aV (aG (PW.pt (bf (ao (lB hr.un150) (af bn (pv 0) au (fun _ _ => rfl)) (ag (ac aa (ac aa (ac aa (ac aa (ac aa (ac aa (ac aa aq)))))))) rfl) (bh (aC (aI (bF G_zag hr T.q_zag (ac (af bn (pv 0) au (fun _ _ => rfl)) aq))))))) (aZ (aj bc)) ar)
 (aV (aG (PW.pt (cV (ao aP (af bn (pv 0) au (fun _ _ => rfl)) (ag (ac aa (ac aa aq))) rfl) (ce (aC (aI (bF G_zag hr T.q_zag (ac (af bn (pv 0) au (fun _ _ => rfl)) aq))))))) (aZ (aj bc)) ar)
 (aV (aG (PW.pt (cV (ao cq (af bn (pv 0) au (fun _ _ => rfl)) (ag (ac aa (ac aa aq))) rfl) (ce (ao dw (af bn (pv 0) au (fun _ _ => rfl)) aN (ay _))))) (aZ (aj bc)) ar)
 (aV (az (i := 3) fE.nd rfl (Or.inl rfl) (af bn (pv 2) (bB gn rfl T.z_int iF (ac (aK bI (af bn (pv 0) au (fun _ _ => rfl)) aa (ay _)) aq)) (fun _ _ => rfl)))
 (aV (aG (PW.pt (bf (ao cA (pv 3) aN (ay _)) (bh (PW.pt (cV (ao aP (af bn (pv 0) au (fun _ _ => rfl)) (ag (ac aa (ac aa (ac aa aq)))) rfl) (ce (ao dH (af bn (af bn (pv 1) au (fun _ _ => rfl)) au (fun _ _ => rfl)) aa (ay _)))))))) (aZ (aj bc)) ar)
 (aV (aG (PW.pt (cV (ao aP (af bn (pv 0) au (fun _ _ => rfl)) (ag (ac aa (ac aa aq))) rfl) (ce (ao bI (af bn (af bn (pv 1) au (fun _ _ => rfl)) au (fun _ _ => rfl)) aa (ay _))))) (aZ (aj bc)) ar)
 (aV (aG (ao bI (af bn (pv 0) au (fun _ _ => rfl)) aa (ay _)) (aZ (aj (aK aP (af bn (pv 3) au (fun _ _ => rfl)) (ag (ac aa (ac aa aq))) rfl))) ar)
 (aZ (aj (jX (aK aP (af bn (pv 0) au (fun _ _ => rfl)) (ag (ac aa (ac aa aq))) rfl) (bq (aK aP (af bn (pv 3) au (fun _ _ => rfl)) (ag (ac aa (ac aa (ac aa aq)))) rfl))))))))))))), go _ _ (bO (τ := [.fz _, .fz _, .fz _, .no]) rfl ?_)⟩
 cases hp with
 | @tup ts hl hq =>
  by_cases h4 : ts.length = 4
  rotate_left
  ·rw [cW (rO h4)] at φ
   kd_mark
   refine ah (fun y => absurd y (by omega)) (fun _ => ?_)
   sl_open
  match ts, h4, hl, hq, φ with
  | [m, sd, c, o], _, hl, hq, φ =>
   have pm := hq m (by simp)
   have ps := hq sd (by simp)
   have pc := hq c (by simp)
   have po := hq o (by simp)
   kd_mark
   refine ah (fun _ => ?_) (fun y => absurd (show (([m, sd, c, o].length : Nat) : Int) = 4 from rfl) y)
   kd_mark
   refine lj (ws := ["left", "right"]) rfl (rY ps) Rk.fz ?_
   kd_mark
   refine aS (fun h => ?_) (fun h => ?_)
   rotate_left
   ·rw [cW (show bS (.tup [m, sd, c, o]) = false by show (eJ tH m && (eJ ["left", "right"] sd && _)) = false; rw [h, Bool.false_and, Bool.and_false])] at φ
    sl_open
   obtain ⟨u, rfl, hu⟩ := rX h
   obtain ⟨b, rfl⟩ : ∃ b, u = bK b := by
    simp at hu
    rcases hu with rfl | rfl
    ·exact ⟨false, rfl⟩
    ·exact ⟨true, rfl⟩
   clear h hu
   kd_mark
   refine lj (ws := tH) rfl (rY pm) Rk.fz ?_
   kd_mark
   refine aS (fun h => ?_) (fun h => ?_)
   rotate_left
   ·rw [cW (show bS (.tup [m, .str (bK b), c, o]) = false by show (eJ tH m && _) = false; rw [h, Bool.false_and])] at φ
    sl_open
   obtain ⟨z, rfl, hz⟩ := rX h
   clear h
   have eL := sM (b := b) (c := c) (o := o) hz
   kd_mark
   intro _ _
   refine ⟨c, rfl, pc, ?_⟩
   kd_mark
   refine aS (fun h => ?_) (fun h => ?_)
   rotate_left
   ·rw [cW (by rw [eL, h, Bool.false_and])] at φ
    sl_open
   rw [h, Bool.true_and] at eL
   clear h
   have no : bS (.tup [.str z, .str (bK b), c, o]) = false -> Φ (.fz (.bl false)) := fun e => by rw [cW e] at φ; exact φ
   kby_none
   refine cZ (fun τ' => τ' = [.fz (.tup [.str z, .str (bK b), c, o]), .fz (.tup [a, .tup (.str k :: r)]), .fz (.tup [w0, w1]), .no] /\ (z ∈ (["bands", "words"] : List Str) -> wordV o = true)) ?_ ?_
   ·kd_mark
    refine bN (ws := ["bands", "words"]) rfl Rk.fz ?_
    kd_mark
    refine ah (fun h1 => ?_) (fun h1 => ?_)
    ·kd_mark
     intro _ _
     refine ⟨o, rfl, po, ?_⟩
     kd_mark
     refine aS (fun h2 => ?_) (fun h2 => ?_)
     ·kd_mark
      exact ⟨rfl, fun _ => h2⟩
     ·kd_mark
      exact no (by rw [eL, if_pos h1, h2])
    ·kd_mark
     exact ⟨rfl, fun z => absurd z h1⟩
   rintro τ' ⟨rfl, f1⟩
   kby_none
   refine cZ (fun τ' => τ' = [.fz (.tup [.str z, .str (bK b), c, o]), .fz (.tup [a, .tup (.str k :: r)]), .fz (.tup [w0, w1]), .no] /\ (z ∉ (["bands", "words"] : List Str) -> o.isN = true)) ?_ ?_
   ·kd_mark
    refine de (ws := ["bands", "words"]) rfl Rk.fz ?_
    kd_mark
    refine ah (fun h1 => ?_) (fun h1 => ?_)
    ·kd_mark
     exact ⟨rfl, fun z => absurd h1 z⟩
    ·kd_mark
     refine ii ⟨_, rfl, ?_⟩
     kd_mark
     refine aS (fun h2 => ?_) (fun h2 => ?_)
     ·kd_mark
      exact ⟨rfl, fun _ => h2⟩
     ·kd_mark
      exact no (by rw [eL, if_neg h1, h2])
   rintro τ' ⟨rfl, f2⟩
   have eT : bS (.tup [.str z, .str (bK b), c, o]) = true := by
    rw [eL]
    split
    ·rename_i q; exact f1 q
    ·rename_i q; exact f2 q
   rw [oY eT] at φ
   clear f1 f2 eL no eT
   have hw : sideV (if b = true then w1 else w0) = true := by cases b <;> assumption
   have eb : eI [w0, w1] (if decide (bK b = "right") = true then (1 : Int) else 0) = some (if b = true then w1 else w0) := by cases b <;> rfl
   kd_mark
   refine dF rfl Rk.fz eb ?_
   generalize (if b = true then w1 else w0) = w' at *
   unfold vx at φ
   kby_none
   refine cZ (fun τ' => τ' = [.fz (.tup [.str z, .str (bK b), c, o]), .fz (.tup [a, .tup (.str k :: r)]), .fz (.tup [w0, w1]), .fz w'] /\ w'.isN = false /\ (z ∈ (["bars", "heaps", "boxes"] : List Str) -> k = "order")) ?_ ?_
   ·kd_mark
    refine dQ ⟨_, rfl, ?_⟩
    refine aS (fun h1 => ?_) (fun h1 => ?_)
    ·have : w' = .non := by cases w' <;> first | rfl | cases h1
     subst this
     sl_open
    kd_mark
    refine bN (ws := ["bars", "heaps", "boxes"]) rfl Rk.fz ?_
    kd_mark
    refine ah (fun h2 => ?_) (fun h2 => ?_)
    ·kd_mark
     refine dF rfl Rk.fz (bp (j := 0) rfl) ?_
     kd_mark
     refine ah (fun h3 => ?_) (fun h3 => ?_)
     ·kd_mark
      exact ⟨rfl, h1, fun _ => h3⟩
     ·have : decide (k ∈ dM z) = false := decide_eq_false (by unfold dM; rw [if_pos h2]; simpa using h3)
      rw [this, Bool.and_false] at φ
      sl_open
    ·kd_mark
     exact ⟨rfl, h1, fun q => absurd q h2⟩
   rintro τ' ⟨rfl, n1, f3⟩
   obtain ⟨k', r', rfl⟩ : ∃ k' r', w' = .tup (.str k' :: r') := by
    rcases qT hw with rfl | h
    ·cases n1
    ·exact h
   have hw' : wishV (.tup (.str k' :: r')) = true := by
    unfold sideV at hw
    rw [n1, Bool.false_or] at hw
    exact hw
   kby_none
   refine cZ (fun τ' => τ' = [.fz (.tup [.str z, .str (bK b), c, o]), .fz (.tup [a, .tup (.str k :: r)]), .fz (.tup [w0, w1]), .fz (.tup (.str k' :: r'))] /\ (z ∈ (["lines", "bands"] : List Str) -> k ≠ "order")) ?_ ?_
   ·kd_mark
    refine bN (ws := ["lines", "bands"]) rfl Rk.fz ?_
    kd_mark
    refine ah (fun h2 => ?_) (fun h2 => ?_)
    ·kd_mark
     refine dF rfl Rk.fz (bp (j := 0) rfl) ?_
     kd_mark
     refine ah (fun h3 => ?_) (fun h3 => ?_)
     ·have : decide (k ∈ dM z) = false := decide_eq_false (by
       unfold dM
       rw [h3, if_pos h2, if_neg (by intro q; simp at h2; rcases h2 with rfl | rfl <;> exact absurd q (by decide))]
       decide)
      rw [this, Bool.and_false] at φ
      sl_open
     ·kd_mark
      exact ⟨rfl, fun _ => h3⟩
    ·kd_mark
     exact ⟨rfl, fun q => absurd q h2⟩
   rintro τ' ⟨rfl, f4⟩
   have hX : k ∈ dM z := by
    unfold dM
    split
    ·rename_i q; rw [f3 q]; decide
    ·split
     ·rename_i q
      have := f4 q
      unfold FRM at hk
      simp at hk ⊢
      rcases hk with h | h | h | h | h
      ·exact .inl h
      ·exact .inr (.inl h)
      ·exact .inr (.inr (.inl h))
      ·exact .inr (.inr (.inr h))
      ·exact absurd h this
     ·exact hk
   rw [decide_eq_true hX, Bool.and_true] at φ
   have φ : Φ (.fz (.bl (decide (k' ∈ eR z)))) := φ
   kd_mark
   refine ah (fun h5 => ?_) (fun h5 => ?_)
   ·unfold eR at φ
    rw [if_pos h5] at φ
    kd_mark
    refine dF rfl Rk.fz (bp (j := 0) rfl) ?_
    kd_mark
    refine bN (ws := ["straight", "turns"]) rfl Rk.fz ?_
    sl_open
   kd_mark
   refine bN (ws := ["dots", "words"]) rfl Rk.fz ?_
   kd_mark
   refine ah (fun h6 => ?_) (fun h6 => ?_)
   ·have : k' ∈ eR z := by
     unfold eR
     rw [if_neg h5, if_neg (by intro q; simp at h6; rcases h6 with rfl | rfl <;> exact absurd q (by decide))]
     exact oA hw'
    rw [decide_eq_true this] at φ
    sl_open
   ·unfold eR at φ
    rw [if_neg h5, if_pos (by
     unfold tH at hz
     simp at hz h6 ⊢
     rcases hz with h | h | h | h | h | h | h <;> simp [h] at *)] at φ
    kd_mark
    refine dF rfl Rk.fz (bp (j := 0) rfl) ?_
    kd_mark
    refine bN (ws := ["straight", "turns", "broken"]) rfl Rk.fz ?_
    sl_open
 | _ => sl_open
noncomputable def si : SpT := fun _ as Φ _ => ∃ (x a : Tr) (k : Str) (r : List Tr) (w0 w1 : Tr), as = [.fz x, .fz (.tup [a, .tup (.str k :: r)]), .fz (.tup [w0, w1])] /\ cD x /\ k ∈ FRM /\ sideV w0 = true /\ sideV w1 = true /\ Φ (.fz (.bl (dq k w0 w1 x)))
theorem hV (T : Txt K mg t) : FO P w base T.q_zbj 3 (bw K si) := by
 have G_zbi := @iL P w K mg base t T
 refine T.q_zbj.F.ok eY (aH (fun B as Φ Ψ h => by obtain ⟨_, _, _, _, _, _, rfl, _⟩ := h; rfl)) (fun cdv A outer s H vs Q E hr h => ?_)
 obtain ⟨B, as, Φ, Ψ, rfl, hS, hx, go⟩ := aA h
 obtain ⟨x, a, k, r, w0, w1, rfl, hp, hk, s0, s1, φ⟩ := hS
 refine ⟨_, (aV (aG (PW.pt (bf (aC (aI (be aW rfl rfl T.z_isinstance T.z_tuple aU (pv 0)))) (bh (aC (cn bJ bJ au (am aw rfl T.z_len PySem.boot_len (ac (pv 0) aq)) au))))) (aZ (aj bc)) ar)
 (aV (aG (ao (ng hr.units0) (gw (tg := "_law_one") (fr := [("_law_x", 1), ("_law_sides", 2)]) rfl (cE (osc := ae bV) (N := ["_law_layers_here", "_law_x", "_law_sides", "_law_there"]) rfl rfl (by decide +kernel)) (ck (pv 0)) (fun _ _ _ _ _ => (aC (aI (bF G_zbi hr T.q_zbi (ac (pv 0) (ac (pv 1) (ac (pv 2) aq))))))) (fun _ _ _ _ _ => (pv 0))) (aD aq) (ay _)) (aZ (aj bc)) ar)
 (aV (uA (iy := 3) eY.nd rfl (Or.inl rfl) rfl (bi (fr := []) (osc := ae bV) (N := ["_law_layers_here", "_law_x", "_law_sides", "_law_there"]) rfl rfl (by decide +kernel)) (ck (pv 0)) (fun _ _ _ _ _ => (af (r := iV B.K) bn (pv 0) au (fun _ _ => rfl))))
 (aZ (aj (bv (jX (aK cA (af bn (pv 2) au (fun _ _ => rfl)) aN (ay _)) (bq (aK aP aa (pv 3) rfl))) (bq (jX (aK cA (af bn (pv 2) au (fun _ _ => rfl)) aN (ay _)) (bq (aK aP aa (pv 3) rfl)))))))))), go _ _ (bO (τ := [.fz _, .fz _, .fz _, .no]) rfl ?_)⟩
 cases hp with
 | @tup ls hl hq =>
  have φ : Φ (.fz (.bl ((decide (1 <= ls.length) && decide (ls.length <= 3)) && (ls.all (cJ k w0 w1) && ((decide (("left" : Str) ∈ ls.map bD) || w0.isN) && ((decide (("right" : Str) ∈ ls.map bD) || w1.isN) && true)))))) := φ
  kd_mark
  refine ah (fun h => ?_) (fun h => ?_)
  rotate_left
  ·rw [decide_eq_false (show ¬ 1 <= ls.length by omega), Bool.false_and, Bool.false_and] at φ
   sl_open
  rw [decide_eq_true (show 1 <= ls.length by omega), Bool.true_and] at φ
  kd_mark
  refine ah (fun h => ?_) (fun h => ?_)
  rotate_left
  ·rw [decide_eq_false (show ¬ ls.length <= 3 by omega), Bool.false_and] at φ
   sl_open
  rw [decide_eq_true (show ls.length <= 3 by omega), Bool.true_and] at φ
  kd_mark
  refine gb (dA rfl ?_)
  kd_mark
  refine ⟨_, .fz (by kt_join) (.fz (by kt_join) .nil), by omega, fun i o => ∃ x, ls[i]? = some x /\ o = if cJ k w0 w1 x = true then none else some x, fun i t ht => ?_, fun os hl2 ho => ?_⟩
  ·kd_mark
   intro _ _
   refine ⟨t, a, k, r, w0, w1, rfl, hq t (List.mem_of_getElem? ht), hk, s0, s1, ?_⟩
   kd_mark
   refine aS (fun h => ?_) (fun h => ?_)
   ·exact ⟨t, ht, by rw [if_pos h]⟩
   ·kd_mark
    exact ⟨t, ht, by rw [h]; rfl⟩
  have ee := gz (f := cJ k w0 w1) (g := fun x => x) (xs := ls) hl2 ho
  kd_mark
  refine gM rfl (by dl_open) Rk.fz ?_
  rw [ee]
  kd_mark
  refine aS (fun h => ?_) (fun h => ?_)
  rotate_left
  ·rw [h, Bool.false_and] at φ
   sl_open
  rw [h, Bool.true_and] at φ
  have hm : ∀ l ∈ ls, bS l = true := fun l hl => by
   cases e : bS l with
   | true => rfl
   | false => have := List.all_eq_true.mp h l hl; rw [cW e] at this; cases this
  kd_mark
  refine ij (dA rfl ?_)
  kd_mark
  refine ⟨[], .nil, by omega, fun i o => ∃ x, ls[i]? = some x /\ o = .str (bD x), fun i t ht => ?_, fun os hl3 ho3 => ?_⟩
  ·obtain ⟨m, b, c, o, rfl⟩ := fP (hm t (List.mem_of_getElem? ht))
   kd_mark
   exact ⟨_, ht, rfl⟩
  rw [im (xs := ls) (f := fun x => Tr.str (bD x)) hl3 ho3, show (ls.map fun x => Tr.str (bD x)) = (ls.map bD).map Tr.str by rw [List.map_map]; rfl]
  rw [Bool.and_true, Bool.or_comm, Bool.or_comm (decide (("right" : Str) ∈ ls.map bD))] at φ
  kd_mark
  refine dQ ⟨_, rfl, ?_⟩
  refine aS (fun h1 => ?_) (fun h1 => ?_)
  ·rw [h1, Bool.true_or, Bool.true_and] at φ
   kd_mark
   refine dQ ⟨_, rfl, ?_⟩
   refine aS (fun h2 => ?_) (fun h2 => ?_)
   ·rw [h2, Bool.true_or] at φ
    sl_open
   ·rw [h2, Bool.false_or] at φ
    kd_mark
    refine jk (ws := ls.map bD) rfl (by dl_open) ?_
    sl_open
  rw [h1, Bool.false_or] at φ
  kd_mark
  refine jk (ws := ls.map bD) rfl (by dl_open) ?_
  kd_mark
  refine ah (fun h3 => ?_) (fun h3 => ?_)
  ·rw [decide_eq_true h3, Bool.true_and] at φ
   kd_mark
   refine dQ ⟨_, rfl, ?_⟩
   refine aS (fun h2 => ?_) (fun h2 => ?_)
   ·rw [h2, Bool.true_or] at φ
    sl_open
   ·rw [h2, Bool.false_or] at φ
    kd_mark
    refine jk (ws := ls.map bD) rfl (by dl_open) ?_
    sl_open
  ·rw [decide_eq_false h3, Bool.false_and] at φ
   sl_open
 | _ => sl_open
theorem AA : ky FRM x = wishV x := by
 unfold ky
 cases h : wishV x with
 | false => rfl
 | true =>
  obtain ⟨k, r, rfl⟩ := ic h
  exact decide_eq_true (oA h)
theorem ko {t : Tr} : chanV ["order"] t = (chanV ["straight", "order"] t && decide (Ch t = "order")) := by
 cases h : chanV ["straight", "order"] t with
 | true =>
  obtain ⟨a, k, r, rfl, ek⟩ := ju h
  have h : (wordV a && (wishV (.tup (.str k :: r)) && decide (k ∈ (["straight", "order"] : List Str)))) = true := h
  rw [Bool.and_eq_true, Bool.and_eq_true] at h
  show (wordV a && (wishV (.tup (.str k :: r)) && decide (k ∈ (["order"] : List Str)))) = _
  rw [h.1, h.2.1, Bool.true_and, Bool.true_and, Bool.true_and, ek]
  simp
 | false =>
  rw [Bool.false_and]
  match t, h with
  | .tup [a, b], h =>
   have h : (wordV a && (wishV b && fg ["straight", "order"] b)) = false := h
   show (wordV a && (wishV b && fg ["order"] b)) = false
   cases ha : wordV a with
   | false => rfl
   | true =>
    cases hb : wishV b with
    | false => rfl
    | true =>
     rw [ha, hb, Bool.true_and, Bool.true_and] at h
     obtain ⟨k, r, rfl⟩ := ic hb
     have h : k ∉ (["straight", "order"] : List Str) := of_decide_eq_false h
     show decide (k ∈ (["order"] : List Str)) = false
     refine decide_eq_false fun z => h ?_
     rw [List.mem_singleton.mp z]
     decide
  | .tup [], _ => rfl
  | .tup [_], _ => rfl
  | .tup (_ :: _ :: _ :: _), _ => rfl
  | .non, _ => rfl
  | .bl _, _ => rfl
  | .int _, _ => rfl
  | .str _, _ => rfl
  | .lst _, _ => rfl
  | .dct _, _ => rfl
  | .ty _, _ => rfl
noncomputable def oT : Option Str -> Tr
 | none => .non
 | some z => .str z
noncomputable def vi : SpT := fun _ as Φ _ => ∃ t0 t1 t2 t3 t4 t5 t6 t7 : Tr, as = [.fz (.tup [t0, t1, t2, t3, t4, t5, t6, t7])] /\ cD t0 /\ cD t1 /\ cD t2 /\ cD t3 /\ cD t4 /\ cD t5 /\ cD t6 /\ cD t7 /\ Φ (.fz (oT (cj t0 t1 t2 t3 t4 t5 t6 t7)))
theorem iB (T : Txt K mg t) : FO P w base T.q_zbl 6 (bw K vi) := by
 have G_zai := @iZ P w K mg base t T
 have G_zar := @gC P w K mg base t T
 have G_zbj := @hV P w K mg base t T
 have G_zbk := @iN P w K mg base t T
 refine T.q_zbl.F.ok aX (aH (fun B as Φ Ψ h => by obtain ⟨_, _, _, _, _, _, _, _, rfl, _⟩ := h; rfl)) (fun cdv A outer s H vs Q E hr h => ?_)
 obtain ⟨B, as, Φ, Ψ, rfl, hS, hx, go⟩ := aA h
 obtain ⟨t0, t1, t2, t3, t4, t5, t6, t7, rfl, p0, p1, p2, p3, p4, p5, p6, p7, φ⟩ := hS
 refine ⟨_, (aV (az (i := 1) aX.nd rfl (Or.inr rfl) (ag (ac aa (ac aa (ac aa (ac aa (ac aa aq)))))))
 (aV (uC (pv 0) (qg rfl (bX (br (i := 2) aX.nd rfl (Or.inl rfl)) (bX (br (i := 3) aX.nd rfl (Or.inl rfl)) (bX (br (i := 4) aX.nd rfl (Or.inl rfl)) (bX (br (i := 5) aX.nd rfl (Or.inl rfl)) (bX (br (i := 6) aX.nd rfl (Or.inl rfl)) (bX (br (i := 7) aX.nd rfl (Or.inl rfl)) (bX (br (i := 8) aX.nd rfl (Or.inl rfl)) (bX (br (i := 9) aX.nd rfl (Or.inl rfl)) nv))))))))))
 (aV (aG (PW.pt (bf (aC (aI (be kB rfl rfl T.z_isinstance T.z_list gu (pv 2)))) (bh (ao rL (am aw rfl T.z_len PySem.boot_len (ac (pv 2) aq)) au (ay _))))) (aZ (aj aa)) ar)
 (aV (aG (aC (aI (bF G_zai hr T.q_zai (ac (pv 3) (ac (pv 1) aq))))) (aZ (aj aa)) ar)
 (aV (aG (PW.pt (bf (aC (aI (be aW rfl rfl T.z_isinstance T.z_tuple aU (pv 4)))) (bh (ao dH (am aw rfl T.z_len PySem.boot_len (ac (pv 4) aq)) au (ay _))))) (aZ (aj aa)) ar)
 (aV (aG (ao (ng hr.units0) (gw (tg := "_law_one") (fr := [("_law_every", 1)]) rfl (cE (osc := ae bW) (N := ["_law_thing", "_law_every", "_law_steps", "_law_x", "_law_sides", "_law_layers_here", "_law_colour", "_law_size", "_law_facet", "_law_sheet"]) rfl rfl (by decide +kernel)) (ck (pv 4)) (fun _ _ _ _ _ => (PW.pt (cV (ao dw (pv 0) aN (ay _)) (ce (aC (aI (bF G_zar hr T.q_zar (ac (pv 0) (ac (pv 1) aq))))))))) (fun _ _ _ _ _ => (pv 0))) (aD aq) (ay _)) (aZ (aj aa)) ar)
 (aV (aG (aC (aI (bF G_zbj hr T.q_zbj (ac (pv 5) (ac (pv 3) (ac (pv 4) aq)))))) (aZ (aj aa)) ar)
 (aV (aG (PW.pt (cV (ao dw (pv 6) aN (ay _)) (ce (aC (aI (bF G_zai hr T.q_zai (ac (pv 6) (ac (ag (ac aa (ac aa aq))) aq)))))))) (aZ (aj aa)) ar)
 (aV (aG (PW.pt (cV (ao aP aa (dX rfl (bi (fr := []) (osc := ae bW) (N := ["_law_thing", "_law_every", "_law_steps", "_law_x", "_law_sides", "_law_layers_here", "_law_colour", "_law_size", "_law_facet", "_law_sheet"]) rfl rfl (by decide +kernel)) (ck (pv 5)) (fun _ _ _ _ _ => (af (r := iV B.K) bn (pv 0) au (fun _ _ => rfl)))) rfl) (ce (PW.pt (bf (ao cA (pv 6) aN (ay _)) (bh (ao dH (af bn (af bn (pv 6) au (fun _ _ => rfl)) au (fun _ _ => rfl)) aa (ay _)))))))) (aZ (aj aa)) ar)
 (aV (aG (PW.pt (cV (ao dw (pv 7) aN (ay _)) (ce (aC (aI (bF G_zai hr T.q_zai (ac (pv 7) (ac (ag (ac aa aq)) aq)))))))) (aZ (aj aa)) ar)
 (aV (aG (PW.pt (cV (ao dw (pv 8) aN (ay _)) (ce (aC (aI (bF G_zai hr T.q_zai (ac (pv 8) (ac (ag (ac aa aq)) aq)))))))) (aZ (aj aa)) ar)
 (aZ (aj (af cz (aD (ac aN (ac aa aq))) (bB gn rfl T.z_int iF (ac (qk (bF G_zbk hr T.q_zbk (ac (pv 9) aq))) aq)) (fun _ _ => rfl))))))))))))))), go _ _ (bO (τ := [.fz _, .no, .no, .no, .no, .no, .no, .no, .no, .no]) rfl ?_)⟩
 unfold cj at φ
 have none_ : ∀ z : Str, cj t0 t1 t2 t3 t4 t5 t6 t7 = some z -> Φ (.fz (.str z)) := fun z e => by
  have : Φ (.fz (oT (cj t0 t1 t2 t3 t4 t5 t6 t7))) := φ
  rw [e] at this
  exact this
 kby_none
 refine cZ (fun τ' => τ' = [.fz (.tup [t0, t1, t2, t3, t4, t5, t6, t7]), .fz (.tup (FRM.map Tr.str)), .fz t0, .fz t1, .fz t2, .fz t3, .fz t4, .fz t5, .fz t6, .fz t7] /\ ka t0 = true) ?_ ?_
 ·cases p0 with
  | @lst ts hl hq =>
   kd_mark
   refine ah (fun h => ?_) (fun h => ?_)
   ·kd_mark
    exact none_ "steps" (by unfold cj; rw [if_pos (show ka (.lst ts) = false from decide_eq_false (by omega))])
   ·kd_mark
    exact ⟨rfl, decide_eq_true (by omega)⟩
  | _ => kd_mark; exact none_ "steps" rfl
 rintro τ' ⟨rfl, c0⟩
 kby_none
 refine cZ (fun τ' => τ' = [.fz (.tup [t0, t1, t2, t3, t4, t5, t6, t7]), .fz (.tup (FRM.map Tr.str)), .fz t0, .fz t1, .fz t2, .fz t3, .fz t4, .fz t5, .fz t6, .fz t7] /\ chanV FRM t1 = true) ?_ ?_
 ·kd_mark
  intro _ _
  refine ⟨t1, FRM, rfl, p1, ?_⟩
  kd_mark
  refine aS (fun h => ?_) (fun h => ?_)
  ·kd_mark
   exact ⟨rfl, h⟩
  ·kd_mark
   exact none_ "x" (by unfold cj; rw [c0, if_neg nofun, if_pos h])
 rintro τ' ⟨rfl, c1⟩
 have noS : fL t2 = false -> Φ (.fz (.str "sides")) := fun h => none_ "sides" (by unfold cj; rw [c0, if_neg nofun, c1, if_neg nofun, if_pos h])
 kby_none
 refine cZ (fun τ' => τ' = [.fz (.tup [t0, t1, t2, t3, t4, t5, t6, t7]), .fz (.tup (FRM.map Tr.str)), .fz t0, .fz t1, .fz t2, .fz t3, .fz t4, .fz t5, .fz t6, .fz t7] /\ ∃ ts, t2 = .tup ts /\ ts.length = 2) ?_ ?_
 ·cases p2 with
  | @tup ts hl hq =>
   kd_mark
   refine ah (fun h => ?_) (fun h => ?_)
   ·kd_mark
    exact ⟨rfl, ts, rfl, by omega⟩
   ·kd_mark
    exact noS (show (decide (ts.length = 2) && _) = false by rw [decide_eq_false (by omega), Bool.false_and])
  | _ => kd_mark; exact noS rfl
 rintro τ' ⟨rfl, ts, rfl, l2⟩
 have q2 : ∀ x ∈ ts, cD x := by
  cases p2 with
  | tup _ hq => exact hq
 kby_none
 refine cZ (fun τ' => τ' = [.fz (.tup [t0, t1, .tup ts, t3, t4, t5, t6, t7]), .fz (.tup (FRM.map Tr.str)), .fz t0, .fz t1, .fz (.tup ts), .fz t3, .fz t4, .fz t5, .fz t6, .fz t7] /\ fL (.tup ts) = true) ?_ ?_
 ·kd_mark
  refine gb (dA rfl ?_)
  kd_mark
  refine ⟨_, .fz (by kt_join) .nil, by omega, fun i o => ∃ x, ts[i]? = some x /\ o = if sideV x = true then none else some x, fun i t ht => ?_, fun os hl2 ho => ?_⟩
  ·kd_mark
   refine ii ⟨_, rfl, ?_⟩
   kd_mark
   refine aS (fun h => ?_) (fun h => ?_)
   ·exact ⟨t, ht, by unfold sideV; rw [h]; rfl⟩
   ·kd_mark
    intro _ _
    refine ⟨t, FRM, rfl, q2 t (List.mem_of_getElem? ht), ?_⟩
    rw [AA]
    kd_mark
    refine aS (fun h2 => ?_) (fun h2 => ?_)
    ·exact ⟨t, ht, by unfold sideV; rw [h, h2]; rfl⟩
    ·kd_mark
     exact ⟨t, ht, by unfold sideV; rw [h, h2]; rfl⟩
  have ee := gz (f := sideV) (g := fun x => x) (xs := ts) hl2 ho
  have es : fL (.tup ts) = ts.all sideV := by show (decide (ts.length = 2) && _) = _; rw [decide_eq_true l2, Bool.true_and]
  kd_mark
  refine gM rfl (by dl_open) Rk.fz ?_
  rw [ee]
  kd_mark
  refine aS (fun h => ?_) (fun h => ?_)
  ·kd_mark
   exact ⟨rfl, by rw [es]; exact h⟩
  ·kd_mark
   exact noS (by rw [es]; exact h)
 rintro τ' ⟨rfl, c2⟩
 generalize Tr.tup ts = t2 at *
 clear l2 q2 noS
 have c1' := c1
 obtain ⟨a, k, r, rfl, ek⟩ := ju c1'
 obtain ⟨w0, w1, rfl, sd0, sd1⟩ := pd c2
 have hk : k ∈ FRM := by
  have h : (wordV a && (wishV (.tup (.str k :: r)) && fg FRM (.tup (.str k :: r)))) = true := c1
  rw [Bool.and_eq_true, Bool.and_eq_true] at h
  exact of_decide_eq_true h.2.2
 have f4 : cj t0 (.tup [a, .tup (.str k :: r)]) (.tup [w0, w1]) t3 t4 t5 t6 t7 = if dq k w0 w1 t3 = false then some ("layers" : Str) else if cX (vB t3) t4 = false then some ("colour" : Str) else if eS ["straight"] t5 = false then some ("size" : Str) else if eS ["order"] t6 = false then some ("facet" : Str) else if dE t7 = false then some ("sheet" : Str) else none := by
  unfold cj
  rw [c0, if_neg nofun, c1, if_neg nofun, c2, if_neg nofun]
  rfl
 have fin : cj t0 (.tup [a, .tup (.str k :: r)]) (.tup [w0, w1]) t3 t4 t5 t6 t7 = none -> Φ (.fz .non) := fun e => by
  have : Φ (.fz (oT (cj t0 (.tup [a, .tup (.str k :: r)]) (.tup [w0, w1]) t3 t4 t5 t6 t7))) := φ
  rw [e] at this
  exact this
 rw [f4] at none_ fin
 clear f4 φ
 kby_none
 refine cZ (fun τ' => τ' = [.fz (.tup [t0, .tup [a, .tup (.str k :: r)], .tup [w0, w1], t3, t4, t5, t6, t7]), .fz (.tup (FRM.map Tr.str)), .fz t0, .fz (.tup [a, .tup (.str k :: r)]), .fz (.tup [w0, w1]), .fz t3, .fz t4, .fz t5, .fz t6, .fz t7] /\ dq k w0 w1 t3 = true) ?_ ?_
 ·kd_mark
  intro _ _
  refine ⟨t3, a, k, r, w0, w1, rfl, p3, hk, sd0, sd1, ?_⟩
  kd_mark
  refine aS (fun h => ?_) (fun h => ?_)
  ·kd_mark
   exact ⟨rfl, h⟩
  ·kd_mark
   exact none_ "layers" (if_pos h)
 rintro τ' ⟨rfl, c3⟩
 rw [c3, if_neg nofun] at none_ fin
 obtain ⟨ls, rfl, ll, lm⟩ := rf c3
 have noC : cX ls t4 = false -> Φ (.fz (.str "colour")) := fun h => none_ "colour" (if_pos h)
 kby_none
 refine cZ (fun τ' => τ' = [.fz (.tup [t0, .tup [a, .tup (.str k :: r)], .tup [w0, w1], .tup ls, t4, t5, t6, t7]), .fz (.tup (FRM.map Tr.str)), .fz t0, .fz (.tup [a, .tup (.str k :: r)]), .fz (.tup [w0, w1]), .fz (.tup ls), .fz t4, .fz t5, .fz t6, .fz t7] /\ (t4.isN = true ∨ chanV ["straight", "order"] t4 = true)) ?_ ?_
 ·kd_mark
  refine ii ⟨_, rfl, ?_⟩
  kd_mark
  refine aS (fun h => ?_) (fun h => ?_)
  ·kd_mark
   exact ⟨rfl, .inl h⟩
  ·kd_mark
   intro _ _
   refine ⟨t4, ["straight", "order"], rfl, p4, ?_⟩
   kd_mark
   refine aS (fun h2 => ?_) (fun h2 => ?_)
   ·kd_mark
    exact ⟨rfl, .inr h2⟩
   ·kd_mark
    refine noC ?_
    unfold cX
    split
    ·rw [ko, h2]; rfl
    ·rw [h, h2]; rfl
 rintro τ' ⟨rfl, c4⟩
 kby_none
 refine cZ (fun τ' => τ' = [.fz (.tup [t0, .tup [a, .tup (.str k :: r)], .tup [w0, w1], .tup ls, t4, t5, t6, t7]), .fz (.tup (FRM.map Tr.str)), .fz t0, .fz (.tup [a, .tup (.str k :: r)]), .fz (.tup [w0, w1]), .fz (.tup ls), .fz t4, .fz t5, .fz t6, .fz t7] /\ cX ls t4 = true) ?_ ?_
 ·kd_mark
  refine ij (dA rfl ?_)
  kd_mark
  refine ⟨[], .nil, by omega, fun i o => ∃ x, ls[i]? = some x /\ o = .str (dN x), fun i t ht => ?_, fun os hl3 ho3 => ?_⟩
  ·obtain ⟨m, b, c, o, rfl⟩ := fP (lm t (List.mem_of_getElem? ht))
   kd_mark
   exact ⟨_, ht, rfl⟩
  rw [im (xs := ls) (f := fun x => Tr.str (dN x)) hl3 ho3, show (ls.map fun x => Tr.str (dN x)) = (ls.map dN).map Tr.str by rw [List.map_map]; rfl]
  kd_mark
  refine jk (ws := ls.map dN) rfl Rk.fz ?_
  kd_mark
  unfold cX at noC ⊢
  refine ah (fun h => ?_) (fun h => ?_)
  ·rw [if_pos h] at noC ⊢
   kd_mark
   refine dQ ⟨_, rfl, ?_⟩
   refine aS (fun h2 => ?_) (fun h2 => ?_)
   ·have : t4 = .non := by cases t4 <;> first | rfl | cases h2
    subst this
    kd_mark
    exact noC rfl
   have c5 : chanV ["straight", "order"] t4 = true := by
    rcases c4 with z | z
    ·rw [h2] at z; cases z
    ·exact z
   obtain ⟨a', k', r', rfl, ek'⟩ := ju c5
   rw [ko, c5, Bool.true_and, ek'] at noC ⊢
   kd_mark
   refine dF rfl Rk.fz (bp (j := 0) rfl) ?_
   kd_mark
   refine ah (fun h3 => ?_) (fun h3 => ?_)
   ·kd_mark
    exact ⟨rfl, decide_eq_true h3⟩
   ·kd_mark
    exact noC (decide_eq_false h3)
  ·rw [if_neg h]
   kd_mark
   exact ⟨rfl, by rcases c4 with z | z <;> rw [z]; rfl; exact Bool.or_true _⟩
 rintro τ' ⟨rfl, c5⟩
 rw [show vB (.tup ls) = ls from rfl, c5, if_neg nofun] at none_ fin
 clear c4 noC
 kby_none
 refine cZ (fun τ' => τ' = [.fz (.tup [t0, .tup [a, .tup (.str k :: r)], .tup [w0, w1], .tup ls, t4, t5, t6, t7]), .fz (.tup (FRM.map Tr.str)), .fz t0, .fz (.tup [a, .tup (.str k :: r)]), .fz (.tup [w0, w1]), .fz (.tup ls), .fz t4, .fz t5, .fz t6, .fz t7] /\ eS ["straight"] t5 = true) ?_ ?_
 ·kd_mark
  refine ii ⟨_, rfl, ?_⟩
  kd_mark
  refine aS (fun h => ?_) (fun h => ?_)
  ·kd_mark
   exact ⟨rfl, by unfold eS; rw [h]; rfl⟩
  ·kd_mark
   intro _ _
   refine ⟨t5, ["straight"], rfl, p5, ?_⟩
   kd_mark
   have eo : eS ["straight"] t5 = chanV ["straight"] t5 := by unfold eS; rw [h]; rfl
   refine aS (fun h2 => ?_) (fun h2 => ?_)
   ·kd_mark
    exact ⟨rfl, by rw [eo]; exact h2⟩
   ·kd_mark
    exact none_ "size" (by rw [if_pos (by rw [eo]; exact h2)])
 rintro τ' ⟨rfl, c6⟩
 rw [c6, if_neg nofun] at none_ fin
 kby_none
 refine cZ (fun τ' => τ' = [.fz (.tup [t0, .tup [a, .tup (.str k :: r)], .tup [w0, w1], .tup ls, t4, t5, t6, t7]), .fz (.tup (FRM.map Tr.str)), .fz t0, .fz (.tup [a, .tup (.str k :: r)]), .fz (.tup [w0, w1]), .fz (.tup ls), .fz t4, .fz t5, .fz t6, .fz t7] /\ eS ["order"] t6 = true) ?_ ?_
 ·kd_mark
  refine ii ⟨_, rfl, ?_⟩
  kd_mark
  refine aS (fun h => ?_) (fun h => ?_)
  ·kd_mark
   exact ⟨rfl, by unfold eS; rw [h]; rfl⟩
  ·kd_mark
   intro _ _
   refine ⟨t6, ["order"], rfl, p6, ?_⟩
   kd_mark
   have eo : eS ["order"] t6 = chanV ["order"] t6 := by unfold eS; rw [h]; rfl
   refine aS (fun h2 => ?_) (fun h2 => ?_)
   ·kd_mark
    exact ⟨rfl, by rw [eo]; exact h2⟩
   ·kd_mark
    exact none_ "facet" (by rw [if_pos (by rw [eo]; exact h2)])
 rintro τ' ⟨rfl, c7⟩
 rw [c7, if_neg nofun] at none_ fin
 kd_mark
 intro _ _
 refine ⟨t7, rfl, p7, ?_⟩
 kd_mark
 refine bC rfl Rk.fz (show eI [Tr.non, .str "sheet"] (if (!dE t7) = true then (1 : Int) else 0) = some (if dE t7 = false then .str "sheet" else .non) by cases dE t7 <;> rfl) ?_
 kd_mark
 split
 ·rename_i h
  exact none_ "sheet" (if_pos h)
 ·rename_i h
  exact fin (if_neg h)
noncomputable def sA (K : Fg) : Sp := fun vs H Q _ => ∃ (l : Addr) (d0 d1 d2 k : Int) (ds : List Int), vs = [.ref l, .int k] /\ cg K H l ((d0 :: d1 :: d2 :: ds).map V.int) /\ (0 <= d2 /\ d2 < 1000000) /\ ∀ (z : Str) (H' : Hp), aF H H' -> fD z = true -> z.length <= 7 -> Q (.str z) H'
theorem tm (T : Txt K mg t) : FO P w base T.q_zad 1 (sA K) := by
 refine T.q_zad.F.ok gk (fun vs H Q E h => ?_) (fun cdv A outer s H vs Q E hr h => ?_)
 ·obtain ⟨l, d0, d1, d2, k, ds, rfl, _⟩ := h
  rfl
 obtain ⟨l, d0, d1, d2, k, ds, rfl, hL, b2, q⟩ := h
 have a0 : eI ((d0 :: d1 :: d2 :: ds).map V.int) 0 = some (.int d0) := bp (j := 0) rfl
 have a1 : eI ((d0 :: d1 :: d2 :: ds).map V.int) 1 = some (.int d1) := bp (j := 1) rfl
 have a2 : eI ((d0 :: d1 :: d2 :: ds).map V.int) 2 = some (.int d2) := bp (j := 2) rfl
 generalize (d0 :: d1 :: d2 :: ds).map V.int = dd at *
 refine ⟨_, (aV (az (i := 2) gk.nd rfl (Or.inr rfl) aa)
 (aV (az (i := 3) gk.nd rfl (Or.inl rfl) (al aQ (af cz (pv 0) au (fun _ _ => rfl)) au))
 (aV (az (i := 4) gk.nd rfl (Or.inl rfl) (lr PySem.F.plainAttrs_str PySem.F.slot_str_join PySem.F.type_str_join vV aa (ac (dX rfl (bi (fr := [("_law_d", 0), ("_law_letters", 2)]) (osc := ae ig) (N := ["_law_d", "_law_k", "_law_letters", "_law_spot", "_law_rest"]) rfl rfl (by decide +kernel)) (cF rfl T.z_range (ac (al aQ (af cz (pv 0) au (fun _ _ => rfl)) au) aq)) (fun _ _ _ _ _ => (af (r := rIxS) pX (pv 2) (al aQ (al bG (af (r := pg K) cz (pv 1) au (fun _ _ => rfl)) (af (r := pg K) cz (aD (xo [1, 26, 676, 17576, 3, 79] rfl)) (pv 0) (fun _ _ => rfl))) au) (fun _ _ => rfl)))) aq)))
 (aZ (aj (al mG (al mG (aT qE (pv 4) cf (aM (pv 3))) (af pX (pv 2) (al aQ (al bo (al bG (af cz (pv 0) au (fun _ _ => rfl)) au) (pv 1)) au) (fun _ _ => rfl))) (aT qE (pv 4) (aM (pv 3)) cf))))))), qt (σ := [some _, some _, none, none, none]) rfl ?_⟩
 f_look
 refine oS hL a0 ?_
 f_look
 refine oS hL a2 ?_
 f_look
 refine CW (by omega) (by omega) ?_
 refine pF (fun _ v => ∃ c, gi c = true /\ v = .str ⟨#[c]⟩) (gq (by omega)) ?_ ?_
 ·intro i H2 S hi s2 kk
  have hL2 := s2.seq hL
  f_look
  refine oS hL2 a1 ?_
  f_look
  refine jJ (Nat.le_of_ble_eq_true rfl) (fun l3 H3 n3 s3 e3 => ?_)
  f_look
  obtain ⟨m, hm, m0, m1⟩ : ∃ m : Int, eI [V.int 1, .int 26, .int 676, .int 17576, .int 3, .int 79] (0 + (i : Int)) = some (.int m) /\ 0 < m /\ m <= 17576 := by
   rcases (by omega : i = 0 ∨ i = 1 ∨ i = 2 ∨ i = 3 ∨ i = 4 ∨ i = 5) with e | e | e | e | e | e <;> subst e <;> exact ⟨_, rfl, by decide, by decide⟩
  refine oS (cg.of e3) hm ?_
  have mm : mC m := tq (by omega) (by omega)
  f_look
  obtain ⟨c, hc, lc⟩ := oy (Int.emod_nonneg (d1 / m) (by decide)) (Int.emod_lt_of_pos (d1 / m) (show (0 : Int) < 26 by decide))
  refine xY (by decide) hc ?_
  exact kk _ _ s3 ⟨c, lc, rfl⟩
 ·intro acc xs H2 hacc hlen hxs s2 ha
  obtain ⟨cs, rfl, hall⟩ := om hxs
  rw [List.length_map, List.length_map] at hlen
  have hL2 := s2.seq hL
  f_look
  refine Ap (cg.of ha) (xm cs (by omega)) ?_
  have hj := vC cs
  have jl : (PySem.Txt.join "" (cs.map fun c => (⟨#[c]⟩ : Str))).length <= 6 := by rw [<- My.cs_len, hj]; omega
  have ja : (My.cs (PySem.Txt.join "" (cs.map fun c => (⟨#[c]⟩ : Str)))).all gi = true := by rw [hj]; exact hall
  generalize PySem.Txt.join "" (cs.map fun c => (⟨#[c]⟩ : Str)) = rz at jl ja
  obtain ⟨sp, hsp⟩ : ∃ n : Nat, d0 % 7 = (n : Int) := ⟨(d0 % 7).toNat, by have := Int.emod_nonneg d0 (show (7 : Int) ≠ 0 by decide); omega⟩
  rw [hsp]
  f_look
  refine oS hL2 a2 ?_
  f_look
  obtain ⟨c, hc, lc⟩ := oy (Int.emod_nonneg (d2 / 7 + k) (by decide)) (Int.emod_lt_of_pos (d2 / 7 + k) (show (0 : Int) < 26 by decide))
  refine xY (by decide) hc ?_
  f_look
  have ez : My.cs (PySem.Txt.slice rz none (some (sp : Int)) ++ (⟨#[c]⟩ : Str) ++ PySem.Txt.slice rz (some (sp : Int)) none) = (My.cs rz).take sp ++ [c] ++ (My.cs rz).drop sp := by
   rw [My.cs_app, My.cs_app, My.sl_0s, My.sl_s0]
  have lz : (PySem.Txt.slice rz none (some (sp : Int)) ++ (⟨#[c]⟩ : Str) ++ PySem.Txt.slice rz (some (sp : Int)) none).length = rz.length + 1 := by
   rw [<- My.cs_len, ez, List.length_append, List.length_append, List.length_take, List.length_drop, List.length_singleton, My.cs_len]
   omega
  have l1 : (PySem.Txt.slice rz none (some (sp : Int))).length <= 6 := by rw [<- My.cs_len, My.sl_0s, List.length_take, My.cs_len]; omega
  have l2 : (PySem.Txt.slice rz (some (sp : Int)) none).length <= 6 := by rw [<- My.cs_len, My.sl_s0, List.length_drop, My.cs_len]; omega
  have l3 : (⟨#[c]⟩ : Str).length = 1 := rfl
  refine vv (gq (by omega)) ?_
  f_look
  refine vv (gq (by rw [PySem.Str.length_append]; omega)) ?_
  refine q _ _ s2 (vh (by rw [lz]; omega) (by rw [lz]; omega) ?_) (by rw [lz]; omega)
  rw [ez, List.all_append, List.all_append, Bool.and_eq_true, Bool.and_eq_true]
  refine ⟨⟨?_, by rw [List.all_cons, lc]; rfl⟩, ?_⟩
  ·rw [List.all_eq_true] at ja ⊢
   exact fun x hx => ja x (List.mem_of_mem_take hx)
  ·rw [List.all_eq_true] at ja ⊢
   exact fun x hx => ja x (List.mem_of_mem_drop hx)
noncomputable def dg (ds : List Int) (k : Int) : Int := ds.getD k.toNat 0
variable {ds : List Int}
theorem atD {k : Int} (h0 : 0 <= k) (h1 : k < (ds.length : Int)) : eI (ds.map Tr.int) k = some (.int (dg ds k)) := by
 have hk : k.toNat < ds.length := by omega
 have e : k = ((k.toNat : Nat) : Int) := by omega
 have h : (ds.map Tr.int)[k.toNat]? = some (.int (dg ds k)) := by
  rw [List.getElem?_map, List.getElem?_eq_getElem hk]
  unfold dg
  rw [List.getD_eq_getElem?_getD, List.getElem?_eq_getElem hk]
  rfl
 rw [e]
 have := bp h
 rw [<- e] at this ⊢
 exact this
noncomputable def Dr (n : Nat) (ds : List Int) : Prop := ds.length = n /\ ∀ d ∈ ds, 0 <= d /\ d < 1000000
theorem Dr.b (h : Dr n ds) {k : Int} (h0 : 0 <= k) (h1 : k < (n : Int)) : 0 <= dg ds k /\ dg ds k < 1000000 := by
 unfold dg
 have hk : k.toNat < ds.length := by have := h.1; omega
 rw [List.getD_eq_getElem?_getD, List.getElem?_eq_getElem hk]
 exact h.2 _ (List.getElem_mem hk)
theorem wZ {xs : List Tr} {b : Int} (a' b' : Nat) (ha : a = (a' : Int)) (hb : b = (b' : Int)) : eQ xs (some a) (some b) = (xs.drop a').take (b' - a') := by
 subst ha hb
 unfold eQ
 rw [HT.sIx_nat, HT.sIx_nat]
 rcases Nat.le_total a' xs.length with h | h
 ·rw [Nat.min_eq_left h]
  rcases Nat.le_total b' xs.length with g | g
  ·rw [Nat.min_eq_left g]
  ·rw [Nat.min_eq_right g, List.take_of_length_le (by rw [List.length_drop]; omega), List.take_of_length_le (by rw [List.length_drop]; omega)]
 ·rw [Nat.min_eq_right h, List.drop_eq_nil_of_le (Nat.le_refl _), List.drop_eq_nil_of_le h, List.take_nil, List.take_nil]
theorem Dr.cut (h : Dr n ds) {a b : Int} (m : Nat) (h0 : 0 <= a) (h1 : b = a + m) (h2 : b <= n) : ∃ es, eQ (ds.map Tr.int) (some a) (some b) = es.map Tr.int /\ Dr m es := by
 refine ⟨(ds.drop a.toNat).take (b.toNat - a.toNat), ?_, ?_, fun d hd => h.2 d (List.mem_of_mem_drop (List.mem_of_mem_take hd))⟩
 ·rw [wZ a.toNat b.toNat (by omega) (by omega), List.map_take, List.map_drop]
 ·have := h.1
  rw [List.length_take, List.length_drop]; omega
theorem rj {xs : List Tr} {b : Int} (b' : Nat) (hb : b = (b' : Int)) : eQ xs none (some b) = xs.take b' := by
 subst hb
 unfold eQ
 rw [HT.sIx_nat, show HT.sIx xs.length 0 (none : Option Int) = 0 from rfl, List.drop_zero, Nat.sub_zero]
 rcases Nat.le_total b' xs.length with g | g
 ·rw [Nat.min_eq_left g]
 ·rw [Nat.min_eq_right g, List.take_of_length_le (Nat.le_refl _), List.take_of_length_le g]
theorem Dr.cut0 (h : Dr n ds) {b : Int} (m : Nat) (h1 : b = (m : Nat)) (h2 : b <= n) : ∃ es, eQ (ds.map Tr.int) none (some b) = es.map Tr.int /\ Dr m es := by
 refine ⟨ds.take m, ?_, ?_, fun d hd => h.2 d (List.mem_of_mem_take hd)⟩
 ·rw [rj m h1, List.map_take]
 ·have := h.1
  rw [List.length_take]; omega
noncomputable def qN : SpT := fun _ as Φ _ => ∃ (ns : List Int) (k m : Int), as = [.fz (.lst (ns.map Tr.int)), .fz (.int k), .fz (.int m)] /\ (0 <= k /\ k <= 100) /\ (0 <= m /\ m <= 100) /\ ∀ ds, Dr m.toNat ds -> Φ (.nw (.lst (ds.map Tr.int)))
theorem oQ (T : Txt K mg t) : FO P w base T.q_zap 2 (bw K qN) := by
 refine (pN (P := P) (w := w) (base := base) T).imp fun vs H Q E h => ?_
 obtain ⟨B, as, Φ, Ψ, rfl, rfl, bk, la, ⟨ns, k, m, rfl, hk, hm, φ⟩, q, _⟩ := h
 cases la with
 | cons iv la =>
  obtain ⟨v1, v2, rfl, i1, i2⟩ := uX la
  cases i1
  cases i2
  have iv : Is B.K B.F0 _ (.lst (ns.map Tr.int)) := iv
  cases iv with
  | lst hs g =>
   rw [g.ints] at hs
   exact ⟨_, k, m, ns, rfl, bk.i.seq hs, hk, hm, fun p H' ds s n e l b => q (.ref p) _ H' _ (AO bk rfl rfl s) (vo bk n e (.ofInts _)) (φ ds ⟨l, b⟩)⟩
noncomputable def sJ : SpT := fun _ as Φ _ => ∃ (ds : List Int) (n : Nat) (k : Int), as = [.fz (.lst (ds.map Tr.int)), .fz (.int k)] /\ Dr n ds /\ 3 <= n /\ ∀ z, fD z = true -> z.length <= 7 -> Φ (.fz (.str z))
theorem gP (T : Txt K mg t) : FO P w base T.q_zad 1 (bw K sJ) := by
 refine (tm (P := P) (w := w) (base := base) T).imp fun vs H Q E h => ?_
 obtain ⟨B, as, Φ, Ψ, rfl, rfl, bk, la, ⟨ds, n, k, rfl, hD, h3, φ⟩, q, _⟩ := h
 obtain ⟨v1, v2, rfl, i1, i2⟩ := uX la
 cases i2
 obtain ⟨hl, hb⟩ := hD
 match ds, hl, hb, i1 with
 | d0 :: d1 :: d2 :: r, hl, hb, i1 =>
  cases i1 with
  | lst hs g =>
   rw [g.ints] at hs
   exact ⟨_, d0, d1, d2, k, r, rfl, bk.i.seq hs, hb d2 (.tail _ (.tail _ (.head _))), fun z H' s wz lz => q (.str z) _ H' (.fz (.str z)) (AO bk rfl rfl s) .str (φ z wz lz)⟩
 | [], hl, _, _ => exact absurd hl (by simp; omega)
 | [_], hl, _, _ => exact absurd hl (by simp; omega)
 | [_, _], hl, _, _ => exact absurd hl (by simp; omega)
local macro_rules | `(tactic| kxi_slice) => `(tactic| refine bC rfl (by dl_open) (atD (by omega) (by omega)) ?_)
theorem at3 {b c : Int} (h0 : 0 <= i) (h1 : i < 3) : ∃ x, eI [Tr.int a, .int b, .int c] i = some (.int x) := by
 rcases (by omega : i = 0 ∨ i = 1 ∨ i = 2) with e | e | e <;> subst e <;> exact ⟨_, rfl⟩
theorem DU {b : Int} (h0 : 0 <= i) (h1 : i < 2) : ∃ x, eI [Tr.int a, .int b] i = some (.int x) /\ (x = a ∨ x = b) := by
 rcases (by omega : i = 0 ∨ i = 1) with e | e <;> subst e
 ·exact ⟨_, rfl, .inl rfl⟩
 ·exact ⟨_, rfl, .inr rfl⟩
theorem xS {t b : Int} (h0 : 0 < b) (h1 : b <= 60) : 0 < qC t b /\ qC t b <= 60 := by
 have g0 := My.gcd_pos (a := t) h0
 obtain ⟨r1, _, _, r4⟩ := wA (tp := t) h0
 unfold qC
 omega
theorem xR {x y : Int} : cD (.tup [.int x, .int y]) := .tup (show 2 <= 1000 by decide) fun t h => by
 simp at h
 rcases h with rfl | rfl <;> exact .int
theorem lH {w : Str} {r : List Tr} (hw : w.length <= 100) (hr : r.length <= 3) (h : ∀ t ∈ r, cD t) : cD (.tup (.str w :: r)) := .tup (by rw [List.length_cons]; omega) fun t m => by
 rcases List.mem_cons.mp m with rfl | m
 ·exact .str (by omega)
 ·exact h t m
noncomputable def yS (t : Tr) : Prop := ∃ x y : Int, t = .tup [.int x, .int y] /\ 0 < y /\ y <= 60
theorem qS {t : Tr} (h : yS t) : cD t := by
 obtain ⟨x, y, rfl, _⟩ := h
 exact xR
noncomputable def tK : SpT := fun _ as Φ _ => ∃ (ds : List Int) (n : Nat), as = [.fz (.lst (ds.map Tr.int))] /\ Dr n ds /\ 3 <= n /\ ∀ x y : Int, 0 < y -> y <= 60 -> Φ (.fz (.tup [.int x, .int y]))
theorem ni (T : Txt K mg t) : FO P w base T.q_zbe 2 (bw K tK) := by
 have G_zah := @iW P w K mg base t T
 refine T.q_zbe.F.ok jp (aH (fun B as Φ Ψ h => by obtain ⟨_, _, rfl, _⟩ := h; rfl)) (fun cdv A outer s H vs Q E hr h => ?_)
 obtain ⟨B, as, Φ, Ψ, rfl, hS, hx, go⟩ := aA h
 obtain ⟨ds, n, rfl, hD, h3, φ⟩ := hS
 have hl := hD.1
 obtain ⟨b10, b11⟩ := hD.b (k := 1) (by decide) (by omega)
 obtain ⟨b20, b21⟩ := hD.b (k := 2) (by decide) (by omega)
 obtain ⟨b00, b01⟩ := hD.b (k := 0) (by decide) (by omega)
 refine ⟨_, (aV (az (i := 1) jp.nd rfl (Or.inl rfl) (af cz (aD (ac (al jZ (al aQ (af cz (pv 0) au (fun _ _ => rfl)) au) au) (ac (al jZ (al aQ (af cz (pv 0) au (fun _ _ => rfl)) au) au) (ac (al jZ (al bo (al bo (al bA (af cz (pv 0) au (fun _ _ => rfl)) (al eM au au)) (al bA (af cz (pv 0) au (fun _ _ => rfl)) (al eM au au))) (af cz (pv 0) au (fun _ _ => rfl))) (al bA au (al eM au au))) aq)))) (al bG (al aQ (af cz (pv 0) au (fun _ _ => rfl)) au) au) (fun _ _ => rfl)))
 (aZ (aj (bF G_zah hr T.q_zah (ac (pv 1) (ac (af cz (aD (ac au (ac (al bo au (al aQ (af cz (pv 0) au (fun _ _ => rfl)) au)) aq))) (al aQ (al bG (af cz (pv 0) au (fun _ _ => rfl)) au) au) (fun _ _ => rfl)) aq)))))), go _ _ (bO (τ := [.fz _, .no]) rfl ?_)⟩
 kd_mark
 have q0 := Int.emod_nonneg (dg ds 1) (show (7 : Int) ≠ 0 by decide)
 have q1 := Int.emod_lt_of_pos (dg ds 1) (show (0 : Int) < 7 by decide)
 obtain ⟨tp, e1⟩ := at3 (a := dg ds 0 % 21 - 10) (b := dg ds 0 % 2001 - 1000) (c := dg ds 0 * 10 ^ Int.toNat 12 + dg ds 1 * 10 ^ Int.toNat 6 + dg ds 2 - 5 * 10 ^ Int.toNat 17) (i := dg ds 1 % 7 / 3) (by omega) (by omega)
 refine bC rfl Rk.fz e1 ?_
 kd_mark
 obtain ⟨bt, e2, hb⟩ := DU (a := 1) (b := 1 + dg ds 2 % 60) (Int.emod_nonneg (dg ds 2 / 60) (show (2 : Int) ≠ 0 by decide)) (Int.emod_lt_of_pos (dg ds 2 / 60) (show (0 : Int) < 2 by decide))
 refine bC rfl Rk.fz e2 ?_
 kd_mark
 intro _ _
 refine ⟨tp, bt, rfl, by omega, by omega, ?_⟩
 kd_mark
 obtain ⟨h1, h2⟩ := xS (t := tp) (b := bt) (by omega) (by omega)
 exact φ _ _ h1 h2
noncomputable def tf : SpT := fun _ as Φ _ => ∃ (x y : Int) (es : List Int), as = [.fz (.tup [.int x, .int y]), .fz (.lst (es.map Tr.int))] /\ es.length = 2 /\ 0 < y /\ y <= 60 /\ ∀ x y : Int, 0 < y -> y <= 60 -> Φ (.fz (.tup [.int x, .int y]))
theorem qv (T : Txt K mg t) : FO P w base T.q_zau 2 (bw K tf) := by
 have G_zah := @iW P w K mg base t T
 refine T.q_zau.F.ok sY (aH (fun B as Φ Ψ h => by obtain ⟨_, _, _, rfl, _⟩ := h; rfl)) (fun cdv A outer s H vs Q E hr h => ?_)
 obtain ⟨B, as, Φ, Ψ, rfl, hS, hx, go⟩ := aA h
 obtain ⟨x, y, es, rfl, hl, y0, y1, φ⟩ := hS
 refine ⟨_, (aZ (aj (bF G_zah hr T.q_zah (ac (al bo (al bo (af bn (pv 0) au (fun _ _ => rfl)) au) (af cz (aD (ac (al aQ (af cz (pv 1) au (fun _ _ => rfl)) au) (ac (al aQ (af cz (pv 1) au (fun _ _ => rfl)) au) aq))) (al aQ (af cz (pv 1) au (fun _ _ => rfl)) au) (fun _ _ => rfl))) (ac (af bn (pv 0) au (fun _ _ => rfl)) aq))))), go _ _ (bO (τ := [.fz _, .fz _]) rfl ?_)⟩
 kd_mark
 obtain ⟨ad, e1, _⟩ := DU (a := dg es 0 % 9) (b := dg es 0 % 1000) (Int.emod_nonneg (dg es 1) (show (2 : Int) ≠ 0 by decide)) (Int.emod_lt_of_pos (dg es 1) (show (0 : Int) < 2 by decide))
 refine bC rfl Rk.fz e1 ?_
 kd_mark
 intro _ _
 refine ⟨x + 1 + ad, y, rfl, y0, y1, ?_⟩
 kd_mark
 obtain ⟨h1, h2⟩ := xS (t := x + 1 + ad) (b := y) y0 y1
 exact φ _ _ h1 h2
theorem Eo {b c : Int} (h0 : 0 <= i) (h1 : i < 3) : ∃ x, eI [Tr.int a, .int b, .int c] i = some (.int x) /\ (x = a ∨ x = b ∨ x = c) := by
 rcases (by omega : i = 0 ∨ i = 1 ∨ i = 2) with e | e | e <;> subst e
 ·exact ⟨_, rfl, .inl rfl⟩
 ·exact ⟨_, rfl, .inr (.inl rfl)⟩
 ·exact ⟨_, rfl, .inr (.inr rfl)⟩
theorem sx (h : ∀ t ∈ ts, yS t) (hl : 0 < ts.length) : ∃ x y : Int, eI ts (-1) = some (.tup [.int x, .int y]) /\ 0 < y /\ y <= 60 := by
 have hk : ts.length - 1 < ts.length := by omega
 obtain ⟨x, y, e, h1, h2⟩ := h _ (List.getElem_mem hk)
 exact ⟨x, y, uH (by rw [List.getElem?_eq_getElem hk, e]), h1, h2⟩
theorem Ee {b : Bool} {x y : α} : eI [x, y] (if b = true then (1 : Int) else 0) = some (if b = true then y else x) := by cases b <;> rfl
theorem uj {p : Tr -> Prop} (h : ∀ (i : Nat) (o : Tr), os[i]? = some o -> p o) : ∀ t ∈ os, p t := fun t ht => by
 obtain ⟨i, hi, e⟩ := List.getElem_of_mem ht
 exact h i t (by rw [List.getElem?_eq_getElem hi, e])
noncomputable def sQ : SpT := fun _ as Φ _ => ∃ (ds : List Int) (ws : List Str), as = [.fz (.lst (ds.map Tr.int)), .fz (.lst (ws.map Tr.str))] /\ Dr 6 ds /\ ws ≠ [] /\ (∀ z ∈ ws, z.length <= 100) /\ ∀ (w : Str) (r : List Tr), cD (.tup (.str w :: r)) -> Φ (.fz (.tup (.str w :: r)))
theorem atS (h0 : 0 <= i) (h1 : i < (ws.length : Int)) : ∃ z, eI (ws.map Tr.str) i = some (.str z) /\ z ∈ ws := by
 obtain ⟨k, rfl⟩ := Int.eq_ofNat_of_zero_le h0
 have hk : k < ws.length := by omega
 exact ⟨ws[k], bp (by rw [List.getElem?_map, List.getElem?_eq_getElem hk]; rfl), List.getElem_mem hk⟩
theorem km (T : Txt K mg t) : FO P w base T.q_zaq 3 (bw K sQ) := by
 have G_zbe := @ni P w K mg base t T
 have G_zau := @qv P w K mg base t T
 have G_zad := @gP P w K mg base t T
 refine T.q_zaq.F.ok da (aH (fun B as Φ Ψ h => by obtain ⟨_, _, rfl, _⟩ := h; rfl)) (fun cdv A outer s H vs Q E hr h => ?_)
 obtain ⟨B, as, Φ, Ψ, rfl, hS, hx, go⟩ := aA h
 obtain ⟨ds, ws, rfl, hD, hw, hz, φ⟩ := hS
 have hl := hD.1
 have wl : 0 < ws.length := List.length_pos_iff.mpr hw
 have wm : (ws.map Tr.str).length = ws.length := List.length_map _
 refine ⟨_, (aV (az (i := 2) da.nd rfl (Or.inl rfl) (af cz (pv 1) (al aQ (af cz (pv 0) au (fun _ _ => rfl)) (am aw rfl T.z_len PySem.boot_len (ac (pv 1) aq))) (fun _ _ => rfl)))
 (aV (az (i := 3) da.nd rfl (Or.inl rfl) (bF G_zbe hr T.q_zbe (ac (aT bE (pv 0) (aM au) (aM au)) aq)))
 (aV (aG (ao bI (pv 2) aa (ay _)) (aZ (aj (ag (ac (pv 2) (ac (af cz (aD (ac au (ac au aq))) (al aQ (af cz (pv 0) au (fun _ _ => rfl)) au) (fun _ _ => rfl)) aq))))) ar)
 (aV (aG (PW.pt (cV (ao bI (pv 2) aa (ay _)) (ce (ao bI (al aQ (af cz (pv 0) au (fun _ _ => rfl)) au) au (ay _))))) (aZ (aj (ag (ac (pv 2) (ac (pv 3) (ac (bF G_zau hr T.q_zau (ac (pv 3) (ac (aT bE (pv 0) (aM au) (aM au)) aq))) aq)))))) ar)
 (aV (aG (ao bI (pv 2) aa (ay _)) (aV (az (i := 4) da.nd rfl (Or.inr rfl) (aD (ac (pv 3) aq)))
 (aV (gX PassesOwn.never rfl (cF rfl T.z_range (ac (al bo au (al bA au (al aQ (af cz (pv 0) au (fun _ _ => rfl)) au))) aq)) (br (i := 5) da.nd rfl (Or.inl rfl)) (aZ (jw (lr PySem.F.plainAttrs_list PySem.F.slot_list_append PySem.F.type_list_append dJ (pv 4) (ac (bF G_zau hr T.q_zau (ac (af cz (pv 4) (CD zT au) (fun _ _ => rfl)) (ac (aD (ac (al bG (af cz (pv 0) au (fun _ _ => rfl)) (al bo (pv 5) au)) (ac (al bG (af cz (pv 0) au (fun _ _ => rfl)) (al bo (pv 5) au)) aq))) aq))) aq)))))
 (aZ (aj (ag (ac (pv 2) (ac (bB du rfl T.z_tuple aU (ac (dX rfl (bi (fr := [("_law_ends", 4)]) (osc := ae fZ) (N := ["_law_d", "_law_wanted", "_law_word_here", "_law_lo", "_law_ends", "_law_k", "_law_many"]) rfl rfl (by decide +kernel)) (tu rfl T.z_range (ac au (ac (am aw rfl T.z_len PySem.boot_len (ac (pv 4) aq)) (ac au aq)))) (fun _ _ _ _ _ => (ag (ac (af (r := pg B.K) cz (pv 1) (pv 0) (fun _ _ => rfl)) (ac (af (r := pg B.K) cz (pv 1) (al bo (pv 0) au) (fun _ _ => rfl)) aq))))) aq)) aq))))))) ar)
 (aV (aG (PW.pt (cV (ao bI (pv 2) aa (ay _)) (ce (ao bI (al aQ (af cz (pv 0) au (fun _ _ => rfl)) au) au (ay _))))) (aV (az (i := 6) da.nd rfl (Or.inl rfl) (al bo au (al aQ (af cz (pv 0) au (fun _ _ => rfl)) (af cz (aD (ac au (ac au (ac au aq)))) (al aQ (af cz (pv 0) au (fun _ _ => rfl)) au) (fun _ _ => rfl)))))
 (aV (az (i := 4) da.nd rfl (Or.inr rfl) (af cz (aD (ac aa (ac aa aq))) (bB gn rfl T.z_int iF (ac (aK rL (pv 6) au (ay _)) aq)) (fun _ _ => rfl)))
 (aZ (aj (ag (ac (pv 2) (ac (bB du rfl T.z_tuple aU (ac (dX rfl (bi (fr := [("_law_d", 0), ("_law_ends", 4)]) (osc := ae fZ) (N := ["_law_d", "_law_wanted", "_law_word_here", "_law_lo", "_law_ends", "_law_k", "_law_many"]) rfl rfl (by decide +kernel)) (cF rfl T.z_range (ac (pv 6) aq)) (fun _ _ _ _ _ => (al mG (bF G_zad hr T.q_zad (ac (aT (r := At B.K) bE (pv 1) (aM au) (aM au)) (ac (al aQ (pv 0) au) aq))) (aT (r := rSlS) qE (pv 2) (aM (al bG (pv 0) au)) (aM (al bo (al bG (pv 0) au) au)))))) aq)) aq))))))) ar)
 (aZ (aj (ag (ac (pv 2) aq)))))))))), go _ _ (bO (τ := [.fz _, .fz _, .no, .no, .no, .no, .no]) rfl ?_)⟩
 kd_mark
 obtain ⟨z, ez, mz⟩ := atS (ws := ws) (i := dg ds 0 % (((ws.map Tr.str).length : Nat) : Int)) (Int.emod_nonneg _ (by omega)) (by rw [wm]; exact Int.emod_lt_of_pos _ (by omega))
 refine bC rfl Rk.fz ez ?_
 have zl := hz z mz
 kd_mark
 obtain ⟨es, ee, he⟩ := hD.cut (a := 1) (b := 4) 3 (by decide) (by decide) (by decide)
 rw [ee]
 intro _ _
 refine ⟨es, 3, rfl, he, by decide, fun x y y0 y1 => ?_⟩
 kd_mark
 refine ah (fun h1 => ?_) (fun h1 => ?_)
 ·kd_mark
  obtain ⟨tp, e1, _⟩ := DU (a := 2) (b := 10) (Int.emod_nonneg (dg ds 1) (show (2 : Int) ≠ 0 by decide)) (Int.emod_lt_of_pos (dg ds 1) (show (0 : Int) < 2 by decide))
  refine bC rfl Rk.fz e1 ?_
  kd_mark
  exact φ _ _ (lH zl (show 1 <= 3 by decide) fun t ht => by rw [List.mem_singleton.mp ht]; exact .int)
 kby_none
 refine cZ (fun τ' => τ' = [.fz (.lst (ds.map Tr.int)), .fz (.lst (ws.map Tr.str)), .fz (.str z), .fz (.tup [.int x, .int y]), .no, .no, .no]) ?_ ?_
 ·kd_mark
  refine ah (fun h2 => ?_) (fun h2 => ?_)
  ·kd_mark
   refine ah (fun h3 => ?_) (fun h3 => ?_)
   ·kd_mark
    obtain ⟨es, ee, he⟩ := hD.cut (a := 4) (b := 6) 2 (by decide) (by decide) (by decide)
    rw [ee]
    intro _ _
    refine ⟨x, y, es, rfl, he.1, y0, y1, fun x' y' _ _ => ?_⟩
    kd_mark
    exact φ _ _ (lH zl (show 2 <= 3 by decide) fun t ht => by simp at ht; rcases ht with rfl | rfl <;> exact xR)
   ·kd_mark
    rfl
  ·kd_mark
   rfl
 rintro τ' rfl
 kd_mark
 refine ah (fun h2 => ?_) (fun h2 => ?_)
 ·kd_mark
  have r0 := Int.emod_nonneg (dg ds 1) (show (3 : Int) ≠ 0 by decide)
  have r1 := Int.emod_lt_of_pos (dg ds 1) (show (0 : Int) < 3 by decide)
  refine ⟨⟨by omega, by omega⟩, fun i τ => ∃ (ts : List Tr) (u : Sl), τ = [.fz (.lst (ds.map Tr.int)), .fz (.lst (ws.map Tr.str)), .fz (.str z), .fz (.tup [.int x, .int y]), .own (.lst ts), u, .no] /\ ts.length = i + 1 /\ ∀ t ∈ ts, yS t, ⟨_, .no, rfl, rfl, fun t ht => by rw [List.mem_singleton.mp ht]; exact ⟨x, y, rfl, y0, y1⟩⟩, ?_, ?_⟩
  ·rintro i tt τ hi ⟨ts, u, rfl, tl, tn⟩
   obtain ⟨hin, rfl⟩ := dk hi
   obtain ⟨x', y', el, h1, h2⟩ := sx tn (by omega)
   obtain ⟨b40, b41⟩ := hD.b (k := 4) (by decide) (by decide)
   obtain ⟨b50, b51⟩ := hD.b (k := 5) (by decide) (by decide)
   kd_mark
   refine bC rfl (by dl_open) el ?_
   kd_mark
   intro _ _
   refine ⟨x', y', [dg ds 4 / (0 + (i : Nat) + 1), dg ds 5 / (0 + (i : Nat) + 1)], rfl, rfl, h1, h2, fun x'' y'' h3 h4 => ?_⟩
   kd_mark
   exact ⟨_, _, rfl, by rw [List.length_append, tl]; rfl, List.forall_mem_append.mpr ⟨tn, fun t ht => by rw [List.mem_singleton.mp ht]; exact ⟨_, _, rfl, h3, h4⟩⟩⟩
  rintro τ ⟨ts, u, rfl, tl, tn⟩
  obtain ⟨n, hn, hts, hsm, hrn⟩ : ∃ n : Nat, n <= 4 /\ ts.length = 2 * n /\ Builtin.Range.small 0 ((ts.length : Nat) : Int) 2 = true /\ pK 0 ((ts.length : Nat) : Int) 2 = n := by
   rw [dh] at tl
   rw [tl]
   rcases (show dg ds 1 % 3 = 0 ∨ dg ds 1 % 3 = 1 ∨ dg ds 1 % 3 = 2 by omega) with e | e | e <;> rw [e]
   ·exact ⟨2, by decide, rfl, by decide, by decide⟩
   ·exact ⟨3, by decide, rfl, by decide, by decide⟩
   ·exact ⟨4, by decide, rfl, by decide, by decide⟩
  kd_mark
  refine ij (zO ?_)
  kd_mark
  refine ⟨by decide, by decide, hsm, ?_⟩
  rw [hrn]
  refine ⟨[.vw (.lst ts)], by repeat (first | exact .nil | refine .own (by kt_join) ?_ | refine .fz (by kt_join) ?_), by rw [iM]; omega, fun i o => cD o, fun i t ht => ?_, fun os hl ho => ?_⟩
  ·obtain ⟨hi, rfl⟩ := nZ ht
   have l1 : 2 * i < ts.length := by omega
   have l2 : 2 * i + 1 < ts.length := by omega
   have a1 : eI ts (0 + (i : Nat) * 2) = some ts[2 * i] := by
    rw [show (0 : Int) + (i : Nat) * 2 = ((2 * i : Nat) : Int) by omega]
    exact bp (List.getElem?_eq_getElem l1)
   have a2 : eI ts (0 + (i : Nat) * 2 + 1) = some ts[2 * i + 1] := by
    rw [show (0 : Int) + (i : Nat) * 2 + 1 = ((2 * i + 1 : Nat) : Int) by omega]
    exact bp (List.getElem?_eq_getElem l2)
   kd_mark
   refine bC rfl (by dl_open) a1 ?_
   kd_mark
   refine bC rfl (by dl_open) a2 ?_
   kd_mark
   exact .tup (show 2 <= 1000 by decide) fun t ht => by
    simp at ht
    rcases ht with rfl | rfl
    ·exact qS (tn _ (List.getElem_mem l1))
    ·exact qS (tn _ (List.getElem_mem l2))
  ·rw [iM] at hl
   kd_mark
   exact φ _ _ (lH zl (show 1 <= 3 by decide) fun t ht => by
    rw [List.mem_singleton.mp ht]
    exact .tup (by omega) (uj ho))
 kd_mark
 refine ah (fun h3 => ?_) (fun h3 => ?_)
 rotate_left
 ·kd_mark
  exact φ _ _ (lH zl (show 0 <= 3 by decide) fun t ht => absurd ht List.not_mem_nil)
 kd_mark
 refine ah (fun h4 => ?_) (fun h4 => ?_)
 rotate_left
 ·kd_mark
  exact φ _ _ (lH zl (show 0 <= 3 by decide) fun t ht => absurd ht List.not_mem_nil)
 kd_mark
 obtain ⟨md, e1, hm⟩ := Eo (a := 5) (b := 26) (c := 60) (Int.emod_nonneg (dg ds 4) (show (3 : Int) ≠ 0 by decide)) (Int.emod_lt_of_pos (dg ds 4) (show (0 : Int) < 3 by decide))
 refine bC rfl Rk.fz e1 ?_
 have md0 : 0 < md := by omega
 have md1 : md <= 60 := by omega
 have k0 := Int.emod_nonneg (dg ds 5) (show md ≠ 0 by omega)
 have k1 := Int.emod_lt_of_pos (dg ds 5) md0
 kd_mark
 refine bC rfl Rk.fz Ee ?_
 obtain ⟨en, een, hen⟩ : ∃ en : Str, (if decide (26 < 1 + dg ds 5 % md) = true then Tr.str "abc" else Tr.str "") = .str en /\ en.length <= 3 := by
  split
  ·exact ⟨_, rfl, by decide⟩
  ·exact ⟨_, rfl, by decide⟩
 rw [een]
 kd_mark
 refine ij (vc ?_)
 kd_mark
 refine ⟨⟨by omega, by omega⟩, [.fz (.lst (ds.map Tr.int)), .fz (.str en)], by repeat (first | exact .nil | refine .fz (by kt_join) ?_), by rw [dh]; omega, fun i o => cD o, fun i tt ht => ?_, fun os hl ho => ?_⟩
 ·obtain ⟨hin, rfl⟩ := dk ht
  kd_mark
  obtain ⟨es, ee, he⟩ := hD.cut (a := 2) (b := 5) 3 (by decide) (by decide) (by decide)
  rw [ee]
  intro _ _
  refine ⟨es, 3, _, rfl, he, by decide, fun w wz wl => ?_⟩
  kd_mark
  refine DF (Nat.le_trans hen (by decide)) ?_
  kd_mark
  refine wW (Nat.le_trans (Nat.add_le_add wl (Nat.le_trans (PySem.Txt.slice_le _ _ _) hen)) (by decide)) ?_
  kd_mark
  exact .str (Nat.le_trans (Nat.le_of_eq (PySem.Str.length_append ..)) (Nat.le_trans (Nat.add_le_add wl (Nat.le_trans (PySem.Txt.slice_le _ _ _) hen)) (by decide)))
 ·rw [dh] at hl
  kd_mark
  exact φ _ _ (lH zl (show 1 <= 3 by decide) fun t ht => by
   rw [List.mem_singleton.mp ht]
   exact .tup (by omega) (uj ho))
structure wb where
 mark : Str
 right : Bool
 col : Str
 other : Option Str
noncomputable def hR (l : wb) : Tr := .tup [.str l.mark, .str (bK l.right), .str l.col, oT l.other]
noncomputable def vQ (l : wb) : Prop := fD l.col = true /\ (l.mark = "bands" ∨ l.mark = "words" -> ∃ z, l.other = some z /\ fD z = true)
noncomputable abbrev Wsh := Str × List Tr
noncomputable def BN (w : Wsh) : Tr := .tup (.str w.1 :: w.2)
noncomputable abbrev Chn := Str × Wsh
noncomputable def zg (c : Chn) : Tr := .tup [.str c.1, BN c.2]
noncomputable def pB : Option Chn -> Tr
 | none => .non
 | some c => zg c
noncomputable def sh : Option Wsh -> Tr
 | none => .non
 | some w => BN w
theorem wQ {l : wb} (hm : l.mark.length <= 100) (h : vQ l) (ho : ∀ z, l.other = some z -> z.length <= 100) : cD (hR l) := by
 have hc : l.col.length <= 8 := by have := (oH h.1).2.1; omega
 refine .tup (show 4 <= 1000 by decide) fun t ht => ?_
 simp at ht
 rcases ht with rfl | rfl | rfl | rfl
 ·exact .str (by omega)
 ·exact .str (by cases l.right <;> decide)
 ·exact .str (by omega)
 ·cases e : l.other with
  | none => exact .non
  | some z => have := ho z e; exact .str (by omega)
theorem Bt {a b : List Str} (ha : a ≠ []) (hb : b ≠ []) (h0 : 0 <= i) (h1 : i < 2) : ∃ ws : List Str, eI [Tr.lst (a.map Tr.str), .lst (b.map Tr.str)] i = some (.lst (ws.map Tr.str)) /\ ws ≠ [] /\ (ws = a ∨ ws = b) := by
 rcases (by omega : i = 0 ∨ i = 1) with e | e <;> subst e
 ·exact ⟨a, rfl, ha, .inl rfl⟩
 ·exact ⟨b, rfl, hb, .inr rfl⟩
theorem DJ (h0 : 0 <= i) (h1 : i < 2) : ∃ b : Bool, eI [Tr.str "left", .str "right"] i = some (.str (bK b)) := by
 rcases (by omega : i = 0 ∨ i = 1) with e | e <;> subst e
 ·exact ⟨false, rfl⟩
 ·exact ⟨true, rfl⟩
theorem Be {c : Chn} (h0 : 0 <= i) (h1 : i < 2) : ∃ o : Option Chn, eI [Tr.non, zg c] i = some (pB o) /\ ∀ d, o = some d -> d = c := by
 rcases (by omega : i = 0 ∨ i = 1) with e | e <;> subst e
 ·exact ⟨none, rfl, nofun⟩
 ·exact ⟨some c, rfl, fun d h => by cases h; rfl⟩
theorem yD {xs : List α} {f : α -> Tr} (hl : os.length = xs.length) (h : ∀ (i : Nat) (o : Tr), os[i]? = some o -> ∃ x, xs[i]? = some x /\ o = f x) : os = xs.map f := by
 apply List.ext_getElem?
 intro i
 rw [List.getElem?_map]
 cases e : os[i]? with
 | none =>
  have : xs[i]? = none := by rw [List.getElem?_eq_none_iff] at e ⊢; omega
  rw [this]; rfl
 | some o =>
  obtain ⟨x, ex, rfl⟩ := h i o e
  rw [ex]; rfl
noncomputable def tD : SpT := fun _ as Φ _ => ∃ ds : List Int, as = [.fz (.lst (ds.map Tr.int))] /\ Dr 16 ds /\ ∀ ls : List wb, ls.length <= 3 -> (∀ l ∈ ls, vQ l /\ cD (hR l)) -> Φ (.fz (.tup (ls.map hR)))
theorem lZ (T : Txt K mg t) : FO P w base T.q_zbf 2 (bw K tD) := by
 have G_zad := @gP P w K mg base t T
 refine T.q_zbf.F.ok bR (aH (fun B as Φ Ψ h => by obtain ⟨_, rfl, _⟩ := h; rfl)) (fun cdv A outer s H vs Q E hr h => ?_)
 obtain ⟨B, as, Φ, Ψ, rfl, hS, hx, go⟩ := aA h
 obtain ⟨ds, rfl, hD, φ⟩ := hS
 have hl := hD.1
 refine ⟨_, (aV (az (i := 1) bR.nd rfl (Or.inl rfl) (af cz (aD (ac (aD (ac aa (ac aa (ac aa (ac aa (ac aa aq)))))) (ac (aD (ac aa (ac aa (ac aa (ac aa aq))))) aq))) (al aQ (af cz (pv 0) au (fun _ _ => rfl)) au) (fun _ _ => rfl)))
 (aV (az (i := 2) bR.nd rfl (Or.inl rfl) (aD aq))
 (aV (gX PassesOwn.never rfl (cF rfl T.z_range (ac (al bo au (al aQ (af cz (pv 0) au (fun _ _ => rfl)) au)) aq)) (br (i := 3) bR.nd rfl (Or.inl rfl)) (aV (az (i := 4) bR.nd rfl (Or.inl rfl) (af cz (pv 1) (al aQ (af cz (pv 0) (al bo au (al bA au (pv 3))) (fun _ _ => rfl)) (am aw rfl T.z_len PySem.boot_len (ac (pv 1) aq))) (fun _ _ => rfl)))
 (aV (az (i := 5) bR.nd rfl (Or.inl rfl) aN)
 (aV (aG (ao aP (pv 4) (ag (ac aa (ac aa aq))) rfl) (aZ (az (i := 5) bR.nd rfl (Or.inl rfl) (bF G_zad hr T.q_zad (ac (aT bE (pv 0) (aM (al bo au (al bA au (pv 3)))) (aM (al bo au (al bA au (pv 3))))) (ac au aq))))) ar)
 (aV (az (i := 6) bR.nd rfl (Or.inl rfl) (af cz (aD (ac aa (ac aa aq))) (al aQ (al bG (af cz (pv 0) (al bo au (al bA au (pv 3))) (fun _ _ => rfl)) au) au) (fun _ _ => rfl)))
 (aZ (jw (lr PySem.F.plainAttrs_list PySem.F.slot_list_append PySem.F.type_list_append dJ (pv 2) (ac (ag (ac (pv 4) (ac (pv 6) (ac (bF G_zad hr T.q_zad (ac (aT bE (pv 0) (aM (al bo au (al bA au (pv 3)))) (aM (al bo au (al bA au (pv 3))))) (ac au aq))) (ac (pv 5) aq))))) aq)))))))))
 (aZ (aj (bB du rfl T.z_tuple aU (ac (pv 2) aq))))))), go _ _ (bO (τ := [.fz _, .no, .no, .no, .no, .no, .no]) rfl ?_)⟩
 kd_mark
 obtain ⟨ws, e1, hw, hws⟩ := Bt (a := ["bars", "heaps", "boxes", "dots", "words"]) (b := ["lines", "bands", "dots", "words"]) nofun nofun (Int.emod_nonneg (dg ds 0) (show (2 : Int) ≠ 0 by decide)) (Int.emod_lt_of_pos (dg ds 0) (show (0 : Int) < 2 by decide))
 refine bC rfl Rk.fz e1 ?_
 have zl : ∀ z ∈ ws, z.length <= 100 := by
  rcases hws with rfl | rfl <;> decide
 have wl : 0 < ws.length := List.length_pos_iff.mpr hw
 have wm : (ws.map Tr.str).length = ws.length := List.length_map _
 have r0 := Int.emod_nonneg (dg ds 1) (show (3 : Int) ≠ 0 by decide)
 have r1 := Int.emod_lt_of_pos (dg ds 1) (show (0 : Int) < 3 by decide)
 kd_mark
 refine ⟨⟨by omega, by omega⟩, fun i τ => ∃ (ls : List wb) (u1 u2 u3 u4 : Sl), τ = [.fz (.lst (ds.map Tr.int)), .fz (.lst (ws.map Tr.str)), .own (.lst (ls.map hR)), u1, u2, u3, u4] /\ ls.length = i /\ ∀ l ∈ ls, vQ l /\ cD (hR l), ⟨[], _, _, _, _, rfl, rfl, fun _ h => absurd h List.not_mem_nil⟩, ?_, ?_⟩
 ·rintro i tt τ hi ⟨ls, u1, u2, u3, u4, rfl, ll, oL⟩
  obtain ⟨hin, rfl⟩ := dk hi
  have i3 : i < 3 := by omega
  kby_none
  obtain ⟨mk, e2, mkm⟩ := atS (ws := ws) (i := dg ds (2 + 4 * (0 + (i : Nat))) % (((ws.map Tr.str).length : Nat) : Int)) (Int.emod_nonneg _ (by omega)) (by rw [wm]; exact Int.emod_lt_of_pos _ (by omega))
  refine bC rfl Rk.fz e2 ?_
  kby_none
  refine cZ (fun τ' => ∃ o : Option Str, τ' = [.fz (.lst (ds.map Tr.int)), .fz (.lst (ws.map Tr.str)), .own (.lst (ls.map hR)), .fz (.int (0 + (i : Nat))), .fz (.str mk), .fz (oT o), u4] /\ (mk = "bands" ∨ mk = "words" -> ∃ z, o = some z /\ fD z = true) /\ ∀ z, o = some z -> z.length <= 100) ?_ ?_
  ·kd_mark
   refine bN (ws := ["bands", "words"]) rfl Rk.fz ?_
   kd_mark
   refine ah (fun h1 => ?_) (fun h1 => ?_)
   ·kd_mark
    obtain ⟨es, ee, he⟩ := hD.cut (a := 3 + 4 * (0 + (i : Nat))) (b := 6 + 4 * (0 + (i : Nat))) 3 (by omega) (by omega) (by omega)
    rw [ee]
    intro _ _
    refine ⟨es, 3, _, rfl, he, by decide, fun z wz lz => ?_⟩
    kd_mark
    exact ⟨some z, rfl, fun _ => ⟨z, rfl, wz⟩, fun z' e => by cases e; omega⟩
   ·kd_mark
    exact ⟨none, rfl, fun h => absurd (show mk ∈ (["bands", "words"] : List Str) by rcases h with rfl | rfl <;> decide) h1, nofun⟩
  rintro τ' ⟨o, rfl, ho, hol⟩
  kd_mark
  obtain ⟨b, e3⟩ := DJ (Int.emod_nonneg (dg ds (3 + 4 * (0 + (i : Nat))) / 7) (show (2 : Int) ≠ 0 by decide)) (Int.emod_lt_of_pos (dg ds (3 + 4 * (0 + (i : Nat))) / 7) (show (0 : Int) < 2 by decide))
  refine bC rfl Rk.fz e3 ?_
  kd_mark
  obtain ⟨es, ee, he⟩ := hD.cut (a := 4 + 4 * (0 + (i : Nat))) (b := 7 + 4 * (0 + (i : Nat))) 3 (by omega) (by omega) (by omega)
  rw [ee]
  intro _ _
  refine ⟨es, 3, _, rfl, he, by decide, fun z wz _ => ?_⟩
  have lm : (ls.map hR).length = ls.length := List.length_map _
  kd_mark
  exact ⟨ls ++ [⟨mk, b, z, o⟩], _, _, _, _, by rw [List.map_append]; rfl, by rw [List.length_append, ll]; rfl, List.forall_mem_append.mpr ⟨oL, fun l hl => by rw [List.mem_singleton.mp hl]; exact ⟨⟨wz, ho⟩, wQ (zl mk mkm) ⟨wz, ho⟩ hol⟩⟩⟩
 ·rintro τ ⟨ls, u1, u2, u3, u4, rfl, ll, oL⟩
  kd_mark
  exact φ ls (by rw [ll, dh]; omega) oL
noncomputable def qD : SpT := fun _ as Φ _ => ∃ (ds : List Int) (ws : List Str), as = [.fz (.lst (ds.map Tr.int)), .fz (.lst (ws.map Tr.str))] /\ Dr 9 ds /\ ws ≠ [] /\ (∀ z ∈ ws, z.length <= 100) /\ ∀ c : Chn, cD (zg c) -> Φ (.fz (zg c))
theorem kG (T : Txt K mg t) : FO P w base T.q_zaf 4 (bw K qD) := by
 have G_zad := @gP P w K mg base t T
 have G_zaq := @km P w K mg base t T
 refine T.q_zaf.F.ok mM (aH (fun B as Φ Ψ h => by obtain ⟨_, _, rfl, _⟩ := h; rfl)) (fun cdv A outer s H vs Q E hr h => ?_)
 obtain ⟨B, as, Φ, Ψ, rfl, hS, hx, go⟩ := aA h
 obtain ⟨ds, ws, rfl, hD, hw, hz, φ⟩ := hS
 refine ⟨_, (aZ (aj (ag (ac (bF G_zad hr T.q_zad (ac (aT bE (pv 0) cf (aM au)) (ac au aq))) (ac (bF G_zaq hr T.q_zaq (ac (aT bE (pv 0) (aM au) (aM au)) (ac (pv 1) aq))) aq))))), go _ _ (bO (τ := [.fz _, .fz _]) rfl ?_)⟩
 kd_mark
 obtain ⟨es, ee, he⟩ := hD.cut0 (b := 3) 3 (by decide) (by decide)
 rw [ee]
 intro _ _
 refine ⟨es, 3, _, rfl, he, by decide, fun z wz _ => ?_⟩
 kd_mark
 obtain ⟨fs, ef, hf⟩ := hD.cut (a := 3) (b := 9) 6 (by decide) (by decide) (by decide)
 rw [ef]
 intro _ _
 refine ⟨fs, ws, rfl, hf, hw, hz, fun w' r pr => ?_⟩
 kd_mark
 exact φ (z, (w', r)) (.tup (show 2 <= 1000 by decide) fun t ht => by
  simp at ht
  rcases ht with rfl | rfl
  ·exact .str (by have := (oH wz).2.1; omega)
  ·exact pr)
noncomputable def fe (ls : List wb) (b : Bool) : List Str := (ls.filter fun l => decide (l.right = b)).map (·.mark)
theorem sP {ls : List wb} {b : Bool} {os : List (Option Tr)} (hl : os.length = (ls.map hR).length) (h : ∀ (i : Nat) (o : Option Tr), os[i]? = some o -> ∃ l : wb, ls[i]? = some l /\ o = if decide (l.right = b) = true then some (Tr.str l.mark) else none) : os.filterMap id = (fe ls b).map Tr.str := by
 induction ls generalizing os with
 | nil =>
  rw [List.map_nil, List.length_nil] at hl
  rw [List.eq_nil_of_length_eq_zero hl]; rfl
 | cons l ls ih =>
  cases os with
  | nil => simp at hl
  | cons o os =>
   obtain ⟨l', e, ho⟩ := h 0 o rfl
   cases e
   have ih := ih (os := os) (by simpa using hl) fun i o hi => h (i + 1) o hi
   rw [List.filterMap_cons, ho]
   unfold fe at ih ⊢
   rw [List.filter_cons]
   cases hb : decide (l.right = b) with
   | true => rw [if_pos rfl, if_pos rfl]; show Tr.str l.mark :: os.filterMap id = _; rw [ih]; rfl
   | false => rw [if_neg Bool.false_ne_true, if_neg Bool.false_ne_true]; exact ih
theorem vW {a b : Bool} : decide (bK a = bK b) = decide (a = b) := by cases a <;> cases b <;> decide
noncomputable def wY : SpT := fun _ as Φ _ => ∃ (ls : List wb) (b : Bool) (ds : List Int), as = [.fz (.tup (ls.map hR)), .fz (.str (bK b)), .fz (.lst (ds.map Tr.int))] /\ ls.length <= 3 /\ Dr 6 ds /\ ∀ o : Option Wsh, cD (sh o) -> Φ (.fz (sh o))
theorem qH (T : Txt K mg t) : FO P w base T.q_zav 4 (bw K wY) := by
 have G_zaq := @km P w K mg base t T
 refine T.q_zav.F.ok eV (aH (fun B as Φ Ψ h => by obtain ⟨_, _, _, rfl, _⟩ := h; rfl)) (fun cdv A outer s H vs Q E hr h => ?_)
 obtain ⟨B, as, Φ, Ψ, rfl, hS, hx, go⟩ := aA h
 obtain ⟨ls, b, ds, rfl, l3, hD, φ⟩ := hS
 refine ⟨_, (aV (pR (iy := 3) eV.nd rfl (Or.inl rfl) (tg := "_law_layer") (fr := [("_law_side_here", 1)]) rfl (cE (osc := ae fM) (N := ["_law_layers_here", "_law_side_here", "_law_d", "_law_marks", "_law_wanted"]) rfl rfl (by decide +kernel)) (ck (pv 0)) (fun _ _ _ _ _ => (ao bI (af (r := iV B.K) bn (pv 0) au (fun _ _ => rfl)) (pv 1) (ay _))) (fun _ _ _ _ _ => (af (r := iV B.K) bn (pv 0) au (fun _ _ => rfl))))
 (aV (az (i := 4) eV.nd rfl (Or.inl rfl) (aD (ac aa (ac aa (ac aa (ac aa (ac aa aq)))))))
 (aV (aG (ao (qj hr.units0) (pv 3) (aD aq) (ay _)) (aZ (aj aN)) ar)
 (aV (aG (ao aP aa (pv 3) rfl) (aZ (az (i := 4) eV.nd rfl (Or.inl rfl) (aT bE (pv 4) cf (aM au)))) (aZ (aG (ao (ng hr.units0) (gw (tg := "_law_mark") (fr := []) rfl (cE (osc := ae fM) (N := ["_law_layers_here", "_law_side_here", "_law_d", "_law_marks", "_law_wanted"]) rfl rfl (by decide +kernel)) (wB (pv 3)) (fun _ _ _ _ _ => (ao (r := vS B.K false) aP (pv 0) (ag (ac aa (ac aa (ac aa (ac aa aq))))) rfl)) (fun _ _ _ _ _ => (pv 0))) (aD aq) (ay _)) (aZ (az (i := 4) eV.nd rfl (Or.inl rfl) (aT bE (pv 4) cf (aM au)))) ar)))
 (aZ (aj (bF G_zaq hr T.q_zaq (ac (pv 2) (ac (pv 4) aq))))))))), go _ _ (bO (τ := [.fz _, .fz _, .fz _, .no, .no]) rfl ?_)⟩
 kd_mark
 refine gb (dA rfl ?_)
 kd_mark
 refine ⟨[.fz (.str (bK b))], by repeat (first | exact .nil | refine .fz (by kt_join) ?_), by rw [List.length_map]; omega, fun i o => ∃ l, ls[i]? = some l /\ o = if decide (l.right = b) = true then some (.str l.mark) else none, fun i tt ht => ?_, fun os hl ho => ?_⟩
 ·obtain ⟨l, hl, rfl⟩ := jb ht
  unfold hR
  kd_mark
  rw [vW]
  cases hb : decide (l.right = b) with
  | true =>
   refine gU ?_
   kd_mark
   exact ⟨l, hl, by rw [hb]; rfl⟩
  | false =>
   refine gA ?_
   exact ⟨l, hl, by rw [hb]; rfl⟩
 rw [sP hl ho]
 have ml : (fe ls b).length <= 3 := by
  unfold fe
  rw [List.length_map]
  exact Nat.le_trans (List.length_filter_le _ _) l3
 have em : (fe ls b).isEmpty = true -> ¬ ∃ l ∈ ls, l.right = b := fun h ⟨l, hm, hr⟩ => by
  have : l.mark ∈ fe ls b := List.mem_map.mpr ⟨l, List.mem_filter.mpr ⟨hm, decide_eq_true hr⟩, rfl⟩
  rw [List.isEmpty_iff.mp h] at this
  exact List.not_mem_nil this
 generalize fe ls b = ms at *
 kd_mark
 refine gM rfl (by dl_open) Rk.fz ?_
 kd_mark
 cases he : (ms.map Tr.str).isEmpty with
 | true =>
  rw [List.isEmpty_map] at he
  refine Ct rfl ?_
  kd_mark
  exact φ none .non
 | false =>
 refine xK rfl ?_
 kby_none
 refine cZ (fun τ' => ∃ (u : Sl) (ws : List Str), τ' = [.fz (.tup (ls.map hR)), .fz (.str (bK b)), .fz (.lst (ds.map Tr.int)), u, .own (.lst (ws.map Tr.str))] /\ ws ≠ [] /\ ∀ z ∈ ws, z.length <= 100) ?_ ?_
 ·kd_mark
  refine jk (ws := ms) rfl (by dl_open) ?_
  kd_mark
  refine ah (fun h1 => ?_) (fun h1 => ?_)
  ·kd_mark
   exact ⟨_, ["straight", "turns"], rfl, nofun, by decide⟩
  kd_mark
  refine gb (ut rfl ?_)
  kd_mark
  refine ⟨[], .nil, by rw [List.length_map]; omega, fun i o => True, fun i tt ht => ?_, fun os hl ho => ?_⟩
  ·obtain ⟨m, _, rfl⟩ := jb ht
   kd_mark
   refine bN (ws := ["bars", "heaps", "lines", "bands"]) rfl Rk.fz ?_
   kd_mark
   refine ah (fun h2 => ?_) (fun h2 => ?_)
   ·kd_mark
    trivial
   ·trivial
  kd_mark
  refine gM rfl (by dl_open) Rk.fz ?_
  kd_mark
  refine aS (fun h2 => ?_) (fun h2 => ?_)
  ·kd_mark
   exact ⟨_, ["straight", "turns", "broken", "days", "order"], rfl, nofun, by decide⟩
  ·kd_mark
   exact ⟨_, ["straight", "turns", "broken"], rfl, nofun, by decide⟩
 rintro τ' ⟨u, ws, rfl, hw, hz⟩
 kd_mark
 intro _ _
 refine ⟨ds, ws, rfl, hD, hw, hz, fun w' r pr => ?_⟩
 kd_mark
 exact φ (some (w', r)) pr
noncomputable def AC : SpT := fun _ as Φ _ => ∃ ds : List Int, as = [.fz (.lst (ds.map Tr.int))] /\ Dr 80 ds /\ ∀ ps : List Tr, ps.length = 7 -> (∀ t ∈ ps, cD t) -> Φ (.fz (.tup (.lst [] :: ps)))
theorem kX (T : Txt K mg t) : FO P w base T.q_zaw 5 (bw K AC) := by
 have G_zbf := @lZ P w K mg base t T
 have G_zaf := @kG P w K mg base t T
 have G_zav := @qH P w K mg base t T
 refine T.q_zaw.F.ok bx (aH (fun B as Φ Ψ h => by obtain ⟨_, rfl, _⟩ := h; rfl)) (fun cdv A outer s H vs Q E hr h => ?_)
 obtain ⟨B, as, Φ, Ψ, rfl, hS, hx, go⟩ := aA h
 obtain ⟨ds, rfl, hD, φ⟩ := hS
 have hl := hD.1
 refine ⟨_, (aV (az (i := 1) bx.nd rfl (Or.inl rfl) (bF G_zbf hr T.q_zbf (ac (aT bE (pv 0) cf (aM au)) aq)))
 (aV (az (i := 2) bx.nd rfl (Or.inl rfl) (bF G_zaf hr T.q_zaf (ac (aT bE (pv 0) (aM au) (aM au)) (ac (af cz (aD (ac (aD (ac aa aq)) (ac (aD (ac aa (ac aa (ac aa (ac aa aq))))) aq))) (al aQ (af cz (pv 0) au (fun _ _ => rfl)) au) (fun _ _ => rfl)) aq))))
 (aV (az (i := 3) bx.nd rfl (Or.inl rfl) (ag (ac (bF G_zav hr T.q_zav (ac (pv 1) (ac aa (ac (aT bE (pv 0) (aM au) (aM au)) aq)))) (ac (bF G_zav hr T.q_zav (ac (pv 1) (ac aa (ac (aT bE (pv 0) (aM au) (aM au)) aq)))) aq))))
 (aV (az (i := 4) bx.nd rfl (Or.inl rfl) aN)
 (aV (aG (PW.pt (bf (ao aP aa (dX rfl (bi (fr := []) (osc := ae dY) (N := ["_law_d", "_law_layers_here", "_law_x", "_law_sides", "_law_colour", "_law_size", "_law_facet", "_law_sheet"]) rfl rfl (by decide +kernel)) (ck (pv 1)) (fun _ _ _ _ _ => (af (r := iV B.K) bn (pv 0) au (fun _ _ => rfl)))) rfl) (bh (ao bI (al aQ (af cz (pv 0) au (fun _ _ => rfl)) au) au (ay _))))) (aZ (az (i := 4) bx.nd rfl (Or.inl rfl) (bF G_zaf hr T.q_zaf (ac (aT bE (pv 0) (aM au) (aM au)) (ac (aD (ac aa aq)) aq))))) (aZ (aG (ao bI (al aQ (af cz (pv 0) au (fun _ _ => rfl)) au) au (ay _)) (aZ (az (i := 4) bx.nd rfl (Or.inl rfl) (bF G_zaf hr T.q_zaf (ac (aT bE (pv 0) (aM au) (aM au)) (ac (aD (ac aa aq)) aq))))) ar)))
 (aV (az (i := 5) bx.nd rfl (Or.inl rfl) (af cz (aD (ac aN (ac (bF G_zaf hr T.q_zaf (ac (aT bE (pv 0) (aM au) (aM au)) (ac (aD (ac aa aq)) aq))) aq))) (al aQ (af cz (pv 0) au (fun _ _ => rfl)) au) (fun _ _ => rfl)))
 (aV (az (i := 6) bx.nd rfl (Or.inl rfl) (af cz (aD (ac aN (ac (bF G_zaf hr T.q_zaf (ac (aT bE (pv 0) (aM au) (aM au)) (ac (aD (ac aa aq)) aq))) aq))) (al aQ (af cz (pv 0) au (fun _ _ => rfl)) au) (fun _ _ => rfl)))
 (aV (az (i := 7) bx.nd rfl (Or.inl rfl) (ag (ac (al bo au (al aQ (af cz (pv 0) au (fun _ _ => rfl)) au)) (ac (al bo au (al aQ (af cz (pv 0) au (fun _ _ => rfl)) au)) (ac (aK bI (al aQ (af cz (pv 0) au (fun _ _ => rfl)) au) au (ay _)) aq)))))
 (aZ (aj (ag (ac (aD aq) (ac (pv 2) (ac (pv 3) (ac (pv 1) (ac (pv 4) (ac (pv 5) (ac (pv 6) (ac (pv 7) aq))))))))))))))))))), go _ _ (bO (τ := [.fz _, .no, .no, .no, .no, .no, .no, .no]) rfl ?_)⟩
 kd_mark
 obtain ⟨e1, q1, d1⟩ := hD.cut0 (b := 16) 16 (by decide) (by decide)
 rw [q1]
 intro _ _
 refine ⟨e1, rfl, d1, fun ls l3 oL => ?_⟩
 kd_mark
 obtain ⟨ws, qw, hw, hws⟩ := Bt (a := ["order"]) (b := ["straight", "turns", "broken", "days"]) nofun nofun (Int.emod_nonneg (dg ds 0) (show (2 : Int) ≠ 0 by decide)) (Int.emod_lt_of_pos (dg ds 0) (show (0 : Int) < 2 by decide))
 refine bC rfl Rk.fz qw ?_
 kd_mark
 obtain ⟨e2, q2, d2⟩ := hD.cut (a := 16) (b := 25) 9 (by decide) (by decide) (by decide)
 rw [q2]
 intro _ _
 refine ⟨e2, ws, rfl, d2, hw, by rcases hws with rfl | rfl <;> decide, fun cx ox => ?_⟩
 kd_mark
 obtain ⟨e3, q3, d3⟩ := hD.cut (a := 25) (b := 31) 6 (by decide) (by decide) (by decide)
 rw [q3]
 intro _ _
 refine ⟨ls, false, e3, rfl, l3, d3, fun s0 h0 => ?_⟩
 kd_mark
 obtain ⟨e4, q4, d4⟩ := hD.cut (a := 31) (b := 37) 6 (by decide) (by decide) (by decide)
 rw [q4]
 intro _ _
 refine ⟨ls, true, e4, rfl, l3, d4, fun s1 h1 => ?_⟩
 kby_none
 refine cZ (fun τ' => ∃ o : Option Chn, τ' = [.fz (.lst (ds.map Tr.int)), .fz (.tup (ls.map hR)), .fz (zg cx), .fz (.tup [sh s0, sh s1]), .fz (pB o), .no, .no, .no] /\ cD (pB o)) ?_ ?_
 ·kd_mark
  refine ij (dA rfl ?_)
  kd_mark
  refine ⟨[], .nil, by rw [List.length_map]; omega, fun i o => ∃ l, ls[i]? = some l /\ o = .str l.mark, fun i tt ht => ?_, fun os hl ho => ?_⟩
  ·obtain ⟨l, hl, rfl⟩ := jb ht
   unfold hR
   kd_mark
   exact ⟨l, hl, rfl⟩
  rw [yD (xs := ls) (f := fun l => .str l.mark) (by rw [hl, List.length_map]) ho, show (ls.map fun l => Tr.str l.mark) = (ls.map (·.mark)).map Tr.str by rw [List.map_map]; rfl]
  kd_mark
  refine jk (ws := ls.map (·.mark)) rfl Rk.fz ?_
  obtain ⟨e9, q9, d9⟩ := hD.cut (a := 38) (b := 47) 9 (by decide) (by decide) (by decide)
  kd_mark
  refine ah (fun h => ?_) (fun h => ?_)
  ·kd_mark
   rw [q9]
   intro _ _
   refine ⟨e9, ["order"], rfl, d9, nofun, by decide, fun c oc => ?_⟩
   kd_mark
   exact ⟨some c, rfl, oc⟩
  kd_mark
  refine ah (fun h => ?_) (fun h => ?_)
  ·kd_mark
   rw [q9]
   intro _ _
   refine ⟨e9, ["order"], rfl, d9, nofun, by decide, fun c oc => ?_⟩
   kd_mark
   exact ⟨some c, rfl, oc⟩
  kd_mark
  refine ah (fun h => ?_) (fun h => ?_)
  ·kd_mark
   rw [q9]
   intro _ _
   refine ⟨e9, ["straight"], rfl, d9, nofun, by decide, fun c oc => ?_⟩
   kd_mark
   exact ⟨some c, rfl, oc⟩
  ·kd_mark
   exact ⟨none, rfl, .non⟩
 rintro τ' ⟨co, rfl, oco⟩
 kd_mark
 obtain ⟨e5, q5, d5⟩ := hD.cut (a := 47) (b := 56) 9 (by decide) (by decide) (by decide)
 rw [q5]
 intro _ _
 refine ⟨e5, ["straight"], rfl, d5, nofun, by decide, fun c1 o1 => ?_⟩
 kd_mark
 obtain ⟨oz, qz, hz⟩ := Be (c := c1) (Int.emod_nonneg (dg ds 56) (show (2 : Int) ≠ 0 by decide)) (Int.emod_lt_of_pos (dg ds 56) (show (0 : Int) < 2 by decide))
 refine bC rfl Rk.fz qz ?_
 kd_mark
 obtain ⟨e6, q6, d6⟩ := hD.cut (a := 57) (b := 66) 9 (by decide) (by decide) (by decide)
 rw [q6]
 intro _ _
 refine ⟨e6, ["order"], rfl, d6, nofun, by decide, fun c2 o2 => ?_⟩
 kd_mark
 obtain ⟨of, qf, hf⟩ := Be (c := c2) (Int.emod_nonneg (dg ds 66) (show (2 : Int) ≠ 0 by decide)) (Int.emod_lt_of_pos (dg ds 66) (show (0 : Int) < 2 by decide))
 refine bC rfl Rk.fz qf ?_
 kd_mark
 have po : ∀ {o : Option Chn} {c : Chn}, cD (zg c) -> (∀ d, o = some d -> d = c) -> cD (pB o) := fun {o c} h g => by
  cases o with
  | none => exact .non
  | some d => rw [g d rfl]; exact h
 refine φ [zg cx, .tup [sh s0, sh s1], .tup (ls.map hR), pB co, pB oz, pB of, _] rfl fun t ht => ?_
 simp at ht
 rcases ht with rfl | rfl | rfl | rfl | rfl | rfl | rfl
 ·exact ox
 ·refine .tup (show 2 <= 1000 by decide) fun t ht => ?_
  simp at ht
  rcases ht with rfl | rfl
  ·exact h0
  ·exact h1
 ·refine .tup (by rw [List.length_map]; omega) fun t ht => ?_
  obtain ⟨l, hl, rfl⟩ := List.mem_map.mp ht
  exact (oL l hl).2
 ·exact oco
 ·exact po o1 hz
 ·exact po o2 hf
 ·refine .tup (show 3 <= 1000 by decide) fun t ht => ?_
  simp at ht
  rcases ht with rfl | rfl | rfl
  ·exact .int
  ·exact .int
  ·exact .bl
noncomputable def mR : Nat -> Tr -> Bool
 | 0, _ => false
 | _ + 1, .non => true
 | _ + 1, .bl _ => true
 | _ + 1, .int _ => true
 | _ + 1, .str z => decide (z.length <= 1000)
 | n + 1, .tup ts => decide (ts.length <= 1000) && ts.all (mR n)
 | n + 1, .lst ts => decide (ts.length <= 1000) && ts.all (mR n)
 | _ + 1, .dct kvs => kvs.isEmpty
 | _ + 1, .ty _ => false
theorem pO : ∀ {n : Nat} {t : Tr}, mR n t = true -> cD t
 | n + 1, .non, _ => .non
 | n + 1, .bl _, _ => .bl
 | n + 1, .int _, _ => .int
 | n + 1, .str z, h => .str (of_decide_eq_true h)
 | n + 1, .tup ts, h => by
  have h : (decide (ts.length <= 1000) && ts.all (mR n)) = true := h
  rw [Bool.and_eq_true] at h
  exact .tup (of_decide_eq_true h.1) fun t ht => pO (List.all_eq_true.mp h.2 t ht)
 | n + 1, .lst ts, h => by
  have h : (decide (ts.length <= 1000) && ts.all (mR n)) = true := h
  rw [Bool.and_eq_true] at h
  exact .lst (of_decide_eq_true h.1) fun t ht => pO (List.all_eq_true.mp h.2 t ht)
 | n + 1, .dct [], _ => .dct
theorem uY : ∀ {n : Nat} {t : Tr}, mR n t = true -> Dp n t
 | n + 1, .non, _ => .non
 | n + 1, .bl _, _ => .bl
 | n + 1, .int _, _ => .int
 | n + 1, .str z, h => .str
 | n + 1, .tup ts, h => by
  have h : (decide (ts.length <= 1000) && ts.all (mR n)) = true := h
  rw [Bool.and_eq_true] at h
  exact .tup fun t ht => uY (List.all_eq_true.mp h.2 t ht)
 | n + 1, .lst ts, h => by
  have h : (decide (ts.length <= 1000) && ts.all (mR n)) = true := h
  rw [Bool.and_eq_true] at h
  exact .lst fun t ht => uY (List.all_eq_true.mp h.2 t ht)
 | n + 1, .dct [], _ => .dct
noncomputable def PD (t : Tr) : Prop := cD t /\ Dp 9 t
theorem cy (h : ts.all (mR 9) = true) : ∀ t ∈ ts, PD t := fun t ht => ⟨pO (List.all_eq_true.mp h t ht), uY (List.all_eq_true.mp h t ht)⟩
theorem uV {d : Int} {n : Int} (hn : (ts.length : Int) = n) (h0 : 0 <= d) (h1 : d < n) : ∃ t, eI ts d = some t /\ t ∈ ts := by
 obtain ⟨k, rfl⟩ := Int.eq_ofNat_of_zero_le h0
 have hk : k < ts.length := by omega
 exact ⟨ts[k], bp (List.getElem?_eq_getElem hk), List.getElem_mem hk⟩
noncomputable def DY : List Tr := [.non, .tup [], .lst [], .str "left", .int 5, .bl true, .dct [], .tup [.str "a"], .tup [.str "a", .tup [.str "order"]], .tup [.str "a", .tup [.str "straight"]], .lst [.str "a", .tup [.str "order"]]]
theorem CA : ∀ t ∈ DY, PD t := cy (by decide +kernel)
noncomputable def Dm : List Tr := [.tup [.str "A", .tup [.str "order"]], .tup [.non, .tup [.str "order"]], .tup [.str "a", .tup [.str "turns", .int 3]], .tup [.str "a", .tup [.str "turns", .bl true]], .tup [.str "a", .str "order"]]
theorem BP : ∀ t ∈ Dm, PD t := cy (by decide +kernel)
noncomputable def Dx : List Tr := [.tup [.str "a", .tup [.str "straight", .tup [.int 2, .int 1], .tup [.int 1, .int 1]]], .tup [.str "a", .tup [.str "straight", .tup [.int 0, .int 1], .tup [.int 2, .int 4]]], .tup [.str "a", .tup [.str "days", .int 1]]]
theorem CY : ∀ t ∈ Dx, PD t := cy (by decide +kernel)
noncomputable def De : List Tr := [.tup [.str "a", .tup [.str "order", .tup []]], .tup [.str "a", .tup [.str "order", .tup [.str "b", .str "b"]]], .tup [.str "a", .tup [.str "order", .lst [.str "b"]]], .tup [.str "a", .tup [.str "days"], .int 1]]
theorem BB : ∀ t ∈ De, PD t := cy (by decide +kernel)
noncomputable def Di : List Tr := [.tup [.str "a", .tup [.str "broken", .tup [.tup [.tup [.int 0, .int 1], .tup [.int 1, .int 1]], .tup [.tup [.int 1, .int 1], .tup [.int 2, .int 1]]]]], .tup [.str "a", .tup [.str "broken", .tup [.tup [.tup [.int 0, .int 1], .tup [.int 1, .int 1]]]]]]
theorem CJ : ∀ t ∈ Di, PD t := cy (by decide +kernel)
noncomputable def DA : List Tr := [.tup [.non, .non], .tup [.tup [.str "straight"], .non], .tup [.tup [.str "days"], .tup [.str "order"]], .tup [.tup [.str "straight"]], .lst [.non, .non]]
theorem CP : ∀ t ∈ DA, PD t := cy (by decide +kernel)
noncomputable def Dl : List Tr := [.tup [.tup [.str "dots", .str "left", .str "a", .non]], .tup [.tup [.str "words", .str "right", .str "a", .non]], .tup [.tup [.str "dots", .str "up", .str "a", .non]]]
theorem BV : ∀ t ∈ Dl, PD t := cy (by decide +kernel)
noncomputable def Df : List Tr := [.tup [.tup [.str "bars", .str "left", .str "a", .str "b"]], .tup [.tup [.str "dot", .str "left", .str "a", .non]], .tup [.tup [.str "dots", .str "left", .str "a", .non], .tup [.str "dots", .str "left", .str "a", .non], .tup [.str "dots", .str "left", .str "a", .non], .tup [.str "dots", .str "left", .str "a", .non]]]
theorem BF : ∀ t ∈ Df, PD t := cy (by decide +kernel)
noncomputable def DE : List Tr := [.tup [.tup [.str "dots", .str "left", .str "A", .non]], .tup [.tup [.str "dots", .str "left", .int 5, .non]], .tup [.tup [.str "bands", .str "left", .str "a", .non]]]
theorem BD : ∀ t ∈ DE, PD t := cy (by decide +kernel)
noncomputable def Dc : List Tr := [.lst [.tup [.str "dots", .str "left", .str "a", .non]], .tup [.lst [.str "dots", .str "left", .str "a", .non]], .tup [.tup [.str "words", .str "left", .str "a", .str "B"]]]
theorem CM : ∀ t ∈ Dc, PD t := cy (by decide +kernel)
noncomputable def wL : List Tr := [.tup [.tup [.lst [], .str "left", .str "a", .non]], .tup [.tup [.str "dots", .dct [], .str "a", .non]], .tup [.str "abcdefghi", .tup [.str "order"]]]
theorem ze : ∀ t ∈ wL, PD t := cy (by decide +kernel)
noncomputable def xh : List Tr := [.tup [.int 59, .int 60, .bl true], .tup [.int 60, .int 2001, .bl false], .tup [.int 60, .int 60, .int 1], .tup [.bl true, .int 60, .bl false], .tup [.int 60, .int 60, .bl false], .lst [.int 60, .int 60, .bl true]]
theorem Ai : ∀ t ∈ xh, PD t := cy (by decide +kernel)
noncomputable def BR (n : Nat) (L : List Tr) : Prop := L.length = n /\ ∀ t ∈ L, PD t
theorem cQ {m : Nat} {L us : List Tr} (h : BR n L) (g : us.length = m) (p : ∀ t ∈ us, PD t) : BR (n + m) (L ++ us) := ⟨by rw [List.length_append, h.1, g], fun t ht => (List.mem_append.mp ht).elim (h.2 t) (p t)⟩
noncomputable def yu : SpT := fun _ as Φ _ => ∃ d : Int, as = [.fz (.int d)] /\ 0 <= d /\ ∀ t, PD t -> Φ (.fz t)
theorem tz (T : Txt K mg t) : FO P w base T.q_zbm 1 (bw K yu) := by
  refine T.q_zbm.F.ok bP (aH (fun B as Φ Ψ h => by obtain ⟨_, rfl, _⟩ := h; rfl)) (fun cdv A outer s H vs Q E hr h => ?_)
  obtain ⟨B, as, Φ, Ψ, rfl, hS, hx, go⟩ := aA h
  obtain ⟨d, rfl, d0, φ⟩ := hS
  refine' ⟨_, ?h, ?g⟩
  case h =>
   refine' aV ?x1a ?x1b
   case x1a =>
    refine' az (i := 1) ?x2a ?x2b ?x2c ?x2d ?y2 ?z2
    case y2 => rfl
    case z2 => exact .inr rfl
    case x2a => exact bP.nd
    case x2b => exact rfl
    case x2c => exact (Or.inl rfl)
    case x2d =>
    refine' aD ?x3a
    case x3a =>
    refine' ac ?x4a ?x4b
    case x4a => exact aN
    case x4b =>
    refine' ac ?x5a ?x5b
    case x5a => exact (ag aq)
    case x5b =>
    refine' ac ?x6a ?x6b
    case x6a => exact (aD aq)
    case x6b =>
    refine' ac ?x7a ?x7b
    case x7a => exact aa
    case x7b =>
    refine' ac ?x8a ?x8b
    case x8a => exact au
    case x8b =>
    refine' ac ?x9a ?x9b
    case x9a => exact bc
    case x9b =>
    refine' ac ?x10a ?x10b
    case x10a => exact ki
    case x10b =>
    refine' ac ?x11a ?x11b
    case x11a => exact (ag (ac aa aq))
    case x11b =>
    refine' ac ?x12a ?x12b
    case x12a => exact (ag (ac aa (ac (ag (ac aa aq)) aq)))
    case x12b =>
    refine' ac ?x13a ?x13b
    case x13a => exact (ag (ac aa (ac (ag (ac aa aq)) aq)))
    case x13b =>
    refine' ac ?x14a ?x14b
    case x14a => exact (aD (ac aa (ac (ag (ac aa aq)) aq)))
    case x14b => exact aq
   case x1b =>
   refine' aV ?x15a ?x15b
   case x15a =>
    refine' az (i := 1) ?x16a ?x16b ?x16c ?x16d ?y16 ?z16
    case y16 => rfl
    case z16 => exact .inr rfl
    case x16a => exact bP.nd
    case x16b => exact rfl
    case x16c => exact (Or.inl rfl)
    case x16d =>
    refine' al ?x17a ?x17b ?x17c
    case x17a => exact cc
    case x17b => exact (pv 1)
    case x17c =>
    refine' aD ?x18a
    case x18a =>
    refine' ac ?x19a ?x19b
    case x19a => exact (ag (ac aa (ac (ag (ac aa aq)) aq)))
    case x19b =>
    refine' ac ?x20a ?x20b
    case x20a => exact (ag (ac aN (ac (ag (ac aa aq)) aq)))
    case x20b =>
    refine' ac ?x21a ?x21b
    case x21a =>
     refine' ag ?x22a
     case x22a =>
     refine' ac ?x23a ?x23b
     case x23a => exact aa
     case x23b => exact (ac (ag (ac aa (ac au aq))) aq)
    case x21b =>
    refine' ac ?x24a ?x24b
    case x24a =>
     refine' ag ?x25a
     case x25a =>
     refine' ac ?x26a ?x26b
     case x26a => exact aa
     case x26b => exact (ac (ag (ac aa (ac bc aq))) aq)
    case x24b => exact (ac (ag (ac aa (ac aa aq))) aq)
   case x15b =>
   refine' aV ?x27a ?x27b
   case x27a =>
    refine' az (i := 1) ?x28a ?x28b ?x28c ?x28d ?y28 ?z28
    case y28 => rfl
    case z28 => exact .inr rfl
    case x28a => exact bP.nd
    case x28b => exact rfl
    case x28c => exact (Or.inl rfl)
    case x28d =>
    refine' al ?x29a ?x29b ?x29c
    case x29a => exact cc
    case x29b => exact (pv 1)
    case x29c =>
    refine' aD ?x30a
    case x30a =>
    refine' ac ?x31a ?x31b
    case x31a =>
     refine' ag ?x32a
     case x32a =>
     refine' ac ?x33a ?x33b
     case x33a => exact aa
     case x33b =>
     refine' ac ?x34a ?x34b
     case x34a =>
      refine' ag ?x35a
      case x35a =>
      refine' ac ?x36a ?x36b
      case x36a => exact aa
      case x36b =>
      refine' ac ?x37a ?x37b
      case x37a => exact (ag (ac au (ac au aq)))
      case x37b => exact (ac (ag (ac au (ac au aq))) aq)
     case x34b => exact aq
    case x31b =>
    refine' ac ?x38a ?x38b
    case x38a =>
     refine' ag ?x39a
     case x39a =>
     refine' ac ?x40a ?x40b
     case x40a => exact aa
     case x40b =>
     refine' ac ?x41a ?x41b
     case x41a =>
      refine' ag ?x42a
      case x42a =>
      refine' ac ?x43a ?x43b
      case x43a => exact aa
      case x43b =>
      refine' ac ?x44a ?x44b
      case x44a => exact (ag (ac au (ac au aq)))
      case x44b => exact (ac (ag (ac au (ac au aq))) aq)
     case x41b => exact aq
    case x38b =>
    refine' ac ?x45a ?x45b
    case x45a =>
     refine' ag ?x46a
     case x46a =>
     refine' ac ?x47a ?x47b
     case x47a => exact aa
     case x47b => exact (ac (ag (ac aa (ac au aq))) aq)
    case x45b => exact aq
   case x27b =>
   refine' aV ?x48a ?x48b
   case x48a =>
    refine' az (i := 1) ?x49a ?x49b ?x49c ?x49d ?y49 ?z49
    case y49 => rfl
    case z49 => exact .inr rfl
    case x49a => exact bP.nd
    case x49b => exact rfl
    case x49c => exact (Or.inl rfl)
    case x49d =>
    refine' al ?x50a ?x50b ?x50c
    case x50a => exact cc
    case x50b => exact (pv 1)
    case x50c =>
    refine' aD ?x51a
    case x51a =>
    refine' ac ?x52a ?x52b
    case x52a =>
     refine' ag ?x53a
     case x53a =>
     refine' ac ?x54a ?x54b
     case x54a => exact aa
     case x54b => exact (ac (ag (ac aa (ac (ag aq) aq))) aq)
    case x52b =>
    refine' ac ?x55a ?x55b
    case x55a =>
     refine' ag ?x56a
     case x56a =>
     refine' ac ?x57a ?x57b
     case x57a => exact aa
     case x57b =>
     refine' ac ?x58a ?x58b
     case x58a =>
      refine' ag ?x59a
      case x59a =>
      refine' ac ?x60a ?x60b
      case x60a => exact aa
      case x60b => exact (ac (ag (ac aa (ac aa aq))) aq)
     case x58b => exact aq
    case x55b =>
    refine' ac ?x61a ?x61b
    case x61a =>
     refine' ag ?x62a
     case x62a =>
     refine' ac ?x63a ?x63b
     case x63a => exact aa
     case x63b =>
     refine' ac ?x64a ?x64b
     case x64a => exact (ag (ac aa (ac (aD (ac aa aq)) aq)))
     case x64b => exact aq
    case x61b =>
    refine' ac ?x65a ?x65b
    case x65a =>
     refine' ag ?x66a
     case x66a =>
     refine' ac ?x67a ?x67b
     case x67a => exact aa
     case x67b => exact (ac (ag (ac aa aq)) (ac au aq))
    case x65b => exact aq
   case x48b =>
   refine' aV ?x68a ?x68b
   case x68a =>
    refine' az (i := 1) ?x69a ?x69b ?x69c ?x69d ?y69 ?z69
    case y69 => rfl
    case z69 => exact .inr rfl
    case x69a => exact bP.nd
    case x69b => exact rfl
    case x69c => exact (Or.inl rfl)
    case x69d =>
    refine' al ?x70a ?x70b ?x70c
    case x70a => exact cc
    case x70b => exact (pv 1)
    case x70c =>
    refine' aD ?x71a
    case x71a =>
    refine' ac ?x72a ?x72b
    case x72a =>
     refine' ag ?x73a
     case x73a =>
     refine' ac ?x74a ?x74b
     case x74a => exact aa
     case x74b =>
     refine' ac ?x75a ?x75b
     case x75a =>
      refine' ag ?x76a
      case x76a =>
      refine' ac ?x77a ?x77b
      case x77a => exact aa
      case x77b =>
      refine' ac ?x78a ?x78b
      case x78a =>
       refine' ag ?x79a
       case x79a =>
       refine' ac ?x80a ?x80b
       case x80a =>
        refine' ag ?x81a
        case x81a =>
        refine' ac ?x82a ?x82b
        case x82a => exact (ag (ac au (ac au aq)))
        case x82b => exact (ac (ag (ac au (ac au aq))) aq)
       case x80b =>
       refine' ac ?x83a ?x83b
       case x83a =>
        refine' ag ?x84a
        case x84a =>
        refine' ac ?x85a ?x85b
        case x85a => exact (ag (ac au (ac au aq)))
        case x85b => exact (ac (ag (ac au (ac au aq))) aq)
       case x83b => exact aq
      case x78b => exact aq
     case x75b => exact aq
    case x72b =>
    refine' ac ?x86a ?x86b
    case x86a =>
     refine' ag ?x87a
     case x87a =>
     refine' ac ?x88a ?x88b
     case x88a => exact aa
     case x88b =>
     refine' ac ?x89a ?x89b
     case x89a =>
      refine' ag ?x90a
      case x90a =>
      refine' ac ?x91a ?x91b
      case x91a => exact aa
      case x91b =>
      refine' ac ?x92a ?x92b
      case x92a =>
       refine' ag ?x93a
       case x93a =>
       refine' ac ?x94a ?x94b
       case x94a =>
        refine' ag ?x95a
        case x95a =>
        refine' ac ?x96a ?x96b
        case x96a => exact (ag (ac au (ac au aq)))
        case x96b => exact (ac (ag (ac au (ac au aq))) aq)
       case x94b => exact aq
      case x92b => exact aq
     case x89b => exact aq
    case x86b => exact aq
   case x68b =>
   refine' aV ?x97a ?x97b
   case x97a =>
    refine' az (i := 1) ?x98a ?x98b ?x98c ?x98d ?y98 ?z98
    case y98 => rfl
    case z98 => exact .inr rfl
    case x98a => exact bP.nd
    case x98b => exact rfl
    case x98c => exact (Or.inl rfl)
    case x98d =>
    refine' al ?x99a ?x99b ?x99c
    case x99a => exact cc
    case x99b => exact (pv 1)
    case x99c =>
    refine' aD ?x100a
    case x100a =>
    refine' ac ?x101a ?x101b
    case x101a => exact (ag (ac aN (ac aN aq)))
    case x101b =>
    refine' ac ?x102a ?x102b
    case x102a => exact (ag (ac (ag (ac aa aq)) (ac aN aq)))
    case x102b =>
    refine' ac ?x103a ?x103b
    case x103a =>
     refine' ag ?x104a
     case x104a =>
     refine' ac ?x105a ?x105b
     case x105a => exact (ag (ac aa aq))
     case x105b => exact (ac (ag (ac aa aq)) aq)
    case x103b =>
    refine' ac ?x106a ?x106b
    case x106a => exact (ag (ac (ag (ac aa aq)) aq))
    case x106b => exact (ac (aD (ac aN (ac aN aq))) aq)
   case x97b =>
   refine' aV ?x107a ?x107b
   case x107a =>
    refine' az (i := 1) ?x108a ?x108b ?x108c ?x108d ?y108 ?z108
    case y108 => rfl
    case z108 => exact .inr rfl
    case x108a => exact bP.nd
    case x108b => exact rfl
    case x108c => exact (Or.inl rfl)
    case x108d =>
    refine' al ?x109a ?x109b ?x109c
    case x109a => exact cc
    case x109b => exact (pv 1)
    case x109c =>
    refine' aD ?x110a
    case x110a =>
    refine' ac ?x111a ?x111b
    case x111a =>
     refine' ag ?x112a
     case x112a =>
     refine' ac ?x113a ?x113b
     case x113a =>
      refine' ag ?x114a
      case x114a =>
      refine' ac ?x115a ?x115b
      case x115a => exact aa
      case x115b => exact (ac aa (ac aa (ac aN aq)))
     case x113b => exact aq
    case x111b =>
    refine' ac ?x116a ?x116b
    case x116a =>
     refine' ag ?x117a
     case x117a =>
     refine' ac ?x118a ?x118b
     case x118a =>
      refine' ag ?x119a
      case x119a =>
      refine' ac ?x120a ?x120b
      case x120a => exact aa
      case x120b => exact (ac aa (ac aa (ac aN aq)))
     case x118b => exact aq
    case x116b =>
    refine' ac ?x121a ?x121b
    case x121a =>
     refine' ag ?x122a
     case x122a =>
     refine' ac ?x123a ?x123b
     case x123a =>
      refine' ag ?x124a
      case x124a =>
      refine' ac ?x125a ?x125b
      case x125a => exact aa
      case x125b => exact (ac aa (ac aa (ac aN aq)))
     case x123b => exact aq
    case x121b => exact aq
   case x107b =>
   refine' aV ?x126a ?x126b
   case x126a =>
    refine' az (i := 1) ?x127a ?x127b ?x127c ?x127d ?y127 ?z127
    case y127 => rfl
    case z127 => exact .inr rfl
    case x127a => exact bP.nd
    case x127b => exact rfl
    case x127c => exact (Or.inl rfl)
    case x127d =>
    refine' al ?x128a ?x128b ?x128c
    case x128a => exact cc
    case x128b => exact (pv 1)
    case x128c =>
    refine' aD ?x129a
    case x129a =>
    refine' ac ?x130a ?x130b
    case x130a =>
     refine' ag ?x131a
     case x131a =>
     refine' ac ?x132a ?x132b
     case x132a =>
      refine' ag ?x133a
      case x133a =>
      refine' ac ?x134a ?x134b
      case x134a => exact aa
      case x134b => exact (ac aa (ac aa (ac aa aq)))
     case x132b => exact aq
    case x130b =>
    refine' ac ?x135a ?x135b
    case x135a =>
     refine' ag ?x136a
     case x136a =>
     refine' ac ?x137a ?x137b
     case x137a =>
      refine' ag ?x138a
      case x138a =>
      refine' ac ?x139a ?x139b
      case x139a => exact aa
      case x139b => exact (ac aa (ac aa (ac aN aq)))
     case x137b => exact aq
    case x135b =>
    refine' ac ?x140a ?x140b
    case x140a =>
     refine' al ?x141a ?x141b ?x141c
     case x141a => exact xE
     case x141b =>
      refine' ag ?x142a
      case x142a =>
      refine' ac ?x143a ?x143b
      case x143a =>
       refine' ag ?x144a
       case x144a =>
       refine' ac ?x145a ?x145b
       case x145a => exact aa
       case x145b => exact (ac aa (ac aa (ac aN aq)))
      case x143b => exact aq
     case x141c => exact au
    case x140b => exact aq
   case x126b =>
   refine' aV ?x146a ?x146b
   case x146a =>
    refine' az (i := 1) ?x147a ?x147b ?x147c ?x147d ?y147 ?z147
    case y147 => rfl
    case z147 => exact .inr rfl
    case x147a => exact bP.nd
    case x147b => exact rfl
    case x147c => exact (Or.inl rfl)
    case x147d =>
    refine' al ?x148a ?x148b ?x148c
    case x148a => exact cc
    case x148b => exact (pv 1)
    case x148c =>
    refine' aD ?x149a
    case x149a =>
    refine' ac ?x150a ?x150b
    case x150a =>
     refine' ag ?x151a
     case x151a =>
     refine' ac ?x152a ?x152b
     case x152a =>
      refine' ag ?x153a
      case x153a =>
      refine' ac ?x154a ?x154b
      case x154a => exact aa
      case x154b => exact (ac aa (ac aa (ac aN aq)))
     case x152b => exact aq
    case x150b =>
    refine' ac ?x155a ?x155b
    case x155a =>
     refine' ag ?x156a
     case x156a =>
     refine' ac ?x157a ?x157b
     case x157a =>
      refine' ag ?x158a
      case x158a =>
      refine' ac ?x159a ?x159b
      case x159a => exact aa
      case x159b => exact (ac aa (ac au (ac aN aq)))
     case x157b => exact aq
    case x155b =>
    refine' ac ?x160a ?x160b
    case x160a =>
     refine' ag ?x161a
     case x161a =>
     refine' ac ?x162a ?x162b
     case x162a =>
      refine' ag ?x163a
      case x163a =>
      refine' ac ?x164a ?x164b
      case x164a => exact aa
      case x164b => exact (ac aa (ac aa (ac aN aq)))
     case x162b => exact aq
    case x160b => exact aq
   case x146b =>
   refine' aV ?x165a ?x165b
   case x165a =>
    refine' az (i := 1) ?x166a ?x166b ?x166c ?x166d ?y166 ?z166
    case y166 => rfl
    case z166 => exact .inr rfl
    case x166a => exact bP.nd
    case x166b => exact rfl
    case x166c => exact (Or.inl rfl)
    case x166d =>
    refine' al ?x167a ?x167b ?x167c
    case x167a => exact cc
    case x167b => exact (pv 1)
    case x167c =>
    refine' aD ?x168a
    case x168a =>
    refine' ac ?x169a ?x169b
    case x169a =>
     refine' aD ?x170a
     case x170a =>
     refine' ac ?x171a ?x171b
     case x171a =>
      refine' ag ?x172a
      case x172a =>
      refine' ac ?x173a ?x173b
      case x173a => exact aa
      case x173b => exact (ac aa (ac aa (ac aN aq)))
     case x171b => exact aq
    case x169b =>
    refine' ac ?x174a ?x174b
    case x174a =>
     refine' ag ?x175a
     case x175a =>
     refine' ac ?x176a ?x176b
     case x176a =>
      refine' aD ?x177a
      case x177a =>
      refine' ac ?x178a ?x178b
      case x178a => exact aa
      case x178b => exact (ac aa (ac aa (ac aN aq)))
     case x176b => exact aq
    case x174b =>
    refine' ac ?x179a ?x179b
    case x179a =>
     refine' ag ?x180a
     case x180a =>
     refine' ac ?x181a ?x181b
     case x181a =>
      refine' ag ?x182a
      case x182a =>
      refine' ac ?x183a ?x183b
      case x183a => exact aa
      case x183b => exact (ac aa (ac aa (ac aa aq)))
     case x181b => exact aq
    case x179b => exact aq
   case x165b =>
   refine' aV ?x184a ?x184b
   case x184a =>
    refine' az (i := 1) ?x185a ?x185b ?x185c ?x185d ?y185 ?z185
    case y185 => rfl
    case z185 => exact .inr rfl
    case x185a => exact bP.nd
    case x185b => exact rfl
    case x185c => exact (Or.inl rfl)
    case x185d =>
    refine' al ?x186a ?x186b ?x186c
    case x186a => exact cc
    case x186b => exact (pv 1)
    case x186c =>
    refine' aD ?x187a
    case x187a =>
    refine' ac ?x188a ?x188b
    case x188a =>
     refine' ag ?x189a
     case x189a =>
     refine' ac ?x190a ?x190b
     case x190a =>
      refine' ag ?x191a
      case x191a =>
      refine' ac ?x192a ?x192b
      case x192a => exact (aD aq)
      case x192b => exact (ac aa (ac aa (ac aN aq)))
     case x190b => exact aq
    case x188b =>
    refine' ac ?x193a ?x193b
    case x193a =>
     refine' ag ?x194a
     case x194a =>
     refine' ac ?x195a ?x195b
     case x195a =>
      refine' ag ?x196a
      case x196a =>
      refine' ac ?x197a ?x197b
      case x197a => exact aa
      case x197b => exact (ac ki (ac aa (ac aN aq)))
     case x195b => exact aq
    case x193b =>
    refine' ac ?x198a ?x198b
    case x198a => exact (ag (ac aa (ac (ag (ac aa aq)) aq)))
    case x198b => exact aq
   case x184b =>
   refine' aV ?x199a ?x199b
   case x199a =>
    refine' az (i := 1) ?x200a ?x200b ?x200c ?x200d ?y200 ?z200
    case y200 => rfl
    case z200 => exact .inr rfl
    case x200a => exact bP.nd
    case x200b => exact rfl
    case x200c => exact (Or.inl rfl)
    case x200d =>
    refine' al ?x201a ?x201b ?x201c
    case x201a => exact cc
    case x201b => exact (pv 1)
    case x201c =>
    refine' aD ?x202a
    case x202a =>
    refine' ac ?x203a ?x203b
    case x203a => exact (ag (ac au (ac au (ac bc aq))))
    case x203b =>
    refine' ac ?x204a ?x204b
    case x204a => exact (ag (ac au (ac au (ac bc aq))))
    case x204b =>
    refine' ac ?x205a ?x205b
    case x205a => exact (ag (ac au (ac au (ac au aq))))
    case x205b =>
    refine' ac ?x206a ?x206b
    case x206a => exact (ag (ac bc (ac au (ac bc aq))))
    case x206b =>
    refine' ac ?x207a ?x207b
    case x207a => exact (ag (ac au (ac au (ac bc aq))))
    case x207b =>
    refine' ac ?x208a ?x208b
    case x208a => exact (aD (ac au (ac au (ac bc aq))))
    case x208b => exact aq
   case x199b => exact (aZ (aj (af cz (pv 1) (al aQ (pv 0) (am aw rfl T.z_len PySem.boot_len (ac (pv 1) aq))) (fun _ _ => rfl))))
  refine go _ _ (bO (τ := [.fz _, .no]) rfl ?_)
  kd_mark
  refine qy ?_
  kd_mark
  refine cC (ts := DY) (us := Dm) rfl (by dl_open) (by dl_open) (Nat.le_of_ble_eq_true rfl) ?_
  have pL := cQ (n := 11) (m := 5) ⟨rfl, CA⟩ (us := Dm) rfl BP
  generalize DY ++ Dm = L at pL ⊢
  kd_mark
  refine cC (ts := L) (us := Dx) rfl (by dl_open) (by dl_open) (by rw [pL.1]; exact Nat.le_of_ble_eq_true rfl) ?_
  have pL := cQ (m := 3) pL (us := Dx) rfl CY
  generalize L ++ Dx = L at pL ⊢
  kd_mark
  refine cC (ts := L) (us := De) rfl (by dl_open) (by dl_open) (by rw [pL.1]; exact Nat.le_of_ble_eq_true rfl) ?_
  have pL := cQ (m := 4) pL (us := De) rfl BB
  generalize L ++ De = L at pL ⊢
  kd_mark
  refine cC (ts := L) (us := Di) rfl (by dl_open) (by dl_open) (by rw [pL.1]; exact Nat.le_of_ble_eq_true rfl) ?_
  have pL := cQ (m := 2) pL (us := Di) rfl CJ
  generalize L ++ Di = L at pL ⊢
  kd_mark
  refine cC (ts := L) (us := DA) rfl (by dl_open) (by dl_open) (by rw [pL.1]; exact Nat.le_of_ble_eq_true rfl) ?_
  have pL := cQ (m := 5) pL (us := DA) rfl CP
  generalize L ++ DA = L at pL ⊢
  kd_mark
  refine cC (ts := L) (us := Dl) rfl (by dl_open) (by dl_open) (by rw [pL.1]; exact Nat.le_of_ble_eq_true rfl) ?_
  have pL := cQ (m := 3) pL (us := Dl) rfl BV
  generalize L ++ Dl = L at pL ⊢
  kd_mark
  refine wX rfl ?_
  kd_mark
  refine cC (ts := L) (us := Df) rfl (by dl_open) (by dl_open) (by rw [pL.1]; exact Nat.le_of_ble_eq_true rfl) ?_
  have pL := cQ (m := 3) pL (us := Df) rfl BF
  generalize L ++ Df = L at pL ⊢
  kd_mark
  refine cC (ts := L) (us := DE) rfl (by dl_open) (by dl_open) (by rw [pL.1]; exact Nat.le_of_ble_eq_true rfl) ?_
  have pL := cQ (m := 3) pL (us := DE) rfl BD
  generalize L ++ DE = L at pL ⊢
  kd_mark
  refine cC (ts := L) (us := Dc) rfl (by dl_open) (by dl_open) (by rw [pL.1]; exact Nat.le_of_ble_eq_true rfl) ?_
  have pL := cQ (m := 3) pL (us := Dc) rfl CM
  generalize L ++ Dc = L at pL ⊢
  kd_mark
  refine qy ?_
  kd_mark
  refine cC (ts := L) (us := wL) rfl (by dl_open) (by dl_open) (by rw [pL.1]; exact Nat.le_of_ble_eq_true rfl) ?_
  have pL := cQ (m := 3) pL (us := wL) rfl ze
  generalize L ++ wL = L at pL ⊢
  kd_mark
  refine cC (ts := L) (us := xh) rfl (by dl_open) (by dl_open) (by rw [pL.1]; exact Nat.le_of_ble_eq_true rfl) ?_
  have pL := cQ (m := 6) pL (us := xh) rfl Ai
  generalize L ++ xh = L at pL ⊢
  kd_mark
  have e0 := Int.emod_nonneg d (show (51 : Int) ≠ 0 by decide)
  have e1 := Int.emod_lt_of_pos d (show (0 : Int) < 51 by decide)
  have lL : (L.length : Int) = 51 := by rw [pL.1]; rfl
  rw [lL]
  kd_mark
  obtain ⟨t', et, mt⟩ := uV lL e0 e1
  refine bC rfl (by dl_open) et ?_
  kd_mark
  exact φ t' (pL.2 t' mt)
theorem Bz {s : TS} {τ' : TSt} {D' : ET} {k : Nat} {t : Tr} (g : Gt τ k (.own t)) (st : pI τ k (.fz t) τ') (h : SV B s τ' D') : SV B s τ D' := fun σ F H D r e => by
 obtain ⟨F2, l, e', sF, r2, _⟩ := r.fixS g.eq
 rw [st.eq] at r2
 exact h σ F2 H D r2 (e.on sF)
structure pe (ts : List Tr) : Prop where
 n : ts.length = 8
 p : ∀ t ∈ ts, cD t
 d : ∀ us, ts[0]? = some (.lst us) -> ∀ t ∈ us, Dp 9 t
noncomputable def ve : SpT := fun _ as Φ _ => ∃ ts : List Tr, as = [.fz (.tup ts)] /\ pe ts /\ Φ (.fz (.bl true))
theorem og (T : Txt K mg t) : FO P w base T.q_zay 12 (bw K ve) := by
 have G_zbl := @iB P w K mg base t T
 have G_zak := @gE P w K mg base t T
 refine T.q_zay.F.ok fA (aH (fun B as Φ Ψ h => by obtain ⟨_, rfl, _⟩ := h; rfl)) (fun cdv A outer s H vs Q E hr h => ?_)
 obtain ⟨B, as, Φ, Ψ, rfl, hS, hx, go⟩ := aA h
 obtain ⟨ts, rfl, h8, φ⟩ := hS
 obtain ⟨t0, t1, t2, t3, t4, t5, t6, t7, rfl⟩ : ∃ t0 t1 t2 t3 t4 t5 t6 t7, ts = [t0, t1, t2, t3, t4, t5, t6, t7] := by
  match ts, h8.n with
  | [t0, t1, t2, t3, t4, t5, t6, t7], _ => exact ⟨_, _, _, _, _, _, _, _, rfl⟩
 have p0 := h8.p t0 (by simp)
 refine ⟨_, (aV (az (i := 1) fA.nd rfl (Or.inl rfl) (jQ (aI (be kB rfl rfl T.z_isinstance T.z_list gu (af bn (pv 0) au (fun _ _ => rfl)))) (bB ft rfl T.z_list gu (ac (af bn (pv 0) au (fun _ _ => rfl)) aq)) aN))
 (aV (az (i := 2) fA.nd rfl (Or.inl rfl) (bF G_zbl hr T.q_zbl (ac (pv 0) aq)))
 (aV (az (i := 3) fA.nd rfl (Or.inl rfl) (jQ (ao cA (pv 2) aN (ay _)) (aD aq) (aD (ac (pv 2) aq))))
 (aZ (aj (bv (aK (tI hr.un150) (bF G_zak hr T.q_zak (ac (pv 0) aq)) (pv 3) (ay _)) (bq (jX (aK cA (pv 1) aN (ay _)) (bq (aK (tI hr.un150) (pv 1) (af bn (pv 0) au (fun _ _ => rfl)) (ay _))))))))))), go _ _ (bO (τ := [.fz _, .no, .no, .no]) rfl ?_)⟩
 refine yg ?_
 refine cZ (fun τ' => ∃ u, τ' = [.fz (.tup [t0, t1, t2, t3, t4, t5, t6, t7]), u, .no, .no] /\ (u = .fz .non ∨ ∃ us, t0 = .lst us /\ u = .own (.lst us))) ?_ ?_
 ·cases p0 with
  | @lst us hl hq =>
   kd_mark
   exact ⟨_, rfl, .inr ⟨us, rfl, rfl⟩⟩
  | _ => kd_mark; exact ⟨_, rfl, .inl rfl⟩
 rintro τ' ⟨u, rfl, hu⟩
 have hv : hU (.tup [t0, t1, t2, t3, t4, t5, t6, t7]) = (cj t0 t1 t2 t3 t4 t5 t6 t7).map some := rfl
 have pT : cD (.tup [t0, t1, t2, t3, t4, t5, t6, t7]) := .tup (show 8 <= 1000 by decide) h8.p
 have p1 := h8.p t1 (by simp)
 have p2 := h8.p t2 (by simp)
 have p3 := h8.p t3 (by simp)
 have p4 := h8.p t4 (by simp)
 have p5 := h8.p t5 (by simp)
 have p6 := h8.p t6 (by simp)
 have p7 := h8.p t7 (by simp)
 rcases hu with rfl | ⟨us, rfl, rfl⟩
 ·kd_mark
  intro _ _
  refine ⟨t0, t1, t2, t3, t4, t5, t6, t7, rfl, p0, p1, p2, p3, p4, p5, p6, p7, ?_⟩
  cases hf : cj t0 t1 t2 t3 t4 t5 t6 t7 with
  | none =>
   rw [hf] at hv
   rw [show oT none = Tr.non from rfl]
   kd_mark
   intro _ _
   refine ⟨_, rfl, pT, ?_⟩
   rw [hv]
   kd_mark
   refine fv (n := 1) rfl (jR) (by decide) (by dl_open) (by dl_open) ?_
   sl_open
  | some z =>
   rw [hf] at hv
   rw [show oT (some z) = Tr.str z from rfl]
   kd_mark
   intro _ _
   refine ⟨_, rfl, pT, ?_⟩
   rw [hv]
   kd_mark
   refine fv (n := 1) rfl (my .str jR) (by decide) (by dl_open) (by dl_open) ?_
   sl_open
 ·refine Bz (k := 1) (by kt_join) (by acc_open) ?_
  kd_mark
  intro _ _
  refine ⟨.lst us, t1, t2, t3, t4, t5, t6, t7, rfl, p0, p1, p2, p3, p4, p5, p6, p7, ?_⟩
  cases hf : cj (.lst us) t1 t2 t3 t4 t5 t6 t7 with
  | none =>
   rw [hf] at hv
   rw [show oT none = Tr.non from rfl]
   kd_mark
   intro _ _
   refine ⟨_, rfl, pT, ?_⟩
   rw [hv]
   kd_mark
   refine fv (n := 1) rfl (jR) (by decide) (by dl_open) (by dl_open) ?_
   kd_mark
   refine fv (n := 9) rfl (h8.d us rfl) (by decide) (by dl_open) (by dl_open) ?_
   sl_open
  | some z =>
   rw [hf] at hv
   rw [show oT (some z) = Tr.str z from rfl]
   kd_mark
   intro _ _
   refine ⟨_, rfl, pT, ?_⟩
   rw [hv]
   kd_mark
   refine fv (n := 1) rfl (my .str jR) (by decide) (by dl_open) (by dl_open) ?_
   kd_mark
   refine fv (n := 9) rfl (h8.d us rfl) (by decide) (by dl_open) (by dl_open) ?_
   sl_open
theorem El {D : Ends} {t : TS} {ts : List Ar} (h : eO n ts = τ) (q : BA B D t τ) : BA B D t (eO n ts) := by rw [h]; exact q
theorem dy {s : TS} {D' : ET} (i : Nat) (h : SV B s (τ.set i .no) D') : SV B s τ D' := fun σ F H D r e => h σ F H D r.forget e
theorem tN (N : Int) (h : 0 <= N) : 0 <= (if (if N < 30 then N else 30) > 1 then (if N < 30 then N else 30) else 1) /\ (if (if N < 30 then N else 30) > 1 then (if N < 30 then N else 30) else 1) <= 30 := by
 by_cases h1 : N < 30
 ·rw [if_pos h1]
  by_cases h2 : N > 1
  ·rw [if_pos h2]; omega
  ·rw [if_neg h2]; omega
 ·rw [if_neg h1, if_pos (by decide)]; omega
noncomputable def CL : List Tr := [.non, .tup [.str "sieve"], .int 5, .str "a", .tup [], .tup [.str "sieve"], .lst []]
theorem BW : ∀ t ∈ CL, PD t := cy (by decide +kernel)
theorem wG {d : Nat} (h : 0 <= i) : HT.sIx n d (some i) = min i.toNat n := by
 show (if i < 0 then _ else _) = _
 rw [if_neg (by omega)]
theorem AY : eQ (x :: ps) (some 1) none = ps := by
 show List.take ((x :: ps).length - HT.sIx (x :: ps).length 0 (some 1)) (List.drop (HT.sIx (x :: ps).length 0 (some 1)) (x :: ps)) = ps
 rw [wG (by decide), show min (Int.toNat 1) (x :: ps).length = 1 by simp]
 simp
theorem uD {S : List Tr} (lS : S.length <= 7) (hS : ∀ t ∈ S, PD t) (lp : ps.length = 7) (pp : ∀ t ∈ ps, cD t) : pe (.lst S :: ps) where
 n := by rw [List.length_cons, lp]
 p := fun t ht => by
  rcases List.mem_cons.mp ht with rfl | ht
  ·exact .lst (by omega) fun t ht => (hS t ht).1
  ·exact pp t ht
 d := fun us e t ht => by
  cases e
  exact (hS t ht).2
theorem sG {L : List Tr} {v : Tr} (h : pe L) (hv : cD v) (hd : n = 0 -> ∀ us, v = .lst us -> ∀ t ∈ us, Dp 9 t) : pe (L.set n v) where
 n := by rw [List.length_set]; exact h.n
 p := fun t ht => by
  rcases List.mem_or_eq_of_mem_set ht with ht | rfl
  ·exact h.p t ht
  ·exact hv
 d := fun us e => by
  by_cases z : n = 0
  ·subst z
   rw [List.getElem?_set_self (by rw [h.n]; decide)] at e
   cases e
   exact hd rfl us rfl
  ·rw [List.getElem?_set_ne z] at e
   exact h.d us e
theorem zN (T : Txt K mg t) : dR P w K mg base tF 13 t.f_law t.d_law ["_law_script"] (mj K) := by
  have G_zap := @oQ P w K mg base t T
  have G_zaw := @kX P w K mg base t T
  have G_zay := @og P w K mg base t T
  have G_zbm := @tz P w K mg base t T
  have G_zak := @gE P w K mg base t T
  refine T.F_law.ok eH (fun vs H Q E h => ?_) (fun cdv A outer s H vs Q E hr h => ?_)
  · obtain ⟨a, ns, rfl, _⟩ := h
    rfl
  obtain ⟨a, ns, rfl, hS, hn, _, q⟩ := h
  refine' ⟨_, ?h, ?g⟩
  case h =>
   refine' aV ?x1a ?x1b
   case x1a =>
    refine' gX ?x2a ?x2b ?x2c ?x2d ?x2e
    case x2a => exact PassesOwn.never
    case x2b => exact rfl
    case x2c => exact (cF rfl T.z_range (ac (am (sO rfl) rfl T.z_max uq (ac au (ac (am (sE rfl) rfl T.z_min uU (ac au (ac (am aw rfl T.z_len PySem.boot_len (ac (pv 0) aq)) aq))) aq))) aq))
    case x2d => exact (br (i := 1) eH.nd rfl (Or.inl rfl))
    case x2e =>
    refine' aV ?x3a ?x3b
    case x3a => exact (az (i := 2) eH.nd rfl (Or.inl rfl) (bF G_zap hr T.q_zap (ac (pv 0) (ac (pv 1) (ac au aq)))))
    case x3b =>
    refine' aV ?x4a ?x4b
    case x4a =>
     refine' az (i := 3) ?x5a ?x5b ?x5c ?x5d ?y5 ?z5
     case y5 => rfl
     case z5 => exact .inr rfl
     case x5a => exact eH.nd
     case x5b => exact rfl
     case x5c => exact (Or.inl rfl)
     case x5d =>
     refine' aT ?x6a ?x6b ?x6c ?x6d
     case x6a => exact bE
     case x6b =>
      refine' aD ?x7a
      case x7a =>
      refine' ac ?x8a ?x8b
      case x8a => exact aN
      case x8b =>
      refine' ac ?x9a ?x9b
      case x9a => exact (ag (ac aa aq))
      case x9b =>
      refine' ac ?x10a ?x10b
      case x10a => exact au
      case x10b =>
      refine' ac ?x11a ?x11b
      case x11a => exact aa
      case x11b =>
      refine' ac ?x12a ?x12b
      case x12a => exact (ag aq)
      case x12b => exact (ac (ag (ac aa aq)) (ac (aD aq) aq))
     case x6c => exact cf
     case x6d => exact (aM (al aQ (af cz (pv 2) au (fun _ _ => rfl)) au))
    case x4b =>
    refine' aV ?x13a ?x13b
    case x13a => exact (az (i := 4) eH.nd rfl (Or.inl rfl) (al rn (ag (ac (pv 3) aq)) (aT gL (bF G_zaw hr T.q_zaw (ac (pv 2) aq)) (aM au) cf)))
    case x13b =>
    refine' aV ?x14a ?x14b
    case x14a => exact (aG (aC (aI (bF G_zay hr T.q_zay (ac (pv 4) aq)))) (aZ (aj bc)) ar)
    case x14b =>
    refine' aV ?x15a ?x15b
    case x15a => exact (az (i := 5) eH.nd rfl (Or.inl rfl) (bF G_zaw hr T.q_zaw (ac (bF G_zap hr T.q_zap (ac (pv 0) (ac (al bo (pv 1) au) (ac au aq)))) aq)))
    case x15b =>
    refine' aV ?x16a ?x16b
    case x16a => exact (az (i := 6) eH.nd rfl (Or.inl rfl) (bB ft rfl T.z_list gu (ac (pv 4) aq)))
    case x16b =>
    refine' aV ?x17a ?x17b
    case x17a => exact (gX PassesOwn.never rfl (cF rfl T.z_range (ac (al bo au (al aQ (af cz (pv 2) au (fun _ _ => rfl)) au)) aq)) (br (i := 7) eH.nd rfl (Or.inl rfl)) (aV (az (i := 9) eH.nd rfl (Or.inl rfl) (al aQ (af cz (pv 2) (al bo au (pv 7)) (fun _ _ => rfl)) au)) (aZ (uC (af cz (aD (ac (bF G_zbm hr T.q_zbm (ac (af cz (pv 2) (al bo au (pv 7)) (fun _ _ => rfl)) aq)) (ac (af bn (pv 5) (pv 9) (fun _ _ => rfl)) aq))) (al bG (al aQ (af cz (pv 2) (al bo au (pv 7)) (fun _ _ => rfl)) au) au) (fun _ _ => rfl)) (zc (pv 6) (pv 9) vI)))))
    case x17b =>
    refine' aV ?x18a ?x18b
    case x18a => exact (aG (aC (aI (bF G_zay hr T.q_zay (ac (bB du rfl T.z_tuple aU (ac (pv 6) aq)) aq)))) (aZ (aj bc)) ar)
    case x18b =>
    refine' aV ?x19a ?x19b
    case x19a =>
     refine' az (i := 8) ?x20a ?x20b ?x20c ?x20d ?y20 ?z20
     case y20 => rfl
     case z20 => exact .inr rfl
     case x20a => exact eH.nd
     case x20b => exact rfl
     case x20c => exact (Or.inl rfl)
     case x20d =>
     refine' af ?x21a ?x21b ?x21c ?x21d
     case x21a => exact cz
     case x21b =>
      refine' aD ?x22a
      case x22a =>
      refine' ac ?x23a ?x23b
      case x23a => exact aN
      case x23b =>
      refine' ac ?x24a ?x24b
      case x24a => exact (bB ft rfl T.z_list gu (ac (pv 4) aq))
      case x24b =>
      refine' ac ?x25a ?x25b
      case x25a => exact (aT gL (pv 4) cf (aM au))
      case x25b =>
      refine' ac ?x26a ?x26b
      case x26a => exact (al rn (pv 4) (ag (ac aN aq)))
      case x26b =>
      refine' ac ?x27a ?x27b
      case x27a => exact (ag aq)
      case x27b => exact (ac aa (ac au (ac ki aq)))
     case x21c => exact (al aQ (af cz (pv 2) au (fun _ _ => rfl)) au)
     case x21d => exact (fun _ _ => rfl)
    case x19b => exact (aZ (aG (ao (zV hr.un150) (bF G_zak hr T.q_zak (ac (pv 8) aq)) (aD (ac aN aq)) (ay _)) (aZ (aj bc)) ar))
   case x1b => exact (aZ (aj bc))
  refine vz hS q _ _ fun D hD => ?_
  refine El (τ := [.fz (.lst (ns.map Tr.int)), .no, .no, .no, .no, .no, .no, .no, .no, .no]) rfl (zL (rt := fun _ => True) hD ?_)
  kd_mark
  obtain ⟨b0, b1⟩ := tN (((ns.map Tr.int).length : Nat) : Int) (by omega)
  generalize (if (if (((ns.map Tr.int).length : Nat) : Int) < 30 then (((ns.map Tr.int).length : Nat) : Int) else 30) > 1 then (if (((ns.map Tr.int).length : Nat) : Int) < 30 then (((ns.map Tr.int).length : Nat) : Int) else 30) else 1) = m at b0 b1 ⊢
  refine ⟨⟨by omega, by omega⟩, fun i τ => ∃ u1 u2 u3 u4 u5 u6 u7 u8 u9 : Sl, τ = [.fz (.lst (ns.map Tr.int)), u1, u2, u3, u4, u5, u6, u7, u8, u9], ⟨_, _, _, _, _, _, _, _, _, rfl⟩, ?_, ?_⟩
  rotate_left
  · rintro τ ⟨u1, u2, u3, u4, u5, u6, u7, u8, u9, rfl⟩
    kd_mark
    rfl
  rintro i tt τ hi ⟨u1, u2, u3, u4, u5, u6, u7, u8, u9, rfl⟩
  obtain ⟨hin, rfl⟩ := dk hi
  refine xw (by acc_open) ?_
  refine dy 2 (dy 3 (dy 4 (dy 5 (dy 6 (dy 7 (dy 8 (dy 9 ?_)))))))
  show SV _ _ [.fz (.lst (ns.map Tr.int)), .fz (.int (0 + (i : Nat))), .no, .no, .no, .no, .no, .no, .no, .no] _
  kd_mark
  intro _ _
  refine ⟨ns, 0 + (i : Nat), 80, rfl, by omega, by decide, fun ds hD => ?_⟩
  have hl := hD.1
  kd_mark
  have lc : (eQ CL none (some (dg ds 70 % 8))).length <= 7 := Nat.le_trans (wq ..) (show 7 <= 7 by decide)
  have pc : ∀ t ∈ eQ CL none (some (dg ds 70 % 8)), PD t := fun t ht => BW t (xk ht)
  rw [show [Tr.non, .tup [.str "sieve"], .int 5, .str "a", .tup [], .tup [.str "sieve"], .lst []] = CL from rfl]
  generalize eQ CL none (some (dg ds 70 % 8)) = S at lc pc ⊢
  intro _ _
  refine ⟨ds, rfl, hD, fun ps lp pp => ?_⟩
  kd_mark
  refine qh rfl Rk.fz (fun h => absurd h.1 (by rw [List.length_cons, lp]; decide)) ?_
  rw [AY]
  kd_mark
  refine rG rfl Rk.fz Rk.fz (by rw [lp]; exact Nat.le_of_ble_eq_true rfl) ?_
  rw [show [Tr.lst S] ++ ps = .lst S :: ps from rfl]
  have h8 := uD lc pc lp pp
  generalize Tr.lst S :: ps = T8 at h8 ⊢
  kd_mark
  intro _ _
  refine ⟨T8, rfl, h8, ?_⟩
  kd_mark
  intro _ _
  refine ⟨ns, 0 + (i : Nat) + 1, 80, rfl, by omega, by decide, fun d2 hD2 => ?_⟩
  kd_mark
  intro _ _
  refine ⟨d2, rfl, hD2, fun qs lq pq => ?_⟩
  kd_mark
  have r0 := Int.emod_nonneg (dg ds 71) (show (2 : Int) ≠ 0 by decide)
  have r1 := Int.emod_lt_of_pos (dg ds 71) (show (0 : Int) < 2 by decide)
  have nq : (Tr.lst [] :: qs).length = 8 := by rw [List.length_cons, lq]
  refine ⟨⟨by omega, by omega⟩, fun j τ => ∃ (L : List Tr) (u7 u8 u9 : Sl), τ = [.fz (.lst (ns.map Tr.int)), .fz (.int (0 + (i : Nat))), .fz (.lst (ds.map Tr.int)), .fz (.lst S), .fz (.tup T8), .fz (.tup (Tr.lst [] :: qs)), .own (.lst L), u7, u8, u9] /\ pe L, ⟨T8, _, _, _, rfl, h8⟩, ?_, ?_⟩
  · rintro j tt τ hj ⟨L, u7, u8, u9, rfl, h9⟩
    obtain ⟨hjn, rfl⟩ := dk hj
    have j2 : j < 2 := by omega
    refine xw (by acc_open) ?_
    kd_mark
    have a0 := Int.emod_nonneg (dg ds (72 + (0 + (j : Nat)))) (show (8 : Int) ≠ 0 by decide)
    have a1 := Int.emod_lt_of_pos (dg ds (72 + (0 + (j : Nat)))) (show (0 : Int) < 8 by decide)
    obtain ⟨at', ea⟩ := Int.eq_ofNat_of_zero_le a0
    rw [ea] at a0 a1 ⊢
    have b74 := (hD.b (k := 74 + (0 + (j : Nat))) (by omega) (by omega)).1
    kd_mark
    intro _ _
    refine ⟨_, rfl, b74, fun o po => ?_⟩
    kd_mark
    have hat : at' < (Tr.lst [] :: qs).length := by omega
    obtain ⟨bt, eb, pb, db⟩ : ∃ bt, (Tr.lst [] :: qs)[at']? = some bt /\ cD bt /\ (at' = 0 -> bt = .lst []) := by
      cases at' with
      | zero => exact ⟨_, rfl, .lst (show 0 <= 1000 by decide) (fun _ h => absurd h List.not_mem_nil), fun _ => rfl⟩
      | succ k =>
        have hk : k < qs.length := by rw [List.length_cons] at hat; omega
        exact ⟨qs[k], List.getElem?_eq_getElem hk, pq _ (List.getElem_mem hk), fun z => absurd z (Nat.succ_ne_zero k)⟩
    refine dF rfl Rk.fz (bp eb) ?_
    kd_mark
    have m0 := Int.emod_nonneg (dg ds (76 + (0 + (j : Nat)))) (show (4 : Int) ≠ 0 by decide)
    have m1 := Int.emod_lt_of_pos (dg ds (76 + (0 + (j : Nat)))) (show (0 : Int) < 4 by decide)
    obtain ⟨v, ev, hv⟩ : ∃ v, eI [o, bt] (dg ds (76 + (0 + (j : Nat))) % 4 / 3) = some v /\ (v = o ∨ v = bt) := by
      rcases (by omega : dg ds (76 + (0 + (j : Nat))) % 4 / 3 = 0 ∨ dg ds (76 + (0 + (j : Nat))) % 4 / 3 = 1) with e | e <;> rw [e]
      · exact ⟨o, rfl, .inl rfl⟩
      · exact ⟨bt, rfl, .inr rfl⟩
    refine bC rfl Rk.fz ev ?_
    refine BX (by kt_join) ?_
    kd_mark
    refine ⟨at', L, _, rfl, by kt_join, by rw [h9.n]; omega, by acc_open, ?_⟩
    refine ⟨L.set at' v, _, _, _, rfl, sG h9 ?_ ?_⟩
    · rcases hv with rfl | rfl
      · exact po.1
      · exact pb
    · intro z us e t ht
      rcases hv with rfl | rfl
      · have d9 := po.2
        rw [e] at d9
        cases d9 with
        | lst h => exact (h t ht).up (by decide)
      · rw [db z] at e
        cases e
        exact absurd ht List.not_mem_nil
  rintro τ ⟨L, u7, u8, u9, rfl, h9⟩
  kd_mark
  intro _ _
  refine ⟨L, rfl, h9, ?_⟩
  kd_mark
  have e7 : eQ T8 none (some 7) = T8.take 7 := rj 7 rfl
  refine qh rfl Rk.fz (fun h => absurd h.2 (by rw [h8.n]; decide)) ?_
  rw [e7]
  kd_mark
  refine rG rfl Rk.fz Rk.fz (by rw [h8.n]; exact Nat.le_of_ble_eq_true rfl) ?_
  kd_mark
  refine qy ?_
  kd_mark
  have b78 := (hD.b (k := 78) (by decide) (by decide)).1
  have c0 := Int.emod_nonneg (dg ds 78) (show (8 : Int) ≠ 0 by decide)
  have c1 := Int.emod_lt_of_pos (dg ds 78) (show (0 : Int) < 8 by decide)
  obtain ⟨x, ex, mx⟩ := uV (ts := [Tr.non, .lst T8, .tup (T8.take 7), .tup (T8 ++ [.non]), .tup [], .str "telling", .int 8, .dct []]) (n := 8) rfl c0 c1
  refine bC rfl Rk.fz ex ?_
  have hx2 : cD x /\ hU x = some none := by
    simp only [List.mem_cons, List.not_mem_nil, or_false] at mx
    rcases mx with rfl | rfl | rfl | rfl | rfl | rfl | rfl | rfl
    · exact ⟨.non, rfl⟩
    · exact ⟨.lst (by rw [h8.n]; decide) h8.p, rfl⟩
    · exact ⟨.tup (by rw [List.length_take, h8.n]; decide) fun t ht => h8.p t (List.mem_of_mem_take ht), jC (by rw [List.length_take, h8.n]; decide)⟩
    · refine ⟨.tup (by rw [List.length_append, h8.n]; decide) fun t ht => ?_, jC (by rw [List.length_append, h8.n]; decide)⟩
      rcases List.mem_append.mp ht with ht | ht
      · exact h8.p t ht
      · rw [List.mem_singleton.mp ht]; exact .non
    · exact ⟨.tup (show 0 <= 1000 by decide) (fun _ h => absurd h List.not_mem_nil), rfl⟩
    · exact ⟨.str (by decide), rfl⟩
    · exact ⟨.int, rfl⟩
    · exact ⟨.dct, rfl⟩
  kd_mark
  intro _ _
  refine ⟨x, rfl, hx2.1, ?_⟩
  rw [hx2.2]
  kd_mark
  refine fv (b := false) (ts := [.non]) (n := 1) rfl (my .non jR) (by decide) (by dl_open) (by dl_open) ?_
  kd_mark
  exact ⟨_, _, _, _, _, _, _, _, _, rfl⟩
end
theorem walk {l : PySem.W.OpenLaw} {q : Program} {loose : List Str} {XP : (Str -> Option Value) -> Heap -> Prop} {YP : World -> Heap -> Prop} {d : DefRec} {K : Params -> Fg} (hn : l.most = some 63) (hdf : d.params.defaults = [])
  (hY : ∀ (w : World) (h : Heap), YP w h -> (K w.params).In h)
  (F : ∀ (w : World) (mg : Str -> Option Value) (fa : Addr) (h : Heap), (K w.params).In h -> h.Ns mainGlobals mg -> mg d.name = some (.ref fa) ->
   ∃ fd : FuncData, (∀ (s : Shared) (u : Value), BindsTo s fd ⟨[u], []⟩ [("_law_script", u)]) /\ ∀ base : Heap, (K w.params).In base -> base.Ns mainGlobals mg -> dR l.prog w (K w.params) mg base tF 13 fa fd ["_law_script"] (mj (K w.params))) :
  PySem.W.WalkO q loose XP YP l.row.toRowW d [] (fun f vs => PySem.call f vs) :=
 L2.walk_ofB (n := 63) (k := 13) (x := "_law_script") (CX := fun _ => tF) (sp := fun w => mj (K w.params)) hn (by decide) hdf ⟨rfl, by decide, by decide⟩ hY F (fun _ _ a ns hl hbt _ hS => ⟨a, ns, rfl, hS, hl, hbt, fun _ => rfl⟩) fun _ _ _ _ _ z => z
end MyLaw
open PySem PySem.W PyProof.Rows
set_option maxRecDepth 100000 in
set_option maxHeartbeats 0 in
theorem PySem.Challenge.cw_markscale_k32_what_is_a_telling_holds : PySem.Challenge.rw_markscale_k32_what_is_a_telling.Holds := by
 refine MyLaw.hdZ.2 ?_
 delta MyLaw.hdZ
 dsimp only
 k_fill
 refine MyLaw.walk (l := PySem.Challenge.rw_markscale_k32_what_is_a_telling) rfl rfl (fun w h Y => PySem.W.kIn_of Y) ?F
 case F =>
  intro w mg fa h KX G hmg
  obtain ⟨t, T, rfl, hb⟩ := MyLaw.hdY w mg fa h KX G hmg
  exact ⟨t.d_law, hb, fun base _ _ => MyLaw.zN T⟩
